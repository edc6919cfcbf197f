import PyProof.Rows.All
import Wide.All
import OpenK.AllK
import Wide.FinOn
import HandS.Base
import HandS.Call
import HandS.List
import HandS.Comp
import HandS.Ends
import HandS.Words
import HandS.ForMost
import HandS.IsInst
import HandS.Style
import HandS.TupAny
import PyProof.FactsAll.dict
import PyProof.StrOps2
import PyProof.Rows.IntBool
import PyProof.Rows.RuleB_bool
import HandS.More
import PySem.Challenge.RW_reachkept_k11_kinds_of_any_value
set_option Elab.async false
set_option linter.all false
set_option maxRecDepth 99999
set_option maxHeartbeats 3999999
/-! Calls of defs where it is known that no repr is under way (so that repr of data may be told). -/
namespace DL
open PySem PySem.Spec PyProof.Rows L2
/-- a def's promise, kept wherever no repr is under way -/
structure FnG (P : Program) (w : World) (K : PySem.W.Frag) (mg : Str → Option Value)
    (base : Heap) (C : CXT) (k : Nat) (f : Addr) (fd : FuncData) (ps : List Str) (sp : Sp) : Prop where
  arity : ∀ vs H Q E, sp vs H Q E → vs.length = ps.length
  go : ∀ (B : Around) (up : List Env) (z : Shared) (H : Hp) (as : Args) (us : List Value)
    (vs : List V) (Q : VK) (E : XK), B.guards = some [] → Room k B → Env0 P w K mg base B up z H →
    BindsTo z fd as (ps.zip us) → Vals vs us → sp vs H Q E →
    codeAny (model P w) B (.call (.ref f) as) (CR C up P w H z Q E) z
section
variable {P : Program} {w : World} {K : PySem.W.Frag} {mg : Str → Option Value} {base : Heap}
  {C : CXT} {j k : Nat} {f : Addr} {fd : FuncData} {ps : List Str} {sp sp' : Sp}
theorem FnG.plain (F : FnOk P w K mg base C k f fd ps sp) : FnG P w K mg base C k f fd ps sp :=
  ⟨F.len, fun B up z H as us vs Q E _ hr => F.run B up z H as us vs Q E hr⟩
theorem FnG.up (F : FnG P w K mg base C j f fd ps sp) (h : j ≤ k) : FnG P w K mg base C k f fd ps sp :=
  ⟨F.arity, fun B up z H as us vs Q E hg hr => F.go B up z H as us vs Q E hg (hr.mono h)⟩
theorem FnG.less (F : FnG P w K mg base C k f fd ps sp)
    (h : ∀ vs H Q E, sp' vs H Q E → sp vs H Q E) : FnG P w K mg base C k f fd ps sp' :=
  ⟨fun vs H Q E q => F.arity vs H Q E (h _ _ _ _ q),
   fun B up z H as us vs Q E hg hr e0 hb r hs => F.go B up z H as us vs Q E hg hr e0 hb r (h _ _ _ _ hs)⟩
end
section
variable {X : Cx} {CC : CXT} {k : Nat} {f C : Addr} {fd : FuncData} {ps : List Str} {sp : Sp}
  {dvs : List V} {ds : List Value} {E : XK} {x m : Str} {p pos apos : Pos} {e o : Expr}
  {es : List Expr} {ta : TE} {t : TA}
/-- the callee's run at a call -/
theorem callee_g {pins : List (Addr × Obj)} {σ : L2.St} {H : Hp} {z : Shared} {Q : VK} {us : List Value} {vs : List V}
    (F : FnG X.prog X.w X.K X.mg X.base CC k f fd ps sp) (gd : X.A.guards = some []) (room : Room k X.A)
    (bind : Binds X.K fd ps ds) (dft : Vals dvs ds) (px : Passes CC X E)
    (J : Inv X pins σ H z) (rv : Vals vs us) (hs : sp (vs ++ dvs) H Q E) :
    wpAny (model X.prog X.w) X.A (call (.ref f) us) (EP X pins σ Q) X.xe z := by
  have rv2 : Vals (vs ++ dvs) (us ++ ds) := rv.append dft
  have ln : (us ++ ds).length = ps.length := by
    rw [← rv2.length]
    exact F.arity _ _ _ _ hs
  have main := F.go X.A X.stack z H ⟨us, []⟩ (us ++ ds) (vs ++ dvs) Q E gd room J.env0 (bind z us J.kIn ln) rv2 hs
  refine wpAny_call (codeAny_mono main fun res z' got => ?_)
  match res, got with
  | .error er, got => exact px pins σ H z er z' J got
  | .ok (.ret u), got => exact J.after got
  | .ok .next, got => exact got.elim
  | .ok .brk, got => exact got.elim
  | .ok .cont, got => exact got.elim
theorem pe_callG (F : FnG X.prog X.w X.K X.mg X.base CC k f fd ps sp) (gd : X.A.guards = some []) (room : Room k X.A)
    (gl : Gl X x) (at_ : X.mg x = some (.ref f)) (kp : PySem.W.keepIn X.K (.ref f) = true)
    (bind : Binds X.K fd ps ds) (dft : Vals dvs ds) (px : Passes CC X E) (pa : PA X (e :: es) t)
    (nd : (x == ("__debug__" : Str)) = false := by decide)
    (hst : starEach (e :: es) X.env = (false, eval e X.env) :: starEach es X.env := by rfl)
    (hnn : (backTo pos (starEach es X.env)).any (·.1) = false := by rfl) :
    PE X (.Call (.Name x p) (e :: es) [] pos) (tCall sp dvs E t) := by
  constructor
  intro pins z σ H Q J want
  apply wpAny_Call_Name_kw
  refine ld_glob J gl at_ ?_ nd
  refine PySem.W.callWith_K (h₀ := X.base) J.ok.mod.kin kp (thn (pa.run pos pins z σ H _ J want) ?_) hst hnn
  rintro us z1 ⟨vs, H1, J1, rv, q⟩
  exact ⟨J1.kIn, callee_g F gd room bind dft px J1 rv q⟩
theorem pe_callG0 (F : FnG X.prog X.w X.K X.mg X.base CC k f fd ps sp) (gd : X.A.guards = some []) (room : Room k X.A)
    (gl : Gl X x) (at_ : X.mg x = some (.ref f)) (kp : PySem.W.keepIn X.K (.ref f) = true)
    (bind : Binds X.K fd ps ds) (dft : Vals dvs ds) (px : Passes CC X E)
    (nd : (x == ("__debug__" : Str)) = false := by decide) :
    PE X (.Call (.Name x p) [] [] pos) (tCall sp dvs E tNil) := by
  constructor
  intro pins z σ H Q J want
  apply wpAny_Call_Name_kw
  refine ld_glob J gl at_ ?_ nd
  exact PySem.W.callWith_K0 J.kIn kp (callee_g (us := []) F gd room bind dft px J .nil want)
/-- a def of the text by its body -/
theorem fn_ofG {P : Program} {w : World} {K : PySem.W.Frag} {mg : Str → Option Value} {base : Heap} {N : List Str}
    {name qual : Str} {st : Stmt} (F : Fun K name qual st f fd) (S : FnScope N ps (defScope st))
    (arity : ∀ vs H Q E, sp vs H Q E → vs.length = ps.length)
    (body : ∀ (cdv : Value) (B : Around) (up : List Env) (z : Shared) (H : Hp) (vs : List V) (Q : VK) (E : XK),
      (B.deeper (envOfC qual (defScope st) z.heap.objs.size f cdv)).guards = some [] →
      Room k (B.deeper (envOfC qual (defScope st) z.heap.objs.size f cdv)) → sp vs H Q E →
      ∃ t, PSs (cxOf CC P w K mg base N qual (defScope st) f cdv B up z H E) (defBody st) t ∧
        t { nx := fun _ H' => Q .non H', rt := Q } (start N vs) H) :
    FnG P w K mg base CC (k + 1) f fd ps sp := by
  obtain ⟨oc, od, kV, doc, pm, an, cdv, ct, osl, rfl, lk, hcd⟩ := F.ex
  refine ⟨arity, fun B up z H as us vs Q E hg hr e0 hb r hs => ?_⟩
  -- the same def, its promise said of this call alone
  have one : FnOk P w K mg base CC (k + 1) f (PySem.W.fnOf name qual (defArgs st) (defBody st) (defScope st) .none kV doc pm an cdv ct) ps
      (fun vs' H' Q' E' => False) := ⟨fun _ _ _ _ h => h.elim, fun _ _ _ _ _ _ _ _ _ _ _ _ _ h => h.elim⟩
  clear one
  have ln := arity _ _ _ _ hs
  have kin : K.In z.heap := e0.mod.kin.keeps fun b o e => (e0.bs b o e).1
  have lim : z.heap.NoLimit := e0.mod.nolimit.keeps fun b o e => (e0.bs b o e).1
  have kinds : ∀ y ∈ ps.zip us, (defScope st).names.lookup y.1 = some .local ∨
      ((defScope st).names.lookup y.1 = some .cell ∧ ((cellsFrom (z.heap.objs.size + 1) (defScope st).names []).lookup y.1).isSome = true) := by
    rintro ⟨n, v⟩ hy
    rcases S.par n (List.of_mem_zip hy).1 with q | q
    · exact Or.inl q
    · exact Or.inr ⟨q, PySem.W.cellsFrom_some _ _ _ (Or.inl q)⟩
  refine codeAny_call_function hr.depth (kin _ _ lk) rfl S.co S.gen rfl (PySem.W.codeRec_of kin hcd) (hb _ _ _ _ ?_)
  refine wpAny_newFunctionEnv_cells S.kind kinds fun env he z1 ic => ?_
  subst he
  refine ⟨lim.keeps ic.toInCall.keep, codeAny_func ?_⟩
  obtain ⟨t, run, want⟩ := body cdv B up z H vs Q E hg (hr.deeper _) hs
  have J : Inv (cxOf CC P w K mg base N qual (defScope st) f cdv B up z H E) [] (start N vs) H z1 := inv_start S hr.hd e0 ln r ic
  have fin : ∀ {σ' : L2.St} {H' : Hp} {v : V} {u : Value} {z' : Shared},
      Inv (cxOf CC P w K mg base N qual (defScope st) f cdv B up z H E) [] σ' H' z' → RelV v u → Q v H' → CE up P w H z Q u z' :=
    fun {_ H' v _ _} J' rv q => ⟨v, H', J'.os, J'.bare, J'.base, J'.hok, rv, q⟩
  refine wpAny_mono (run.run [] z1 (start N vs) H _ J want) (fun fl z' got => ?_) fun _ _ got => got
  match fl, got with
  | .ret _, ⟨_, _, _, J', rv, q⟩ => exact fin J' rv q
  | .next, ⟨_, _, J', q⟩ => exact fin (v := V.non) (u := Value.none) J' rfl q
  | .brk, ⟨_, _, _, q⟩ => exact q.elim
  | .cont, ⟨_, _, _, q⟩ => exact q.elim
end
end DL
/-! Data trees over the abstract heap, and readings that speak of trees alone. -/
namespace DL
open PySem PySem.Spec PyProof.Rows L2
/-- what a value is worth as a tree; `bag` is the bag of draws, `obj C` some instance of the class at C -/
inductive D where
  | non | bl (b : Bool) | int (i : Int) | str (x : Str)
  | lst (xs : List D) | tup (xs : List D) | dct (kvs : List (Key × D))
  | bag | obj (C : Addr)
abbrev Rg := Addr → HO → Prop
/-- a tuple of the written part -/
def KTup (K : PySem.W.Frag) (a : Addr) (xs : List V) : Prop :=
  ∃ (o : Obj) (its : Array Value) (n : Nat), K.lookup a = some o ∧ o.cls = .type "tuple" ∧
    o.data = .seq its n ∧ its.size ≤ sizeLine ∧ Vals xs its.toList
theorem KTup.sq {K : PySem.W.Frag} {H : Hp} {a : Addr} {xs : List V} (h : KTup K a xs) : SqT K H a xs := Or.inr h
mutual
def At (K : PySem.W.Frag) (b : Addr) (R : Rg) : D → V → Prop
  | .non, v => v = V.non
  | .bl c, v => v = V.bl c
  | .int i, v => v = V.int i
  | .str x, v => v = V.str x
  | .lst ds, v => ∃ a xs, v = V.ref a ∧ R a (.lst xs) ∧ AtAll K b R ds xs
  | .tup ds, v => ∃ a xs, v = V.ref a ∧ (R a (.tup xs) ∨ KTup K a xs) ∧ AtAll K b R ds xs
  | .dct kvs, v => ∃ a ks, v = V.ref a ∧ R a (.dK ks) ∧ AtKv K b R kvs ks
  | .bag, v => v = V.ref b
  | .obj C, v => ∃ a dx fs, v = V.ref a ∧ R a (.ins C dx fs)
def AtAll (K : PySem.W.Frag) (b : Addr) (R : Rg) : List D → List V → Prop
  | [], vs => vs = []
  | d :: ds, vs => ∃ x xs, vs = x :: xs ∧ At K b R d x ∧ AtAll K b R ds xs
def AtKv (K : PySem.W.Frag) (b : Addr) (R : Rg) : List (Key × D) → List (Key × V) → Prop
  | [], vs => vs = []
  | (k, d) :: ds, vs => ∃ x xs, vs = (k, x) :: xs ∧ At K b R d x ∧ AtKv K b R ds xs
end
section
variable {K : PySem.W.Frag} {b : Addr} {R R' : Rg}
mutual
theorem At.mono (h : ∀ a o, R a o → R' a o) : ∀ (d : D) (v : V), At K b R d v → At K b R' d v
  | .non, _, e => e
  | .bl _, _, e => e
  | .int _, _, e => e
  | .str _, _, e => e
  | .lst ds, _, ⟨a, xs, e, r, q⟩ => ⟨a, xs, e, h _ _ r, AtAll.mono h ds xs q⟩
  | .tup ds, _, ⟨a, xs, e, r, q⟩ => ⟨a, xs, e, r.elim (fun r => Or.inl (h _ _ r)) Or.inr, AtAll.mono h ds xs q⟩
  | .dct ds, _, ⟨a, xs, e, r, q⟩ => ⟨a, xs, e, h _ _ r, AtKv.mono h ds xs q⟩
  | .bag, _, e => e
  | .obj _, _, ⟨a, dx, fs, e, r⟩ => ⟨a, dx, fs, e, h _ _ r⟩
theorem AtAll.mono (h : ∀ a o, R a o → R' a o) : ∀ (ds : List D) (vs : List V), AtAll K b R ds vs → AtAll K b R' ds vs
  | [], _, e => e
  | d :: ds, _, ⟨x, xs, e, q, r⟩ => ⟨x, xs, e, At.mono h d x q, AtAll.mono h ds xs r⟩
theorem AtKv.mono (h : ∀ a o, R a o → R' a o) : ∀ (ds : List (Key × D)) (vs : List (Key × V)), AtKv K b R ds vs → AtKv K b R' ds vs
  | [], _, e => e
  | (k, d) :: ds, _, ⟨x, xs, e, q, r⟩ => ⟨x, xs, e, At.mono h d x q, AtKv.mono h ds xs r⟩
end
theorem AtAll.len : ∀ {ds : List D} {vs : List V}, AtAll K b R ds vs → vs.length = ds.length
  | [], _, e => by subst e; rfl
  | d :: ds, _, ⟨x, xs, e, _, r⟩ => by subst e; simp [AtAll.len r]
theorem AtAll.get : ∀ {ds : List D} {vs : List V} {i : Nat} {d : D}, AtAll K b R ds vs → ds[i]? = some d → ∃ v, vs[i]? = some v ∧ At K b R d v
  | [], _, _, _, _, e => by simp at e
  | d :: ds, _, 0, _, ⟨x, xs, e, q, r⟩, g => by
    subst e
    simp at g
    subst g
    exact ⟨x, rfl, q⟩
  | d :: ds, _, i + 1, _, ⟨x, xs, e, q, r⟩, g => by
    subst e
    obtain ⟨v, h1, h2⟩ := AtAll.get (i := i) r (by simpa using g)
    exact ⟨v, by simpa using h1, h2⟩
theorem AtAll.back : ∀ {ds : List D} {vs : List V} {i : Nat} {v : V}, AtAll K b R ds vs → vs[i]? = some v → ∃ d, ds[i]? = some d ∧ At K b R d v
  | [], _, _, _, e, g => by subst e; simp at g
  | d :: ds, _, 0, _, ⟨x, xs, e, q, r⟩, g => by
    subst e
    simp at g
    subst g
    exact ⟨d, rfl, q⟩
  | d :: ds, _, i + 1, _, ⟨x, xs, e, q, r⟩, g => by
    subst e
    obtain ⟨v, h1, h2⟩ := AtAll.back (i := i) r (by simpa using g)
    exact ⟨v, by simpa using h1, h2⟩
theorem AtAll.app : ∀ {ds es : List D} {vs ws : List V}, AtAll K b R ds vs → AtAll K b R es ws → AtAll K b R (ds ++ es) (vs ++ ws)
  | [], _, _, _, e, h => by subst e; exact h
  | d :: ds, _, _, _, ⟨x, xs, e, q, r⟩, h => by
    subst e
    exact ⟨x, _, rfl, q, AtAll.app r h⟩
theorem AtAll.one {d : D} {v : V} (h : At K b R d v) : AtAll K b R [d] [v] := ⟨v, [], rfl, h, rfl⟩
theorem AtAll.take : ∀ {ds : List D} {vs : List V} (n : Nat), AtAll K b R ds vs → AtAll K b R (ds.take n) (vs.take n)
  | _, _, 0, _ => by simp [AtAll]
  | [], _, n + 1, e => by subst e; simp [AtAll]
  | d :: ds, _, n + 1, ⟨x, xs, e, q, r⟩ => by
    subst e
    exact ⟨x, _, rfl, q, AtAll.take n r⟩
theorem AtAll.drop : ∀ {ds : List D} {vs : List V} (n : Nat), AtAll K b R ds vs → AtAll K b R (ds.drop n) (vs.drop n)
  | _, _, 0, h => h
  | [], _, n + 1, e => by subst e; simp [AtAll]
  | d :: ds, _, n + 1, ⟨x, xs, e, q, r⟩ => by
    subst e
    exact AtAll.drop n r
theorem AtAll.set : ∀ {ds : List D} {vs : List V} {d : D} {v : V} (i : Nat), AtAll K b R ds vs → At K b R d v → AtAll K b R (ds.set i d) (vs.set i v)
  | [], _, _, _, _, e, _ => by subst e; simp [AtAll]
  | d :: ds, _, _, _, 0, ⟨x, xs, e, q, r⟩, h => by
    subst e
    exact ⟨_, _, rfl, h, r⟩
  | d :: ds, _, _, _, i + 1, ⟨x, xs, e, q, r⟩, h => by
    subst e
    exact ⟨_, _, rfl, q, AtAll.set i r h⟩
end
/-! ### the state of a body, in trees -/
/-- what a slot holds: a tree, or a list that it alone holds and may change -/
inductive Sl where
  | dat (d : D) | own (ds : List D)
abbrev DSt := List (Option Sl)
structure Am where
  b : Addr
  l : Addr
  Z : Addr → Prop
  H0 : Hp
def OwnAt (σ : L2.St) (δ : DSt) (a : Addr) : Prop := ∃ (i : Nat) (ds : List D), δ[i]? = some (some (.own ds)) ∧ σ[i]? = some (some (.ref a))
/-- what may be read of the heap as trees: all but what stands aside and what slots alone hold -/
def RZ (Z : Addr → Prop) (H : Hp) : Rg := fun a o => H a = some o ∧ ¬ Z a
def Ro (M : Am) (σ : L2.St) (δ : DSt) (H : Hp) : Rg := fun a o => H a = some o ∧ ¬ M.Z a ∧ ¬ OwnAt σ δ a
/-- the bag of draws stands at b, its cells at l -/
def Bag (b l : Addr) (H : Hp) : Prop :=
  ∃ (x y z : Int) (cs : List Int), H b = some (.lst [.int x, .int y, .int z, .ref l]) ∧ H l = some (.lst (cs.map V.int)) ∧ cs.length ≤ 1000
structure DI (K : PySem.W.Frag) (M : Am) (σ : L2.St) (H : Hp) (δ : DSt) : Prop where
  len : σ.length = δ.length
  bag : Bag M.b M.l H
  zb : M.Z M.b
  zl : M.Z M.l
  lb : M.l ≠ M.b
  zin : ∀ a, M.Z a → H a ≠ none
  keep : ∀ a o, a ≠ M.b → M.H0 a = some o → H a = some o
  dat : ∀ (i : Nat) (d : D), δ[i]? = some (some (.dat d)) → ∃ v, σ[i]? = some (some v) ∧ At K M.b (Ro M σ δ H) d v
  own : ∀ (i : Nat) (ds : List D), δ[i]? = some (some (.own ds)) → ∃ a xs, σ[i]? = some (some (.ref a)) ∧ H a = some (.lst xs) ∧ ¬ M.Z a ∧
    M.H0 a = none ∧ AtAll K M.b (Ro M σ δ H) ds xs
  apart : ∀ (i j : Nat) (a : Addr) (ds es : List D), δ[i]? = some (some (.own ds)) → δ[j]? = some (some (.own es)) → σ[i]? = some (some (.ref a)) →
    σ[j]? = some (some (.ref a)) → i = j
abbrev DTE := DSt → (D → DSt → Prop) → Prop
abbrev DTT := DSt → (Bool → DSt → Prop) → Prop
abbrev DTA := DSt → (List D → DSt → Prop) → Prop
structure DEnds where
  nx : DSt → Prop
  rt : D → Prop
  bk : DSt → Prop := fun _ => False
  ct : DSt → Prop := fun _ => False
abbrev DTS := DEnds → DSt → Prop
def Wi (R R' : Rg) : Prop := ∀ a o, R a o → R' a o
theorem Wi.refl (R : Rg) : Wi R R := fun _ _ h => h
theorem Wi.trans {A B C : Rg} (h : Wi A B) (k : Wi B C) : Wi A C := fun a o r => k a o (h a o r)
/-- a reading in trees, as a reading over the abstract heap -/
def rd (K : PySem.W.Frag) (t : DTE) : TE := fun σ H Q => ∃ M δ QD, DI K M σ H δ ∧ t δ QD ∧
  ∀ v H' d δ', DI K M σ H' δ' → Wi (Ro M σ δ H) (Ro M σ δ' H') → At K M.b (Ro M σ δ' H') d v → QD d δ' → Q v H'
def rdT (K : PySem.W.Frag) (t : DTT) : TT := fun σ H Q => ∃ M δ QD, DI K M σ H δ ∧ t δ QD ∧
  ∀ c H' δ', DI K M σ H' δ' → Wi (Ro M σ δ H) (Ro M σ δ' H') → QD c δ' → Q c H'
def rdA (K : PySem.W.Frag) (t : DTA) : TA := fun σ H Q => ∃ M δ QD, DI K M σ H δ ∧ t δ QD ∧
  ∀ vs H' ds δ', DI K M σ H' δ' → Wi (Ro M σ δ H) (Ro M σ δ' H') → AtAll K M.b (Ro M σ δ' H') ds vs → QD ds δ' → Q vs H'
/-- what a block's ends come to -/
structure EndOk (K : PySem.W.Frag) (M : Am) (R0 : Rg) (F : DEnds) (E : Ends) : Prop where
  nx : ∀ σ H δ, DI K M σ H δ → Wi R0 (Ro M σ δ H) → F.nx δ → E.nx σ H
  bk : ∀ σ H δ, DI K M σ H δ → Wi R0 (Ro M σ δ H) → F.bk δ → E.bk σ H
  ct : ∀ σ H δ, DI K M σ H δ → Wi R0 (Ro M σ δ H) → F.ct δ → E.ct σ H
  rt : ∀ v H d, Bag M.b M.l H → (∀ a o, a ≠ M.b → M.H0 a = some o → H a = some o) → Wi R0 (RZ M.Z H) → At K M.b (RZ M.Z H) d v → F.rt d → E.rt v H
def rdS (K : PySem.W.Frag) (t : DTS) : TS := fun E σ H => ∃ M δ F, DI K M σ H δ ∧ t F δ ∧ EndOk K M (Ro M σ δ H) F E
section
variable {X : Cx} {e : Expr} {es : List Expr} {st : Stmt} {ss : List Stmt} {K : PySem.W.Frag}
theorem PE.to {t t' : TE} (h : PE X e t) (k : ∀ σ H Q, t' σ H Q → t σ H Q) : PE X e t' := ⟨fun pins s σ H Q I q => h.run pins s σ H Q I (k _ _ _ q)⟩
theorem PT.to {t t' : TT} (h : PT X e t) (k : ∀ σ H Q, t' σ H Q → t σ H Q) : PT X e t' := ⟨fun pins s σ H Q I q => h.run pins s σ H Q I (k _ _ _ q)⟩
theorem PA.to {t t' : TA} (h : PA X es t) (k : ∀ σ H Q, t' σ H Q → t σ H Q) : PA X es t' := ⟨fun pos pins s σ H Q I q => h.run pos pins s σ H Q I (k _ _ _ q)⟩
theorem PS.to {t t' : TS} (h : PS X st t) (k : ∀ E σ H, t' E σ H → t E σ H) : PS X st t' := ⟨fun pins s σ H E I q => h.run pins s σ H E I (k _ _ _ q)⟩
theorem PSs.to {t t' : TS} (h : PSs X ss t) (k : ∀ E σ H, t' E σ H → t E σ H) : PSs X ss t' := ⟨fun pins s σ H E I q => h.run pins s σ H E I (k _ _ _ q)⟩
/-- using a reading in trees where the state is known -/
theorem rd_use {M : Am} {σ : L2.St} {H : Hp} {δ : DSt} {t : DTE} {Q : VK} {QD : D → DSt → Prop} (I : DI K M σ H δ) (h : t δ QD)
    (k : ∀ v H' d δ', DI K M σ H' δ' → Wi (Ro M σ δ H) (Ro M σ δ' H') → At K M.b (Ro M σ δ' H') d v → QD d δ' → Q v H') : rd K t σ H Q := ⟨M, δ, QD, I, h, k⟩
theorem rdT_use {M : Am} {σ : L2.St} {H : Hp} {δ : DSt} {t : DTT} {Q : Bool → Hp → Prop} {QD : Bool → DSt → Prop} (I : DI K M σ H δ) (h : t δ QD)
    (k : ∀ c H' δ', DI K M σ H' δ' → Wi (Ro M σ δ H) (Ro M σ δ' H') → QD c δ' → Q c H') : rdT K t σ H Q := ⟨M, δ, QD, I, h, k⟩
theorem rdA_use {M : Am} {σ : L2.St} {H : Hp} {δ : DSt} {t : DTA} {Q : List V → Hp → Prop} {QD : List D → DSt → Prop} (I : DI K M σ H δ) (h : t δ QD)
    (k : ∀ vs H' ds δ', DI K M σ H' δ' → Wi (Ro M σ δ H) (Ro M σ δ' H') → AtAll K M.b (Ro M σ δ' H') ds vs → QD ds δ' → Q vs H') : rdA K t σ H Q := ⟨M, δ, QD, I, h, k⟩
end
end DL
/-! How the state in trees goes on. -/
namespace DL
open PySem PySem.Spec PyProof.Rows L2
section
variable {K : PySem.W.Frag} {M : Am} {σ : L2.St} {H H' : Hp} {δ : DSt} {p a : Addr} {o : HO}
theorem DI.lt (I : DI K M σ H δ) {i : Nat} {s : Sl} (h : δ[i]? = some (some s)) : i < σ.length := by
  rw [I.len]
  exact (List.getElem?_eq_some_iff.mp h).1
theorem DI.ownIn (I : DI K M σ H δ) (h : OwnAt σ δ a) : H a ≠ none := by
  obtain ⟨i, ds, h1, h2⟩ := h
  obtain ⟨a', xs, e1, e2, _⟩ := I.own i ds h1
  rw [h2] at e1
  cases e1
  rw [e2]
  exact fun z => nomatch z
/-- a new address stands in nothing's way -/
theorem DI.free (I : DI K M σ H δ) (h : H p = none) : ¬ M.Z p ∧ ¬ OwnAt σ δ p ∧ p ≠ M.b ∧ p ≠ M.l ∧ M.H0 p = none := by
  refine ⟨fun z => I.zin p z h, fun z => I.ownIn z h, fun e => I.zin _ I.zb (e ▸ h), fun e => I.zin _ I.zl (e ▸ h), ?_⟩
  cases q : M.H0 p with
  | none => rfl
  | some o =>
    by_cases e : p = M.b
    · exact absurd h (e ▸ I.zin _ I.zb)
    · rw [I.keep p o e q] at h
      cases h
/-- the heap goes on: what is tracked stays -/
theorem DI.ext (I : DI K M σ H δ) (h : ∀ a o, H a = some o → H' a = some o) : DI K M σ H' δ ∧ Wi (Ro M σ δ H) (Ro M σ δ H') := by
  have w : Wi (Ro M σ δ H) (Ro M σ δ H') := fun a o r => ⟨h _ _ r.1, r.2⟩
  refine ⟨⟨I.len, ?_, I.zb, I.zl, I.lb, fun a z q => ?_, fun a o n e => h _ _ (I.keep a o n e), fun i d e => ?_, fun i ds e => ?_, I.apart⟩, w⟩
  · obtain ⟨x, y, z, cs, e1, e2⟩ := I.bag
    exact ⟨x, y, z, cs, h _ _ e1, h _ _ e2.1, e2.2⟩
  · cases e : H a with
    | none => exact I.zin a z e
    | some o =>
      rw [h _ _ e] at q
      cases q
  · obtain ⟨v, e1, e2⟩ := I.dat i d e
    exact ⟨v, e1, At.mono w d v e2⟩
  · obtain ⟨a, xs, e1, e2, e3, e4, e5⟩ := I.own i ds e
    exact ⟨a, xs, e1, h _ _ e2, e3, e4, AtAll.mono w ds xs e5⟩
theorem ex_new (h : H p = none) : ∀ a u, H a = some u → upd H p o a = some u := fun a u e => by
  rw [upd_ne (ne_of_none e h)]
  exact e
/-- a new object is laid -/
theorem DI.laid (I : DI K M σ H δ) (h : H p = none) (o : HO) : DI K M σ (upd H p o) δ ∧ Wi (Ro M σ δ H) (Ro M σ δ (upd H p o)) ∧ Ro M σ δ (upd H p o) p o := by
  obtain ⟨I', w⟩ := I.ext (ex_new (o := o) h)
  obtain ⟨f1, f2, _⟩ := I.free h
  exact ⟨I', w, upd_same, f1, f2⟩
/-- the object at an aside address (no bag's) changes -/
theorem DI.aside (I : DI K M σ H δ) (hz : M.Z a) (nb : a ≠ M.b) (nl : a ≠ M.l) (h0 : M.H0 a = none) (o : HO) :
    DI K M σ (upd H a o) δ ∧ Wi (Ro M σ δ H) (Ro M σ δ (upd H a o)) := by
  have w : Wi (Ro M σ δ H) (Ro M σ δ (upd H a o)) := fun c u r => by
    have n : c ≠ a := fun e => r.2.1 (e ▸ hz)
    exact ⟨by rw [upd_ne n]; exact r.1, r.2⟩
  refine ⟨⟨I.len, ?_, I.zb, I.zl, I.lb, fun c z => ?_, fun c u n e => ?_, fun i d e => ?_, fun i ds e => ?_, I.apart⟩, w⟩
  · obtain ⟨x, y, z, cs, e1, e2⟩ := I.bag
    exact ⟨x, y, z, cs, by rw [upd_ne nb.symm]; exact e1, by rw [upd_ne nl.symm]; exact e2.1, e2.2⟩
  · by_cases e : c = a
    · rw [e, upd_same]
      exact fun q => nomatch q
    · rw [upd_ne e]
      exact I.zin c z
  · have n' : c ≠ a := fun q => by
      rw [q, h0] at e
      cases e
    rw [upd_ne n']
    exact I.keep c u n e
  · obtain ⟨v, e1, e2⟩ := I.dat i d e
    exact ⟨v, e1, At.mono w d v e2⟩
  · obtain ⟨c, xs, e1, e2, e3, e4, e5⟩ := I.own i ds e
    have n : c ≠ a := fun q => e3 (q ▸ hz)
    exact ⟨c, xs, e1, by rw [upd_ne n]; exact e2, e3, e4, AtAll.mono w ds xs e5⟩
/-- the bag changes -/
theorem DI.bagged (I : DI K M σ H δ) {x y z : Int} (o : HO) (ho : o = .lst [.int x, .int y, .int z, .ref M.l]) :
    DI K M σ (upd H M.b o) δ ∧ Wi (Ro M σ δ H) (Ro M σ δ (upd H M.b o)) := by
  have w : Wi (Ro M σ δ H) (Ro M σ δ (upd H M.b o)) := fun c u r => by
    have n : c ≠ M.b := fun e => r.2.1 (e ▸ I.zb)
    exact ⟨by rw [upd_ne n]; exact r.1, r.2⟩
  refine ⟨⟨I.len, ?_, I.zb, I.zl, I.lb, fun c z => ?_, fun c u n e => ?_, fun i d e => ?_, fun i ds e => ?_, I.apart⟩, w⟩
  · obtain ⟨x', y', z', cs, e1, e2⟩ := I.bag
    exact ⟨x, y, z, cs, by rw [upd_same, ho], by rw [upd_ne I.lb]; exact e2.1, e2.2⟩
  · by_cases e : c = M.b
    · rw [e, upd_same]
      exact fun q => nomatch q
    · rw [upd_ne e]
      exact I.zin c z
  · rw [upd_ne n]
    exact I.keep c u n e
  · obtain ⟨v, e1, e2⟩ := I.dat i d e
    exact ⟨v, e1, At.mono w d v e2⟩
  · obtain ⟨c, xs, e1, e2, e3, e4, e5⟩ := I.own i ds e
    have n : c ≠ M.b := fun q => e3 (q ▸ I.zb)
    exact ⟨c, xs, e1, by rw [upd_ne n]; exact e2, e3, e4, AtAll.mono w ds xs e5⟩
/-! ### slots -/
theorem set_get {α : Type} {l : List α} {i j : Nat} {x y : α} (h : (l.set i x)[j]? = some y) : (j = i ∧ y = x ∧ i < l.length) ∨ (j ≠ i ∧ l[j]? = some y) := by
  by_cases e : j = i
  · subst e
    by_cases hl : j < l.length
    · rw [List.getElem?_set_self hl] at h
      exact Or.inl ⟨rfl, (Option.some.inj h).symm, hl⟩
    · rw [List.getElem?_eq_none_iff.mpr (by rw [List.length_set]; omega)] at h
      cases h
  · rw [List.getElem?_set_ne (fun q => e q.symm)] at h
    exact Or.inr ⟨e, h⟩
/-- a slot gets a tree (whatever it held) -/
theorem DI.putIn (I : DI K M σ H δ) {i : Nat} (hi : i < δ.length) {v : V} {d : D} (hv : At K M.b (Ro M σ δ H) d v) :
    DI K M (σ.set i (some v)) H (δ.set i (some (.dat d))) ∧ Wi (Ro M σ δ H) (Ro M (σ.set i (some v)) (δ.set i (some (.dat d))) H) := by
  have hσ : i < σ.length := by rw [I.len]; exact hi
  have own : ∀ c, OwnAt (σ.set i (some v)) (δ.set i (some (.dat d))) c → OwnAt σ δ c := by
    rintro c ⟨j, ds, h1, h2⟩
    rcases set_get h1 with ⟨e, q, _⟩ | ⟨n, q⟩
    · cases q
    · rcases set_get h2 with ⟨e, _, _⟩ | ⟨_, q2⟩
      · exact absurd e n
      · exact ⟨j, ds, q, q2⟩
  have w : Wi (Ro M σ δ H) (Ro M (σ.set i (some v)) (δ.set i (some (.dat d))) H) := fun c u r => ⟨r.1, r.2.1, fun q => r.2.2 (own c q)⟩
  refine ⟨⟨by rw [List.length_set, List.length_set]; exact I.len, I.bag, I.zb, I.zl, I.lb, I.zin, I.keep, fun j e h => ?_, fun j ds h => ?_, fun j k c ds es h1 h2 h3 h4 => ?_⟩, w⟩
  · rcases set_get h with ⟨e1, q, _⟩ | ⟨n, q⟩
    · cases q
      subst e1
      exact ⟨v, List.getElem?_set_self hσ, At.mono w _ _ hv⟩
    · obtain ⟨u, e1, e2⟩ := I.dat j e q
      exact ⟨u, by rw [List.getElem?_set_ne (fun q => n q.symm)]; exact e1, At.mono w _ _ e2⟩
  · rcases set_get h with ⟨_, q, _⟩ | ⟨n, q⟩
    · cases q
    · obtain ⟨c, xs, e1, e2, e3, e4, e5⟩ := I.own j ds q
      exact ⟨c, xs, by rw [List.getElem?_set_ne (fun q => n q.symm)]; exact e1, e2, e3, e4, AtAll.mono w _ _ e5⟩
  · rcases set_get h1 with ⟨_, q, _⟩ | ⟨n1, q1⟩
    · cases q
    rcases set_get h2 with ⟨_, q, _⟩ | ⟨n2, q2⟩
    · cases q
    rcases set_get h3 with ⟨e, _, _⟩ | ⟨_, q3⟩
    · exact absurd e n1
    rcases set_get h4 with ⟨e, _, _⟩ | ⟨_, q4⟩
    · exact absurd e n2
    exact I.apart j k c ds es q1 q2 q3 q4
theorem DI.put (I : DI K M σ H δ) (i : Nat) {v : V} {d : D} (hv : At K M.b (Ro M σ δ H) d v) :
    DI K M (σ.set i (some v)) H (δ.set i (some (.dat d))) ∧ Wi (Ro M σ δ H) (Ro M (σ.set i (some v)) (δ.set i (some (.dat d))) H) := by
  by_cases hi : i < δ.length
  · exact I.putIn hi hv
  · have hs := I.len
    rw [List.set_eq_of_length_le (show σ.length ≤ i by omega), List.set_eq_of_length_le (show δ.length ≤ i by omega)]
    exact ⟨I, Wi.refl _⟩
/-- a slot is forgotten -/
theorem DI.drop (I : DI K M σ H δ) (i : Nat) (y : Option V) : DI K M (σ.set i y) H (δ.set i none) ∧ Wi (Ro M σ δ H) (Ro M (σ.set i y) (δ.set i none) H) := by
  have own : ∀ c, OwnAt (σ.set i y) (δ.set i none) c → OwnAt σ δ c := by
    rintro c ⟨j, ds, h1, h2⟩
    rcases set_get h1 with ⟨e, q, _⟩ | ⟨n, q⟩
    · cases q
    · rcases set_get h2 with ⟨e, _, _⟩ | ⟨_, q2⟩
      · exact absurd e n
      · exact ⟨j, ds, q, q2⟩
  have w : Wi (Ro M σ δ H) (Ro M (σ.set i y) (δ.set i none) H) := fun c u r => ⟨r.1, r.2.1, fun q => r.2.2 (own c q)⟩
  refine ⟨⟨by rw [List.length_set, List.length_set]; exact I.len, I.bag, I.zb, I.zl, I.lb, I.zin, I.keep, fun j e h => ?_, fun j ds h => ?_, fun j k c ds es h1 h2 h3 h4 => ?_⟩, w⟩
  · rcases set_get h with ⟨e1, q, _⟩ | ⟨n, q⟩
    · cases q
    · obtain ⟨u, e1, e2⟩ := I.dat j e q
      exact ⟨u, by rw [List.getElem?_set_ne (fun q => n q.symm)]; exact e1, At.mono w _ _ e2⟩
  · rcases set_get h with ⟨_, q, _⟩ | ⟨n, q⟩
    · cases q
    · obtain ⟨c, xs, e1, e2, e3, e4, e5⟩ := I.own j ds q
      exact ⟨c, xs, by rw [List.getElem?_set_ne (fun q => n q.symm)]; exact e1, e2, e3, e4, AtAll.mono w _ _ e5⟩
  · rcases set_get h1 with ⟨_, q, _⟩ | ⟨n1, q1⟩
    · cases q
    rcases set_get h2 with ⟨_, q, _⟩ | ⟨n2, q2⟩
    · cases q
    rcases set_get h3 with ⟨e, _, _⟩ | ⟨_, q3⟩
    · exact absurd e n1
    rcases set_get h4 with ⟨e, _, _⟩ | ⟨_, q4⟩
    · exact absurd e n2
    exact I.apart j k c ds es q1 q2 q3 q4
theorem set_same {α : Type} {l : List α} {i : Nat} {x : α} (h : l[i]? = some x) : l.set i x = l := by
  obtain ⟨h1, h2⟩ := List.getElem?_eq_some_iff.mp h
  subst h2
  exact List.set_getElem_self h1
/-- a list that a slot alone holds is handed out: from now on it is a tree like others -/
theorem DI.hand (I : DI K M σ H δ) {i : Nat} {ds : List D} (h : δ[i]? = some (some (.own ds))) :
    ∃ v, σ[i]? = some (some v) ∧ DI K M σ H (δ.set i (some (.dat (.lst ds)))) ∧ Wi (Ro M σ δ H) (Ro M σ (δ.set i (some (.dat (.lst ds)))) H) ∧
      At K M.b (Ro M σ (δ.set i (some (.dat (.lst ds)))) H) (.lst ds) v := by
  obtain ⟨a, xs, e1, e2, e3, e4, e5⟩ := I.own i ds h
  have hi : i < δ.length := (List.getElem?_eq_some_iff.mp h).1
  have own : ∀ c, OwnAt σ (δ.set i (some (.dat (.lst ds)))) c → OwnAt σ δ c ∧ c ≠ a := by
    rintro c ⟨j, es, h1, h2⟩
    rcases set_get h1 with ⟨e, q, _⟩ | ⟨n, q⟩
    · cases q
    · refine ⟨⟨j, es, q, h2⟩, fun e => ?_⟩
      subst e
      exact n (I.apart j i c es ds q h h2 e1)
  have w : Wi (Ro M σ δ H) (Ro M σ (δ.set i (some (.dat (.lst ds)))) H) := fun c u r => ⟨r.1, r.2.1, fun q => r.2.2 (own c q).1⟩
  have at_ : At K M.b (Ro M σ (δ.set i (some (.dat (.lst ds)))) H) (.lst ds) (.ref a) := ⟨a, xs, rfl, ⟨e2, e3, fun q => (own a q).2 rfl⟩, AtAll.mono w _ _ e5⟩
  refine ⟨_, e1, ⟨by rw [List.length_set]; exact I.len, I.bag, I.zb, I.zl, I.lb, I.zin, I.keep, fun j e g => ?_, fun j es g => ?_, fun j k c ds' es h1 h2 h3 h4 => ?_⟩, w, at_⟩
  · rcases set_get g with ⟨q1, q, _⟩ | ⟨n, q⟩
    · cases q
      subst q1
      exact ⟨_, e1, at_⟩
    · obtain ⟨u, g1, g2⟩ := I.dat j e q
      exact ⟨u, g1, At.mono w _ _ g2⟩
  · rcases set_get g with ⟨_, q, _⟩ | ⟨n, q⟩
    · cases q
    · obtain ⟨c, ys, g1, g2, g3, g4, g5⟩ := I.own j es q
      exact ⟨c, ys, g1, g2, g3, g4, AtAll.mono w _ _ g5⟩
  · rcases set_get h1 with ⟨_, q, _⟩ | ⟨n1, q1⟩
    · cases q
    rcases set_get h2 with ⟨_, q, _⟩ | ⟨n2, q2⟩
    · cases q
    exact I.apart j k c ds' es q1 q2 h3 h4
/-- the list that a slot alone holds changes -/
theorem DI.turn (I : DI K M σ H δ) {i : Nat} {ds es : List D} {ys : List V} (h : δ[i]? = some (some (.own ds))) (hy : AtAll K M.b (Ro M σ δ H) es ys) {a : Addr} (ha : σ[i]? = some (some (.ref a))) :
    DI K M σ (upd H a (.lst ys)) (δ.set i (some (.own es))) ∧ Wi (Ro M σ δ H) (Ro M σ (δ.set i (some (.own es))) (upd H a (.lst ys))) := by
  obtain ⟨a', xs, e1, e2, e3, e4, e5⟩ := I.own i ds h
  rw [ha] at e1
  cases e1
  have hi : i < δ.length := (List.getElem?_eq_some_iff.mp h).1
  have own : ∀ c, OwnAt σ (δ.set i (some (.own es))) c ↔ OwnAt σ δ c := by
    intro c
    constructor
    · rintro ⟨j, fs, h1, h2⟩
      rcases set_get h1 with ⟨e, q, _⟩ | ⟨n, q⟩
      · subst e
        exact ⟨j, ds, h, h2⟩
      · exact ⟨j, fs, q, h2⟩
    · rintro ⟨j, fs, h1, h2⟩
      by_cases e : j = i
      · subst e
        exact ⟨j, es, List.getElem?_set_self hi, h2⟩
      · exact ⟨j, fs, by rw [List.getElem?_set_ne (fun q => e q.symm)]; exact h1, h2⟩
  have nb : a ≠ M.b := fun e => e3 (e ▸ I.zb)
  have nl : a ≠ M.l := fun e => e3 (e ▸ I.zl)
  have w : Wi (Ro M σ δ H) (Ro M σ (δ.set i (some (.own es))) (upd H a (.lst ys))) := fun c u r => by
    have n : c ≠ a := fun e => r.2.2 ⟨i, ds, h, e ▸ ha⟩
    exact ⟨by rw [upd_ne n]; exact r.1, r.2.1, fun q => r.2.2 ((own c).mp q)⟩
  refine ⟨⟨by rw [List.length_set]; exact I.len, ?_, I.zb, I.zl, I.lb, fun c z => ?_, fun c u n e => ?_, fun j e g => ?_, fun j fs g => ?_, fun j k c fs gs h1 h2 h3 h4 => ?_⟩, w⟩
  · obtain ⟨x, y, z, cs, q1, q2⟩ := I.bag
    exact ⟨x, y, z, cs, by rw [upd_ne nb.symm]; exact q1, by rw [upd_ne nl.symm]; exact q2.1, q2.2⟩
  · have n : c ≠ a := fun e => e3 (e ▸ z)
    rw [upd_ne n]
    exact I.zin c z
  · have n' : c ≠ a := fun q => by
      rw [q, e4] at e
      cases e
    rw [upd_ne n']
    exact I.keep c u n e
  · rcases set_get g with ⟨q1, q, _⟩ | ⟨n, q⟩
    · cases q
    · obtain ⟨u, g1, g2⟩ := I.dat j e q
      exact ⟨u, g1, At.mono w _ _ g2⟩
  · rcases set_get g with ⟨q1, q, _⟩ | ⟨n, q⟩
    · cases q
      subst q1
      exact ⟨a, ys, ha, upd_same, e3, e4, AtAll.mono w _ _ hy⟩
    · obtain ⟨c, zs, g1, g2, g3, g4, g5⟩ := I.own j fs q
      have n' : c ≠ a := fun e => by
        subst e
        exact n (I.apart j i c fs ds q h g1 ha)
      exact ⟨c, zs, g1, by rw [upd_ne n']; exact g2, g3, g4, AtAll.mono w _ _ g5⟩
  · have back : ∀ {m : Nat} {hs : List D}, (δ.set i (some (Sl.own es)))[m]? = some (some (.own hs)) → ∃ hs', δ[m]? = some (some (.own hs')) := fun {m hs} q => by
      rcases set_get q with ⟨e, _, _⟩ | ⟨_, q⟩
      · subst e
        exact ⟨ds, h⟩
      · exact ⟨hs, q⟩
    obtain ⟨_, q1⟩ := back h1
    obtain ⟨_, q2⟩ := back h2
    exact I.apart j k c _ _ q1 q2 h3 h4
/-- one more address stands aside -/
def Am.with_ (M : Am) (c : Addr) : Am := { M with Z := fun a => M.Z a ∨ a = c }
/-- a slot takes a list that stood aside for itself -/
theorem DI.takeIn (I : DI K (M.with_ a) σ H δ) {i : Nat} (hi : i < δ.length) {ds : List D} {xs : List V} (hl : H a = some (.lst xs)) (nz : ¬ M.Z a) (h0 : M.H0 a = none) (zb : M.Z M.b) (zl : M.Z M.l)
    (hx : AtAll K M.b (Ro (M.with_ a) σ δ H) ds xs) :
    DI K M (σ.set i (some (.ref a))) H (δ.set i (some (.own ds))) ∧ Wi (Ro (M.with_ a) σ δ H) (Ro M (σ.set i (some (.ref a))) (δ.set i (some (.own ds))) H) := by
  have hσ : i < σ.length := by rw [I.len]; exact hi
  have own : ∀ c, OwnAt (σ.set i (some (.ref a))) (δ.set i (some (.own ds))) c → OwnAt σ δ c ∨ c = a := by
    rintro c ⟨j, es, h1, h2⟩
    rcases set_get h1 with ⟨e, q, _⟩ | ⟨n, q⟩
    · subst e
      rw [List.getElem?_set_self hσ] at h2
      cases h2
      exact Or.inr rfl
    · rcases set_get h2 with ⟨e, _, _⟩ | ⟨_, q2⟩
      · exact absurd e n
      · exact Or.inl ⟨j, es, q, q2⟩
  have w : Wi (Ro (M.with_ a) σ δ H) (Ro M (σ.set i (some (.ref a))) (δ.set i (some (.own ds))) H) := fun c u r =>
    ⟨r.1, fun z => r.2.1 (Or.inl z), fun q => (own c q).elim r.2.2 fun e => r.2.1 (Or.inr e)⟩
  refine ⟨⟨by rw [List.length_set, List.length_set]; exact I.len, I.bag, zb, zl, I.lb, fun c z => I.zin c (Or.inl z), I.keep, fun j e h => ?_, fun j es h => ?_, fun j k c fs gs h1 h2 h3 h4 => ?_⟩, w⟩
  · rcases set_get h with ⟨e1, q, _⟩ | ⟨n, q⟩
    · cases q
    · obtain ⟨u, e1, e2⟩ := I.dat j e q
      exact ⟨u, by rw [List.getElem?_set_ne (fun q => n q.symm)]; exact e1, At.mono w _ _ e2⟩
  · rcases set_get h with ⟨q1, q, _⟩ | ⟨n, q⟩
    · cases q
      subst q1
      exact ⟨a, xs, List.getElem?_set_self hσ, hl, nz, h0, AtAll.mono w _ _ hx⟩
    · obtain ⟨c, ys, e1, e2, e3, e4, e5⟩ := I.own j es q
      exact ⟨c, ys, by rw [List.getElem?_set_ne (fun q => n q.symm)]; exact e1, e2, fun z => e3 (Or.inl z), e4, AtAll.mono w _ _ e5⟩
  · rcases set_get h1 with ⟨e1, q1, _⟩ | ⟨n1, q1⟩
    · rcases set_get h2 with ⟨e2, q2, _⟩ | ⟨n2, q2⟩
      · rw [e1, e2]
      · subst e1
        rw [List.getElem?_set_self hσ] at h3
        cases h3
        rcases set_get h4 with ⟨e, _, _⟩ | ⟨_, q4⟩
        · exact absurd e n2
        · obtain ⟨c, ys, g1, _, g3, _⟩ := I.own k gs q2
          rw [q4] at g1
          cases g1
          exact absurd (Or.inr rfl) g3
    · rcases set_get h3 with ⟨e, _, _⟩ | ⟨_, q3⟩
      · exact absurd e n1
      rcases set_get h2 with ⟨e2, q2, _⟩ | ⟨n2, q2⟩
      · subst e2
        rw [List.getElem?_set_self hσ] at h4
        cases h4
        obtain ⟨c, ys, g1, _, g3, _⟩ := I.own j fs q1
        rw [q3] at g1
        cases g1
        exact absurd (Or.inr rfl) g3
      · rcases set_get h4 with ⟨e, _, _⟩ | ⟨_, q4⟩
        · exact absurd e n2
        exact I.apart j k c fs gs q1 q2 q3 q4
/-- what stood aside is a tree like others -/
theorem DI.back (I : DI K (M.with_ a) σ H δ) (zb : M.Z M.b) (zl : M.Z M.l) : DI K M σ H δ ∧ Wi (Ro (M.with_ a) σ δ H) (Ro M σ δ H) := by
  have w : Wi (Ro (M.with_ a) σ δ H) (Ro M σ δ H) := fun c u r => ⟨r.1, fun z => r.2.1 (Or.inl z), r.2.2⟩
  refine ⟨⟨I.len, I.bag, zb, zl, I.lb, fun c z => I.zin c (Or.inl z), I.keep, fun j e h => ?_, fun j es h => ?_, I.apart⟩, w⟩
  · obtain ⟨u, e1, e2⟩ := I.dat j e h
    exact ⟨u, e1, At.mono w _ _ e2⟩
  · obtain ⟨c, ys, e1, e2, e3, e4, e5⟩ := I.own j es h
    exact ⟨c, ys, e1, e2, fun z => e3 (Or.inl z), e4, AtAll.mono w _ _ e5⟩
theorem DI.take (I : DI K (M.with_ a) σ H δ) (i : Nat) {ds : List D} {xs : List V} (hl : H a = some (.lst xs)) (nz : ¬ M.Z a) (h0 : M.H0 a = none) (zb : M.Z M.b) (zl : M.Z M.l)
    (hx : AtAll K M.b (Ro (M.with_ a) σ δ H) ds xs) :
    DI K M (σ.set i (some (.ref a))) H (δ.set i (some (.own ds))) ∧ Wi (Ro (M.with_ a) σ δ H) (Ro M (σ.set i (some (.ref a))) (δ.set i (some (.own ds))) H) := by
  by_cases hi : i < δ.length
  · exact I.takeIn hi hl nz h0 zb zl hx
  · have hs := I.len
    rw [List.set_eq_of_length_le (show σ.length ≤ i by omega), List.set_eq_of_length_le (show δ.length ≤ i by omega)]
    exact I.back zb zl
/-- a new address is laid aside -/
theorem DI.lay (I : DI K M σ H δ) (h : H p = none) (o : HO) : DI K (M.with_ p) σ (upd H p o) δ ∧ Wi (Ro M σ δ H) (Ro (M.with_ p) σ δ (upd H p o)) := by
  obtain ⟨I', _⟩ := I.ext (ex_new (o := o) h)
  obtain ⟨f1, f2, f3, f4, f5⟩ := I.free h
  have w : Wi (Ro M σ δ H) (Ro (M.with_ p) σ δ (upd H p o)) := fun c u r => by
    have n : c ≠ p := ne_of_none r.1 h
    exact ⟨by rw [upd_ne n]; exact r.1, fun z => z.elim r.2.1 n, r.2.2⟩
  refine ⟨⟨I'.len, I'.bag, Or.inl I.zb, Or.inl I.zl, I.lb, fun c z => ?_, I'.keep, fun j e g => ?_, fun j es g => ?_, I'.apart⟩, w⟩
  · rcases z with z | z
    · exact I'.zin c z
    · rw [z, upd_same]
      exact fun q => nomatch q
  · obtain ⟨u, e1, e2⟩ := I.dat j e g
    exact ⟨u, e1, At.mono w _ _ e2⟩
  · obtain ⟨c, ys, e1, e2, e3, e4, e5⟩ := I.own j es g
    have n : c ≠ p := ne_of_none e2 h
    exact ⟨c, ys, e1, by rw [upd_ne n]; exact e2, fun z => z.elim e3 n, e4, AtAll.mono w _ _ e5⟩
end
end DL
/-! Expressions, in trees. -/
namespace DL
open PySem PySem.Spec PyProof.Rows L2
/-! ### names, constants -/
def dVar (i : Nat) : DTE := fun δ Q => match δ[i]? with
  | some (some (.dat d)) => Q d δ
  | some (some (.own ds)) => Q (.lst ds) (δ.set i (some (.dat (.lst ds))))
  | _ => False
def dC (d : D) : DTE := fun δ Q => Q d δ
section
variable {X : Cx} {K : PySem.W.Frag}
theorem de_varOf {i : Nat} {x : Str} {pos : Pos} (h : PE X (.Name x pos) (tVar i)) : PE X (.Name x pos) (rd K (dVar i)) := PE.to h (by
  rintro σ H Q ⟨M, δ, QD, I, h, k⟩
  unfold dVar at h
  split at h
  · rename_i d e
    obtain ⟨v, e1, e2⟩ := I.dat i d e
    exact ⟨v, e1, k v H d δ I (Wi.refl _) e2 h⟩
  · rename_i ds e
    obtain ⟨v, e1, I2, w, e2⟩ := I.hand e
    exact ⟨v, e1, k v H _ _ I2 w e2 h⟩
  · exact h.elim)
theorem dv (i : Nat) {x : Str} {pos : Pos} (hN : X.N[i]? = some x := by rfl) (hv : Vis X.env.scope x := by first | exact Or.inl rfl | exact Or.inr (Or.inl rfl) | exact Or.inr (Or.inr rfl)) (hd : (x == ("__debug__" : Str)) = false := by decide)
    (hcd : (x == ("__classdict__" : Str)) = false := by decide) : PE X (.Name x pos) (rd K (dVar i)) := de_varOf (pe_var hN hv hd hcd)
theorem de_c {e : Expr} {v : V} {d : D} (h : PE X e (tC v)) (hd : ∀ b R, At K b R d v) : PE X e (rd K (dC d)) := PE.to h (by
  rintro σ H Q ⟨M, δ, QD, I, h, k⟩
  exact k v H d δ I (Wi.refl _) (hd _ _) h)
theorem de_int {i j pos} : PE X (.Constant (.int i) j pos) (rd K (dC (.int i))) := de_c pe_int fun _ _ => rfl
theorem de_str {x j pos} : PE X (.Constant (.str x) j pos) (rd K (dC (.str x))) := de_c pe_str fun _ _ => rfl
theorem de_bl {x j pos} : PE X (.Constant (.bool x) j pos) (rd K (dC (.bl x))) := de_c pe_bl fun _ _ => rfl
theorem de_non {j pos} : PE X (.Constant .none j pos) (rd K (dC .non)) := de_c pe_non fun _ _ => rfl
/-! ### operators -/
abbrev DF2 := D → D → DSt → (D → DSt → Prop) → Prop
def dOp (f : DF2) (ta tb : DTE) : DTE := fun δ Q => ta δ fun x δ1 => tb δ1 fun y δ2 => f x y δ2 Q
/-- an operator on trees tells what one on values does -/
def OpD (K : PySem.W.Frag) (r : R2) (f : DF2) : Prop := ∀ (M : Am) (σ : L2.St) (H : Hp) (δ : DSt) (x y : V) (d e : D) (Q : VK) (QD : D → DSt → Prop),
  DI K M σ H δ → At K M.b (Ro M σ δ H) d x → At K M.b (Ro M σ δ H) e y → f d e δ QD →
  (∀ v H' z δ', DI K M σ H' δ' → Wi (Ro M σ δ H) (Ro M σ δ' H') → At K M.b (Ro M σ δ' H') z v → QD z δ' → Q v H') → r x y H Q
theorem rd_op {r : R2} {f : DF2} {ta tb : DTE} (od : OpD K r f) {σ : L2.St} {H : Hp} {Q : VK} (h : rd K (dOp f ta tb) σ H Q) : tOp r (rd K ta) (rd K tb) σ H Q := by
  obtain ⟨M, δ, QD, I, h, k⟩ := h
  refine rd_use I h fun x H1 d δ1 I1 w1 a1 h1 => rd_use I1 h1 fun y H2 e δ2 I2 w2 a2 h2 => ?_
  exact od M σ H2 δ2 x y d e Q QD I2 (At.mono w2 _ _ a1) a2 h2 fun v H' z δ' I' w' a' q' => k v H' z δ' I' (Wi.trans w1 (Wi.trans w2 w')) a' q'
variable {a b : Expr} {ta tb tc : DTE} {pos : Pos} {r : R2} {f : DF2}
theorem de_op {op : Operator} (ho : OpR X (binaryOp op) r) (od : OpD K r f) (ha : PE X a (rd K ta)) (hb : PE X b (rd K tb)) : PE X (.BinOp a op b pos) (rd K (dOp f ta tb)) :=
  PE.to (pe_op ho ha hb) fun _ _ _ h => rd_op od h
theorem de_cmp {op : CmpOp} (ho : OpR X (compareOp op) r) (od : OpD K r f) (hm : behindInMarks op b = false) (ha : PE X a (rd K ta)) (hb : PE X b (rd K tb)) : PE X (.Compare a [op] [b] pos) (rd K (dOp f ta tb)) :=
  PE.to (pe_cmpR ho ha hb hm) fun _ _ _ h => rd_op od h
/-- a test: a truth by its value -/
def dTest (t : DTE) : DTT := fun δ Q => t δ fun x δ1 => ∃ c, x = .bl c ∧ Q c δ1
theorem rd_test {t : DTE} {σ : L2.St} {H : Hp} {Q : Bool → Hp → Prop} (h : rdT K (dTest t) σ H Q) : tTest (rd K t) σ H Q := by
  obtain ⟨M, δ, QD, I, h, k⟩ := h
  refine rd_use I h fun x H1 d δ1 I1 w1 a1 h1 => ?_
  obtain ⟨c, rfl, q⟩ := h1
  exact ⟨c, a1, k c H1 δ1 I1 w1 q⟩
theorem dt_cmp {op : CmpOp} (ho : OpR X (compareOp op) r) (od : OpD K r f) (hm : behindInMarks op b = false) (ha : PE X a (rd K ta)) (hb : PE X b (rd K tb)) : PT X (.Compare a [op] [b] pos) (rdT K (dTest (dOp f ta tb))) := by
  refine PT.to (pt_cmpR ho ha hb hm) fun σ H Q h => ?_
  obtain ⟨M, δ, QD, I, h, k⟩ := h
  refine rd_op od ⟨M, δ, _, I, h, fun x H1 d δ1 I1 w1 a1 h1 => ?_⟩
  obtain ⟨c, rfl, q⟩ := h1
  exact ⟨c, a1, k c H1 δ1 I1 w1 q⟩
theorem dt_val {e : Expr} {t : DTE} (h : PE X e (rd K t)) (he : ∀ whole, isTrue e X.env whole = (do let v ← whole; standAt e.pos; holding [v] (truthy v)) := by intro _; rfl) : PT X e (rdT K (dTest t)) :=
  PT.to (pt_val h he) fun _ _ _ h => rd_test h
/-- pure operators: what they give, if anything -/
def dP2 (g : D → D → Option D) : DF2 := fun x y δ Q => ∃ z, g x y = some z ∧ Q z δ
theorem opP {r : R2} {g : D → D → Option D} (h : ∀ (b : Addr) (R : Rg) (H : Hp) (x y : V) (d e z : D) (Q : VK), At K b R d x → At K b R e y → (∀ a o, R a o → H a = some o) → g d e = some z → (∀ v, (∀ R', At K b R' z v) → Q v H) → r x y H Q) : OpD K r (dP2 g) := by
  rintro M σ H δ x y d e Q QD I ha hb ⟨z, hz, q⟩ k
  exact h M.b (Ro M σ δ H) H x y d e z Q ha hb (fun _ _ r => r.1) hz fun v hv => k v H z δ I (Wi.refl _) (hv _) q
def gI (f : Int → Int → D) : D → D → Option D
  | .int i, .int j => some (f i j)
  | _, _ => none
theorem gI_of {f : Int → Int → D} {d e z : D} (h : gI f d e = some z) : ∃ i j, d = .int i ∧ e = .int j ∧ z = f i j := by
  unfold gI at h
  split at h
  · cases h
    exact ⟨_, _, rfl, rfl, rfl⟩
  · cases h
theorem od_I {g : Int → Int → V} {g' : Int → Int → D} (hg : ∀ i j b (R : Rg), At K b R (g' i j) (g i j)) : OpD K (rI0 g) (dP2 (gI g')) := opP (by
  intro b R H x y d e z Q ha hb hR hz q
  obtain ⟨i, j, rfl, rfl, rfl⟩ := gI_of hz
  exact ⟨i, j, ha, hb, q _ fun R' => hg i j b R'⟩)
def dIC (C : Int → Int → Prop) (g : Int → Int → D) : DF2 := fun x y δ Q => ∃ i j, x = .int i ∧ y = .int j ∧ C i j ∧ Q (g i j) δ
theorem od_IC {C : Int → Int → Prop} {g : Int → Int → V} {g' : Int → Int → D} (hg : ∀ i j b (R : Rg), At K b R (g' i j) (g i j)) : OpD K (rI C g) (dIC C g') := by
  rintro M σ H δ x y d e Q QD I ha hb ⟨i, j, rfl, rfl, c, q⟩ k
  exact ⟨i, j, ha, hb, c, k _ H _ δ I (Wi.refl _) (hg i j _ _) q⟩
abbrev dAdd := dOp (dP2 (gI fun i j => .int (i + j)))
abbrev dSub := dOp (dP2 (gI fun i j => .int (i - j)))
abbrev dMul := dOp (dIC CMul fun i j => .int (i * j))
abbrev dMod := dOp (dIC (fun _ j => 0 < j) fun i j => .int (i % j))
abbrev dDiv := dOp (dIC CDiv fun i j => .int (i / j))
abbrev dPow := dOp (dIC CPow fun i j => .int (i ^ j.toNat))
theorem de_add (ha : PE X a (rd K ta)) (hb : PE X b (rd K tb)) : PE X (.BinOp a .Add b pos) (rd K (dAdd ta tb)) := de_op op_add (od_I fun _ _ _ _ => rfl) ha hb
theorem de_sub (ha : PE X a (rd K ta)) (hb : PE X b (rd K tb)) : PE X (.BinOp a .Sub b pos) (rd K (dSub ta tb)) := de_op op_sub (od_I fun _ _ _ _ => rfl) ha hb
theorem de_mul (ha : PE X a (rd K ta)) (hb : PE X b (rd K tb)) : PE X (.BinOp a .Mult b pos) (rd K (dMul ta tb)) := de_op op_mul (od_IC fun _ _ _ _ => rfl) ha hb
theorem de_mod (ha : PE X a (rd K ta)) (hb : PE X b (rd K tb)) : PE X (.BinOp a .Mod b pos) (rd K (dMod ta tb)) := de_op op_mod (od_IC fun _ _ _ _ => rfl) ha hb
theorem de_div (ha : PE X a (rd K ta)) (hb : PE X b (rd K tb)) : PE X (.BinOp a .FloorDiv b pos) (rd K (dDiv ta tb)) := de_op op_fdiv (od_IC fun _ _ _ _ => rfl) ha hb
theorem de_pow (ha : PE X a (rd K ta)) (hb : PE X b (rd K tb)) : PE X (.BinOp a .Pow b pos) (rd K (dPow ta tb)) := de_op op_pow (od_IC fun _ _ _ _ => rfl) ha hb
abbrev fLt := dP2 (gI fun i j => .bl (decide (i < j)))
abbrev fLe := dP2 (gI fun i j => .bl (decide (i ≤ j)))
abbrev fGt := dP2 (gI fun i j => .bl (decide (j < i)))
abbrev fGe := dP2 (gI fun i j => .bl (decide (j ≤ i)))
theorem od_lt : OpD K (rI0 fun i j => .bl (decide (i < j))) fLt := od_I fun _ _ _ _ => rfl
theorem od_le : OpD K (rI0 fun i j => .bl (decide (i ≤ j))) fLe := od_I fun _ _ _ _ => rfl
theorem od_gt : OpD K (rI0 fun i j => .bl (decide (j < i))) fGt := od_I fun _ _ _ _ => rfl
theorem od_ge : OpD K (rI0 fun i j => .bl (decide (j ≤ i))) fGe := od_I fun _ _ _ _ => rfl
/-! ### and, or, not, if else -/
variable {tt uu : DTT} {rest : List Expr}
def dAndV (ta tb : DTE) : DTE := fun δ Q => ta δ fun x δ1 => ∃ c, x = .bl c ∧ if c = true then tb δ1 Q else Q (.bl false) δ1
def dOrV (ta tb : DTE) : DTE := fun δ Q => ta δ fun x δ1 => ∃ c, x = .bl c ∧ if c = true then Q (.bl true) δ1 else tb δ1 Q
def dNotV (ta : DTE) : DTE := fun δ Q => ta δ fun x δ1 => ∃ c, x = .bl c ∧ Q (.bl (!c)) δ1
def dAnd (t u : DTT) : DTT := fun δ Q => t δ fun c δ1 => if c = true then u δ1 Q else Q false δ1
def dOr (t u : DTT) : DTT := fun δ Q => t δ fun c δ1 => if c = true then Q true δ1 else u δ1 Q
def dNot (t : DTT) : DTT := fun δ Q => t δ fun c δ1 => Q (!c) δ1
def dIfE (t : DTT) (ta tb : DTE) : DTE := fun δ Q => t δ fun c δ1 => if c = true then ta δ1 Q else tb δ1 Q
theorem de_one {op} {t : DTE} (h : PE X a (rd K t)) : PE X (.BoolOp op [a] pos) (rd K t) := pe_one h
theorem de_and (ha : PE X a (rd K ta)) (hb : PE X (.BoolOp .And (b :: rest) pos) (rd K tb)) : PE X (.BoolOp .And (a :: b :: rest) pos) (rd K (dAndV ta tb)) := PE.to (pe_and ha hb) (by
  rintro σ H Q ⟨M, δ, QD, I, h, k⟩
  refine rd_use I h fun x H1 d δ1 I1 w1 a1 h1 => ?_
  obtain ⟨c, rfl, q⟩ := h1
  refine ⟨c, a1, ?_⟩
  cases c with
  | true => exact rd_use I1 q fun v H' z δ' I' w' a' q' => k v H' z δ' I' (Wi.trans w1 w') a' q'
  | false => exact k (.bl _) H1 (.bl _) δ1 I1 w1 (by rfl) q)
theorem de_or (ha : PE X a (rd K ta)) (hb : PE X (.BoolOp .Or (b :: rest) pos) (rd K tb)) : PE X (.BoolOp .Or (a :: b :: rest) pos) (rd K (dOrV ta tb)) := PE.to (pe_or ha hb) (by
  rintro σ H Q ⟨M, δ, QD, I, h, k⟩
  refine rd_use I h fun x H1 d δ1 I1 w1 a1 h1 => ?_
  obtain ⟨c, rfl, q⟩ := h1
  refine ⟨c, a1, ?_⟩
  cases c with
  | false => exact rd_use I1 q fun v H' z δ' I' w' a' q' => k v H' z δ' I' (Wi.trans w1 w') a' q'
  | true => exact k (.bl _) H1 (.bl _) δ1 I1 w1 (by rfl) q)
theorem de_not (ha : PE X a (rd K ta)) : PE X (.UnaryOp .Not a pos) (rd K (dNotV ta)) := PE.to (pe_not ha) (by
  rintro σ H Q ⟨M, δ, QD, I, h, k⟩
  refine rd_use I h fun x H1 d δ1 I1 w1 a1 h1 => ?_
  obtain ⟨c, rfl, q⟩ := h1
  exact ⟨c, a1, k _ H1 (.bl (!c)) δ1 I1 w1 (by rfl) q⟩)
theorem dw_and1 (ha : PT X a (rdT K tt)) : PW X (.BoolOp .And [a] pos) (rdT K tt) := pw_and1 ha
theorem dw_or1 (ha : PT X a (rdT K tt)) : PW X (.BoolOp .Or [a] pos) (rdT K tt) := pw_or1 ha
theorem PW.to {e : Expr} {t t' : TT} (h : PW X e t) (k : ∀ σ H Q, t' σ H Q → t σ H Q) : PW X e t' := ⟨fun wh pins s σ H Q I q => h.run wh pins s σ H Q I (k _ _ _ q)⟩
theorem dw_and (ha : PT X a (rdT K tt)) (hb : PW X (.BoolOp .And (b :: rest) pos) (rdT K uu)) : PW X (.BoolOp .And (a :: b :: rest) pos) (rdT K (dAnd tt uu)) := PW.to (pw_and ha hb) (by
  rintro σ H Q ⟨M, δ, QD, I, h, k⟩
  refine rdT_use I h fun c H1 δ1 I1 w1 q => ?_
  cases c with
  | true => exact rdT_use I1 q fun v H' δ' I' w' q' => k v H' δ' I' (Wi.trans w1 w') q'
  | false => exact k _ H1 δ1 I1 w1 q)
theorem dw_or (ha : PT X a (rdT K tt)) (hb : PW X (.BoolOp .Or (b :: rest) pos) (rdT K uu)) : PW X (.BoolOp .Or (a :: b :: rest) pos) (rdT K (dOr tt uu)) := PW.to (pw_or ha hb) (by
  rintro σ H Q ⟨M, δ, QD, I, h, k⟩
  refine rdT_use I h fun c H1 δ1 I1 w1 q => ?_
  cases c with
  | false => exact rdT_use I1 q fun v H' δ' I' w' q' => k v H' δ' I' (Wi.trans w1 w') q'
  | true => exact k _ H1 δ1 I1 w1 q)
theorem dt_not (ha : PT X a (rdT K tt)) : PT X (.UnaryOp .Not a pos) (rdT K (dNot tt)) := PT.to (pt_not ha) (by
  rintro σ H Q ⟨M, δ, QD, I, h, k⟩
  exact rdT_use I h fun c H1 δ1 I1 w1 q => k _ H1 δ1 I1 w1 q)
theorem de_if {c : Expr} (hc : PT X c (rdT K tt)) (ha : PE X a (rd K ta)) (hb : PE X b (rd K tb)) : PE X (.IfExp c a b pos) (rd K (dIfE tt ta tb)) := PE.to (pe_ifExp hc ha hb) (by
  rintro σ H Q ⟨M, δ, QD, I, h, k⟩
  refine rdT_use I h fun c H1 δ1 I1 w1 q => ?_
  cases c with
  | false => exact rd_use I1 q fun v H' z δ' I' w' a' q' => k v H' z δ' I' (Wi.trans w1 w') a' q'
  | true => exact rd_use I1 q fun v H' z δ' I' w' a' q' => k v H' z δ' I' (Wi.trans w1 w') a' q')
/-! ### is None, is not None -/
def isN : D → Bool | .non => true | _ => false
theorem At.isN {b : Addr} {R : Rg} {d : D} {x : V} (h : At K b R d x) : decide (x = V.non) = isN d := by
  cases d with
  | non => have e : x = V.non := h; subst e; simp [DL.isN]
  | bl _ => have e : x = V.bl _ := h; subst e; simp [DL.isN]
  | int _ => have e : x = V.int _ := h; subst e; simp [DL.isN]
  | str _ => have e : x = V.str _ := h; subst e; simp [DL.isN]
  | lst _ => obtain ⟨_, _, e, _⟩ := h; subst e; simp [DL.isN]
  | tup _ => obtain ⟨_, _, e, _⟩ := h; subst e; simp [DL.isN]
  | dct _ => obtain ⟨_, _, e, _⟩ := h; subst e; simp [DL.isN]
  | bag => have e : x = V.ref _ := h; subst e; simp [DL.isN]
  | obj _ => obtain ⟨_, _, _, e, _⟩ := h; subst e; simp [DL.isN]
def fIsN : DF2 := fun x y δ Q => y = .non ∧ Q (.bl (isN x)) δ
def fNotN : DF2 := fun x y δ Q => y = .non ∧ Q (.bl (!isN x)) δ
theorem od_isN : OpD K (fun x y H Q => y = .non ∧ Q (.bl (decide (x = .non))) H) fIsN := by
  rintro M σ H δ x y d e Q QD I ha hb ⟨rfl, q⟩ k
  exact ⟨hb, k _ H _ δ I (Wi.refl _) (by rw [ha.isN]; rfl) q⟩
theorem od_notN : OpD K (fun x y H Q => y = .non ∧ Q (.bl (!decide (x = .non))) H) fNotN := by
  rintro M σ H δ x y d e Q QD I ha hb ⟨rfl, q⟩ k
  exact ⟨hb, k _ H _ δ I (Wi.refl _) (by rw [ha.isN]; rfl) q⟩
/-! ### arguments, displays -/
def dNil : DTA := fun δ Q => Q [] δ
def dCons (ta : DTE) (tr : DTA) : DTA := fun δ Q => ta δ fun x δ1 => tr δ1 fun xs δ2 => Q (x :: xs) δ2
variable {es : List Expr} {e : Expr} {te : DTE} {tr : DTA}
theorem da_nil : PA X [] (rdA K dNil) := PA.to pa_nil (by
  rintro σ H Q ⟨M, δ, QD, I, h, k⟩
  exact k [] H [] δ I (Wi.refl _) rfl h)
theorem da_cons (ha : PE X e (rd K te)) (hr : PA X es (rdA K tr)) (hs : starEach (e :: es) X.env = (false, eval e X.env) :: starEach es X.env := by rfl) : PA X (e :: es) (rdA K (dCons te tr)) := PA.to (pa_cons ha hr hs) (by
  rintro σ H Q ⟨M, δ, QD, I, h, k⟩
  refine rd_use I h fun x H1 d δ1 I1 w1 a1 h1 => rdA_use I1 h1 fun xs H2 ds δ2 I2 w2 a2 h2 => ?_
  exact k (x :: xs) H2 (d :: ds) δ2 I2 (Wi.trans w1 w2) ⟨x, xs, rfl, At.mono w2 _ _ a1, a2⟩ h2)
def dTup (t : DTA) : DTE := fun δ Q => t δ fun ds δ1 => ds.length ≤ sizeLine ∧ Q (.tup ds) δ1
def dLst (t : DTA) : DTE := fun δ Q => t δ fun ds δ1 => ds.length ≤ sizeLine ∧ Q (.lst ds) δ1
theorem de_tup {x1} (h : PA X es (rdA K tr)) : PE X (.Tuple es x1 pos) (rd K (dTup tr)) := PE.to (pe_tup h) (by
  rintro σ H Q ⟨M, δ, QD, I, h, k⟩
  refine rdA_use I h fun xs H1 ds δ1 I1 w1 a1 h1 => ⟨by rw [a1.len]; exact h1.1, fun p hp => ?_⟩
  obtain ⟨I2, w2, r⟩ := I1.laid hp (.tup xs)
  exact k _ _ (.tup ds) δ1 I2 (Wi.trans w1 w2) ⟨p, xs, rfl, Or.inl r, AtAll.mono w2 _ _ a1⟩ h1.2)
theorem de_lst (h : PA X es (rdA K tr)) : PE X (.List es pos) (rd K (dLst tr)) := PE.to (pe_lst h) (by
  rintro σ H Q ⟨M, δ, QD, I, h, k⟩
  refine rdA_use I h fun xs H1 ds δ1 I1 w1 a1 h1 => ⟨by rw [a1.len]; exact h1.1, fun p hp => ?_⟩
  obtain ⟨I2, w2, r⟩ := I1.laid hp (.lst xs)
  exact k _ _ (.lst ds) δ1 I2 (Wi.trans w1 w2) ⟨p, xs, rfl, r, AtAll.mono w2 _ _ a1⟩ h1.2)
/-- a list that nothing else knows of: it may be given to a name that changes it -/
def rdN (K : PySem.W.Frag) (t : DTA) : TE := fun σ H Q => ∃ M δ QD, DI K M σ H δ ∧ t δ QD ∧
  ∀ a xs H' ds δ', DI K (M.with_ a) σ H' δ' → Wi (Ro M σ δ H) (Ro (M.with_ a) σ δ' H') → ¬ M.Z a → M.H0 a = none → H' a = some (.lst xs) → AtAll K M.b (Ro (M.with_ a) σ δ' H') ds xs → QD ds δ' → Q (.ref a) H'
def dNew (t : DTA) : DTA := fun δ Q => t δ fun ds δ1 => ds.length ≤ sizeLine ∧ Q ds δ1
theorem dn_lst (h : PA X es (rdA K tr)) : PE X (.List es pos) (rdN K (dNew tr)) := PE.to (pe_lst h) (by
  rintro σ H Q ⟨M, δ, QD, I, h, k⟩
  refine rdA_use I h fun xs H1 ds δ1 I1 w1 a1 h1 => ⟨by rw [a1.len]; exact h1.1, fun p hp => ?_⟩
  obtain ⟨I2, w2⟩ := I1.lay hp (.lst xs)
  obtain ⟨f1, _, _, _, f5⟩ := I1.free hp
  exact k p xs _ ds δ1 I2 (Wi.trans w1 w2) f1 f5 upd_same (AtAll.mono w2 _ _ a1) h1.2)
end
end DL
/-! repr, ==, isinstance of trees. -/
namespace DL
open PySem PySem.Spec PyProof.Rows L2
mutual
def py : D → PyData
  | .non => .none
  | .bl c => .bool c
  | .int i => .int i
  | .str x => .str x
  | .lst xs => .list (pyAll xs)
  | .tup xs => .tuple (pyAll xs)
  | .dct ks => .dict (pyKv ks)
  | .bag => .none
  | .obj _ => .none
def pyAll : List D → List PyData
  | [] => []
  | d :: ds => py d :: pyAll ds
def pyKv : List (Key × D) → List (PyData × PyData)
  | [] => []
  | (.inl i, d) :: ds => (.int i, py d) :: pyKv ds
  | (.inr x, d) :: ds => (.str x, py d) :: pyKv ds
end
mutual
def clean : D → Bool
  | .lst xs => cleanAll xs
  | .tup xs => cleanAll xs
  | .dct ks => cleanKv ks
  | .bag => false
  | .obj _ => false
  | _ => true
def cleanAll : List D → Bool
  | [] => true
  | d :: ds => clean d && cleanAll ds
def cleanKv : List (Key × D) → Bool
  | [] => true
  | (_, d) :: ds => clean d && cleanKv ds
end
/-- sys.modules is a dict of the written part -/
def Sys (base : Heap) : Prop := ∃ m, base.Ns sysModules m
section
variable {X : Cx} {pins : List (Addr × Obj)} {σ : L2.St} {H : Hp} {s : Shared} {b : Addr} {R : Rg}
theorem not_sys (I : Inv X pins σ H s) (sy : Sys X.base) {a : Addr} {o : Obj} {vs : Array Value} {n : Nat} (h : s.heap.get? a = some o) (hd : o.data = .seq vs n) : a ≠ sysModules := by
  intro e
  subst e
  obtain ⟨m, o', es, ep, h1, h2, _⟩ := sy
  have h3 := (I.bs _ _ h1).1
  rw [h] at h3
  cases h3
  rw [hd] at h2
  cases h2
theorem kv_reads {kvs : List (Key × D)} : ∀ {ks : List (Key × V)} {vs : List (Key × Value)} {es : List DictEntry}, AtKv X.K b R kvs ks → KV ks vs → Pairs (mixKind X.prog X.w) es vs →
    (∀ d ∈ kvs, ∀ (v : V) (u : Value), At X.K b R d.2 v → RelV v u → ∃ as, Reads s.heap u (py d.2) as ∧ sysModules ∉ as) →
    ∃ as bs, ReadsAll s.heap (es.map (·.key)) ((pyKv kvs).map (·.1)) as ∧ ReadsAll s.heap (es.map (·.val)) ((pyKv kvs).map (·.2)) bs ∧ sysModules ∉ as ∧ sysModules ∉ bs := by
  induction kvs with
  | nil =>
    intro ks vs es h1 h2 h3 _
    have e : ks = [] := h1
    subst e
    cases h2
    cases h3
    exact ⟨[], [], .nil, .nil, by simp, by simp⟩
  | cons kd kvs ih =>
    intro ks vs es h1 h2 h3 h4
    obtain ⟨k, d⟩ := kd
    obtain ⟨x, xs, rfl, a1, a2⟩ : ∃ x xs, ks = (k, x) :: xs ∧ At X.K b R d x ∧ AtKv X.K b R kvs xs := h1
    cases h2 with
    | cons r1 r2 =>
      cases h3 with
      | cons q1 q2 q3 =>
        obtain ⟨as, bs, p1, p2, p3, p4⟩ := ih a2 r2 q3 fun d hd => h4 d (List.mem_cons_of_mem _ hd)
        obtain ⟨cs, c1, c2⟩ := h4 (k, d) List.mem_cons_self x _ a1 r1.2
        have r1' := r1.1
        simp only at r1'
        rw [← r1'] at q1
        have q1' : keyIs k _ = true := q1
        rcases keyIs_shape q1' with ⟨i, t, rfl, e⟩ | ⟨z, t, rfl, e⟩
        · refine ⟨[] ++ as, cs ++ bs, ?_, ?_, by simpa using p3, by simp only [List.mem_append]; exact fun z => z.elim c2 p4⟩
          · rw [List.map_cons, e]
            exact .cons (.int i t) p1
          · rw [List.map_cons, q2]
            exact .cons c1 p2
        · refine ⟨[] ++ as, cs ++ bs, ?_, ?_, by simpa using p3, by simp only [List.mem_append]; exact fun z => z.elim c2 p4⟩
          · rw [List.map_cons, e]
            exact .cons (.str z t) p1
          · rw [List.map_cons, q2]
            exact .cons c1 p2
mutual
theorem At.reads (I : Inv X pins σ H s) (sy : Sys X.base) (hR : ∀ a o, R a o → H a = some o) : ∀ (d : D) (v : V) (u : Value), At X.K b R d v → RelV v u → clean d = true → ∃ as, Reads s.heap u (py d) as ∧ sysModules ∉ as
  | .non, v, u, h, r, _ => by
    have e : v = V.non := h
    subst e
    cases r
    exact ⟨_, .none, by simp⟩
  | .bl c, v, u, h, r, _ => by
    have e : v = V.bl c := h
    subst e
    cases r
    exact ⟨_, .bool c, by simp⟩
  | .int i, v, u, h, r, _ => by
    have e : v = V.int i := h
    subst e
    obtain ⟨t, rfl⟩ := r
    exact ⟨_, .int i t, by simp⟩
  | .str x, v, u, h, r, _ => by
    have e : v = V.str x := h
    subst e
    obtain ⟨t, rfl⟩ := r
    exact ⟨_, .str x t, by simp⟩
  | .lst ds, v, u, h, r, c => by
    obtain ⟨a, xs, rfl, hr, ha⟩ : ∃ a xs, v = V.ref a ∧ R a (.lst xs) ∧ AtAll X.K b R ds xs := h
    cases r
    obtain ⟨_, its, n, rv, ho⟩ := (show ObjOk X.prog X.w H s.heap a (.lst xs) from I.hok a _ (hR _ _ hr))
    obtain ⟨as, q1, q2⟩ := AtAll.reads I sy hR ds xs its ha rv (by simpa [clean] using c)
    refine ⟨a :: as, .list ho rfl rfl (by simpa using q1), fun z => ?_⟩
    rcases List.mem_cons.mp z with z | z
    · exact not_sys I sy ho rfl z.symm
    · exact q2 z
  | .tup ds, v, u, h, r, c => by
    obtain ⟨a, xs, rfl, hr, ha⟩ : ∃ a xs, v = V.ref a ∧ (R a (.tup xs) ∨ KTup X.K a xs) ∧ AtAll X.K b R ds xs := h
    cases r
    have sq : SqT X.K H a xs := hr.elim (fun z => Or.inl (Or.inl (hR _ _ z))) KTup.sq
    obtain ⟨its, rv, ⟨o, ho, hc, n, hd⟩, _⟩ := I.tuple sq
    obtain ⟨as, q1, q2⟩ := AtAll.reads I sy hR ds xs its ha rv (by simpa [clean] using c)
    exact ⟨as, .tuple ho hc hd (by simpa using q1), q2⟩
  | .dct ks, v, u, h, r, c => by
    obtain ⟨a, xs, rfl, hr, ha⟩ : ∃ a xs, v = V.ref a ∧ R a (.dK xs) ∧ AtKv X.K b R ks xs := h
    cases r
    obtain ⟨_, hsm, vs, rv, o, es, ep, ho, hx, hd, hk, hp, _⟩ := (show ObjOk X.prog X.w H s.heap a (.dK xs) from I.hok a _ (hR _ _ hr))
    obtain ⟨as, bs, q1, q2, q3, q4⟩ := kv_reads (s := s) ha rv hp (AtKv.readsAll I sy hR ks (by simpa [clean] using c))
    refine ⟨a :: as ++ bs, .dict ho hx.1 hd q1 q2, fun z => ?_⟩
    rcases List.mem_append.mp z with z | z
    · rcases List.mem_cons.mp z with z | z
      · rw [← z] at hsm
        simp at hsm
      · exact q3 z
    · exact q4 z
  | .bag, _, _, _, _, c => by simp [clean] at c
  | .obj _, _, _, _, _, c => by simp [clean] at c
theorem AtAll.reads (I : Inv X pins σ H s) (sy : Sys X.base) (hR : ∀ a o, R a o → H a = some o) : ∀ (ds : List D) (vs : List V) (us : List Value), AtAll X.K b R ds vs → Vals vs us → cleanAll ds = true → ∃ as, ReadsAll s.heap us (pyAll ds) as ∧ sysModules ∉ as
  | [], vs, us, h, r, _ => by
    have e : vs = [] := h
    subst e
    cases r
    exact ⟨_, .nil, by simp⟩
  | d :: ds, vs, us, h, r, c => by
    obtain ⟨x, xs, rfl, h1, h2⟩ : ∃ x xs, vs = x :: xs ∧ At X.K b R d x ∧ AtAll X.K b R ds xs := h
    have c' : clean d = true ∧ cleanAll ds = true := by simpa [cleanAll] using c
    cases r with
    | cons r1 r2 =>
      obtain ⟨as, q1, p1⟩ := At.reads I sy hR d x _ h1 r1 c'.1
      obtain ⟨bs, q2, p2⟩ := AtAll.reads I sy hR ds xs _ h2 r2 c'.2
      exact ⟨_, .cons q1 q2, by simp only [List.mem_append]; exact fun z => z.elim p1 p2⟩
theorem AtKv.readsAll (I : Inv X pins σ H s) (sy : Sys X.base) (hR : ∀ a o, R a o → H a = some o) : ∀ (ks : List (Key × D)), cleanKv ks = true → ∀ d ∈ ks, ∀ (v : V) (u : Value), At X.K b R d.2 v → RelV v u → ∃ as, Reads s.heap u (py d.2) as ∧ sysModules ∉ as
  | [], _, _, hd, _, _, _, _ => by simp at hd
  | (k, d) :: ks, c, e, hd, v, u, h, r => by
    have c' : clean d = true ∧ cleanKv ks = true := by simpa [cleanKv] using c
    rcases List.mem_cons.mp hd with z | z
    · subst z
      exact At.reads I sy hR d v u h r c'.1
    · exact AtKv.readsAll I sy hR ks c'.2 e z v u h r
end
end
/-- its repr may be told -/
structure Shows (d : D) : Prop where
  cl : clean d = true
  sh : (py d).showable = true
  dp : (py d).depth ≤ 50
  sz : (py d).shown.length ≤ sizeLine
section
variable {X : Cx}
def rRepr (K : PySem.W.Frag) : List V → Hp → VK → Prop := fun xs H Q => ∃ x b R d, xs = [x] ∧ (∀ a o, R a o → H a = some o) ∧ At K b R d x ∧ Shows d ∧ Q (.str (py d).shown) H
theorem call_reprD (hg : X.A.guards = some []) (hu : X.A.units + 64 < cLine) (sy : Sys X.base) : CallR X (.builtin "repr") (rRepr X.K) := by
  intro pins s σ H xs us Q I r h
  obtain ⟨x, b, R, d, rfl, hR, ha, hs, q⟩ := h
  obtain ⟨u, rfl, r1⟩ := vals1 r
  obtain ⟨as, rd, ns⟩ := At.reads I sy hR d x u ha r1 hs.cl
  have fin : ∀ (h' : Heap) (u' : Tok) (tk : Nat), (∀ b o, s.heap.get? b = some o → h'.get? b = some o) → EP X pins σ Q (.str (py d).shown u') { s with heap := h', toks := tk } :=
    fun h' u' tk hk => ⟨V.str _, H, I.kept hk, ⟨u', rfl⟩, q⟩
  have any : ∀ a, u = .ref a → wpAny (model X.prog X.w) X.A (call (.builtin "repr") [u]) (EP X pins σ Q) X.xe s := by
    rintro a rfl
    have dp := hs.dp
    exact repr_of_reads' rd hs.sh (fun _ => ns) hg (by omega) (fun _ _ e => e) (fun h' u' tk hk => fin h' u' tk hk) hs.sz
  have he := hs.sh
  have hz := hs.sz
  cases d with
  | non =>
    have e : x = V.non := ha
    subst e
    cases r1
    exact PySem.P.repr_of_none (fin s.heap _ _ fun _ _ e => e)
  | bl c =>
    have e : x = V.bl c := ha
    subst e
    cases r1
    have g := fin s.heap s.toks (s.toks + 1) fun _ _ e => e
    simp only [py, PyData.shown] at g
    cases c <;> exact PySem.P.repr_of_bool g
  | int i =>
    have e : x = V.int i := ha
    subst e
    obtain ⟨t, rfl⟩ := r1
    exact PySem.P.repr_of_int (by simpa [py, PyData.showable] using he) (fin s.heap _ _ fun _ _ e => e)
  | str z =>
    have e : x = V.str z := ha
    subst e
    obtain ⟨t, rfl⟩ := r1
    exact PySem.P.repr_of_str (by
      have g := fin s.heap s.toks (s.toks + 1) fun _ _ e => e
      simp only [py, PyData.shown] at g
      exact g) (by simpa only [py, PyData.shown] using hz)
  | lst ds =>
    obtain ⟨a, _, rfl, _⟩ := ha
    exact any a r1
  | tup ds =>
    obtain ⟨a, _, rfl, _⟩ := ha
    exact any a r1
  | dct ds =>
    obtain ⟨a, _, rfl, _⟩ := ha
    exact any a r1
  | bag => exact absurd hs.cl (by simp [clean])
  | obj _ => exact absurd hs.cl (by simp [clean])
/-! ### == -/
def rEqT (K : PySem.W.Frag) : R2 := fun x y H Q => ∃ b R d e, (∀ a o, R a o → H a = some o) ∧ At K b R d x ∧ At K b R e y ∧ clean d = true ∧ clean e = true ∧ SeqAt.shaped (py d) = true ∧ SeqAt.shaped (py e) = true ∧ Q (.bl (PyData.eqv (py d) (py e))) H
def rNeT (K : PySem.W.Frag) : R2 := fun x y H Q => ∃ b R d e, (∀ a o, R a o → H a = some o) ∧ At K b R d x ∧ At K b R e y ∧ clean d = true ∧ clean e = true ∧ SeqAt.shaped (py d) = true ∧ SeqAt.shaped (py e) = true ∧ Q (.bl (!PyData.eqv (py d) (py e))) H
theorem op_eqT (hu : X.A.units + 64 < cLine) (sy : Sys X.base) : OpR X (compareOp .Eq) (rEqT X.K) := by
  rintro pins s σ H x y v u Q I rx ry ⟨b, R, d, e, hR, h1, h2, c1, c2, s1, s2, q⟩
  obtain ⟨as, r1, _⟩ := At.reads I sy hR d x v h1 rx c1
  obtain ⟨bs, r2, _⟩ := At.reads I sy hR e y u h2 ry c2
  exact SeqAt.compareEq_shaped r1 r2 s1 s2 hu ⟨.bl _, H, I, rfl, q⟩
theorem op_neT (hu : X.A.units + 64 < cLine) (sy : Sys X.base) : OpR X (compareOp .NotEq) (rNeT X.K) := by
  rintro pins s σ H x y v u Q I rx ry ⟨b, R, d, e, hR, h1, h2, c1, c2, s1, s2, q⟩
  obtain ⟨as, r1, _⟩ := At.reads I sy hR d x v h1 rx c1
  obtain ⟨bs, r2, _⟩ := At.reads I sy hR e y u h2 ry c2
  exact SeqAt.compareNe_shaped r1 r2 s1 s2 hu ⟨.bl _, H, I, rfl, q⟩
def plainD (d : D) : Prop := clean d = true ∧ SeqAt.shaped (py d) = true
def fEq : DF2 := fun x y δ Q => plainD x ∧ plainD y ∧ Q (.bl (PyData.eqv (py x) (py y))) δ
def fNe : DF2 := fun x y δ Q => plainD x ∧ plainD y ∧ Q (.bl (!PyData.eqv (py x) (py y))) δ
theorem od_eq {K : PySem.W.Frag} : OpD K (rEqT K) fEq := by
  rintro M σ H δ x y d e Q QD I ha hb ⟨p1, p2, q⟩ k
  exact ⟨M.b, _, d, e, fun _ _ r => r.1, ha, hb, p1.1, p2.1, p1.2, p2.2, k _ H _ δ I (Wi.refl _) (by rfl) q⟩
theorem od_ne {K : PySem.W.Frag} : OpD K (rNeT K) fNe := by
  rintro M σ H δ x y d e Q QD I ha hb ⟨p1, p2, q⟩ k
  exact ⟨M.b, _, d, e, fun _ _ r => r.1, ha, hb, p1.1, p2.1, p1.2, p2.2, k _ H _ δ I (Wi.refl _) (by rfl) q⟩
end
/-! ### built-in functions on trees -/
abbrev DFn := List D → DSt → (D → DSt → Prop) → Prop
def dCB (f : DFn) (t : DTA) : DTE := fun δ Q => t δ fun xs δ1 => f xs δ1 Q
def CallD (K : PySem.W.Frag) (r : List V → Hp → VK → Prop) (f : DFn) : Prop := ∀ (M : Am) (σ : L2.St) (H : Hp) (δ : DSt) (xs : List V) (ds : List D) (Q : VK) (QD : D → DSt → Prop),
  DI K M σ H δ → AtAll K M.b (Ro M σ δ H) ds xs → f ds δ QD →
  (∀ v H' z δ', DI K M σ H' δ' → Wi (Ro M σ δ H) (Ro M σ δ' H') → At K M.b (Ro M σ δ' H') z v → QD z δ' → Q v H') → r xs H Q
theorem rd_cb {K : PySem.W.Frag} {r : List V → Hp → VK → Prop} {f : DFn} {t : DTA} (cd : CallD K r f) {σ : L2.St} {H : Hp} {Q : VK} (h : rd K (dCB f t) σ H Q) : tCB r (rdA K t) σ H Q := by
  obtain ⟨M, δ, QD, I, h, k⟩ := h
  refine rdA_use I h fun xs H1 ds δ1 I1 w1 a1 h1 => ?_
  exact cd M σ H1 δ1 xs ds Q QD I1 a1 h1 fun v H' z δ' I' w' a' q' => k v H' z δ' I' (Wi.trans w1 w') a' q'
section
variable {X : Cx} {K : PySem.W.Frag} {x : Str} {p pos : Pos} {e : Expr} {es : List Expr} {t : DTA} {id T : String} {r : List V → Hp → VK → Prop} {f : DFn}
theorem de_callB (hc : CallR X (.builtin id) r) (cd : CallD K r f) (hg : Gl X x) (hm : X.mg x = none) (hv : bootBuiltins x = some (.builtin id)) (ha : PA X (e :: es) (rdA K t)) (hn : x ≠ "__name__" := by decide) (hdb : (x == ("__debug__" : Str)) = false := by decide)
    (he : starEach (e :: es) X.env = (false, eval e X.env) :: starEach es X.env := by rfl) (hpl : (backTo pos (starEach es X.env)).any (·.1) = false := by rfl) : PE X (.Call (.Name x p) (e :: es) [] pos) (rd K (dCB f t)) :=
  PE.to (pe_callB hc hg hm hv ha hn hdb he hpl) fun _ _ _ h => rd_cb cd h
theorem de_callTy (hc : CallR X (.type T) r) (cd : CallD K r f) (hg : Gl X x) (hm : X.mg x = none) (hv : bootBuiltins x = some (.type T)) (ha : PA X (e :: es) (rdA K t)) (hn : x ≠ "__name__" := by decide) (hdb : (x == ("__debug__" : Str)) = false := by decide)
    (he : starEach (e :: es) X.env = (false, eval e X.env) :: starEach es X.env := by rfl) (hpl : (backTo pos (starEach es X.env)).any (·.1) = false := by rfl) : PE X (.Call (.Name x p) (e :: es) [] pos) (rd K (dCB f t)) :=
  PE.to (pe_callTy hc hg hm hv ha hn hdb he hpl) fun _ _ _ h => rd_cb cd h
def d1 (g : D → DSt → (D → DSt → Prop) → Prop) : DFn := fun xs δ Q => match xs with
  | [x] => g x δ Q
  | _ => False
theorem at1 {b : Addr} {R : Rg} {d : D} {vs : List V} (h : AtAll K b R [d] vs) : ∃ v, vs = [v] ∧ At K b R d v := by
  obtain ⟨x, xs, rfl, h1, h2⟩ := h
  have e : xs = [] := h2
  subst e
  exact ⟨x, rfl, h1⟩
def fRepr : DFn := d1 fun x δ Q => Shows x ∧ Q (.str (py x).shown) δ
theorem cd_repr : CallD K (rRepr K) fRepr := by
  rintro M σ H δ xs ds Q QD I ha h k
  unfold fRepr d1 at h
  split at h
  · rename_i d
    obtain ⟨v, rfl, h1⟩ := at1 ha
    exact ⟨v, M.b, _, d, rfl, fun _ _ r => r.1, h1, h.1, k _ H _ δ I (Wi.refl _) (by rfl) h.2⟩
  · exact h.elim
/-- len -/
def lenD : D → Option Int
  | .lst ds => some ds.length
  | .tup ds => some ds.length
  | .str z => if z.length ≤ sizeLine then some z.length else none
  | _ => none
def rLenT (K : PySem.W.Frag) : List V → Hp → VK → Prop := fun xs H Q => (∃ p ys, xs = [.ref p] ∧ (SqL K H p ys ∨ SqT K H p ys) ∧ Q (.int ys.length) H) ∨ (∃ z, xs = [.str z] ∧ z.length ≤ sizeLine ∧ Q (.int z.length) H)
theorem call_lenT {X : Cx} : CallR X (.builtin "len") (rLenT X.K) := by
  intro pins s σ H xs us Q I r h
  rcases h with h | h
  · exact call_len_seq pins s σ H xs us Q I r h
  · exact call_len_str pins s σ H xs us Q I r h
def fLen : DFn := d1 fun x δ Q => ∃ n, lenD x = some n ∧ Q (.int n) δ
theorem cd_len : CallD K (rLenT K) fLen := by
  rintro M σ H δ xs ds Q QD I ha h k
  unfold fLen d1 at h
  split at h
  · rename_i d
    obtain ⟨v, rfl, h1⟩ := at1 ha
    obtain ⟨n, hn, q⟩ := h
    cases d with
    | lst es =>
      obtain ⟨a, ys, rfl, r, hs⟩ := h1
      have e : n = (es.length : Int) := (Option.some.inj hn).symm
      subst e
      exact Or.inl ⟨a, ys, rfl, Or.inl (Or.inl (Or.inl r.1)), by rw [hs.len]; exact k _ H _ δ I (Wi.refl _) (by rfl) q⟩
    | tup es =>
      obtain ⟨a, ys, rfl, r, hs⟩ := h1
      have e : n = (es.length : Int) := (Option.some.inj hn).symm
      subst e
      exact Or.inl ⟨a, ys, rfl, Or.inr (r.elim (fun z => Or.inl (Or.inl z.1)) KTup.sq), by rw [hs.len]; exact k _ H _ δ I (Wi.refl _) (by rfl) q⟩
    | str z =>
      have e : v = V.str z := h1
      subst e
      have hn' : (if z.length ≤ sizeLine then some (z.length : Int) else none) = some n := hn
      by_cases hz : z.length ≤ sizeLine
      · rw [if_pos hz] at hn'
        cases hn'
        exact Or.inr ⟨z, rfl, hz, k _ H _ δ I (Wi.refl _) (by rfl) q⟩
      · rw [if_neg hz] at hn'
        cases hn'
    | _ => cases hn
  · exact h.elim
/-- isinstance(x, T), T a built-in type -/
def tyN : D → Option String
  | .non => some "NoneType"
  | .bl _ => some "bool"
  | .int _ => some "int"
  | .str _ => some "str"
  | .lst _ => some "list"
  | .tup _ => some "tuple"
  | .dct _ => some "dict"
  | .bag => none
  | .obj _ => none
theorem At.ty {M : Am} {σ : L2.St} {δ : DSt} {H : Hp} {d : D} {x : V} {T : String} (h : At K M.b (Ro M σ δ H) d x) (hT : tyN d = some T) : TyX K H x (.type T) := by
  cases d with
  | non => have e : x = V.non := h; subst e; cases hT; exact .base .non
  | bl _ => have e : x = V.bl _ := h; subst e; cases hT; exact .base (.bl _)
  | int _ => have e : x = V.int _ := h; subst e; cases hT; exact .base (.int _)
  | str _ => have e : x = V.str _ := h; subst e; cases hT; exact .base (.str _)
  | lst _ => obtain ⟨a, xs, e, r, _⟩ := h; subst e; cases hT; exact .base (.lst r.1)
  | tup _ =>
    obtain ⟨a, xs, e, r, _⟩ := h
    subst e
    cases hT
    rcases r with r | ⟨o, its, n, h1, h2, _⟩
    · exact .base (.tup r.1)
    · exact .kTuple h1 h2
  | dct _ => obtain ⟨a, xs, e, r, _⟩ := h; subst e; cases hT; exact .base (.dK r.1)
  | bag => cases hT
  | obj _ => cases hT
/-- isinstance of a tree by one class; other answers for instances are given apart -/
def isD (T : String) : D → Option Bool
  | .non => kitB "NoneType" T
  | .bl _ => kitB "bool" T
  | .int _ => kitB "int" T
  | .str _ => kitB "str" T
  | .lst _ => kitB "list" T
  | .tup _ => kitB "tuple" T
  | .dct _ => kitB "dict" T
  | .bag => none
  | .obj _ => none
/-- what is to be known of a class of the program so that isinstance of its instances by built-in types is told -/
structure OwnC (K : PySem.W.Frag) (C : Addr) : Prop where
  cl : Cls K C
  ha : PySem.W.findIn K (.ref C) "__class__" = some (some (.builtin "object.__class__"))
  hn : PySem.W.specialIn K (.builtin "object.__class__") "__get__" = some (some (.builtin "getset_descriptor.__get__"))
  htk : PySem.W.takesIn K (.builtin "object.__class__") = some true
  hm : PySem.W.mroIn K C (.type "object") = some true
def dIs (K : PySem.W.Frag) (T : String) (te : DTE) : DTE := fun δ Q => te δ fun x δ1 => ∃ c, (isD T x = some c ∨ ∃ C, x = .obj C ∧ OwnC K C ∧ PySem.W.kitOne K (.ref C) (.type T) = some c) ∧ Q (.bl c) δ1
variable {te : DTE} {px : Pos} {T : Str} {Ts : String}
theorem de_isi {K₁ : PySem.W.Frag} {p1 p2 pos : Pos} (hK : X.K = K₁) (hc : X.mg "isinstance" = none) (hg : Gl X "isinstance") (hT : X.mg T = none) (hgT : Gl X T) (hv : bootBuiltins T = some (.type Ts)) (ha : PE X e (rd X.K te))
    (hn : T ≠ "__name__" := by decide) (hdb : (T == ("__debug__" : Str)) = false := by decide)
    (he : starEach [e, .Name T p2] X.env = (false, eval e X.env) :: starEach [.Name T p2] X.env := by rfl) :
    PE X (.Call (.Name "isinstance" p1) [e, .Name T p2] [] pos) (rd X.K (dIs K₁ Ts te)) := by
  subst hK
  refine PE.to (pe_callB (t := tCons (rd X.K te) (tCons (tC (.ty Ts)) tNil)) call_isi hg hc boot_isinstance (pa_cons ha (pa_cons (pe_bltn hgT hT hv rfl hn hdb) pa_nil) he) (by decide) (by decide) he) ?_
  rintro σ H Q ⟨M, δ, QD, I, h, k⟩
  refine rd_use I h fun x H1 d δ1 I1 w1 a1 h1 => ?_
  obtain ⟨c, hc, q⟩ := h1
  refine ⟨x, .ty Ts, ?_⟩
  rcases hc with hc | ⟨C, rfl, oc, hc⟩
  · obtain ⟨N, hN, hk⟩ : ∃ N, tyN d = some N ∧ kitB N Ts = some c := by
      cases d with
      | bag => cases hc
      | obj _ => cases hc
      | _ => exact ⟨_, rfl, hc⟩
    exact ⟨_, _, c, rfl, .ty Ts, a1.ty hN, kit_ty hk, k _ H1 _ δ1 I1 w1 (by rfl) q⟩
  · obtain ⟨a, dx, fs, rfl, r⟩ := a1
    exact ⟨_, _, c, rfl, .ty Ts, .base (.ins r.1 oc.cl oc.ha oc.hn oc.htk oc.hm), hc, k _ H1 _ δ1 I1 w1 (by rfl) q⟩
end
end DL
/-! Statements, loops, comprehensions, calls, defs, in trees. -/
namespace DL
open PySem PySem.Spec PyProof.Rows L2
section
variable {X : Cx} {K : PySem.W.Frag} {M : Am} {σ : L2.St} {H : Hp} {δ : DSt}
theorem Wi.rz : Wi (Ro M σ δ H) (RZ M.Z H) := fun _ _ r => ⟨r.1, r.2.1⟩
theorem EndOk.less {R R' : Rg} {F : DEnds} {E : Ends} (h : EndOk K M R F E) (w : Wi R R') : EndOk K M R' F E :=
  ⟨fun σ H δ I k => h.nx σ H δ I (Wi.trans w k), fun σ H δ I k => h.bk σ H δ I (Wi.trans w k), fun σ H δ I k => h.ct σ H δ I (Wi.trans w k), fun v H d b kp k => h.rt v H d b kp (Wi.trans w k)⟩
/-! ### statements -/
def dSkip : DTS := fun E δ => E.nx δ
def dSeq (t u : DTS) : DTS := fun E δ => t { E with nx := u E } δ
def dRet (te : DTE) : DTS := fun E δ => te δ fun d _ => E.rt d
def dRetN : DTS := fun E _ => E.rt .non
def dSet (i : Nat) (te : DTE) : DTS := fun E δ => te δ fun d δ1 => E.nx (δ1.set i (some (.dat d)))
def dOwn (i : Nat) (t : DTA) : DTS := fun E δ => t δ fun ds δ1 => E.nx (δ1.set i (some (.own ds)))
def dIf (c : DTT) (t u : DTS) : DTS := fun E δ => c δ fun b δ1 => if b = true then t E δ1 else u E δ1
def dDo (te : DTE) : DTS := fun E δ => te δ fun _ δ1 => E.nx δ1
variable {st : Stmt} {ss : List Stmt} {t u : DTS} {te : DTE} {tt : DTT} {ta : DTA} {e : Expr} {pos : Pos}
theorem dss_nil : PSs X [] (rdS K dSkip) := PSs.to pss_nil (by
  rintro E σ H ⟨M, δ, F, I, h, ok⟩
  exact ok.nx σ H δ I (Wi.refl _) h)
theorem dss_cons (h1 : PS X st (rdS K t)) (h2 : PSs X ss (rdS K u)) : PSs X (st :: ss) (rdS K (dSeq t u)) := PSs.to (pss_cons h1 h2) (by
  rintro E σ H ⟨M, δ, F, I, h, ok⟩
  exact ⟨M, δ, _, I, h, ⟨fun σ' H' δ' I' w q => ⟨M, δ', F, I', q, ok.less w⟩, ok.bk, ok.ct, ok.rt⟩⟩)
theorem dss_one (h1 : PS X st (rdS K t)) : PSs X [st] (rdS K (dSeq t dSkip)) := dss_cons h1 dss_nil
theorem ds_ret (he : PE X e (rd K te)) : PS X (.Return (some e) pos) (rdS K (dRet te)) := PS.to (ps_ret he) (by
  rintro E σ H ⟨M, δ, F, I, h, ok⟩
  exact rd_use I h fun v H1 d δ1 I1 w1 a1 q => ok.rt v H1 d I1.bag I1.keep (Wi.trans w1 Wi.rz) (At.mono Wi.rz _ _ a1) q)
theorem ds_retN : PS X (.Return none pos) (rdS K dRetN) := PS.to ps_retN (by
  rintro E σ H ⟨M, δ, F, I, h, ok⟩
  exact ok.rt .non H .non I.bag I.keep Wi.rz (by rfl) h)
theorem ds_if {c : Expr} {a b : List Stmt} (hc : PT X c (rdT K tt)) (ha : PSs X a (rdS K t)) (hb : PSs X b (rdS K u)) : PS X (.If c a b pos) (rdS K (dIf tt t u)) := PS.to (ps_if hc ha hb) (by
  rintro E σ H ⟨M, δ, F, I, h, ok⟩
  refine rdT_use I h fun c H1 δ1 I1 w1 q => ?_
  cases c with
  | true => exact ⟨M, δ1, F, I1, q, ok.less w1⟩
  | false => exact ⟨M, δ1, F, I1, q, ok.less w1⟩)
theorem ds_do (he : PE X e (rd K te)) (hs : swapsWith e none pos.line X.env = pure false := by rfl) : PS X (.Expr e pos) (rdS K (dDo te)) := PS.to (ps_expr he hs) (by
  rintro E σ H ⟨M, δ, F, I, h, ok⟩
  exact rd_use I h fun v H1 d δ1 I1 w1 a1 q => ok.nx σ H1 δ1 I1 w1 q)
theorem ds_set {i : Nat} {x : Str} {pos' : Pos} (hN : X.N.Nodup) (hi : X.N[i]? = some x) (hx : Loc X.env.scope x) (he : PE X e (rd K te)) (hs : swapsWith e (some (.Name x pos')) pos.line X.env = pure false := by rfl)
    (hf : X.fn x = true ∨ X.env.scope.names.lookup x = some .local := by first | exact .inl rfl | exact .inr rfl | assumption) : PS X (.Assign [.Name x pos'] e pos) (rdS K (dSet i te)) := PS.to (ps_set hN hi hx he hs hf) (by
  rintro E σ H ⟨M, δ, F, I, h, ok⟩
  refine rd_use I h fun v H1 d δ1 I1 w1 a1 q => ?_
  obtain ⟨I2, w2⟩ := I1.put i a1
  exact ok.nx _ _ _ I2 (Wi.trans w1 w2) q)
theorem ds_own {i : Nat} {x : Str} {pos' : Pos} (hN : X.N.Nodup) (hi : X.N[i]? = some x) (hx : Loc X.env.scope x) (he : PE X e (rdN K ta)) (hs : swapsWith e (some (.Name x pos')) pos.line X.env = pure false := by rfl)
    (hf : X.fn x = true ∨ X.env.scope.names.lookup x = some .local := by first | exact .inl rfl | exact .inr rfl | assumption) : PS X (.Assign [.Name x pos'] e pos) (rdS K (dOwn i ta)) := PS.to (ps_set hN hi hx he hs hf) (by
  rintro E σ H ⟨M, δ, F, I, h, ok⟩
  refine ⟨M, δ, _, I, h, fun a xs H1 ds δ1 I1 w1 nz h0 hx ha q => ?_⟩
  obtain ⟨I2, w2⟩ := I1.take i hx nz h0 I.zb I.zl ha
  exact ok.nx _ _ _ I2 (Wi.trans w1 w2) q)
/-- a, b = x, y -/
def dPar (i j : Nat) (ta : DTA) : DTS := fun E δ => ta δ fun ds δ1 => ∃ x y, ds = [x, y] ∧ E.nx ((δ1.set i (some (.dat x))).set j (some (.dat y)))
theorem at2 {b : Addr} {R : Rg} {d e : D} {vs : List V} (h : AtAll K b R [d, e] vs) : ∃ v w, vs = [v, w] ∧ At K b R d v ∧ At K b R e w := by
  obtain ⟨x, xs, rfl, h1, h2⟩ := h
  obtain ⟨y, rfl, h3⟩ := at1 h2
  exact ⟨x, y, rfl, h1, h3⟩
theorem ds_par {i j : Nat} {x y : Str} {a b : Expr} {px py pt : Pos} {kt k2 pt2} (hc : X.calm = true) (hN : X.N.Nodup) (hi : X.N[i]? = some x) (hj : X.N[j]? = some y) (hij : i ≠ j)
    (hx : X.env.scope.names.lookup x = some .local) (hy : X.env.scope.names.lookup y = some .local) (ha : PA X [a, b] (rdA K ta))
    (hw : swappedStores [.Tuple [.Name x px, .Name y py] kt pt] (.Tuple [a, b] k2 pt2) X.env = pure (some [x, y]))
    (hs : swapsWithSole [.Tuple [.Name x px, .Name y py] kt pt] (.Tuple [a, b] k2 pt2) pos.line X.env = pure false := by rfl) :
    PS X (.Assign [.Tuple [.Name x px, .Name y py] kt pt] (.Tuple [a, b] k2 pt2) pos) (rdS K (dPar i j ta)) := PS.to (ps_par hc hN hi hj hij hx hy ha hw hs) (by
  rintro E σ H ⟨M, δ, F, I, h, ok⟩
  refine rdA_use I h fun vs H1 ds δ1 I1 w1 a1 q => ?_
  obtain ⟨d, e, rfl, q⟩ := q
  obtain ⟨v, w, rfl, h1, h2⟩ := at2 a1
  obtain ⟨I2, w2⟩ := I1.put i h1
  obtain ⟨I3, w3⟩ := I2.put j (At.mono w2 _ _ h2)
  exact ⟨v, w, rfl, ok.nx _ _ _ I3 (Wi.trans w1 (Wi.trans w2 w3)) q⟩)
/-- a, b = x, [..]: the second is new -/
def dParN (i j : Nat) (te : DTE) (ta : DTA) : DTS := fun E δ => te δ fun x δ1 => ta δ1 fun ds δ2 => E.nx ((δ2.set i (some (.dat x))).set j (some (.own ds)))
def rdPN (K : PySem.W.Frag) (te : DTE) (ta : DTA) : TA := fun σ H Q => rd K te σ H fun v H1 => rdN K ta σ H1 fun w H2 => Q [v, w] H2
/-! ### loops -/
theorem drop_get {α : Type} {l : List α} {i : Nat} {x : α} (h : l[i]? = some x) : l.drop i = x :: l.drop (i + 1) := by
  obtain ⟨h1, h2⟩ := List.getElem?_eq_some_iff.mp h
  subst h2
  exact List.drop_eq_getElem_cons h1
/-- for x in a list or a tuple: P says what holds where such items are left -/
def dFor (isT : Bool) (j : Nat) (te : DTE) (tb : DTS) : DTS := fun E δ => te δ fun d δ1 => ∃ ds, d = (if isT = true then D.tup ds else D.lst ds) ∧ ∃ P : List D → DSt → Prop, P ds δ1 ∧ (∀ δ', P [] δ' → E.nx δ') ∧
  ∀ x xs δ', x ∈ ds → P (x :: xs) δ' → tb { E with nx := P xs, ct := P xs, bk := E.nx } (δ'.set j (some (.dat x)))
def dForR (j : Nat) (ta : DTA) (tb : DTS) : DTS := fun E δ => ta δ fun ds δ1 => ∃ n : Int, ds = [.int n] ∧ -(2 ^ 62) ≤ n ∧ n < 2 ^ 62 ∧ ∃ P : Nat → DSt → Prop, P 0 δ1 ∧ (∀ δ', P n.toNat δ' → E.nx δ') ∧
  ∀ (i : Nat) δ', i < n.toNat → P i δ' → tb { E with nx := P (i + 1), ct := P (i + 1), bk := E.nx } (δ'.set j (some (.dat (.int i))))
/-- what holds ahead of the i-th turn -/
def Lp (K : PySem.W.Frag) (M : Am) (R1 : Rg) (P : DSt → Prop) (σ : L2.St) (H : Hp) : Prop := ∃ δ, DI K M σ H δ ∧ Wi R1 (Ro M σ δ H) ∧ P δ
theorem Lp.turn {R1 : Rg} {F : DEnds} {E : Ends} {P P' : DSt → Prop} {d : D} {y : V} {j : Nat} {tb : DTS} (ok : EndOk K M R1 F E) (p : Lp K M R1 P σ H) (hy : At K M.b R1 d y)
    (step : ∀ δ', P δ' → tb { F with nx := P', ct := P', bk := F.nx } (δ'.set j (some (.dat d)))) : rdS K tb { E with nx := Lp K M R1 P', ct := Lp K M R1 P', bk := E.nx } (σ.set j (some y)) H := by
  obtain ⟨δ', I', w', p⟩ := p
  obtain ⟨I2, w2⟩ := I'.put j (At.mono w' _ _ hy)
  exact ⟨M, _, _, I2, step δ' p, ⟨fun σ3 H3 δ3 I3 w3 q => ⟨δ3, I3, Wi.trans w' (Wi.trans w2 w3), q⟩, fun σ3 H3 δ3 I3 w3 q => ok.nx σ3 H3 δ3 I3 (Wi.trans w' (Wi.trans w2 w3)) q,
    fun σ3 H3 δ3 I3 w3 q => ⟨δ3, I3, Wi.trans w' (Wi.trans w2 w3), q⟩, fun v H3 d3 b3 k3 w3 => ok.rt v H3 d3 b3 k3 (Wi.trans w' (Wi.trans w2 w3))⟩⟩
theorem Lp.done {R1 : Rg} {F : DEnds} {E : Ends} {P : DSt → Prop} (ok : EndOk K M R1 F E) (p : Lp K M R1 P σ H) (fin : ∀ δ', P δ' → F.nx δ') : E.nx σ H := by
  obtain ⟨δ', I', w', p⟩ := p
  exact ok.nx σ H δ' I' w' (fin δ' p)
theorem Lp.imp {R1 : Rg} {P P' : DSt → Prop} (p : Lp K M R1 P σ H) (h : ∀ δ', P δ' → P' δ') : Lp K M R1 P' σ H := by
  obtain ⟨δ', I', w', p⟩ := p
  exact ⟨δ', I', w', h _ p⟩
variable {iter : Expr} {body : List Stmt} {tb : DTS} {j : Nat} {x : Str} {p' : Pos}
theorem ds_forT (pp : PassesOwn (model X.prog X.w) X.A X.env X.xe) (hc : X.calm = true) (he : PE X iter (rd X.K te)) (hN : X.N.Nodup) (hj : X.N[j]? = some x) (hx : Loc X.env.scope x) (hb : PSs X body (rdS X.K tb))
    (hs : ∀ x, foldedSetIterable iter X.env x = pure x := by intro _; rfl) (hf : X.fn x = true ∨ X.env.scope.names.lookup x = some .local := by first | exact .inl rfl | exact .inr rfl | assumption) :
    PS X (.For (.Name x p') iter body [] pos) (rdS X.K (dFor true j te tb)) := PS.to (ps_for pp hc (pi_tup he) (pg_name hN hj hx hf) hb hs) (by
  rintro E σ H ⟨M, δ, F, I, h, ok⟩
  refine rd_use I h fun v H1 d δ1 I1 w1 a1 q => ?_
  obtain ⟨ds, rfl, P, p0, pe, step⟩ := q
  obtain ⟨a, xs, rfl, r, hs⟩ := a1
  have sq : ∀ {σ' : L2.St} {H' : Hp} {Q : DSt → Prop}, Lp X.K M (Ro M σ δ1 H1) Q σ' H' → SqT X.K H' a xs := by
    rintro σ' H' Q ⟨δ', I', w', _⟩
    exact r.elim (fun z => Or.inl (Or.inl (w' _ _ z).1)) KTup.sq
  have ok1 := ok.less w1
  have start : Lp X.K M (Ro M σ δ1 H1) (P (ds.drop 0)) σ H1 := ⟨δ1, I1, Wi.refl _, p0⟩
  refine ⟨a, rfl, ⟨xs, sq start⟩, for_tup (xs := xs) (fun i σ' H' => Lp X.K M (Ro M σ δ1 H1) (P (ds.drop i)) σ' H') start (fun i σ' H' _ p => sq p) (fun i y σ' H' hy p => ?_) (fun σ' H' p => ?_)⟩
  · obtain ⟨d, hd, had⟩ := hs.back hy
    rw [drop_get hd] at p
    exact p.turn ok1 had fun δ' q => step d _ δ' (List.mem_of_getElem? hd) q
  · rw [hs.len, List.drop_length] at p
    exact p.done ok1 pe)
theorem ds_forL (pp : PassesOwn (model X.prog X.w) X.A X.env X.xe) (hc : X.calm = true) (he : PE X iter (rd X.K te)) (hN : X.N.Nodup) (hj : X.N[j]? = some x) (hx : Loc X.env.scope x) (hb : PSs X body (rdS X.K tb))
    (hs : ∀ x, foldedSetIterable iter X.env x = pure x := by intro _; rfl) (hf : X.fn x = true ∨ X.env.scope.names.lookup x = some .local := by first | exact .inl rfl | exact .inr rfl | assumption) :
    PS X (.For (.Name x p') iter body [] pos) (rdS X.K (dFor false j te tb)) := PS.to (ps_for pp hc (pi_list he) (pg_name hN hj hx hf) hb hs) (by
  rintro E σ H ⟨M, δ, F, I, h, ok⟩
  refine rd_use I h fun v H1 d δ1 I1 w1 a1 q => ?_
  obtain ⟨ds, rfl, P, p0, pe, step⟩ := q
  obtain ⟨a, xs, rfl, r, hs⟩ := a1
  have sq : ∀ {σ' : L2.St} {H' : Hp} {Q : DSt → Prop}, Lp X.K M (Ro M σ δ1 H1) Q σ' H' → SqL X.K H' a xs := by
    rintro σ' H' Q ⟨δ', I', w', _⟩
    exact Or.inl (Or.inl (w' _ _ r).1)
  have ok1 := ok.less w1
  have start : Lp X.K M (Ro M σ δ1 H1) (P (ds.drop 0)) σ H1 := ⟨δ1, I1, Wi.refl _, p0⟩
  refine ⟨a, rfl, ⟨xs, sq start⟩, for_list (xs := xs) (fun i σ' H' => Lp X.K M (Ro M σ δ1 H1) (P (ds.drop i)) σ' H') start (fun i σ' H' _ p => sq p) (fun i y σ' H' hy p => ?_) (fun σ' H' p => ?_)⟩
  · obtain ⟨d, hd, had⟩ := hs.back hy
    rw [drop_get hd] at p
    exact p.turn ok1 had fun δ' q => step d _ δ' (List.mem_of_getElem? hd) q
  · rw [hs.len, List.drop_length] at p
    exact p.done ok1 pe)
theorem ds_forR {a : Expr} {p1 p2 : Pos} (pp : PassesOwn (model X.prog X.w) X.A X.env X.xe) (hc : X.calm = true) (hg : Gl X "range") (hm : X.mg "range" = none) (he : PA X [a] (rdA X.K ta)) (hN : X.N.Nodup) (hj : X.N[j]? = some x) (hx : Loc X.env.scope x) (hb : PSs X body (rdS X.K tb))
    (hsa : starEach [a] X.env = [(false, eval a X.env)] := by rfl)
    (hs : ∀ x, foldedSetIterable (.Call (.Name "range" p1) [a] [] p2) X.env x = pure x := by intro _; rfl) (hf : X.fn x = true ∨ X.env.scope.names.lookup x = some .local := by first | exact .inl rfl | exact .inr rfl | assumption) :
    PS X (.For (.Name x p') (.Call (.Name "range" p1) [a] [] p2) body [] pos) (rdS X.K (dForR j ta tb)) := PS.to (ps_for pp hc (pi_range1 hg hm he hsa) (pg_name hN hj hx hf) hb hs) (by
  rintro E σ H ⟨M, δ, F, I, h, ok⟩
  refine rdA_use I h fun vs H1 ds δ1 I1 w1 a1 q => ?_
  obtain ⟨n, rfl, n1, n2, P, p0, pe, step⟩ := q
  obtain ⟨v, rfl, e⟩ := at1 a1
  have e : v = V.int n := e
  subst e
  have ok1 := ok.less w1
  have start : Lp X.K M (Ro M σ δ1 H1) (P 0) σ H1 := ⟨δ1, I1, Wi.refl _, p0⟩
  refine ⟨n, rfl, n1, n2, for_range (lo := 0) (n := n.toNat) (fun i σ' H' => Lp X.K M (Ro M σ δ1 H1) (P i) σ' H') start (fun i σ' H' hi p => ?_) (fun σ' H' p => p.done ok1 pe)⟩
  have e0 : (0 : Int) + (i : Int) = (i : Int) := Int.zero_add _
  show rdS X.K tb _ (σ'.set j (some (.int ((0 : Int) + (i : Int))))) H'
  rw [e0]
  exact p.turn ok1 (d := .int i) (by rfl) fun δ' q => step i δ' hi q)
end
end DL
/-! Comprehensions, calls of defs, subscripts, lists that a slot holds, in trees. -/
namespace DL
open PySem PySem.Spec PyProof.Rows L2
section
variable {X : Cx} {K : PySem.W.Frag} {M : Am} {σ : L2.St} {H : Hp} {δ : DSt} {c : Addr} {o : HO}
/-- an address stands aside, with what it holds told -/
def Am.pin (M : Am) (c : Addr) (o : HO) : Am := { M with Z := fun a => M.Z a ∨ a = c, H0 := upd M.H0 c o }
theorem DI.pin (I : DI K (M.with_ c) σ H δ) (h : H c = some o) : DI K (M.pin c o) σ H δ := by
  refine ⟨I.len, I.bag, I.zb, I.zl, I.lb, I.zin, fun a u n e => ?_, I.dat, fun i ds e => ?_, I.apart⟩
  · by_cases q : a = c
    · subst q
      have e' : upd M.H0 a o a = some u := e
      rw [upd_same] at e'
      cases e'
      exact h
    · have e' : upd M.H0 c o a = some u := e
      rw [upd_ne q] at e'
      exact I.keep a u n e'
  · obtain ⟨a, xs, e1, e2, e3, e4, e5⟩ := I.own i ds e
    have q : a ≠ c := fun z => e3 (Or.inr z)
    exact ⟨a, xs, e1, e2, e3, (upd_ne q).trans e4, e5⟩
theorem DI.unpin (I : DI K (M.pin c o) σ H δ) (h0 : M.H0 c = none) : DI K (M.with_ c) σ H δ := by
  refine ⟨I.len, I.bag, I.zb, I.zl, I.lb, I.zin, fun a u n e => ?_, I.dat, fun i ds e => ?_, I.apart⟩
  · have q : a ≠ c := fun z => by
      have e' : M.H0 a = some u := e
      rw [z, h0] at e'
      cases e'
    exact I.keep a u n ((upd_ne q).trans e)
  · obtain ⟨a, xs, e1, e2, e3, e4, e5⟩ := I.own i ds e
    have q : a ≠ c := fun z => e3 (Or.inr z)
    have e4' : upd M.H0 c o a = none := e4
    rw [upd_ne q] at e4'
    exact ⟨a, xs, e1, e2, e3, e4', e5⟩
theorem DI.held (I : DI K (M.pin c o) σ H δ) (nb : c ≠ M.b) : H c = some o := I.keep c o nb upd_same
/-! ### comprehensions -/
inductive Kd where
  | l | t | s
def signs (z : Str) : List D := z.cps.toList.map fun c => .str ⟨#[c]⟩
def itemsOf : Kd → D → Option (List D)
  | .l, .lst ds => some ds
  | .t, .tup ds => some ds
  | .s, .str z => some (signs z)
  | _, _ => none
/-- P: what holds where such items are left and such ones are made -/
def dLc (kd : Kd) (j : Nat) (t0 : DTE) (tt : DTT) (te : DTE) : DTA := fun δ Q => t0 δ fun d δ1 => ∃ ds, itemsOf kd d = some ds ∧ δ1[j]? = some none ∧ ∃ P : List D → List D → DSt → Prop, P ds [] δ1 ∧ (∀ acc δ', P [] acc δ' → Q acc δ') ∧
  ∀ x xs acc δ', x ∈ ds → P (x :: xs) acc δ' → tt (δ'.set j (some (.dat x))) fun b δ2 => if b = true then te δ2 fun y δ3 => acc.length < sizeLine ∧ P xs (acc ++ [y]) (δ3.set j none) else P xs acc (δ2.set j none)
def dYes : DTT := fun δ Q => Q true δ
/-- ahead of the i-th turn -/
def Cp (K : PySem.W.Frag) (M : Am) (R1 : Rg) (j : Nat) (σ : L2.St) (c : Addr) (P : List D → DSt → Prop) (H : Hp) : Prop := ∃ acc δ ys, DI K (M.with_ c) (σ.set j none) H δ ∧ Wi R1 (Ro (M.with_ c) (σ.set j none) δ H) ∧ H c = some (.lst ys) ∧
  AtAll K M.b (Ro (M.with_ c) (σ.set j none) δ H) acc ys ∧ P acc δ
theorem Cp.turn {R1 : Rg} {j : Nat} {tt : DTT} {te : DTE} {P P' : List D → DSt → Prop} {d : D} {v : V} (cp : Cp K M R1 j σ c P H) (h0 : M.H0 c = none) (nb : c ≠ M.b) (nl : c ≠ M.l) (hv : At K M.b R1 d v)
    (step : ∀ acc δ', P acc δ' → tt (δ'.set j (some (.dat d))) fun b δ2 => if b = true then te δ2 fun y δ3 => acc.length < sizeLine ∧ P' (acc ++ [y]) (δ3.set j none) else P' acc (δ2.set j none)) :
    rdT K tt ((σ.set j none).set j (some v)) H fun b H3 => if b = true then rd K te ((σ.set j none).set j (some v)) H3 fun y H4 => ∃ acc, H4 c = some (.lst acc) ∧ acc.length < sizeLine ∧ Cp K M R1 j σ c P' (upd H4 c (.lst (acc ++ [y]))) else Cp K M R1 j σ c P' H3 := by
  obtain ⟨acc, δ', ys, I, w, hc, ha, p⟩ := cp
  have I1 := I.pin hc
  have w1 : Wi R1 (Ro (M.pin c (.lst ys)) (σ.set j none) δ' H) := w
  obtain ⟨I2, w2⟩ := I1.put j (At.mono w1 _ _ hv)
  have ha2 := AtAll.mono w2 _ _ (show AtAll K M.b (Ro (M.pin c (.lst ys)) (σ.set j none) δ' H) acc ys from ha)
  have drop2 : ((σ.set j none).set j (some v)).set j none = σ.set j none := by rw [List.set_set, List.set_set]
  refine rdT_use I2 (step acc δ' p) fun b H3 δ3 I3 w3 q => ?_
  cases b with
  | false =>
    obtain ⟨I4, w4⟩ := I3.drop j none
    rw [drop2] at I4 w4
    exact ⟨acc, _, ys, I4.unpin h0, Wi.trans w1 (Wi.trans w2 (Wi.trans w3 w4)), I3.held nb, AtAll.mono (Wi.trans w3 w4) _ _ ha2, q⟩
  | true =>
    refine rd_use I3 q fun y H4 e δ4 I4 w4 a4 q4 => ?_
    refine ⟨ys, I4.held nb, by rw [ha.len]; exact q4.1, ?_⟩
    obtain ⟨I5, w5⟩ := (I4.unpin h0).aside (Or.inr rfl) nb nl h0 (.lst (ys ++ [y]))
    obtain ⟨I6, w6⟩ := I5.drop j none
    rw [drop2] at I6 w6
    have w46 : Wi (Ro (M.pin c (.lst ys)) ((σ.set j none).set j (some v)) δ4 H4) (Ro (M.with_ c) (σ.set j none) (δ4.set j none) (upd H4 c (.lst (ys ++ [y])))) := Wi.trans w5 w6
    refine ⟨acc ++ [e], _, ys ++ [y], I6, Wi.trans w1 (Wi.trans w2 (Wi.trans w3 (Wi.trans w4 w46))), upd_same, ?_, q4.2⟩
    exact AtAll.app (AtAll.mono (Wi.trans w3 (Wi.trans w4 w46)) _ _ ha2) (AtAll.one (At.mono w46 _ _ a4))
theorem lc_str {z : Str} {g : TG} {tt : TT} {te : TE} {vs : List Nat} {σ : L2.St} {H1 : Hp} {D0 : Addr} {Qd : Hp → Prop} (Pv : Nat → Hp → Prop) (h0 : Pv 0 (upd H1 D0 (.lst [])))
    (hs : ∀ i c H, z.cps.toList[i]? = some c → Pv i H → g (.str ⟨#[c]⟩) (wipe σ vs) H fun σ2 H2 => wipe σ2 vs = wipe σ vs ∧ tt σ2 H2 fun b H3 =>
      if b = true then te σ2 H3 fun y H4 => ∃ acc, H4 D0 = some (.lst acc) ∧ acc.length < sizeLine ∧ Pv (i + 1) (upd H4 D0 (.lst (acc ++ [y]))) else Pv (i + 1) H3) (hd : ∀ H, Pv z.cps.toList.length H → Qd H) :
    ∃ W : Nat → Nat → Hp → Prop, (∃ m, W 0 m (upd H1 D0 (.lst []))) ∧ ∀ i m H, W i m H →
      ((Its z).stop i H ∧ Qd H) ∨ ((Its z).go i H ∧ ∃ Nx : Hp → Prop, (∀ H', Nx H' → ∃ m', m' < m ∧ W (i + 1) m' H') ∧ ∀ x H', (Its z).yld i H x H' → g x (wipe σ vs) H' fun σ2 H2 => wipe σ2 vs = wipe σ vs ∧ tt σ2 H2 fun b H3 =>
        if b = true then te σ2 H3 fun y H4 => ∃ acc, H4 D0 = some (.lst acc) ∧ acc.length < sizeLine ∧ Nx (upd H4 D0 (.lst (acc ++ [y]))) else Nx H3) := by
  have sz : z.cps.toList.length = z.cps.size := by simp
  refine ⟨fun i m H => m = z.cps.size - i ∧ i ≤ z.cps.size ∧ Pv i H, ⟨z.cps.size, by simp, Nat.zero_le _, h0⟩, ?_⟩
  rintro i m H ⟨rfl, hi, p⟩
  by_cases lt : i < z.cps.size
  · refine Or.inr ⟨lt, Pv (i + 1), fun H' p' => ⟨z.cps.size - (i + 1), by omega, rfl, lt, p'⟩, ?_⟩
    rintro x H' ⟨rfl, c, hc, rfl⟩
    exact hs i c _ (by simpa using hc) p
  · have e : i = z.cps.toList.length := by omega
    exact Or.inl ⟨show z.cps.size ≤ i by omega, hd H (e ▸ p)⟩
def iKd (K : PySem.W.Frag) : Kd → TE → TI
  | .l, t => iList K t
  | .t, t => iTup K t
  | .s, t => iStr t
theorem pi_kd {tg e : Expr} {te : TE} (he : PE X e te) : ∀ kd : Kd, PI X tg e (iKd X.K kd te)
  | .l => pi_list he
  | .t => pi_tup he
  | .s => pi_str he
variable {t0 te : DTE} {tt : DTT} {j : Nat} {x : Str} {p' pos : Pos} {elt iter : Expr} {ifs : List Expr} {scope : Scope}
/-- what a comprehension gives, the list as such -/
theorem rd_lc {kd : Kd} {Q : VK} {σ : L2.St} {H : Hp} (h : rdN X.K (dLc kd j t0 tt te) σ H Q) : tLc (iKd X.K kd (rd X.K t0)) (gName j) (rdT X.K tt) (rd X.K te) [j] σ H Q := by
  obtain ⟨M, δ, QD, I, h, k⟩ := h
  have main : ∀ {v : V} {H1 : Hp} {d : D} {δ1 : DSt}, DI X.K M σ H1 δ1 → Wi (Ro M σ δ H) (Ro M σ δ1 H1) → (∃ ds, itemsOf kd d = some ds ∧ δ1[j]? = some none ∧ ∃ P : List D → List D → DSt → Prop, P ds [] δ1 ∧ (∀ acc δ', P [] acc δ' → QD acc δ') ∧
      ∀ x xs acc δ', x ∈ ds → P (x :: xs) acc δ' → tt (δ'.set j (some (.dat x))) fun b δ2 => if b = true then te δ2 fun y δ3 => acc.length < sizeLine ∧ P xs (acc ++ [y]) (δ3.set j none) else P xs acc (δ2.set j none)) →
      ∃ ds, itemsOf kd d = some ds ∧ ∀ Dl, H1 Dl = none → ∃ P : List D → List D → DSt → Prop, Cp X.K M (Ro M σ δ1 H1) j σ Dl (P ds) (upd H1 Dl (.lst [])) ∧ (∀ H', Cp X.K M (Ro M σ δ1 H1) j σ Dl (P []) H' → Q (.ref Dl) H') ∧
        ∀ x xs v H', x ∈ ds → At X.K M.b (Ro M σ δ1 H1) x v → Cp X.K M (Ro M σ δ1 H1) j σ Dl (P (x :: xs)) H' →
          gName j v (wipe σ [j]) H' fun σ2 H2 => wipe σ2 [j] = wipe σ [j] ∧ rdT X.K tt σ2 H2 fun b H3 =>
            if b = true then rd X.K te σ2 H3 fun y H4 => ∃ acc, H4 Dl = some (.lst acc) ∧ acc.length < sizeLine ∧ Cp X.K M (Ro M σ δ1 H1) j σ Dl (P xs) (upd H4 Dl (.lst (acc ++ [y]))) else Cp X.K M (Ro M σ δ1 H1) j σ Dl (P xs) H3 := by
    rintro v H1 d δ1 I1 w1 ⟨ds, hds, hj, P, p0, pe, step⟩
    refine ⟨ds, hds, fun Dl hD => ⟨P, ?_, fun H' cp => ?_, fun x xs v H' hx hv cp => ?_⟩⟩
    · obtain ⟨I2, w2⟩ := I1.lay hD (.lst [])
      obtain ⟨I3, w3⟩ := I2.drop j none
      rw [set_same hj] at I3 w3
      exact ⟨[], δ1, [], I3, Wi.trans w2 w3, upd_same, rfl, p0⟩
    · obtain ⟨acc, δ', ys, I', w', hc, ha, p⟩ := cp
      obtain ⟨f1, _, _, _, f5⟩ := I1.free hD
      -- the slot's own value is back
      have own : ∀ a, OwnAt σ δ' a → OwnAt (σ.set j none) δ' a := by
        rintro a ⟨i, es, h1, h2⟩
        obtain ⟨a', zs, e1, _⟩ := I'.own i es h1
        rcases set_get e1 with ⟨_, z, _⟩ | ⟨_, z⟩
        · cases z
        · rw [h2] at z
          cases z
          exact ⟨i, es, h1, e1⟩
      have own' : ∀ a, OwnAt (σ.set j none) δ' a → OwnAt σ δ' a := by
        rintro a ⟨i, es, h1, h2⟩
        rcases set_get h2 with ⟨_, z, _⟩ | ⟨_, z⟩
        · cases z
        · exact ⟨i, es, h1, z⟩
      have wb : Wi (Ro (M.with_ Dl) (σ.set j none) δ' H') (Ro (M.with_ Dl) σ δ' H') := fun a o r => ⟨r.1, r.2.1, fun z => r.2.2 (own a z)⟩
      have I'' : DI X.K (M.with_ Dl) σ H' δ' := by
        refine ⟨by rw [← I'.len, List.length_set], I'.bag, I'.zb, I'.zl, I'.lb, I'.zin, I'.keep, fun i d e => ?_, fun i es e => ?_, fun i k a es fs h1 h2 h3 h4 => ?_⟩
        · obtain ⟨u, e1, e2⟩ := I'.dat i d e
          rcases set_get e1 with ⟨_, z, _⟩ | ⟨_, z⟩
          · cases z
          · exact ⟨u, z, At.mono wb _ _ e2⟩
        · obtain ⟨a, zs, e1, e2, e3, e4, e5⟩ := I'.own i es e
          rcases set_get e1 with ⟨_, z, _⟩ | ⟨_, z⟩
          · cases z
          · exact ⟨a, zs, z, e2, e3, e4, AtAll.mono wb _ _ e5⟩
        · have g : ∀ {m : Nat} {hs : List D}, δ'[m]? = some (some (.own hs)) → σ[m]? = some (some (V.ref a)) → (σ.set j none)[m]? = some (some (V.ref a)) := fun {m hs} q1 q2 => by
            obtain ⟨a', zs, e1, _⟩ := I'.own m hs q1
            rcases set_get e1 with ⟨_, z, _⟩ | ⟨_, z⟩
            · cases z
            · rw [q2] at z
              cases z
              exact e1
          exact I'.apart i k a es fs h1 h2 (g h1 h3) (g h2 h4)
      exact k Dl ys H' acc δ' I'' (Wi.trans w1 (Wi.trans w' wb)) f1 f5 hc (AtAll.mono wb _ _ ha) (pe acc δ' p)
    · obtain ⟨f1, f2, f3, f4, f5⟩ := I1.free hD
      have q := Cp.turn (tt := tt) (te := te) (P' := P xs) cp f5 f3 f4 hv fun acc δ' p => step x xs acc δ' hx p
      refine ⟨?_, q⟩
      show ((σ.set j none).set j (some v)).set j none = σ.set j none
      rw [List.set_set, List.set_set]
  cases kd with
  | l =>
    refine rd_use I h fun v H1 d δ1 I1 w1 a1 q => ?_
    obtain ⟨ds, hds, fin⟩ := main (v := v) I1 w1 q
    cases d with
    | lst es =>
      have ee : es = ds := Option.some.inj hds
      subst ee
      obtain ⟨a, xs, rfl, r, hs⟩ := a1
      refine ⟨a, rfl, ⟨xs, Or.inl (Or.inl r.1)⟩, fun Dl hD => ?_⟩
      obtain ⟨P, start, done, turn⟩ := fin Dl hD
      refine lc_list (xs := xs) (fun i H' => Cp X.K M (Ro M σ δ1 H1) j σ Dl (P (es.drop i)) H') start (fun i H' _ cp => ?_) (fun i y H' hy cp => ?_) (fun H' cp => ?_)
      · obtain ⟨_, _, _, _, w', _⟩ := cp
        exact Or.inl (Or.inl (w' _ _ r).1)
      · obtain ⟨d, hd, had⟩ := hs.back hy
        simp only [drop_get hd] at cp
        exact turn d _ y H' (List.mem_of_getElem? hd) had cp
      · rw [hs.len, List.drop_length] at cp
        exact done H' cp
    | _ => cases hds
  | t =>
    refine rd_use I h fun v H1 d δ1 I1 w1 a1 q => ?_
    obtain ⟨ds, hds, fin⟩ := main (v := v) I1 w1 q
    cases d with
    | tup es =>
      have ee : es = ds := Option.some.inj hds
      subst ee
      obtain ⟨a, xs, rfl, r, hs⟩ := a1
      have sq : ∀ {H' : Hp}, Wi (Ro M σ δ1 H1) (fun a o => H' a = some o) → SqT X.K H' a xs := fun w => r.elim (fun z => Or.inl (Or.inl (w _ _ z))) KTup.sq
      refine ⟨a, rfl, ⟨xs, sq fun _ _ z => z.1⟩, fun Dl hD => ?_⟩
      obtain ⟨P, start, done, turn⟩ := fin Dl hD
      refine lc_tup (xs := xs) (fun i H' => Cp X.K M (Ro M σ δ1 H1) j σ Dl (P (es.drop i)) H') start (fun i H' _ cp => ?_) (fun i y H' hy cp => ?_) (fun H' cp => ?_)
      · obtain ⟨_, _, _, _, w', _⟩ := cp
        exact sq fun _ _ z => (w' _ _ z).1
      · obtain ⟨d, hd, had⟩ := hs.back hy
        simp only [drop_get hd] at cp
        exact turn d _ y H' (List.mem_of_getElem? hd) had cp
      · rw [hs.len, List.drop_length] at cp
        exact done H' cp
    | _ => cases hds
  | s =>
    refine rd_use I h fun v H1 d δ1 I1 w1 a1 q => ?_
    obtain ⟨ds, hds, fin⟩ := main (v := v) I1 w1 q
    cases d with
    | str z =>
      cases hds
      have e : v = V.str z := a1
      subst e
      refine ⟨z, rfl, fun Dl hD => ?_⟩
      obtain ⟨P, start, done, turn⟩ := fin Dl hD
      refine lc_str (z := z) (fun i H' => Cp X.K M (Ro M σ δ1 H1) j σ Dl (P ((signs z).drop i)) H') start (fun i c H' hy cp => ?_) (fun H' cp => ?_)
      · have hd : (signs z)[i]? = some (.str ⟨#[c]⟩) := by unfold signs; rw [List.getElem?_map, hy]; rfl
        simp only [drop_get hd] at cp
        exact turn _ _ _ H' (List.mem_of_getElem? hd) (by rfl) cp
      · have hl : (signs z).length = z.cps.toList.length := by unfold signs; rw [List.length_map]
        rw [← hl, List.drop_length] at cp
        exact done H' cp
    | _ => cases hds
def dFr (t : DTA) : DTE := fun δ Q => t δ fun ds δ1 => Q (.lst ds) δ1
theorem rd_fr {t : DTA} {Q : VK} {σ : L2.St} {H : Hp} (h : rd K (dFr t) σ H Q) : rdN K t σ H Q := by
  obtain ⟨M, δ, QD, I, h, k⟩ := h
  refine ⟨M, δ, _, I, h, fun a xs H' ds δ' I' w' nz h0 hx ha q => ?_⟩
  obtain ⟨I2, w2⟩ := I'.back I.zb I.zl
  refine k (.ref a) H' (.lst ds) δ' I2 (Wi.trans w' w2) ⟨a, xs, rfl, ⟨hx, nz, fun z => ?_⟩, AtAll.mono w2 _ _ ha⟩ q
  obtain ⟨i, es, h1, h2⟩ := z
  obtain ⟨a', ys, e1, _, e3, _⟩ := I'.own i es h1
  rw [h2] at e1
  cases e1
  exact e3 (Or.inr rfl)
/-- the list of a new-list reading, as a tree -/
theorem de_fr {e : Expr} {t : DTA} (h : PE X e (rdN K t)) : PE X e (rd K (dFr t)) := PE.to h fun _ _ _ q => rd_fr q
theorem dn_lc (kd : Kd) (hc : X.calm = true) (hN : X.N.Nodup) (hi : PE X iter (rd X.K t0)) (ok : BlkOk X.N X.env.scope scope [(x, j)])
    (hg : ∀ (s : Shared) (H : Hp) (C : Addr) (cl : List (Str × Addr)) (fp : List Addr), PG (X.blk s H scope (compEnvC scope cl C X.env) fp) (.Name x p') (gName j))
    (ht : ∀ (s : Shared) (H : Hp) (C : Addr) (cl : List (Str × Addr)) (fp : List Addr), PTs (X.blk s H scope (compEnvC scope cl C X.env) fp) ifs (rdT X.K tt))
    (he : ∀ (s : Shared) (H : Hp) (C : Addr) (cl : List (Str × Addr)) (fp : List Addr), PE (X.blk s H scope (compEnvC scope cl C X.env) fp) elt (rd X.K te)) (hs : ∀ x, foldedSetIterable iter X.env x = pure x := by intro _; rfl) :
    PE X (.ListComp elt [⟨.Name x p', iter, ifs, 0⟩] scope pos) (rdN X.K (dLc kd j t0 tt te)) :=
  PE.to (pe_lc (own := [(x, j)]) hc hN (pi_kd hi kd) ok hg ht he hs) fun _ _ _ h => rd_lc h
theorem dts_nil : PTs X [] (rdT K dYes) := ⟨fun pins s σ H Q I h => by
  obtain ⟨M, δ, QD, I', h, k⟩ := h
  exact pts_nil.run pins s σ H Q I (k true H δ I' (Wi.refl _) h)⟩
/-! ### calls of defs -/
abbrev DSpec := List D → (D → Prop) → Prop
/-- a def's promise in trees -/
def spD (K : PySem.W.Frag) (φ : DSpec) : Sp := fun vs H Q _ => ∃ b l Z ds QD, Bag b l H ∧ Z b ∧ Z l ∧ l ≠ b ∧ (∀ a, Z a → H a ≠ none) ∧ AtAll K b (RZ Z H) ds vs ∧ φ ds QD ∧
  ∀ v H' d, Bag b l H' → (∀ a o, a ≠ b → H a = some o → H' a = some o) → At K b (RZ Z H') d v → QD d → Q v H'
def dCall (φ : DSpec) (t : DTA) : DTE := fun δ Q => t δ fun ds δ1 => φ ds fun d => Q d δ1
theorem DI.called (I : DI K M σ H δ) {H' : Hp} (bag : Bag M.b M.l H') (kp : ∀ a o, a ≠ M.b → H a = some o → H' a = some o) : DI K M σ H' δ ∧ Wi (Ro M σ δ H) (Ro M σ δ H') := by
  have w : Wi (Ro M σ δ H) (Ro M σ δ H') := fun a o r => ⟨kp a o (fun e => r.2.1 (e ▸ I.zb)) r.1, r.2⟩
  refine ⟨⟨I.len, bag, I.zb, I.zl, I.lb, fun a z q => ?_, fun a o n e => kp a o n (I.keep a o n e), fun i d e => ?_, fun i ds e => ?_, I.apart⟩, w⟩
  · by_cases e : a = M.b
    · obtain ⟨_, _, _, _, e1, _⟩ := bag
      rw [e, e1] at q
      cases q
    · cases h : H a with
      | none => exact I.zin a z h
      | some o =>
        rw [kp a o e h] at q
        cases q
  · obtain ⟨v, e1, e2⟩ := I.dat i d e
    exact ⟨v, e1, At.mono w d v e2⟩
  · obtain ⟨a, xs, e1, e2, e3, e4, e5⟩ := I.own i ds e
    exact ⟨a, xs, e1, kp a _ (fun z => e3 (z ▸ I.zb)) e2, e3, e4, AtAll.mono w ds xs e5⟩
theorem sp_use {φ : DSpec} {vs : List V} {ds : List D} {Q : VK} {QD : D → Prop} {E : XK} (I : DI K M σ H δ) (ha : AtAll K M.b (Ro M σ δ H) ds vs) (h : φ ds QD)
    (k : ∀ v H' d, DI K M σ H' δ → Wi (Ro M σ δ H) (Ro M σ δ H') → At K M.b (Ro M σ δ H') d v → QD d → Q v H') : spD K φ vs H Q E := by
  refine ⟨M.b, M.l, fun a => M.Z a ∨ OwnAt σ δ a, ds, QD, I.bag, Or.inl I.zb, Or.inl I.zl, I.lb, fun a z => z.elim (I.zin a) I.ownIn, AtAll.mono (fun a o r => ⟨r.1, fun z => z.elim r.2.1 r.2.2⟩) _ _ ha, h, fun v H' d bag kp hv q => ?_⟩
  obtain ⟨I', w'⟩ := I.called bag kp
  exact k v H' d I' w' (At.mono (fun a o r => ⟨r.1, fun z => r.2 (Or.inl z), fun z => r.2 (Or.inr z)⟩) _ _ hv) q
variable {P : Program} {w : World} {mg : Str → Option Value} {base : Heap} {k : Nat} {f : Addr} {fd : FuncData} {ps : List Str} {φ : DSpec} {e : Expr} {es : List Expr} {tA : DTA} {p : Pos}
theorem de_call (F : FnG X.prog X.w X.K X.mg X.base CX0 k f fd ps (spD X.K φ)) (gd : X.A.guards = some []) (room : Room k X.A) (gl : Gl X x) (at_ : X.mg x = some (.ref f)) (kp : PySem.W.keepIn X.K (.ref f) = true)
    (bind : Binds X.K fd ps []) (pa : PA X (e :: es) (rdA X.K tA)) (nd : (x == ("__debug__" : Str)) = false := by decide) (hst : starEach (e :: es) X.env = (false, eval e X.env) :: starEach es X.env := by rfl)
    (hnn : (backTo pos (starEach es X.env)).any (·.1) = false := by rfl) : PE X (.Call (.Name x p) (e :: es) [] pos) (rd X.K (dCall φ tA)) := PE.to (pe_callG F gd room gl at_ kp bind .nil pass0 pa nd hst hnn) (by
  rintro σ H Q ⟨M, δ, QD, I, h, k⟩
  refine rdA_use I h fun vs H1 ds δ1 I1 w1 a1 q => ?_
  rw [List.append_nil]
  exact sp_use I1 a1 q fun v H' d I' w' a' q' => k v H' d δ1 I' (Wi.trans w1 w') a' q')
theorem de_call0 (F : FnG X.prog X.w X.K X.mg X.base CX0 k f fd ps (spD X.K φ)) (gd : X.A.guards = some []) (room : Room k X.A) (gl : Gl X x) (at_ : X.mg x = some (.ref f)) (kp : PySem.W.keepIn X.K (.ref f) = true)
    (bind : Binds X.K fd ps []) (nd : (x == ("__debug__" : Str)) = false := by decide) : PE X (.Call (.Name x p) [] [] pos) (rd X.K (dCall φ dNil)) := PE.to (pe_callG0 F gd room gl at_ kp bind .nil pass0 nd) (by
  rintro σ H Q ⟨M, δ, QD, I, h, k⟩
  exact sp_use (vs := []) (ds := []) (E := E0) I (by rfl) h fun v H' d I' w' a' q' => k v H' d δ I' w' a' q')
/-! ### a def by its body -/
def startD (N : List Str) (ds : List D) : DSt := ds.map (fun d => some (Sl.dat d)) ++ List.replicate (N.length - ds.length) none
theorem fn_D {N : List Str} {name qual : Str} {st : Stmt} {t : DTS} (F : Fun K name qual st f fd) (S : FnScope N ps (defScope st)) (arity : ∀ ds Q, φ ds Q → ds.length = ps.length)
    (run : ∀ (cdv : Value) (B : Around) (up : List Env) (z : Shared) (H : Hp) (E : XK), (B.deeper (envOfC qual (defScope st) z.heap.objs.size f cdv)).guards = some [] → Room k (B.deeper (envOfC qual (defScope st) z.heap.objs.size f cdv)) →
      PSs (cxOf CX0 P w K mg base N qual (defScope st) f cdv B up z H E).nox (defBody st) (rdS K t))
    (read : ∀ ds Q, φ ds Q → t { nx := fun _ => Q .non, rt := Q } (startD N ds)) : FnG P w K mg base CX0 (k + 1) f fd ps (spD K φ) := by
  refine fn_ofG F S (fun vs H Q E h => ?_) (fun cdv B up z H vs Q E gd hr h => ⟨_, (run cdv B up z H E gd hr).nox, ?_⟩)
  · obtain ⟨b, l, Z, ds, QD, _, _, _, _, _, ha, hφ, _⟩ := h
    rw [ha.len]
    exact arity ds QD hφ
  · obtain ⟨b, l, Z, ds, QD, bag, zb, zl, lb, zin, ha, hφ, kk⟩ := h
    have nown : ∀ (i : Nat) (es : List D), (startD N ds)[i]? ≠ some (some (.own es)) := by
      intro i es q
      unfold startD at q
      rcases Nat.lt_or_ge i ds.length with hi | hi
      · rw [List.getElem?_append_left (by simpa using hi), List.getElem?_map] at q
        cases e : ds[i]? with
        | none => rw [e] at q; cases q
        | some d => rw [e] at q; cases q
      · rw [List.getElem?_append_right (by simpa using hi), List.getElem?_replicate] at q
        split at q <;> cases q
    have wo : Wi (RZ Z H) (Ro ⟨b, l, Z, H⟩ (start N vs) (startD N ds) H) := fun a o r => ⟨r.1, r.2, fun ⟨i, es, q, _⟩ => nown i es q⟩
    refine ⟨⟨b, l, Z, H⟩, startD N ds, { nx := fun _ => QD .non, rt := QD }, ⟨?_, bag, zb, zl, lb, zin, fun _ _ _ e => e, fun i d q => ?_, fun i es q => absurd q (nown i es), fun i j a es fs q => absurd q (nown i es)⟩, read ds QD hφ, ⟨fun σ' H' δ' I' w' q => ?_, fun _ _ _ _ _ q => q.elim, fun _ _ _ _ _ q => q.elim, fun v H' d bag' kp' w' hv q => kk v H' d bag' kp' hv q⟩⟩
    · unfold L2.start startD
      rw [List.length_append, List.length_append, List.length_map, List.length_map, List.length_replicate, List.length_replicate, ha.len]
    · unfold startD at q
      have hi : i < ds.length := by
        rcases Nat.lt_or_ge i ds.length with hi | hi
        · exact hi
        · rw [List.getElem?_append_right (by simpa using hi), List.getElem?_replicate] at q
          split at q <;> cases q
      rw [List.getElem?_append_left (by simpa using hi), List.getElem?_map] at q
      cases e : ds[i]? with
      | none => rw [e] at q; cases q
      | some d' =>
        rw [e] at q
        cases q
        obtain ⟨v, hv, had⟩ := ha.get e
        refine ⟨v, ?_, At.mono wo _ _ had⟩
        unfold L2.start
        rw [List.getElem?_append_left (by rw [List.length_map, ha.len]; exact hi), List.getElem?_map, hv]
        rfl
    · exact kk .non H' .non I'.bag I'.keep (by rfl) q
end
end DL
/-! == of anything with a text. -/
namespace DL
open PySem PySem.Spec PyProof.Rows L2 SeqAt AutoSeq1 MeetsSeq
theorem dict_not_text (l : Addr) (es : Array DictEntry) (ep : Nat) (dd : Option Addr) (sl : Array (Option Value)) (z : Str) (u : Tok) :
    Meets (Builtin.«dict.__eq__» ⟨[.ref l, .str z u], []⟩) fun _ R q =>
      q.heap.get? l = some ⟨.type "dict", dd, .dict es ep, sl⟩ ∧ R (.ok (.ret .notImplemented)) q :=
  .of_wp fun pg wo ar RR sh hh => by
    obtain ⟨x1, x2, x3, x4, x5⟩ := sh
    obtain ⟨hl, hh⟩ := hh
    have f1 := PySem.F.sub_str_dict
    wp_walk using wpAny_loadPart' hl
    exact ⟨_, rfl, hh⟩
theorem text_not_dict (z : Str) (u : Tok) (l : Addr) (es : Array DictEntry) (ep : Nat) (dd : Option Addr) (sl : Array (Option Value)) :
    Meets (Builtin.«str.__eq__» ⟨[.str z u, .ref l], []⟩) fun _ R q =>
      q.heap.get? l = some ⟨.type "dict", dd, .dict es ep, sl⟩ ∧ R (.ok (.ret .notImplemented)) q :=
  .of_wp fun pg wo ar RR sh hh => by
    obtain ⟨x1, x2, x3, x4, x5⟩ := sh
    obtain ⟨hl, hh⟩ := hh
    wp_walk using wpAny_loadPart' hl, wpAny_load hl
    exact ⟨_, rfl, hh⟩
section
variable {A : Around} {s : Shared}
theorem rc_dict_text {l : Addr} {o : Obj} {es : Array DictEntry} {ep : Nat} (z : Str) (u : Tok) (ho : s.heap.get? l = some o) (hc : o.cls = .type "dict") (hd : o.data = .dict es ep) (hu : A.units < cLine) : RcAt A s (.ref l) (.str z u) false := fun pg wo E Q h => by
  obtain ⟨cl, dd, dt, sl⟩ := o
  simp only at hc hd
  subst hc hd
  refine rc_eq_decline_or (k := false) ⟨_, ho, rfl⟩ (typeIs_str s z u) (by decide) PySem.F.sub_str_dict PySem.F.slot_dict_eq PySem.F.slot_str_eq_refl ?_ ?_ (fun _ q => wpAny_of_eq (rfl : isSame (.ref l) (.str z u) = pure false) q) (.inr hu) h
  · intro Q' q
    exact call_meets PySem.F.slot_dict_eq ⟨_, ho, rfl⟩ PySem.F.entry_dict_eq (PySem.F.args_dict_eq_2 _ _) (dict_not_text l es ep dd sl z u) ⟨ho, q⟩
  · intro Q' q
    exact call_meets PySem.F.slot_str_eq_refl (typeIs_str s z u) PySem.F.entry_str_eq (PySem.F.args_str_eq_2 _ _) (text_not_dict z u l es ep dd sl) ⟨ho, q⟩
theorem rc_text_dict {l : Addr} {o : Obj} {es : Array DictEntry} {ep : Nat} (z : Str) (u : Tok) (ho : s.heap.get? l = some o) (hc : o.cls = .type "dict") (hd : o.data = .dict es ep) (hu : A.units < cLine) : RcAt A s (.str z u) (.ref l) false := fun pg wo E Q h => by
  obtain ⟨cl, dd, dt, sl⟩ := o
  simp only at hc hd
  subst hc hd
  refine rc_eq_decline_or (k := false) (typeIs_str s z u) ⟨_, ho, rfl⟩ (by decide) PySem.F.sub_dict_str PySem.F.slot_str_eq PySem.F.slot_dict_eq_refl ?_ ?_ (fun _ q => wpAny_of_eq (rfl : isSame (.str z u) (.ref l) = pure false) q) (.inr hu) h
  · intro Q' q
    exact call_meets PySem.F.slot_str_eq (typeIs_str s z u) PySem.F.entry_str_eq (PySem.F.args_str_eq_2 _ _) (text_not_dict z u l es ep dd sl) ⟨ho, q⟩
  · intro Q' q
    exact call_meets PySem.F.slot_dict_eq_refl ⟨_, ho, rfl⟩ PySem.F.entry_dict_eq (PySem.F.args_dict_eq_2 _ _) (dict_not_text l es ep dd sl z u) ⟨ho, q⟩
end
end DL
/-! Further operators, subscripts, slices, methods, in trees. -/
namespace DL
open PySem PySem.Spec PyProof.Rows L2
section
variable {X : Cx} {K : PySem.W.Frag}
/-! ### == with a text -/
def eqS : D → Str → Bool
  | .str y, z => y == z
  | _, _ => false
/-- instances of such a class are equal to no text -/
def ObjEq (X : Cx) (C : Addr) : Prop := ∀ (pins : List (Addr × Obj)) (s : Shared) (σ : L2.St) (H : Hp) (a dx : Addr) (fs : List (Str × V)) (z : Str) (u : Tok) (Q : VK), Inv X pins σ H s → H a = some (.ins C dx fs) → Q (.bl false) H →
  wpAny (model X.prog X.w) X.A (compareOp .Eq (.ref a) (.str z u)) (EP X pins σ Q) X.xe s
def okS (OC : Addr → Prop) : D → Prop
  | .obj C => OC C
  | .bag => False
  | _ => True
def rEqS (K : PySem.W.Frag) (OC : Addr → Prop) : R2 := fun x y H Q => ∃ b R d z, (∀ a o, R a o → H a = some o) ∧ At K b R d x ∧ y = .str z ∧ okS OC d ∧ Q (.bl (eqS d z)) H
theorem op_eqS {OC : Addr → Prop} (hu : X.A.units + 64 < cLine) (ob : ∀ C, OC C → ObjEq X C) : OpR X (compareOp .Eq) (rEqS X.K OC) := by
  rintro pins s σ H x y v u Q I rx ry ⟨b, R, d, z, hR, ha, rfl, ok, q⟩
  obtain ⟨t, rfl⟩ := ry
  have fin : ∀ c : Bool, c = eqS d z → EP X pins σ Q (.bool c) s := fun c e => ⟨.bl c, H, I, rfl, e ▸ q⟩
  have hu' : X.A.units < cLine := by omega
  cases d with
  | non =>
    have e : x = V.non := ha
    subst e
    cases rx
    exact SeqAt.RcAt.none_str z t X.prog X.w X.xe _ (fin false rfl)
  | bl c =>
    have e : x = V.bl c := ha
    subst e
    cases rx
    exact SeqAt.RcAt.bool_str c z t X.prog X.w X.xe _ (fin false rfl)
  | int i =>
    have e : x = V.int i := ha
    subst e
    obtain ⟨t', rfl⟩ := rx
    exact SeqAt.RcAt.int_str i t' z t X.prog X.w X.xe _ (fin false rfl)
  | str y =>
    have e : x = V.str y := ha
    subst e
    obtain ⟨t', rfl⟩ := rx
    exact SeqAt.RcAt.str_str y t' z t X.prog X.w X.xe _ (fin _ rfl)
  | lst ds =>
    obtain ⟨a, xs, rfl, r, _⟩ := ha
    cases rx
    obtain ⟨_, its, n, rv, ho⟩ := (show ObjOk X.prog X.w H s.heap a (.lst xs) from I.hok a _ (hR _ _ r))
    exact SeqAt.RcAt.list_str (items := its.toArray) z t ⟨_, ho, rfl, n, rfl⟩ hu' X.prog X.w X.xe _ (fin false rfl)
  | tup ds =>
    obtain ⟨a, xs, rfl, r, _⟩ := ha
    cases rx
    have sq : SqT X.K H a xs := r.elim (fun z => Or.inl (Or.inl (hR _ _ z))) KTup.sq
    obtain ⟨its, rv, ⟨o, ho, hc, n, hd⟩, _⟩ := I.tuple sq
    exact SeqAt.RcAt.tuple_str (items := its.toArray) z t ⟨o, ho, hc, n, hd⟩ hu' X.prog X.w X.xe _ (fin false rfl)
  | dct ks =>
    obtain ⟨a, xs, rfl, r, _⟩ := ha
    cases rx
    obtain ⟨_, _, vs, _, o, es, ep, ho, hx, hd, _⟩ := (show ObjOk X.prog X.w H s.heap a (.dK xs) from I.hok a _ (hR _ _ r))
    exact rc_dict_text z t ho hx.1 hd hu' X.prog X.w X.xe _ (fin false rfl)
  | bag => exact ok.elim
  | obj C =>
    obtain ⟨a, dx, fs, rfl, r⟩ := ha
    cases rx
    exact ob C ok pins s σ H a dx fs z t Q I (hR _ _ r) q
def fEqS (OC : Addr → Prop) : DF2 := fun x y δ Q => ∃ z, y = .str z ∧ okS OC x ∧ Q (.bl (eqS x z)) δ
theorem od_eqS {OC : Addr → Prop} : OpD K (rEqS K OC) (fEqS OC) := by
  rintro M σ H δ x y d e Q QD I ha hb ⟨z, rfl, ok, q⟩ k
  exact ⟨M.b, _, d, z, fun _ _ r => r.1, ha, hb, ok, k _ H _ δ I (Wi.refl _) (by rfl) q⟩
/-- scalars by == and != -/
def scD : D → D → Option Bool
  | .int i, .int j => some (decide (i = j))
  | .str i, .str j => some (decide (i = j))
  | .bl i, .bl j => some (decide (i = j))
  | _, _ => none
def fEqC : DF2 := dP2 fun x y => (scD x y).map D.bl
def fNeC : DF2 := dP2 fun x y => (scD x y).map fun c => D.bl (!c)
theorem sc_of {d e : D} {c : Bool} {b : Addr} {R : Rg} {x y : V} (h : scD d e = some c) (ha : At K b R d x) (hb : At K b R e y) : scal x y = true ∧ decide (x = y) = c := by
  cases d with
  | int i =>
    cases e with
    | int j =>
      have e1 : x = V.int i := ha
      have e2 : y = V.int j := hb
      subst e1 e2
      cases h
      exact ⟨rfl, by by_cases h : i = j <;> simp [h]⟩
    | _ => cases h
  | str i =>
    cases e with
    | str j =>
      have e1 : x = V.str i := ha
      have e2 : y = V.str j := hb
      subst e1 e2
      cases h
      exact ⟨rfl, by by_cases h : i = j <;> simp [h]⟩
    | _ => cases h
  | bl i =>
    cases e with
    | bl j =>
      have e1 : x = V.bl i := ha
      have e2 : y = V.bl j := hb
      subst e1 e2
      cases h
      exact ⟨rfl, by rw [dec_bl]; cases i <;> cases j <;> rfl⟩
    | _ => cases h
  | _ => cases h
theorem od_eqC : OpD K rEq fEqC := opP (by
  intro b R H x y d e z Q ha hb hR hz q
  cases hc : scD d e with
  | none => rw [hc] at hz; cases hz
  | some c =>
    rw [hc] at hz
    cases hz
    obtain ⟨h1, h2⟩ := sc_of hc ha hb
    exact ⟨h1, by rw [h2]; exact q _ fun _ => rfl⟩)
theorem od_neC : OpD K rNe fNeC := opP (by
  intro b R H x y d e z Q ha hb hR hz q
  cases hc : scD d e with
  | none => rw [hc] at hz; cases hz
  | some c =>
    rw [hc] at hz
    cases hz
    obtain ⟨h1, h2⟩ := sc_of hc ha hb
    exact ⟨h1, by rw [h2]; exact q _ fun _ => rfl⟩)
/-- is, is not of truths -/
def fIsB : DF2 := fun x y δ Q => ∃ a b, x = .bl a ∧ y = .bl b ∧ Q (.bl (decide (a = b))) δ
def fNotB : DF2 := fun x y δ Q => ∃ a b, x = .bl a ∧ y = .bl b ∧ Q (.bl (!decide (a = b))) δ
theorem od_isB : OpD K rIsB fIsB := by
  rintro M σ H δ x y d e Q QD I ha hb ⟨a, b, rfl, rfl, q⟩ k
  exact ⟨a, b, ha, hb, k _ H _ δ I (Wi.refl _) (by rfl) q⟩
theorem od_notB : OpD K rNotB fNotB := by
  rintro M σ H δ x y d e Q QD I ha hb ⟨a, b, rfl, rfl, q⟩ k
  exact ⟨a, b, ha, hb, k _ H _ δ I (Wi.refl _) (by rfl) q⟩
/-! ### texts, lists -/
def fAddS : DF2 := fun x y δ Q => ∃ i j, x = .str i ∧ y = .str j ∧ i.length + j.length ≤ sizeLine ∧ Q (.str (i ++ j)) δ
theorem od_addS : OpD K (fun x y H Q => ∃ i j, x = .str i ∧ y = .str j ∧ i.length + j.length ≤ sizeLine ∧ Q (.str (i ++ j)) H) fAddS := by
  rintro M σ H δ x y d e Q QD I ha hb ⟨i, j, rfl, rfl, z, q⟩ k
  exact ⟨i, j, ha, hb, z, k _ H _ δ I (Wi.refl _) (by rfl) q⟩
def fCat : DF2 := fun x y δ Q => ∃ i j, x = .lst i ∧ y = .lst j ∧ i.length + j.length ≤ sizeLine ∧ Q (.lst (i ++ j)) δ
theorem od_cat : OpD K rCat fCat := by
  rintro M σ H δ x y d e Q QD I ha hb ⟨i, j, rfl, rfl, z, q⟩ k
  obtain ⟨a, xs, rfl, r1, h1⟩ := ha
  obtain ⟨b, ys, rfl, r2, h2⟩ := hb
  refine ⟨a, b, xs, ys, rfl, rfl, r1.1, r2.1, by rw [h1.len, h2.len]; exact z, fun p hp => ?_⟩
  obtain ⟨I2, w2, r⟩ := I.laid hp (.lst (xs ++ ys))
  exact k _ _ (.lst (i ++ j)) δ I2 w2 ⟨p, _, rfl, r, AtAll.app (AtAll.mono w2 _ _ h1) (AtAll.mono w2 _ _ h2)⟩ q
theorem AtAll.flat {b : Addr} {R : Rg} {ds : List D} {vs : List V} (h : AtAll K b R ds vs) : ∀ n : Nat, AtAll K b R (List.replicate n ds).flatten (List.replicate n vs).flatten
  | 0 => by simp [AtAll]
  | n + 1 => by
    rw [List.replicate_succ, List.replicate_succ, List.flatten_cons, List.flatten_cons]
    exact AtAll.app h (AtAll.flat h n)
def fRep : DF2 := fun x y δ Q => ∃ i n, x = .lst i ∧ y = .int n ∧ -(2 ^ 63) ≤ n ∧ n < 2 ^ 63 ∧ i.length * n.toNat ≤ sizeLine ∧ Q (.lst (List.replicate n.toNat i).flatten) δ
theorem od_rep : OpD K rRep fRep := by
  rintro M σ H δ x y d e Q QD I ha hb ⟨i, n, rfl, rfl, n1, n2, z, q⟩ k
  obtain ⟨a, xs, rfl, r1, h1⟩ := ha
  have e : y = V.int n := hb
  subst e
  refine ⟨a, n, xs, rfl, rfl, r1.1, n1, n2, by rw [h1.len]; exact z, fun p hp => ?_⟩
  obtain ⟨I2, w2, r⟩ := I.laid hp (.lst (List.replicate n.toNat xs).flatten)
  exact k _ _ (.lst _) δ I2 w2 ⟨p, _, rfl, r, AtAll.flat (AtAll.mono w2 _ _ h1) _⟩ q
/-- text * int -/
def repS (x : Str) (n : Nat) : Str := ⟨(List.replicate n x.cps).foldl (· ++ ·) #[]⟩
def rRepS : R2 := fun x y H Q => ∃ z n, x = .str z ∧ y = .int n ∧ 2 ≤ n ∧ n ≤ 1000 ∧ 0 < z.length ∧ z.length ≤ 10000 ∧ Q (.str (repS z n.toNat)) H
theorem op_repS : OpR X (binaryOp .Mult) rRepS := by
  rintro pins s σ H x y v u Q I rx ry ⟨z, n, rfl, rfl, n1, n2, z0, z1, q⟩
  obtain ⟨t, rfl⟩ := rx
  obtain ⟨t', rfl⟩ := ry
  have c1 : ¬ n < 1 := by omega
  have c2 : ¬ ((n == 1 || z.length == 0) = true) := by simp; omega
  have nn : z.length * n.toNat ≤ 10000 * 1000 := Nat.mul_le_mul z1 (by omega)
  have hz := (show (10000 * 1000 : Nat) ≤ sizeLine by decide)
  have tl : decide (z.length * n.toNat > sizeLine) = false := decide_eq_false (by omega)
  refine PySem.P.mul_str (by
    have h1 : ¬ n < -(2 ^ 63 : Int) := by omega
    have h2 : ¬ n ≥ 2 ^ 63 := by omega
    rw [decide_eq_false h1, decide_eq_false h2]
    rfl) (fun _ _ => ?_) (fun _ _ => tl) ?_
  · have h3 : (10000 : Int) ≤ (2 ^ 63 - 1) / n := (Int.le_ediv_iff_mul_le (by omega)).mpr (by omega)
    omega
  · rw [if_neg c1, if_neg c2]
    exact ⟨by
      have e : (repS z n.toNat).length = z.length * n.toNat := by
        unfold repS
        have gen : ∀ (m : Nat) (acc : Array Nat), ((List.replicate m z.cps).foldl (· ++ ·) acc).size = acc.size + z.cps.size * m := by
          intro m
          induction m with
          | zero => intro acc; simp
          | succ m ih => intro acc; rw [List.replicate_succ, List.foldl_cons, ih]; simp; rw [Nat.mul_succ]; omega
        have g := gen n.toNat #[]
        simpa [Str.length] using g
      have hz := (show (10000 * 1000 : Nat) ≤ sizeLine by decide)
      show (repS z n.toNat).length ≤ sizeLine
      omega, .str (repS z n.toNat), H, I.tok _, ⟨_, rfl⟩, q⟩
end
end DL
/-! Subscripts, slices, membership, chains, lists that a slot holds, methods, in trees. -/
namespace DL
open PySem PySem.Spec PyProof.Rows L2
section
variable {X : Cx} {K : PySem.W.Frag} {a b c e : Expr} {ta tb tc te : DTE} {pos : Pos} {M : Am} {σ : L2.St} {H : Hp} {δ : DSt}
/-! ### membership -/
def strsOf (ds : List D) : Option (List Str) := ds.mapM fun d => match d with | .str z => some z | _ => none
def itemsLT : D → Option (List D)
  | .lst ds => some ds
  | .tup ds => some ds
  | _ => none
def fIn (neg : Bool) : DF2 := fun x y δ Q => ∃ (z : Str) (ds : List D) (ws : List Str), x = .str z ∧ itemsLT y = some ds ∧ ds = ws.map D.str ∧ Q (.bl (if neg then !decide (z ∈ ws) else decide (z ∈ ws))) δ
theorem at_strs {b : Addr} {R : Rg} : ∀ {ws : List Str} {vs : List V}, AtAll K b R (ws.map D.str) vs → vs = ws.map V.str
  | [], _, e => e
  | w :: ws, _, ⟨x, xs, e, h1, h2⟩ => by
    have e1 : x = V.str w := h1
    subst e e1
    rw [at_strs h2]
    rfl
theorem inV_strs (z : Str) : ∀ ws : List Str, inV (.str z) (ws.map V.str) = decide (z ∈ ws)
  | [] => by simp [inV]
  | w :: ws => by
    have ih := inV_strs z ws
    unfold inV at ih ⊢
    rw [List.map_cons, List.any_cons, ih]
    have e : eqV (V.str w) (V.str z) = decide (z = w) := by
      show (w == z) = decide (z = w)
      by_cases h : z = w
      · subst h; simp
      · have h' : ¬ w = z := fun q => h q.symm
        simp [h, h']
    rw [e]
    by_cases h : z = w <;> simp [h]
theorem flat_strs (ws : List Str) : (ws.map V.str).all flatV = true := by simp [flatV]
theorem od_in (neg : Bool) : OpD K (rIn K neg) (fIn neg) := by
  rintro M σ H δ x y d e Q QD I ha hb ⟨z, ds, ws, rfl, hds, rfl, q⟩ k
  have e1 : x = V.str z := ha
  subst e1
  cases e with
  | lst es =>
    have ee : es = ws.map D.str := Option.some.inj hds
    subst ee
    obtain ⟨p, xs, rfl, r, hs⟩ := hb
    have ex := at_strs hs
    subst ex
    exact ⟨p, _, rfl, Or.inl (Or.inl (Or.inl r.1)), rfl, flat_strs ws, by rw [inV_strs]; exact k _ H _ δ I (Wi.refl _) (by rfl) q⟩
  | tup es =>
    have ee : es = ws.map D.str := Option.some.inj hds
    subst ee
    obtain ⟨p, xs, rfl, r, hs⟩ := hb
    have ex := at_strs hs
    subst ex
    exact ⟨p, _, rfl, Or.inr (r.elim (fun z => Or.inl (Or.inl z.1)) KTup.sq), rfl, flat_strs ws, by rw [inV_strs]; exact k _ H _ δ I (Wi.refl _) (by rfl) q⟩
  | _ => cases hds
/-- one sign in a text -/
def fInS (neg : Bool) : DF2 := fun x y δ Q => ∃ (c : Nat) (z : Str), x = .str ⟨#[c]⟩ ∧ y = .str z ∧ Q (.bl (if neg then !decide (c ∈ z.cps.toList) else decide (c ∈ z.cps.toList))) δ
theorem od_inS : OpD K (fun x y H Q => ∃ (c : Nat) (z : Str), x = .str ⟨#[c]⟩ ∧ y = .str z ∧ Q (.bl (decide (c ∈ z.cps.toList))) H) (fInS false) := by
  rintro M σ H δ x y d e Q QD I ha hb ⟨c, z, rfl, rfl, q⟩ k
  exact ⟨c, z, ha, hb, k _ H _ δ I (Wi.refl _) (by rfl) q⟩
theorem od_ninS : OpD K (fun x y H Q => ∃ (c : Nat) (z : Str), x = .str ⟨#[c]⟩ ∧ y = .str z ∧ Q (.bl (!decide (c ∈ z.cps.toList))) H) (fInS true) := by
  rintro M σ H δ x y d e Q QD I ha hb ⟨c, z, rfl, rfl, q⟩ k
  exact ⟨c, z, ha, hb, k _ H _ δ I (Wi.refl _) (by rfl) q⟩
/-- <= of texts -/
def fLeS : DF2 := fun x y δ Q => ∃ i j, x = .str i ∧ y = .str j ∧ Q (.bl (!decide (j.cps.toList < i.cps.toList))) δ
theorem od_leS : OpD K (fun x y H Q => ∃ i j, x = .str i ∧ y = .str j ∧ Q (.bl (!decide (j.cps.toList < i.cps.toList))) H) fLeS := by
  rintro M σ H δ x y d e Q QD I ha hb ⟨i, j, rfl, rfl, q⟩ k
  exact ⟨i, j, ha, hb, k _ H _ δ I (Wi.refl _) (by rfl) q⟩
/-! ### chains -/
def dChain (f f' : DF2) (ta tb tc : DTE) : DTE := fun δ Q => ta δ fun x δ1 => tb δ1 fun y δ2 => f x y δ2 fun z δ3 => ∃ k, z = .bl k ∧ if k = true then tc δ3 fun w δ4 => f' y w δ4 Q else Q (.bl false) δ3
theorem rd_chain {r r' : R2} {f f' : DF2} {Q : VK} (od : OpD K r f) (od' : OpD K r' f') (h : rd K (dChain f f' ta tb tc) σ H Q) : tChain r r' (rd K ta) (rd K tb) (rd K tc) σ H Q := by
  obtain ⟨M, δ, QD, I, h, k⟩ := h
  refine rd_use I h fun x H1 d δ1 I1 w1 a1 h1 => rd_use I1 h1 fun y H2 e δ2 I2 w2 a2 h2 => ?_
  refine od M σ H2 δ2 x y d e _ _ I2 (At.mono w2 _ _ a1) a2 h2 fun v H3 z δ3 I3 w3 a3 q3 => ?_
  obtain ⟨c, rfl, q3⟩ := q3
  refine ⟨c, a3, ?_⟩
  cases c with
  | false => exact k _ H3 _ δ3 I3 (Wi.trans w1 (Wi.trans w2 w3)) (by rfl) q3
  | true =>
    refine rd_use I3 q3 fun w' H4 g δ4 I4 w4 a4 q4 => ?_
    exact od' M σ H4 δ4 y w' e g Q QD I4 (At.mono (Wi.trans w3 w4) _ _ a2) a4 q4 fun v H' z δ' I' w' a' q' => k v H' z δ' I' (Wi.trans w1 (Wi.trans w2 (Wi.trans w3 (Wi.trans w4 w')))) a' q'
theorem de_chain {op op' : CmpOp} {r r' : R2} {f f' : DF2} (ho : OpR X (compareOp op) r) (ho' : OpR X (compareOp op') r') (od : OpD K r f) (od' : OpD K r' f') (ha : PE X a (rd K ta)) (hb : PE X b (rd K tb)) (hc : PE X c (rd K tc))
    (hm : lastMarks [op, op'] [b, c] = false := by with_unfolding_all rfl) : PE X (.Compare a [op, op'] [b, c] pos) (rd K (dChain f f' ta tb tc)) := PE.to (pe_chain ho ho' ha hb hc hm) fun _ _ _ h => rd_chain od od' h
theorem dt_chain {op op' : CmpOp} {r r' : R2} {f f' : DF2} (ho : OpR X (compareOp op) r) (ho' : OpR X (compareOp op') r') (od : OpD K r f) (od' : OpD K r' f') (ha : PE X a (rd K ta)) (hb : PE X b (rd K tb)) (hc : PE X c (rd K tc))
    (hm : lastMarks [op, op'] [b, c] = false := by with_unfolding_all rfl) : PT X (.Compare a [op, op'] [b, c] pos) (rdT K (dTest (dChain f f' ta tb tc))) := by
  refine PT.to (pt_chain ho ho' ha hb hc hm) fun σ H Q h => ?_
  obtain ⟨M, δ, QD, I, h, k⟩ := h
  refine rd_chain od od' ⟨M, δ, _, I, h, fun x H1 d δ1 I1 w1 a1 h1 => ?_⟩
  obtain ⟨c, rfl, q⟩ := h1
  exact ⟨c, a1, k c H1 δ1 I1 w1 q⟩
/-! ### subscripts -/
def ixD : D → Int → Option D
  | .lst ds, i => atI ds i
  | .tup ds, i => atI ds i
  | .str z, i => if z.length ≤ sizeLine then (atI z.cps.toList i).map fun c => .str ⟨#[c]⟩ else none
  | _, _ => none
theorem at_ix {b : Addr} {R : Rg} {ds : List D} {vs : List V} {i : Int} {d : D} (h : AtAll K b R ds vs) (hd : atI ds i = some d) : ∃ v, atI vs i = some v ∧ At K b R d v := by
  unfold atI at hd ⊢
  rw [h.len]
  cases hj : ixN ds.length i with
  | none => rw [hj] at hd; cases hd
  | some j =>
    rw [hj] at hd
    exact h.get hd
def fIx : DF2 := fun x y δ Q => ∃ i z, y = .int i ∧ ixD x i = some z ∧ Q z δ
theorem od_ix : OpD K (rIx K) fIx := by
  rintro M σ H δ x y d e Q QD I ha hb ⟨i, z, rfl, hz, q⟩ k
  have e2 : y = V.int i := hb
  subst e2
  cases d with
  | lst ds =>
    obtain ⟨p, xs, rfl, r, hs⟩ := ha
    obtain ⟨v, h1, h2⟩ := at_ix hs hz
    exact Or.inl ⟨p, xs, i, v, rfl, rfl, Or.inl (Or.inl r.1), h1, k _ H _ δ I (Wi.refl _) h2 q⟩
  | tup ds =>
    obtain ⟨p, xs, rfl, r, hs⟩ := ha
    obtain ⟨v, h1, h2⟩ := at_ix hs hz
    exact Or.inr (Or.inl ⟨p, xs, i, v, rfl, rfl, r.elim (fun z => Or.inl (Or.inl z.1)) KTup.sq, h1, k _ H _ δ I (Wi.refl _) h2 q⟩)
  | str w =>
    have e1 : x = V.str w := ha
    subst e1
    have hz' : (if w.length ≤ sizeLine then (atI w.cps.toList i).map (fun c => D.str ⟨#[c]⟩) else none) = some z := hz
    by_cases hl : w.length ≤ sizeLine
    · rw [if_pos hl] at hz'
      cases hc : atI w.cps.toList i with
      | none => rw [hc] at hz'; cases hz'
      | some c =>
        rw [hc] at hz'
        cases hz'
        exact Or.inr (Or.inr ⟨w, i, c, rfl, rfl, hl, hc, k _ H _ δ I (Wi.refl _) (by rfl) q⟩)
    · rw [if_neg hl] at hz'
      cases hz'
  | _ => cases hz
theorem de_ix (ha : PE X a (rd X.K ta)) (hb : PE X b (rd X.K tb)) (hs : PlainIx b) : PE X (.Subscript a b pos) (rd X.K (dOp fIx ta tb)) := PE.to (pe_ix ix_seq ha hb hs) fun _ _ _ h => rd_op od_ix h
/-! ### slices -/
abbrev DTO := DSt → (Option Int → DSt → Prop) → Prop
def rdO (K : PySem.W.Frag) (t : DTO) : TO := fun σ H Q => ∃ M δ QD, DI K M σ H δ ∧ t δ QD ∧ ∀ c H' δ', DI K M σ H' δ' → Wi (Ro M σ δ H) (Ro M σ δ' H') → QD c δ' → Q c H'
def dNoPart : DTO := fun δ Q => Q none δ
def dPart (t : DTE) : DTO := fun δ Q => t δ fun d δ1 => ∃ i, d = .int i ∧ Q (some i) δ1
theorem PO.to {o : Option Expr} {t t' : TO} (h : PO X o t) (k : ∀ σ H Q, t' σ H Q → t σ H Q) : PO X o t' := ⟨fun pins s σ H Q I q => h.run pins s σ H Q I (k _ _ _ q)⟩
theorem do_none : PO X none (rdO K dNoPart) := PO.to po_none (by
  rintro σ H Q ⟨M, δ, QD, I, h, k⟩
  exact k none H δ I (Wi.refl _) h)
theorem do_some (h : PE X e (rd K te)) : PO X (some e) (rdO K (dPart te)) := PO.to (po_some h) (by
  rintro σ H Q ⟨M, δ, QD, I, h, k⟩
  refine rd_use I h fun v H1 d δ1 I1 w1 a1 q => ?_
  obtain ⟨i, rfl, q⟩ := q
  exact ⟨i, a1, k (some i) H1 δ1 I1 w1 q⟩)
def cutD (ds : List D) (lo hi : Option Int) : List D := (ds.drop (HT.sIx ds.length 0 lo)).take (HT.sIx ds.length ds.length hi - HT.sIx ds.length 0 lo)
theorem AtAll.cut {b : Addr} {R : Rg} {ds : List D} {vs : List V} (h : AtAll K b R ds vs) (lo hi : Option Int) : AtAll K b R (cutD ds lo hi) (cutV vs lo hi) := by
  unfold cutD cutV
  rw [h.len]
  exact AtAll.take _ (AtAll.drop _ h)
def slD (x : D) (lo hi : Option Int) : Option D := match x with
  | .lst ds => some (.lst (cutD ds lo hi))
  | .tup ds => some (.tup (cutD ds lo hi))
  | .str z => if z.length ≤ sizeLine then some (.str (cutS z lo hi)) else none
  | _ => none
def dSl (te : DTE) (tl th : DTO) : DTE := fun δ Q => te δ fun x δ1 => tl δ1 fun lo δ2 => th δ2 fun hi δ3 => ∃ z, slD x lo hi = some z ∧ Q z δ3
def rSlD (K : PySem.W.Frag) : V → Option Int → Option Int → Hp → VK → Prop := fun x lo hi H Q => rSlL K x lo hi H Q ∨ rSlA K x lo hi H Q ∨ rSlS x lo hi H Q
theorem sl_any : SlR X (rSlD X.K) := sl_list.or (sl_tupA.or sl_str)
theorem AtAll.whole {b : Addr} {R : Rg} {ds : List D} {vs : List V} (h : AtAll K b R ds vs) {lo hi : Option Int} (hw : HT.sIx vs.length 0 lo = 0 ∧ HT.sIx vs.length vs.length hi = vs.length) : cutD ds lo hi = ds := by
  unfold cutD
  rw [← h.len, hw.1, hw.2, List.drop_zero, Nat.sub_zero, h.len, List.take_length]
theorem de_sl {lo hi : Option Expr} {tl th : DTO} {p2 : Pos} (he : PE X e (rd X.K te)) (hl : PO X lo (rdO X.K tl)) (hu : PO X hi (rdO X.K th)) : PE X (.Subscript e (.Slice lo hi none p2) pos) (rd X.K (dSl te tl th)) := PE.to (pe_slice sl_any he hl hu) (by
  rintro σ H Q ⟨M, δ, QD, I, h, k⟩
  refine rd_use I h fun x H1 d δ1 I1 w1 a1 h1 => ?_
  obtain ⟨M', δ', QD', I', h1, k1⟩ : ∃ M' δ' QD', DI X.K M' σ H1 δ' ∧ tl δ' QD' ∧ (M' = M ∧ δ' = δ1 ∧ QD' = fun lo δ2 => th δ2 fun hi δ3 => ∃ z, slD d lo hi = some z ∧ QD z δ3) := ⟨M, δ1, _, I1, h1, rfl, rfl, rfl⟩
  obtain ⟨rfl, rfl, rfl⟩ := k1
  refine ⟨_, _, _, I', h1, fun lo H2 δ2 I2 w2 h2 => ⟨_, _, _, I2, h2, fun hi H3 δ3 I3 w3 h3 => ?_⟩⟩
  obtain ⟨z, hz, q⟩ := h3
  have a3 := At.mono (Wi.trans w2 w3) _ _ a1
  have w123 := Wi.trans w1 (Wi.trans w2 w3)
  cases d with
  | lst ds =>
    cases hz
    obtain ⟨p, xs, rfl, r, hs⟩ := a3
    refine Or.inl ⟨p, xs, rfl, Or.inl (Or.inl r.1), fun n hn => ?_⟩
    obtain ⟨I4, w4, r4⟩ := I3.laid hn (.lst (cutV xs lo hi))
    exact k _ _ (.lst _) δ3 I4 (Wi.trans w123 w4) ⟨n, _, rfl, r4, AtAll.mono w4 _ _ (hs.cut lo hi)⟩ q
  | tup ds =>
    cases hz
    have a3' := a3
    obtain ⟨p, xs, rfl, r, hs⟩ := a3
    refine Or.inr (Or.inl ⟨p, xs, rfl, r.elim (fun z => Or.inl (Or.inl z.1)) KTup.sq, fun hw => ?_, fun hw n hn => ?_⟩)
    · exact k _ H3 _ δ3 I3 w123 (by rw [hs.whole hw]; exact a3') q
    · obtain ⟨I4, w4, r4⟩ := I3.laid hn (.tup (cutV xs lo hi))
      exact k _ _ (.tup _) δ3 I4 (Wi.trans w123 w4) ⟨n, _, rfl, Or.inl r4, AtAll.mono w4 _ _ (hs.cut lo hi)⟩ q
  | str w =>
    have e1 : x = V.str w := a3
    subst e1
    have hz' : (if w.length ≤ sizeLine then some (D.str (cutS w lo hi)) else none) = some z := hz
    by_cases hl : w.length ≤ sizeLine
    · rw [if_pos hl] at hz'
      cases hz'
      exact Or.inr (Or.inr ⟨w, rfl, hl, k _ H3 _ δ3 I3 w123 (by rfl) q⟩)
    · rw [if_neg hl] at hz'
      cases hz'
  | _ => cases hz)
/-! ### a list that a slot holds -/
variable {i : Nat} {x : Str} {p' : Pos}
def dLenO (i : Nat) : DTE := fun δ Q => ∃ ds, δ[i]? = some (some (.own ds)) ∧ Q (.int ds.length) δ
theorem de_lenO {p1 p2 pos : Pos} (hv : PE X (.Name x p2) (tVar i)) (hg : Gl X "len") (hm : X.mg "len" = none) (he : starEach [.Name x p2] X.env = (false, eval (.Name x p2) X.env) :: starEach [] X.env := by rfl) :
    PE X (.Call (.Name "len" p1) [.Name x p2] [] pos) (rd X.K (dLenO i)) := PE.to (pe_callB call_len_seq hg hm PySem.boot_len (pa_cons hv pa_nil he) (by decide) (by decide) he) (by
  rintro σ H Q ⟨M, δ, QD, I, ⟨ds, hd, q⟩, k⟩
  obtain ⟨a, xs, e1, e2, _, _, e5⟩ := I.own i ds hd
  exact ⟨_, e1, a, xs, rfl, Or.inl (Or.inl (Or.inl e2)), by rw [e5.len]; exact k _ H _ δ I (Wi.refl _) (by rfl) q⟩)
def dIxO (i : Nat) (ti : DTE) : DTE := fun δ Q => (∃ ds, δ[i]? = some (some (.own ds))) ∧ ti δ fun d δ1 => ∃ ds n z, d = .int n ∧ δ1[i]? = some (some (.own ds)) ∧ atI ds n = some z ∧ Q z δ1
theorem de_ixO (hv : PE X (.Name x p') (tVar i)) (hb : PE X b (rd X.K tb)) (hs : PlainIx b) : PE X (.Subscript (.Name x p') b pos) (rd X.K (dIxO i tb)) := PE.to (pe_ix ix_list hv hb hs) (by
  rintro σ H Q ⟨M, δ, QD, I, ⟨⟨ds0, hd0⟩, h⟩, k⟩
  obtain ⟨a, _, e1, _⟩ := I.own i ds0 hd0
  refine ⟨_, e1, rd_use I h fun y H1 d δ1 I1 w1 a1 q => ?_⟩
  obtain ⟨ds, n, z, rfl, hd, hz, q⟩ := q
  obtain ⟨a', xs, e1', e2, _, _, e5⟩ := I1.own i ds hd
  rw [e1] at e1'
  cases e1'
  obtain ⟨w, h1, h2⟩ := at_ix e5 hz
  exact ⟨a, xs, n, w, rfl, a1, Or.inl (Or.inl e2), h1, k _ H1 _ δ1 I1 w1 h2 q⟩)
/-- xs.append(e), xs.insert(k, e), xs.pop(k), xs[k] = e -/
def dApp (i : Nat) (te : DTE) : DTS := fun E δ => (∃ ds, δ[i]? = some (some (.own ds))) ∧ te δ fun d δ1 => ∃ ds, δ1[i]? = some (some (.own ds)) ∧ ds.length < sizeLine ∧ E.nx (δ1.set i (some (.own (ds ++ [d]))))
def dIns (i : Nat) (tk te : DTE) : DTS := fun E δ => (∃ ds, δ[i]? = some (some (.own ds))) ∧ tk δ fun n δ1 => te δ1 fun d δ2 => ∃ ds k, n = .int k ∧ 0 ≤ k ∧ k < 2 ^ 63 ∧ δ2[i]? = some (some (.own ds)) ∧ ds.length < sizeLine ∧
  E.nx (δ2.set i (some (.own (ds.take k.toNat ++ [d] ++ ds.drop k.toNat))))
def dPopAt (i : Nat) (tk : DTE) : DTS := fun E δ => (∃ ds, δ[i]? = some (some (.own ds))) ∧ tk δ fun n δ1 => ∃ ds k j, n = .int k ∧ δ1[i]? = some (some (.own ds)) ∧ 0 ≤ k ∧ k < 2 ^ 63 ∧ k = (j : Nat) ∧ j < ds.length ∧ E.nx (δ1.set i (some (.own (ds.eraseIdx j))))
def dSetIx (i : Nat) (tk te : DTE) : DTS := fun E δ => te δ fun d δ1 => (∃ ds, δ1[i]? = some (some (.own ds))) ∧ tk δ1 fun n δ2 => ∃ ds k j, n = .int k ∧ δ2[i]? = some (some (.own ds)) ∧ k = (j : Nat) ∧ j < ds.length ∧ E.nx (δ2.set i (some (.own (ds.set j d))))
variable {e1 e2 : Expr} {tk : DTE} {p1 p2 p3 p4 : Pos}
theorem ds_app {m : Expr} (hm : PE X m (tBM X.K "list" rAppend (tVar i) (tCons (rd X.K te) tNil))) (hs : swapsWith m none p4.line X.env = pure false := by rfl) : PS X (.Expr m p4) (rdS X.K (dApp i te)) :=
  PS.to (ps_expr hm hs) (by
    rintro E σ H ⟨M, δ, F, I, ⟨⟨ds0, hd0⟩, h⟩, ok⟩
    obtain ⟨a, xs0, e1, e2, _⟩ := I.own i ds0 hd0
    refine ⟨_, e1, Or.inl ⟨rfl, xs0, Or.inl (Or.inl e2)⟩, rd_use I h fun y H1 d δ1 I1 w1 a1 q => ?_⟩
    obtain ⟨ds, hd, hz, q⟩ := q
    obtain ⟨a', xs, e1', e2', _, _, e5⟩ := I1.own i ds hd
    rw [e1] at e1'
    cases e1'
    obtain ⟨I2, w2⟩ := I1.turn hd (AtAll.app e5 (AtAll.one a1)) e1
    exact ⟨a, xs, y, rfl, rfl, e2', by rw [e5.len]; exact hz, ok.nx _ _ _ I2 (Wi.trans w1 w2) q⟩)
abbrev rInsert : V → List V → Hp → VK → Prop := fun x vs H Q => ∃ (l : Addr) (xs : List V) (i : Int) (y : V), x = .ref l ∧ vs = [.int i, y] ∧
  H l = some (.lst xs) ∧ xs.length < sizeLine ∧ 0 ≤ i ∧ i < 2 ^ 63 ∧ Q .non (upd H l (.lst (xs.take i.toNat ++ [y] ++ xs.drop i.toNat)))
theorem ds_ins {m : Expr} (hm : PE X m (tBM X.K "list" rInsert (tVar i) (tCons (rd X.K tk) (tCons (rd X.K te) tNil)))) (hs : swapsWith m none p4.line X.env = pure false := by rfl) : PS X (.Expr m p4) (rdS X.K (dIns i tk te)) :=
  PS.to (ps_expr hm hs) (by
    rintro E σ H ⟨M, δ, F, I, ⟨⟨ds0, hd0⟩, h⟩, ok⟩
    obtain ⟨a, xs0, e1, e2, _⟩ := I.own i ds0 hd0
    refine ⟨_, e1, Or.inl ⟨rfl, xs0, Or.inl (Or.inl e2)⟩, rd_use I h fun n H1 nd δ1 I1 w1 a1 q => rd_use I1 q fun y H2 d δ2 I2 w2 a2 q => ?_⟩
    obtain ⟨ds, k, rfl, k0, k1, hd, hz, q⟩ := q
    obtain ⟨a', xs, e1', e2', _, _, e5⟩ := I2.own i ds hd
    rw [e1] at e1'
    cases e1'
    have en : n = V.int k := a1
    subst en
    obtain ⟨I3, w3⟩ := I2.turn hd (AtAll.app (AtAll.app (AtAll.take k.toNat e5) (AtAll.one a2)) (AtAll.drop k.toNat e5)) e1
    exact ⟨a, xs, k, y, rfl, rfl, e2', by rw [e5.len]; exact hz, k0, k1, ok.nx _ _ _ I3 (Wi.trans w1 (Wi.trans w2 w3)) q⟩)
theorem AtAll.erase {b : Addr} {R : Rg} : ∀ {ds : List D} {vs : List V} (j : Nat), AtAll K b R ds vs → AtAll K b R (ds.eraseIdx j) (vs.eraseIdx j)
  | [], _, _, e => by subst e; simp [AtAll]
  | d :: ds, _, 0, ⟨x, xs, e, q, r⟩ => by subst e; exact r
  | d :: ds, _, j + 1, ⟨x, xs, e, q, r⟩ => by
    subst e
    exact ⟨x, _, rfl, q, AtAll.erase j r⟩
theorem ds_popAt {m : Expr} (hm : PE X m (tBM X.K "list" rPopAt (tVar i) (tCons (rd X.K tk) tNil))) (hs : swapsWith m none p4.line X.env = pure false := by rfl) : PS X (.Expr m p4) (rdS X.K (dPopAt i tk)) :=
  PS.to (ps_expr hm hs) (by
    rintro E σ H ⟨M, δ, F, I, ⟨⟨ds0, hd0⟩, h⟩, ok⟩
    obtain ⟨a, xs0, e1, e2, _⟩ := I.own i ds0 hd0
    refine ⟨_, e1, Or.inl ⟨rfl, xs0, Or.inl (Or.inl e2)⟩, rd_use I h fun n H1 nd δ1 I1 w1 a1 q => ?_⟩
    obtain ⟨ds, k, j, rfl, hd, k0, k1, rfl, hj, q⟩ := q
    obtain ⟨a', xs, e1', e2', _, _, e5⟩ := I1.own i ds hd
    rw [e1] at e1'
    cases e1'
    have en : n = V.int (j : Nat) := a1
    subst en
    have hl : j < xs.length := by rw [e5.len]; exact hj
    obtain ⟨I3, w3⟩ := I1.turn hd (AtAll.erase j e5) e1
    have ix : ixN xs.length ((j : Nat) : Int) = some j := by
      unfold ixN
      rw [if_pos (by omega), if_pos (by omega)]
      simp
    exact ⟨a, xs, _, j, xs[j], rfl, rfl, e2', by omega, k1, (ixN_seq ix).1, List.getElem?_eq_getElem hl, ok.nx _ _ _ I3 (Wi.trans w1 w3) q⟩)
theorem ds_setIx (hv : PE X (.Name x p1) (tVar i)) (hk : PE X e1 (rd X.K tk)) (he : PE X e2 (rd X.K te))
    (ha : ∀ v, assign (.Subscript (.Name x p1) e1 p2) X.env v = (do
      let ov ← holding [v] (eval (.Name x p1) X.env)
      let iv ← holding [v, ov] (eval e1 X.env)
      standAt p2
      holding [v, ov, iv] (setItem ov iv v)
      release [v, ov, iv] []) := by intro _; rfl)
    (hs : swapsWithSole [.Subscript (.Name x p1) e1 p2] e2 p3.line X.env = pure false := by rfl) (hw : swappedStores [.Subscript (.Name x p1) e1 p2] e2 X.env = pure none := by rfl)
    (h1 : (assignEach [.Subscript (.Name x p1) e1 p2] X.env).map (·.2) = [assign (.Subscript (.Name x p1) e1 p2) X.env] := by rfl) :
    PS X (.Assign [.Subscript (.Name x p1) e1 p2] e2 p3) (rdS X.K (dSetIx i tk te)) := PS.to (ps_asg he (pg_sub hv hk set_list ha) hs hw h1) (by
  rintro E σ H ⟨M, δ, F, I, h, ok⟩
  refine rd_use I h fun y H1 d δ1 I1 w1 a1 q => ?_
  obtain ⟨⟨ds0, hd0⟩, q⟩ := q
  obtain ⟨a, xs0, e1, e2, _⟩ := I1.own i ds0 hd0
  refine ⟨_, e1, rd_use I1 q fun n H2 nd δ2 I2 w2 a2 q => ?_⟩
  obtain ⟨ds, k, j, rfl, hd, rfl, hj, q⟩ := q
  obtain ⟨a', xs, e1', e2', _, _, e5⟩ := I2.own i ds hd
  rw [e1] at e1'
  cases e1'
  have en : n = V.int (j : Nat) := a2
  subst en
  have hl : j < xs.length := by rw [e5.len]; exact hj
  obtain ⟨I3, w3⟩ := I2.turn hd (AtAll.set j e5 (At.mono w2 _ _ a1)) e1
  have ix : ixN xs.length ((j : Nat) : Int) = some j := by
    unfold ixN
    rw [if_pos (by omega), if_pos (by omega)]
    simp
  exact ⟨a, xs, _, j, rfl, rfl, e2', ix, ok.nx _ _ _ I3 (Wi.trans w1 (Wi.trans w2 w3)) q⟩)
end
end DL
/-! Further built-ins, constants of the module, dict displays, in trees. -/
namespace DL
open PySem PySem.Spec PyProof.Rows L2
section
variable {X : Cx} {K : PySem.W.Frag} {a b c e : Expr} {ta tb tc te : DTE} {pos p p1 p2 p3 : Pos} {M : Am} {σ : L2.St} {H : Hp} {δ : DSt} {x : Str}
/-- a tuple of texts of the written part -/
theorem de_globT {ad : Addr} {ws : List Str} (hg : Gl X x) (hm : X.mg x = some (.ref ad)) (hk : KTup X.K ad (ws.map V.str)) (hd : (x == ("__debug__" : Str)) = false := by decide) : PE X (.Name x p) (rd X.K (dC (.tup (ws.map D.str)))) :=
  de_c (pe_glob hg hm (v := .ref ad) rfl hd) fun b R => ⟨ad, ws.map V.str, rfl, Or.inr hk, by
    clear hk
    induction ws with
    | nil => rfl
    | cons w ws ih => exact ⟨_, _, rfl, rfl, ih⟩⟩
/-- list(..), new -/
def dItems (te : DTE) : DTA := fun δ Q => te δ fun d δ1 => ∃ ds, itemsLT d = some ds ∧ Q ds δ1
theorem dn_listOf (hg : Gl X "list") (hm : X.mg "list" = none) (he : PE X e (rd X.K te)) (hst : starEach [e] X.env = (false, eval e X.env) :: starEach [] X.env := by rfl) : PE X (.Call (.Name "list" p1) [e] [] pos) (rdN X.K (dItems te)) :=
  PE.to (pe_callTy call_list_of hg hm PyProof.Rows.boot_list (pa_cons he pa_nil hst) (by decide) (by decide) hst) (by
    rintro σ H Q ⟨M, δ, QD, I, h, k⟩
    refine rd_use I h fun v H1 d δ1 I1 w1 a1 q => ?_
    obtain ⟨ds, hds, q⟩ := q
    obtain ⟨p, ys, rfl, hs, hq⟩ : ∃ p ys, v = V.ref p ∧ AtAll X.K M.b (Ro M σ δ1 H1) ds ys ∧ (SqL X.K H1 p ys ∨ SqT X.K H1 p ys) := by
      cases d with
      | lst es => cases hds; obtain ⟨p, ys, rfl, r, hs⟩ := a1; exact ⟨p, ys, rfl, hs, Or.inl (Or.inl (Or.inl r.1))⟩
      | tup es => cases hds; obtain ⟨p, ys, rfl, r, hs⟩ := a1; exact ⟨p, ys, rfl, hs, Or.inr (r.elim (fun z => Or.inl (Or.inl z.1)) KTup.sq)⟩
      | _ => cases hds
    refine ⟨p, ys, rfl, hq, fun l hl => ?_⟩
    obtain ⟨I2, w2⟩ := I1.lay hl (.lst ys)
    obtain ⟨f1, _, _, _, f5⟩ := I1.free hl
    exact k l ys _ ds δ1 I2 (Wi.trans w1 w2) f1 f5 upd_same (AtAll.mono w2 _ _ hs) q)
/-- tuple(..) -/
def fTupOf : DFn := d1 fun x δ Q => ∃ ds, itemsLT x = some ds ∧ Q (.tup ds) δ
abbrev rTupOf (K : PySem.W.Frag) : List V → Hp → VK → Prop := fun xs H Q => ∃ p ys, xs = [.ref p] ∧ ((SqL K H p ys ∧ ∀ l, H l = none → Q (.ref l) (upd H l (.tup ys))) ∨ (SqT K H p ys ∧ Q (.ref p) H))
theorem cd_tupOf : CallD K (rTupOf K) fTupOf := by
  rintro M σ H δ xs ds Q QD I ha h k
  unfold fTupOf d1 at h
  split at h
  · rename_i d
    obtain ⟨v, rfl, h1⟩ := at1 ha
    obtain ⟨es, hes, q⟩ := h
    cases d with
    | lst fs =>
      have ee : fs = es := Option.some.inj hes
      subst ee
      obtain ⟨p, ys, rfl, r, hs⟩ := h1
      refine ⟨p, ys, rfl, Or.inl ⟨Or.inl (Or.inl r.1), fun l hl => ?_⟩⟩
      obtain ⟨I2, w2, r2⟩ := I.laid hl (.tup ys)
      exact k _ _ (.tup fs) δ I2 w2 ⟨l, ys, rfl, Or.inl r2, AtAll.mono w2 _ _ hs⟩ q
    | tup fs =>
      have ee : fs = es := Option.some.inj hes
      subst ee
      have h1' := h1
      obtain ⟨p, ys, rfl, r, hs⟩ := h1
      exact ⟨p, ys, rfl, Or.inr ⟨r.elim (fun z => Or.inl (Or.inl z.1)) KTup.sq, k _ H _ δ I (Wi.refl _) h1' q⟩⟩
    | _ => cases hes
  · exact h.elim
/-- int(..) of an int, of a truth -/
def fInt : DFn := d1 fun x δ Q => (∃ i, x = .int i ∧ Q (.int i) δ) ∨ ∃ c, x = .bl c ∧ Q (.int (if c then 1 else 0)) δ
abbrev rInt1 : List V → Hp → VK → Prop := fun xs H Q => (∃ i, xs = [.int i] ∧ Q (.int i) H) ∨ ∃ k, xs = [.bl k] ∧ Q (.int (if k then 1 else 0)) H
theorem cd_int : CallD K rInt1 fInt := by
  rintro M σ H δ xs ds Q QD I ha h k
  unfold fInt d1 at h
  split at h
  · rename_i d
    obtain ⟨v, rfl, h1⟩ := at1 ha
    rcases h with ⟨i, rfl, q⟩ | ⟨c, rfl, q⟩
    · have e : v = V.int i := h1
      subst e
      exact Or.inl ⟨i, rfl, k _ H _ δ I (Wi.refl _) (by rfl) q⟩
    · have e : v = V.bl c := h1
      subst e
      exact Or.inr ⟨c, rfl, k _ H _ δ I (Wi.refl _) (by rfl) q⟩
  · exact h.elim
/-- all of a list of truths -/
def fAll : DFn := d1 fun x δ Q => ∃ bs : List Bool, x = .lst (bs.map D.bl) ∧ Q (.bl (bs.all id)) δ
theorem at_bls {b : Addr} {R : Rg} : ∀ {bs : List Bool} {vs : List V}, AtAll K b R (bs.map D.bl) vs → vs = bs.map V.bl
  | [], _, e => e
  | w :: ws, _, ⟨x, xs, e, h1, h2⟩ => by
    have e1 : x = V.bl w := h1
    subst e e1
    rw [at_bls h2]
    rfl
theorem cd_all : CallD K (L2.rAll K) fAll := by
  rintro M σ H δ xs ds Q QD I ha h k
  unfold fAll d1 at h
  split at h
  · rename_i d
    obtain ⟨v, rfl, h1⟩ := at1 ha
    obtain ⟨bs, rfl, q⟩ := h
    obtain ⟨p, ys, rfl, r, hs⟩ := h1
    have e := at_bls hs
    subst e
    exact ⟨p, bs, rfl, Or.inl (Or.inl r.1), k _ H _ δ I (Wi.refl _) (by rfl) q⟩
  · exact h.elim
/-- s.split(t), s.upper() -/
def dSplit (ta tb : DTE) : DTE := fun δ Q => ta δ fun x δ1 => ∃ i, x = .str i ∧ tb δ1 fun y δ2 => ∃ j, y = .str j ∧ (j.length == 0) = false ∧ i.length + 2 ≤ sizeLine ∧ Q (.lst ((Txt.split i j).map D.str)) δ2
theorem at_strs_mk {b : Addr} {R : Rg} : ∀ ws : List Str, AtAll K b R (ws.map D.str) (ws.map V.str)
  | [] => rfl
  | w :: ws => ⟨_, _, rfl, rfl, at_strs_mk ws⟩
theorem de_split {o : Expr} (ho : PE X o (rd X.K ta)) (he : PE X e (rd X.K tb)) (hs : starEach [e] X.env = [(false, eval e X.env)] := by rfl) (hbase : attributeBase o "split" X.env (eval o X.env) = eval o X.env := by rfl) (hline : (p1.endLine == pos.line) = true := by rfl) :
    PE X (.Call (.Attribute o "split" p1) [e] [] pos) (rd X.K (dSplit ta tb)) := PE.to (pe_m1 PySem.F.slot_str_split PySem.F.type_str_split mt_split ho he hs hbase hline) (by
  rintro σ H Q ⟨M, δ, QD, I, h, k⟩
  refine rd_use I h fun v H1 d δ1 I1 w1 a1 h1 => ?_
  obtain ⟨i, rfl, h1⟩ := h1
  have e1 : v = V.str i := a1
  subst e1
  refine ⟨⟨i, rfl⟩, rd_use I1 h1 fun y H2 d2 δ2 I2 w2 a2 h2 => ?_⟩
  obtain ⟨j, rfl, hj, hz, q⟩ := h2
  have e2 : y = V.str j := a2
  subst e2
  refine ⟨i, j, rfl, rfl, hj, hz, fun p hp => ?_⟩
  obtain ⟨I3, w3, r3⟩ := I2.laid hp (.lst ((Txt.split i j).map V.str))
  exact k _ _ (.lst _) δ2 I3 (Wi.trans w1 (Wi.trans w2 w3)) ⟨p, _, rfl, r3, at_strs_mk _⟩ q)
def dUpper (ta : DTE) : DTE := fun δ Q => ta δ fun x δ1 => ∃ i, x = .str i ∧ i.length ≤ 5592405 ∧ Q (.str (Txt.upper i)) δ1
theorem de_upper {o : Expr} (ho : PE X o (rd X.K ta)) (hbase : attributeBase o "upper" X.env (eval o X.env) = eval o X.env := by rfl) (hline : (p1.endLine == pos.line) = true := by rfl) :
    PE X (.Call (.Attribute o "upper" p1) [] [] pos) (rd X.K (dUpper ta)) := PE.to (pe_m0 PySem.F.slot_str_upper PySem.F.type_str_upper mt_upper ho hbase hline) (by
  rintro σ H Q ⟨M, δ, QD, I, h, k⟩
  refine rd_use I h fun v H1 d δ1 I1 w1 a1 h1 => ?_
  obtain ⟨i, rfl, hz, q⟩ := h1
  have e1 : v = V.str i := a1
  subst e1
  exact ⟨⟨i, rfl⟩, i, rfl, rfl, hz, k _ H1 _ δ1 I1 w1 (by rfl) q⟩)
/-- {}, {k: e} with a written key -/
theorem de_dict0 : PE X (.Dict [] [] pos) (rd X.K (dC (.dct []))) := PE.to pe_dnewK (by
  rintro σ H Q ⟨M, δ, QD, I, h, k⟩
  intro p hp
  obtain ⟨I3, w3, r3⟩ := I.laid hp (.dK [])
  exact k _ _ (.dct []) δ I3 w3 ⟨p, _, rfl, r3, rfl⟩ h)
def dDict1 (k : Key) (te : DTE) : DTE := fun δ Q => te δ fun d δ1 => Q (.dct [(k, d)]) δ1
theorem de_dict1 {ke ve : Expr} {kk : Key} (hk : PE X ke (tC (kV kk))) (hv : PE X ve (rd X.K te)) : PE X (.Dict [some ke] [ve] pos) (rd X.K (dDict1 kk te)) := PE.to (pe_disp (pps_cons hk hv pps_nil) rfl rfl (by simp) (by simp)) (by
  rintro σ H Q ⟨M, δ, QD, I, h, k⟩
  intro p hp
  obtain ⟨I1, w1⟩ := I.lay hp (.dK [])
  obtain ⟨f1, f2, f3, f4, f5⟩ := I.free hp
  have I1p := I1.pin (o := .dK []) upd_same
  refine ⟨M.pin p (.dK []), δ, _, I1p, h, fun v H2 d δ2 I2 w2 a2 q => ⟨I2.held f3, [(kk, v)], rfl, by simp, ?_⟩⟩
  obtain ⟨I3, w3⟩ := (I2.unpin f5).aside (Or.inr rfl) f3 f4 f5 (.dK (mergeK [] [(kk, v)]))
  obtain ⟨I4, w4⟩ := I3.back I.zb I.zl
  have w24 : Wi (Ro (M.pin p (.dK [])) σ δ2 H2) (Ro M σ δ2 (upd H2 p (.dK (mergeK [] [(kk, v)])))) := Wi.trans w3 w4
  refine k _ _ (.dct [(kk, d)]) δ2 I4 (Wi.trans w1 (Wi.trans w2 w24)) ⟨p, _, rfl, ⟨upd_same, f1, fun z => ?_⟩, ⟨v, [], rfl, At.mono w24 _ _ a2, rfl⟩⟩ q
  obtain ⟨i, es, h1, h2⟩ := z
  obtain ⟨a', ys, e1, _, e3, _⟩ := I2.own i es h1
  rw [h2] at e1
  cases e1
  exact e3 (Or.inr rfl))
/-- isinstance(x, (T, U)) -/
def dIs2 (T U : String) (te : DTE) : DTE := fun δ Q => te δ fun x δ1 => ∃ c1 c2, isD T x = some c1 ∧ isD U x = some c2 ∧ Q (.bl (c1 || c2)) δ1
theorem is_ty {d : D} {T : String} {c : Bool} (h : isD T d = some c) : ∃ N, tyN d = some N ∧ kitB N T = some c := by
  cases d with
  | bag => cases h
  | obj _ => cases h
  | _ => exact ⟨_, rfl, h⟩
theorem de_isi2 {T U : Str} {Ts Us : String} {p4 p5 : Pos} (hc : X.mg "isinstance" = none) (hg : Gl X "isinstance") (hT : X.mg T = none) (hgT : Gl X T) (hv : bootBuiltins T = some (.type Ts)) (hU : X.mg U = none) (hgU : Gl X U) (hvU : bootBuiltins U = some (.type Us)) (ha : PE X e (rd X.K te))
    (hn : T ≠ "__name__" := by decide) (hdb : (T == ("__debug__" : Str)) = false := by decide) (hnU : U ≠ "__name__" := by decide) (hdbU : (U == ("__debug__" : Str)) = false := by decide)
    (he : starEach [e, .Tuple [.Name T p2, .Name U p3] k p4] X.env = (false, eval e X.env) :: starEach [.Tuple [.Name T p2, .Name U p3] k p4] X.env := by rfl) :
    PE X (.Call (.Name "isinstance" p1) [e, .Tuple [.Name T p2, .Name U p3] k p4] [] pos) (rd X.K (dIs2 Ts Us te)) := by
  refine PE.to (pe_callB (t := tCons (rd X.K te) (tCons (tTup (tCons (tC (.ty Ts)) (tCons (tC (.ty Us)) tNil))) tNil)) call_isiT hg hc boot_isinstance
    (pa_cons ha (pa_cons (pe_tup (pa_cons (pe_bltn hgT hT hv rfl hn hdb) (pa_cons (pe_bltn hgU hU hvU rfl hnU hdbU) pa_nil))) pa_nil) he) (by decide) (by decide) he) ?_
  rintro σ H Q ⟨M, δ, QD, I, h, k⟩
  refine rd_use I h fun x H1 d δ1 I1 w1 a1 h1 => ?_
  obtain ⟨c1, c2, h1, h2, q⟩ := h1
  refine ⟨(show 2 ≤ sizeLine by decide), fun p hp => ?_⟩
  obtain ⟨I2, w2, r2⟩ := I1.laid hp (.tup [.ty Ts, .ty Us])
  obtain ⟨N, hN, k1⟩ := is_ty h1
  obtain ⟨N', hN', k2⟩ := is_ty h2
  rw [hN] at hN'
  cases hN'
  have a2 := At.mono w2 _ _ a1
  refine ⟨x, p, _, _, [.type Ts, .type Us], c1 || c2, rfl, upd_same, .cons (.ty _) (.cons (.ty _) .nil), a2.ty hN, ?_, k _ _ _ δ1 I2 (Wi.trans w1 w2) (by rfl) q⟩
  refine kitAny_cons (kit_ty k1) (fun e => ?_) (fun e => by rw [e]; rfl)
  refine kitAny_cons (kit_ty k2) (fun e2 => ?_) (fun e2 => by rw [e2]; simp)
  rw [e, e2]
  rfl
/-- -x, x + 1 where x is an int or a truth -/
def iOf : D → Option Int
  | .int i => some i
  | .bl c => some (if c then 1 else 0)
  | _ => none
def fAddB : DF2 := fun x y δ Q => ∃ i j, iOf x = some i ∧ y = .int j ∧ Q (.int (i + j)) δ
abbrev rAddB : R2 := fun x y H Q => (∃ i j, x = .int i ∧ y = .int j ∧ Q (.int (i + j)) H) ∨ ∃ (c : Bool) (j : Int), x = .bl c ∧ y = .int j ∧ Q (.int ((if c = true then (1 : Int) else 0) + j)) H
theorem op_addB : OpR X (binaryOp .Add) rAddB := by
  rintro pins s σ H x y v u Q I rx ry (⟨i, j, rfl, rfl, q⟩ | ⟨c, j, rfl, rfl, q⟩)
  · exact op_add pins s σ H _ _ v u Q I rx ry ⟨i, j, rfl, rfl, q⟩
  · cases rx
    obtain ⟨t, rfl⟩ := ry
    exact PySem.IntBool.add_bool_int ⟨.int _, H, I.tok _, ⟨_, rfl⟩, q⟩
theorem od_addB : OpD K rAddB fAddB := by
  rintro M σ H δ x y d e Q QD I ha hb ⟨i, j, hi, rfl, q⟩ k
  cases d with
  | int n =>
    have ee : n = i := Option.some.inj hi
    subst ee
    exact Or.inl ⟨n, j, ha, hb, k _ H _ δ I (Wi.refl _) (by rfl) q⟩
  | bl c =>
    cases hi
    exact Or.inr ⟨c, j, ha, hb, k _ H (.int _) δ I (Wi.refl _) (by rfl) q⟩
  | _ => cases hi
def dNeg (ta : DTE) : DTE := fun δ Q => ta δ fun x δ1 => ∃ i, x = .int i ∧ Q (.int (-i)) δ1
theorem de_neg (ha : PE X a (rd K ta)) : PE X (.UnaryOp .USub a pos) (rd K (dNeg ta)) := PE.to (pe_un un_neg ha) (by
  rintro σ H Q ⟨M, δ, QD, I, h, k⟩
  refine rd_use I h fun x H1 d δ1 I1 w1 a1 h1 => ?_
  obtain ⟨i, rfl, q⟩ := h1
  exact ⟨i, a1, k _ H1 _ δ1 I1 w1 (by rfl) q⟩)
theorem gives_neg_bool (c : Bool) : Gives (Builtin.«int.__neg__» ⟨[.bool c], []⟩) (.int (-(if c = true then (1 : Int) else 0))) := .of_eq (by cases c <;> rfl)
abbrev rNegB : V → Hp → VK → Prop := fun x H Q => (∃ i, x = .int i ∧ Q (.int (-i)) H) ∨ ∃ c : Bool, x = .bl c ∧ Q (.int (-(if c = true then (1 : Int) else 0))) H
theorem un_negB : UnR X (unaryOp .USub) rNegB := by
  intro pins s σ H x v Q I rx h
  rcases h with h | ⟨c, rfl, q⟩
  · exact un_neg pins s σ H x v Q I rx h
  · cases rx
    exact unaryOp_gives (op := .USub) (typeIs_bool' s c) rfl PySem.F.slot_bool_neg PySem.F.entry_int_neg (PySem.F.args_int_neg_1 _) (gives_neg_bool c) ⟨.int _, H, I.tok _, ⟨_, rfl⟩, q⟩
def dNegB (ta : DTE) : DTE := fun δ Q => ta δ fun x δ1 => ∃ i, iOf x = some i ∧ Q (.int (-i)) δ1
theorem de_negB (ha : PE X a (rd K ta)) : PE X (.UnaryOp .USub a pos) (rd K (dNegB ta)) := PE.to (pe_un un_negB ha) (by
  rintro σ H Q ⟨M, δ, QD, I, h, k⟩
  refine rd_use I h fun x H1 d δ1 I1 w1 a1 h1 => ?_
  obtain ⟨i, hi, q⟩ := h1
  cases d with
  | int n =>
    have ee : n = i := Option.some.inj hi
    subst ee
    exact Or.inl ⟨n, a1, k _ H1 _ δ1 I1 w1 (by rfl) q⟩
  | bl c =>
    cases hi
    exact Or.inr ⟨c, a1, k _ H1 (.int _) δ1 I1 w1 (by rfl) q⟩
  | _ => cases hi)
end
end DL
/-! The bag of draws. -/
namespace DL
open PySem PySem.Spec PyProof.Rows L2
section
variable {X : Cx} {K : PySem.W.Frag} {a b c e : Expr} {ta tb tc te : DTE} {pos p p1 p2 p3 p4 : Pos} {M : Am} {σ : L2.St} {H : Hp} {δ : DSt} {x : Str} {i : Nat}
theorem get_list : PGet X (rIxL X.K) := by
  intro pins s σ H o ix ov iv Q I ro ri h
  obtain ⟨p, xs, k, v, rfl, rfl, hs, hk, q⟩ := h
  cases ro
  obtain ⟨t, rfl⟩ := ri
  obtain ⟨its, rv, pl, hz⟩ := I.list hs
  obtain ⟨j, h1, h2, h3, h4, h5⟩ := atI_get hk
  obtain ⟨w, ew, rw'⟩ := rv.get h2
  have hl := rv.length
  have hn := line63
  have fin : EP X pins σ Q w s := ⟨v, H, I, rw', q⟩
  by_cases h0 : 0 ≤ k
  · have hj : k.toNat = j := by
      rw [seqIndex_of h0 h5] at h1
      exact Option.some.inj h1
    exact wpAny_getItem_list pl.isList h0 (by omega) (by rw [hj]; simpa using ew) fin
  · have hj : (k + (its.toArray.size : Int)).toNat = j := by
      rw [seqIndex_neg (by omega) h4] at h1
      rw [List.size_toArray, ← hl]
      exact Option.some.inj h1
    exact wpAny_getItem_list_neg pl.isList (by omega) (by rw [List.size_toArray] <;> omega) (by omega) (by rw [hj]; simpa using ew) fin
/-- one of the bag's own numbers: any -/
def dBagIx (i : Nat) : DTE := fun δ Q => δ[i]? = some (some (.dat .bag)) ∧ ∀ n : Int, Q (.int n) δ
theorem DI.bagAt (I : DI K M σ H δ) (h : δ[i]? = some (some (.dat .bag))) : σ[i]? = some (some (V.ref M.b)) := by
  obtain ⟨v, e1, e2⟩ := I.dat i _ h
  rw [e1]
  rw [show v = V.ref M.b from e2]
theorem de_bagIx {k : Int} {j : Nat} (hk : k = 0 ∨ k = 1 ∨ k = 2) (hv : PE X (.Name x p1) (tVar i)) (hs : PlainIx (.Constant (.int k) j p2) := by exact fun _ _ => rfl) :
    PE X (.Subscript (.Name x p1) (.Constant (.int k) j p2) pos) (rd X.K (dBagIx i)) := PE.to (pe_ix ix_list hv pe_int hs) (by
  rintro σ H Q ⟨M, δ, QD, I, ⟨hb, h⟩, kk⟩
  obtain ⟨n0, n1, n2, cs, e1, e2⟩ := I.bag
  have fin : ∀ n : Int, atI [V.int n0, .int n1, .int n2, .ref M.l] k = some (.int n) → tOp (rIxL X.K) (tVar i) (tC (.int k)) σ H Q := fun n hn =>
    ⟨_, I.bagAt hb, M.b, _, k, _, rfl, rfl, Or.inl (Or.inl e1), hn, kk _ H _ δ I (Wi.refl _) (by rfl) (h n)⟩
  rcases hk with rfl | rfl | rfl
  · exact fin n0 rfl
  · exact fin n1 rfl
  · exact fin n2 rfl)
/-- what is left of the bag's cells, a nought behind -/
def dBagCut (i : Nat) (te : DTE) : DTE := fun δ Q => δ[i]? = some (some (.dat .bag)) ∧ te δ fun d δ1 => ∃ n, d = .int n ∧ ∀ cs : List Int, cs.length ≤ 1000 → Q (.lst (cs.map D.int)) δ1
theorem at_ints_mk {b : Addr} {R : Rg} : ∀ ws : List Int, AtAll K b R (ws.map D.int) (ws.map V.int)
  | [] => rfl
  | w :: ws => ⟨_, _, rfl, rfl, at_ints_mk ws⟩
theorem cut_ints (cs : List Int) (lo hi : Option Int) : ∃ ds : List Int, cutV (cs.map V.int) lo hi = ds.map V.int ∧ ds.length ≤ cs.length := by
  refine ⟨(cs.drop (HT.sIx cs.length 0 lo)).take (HT.sIx cs.length cs.length hi - HT.sIx cs.length 0 lo), ?_, ?_⟩
  · unfold cutV
    rw [List.length_map, List.map_take, List.map_drop]
  · rw [List.length_take, List.length_drop]
    omega
theorem de_bagCut {j : Nat} (hv : PE X (.Name x p1) (tVar i)) (he : PE X e (rd X.K te)) (hs : PlainIx (.Constant (.int 3) j p2) := by exact fun _ _ => rfl) :
    PE X (.Subscript (.Subscript (.Name x p1) (.Constant (.int 3) j p2) p3) (.Slice (some e) none none p4) pos) (rd X.K (dBagCut i te)) := PE.to (pe_slice sl_list (pe_ix ix_list hv pe_int hs) (po_some he) po_none) (by
  rintro σ H Q ⟨M, δ, QD, I, ⟨hb, h⟩, kk⟩
  obtain ⟨n0, n1, n2, cs, e1, e2⟩ := I.bag
  refine ⟨_, I.bagAt hb, M.b, _, 3, _, rfl, rfl, Or.inl (Or.inl e1), rfl, rd_use I h fun v H1 d δ1 I1 w1 a1 q => ?_⟩
  obtain ⟨n, rfl, q⟩ := q
  obtain ⟨m0, m1, m2, cs', f1, f2, f3⟩ := I1.bag
  refine ⟨n, a1, M.l, _, rfl, Or.inl (Or.inl f2), fun p hp => ?_⟩
  obtain ⟨ds, hds, hl⟩ := cut_ints cs' (some n) none
  rw [hds]
  obtain ⟨I2, w2, r2⟩ := I1.laid hp (.lst (ds.map V.int))
  exact kk _ _ (.lst (ds.map D.int)) δ1 I2 (Wi.trans w1 w2) ⟨p, _, rfl, r2, at_ints_mk ds⟩ (q ds (by omega)))
/-- bag[k] = e, bag[k] += e: any numbers -/
def dBagSet (i : Nat) (te : DTE) : DTS := fun E δ => te δ fun d δ1 => (∃ n, d = .int n) ∧ δ1[i]? = some (some (.dat .bag)) ∧ E.nx δ1
theorem bag_set {n0 n1 n2 n : Int} {l : Addr} {k : Int} (hk : k = 0 ∨ k = 1 ∨ k = 2) : ∃ j m0 m1 m2, ixN [V.int n0, .int n1, .int n2, .ref l].length k = some j ∧ [V.int n0, .int n1, .int n2, .ref l].set j (.int n) = [V.int m0, .int m1, .int m2, .ref l] := by
  rcases hk with rfl | rfl | rfl
  · exact ⟨0, n, n1, n2, rfl, rfl⟩
  · exact ⟨1, n0, n, n2, rfl, rfl⟩
  · exact ⟨2, n0, n1, n, rfl, rfl⟩
theorem ds_bagSet {k : Int} {j : Nat} (hk : k = 0 ∨ k = 1 ∨ k = 2) (hv : PE X (.Name x p1) (tVar i)) (he : PE X e (rd X.K te))
    (ha : ∀ v, assign (.Subscript (.Name x p1) (.Constant (.int k) j p2) p3) X.env v = (do
      let ov ← holding [v] (eval (.Name x p1) X.env)
      let iv ← holding [v, ov] (eval (.Constant (.int k) j p2) X.env)
      standAt p3
      holding [v, ov, iv] (setItem ov iv v)
      release [v, ov, iv] []) := by intro _; rfl)
    (hs : swapsWithSole [.Subscript (.Name x p1) (.Constant (.int k) j p2) p3] e pos.line X.env = pure false := by rfl) (hw : swappedStores [.Subscript (.Name x p1) (.Constant (.int k) j p2) p3] e X.env = pure none := by rfl)
    (h1 : (assignEach [.Subscript (.Name x p1) (.Constant (.int k) j p2) p3] X.env).map (·.2) = [assign (.Subscript (.Name x p1) (.Constant (.int k) j p2) p3) X.env] := by rfl) :
    PS X (.Assign [.Subscript (.Name x p1) (.Constant (.int k) j p2) p3] e pos) (rdS X.K (dBagSet i te)) := PS.to (ps_asg he (pg_sub hv pe_int set_list ha) hs hw h1) (by
  rintro E σ H ⟨M, δ, F, I, h, ok⟩
  refine rd_use I h fun v H1 d δ1 I1 w1 a1 q => ?_
  obtain ⟨⟨n, rfl⟩, hb, q⟩ := q
  have ev : v = V.int n := a1
  subst ev
  obtain ⟨n0, n1, n2, cs, e1, e2⟩ := I1.bag
  obtain ⟨jj, m0, m1, m2, hj, hset⟩ := bag_set (n0 := n0) (n1 := n1) (n2 := n2) (n := n) (l := M.l) hk
  obtain ⟨I2, w2⟩ := I1.bagged (x := m0) (y := m1) (z := m2) _ rfl
  exact ⟨_, I1.bagAt hb, M.b, _, k, jj, rfl, rfl, e1, hj, by rw [hset]; exact ok.nx _ _ _ I2 (Wi.trans w1 w2) q⟩)
theorem ds_bagInc {k : Int} {j : Nat} (hk : k = 0 ∨ k = 1 ∨ k = 2) (hv : PE X (.Name x p1) (tVar i)) (he : PE X e (rd X.K te))
    (ha : ∀ ov iv new, augStore (.Constant (.int k) j p2) ov iv new = (do holding [new, ov, iv] (setItem ov iv new); release [new, ov, iv] []; pure .next) := by intros; rfl) :
    PS X (.AugAssign (.Subscript (.Name x p1) (.Constant (.int k) j p2) p3) .Add e pos) (rdS X.K (fun E δ => δ[i]? = some (some (.dat .bag)) ∧ dBagSet i te E δ)) := PS.to (ps_augS hv pe_int get_list he ip_add set_list ha) (by
  rintro E σ H ⟨M, δ, F, I, ⟨hb0, h⟩, ok⟩
  obtain ⟨n0, n1, n2, cs, e1, e2⟩ := I.bag
  have fin : ∀ old : Int, atI [V.int n0, .int n1, .int n2, .ref M.l] k = some (.int old) → tAugS (tVar i) (tC (.int k)) (rd X.K te) (rIxL X.K) (ipI fun i j => i + j) rSetL E σ H := fun old hold => by
    refine ⟨_, I.bagAt hb0, M.b, _, k, _, rfl, rfl, Or.inl (Or.inl e1), hold, rd_use I h fun v H1 d δ1 I1 w1 a1 q => ?_⟩
    obtain ⟨⟨n, rfl⟩, hb, q⟩ := q
    have ev : v = V.int n := a1
    subst ev
    obtain ⟨n0', n1', n2', cs', e1', e2'⟩ := I1.bag
    obtain ⟨jj, m0, m1, m2, hj, hset⟩ := bag_set (n0 := n0') (n1 := n1') (n2 := n2') (n := old + n) (l := M.l) hk
    obtain ⟨I2, w2⟩ := I1.bagged (x := m0) (y := m1) (z := m2) _ rfl
    exact ⟨old, n, rfl, rfl, M.b, _, k, jj, rfl, rfl, e1', hj, by rw [hset]; exact ok.nx _ _ _ I2 (Wi.trans w1 w2) q⟩
  rcases hk with rfl | rfl | rfl
  · exact fin n0 rfl
  · exact fin n1 rfl
  · exact fin n2 rfl)
end
/-! ### what the helpers of draws promise -/
def φTake : DSpec := fun ds Q => ∃ u, ds = [.bag, .int u] ∧ 0 < u ∧ u < 1000000000 ∧ ∀ r, 0 ≤ r → r < u → Q (.int r)
def φSome : DSpec := fun ds Q => ∃ xs, ds = [.bag, .lst xs] ∧ xs ≠ [] ∧ xs.length < 100000000 ∧ ∀ d, d ∈ xs → Q d
end DL
/-! Two names at once. -/
namespace DL
open PySem PySem.Spec PyProof.Rows L2
section
variable {X : Cx} {K : PySem.W.Frag} {a b c e : Expr} {ta tb tc te : DTE} {tA : DTA} {pos p p1 p2 p3 p4 : Pos} {M : Am} {σ : L2.St} {H : Hp} {δ : DSt} {x y : Str} {i j : Nat}
theorem ds_parN {px py pt : Pos} {kt k2 pt2} (hc : X.calm = true) (hN : X.N.Nodup) (hi : X.N[i]? = some x) (hj : X.N[j]? = some y) (hij : i ≠ j)
    (hx : X.env.scope.names.lookup x = some .local) (hy : X.env.scope.names.lookup y = some .local) (ha : PE X a (rd X.K te)) (hb : PE X b (rdN X.K tA))
    (hw : swappedStores [.Tuple [.Name x px, .Name y py] kt pt] (.Tuple [a, b] k2 pt2) X.env = pure (some [x, y]))
    (hs : swapsWithSole [.Tuple [.Name x px, .Name y py] kt pt] (.Tuple [a, b] k2 pt2) pos.line X.env = pure false := by rfl)
    (h1 : starEach [a, b] X.env = (false, eval a X.env) :: starEach [b] X.env := by rfl) (h2 : starEach [b] X.env = (false, eval b X.env) :: starEach [] X.env := by rfl) :
    PS X (.Assign [.Tuple [.Name x px, .Name y py] kt pt] (.Tuple [a, b] k2 pt2) pos) (rdS X.K (dParN i j te tA)) := PS.to (ps_par hc hN hi hj hij hx hy (pa_cons ha (pa_cons hb pa_nil h2) h1) hw hs) (by
  rintro E σ H ⟨M, δ, F, I, h, ok⟩
  refine rd_use I h fun v H1 d δ1 I1 w1 a1 q => ⟨M, δ1, _, I1, q, fun p xs H2 ds δ2 I2 w2 nz h0 hx hs q => ?_⟩
  obtain ⟨I3, w3⟩ := I2.put i (At.mono w2 _ _ a1)
  obtain ⟨I4, w4⟩ := I3.take j hx nz h0 I.zb I.zl (AtAll.mono w3 _ _ hs)
  exact ⟨v, _, rfl, ok.nx _ _ _ I4 (Wi.trans w1 (Wi.trans w2 (Wi.trans w3 w4))) q⟩)
theorem ds_parC {px py pt : Pos} {kt k2 pt2} (hc : X.calm = true) (hN : X.N.Nodup) (hi : X.N[i]? = some x) (hj : X.N[j]? = some y) (hx : Loc X.env.scope x) (hy : Loc X.env.scope y) (ha : PA X [a, b] (rdA X.K tA))
    (hs : swapsWithSole [.Tuple [.Name x px, .Name y py] kt pt] (.Tuple [a, b] k2 pt2) pos.line X.env = pure false := by rfl) (hw : swappedStores [.Tuple [.Name x px, .Name y py] kt pt] (.Tuple [a, b] k2 pt2) X.env = pure none := by rfl)
    (h1 : (assignEach [.Tuple [.Name x px, .Name y py] kt pt] X.env).map (·.2) = [assign (.Tuple [.Name x px, .Name y py] kt pt) X.env] := by rfl)
    (hn : (assignEach [.Name x px, .Name y py] X.env).length = 2 := by rfl) (hst : (assignEach [.Name x px, .Name y py] X.env).findIdx? (·.1) = none := by rfl)
    (hfx : X.fn x = true ∨ X.env.scope.names.lookup x = some .local := by first | exact .inl rfl | exact .inr rfl | assumption)
    (hfy : X.fn y = true ∨ X.env.scope.names.lookup y = some .local := by first | exact .inl rfl | exact .inr rfl | assumption)
    (hc1 : PGs X [.Name x px, .Name y py] (gCons (gName i) (gCons (gName j) gNil))) :
    PS X (.Assign [.Tuple [.Name x px, .Name y py] kt pt] (.Tuple [a, b] k2 pt2) pos) (rdS X.K (dPar i j tA)) := PS.to (ps_asg (pe_tup ha) (pg_tup hc hc1 hn hst) hs hw h1) (by
  rintro E σ H ⟨M, δ, F, I, h, ok⟩
  refine rdA_use I h fun vs H1 ds δ1 I1 w1 a1 q => ?_
  obtain ⟨d, e, rfl, q⟩ := q
  obtain ⟨v, w, rfl, h1, h2⟩ := at2 a1
  refine ⟨(show 2 ≤ sizeLine by decide), fun p hp => ?_⟩
  obtain ⟨I2, w2, r2⟩ := I1.laid hp (.tup [v, w])
  obtain ⟨I3, w3⟩ := I2.put i (At.mono w2 _ _ h1)
  obtain ⟨I4, w4⟩ := I3.put j (At.mono (Wi.trans w2 w3) _ _ h2)
  exact ⟨p, [v, w], rfl, Or.inl (Or.inl upd_same), rfl, v, [w], rfl, w, [], rfl, rfl, ok.nx _ _ _ I4 (Wi.trans w1 (Wi.trans w2 (Wi.trans w3 w4))) q⟩)
end
end DL
/-! Readings in trees, one step at a time. -/
namespace DL
open PySem PySem.Spec PyProof.Rows L2
section
variable {δ : DSt} {Q : D → DSt → Prop} {QT : Bool → DSt → Prop} {QA : List D → DSt → Prop} {E : DEnds} {t u : DTS} {te ta tb tc : DTE} {tt uu : DTT} {tA : DTA} {i j : Nat} {d x y z : D} {f f' : DF2} {b : Bool} {n m : Int}
theorem r_seq (h : t { E with nx := u E } δ) : dSeq t u E δ := h
theorem r_skip (h : E.nx δ) : dSkip E δ := h
theorem r_set (h : te δ fun d δ1 => E.nx (δ1.set i (some (.dat d)))) : dSet i te E δ := h
theorem r_own (h : tA δ fun ds δ1 => E.nx (δ1.set i (some (.own ds)))) : dOwn i tA E δ := h
theorem r_do (h : te δ fun _ δ1 => E.nx δ1) : dDo te E δ := h
theorem r_ret (h : te δ fun d _ => E.rt d) : dRet te E δ := h
theorem r_retN (h : E.rt .non) : dRetN E δ := h
theorem r_if (h : tt δ fun b δ1 => if b = true then t E δ1 else u E δ1) : dIf tt t u E δ := h
theorem r_par (h : tA δ fun ds δ1 => ∃ x y, ds = [x, y] ∧ E.nx ((δ1.set i (some (.dat x))).set j (some (.dat y)))) : dPar i j tA E δ := h
theorem r_parN (h : te δ fun x δ1 => tA δ1 fun ds δ2 => E.nx ((δ2.set i (some (.dat x))).set j (some (.own ds)))) : dParN i j te tA E δ := h
theorem r_ite {A B : Prop} (h1 : b = true → A) (h2 : b = false → B) : if b = true then A else B := by
  cases b with
  | true => exact h1 rfl
  | false => exact h2 rfl
theorem r_iteD {p A B : Prop} [Decidable p] (h1 : p → A) (h2 : ¬ p → B) : if decide p = true then A else B := r_ite (fun h => h1 (of_decide_eq_true h)) fun h => h2 (of_decide_eq_false h)
theorem r_iteND {p A B : Prop} [Decidable p] (h1 : ¬ p → A) (h2 : p → B) : if (!decide p) = true then A else B := r_ite (fun h => h1 (by simpa using h)) fun h => h2 (by simpa using h)
theorem r_iteT {A B : Prop} (h : A) : if true = true then A else B := h
theorem r_iteF {A B : Prop} (h : B) : if false = true then A else B := h
theorem r_iteY {A B : Prop} (e : b = true) (h : A) : if b = true then A else B := by rw [if_pos e]; exact h
theorem r_iteZ {A B : Prop} (e : b = false) (h : B) : if b = true then A else B := by rw [if_neg (by rw [e]; decide)]; exact h
theorem r_test (h : te δ fun x δ1 => ∃ c, x = .bl c ∧ QT c δ1) : dTest te δ QT := h
theorem r_bl (h : QT b δ) : ∃ c, D.bl b = .bl c ∧ QT c δ := ⟨b, rfl, h⟩
theorem r_blV {G : Bool → Prop} (h : G b) : ∃ c, D.bl b = .bl c ∧ G c := ⟨b, rfl, h⟩
theorem r_and (h : tt δ fun c δ1 => if c = true then uu δ1 QT else QT false δ1) : dAnd tt uu δ QT := h
theorem r_or (h : tt δ fun c δ1 => if c = true then QT true δ1 else uu δ1 QT) : dOr tt uu δ QT := h
theorem r_not (h : tt δ fun c δ1 => QT (!c) δ1) : dNot tt δ QT := h
theorem r_ifE (h : tt δ fun c δ1 => if c = true then ta δ1 Q else tb δ1 Q) : dIfE tt ta tb δ Q := h
theorem r_andV (h : ta δ fun x δ1 => ∃ c, x = .bl c ∧ if c = true then tb δ1 Q else Q (.bl false) δ1) : dAndV ta tb δ Q := h
theorem r_orV (h : ta δ fun x δ1 => ∃ c, x = .bl c ∧ if c = true then Q (.bl true) δ1 else tb δ1 Q) : dOrV ta tb δ Q := h
theorem r_notV (h : ta δ fun x δ1 => ∃ c, x = .bl c ∧ Q (.bl (!c)) δ1) : dNotV ta δ Q := h
theorem r_var (e : δ[i]? = some (some (.dat d))) (h : Q d δ) : dVar i δ Q := by
  unfold dVar
  rw [e]
  exact h
theorem r_varO {ds : List D} (e : δ[i]? = some (some (.own ds))) (h : Q (.lst ds) (δ.set i (some (.dat (.lst ds))))) : dVar i δ Q := by
  unfold dVar
  rw [e]
  exact h
theorem r_c (h : Q d δ) : dC d δ Q := h
theorem r_op (h : ta δ fun x δ1 => tb δ1 fun y δ2 => f x y δ2 Q) : dOp f ta tb δ Q := h
theorem r_p2 {g : D → D → Option D} (e : g x y = some z) (h : Q z δ) : dP2 g x y δ Q := ⟨z, e, h⟩
theorem r_eqC {c : Bool} (e : scD x y = some c) (h : Q (.bl c) δ) : fEqC x y δ Q := ⟨.bl c, (by show Option.map _ (scD x y) = _; rw [e]; rfl), h⟩
theorem r_neC {c : Bool} (e : scD x y = some c) (h : Q (.bl (!c)) δ) : fNeC x y δ Q := ⟨.bl (!c), (by show Option.map _ (scD x y) = _; rw [e]; rfl), h⟩
theorem r_ic {C : Int → Int → Prop} {g : Int → Int → D} (c : C n m) (h : Q (g n m) δ) : dIC C g (.int n) (.int m) δ Q := ⟨n, m, rfl, rfl, c, h⟩
theorem r_isN (h : Q (.bl (isN x)) δ) : fIsN x .non δ Q := ⟨rfl, h⟩
theorem r_notN (h : Q (.bl (!isN x)) δ) : fNotN x .non δ Q := ⟨rfl, h⟩
theorem r_isB {c : Bool} (h : Q (.bl (decide (b = c))) δ) : fIsB (.bl b) (.bl c) δ Q := ⟨b, c, rfl, rfl, h⟩
theorem r_notB {c : Bool} (h : Q (.bl (!decide (b = c))) δ) : fNotB (.bl b) (.bl c) δ Q := ⟨b, c, rfl, rfl, h⟩
theorem r_eqS {OC : Addr → Prop} {s : Str} (ok : okS OC x) (h : Q (.bl (eqS x s)) δ) : fEqS OC x (.str s) δ Q := ⟨s, rfl, ok, h⟩
theorem r_eqD (p1 : plainD x) (p2 : plainD y) (h : Q (.bl (PyData.eqv (py x) (py y))) δ) : fEq x y δ Q := ⟨p1, p2, h⟩
theorem r_addS {s s' : Str} (l : s.length + s'.length ≤ sizeLine) (h : Q (.str (s ++ s')) δ) : fAddS (.str s) (.str s') δ Q := ⟨s, s', rfl, rfl, l, h⟩
theorem r_cat {xs ys : List D} (l : xs.length + ys.length ≤ sizeLine) (h : Q (.lst (xs ++ ys)) δ) : fCat (.lst xs) (.lst ys) δ Q := ⟨xs, ys, rfl, rfl, l, h⟩
theorem r_rep {xs : List D} (n1 : -(2 ^ 63) ≤ n) (n2 : n < 2 ^ 63) (l : xs.length * n.toNat ≤ sizeLine) (h : Q (.lst (List.replicate n.toNat xs).flatten) δ) : fRep (.lst xs) (.int n) δ Q := ⟨xs, n, rfl, rfl, n1, n2, l, h⟩
theorem r_addB (e : iOf x = some n) (h : Q (.int (n + m)) δ) : fAddB x (.int m) δ Q := ⟨n, m, e, rfl, h⟩
theorem r_neg (h : ta δ fun x δ1 => ∃ i, x = .int i ∧ Q (.int (-i)) δ1) : dNeg ta δ Q := h
theorem r_negB (h : ta δ fun x δ1 => ∃ i, iOf x = some i ∧ Q (.int (-i)) δ1) : dNegB ta δ Q := h
theorem r_intX {G : Int → Prop} (h : G n) : ∃ i, D.int n = .int i ∧ G i := ⟨n, rfl, h⟩
theorem r_strX {s : Str} {G : Str → Prop} (h : G s) : ∃ i, D.str s = .str i ∧ G i := ⟨s, rfl, h⟩
theorem r_in {neg : Bool} {s : Str} {ws : List Str} (e : itemsLT y = some (ws.map D.str)) (h : Q (.bl (if neg then !decide (s ∈ ws) else decide (s ∈ ws))) δ) : fIn neg (.str s) y δ Q := ⟨s, _, ws, rfl, e, rfl, h⟩
theorem r_inS {neg : Bool} {c : Nat} {s : Str} (h : Q (.bl (if neg then !decide (c ∈ s.cps.toList) else decide (c ∈ s.cps.toList))) δ) : fInS neg (.str ⟨#[c]⟩) (.str s) δ Q := ⟨c, s, rfl, rfl, h⟩
theorem r_leS {s s' : Str} (h : Q (.bl (!decide (s'.cps.toList < s.cps.toList))) δ) : fLeS (.str s) (.str s') δ Q := ⟨s, s', rfl, rfl, h⟩
theorem r_chain (h : ta δ fun x δ1 => tb δ1 fun y δ2 => f x y δ2 fun z δ3 => ∃ k, z = .bl k ∧ if k = true then tc δ3 fun w δ4 => f' y w δ4 Q else Q (.bl false) δ3) : dChain f f' ta tb tc δ Q := h
theorem r_cb {g : DFn} (h : tA δ fun xs δ1 => g xs δ1 Q) : dCB g tA δ Q := h
theorem r_int (h : Q (.int n) δ) : fInt [.int n] δ Q := Or.inl ⟨n, rfl, h⟩
theorem r_intB (h : Q (.int (if b then 1 else 0)) δ) : fInt [.bl b] δ Q := Or.inr ⟨b, rfl, h⟩
theorem r_len (e : lenD x = some n) (h : Q (.int n) δ) : fLen [x] δ Q := ⟨n, e, h⟩
theorem r_repr (s : Shows x) (h : Q (.str (py x).shown) δ) : fRepr [x] δ Q := ⟨s, h⟩
theorem r_tupOf {ds : List D} (e : itemsLT x = some ds) (h : Q (.tup ds) δ) : fTupOf [x] δ Q := ⟨ds, e, h⟩
theorem r_all {bs : List Bool} (h : Q (.bl (bs.all id)) δ) : fAll [.lst (bs.map D.bl)] δ Q := ⟨bs, rfl, h⟩
theorem r_nil (h : QA [] δ) : dNil δ QA := h
theorem r_cons (h : te δ fun x δ1 => tA δ1 fun xs δ2 => QA (x :: xs) δ2) : dCons te tA δ QA := h
theorem r_tup (h : tA δ fun ds δ1 => ds.length ≤ sizeLine ∧ Q (.tup ds) δ1) : dTup tA δ Q := h
theorem r_lst (h : tA δ fun ds δ1 => ds.length ≤ sizeLine ∧ Q (.lst ds) δ1) : dLst tA δ Q := h
theorem r_new (h : tA δ fun ds δ1 => ds.length ≤ sizeLine ∧ QA ds δ1) : dNew tA δ QA := h
theorem r_fr (h : tA δ fun ds δ1 => Q (.lst ds) δ1) : dFr tA δ Q := h
theorem r_items {ds : List D} (h : te δ fun d δ1 => ∃ ds, itemsLT d = some ds ∧ QA ds δ1) : dItems te δ QA := h
theorem r_call {φ : DSpec} (h : tA δ fun ds δ1 => φ ds fun d => Q d δ1) : dCall φ tA δ Q := h
theorem r_is {K : PySem.W.Frag} {T : String} (h : te δ fun x δ1 => ∃ c, (isD T x = some c ∨ ∃ C, x = .obj C ∧ OwnC K C ∧ PySem.W.kitOne K (.ref C) (.type T) = some c) ∧ Q (.bl c) δ1) : dIs K T te δ Q := h
theorem r_isX {K : PySem.W.Frag} {T : String} {G : Bool → Prop} (e : isD T x = some b) (h : G b) : ∃ c, (isD T x = some c ∨ ∃ C, x = .obj C ∧ OwnC K C ∧ PySem.W.kitOne K (.ref C) (.type T) = some c) ∧ G c := ⟨b, Or.inl e, h⟩
theorem r_is2 {T U : String} (h : te δ fun x δ1 => ∃ c1 c2, isD T x = some c1 ∧ isD U x = some c2 ∧ Q (.bl (c1 || c2)) δ1) : dIs2 T U te δ Q := h
theorem r_ix {d' : D} (e : ixD x n = some d') (h : Q d' δ) : fIx x (.int n) δ Q := ⟨n, d', rfl, e, h⟩
theorem r_sl {tl th : DTO} (h : te δ fun x δ1 => tl δ1 fun lo δ2 => th δ2 fun hi δ3 => ∃ z, slD x lo hi = some z ∧ Q z δ3) : dSl te tl th δ Q := h
theorem r_noPart {G : Option Int → DSt → Prop} (h : G none δ) : dNoPart δ G := h
theorem r_part {G : Option Int → DSt → Prop} (h : te δ fun d δ1 => ∃ i, d = .int i ∧ G (some i) δ1) : dPart te δ G := h
theorem r_split (h : ta δ fun x δ1 => ∃ i, x = .str i ∧ tb δ1 fun y δ2 => ∃ j, y = .str j ∧ (j.length == 0) = false ∧ i.length + 2 ≤ sizeLine ∧ Q (.lst ((Txt.split i j).map D.str)) δ2) : dSplit ta tb δ Q := h
theorem r_upper (h : ta δ fun x δ1 => ∃ i, x = .str i ∧ i.length ≤ 5592405 ∧ Q (.str (Txt.upper i)) δ1) : dUpper ta δ Q := h
theorem r_dict1 {k : Key} (h : te δ fun d δ1 => Q (.dct [(k, d)]) δ1) : dDict1 k te δ Q := h
theorem r_bagIx (e : δ[i]? = some (some (.dat .bag))) (h : ∀ n : Int, Q (.int n) δ) : dBagIx i δ Q := ⟨e, h⟩
theorem r_bagCut (e : δ[i]? = some (some (.dat .bag))) (h : te δ fun d δ1 => ∃ n, d = .int n ∧ ∀ cs : List Int, cs.length ≤ 1000 → Q (.lst (cs.map D.int)) δ1) : dBagCut i te δ Q := ⟨e, h⟩
theorem r_bagSet (h : te δ fun d δ1 => (∃ n, d = .int n) ∧ δ1[i]? = some (some (.dat .bag)) ∧ E.nx δ1) : dBagSet i te E δ := h
theorem r_lenO {ds : List D} (e : δ[i]? = some (some (.own ds))) (h : Q (.int ds.length) δ) : dLenO i δ Q := ⟨ds, e, h⟩
theorem r_ixO {ds : List D} (e : δ[i]? = some (some (.own ds))) (h : te δ fun d δ1 => ∃ ds n z, d = .int n ∧ δ1[i]? = some (some (.own ds)) ∧ atI ds n = some z ∧ Q z δ1) : dIxO i te δ Q := ⟨⟨ds, e⟩, h⟩
theorem r_app {ds : List D} (e : δ[i]? = some (some (.own ds))) (h : te δ fun d δ1 => ∃ ds, δ1[i]? = some (some (.own ds)) ∧ ds.length < sizeLine ∧ E.nx (δ1.set i (some (.own (ds ++ [d]))))) : dApp i te E δ := ⟨⟨ds, e⟩, h⟩
theorem r_yes (h : QT true δ) : dYes δ QT := h
theorem r_forL {tb : DTS} (h : te δ fun d δ1 => ∃ ds, d = D.lst ds ∧ ∃ P : List D → DSt → Prop, P ds δ1 ∧ (∀ δ', P [] δ' → E.nx δ') ∧ ∀ x xs δ', x ∈ ds → P (x :: xs) δ' → tb { E with nx := P xs, ct := P xs, bk := E.nx } (δ'.set j (some (.dat x)))) : dFor false j te tb E δ := h
theorem r_forT {tb : DTS} (h : te δ fun d δ1 => ∃ ds, d = D.tup ds ∧ ∃ P : List D → DSt → Prop, P ds δ1 ∧ (∀ δ', P [] δ' → E.nx δ') ∧ ∀ x xs δ', x ∈ ds → P (x :: xs) δ' → tb { E with nx := P xs, ct := P xs, bk := E.nx } (δ'.set j (some (.dat x)))) : dFor true j te tb E δ := h
theorem r_forR {tb : DTS} (h : tA δ fun ds δ1 => ∃ n : Int, ds = [.int n] ∧ -(2 ^ 62) ≤ n ∧ n < 2 ^ 62 ∧ ∃ P : Nat → DSt → Prop, P 0 δ1 ∧ (∀ δ', P n.toNat δ' → E.nx δ') ∧ ∀ (i : Nat) δ', i < n.toNat → P i δ' → tb { E with nx := P (i + 1), ct := P (i + 1), bk := E.nx } (δ'.set j (some (.dat (.int i))))) : dForR j tA tb E δ := h
theorem r_lc {kd : Kd} (h : ta δ fun d δ1 => ∃ ds, itemsOf kd d = some ds ∧ δ1[j]? = some none ∧ ∃ P : List D → List D → DSt → Prop, P ds [] δ1 ∧ (∀ acc δ', P [] acc δ' → QA acc δ') ∧
  ∀ x xs acc δ', x ∈ ds → P (x :: xs) acc δ' → tt (δ'.set j (some (.dat x))) fun b δ2 => if b = true then te δ2 fun y δ3 => acc.length < sizeLine ∧ P xs (acc ++ [y]) (δ3.set j none) else P xs acc (δ2.set j none)) : dLc kd j ta tt te δ QA := h
theorem r_ins {ds : List D} (e : δ[i]? = some (some (.own ds))) (h : ta δ fun n δ1 => tb δ1 fun d δ2 => ∃ ds k, n = .int k ∧ 0 ≤ k ∧ k < 2 ^ 63 ∧ δ2[i]? = some (some (.own ds)) ∧ ds.length < sizeLine ∧ E.nx (δ2.set i (some (.own (ds.take k.toNat ++ [d] ++ ds.drop k.toNat))))) : dIns i ta tb E δ := ⟨⟨ds, e⟩, h⟩
theorem r_popAt {ds : List D} (e : δ[i]? = some (some (.own ds))) (h : ta δ fun n δ1 => ∃ ds k j, n = .int k ∧ δ1[i]? = some (some (.own ds)) ∧ 0 ≤ k ∧ k < 2 ^ 63 ∧ k = (j : Nat) ∧ j < ds.length ∧ E.nx (δ1.set i (some (.own (ds.eraseIdx j))))) : dPopAt i ta E δ := ⟨⟨ds, e⟩, h⟩
theorem r_setIx (h : te δ fun d δ1 => (∃ ds, δ1[i]? = some (some (.own ds))) ∧ ta δ1 fun n δ2 => ∃ ds k j, n = .int k ∧ δ2[i]? = some (some (.own ds)) ∧ k = (j : Nat) ∧ j < ds.length ∧ E.nx (δ2.set i (some (.own (ds.set j d))))) : dSetIx i ta te E δ := h
theorem r_isO {K : PySem.W.Frag} {T : String} {C : Addr} {G : Bool → Prop} (o : OwnC K C) (e : PySem.W.kitOne K (.ref C) (.type T) = some b) (h : G b) : ∃ c, (isD T (.obj C) = some c ∨ ∃ C', D.obj C = .obj C' ∧ OwnC K C' ∧ PySem.W.kitOne K (.ref C') (.type T) = some c) ∧ G c := ⟨b, Or.inr ⟨C, rfl, o, e⟩, h⟩
theorem szl {n : Nat} (h : n ≤ 1000000) : n ≤ sizeLine := Nat.le_trans h (by decide)
theorem szlt {n : Nat} (h : n < 1000000) : n < sizeLine := Nat.lt_of_lt_of_le h (by decide)
end
end DL
/-! Weights of trees: how long a repr may be. -/
namespace DL
open PySem PySem.Spec PyProof.Rows L2
mutual
def wt : D → Nat
  | .non => 4
  | .bl _ => 5
  | .int i => (py (.int i)).shown.length
  | .str x => 10 * x.length + 2
  | .lst xs => 3 + wtAll xs
  | .tup xs => 3 + wtAll xs
  | .dct ks => 3 + wtKv ks
  | .bag => 0
  | .obj _ => 0
def wtAll : List D → Nat
  | [] => 0
  | d :: ds => wt d + 2 + wtAll ds
def wtKv : List (Key × D) → Nat
  | [] => 0
  | (.inl i, d) :: ds => (py (.int i)).shown.length + wt d + 4 + wtKv ds
  | (.inr x, d) :: ds => 10 * x.length + 2 + wt d + 4 + wtKv ds
end
def asc (x : Str) : Bool := x.cps.toList.all fun c => decide (c < 128)
def shI (i : Int) : Bool := decide (i.natAbs.log2 < 1920)
mutual
def sd : D → Bool
  | .int i => shI i
  | .str x => asc x
  | .lst xs => sdAll xs
  | .tup xs => sdAll xs
  | .dct ks => sdKv ks
  | .bag => false
  | .obj _ => false
  | _ => true
def sdAll : List D → Bool
  | [] => true
  | d :: ds => sd d && sdAll ds
def sdKv : List (Key × D) → Bool
  | [] => true
  | (.inl i, d) :: ds => shI i && sd d && sdKv ds
  | (.inr x, d) :: ds => asc x && sd d && sdKv ds
end
mutual
def dp : D → Nat
  | .lst xs => dpAll xs + 1
  | .tup xs => dpAll xs + 1
  | .dct ks => dpKv ks + 1
  | _ => 0
def dpAll : List D → Nat
  | [] => 0
  | d :: ds => max (dp d) (dpAll ds)
def dpKv : List (Key × D) → Nat
  | [] => 0
  | (_, d) :: ds => max (dp d) (dpKv ds)
end
theorem asc_repr {x : Str} (h : asc x = true) : (reprText x).length ≤ 10 * x.length + 2 := by
  refine StrLaws.reprText_len x fun c hc => ?_
  have h1 := List.all_eq_true.mp h c hc
  have h2 : c < 128 := by simpa using h1
  exact Nat.lt_trans h2 (by decide)
structure Ok3 (d : D) : Prop where
  cl : clean d = true
  sh : (py d).showable = true
  dp : (py d).depth = DL.dp d
  sz : (py d).shown.length ≤ wt d
mutual
theorem ok3 : ∀ d : D, sd d = true → Ok3 d
  | .non, _ => ⟨rfl, rfl, rfl, by decide +kernel⟩
  | .bl c, _ => ⟨rfl, rfl, rfl, by cases c <;> decide +kernel⟩
  | .int i, h => ⟨rfl, by simpa [py, PyData.showable, sd, shI] using h, rfl, Nat.le_refl _⟩
  | .str x, h => ⟨rfl, rfl, rfl, asc_repr h⟩
  | .lst xs, h => by
    obtain ⟨a, b, c, l, e⟩ := ok3All xs h
    refine ⟨a, b, by simp only [py, PyData.depth, dp, c], ?_⟩
    have h2 := listText_len_le (PyData.shownAll (pyAll xs))
    show (listText (PyData.shownAll (pyAll xs))).length ≤ 3 + wtAll xs
    omega
  | .tup xs, h => by
    obtain ⟨a, b, c, l, e⟩ := ok3All xs h
    refine ⟨a, b, by simp only [py, PyData.depth, dp, c], ?_⟩
    have h2 := tupleText_len_le (PyData.shownAll (pyAll xs))
    show (tupleText (PyData.shownAll (pyAll xs))).length ≤ 3 + wtAll xs
    omega
  | .dct ks, h => by
    obtain ⟨a, b, c, e⟩ := ok3Kv ks h
    refine ⟨a, b, by simp only [py, PyData.depth, dp, c], ?_⟩
    have h2 : (Str.join ", " (PyData.shownKv (pyKv ks))).length ≤ ((PyData.shownKv (pyKv ks)).map (·.length)).sum + (PyData.shownKv (pyKv ks)).length * 2 := StrLaws.join_length_le ", " (PyData.shownKv (pyKv ks))
    have h3 : ((", " : String) : Str).length = 2 := rfl
    show (dictText (PyData.shownKv (pyKv ks))).length ≤ 3 + wtKv ks
    unfold dictText
    rw [strLen_append, strLen_append]
    have h4 : (("{" : String) : Str).length = 1 := rfl
    have h5 : (("}" : String) : Str).length = 1 := rfl
    omega
  | .bag, h => by cases h
  | .obj _, h => by cases h
theorem ok3All : ∀ ds : List D, sdAll ds = true → cleanAll ds = true ∧ PyData.showableAll (pyAll ds) = true ∧ PyData.depthAll (pyAll ds) = dpAll ds ∧ ((PyData.shownAll (pyAll ds)).map (·.length)).sum + 2 * (PyData.shownAll (pyAll ds)).length ≤ wtAll ds ∧ True
  | [], _ => ⟨rfl, rfl, rfl, by decide, trivial⟩
  | d :: ds, h => by
    have h' : sd d = true ∧ sdAll ds = true := by simpa [sdAll] using h
    have q := ok3 d h'.1
    obtain ⟨a, b, c, l, _⟩ := ok3All ds h'.2
    refine ⟨by simp [cleanAll, q.cl, a], by simp [pyAll, PyData.showableAll, q.sh, b], by simp only [pyAll, PyData.depthAll, dpAll, q.dp, c], ?_, trivial⟩
    have := q.sz
    simp only [pyAll, PyData.shownAll, List.map_cons, List.sum_cons, List.length_cons, wtAll]
    omega
theorem ok3Kv : ∀ ds : List (Key × D), sdKv ds = true → cleanKv ds = true ∧ PyData.showableKv (pyKv ds) = true ∧ PyData.depthKv (pyKv ds) = dpKv ds ∧ ((PyData.shownKv (pyKv ds)).map (·.length)).sum + (PyData.shownKv (pyKv ds)).length * 2 ≤ wtKv ds
  | [], _ => ⟨rfl, rfl, rfl, by decide⟩
  | (.inl i, d) :: ds, h => by
    have h' : (shI i = true ∧ sd d = true) ∧ sdKv ds = true := by simpa [sdKv] using h
    have q := ok3 d h'.1.2
    obtain ⟨a, b, c, l⟩ := ok3Kv ds h'.2
    have h1 : (PyData.int i).showable = true := by simpa [PyData.showable, shI] using h'.1.1
    refine ⟨by simp [cleanKv, q.cl, a], by simp [pyKv, PyData.showableKv, h1, q.sh, b], by simp [pyKv, PyData.depthKv, PyData.depth, dpKv, q.dp, c], ?_⟩
    have := q.sz
    have h5 : ((": " : String) : Str).length = 2 := rfl
    simp only [pyKv, PyData.shownKv, List.map_cons, List.sum_cons, List.length_cons, wtKv, strLen_append, py]
    omega
  | (.inr x, d) :: ds, h => by
    have h' : (asc x = true ∧ sd d = true) ∧ sdKv ds = true := by simpa [sdKv] using h
    have q := ok3 d h'.1.2
    obtain ⟨a, b, c, l⟩ := ok3Kv ds h'.2
    have h1 : (PyData.str x).showable = true := rfl
    refine ⟨by simp [cleanKv, q.cl, a], by simp [pyKv, PyData.showableKv, h1, q.sh, b], by simp [pyKv, PyData.depthKv, PyData.depth, dpKv, q.dp, c], ?_⟩
    have := q.sz
    have h5 : ((": " : String) : Str).length = 2 := rfl
    have h6 : (PyData.str x).shown.length ≤ 10 * x.length + 2 := asc_repr h'.1.1
    simp only [pyKv, PyData.shownKv, List.map_cons, List.sum_cons, List.length_cons, wtKv, strLen_append]
    omega
end
/-- of such a size a tree may be shown -/
structure Good (d : D) : Prop where
  sd : DL.sd d = true
  wt : DL.wt d ≤ 900000
  dp : DL.dp d ≤ 40
theorem Good.shows {d : D} (h : Good d) : Shows d :=
  have q := ok3 d h.sd
  ⟨q.cl, q.sh, by have := h.dp; rw [q.dp]; omega, Nat.le_trans q.sz (szl (by have := h.wt; omega))⟩
instance (d : D) : Decidable (Good d) := decidable_of_iff (sd d = true ∧ wt d ≤ 900000 ∧ dp d ≤ 40) ⟨fun ⟨a, b, c⟩ => ⟨a, b, c⟩, fun ⟨a, b, c⟩ => ⟨a, b, c⟩⟩
end DL
/-! Small texts. -/
namespace DL
open PySem PySem.Spec PyProof.Rows L2
structure Sm (k : Nat) (x : Str) : Prop where
  a : asc x = true
  l : x.length ≤ k
theorem asc_mem {x : Str} : asc x = true ↔ ∀ c, c ∈ x.cps.toList → c < 128 := by
  unfold asc
  rw [List.all_eq_true]
  exact ⟨fun h c hc => by simpa using h c hc, fun h c hc => by simpa using h c hc⟩
theorem Sm.mono {j k : Nat} {x : Str} (h : Sm j x) (e : j ≤ k) : Sm k x := ⟨h.a, Nat.le_trans h.l e⟩
theorem Sm.app {j k : Nat} {x y : Str} (h : Sm j x) (g : Sm k y) : Sm (j + k) (x ++ y) := by
  refine ⟨asc_mem.mpr fun c hc => ?_, ?_⟩
  · have e : (x ++ y).cps = x.cps ++ y.cps := Str.cps_append ..
    rw [e, Array.toList_append, List.mem_append] at hc
    exact hc.elim (asc_mem.mp h.a c) (asc_mem.mp g.a c)
  · rw [strLen_append]
    have := h.l
    have := g.l
    omega
theorem Sm.cut {k : Nat} {x : Str} (h : Sm k x) (lo hi : Option Int) : Sm k (cutS x lo hi) := by
  refine ⟨asc_mem.mpr fun c hc => ?_, ?_⟩
  · have h1 : c ∈ ((x.cps.toList.drop (HT.sIx x.length 0 lo)).take (HT.sIx x.length x.length hi - HT.sIx x.length 0 lo)) := by simpa [cutS] using hc
    exact asc_mem.mp h.a c (List.mem_of_mem_drop (List.mem_of_mem_take h1))
  · have e : (cutS x lo hi).length = ((x.cps.toList.drop (HT.sIx x.length 0 lo)).take (HT.sIx x.length x.length hi - HT.sIx x.length 0 lo)).length := by
      show (List.toArray _).size = _
      simp
    rw [e, List.length_take, List.length_drop]
    have h1 : x.cps.toList.length = x.length := by simp [Str.length]
    have := h.l
    omega
theorem up1_lt : ∀ c, c < 128 → up1 c < 128 := by decide +kernel
theorem Sm.upper {k : Nat} {x : Str} (h : Sm k x) : Sm k (Txt.upper x) := by
  rw [upper_ascii (asc_mem.mp h.a)]
  refine ⟨asc_mem.mpr fun c hc => ?_, ?_⟩
  · have h1 : c ∈ x.cps.toList.map up1 := by simpa using hc
    obtain ⟨d, hd, rfl⟩ := List.mem_map.mp h1
    exact up1_lt d (asc_mem.mp h.a d hd)
  · have := h.l
    simpa [Str.length] using this
theorem Sm.rep {k : Nat} {x : Str} (h : Sm k x) : Sm (k + k) (repS x 2) := by
  have e : repS x 2 = x ++ x := by
    show (⟨#[] ++ x.cps ++ x.cps⟩ : Str) = _
    apply Str.ext'
    rw [Str.cps_append]
    simp
  rw [e]
  exact h.app h
theorem Sm.good {k : Nat} {x : Str} (h : Sm k x) (e : k ≤ 80000) : Good (.str x) := ⟨h.a, by
  have := h.l
  show 10 * x.length + 2 ≤ 900000
  omega, Nat.zero_le _⟩
theorem slS {k : Nat} {x : Str} (h : Sm k x) (e : k ≤ 1000000) (lo hi : Option Int) : slD (.str x) lo hi = some (.str (cutS x lo hi)) := if_pos (szl (Nat.le_trans h.l e))
def fRepS : DF2 := fun x y δ Q => ∃ z n, x = .str z ∧ y = .int n ∧ 2 ≤ n ∧ n ≤ 1000 ∧ 0 < z.length ∧ z.length ≤ 10000 ∧ Q (.str (repS z n.toNat)) δ
theorem od_repS {K : PySem.W.Frag} : OpD K rRepS fRepS := by
  rintro M σ H δ x y d e Q QD I ha hb ⟨z, n, rfl, rfl, h1, h2, h3, h4, q⟩ k
  exact ⟨z, n, ha, hb, h1, h2, h3, h4, k _ H _ δ I (Wi.refl _) (by rfl) q⟩
theorem r_repS {δ : DSt} {Q : D → DSt → Prop} {z : Str} {n : Int} (h1 : 2 ≤ n) (h2 : n ≤ 1000) (h3 : 0 < z.length) (h4 : z.length ≤ 10000) (h : Q (.str (repS z n.toNat)) δ) : fRepS (.str z) (.int n) δ Q := ⟨z, n, rfl, rfl, h1, h2, h3, h4, h⟩
theorem lenSm {k : Nat} {x : Str} (h : Sm k x) (e : k ≤ 1000000) : lenD (.str x) = some (x.length : Int) := if_pos (szl (Nat.le_trans h.l e))
end DL
/-! name = [..] on one line. -/
namespace DL
open PySem PySem.Spec PyProof.Rows L2
section
variable {X : Cx} {K : PySem.W.Frag} {t0 te : DTE} {tt : DTT} {i j : Nat} {x y : Str} {py p' pos spos : Pos} {elt iter : Expr} {ifs : List Expr} {scope : Scope}
theorem ds_setLc (kd : Kd) (hc : X.calm = true) (hN : X.N.Nodup) (hy : X.N[i]? = some y) (hyl : X.env.scope.names.lookup y = some .local) (hk : X.env.scope.kind = .function) (hl : (py.line == pos.line) = true)
    (ha : (scope.names.any fun (n, k) => n == y && (k == .local || k == .cell)) = false) (hi : PE X iter (rd X.K t0)) (ok : BlkOk X.N X.env.scope scope [(x, j)])
    (hg : ∀ (s : Shared) (H : Hp) (C : Addr) (cl : List (Str × Addr)) (fp : List Addr), PG (X.blk s H scope (compEnvC scope cl C X.env) fp) (.Name x p') (gName j))
    (ht : ∀ (s : Shared) (H : Hp) (C : Addr) (cl : List (Str × Addr)) (fp : List Addr), PTs (X.blk s H scope (compEnvC scope cl C X.env) fp) ifs (rdT X.K tt))
    (he : ∀ (s : Shared) (H : Hp) (C : Addr) (cl : List (Str × Addr)) (fp : List Addr), PE (X.blk s H scope (compEnvC scope cl C X.env) fp) elt (rd X.K te)) (hs : ∀ x, foldedSetIterable iter X.env x = pure x := by intro _; rfl) :
    PS X (.Assign [.Name y py] (.ListComp elt [⟨.Name x p', iter, ifs, 0⟩] scope pos) spos) (rdS X.K (dSet i (dFr (dLc kd j t0 tt te)))) :=
  PS.to (ps_setLc (own := [(x, j)]) hc hN hy hyl (sw_true hk hyl hl ha) (pi_kd hi kd) ok hg ht he hs) (by
    rintro E σ H ⟨M, δ, F, I, h, ok⟩
    refine rd_lc (rd_fr (Q := fun x H1 => gName i x σ H1 E.nx) ⟨M, δ, _, I, h, fun v H1 d δ1 I1 w1 a1 q => ?_⟩)
    obtain ⟨I2, w2⟩ := I1.put i a1
    exact ok.nx _ _ _ I2 (Wi.trans w1 w2) q)
end
end DL
namespace K
open PySem PySem.Spec PyProof.Rows L2 DL
def top (i : Nat) : Stmt := PySem.Challenge.pw_reachkept_k11_kinds_of_any_value.main.body.getD i (.Pass ⟨0, 0, 0, 0⟩)
abbrev s_is_integer : Stmt := top 3
abbrev s_is_natural : Stmt := top 4
abbrev s_is_name : Stmt := top 5
abbrev s_is_at : Stmt := top 6
abbrev s_is_value : Stmt := top 7
abbrev s_l_bag : Stmt := top 16
abbrev s_l_take : Stmt := top 17
abbrev s_l_some : Stmt := top 18
abbrev s_l_mixed : Stmt := top 19
abbrev s_l_alike : Stmt := top 20
abbrev s_l_names : Stmt := top 21
abbrev s_l_odd : Stmt := top 22
abbrev s_l_changed : Stmt := top 23
abbrev s_l_bent : Stmt := top 24
abbrev s_l_reserved : Stmt := top 25
abbrev s_l_is_integer : Stmt := top 26
abbrev s_l_is_name : Stmt := top 27
abbrev s_l_is_value : Stmt := top 28
abbrev s_l_near_word : Stmt := top 29
abbrev s_l_near_value : Stmt := top 30
abbrev s_law : Stmt := top 31
structure Ad where
  f_is_integer : Addr
  d_is_integer : FuncData
  f_is_natural : Addr
  d_is_natural : FuncData
  f_is_name : Addr
  d_is_name : FuncData
  f_is_at : Addr
  d_is_at : FuncData
  f_is_value : Addr
  d_is_value : FuncData
  f_l_bag : Addr
  d_l_bag : FuncData
  f_l_take : Addr
  d_l_take : FuncData
  f_l_some : Addr
  d_l_some : FuncData
  f_l_mixed : Addr
  d_l_mixed : FuncData
  f_l_alike : Addr
  d_l_alike : FuncData
  f_l_names : Addr
  d_l_names : FuncData
  f_l_odd : Addr
  d_l_odd : FuncData
  f_l_changed : Addr
  d_l_changed : FuncData
  f_l_bent : Addr
  d_l_bent : FuncData
  f_l_reserved : Addr
  d_l_reserved : FuncData
  f_l_is_integer : Addr
  d_l_is_integer : FuncData
  f_l_is_name : Addr
  d_l_is_name : FuncData
  f_l_is_value : Addr
  d_l_is_value : FuncData
  f_l_near_word : Addr
  d_l_near_word : FuncData
  f_l_near_value : Addr
  d_l_near_value : FuncData
  f_law : Addr
  d_law : FuncData
  cHeap : Addr
  fHeap : Addr
  dHeap : FuncData
  res : Addr
def reserved : List Str := ["add", "back", "call", "cell", "do", "field", "function", "generator", "if", "import", "integer", "is", "less", "let", "make", "maker", "module", "mul", "next", "nothing", "put", "quo", "rest", "same", "store", "sub", "tell", "throw", "try", "while", "word", "yield"]
structure Txt (K : PySem.W.Frag) (mg : Str → Option Value) (A : Ad) : Prop where
  m_is_integer : mg "is_integer" = some (.ref A.f_is_integer)
  F_is_integer : Fun K "is_integer" "is_integer" s_is_integer A.f_is_integer A.d_is_integer
  b_is_integer : Binds K A.d_is_integer ["thing"] []
  m_is_natural : mg "is_natural" = some (.ref A.f_is_natural)
  F_is_natural : Fun K "is_natural" "is_natural" s_is_natural A.f_is_natural A.d_is_natural
  b_is_natural : Binds K A.d_is_natural ["thing"] []
  m_is_name : mg "is_name" = some (.ref A.f_is_name)
  F_is_name : Fun K "is_name" "is_name" s_is_name A.f_is_name A.d_is_name
  b_is_name : Binds K A.d_is_name ["thing"] []
  m_is_at : mg "is_at" = some (.ref A.f_is_at)
  F_is_at : Fun K "is_at" "is_at" s_is_at A.f_is_at A.d_is_at
  b_is_at : Binds K A.d_is_at ["thing"] []
  m_is_value : mg "is_value" = some (.ref A.f_is_value)
  F_is_value : Fun K "is_value" "is_value" s_is_value A.f_is_value A.d_is_value
  b_is_value : Binds K A.d_is_value ["thing"] []
  m_l_bag : mg "_law_bag" = some (.ref A.f_l_bag)
  F_l_bag : Fun K "_law_bag" "_law_bag" s_l_bag A.f_l_bag A.d_l_bag
  b_l_bag : Binds K A.d_l_bag ["_law_script"] []
  m_l_take : mg "_law_take" = some (.ref A.f_l_take)
  F_l_take : Fun K "_law_take" "_law_take" s_l_take A.f_l_take A.d_l_take
  b_l_take : Binds K A.d_l_take ["_law_bag_here", "_law_upto"] []
  m_l_some : mg "_law_some" = some (.ref A.f_l_some)
  F_l_some : Fun K "_law_some" "_law_some" s_l_some A.f_l_some A.d_l_some
  b_l_some : Binds K A.d_l_some ["_law_bag_here", "_law_things"] []
  m_l_mixed : mg "_law_mixed" = some (.ref A.f_l_mixed)
  F_l_mixed : Fun K "_law_mixed" "_law_mixed" s_l_mixed A.f_l_mixed A.d_l_mixed
  b_l_mixed : Binds K A.d_l_mixed ["_law_bag_here", "_law_things"] []
  m_l_alike : mg "_law_alike" = some (.ref A.f_l_alike)
  F_l_alike : Fun K "_law_alike" "_law_alike" s_l_alike A.f_l_alike A.d_l_alike
  b_l_alike : Binds K A.d_l_alike ["_law_found", "_law_due"] []
  m_l_names : mg "_law_names" = some (.ref A.f_l_names)
  F_l_names : Fun K "_law_names" "_law_names" s_l_names A.f_l_names A.d_l_names
  b_l_names : Binds K A.d_l_names ["_law_bag_here", "_law_upto"] []
  m_l_odd : mg "_law_odd" = some (.ref A.f_l_odd)
  F_l_odd : Fun K "_law_odd" "_law_odd" s_l_odd A.f_l_odd A.d_l_odd
  b_l_odd : Binds K A.d_l_odd ["_law_bag_here"] []
  m_l_changed : mg "_law_changed" = some (.ref A.f_l_changed)
  F_l_changed : Fun K "_law_changed" "_law_changed" s_l_changed A.f_l_changed A.d_l_changed
  b_l_changed : Binds K A.d_l_changed ["_law_bag_here", "_law_thing"] []
  m_l_bent : mg "_law_bent" = some (.ref A.f_l_bent)
  F_l_bent : Fun K "_law_bent" "_law_bent" s_l_bent A.f_l_bent A.d_l_bent
  b_l_bent : Binds K A.d_l_bent ["_law_bag_here", "_law_thing"] []
  m_l_reserved : mg "_law_reserved" = some (.ref A.f_l_reserved)
  F_l_reserved : Fun K "_law_reserved" "_law_reserved" s_l_reserved A.f_l_reserved A.d_l_reserved
  b_l_reserved : Binds K A.d_l_reserved [] []
  m_l_is_integer : mg "_law_is_integer" = some (.ref A.f_l_is_integer)
  F_l_is_integer : Fun K "_law_is_integer" "_law_is_integer" s_l_is_integer A.f_l_is_integer A.d_l_is_integer
  b_l_is_integer : Binds K A.d_l_is_integer ["_law_thing"] []
  m_l_is_name : mg "_law_is_name" = some (.ref A.f_l_is_name)
  F_l_is_name : Fun K "_law_is_name" "_law_is_name" s_l_is_name A.f_l_is_name A.d_l_is_name
  b_l_is_name : Binds K A.d_l_is_name ["_law_thing"] []
  m_l_is_value : mg "_law_is_value" = some (.ref A.f_l_is_value)
  F_l_is_value : Fun K "_law_is_value" "_law_is_value" s_l_is_value A.f_l_is_value A.d_l_is_value
  b_l_is_value : Binds K A.d_l_is_value ["_law_thing"] []
  m_l_near_word : mg "_law_near_word" = some (.ref A.f_l_near_word)
  F_l_near_word : Fun K "_law_near_word" "_law_near_word" s_l_near_word A.f_l_near_word A.d_l_near_word
  b_l_near_word : Binds K A.d_l_near_word ["_law_bag_here"] []
  m_l_near_value : mg "_law_near_value" = some (.ref A.f_l_near_value)
  F_l_near_value : Fun K "_law_near_value" "_law_near_value" s_l_near_value A.f_l_near_value A.d_l_near_value
  b_l_near_value : Binds K A.d_l_near_value ["_law_bag_here"] []
  m_law : mg "law" = some (.ref A.f_law)
  F_law : Fun K "law" "law" s_law A.f_law A.d_law
  b_law : Binds K A.d_law ["_law_script"] []
  len : mg "len" = none
  repr : mg "repr" = none
  isinstance : mg "isinstance" = none
  int : mg "int" = none
  str : mg "str" = none
  bool : mg "bool" = none
  tuple : mg "tuple" = none
  list : mg "list" = none
  all : mg "all" = none
  abs : mg "abs" = none
  range : mg "range" = none
  mRes : mg "RESERVED" = some (.ref A.res)
  kRes : KTup K A.res (reserved.map V.str)
section
variable {P : Program} {w : World} {K : PySem.W.Frag} {mg : Str → Option Value} {base : Heap} {A : Ad}
local macro_rules | `(tactic| walk_at "s") => `(tactic| with_reducible first
  | refine r_seq ?_ | refine r_skip ?_ | refine r_set ?_ | refine r_own ?_ | refine r_do ?_ | refine r_ret ?_ | refine r_retN ?_ | refine r_if ?_ | refine r_par ?_ | refine r_parN ?_
  | refine r_test ?_ | refine r_bl ?_ | refine r_blV ?_ | refine r_and ?_ | refine r_or ?_ | refine r_not ?_ | refine r_ifE ?_ | refine r_andV ?_ | refine r_orV ?_ | refine r_notV ?_
  | refine r_iteT ?_ | refine r_iteF ?_
  | refine r_c ?_ | refine r_op ?_ | refine r_isN ?_ | refine r_notN ?_ | refine r_isB ?_ | refine r_notB ?_ | refine r_neg ?_ | refine r_negB ?_ | refine r_intX ?_ | refine r_strX ?_
  | refine r_chain ?_ | refine r_cb ?_ | refine r_int ?_ | refine r_intB ?_ | refine r_nil ?_ | refine r_cons ?_ | refine r_tup ?_ | refine r_lst ?_ | refine r_new ?_ | refine r_fr ?_ | refine r_items ?_ | refine r_call ?_
  | refine r_is ?_ | refine r_is2 ?_ | refine r_sl ?_ | refine r_noPart ?_ | refine r_part ?_ | refine r_split ?_ | refine r_upper ?_ | refine r_dict1 ?_ | refine r_bagSet ?_ | refine r_leS ?_ | refine r_inS ?_ | refine r_yes ?_ | refine r_forL ?_ | refine r_forT ?_ | refine r_forR ?_ | refine r_lc ?_ | refine r_setIx ?_)
local macro_rules | `(tactic| walk_at "v") => `(tactic| first
  | refine r_var (by rfl) ?_ | refine r_varO (by rfl) ?_ | refine r_p2 (by rfl) ?_ | refine r_eqC (by rfl) ?_ | refine r_neC (by rfl) ?_ | refine r_isX (by rfl) ?_ | refine r_len (by rfl) ?_ | refine r_lenO (by rfl) ?_ | refine r_tupOf (by rfl) ?_
  | refine r_bagIx (by rfl) (fun n => ?_) | refine r_bagCut (by rfl) ?_ | refine r_ixO (by rfl) ?_ | refine r_app (by rfl) ?_ | refine r_ins (by rfl) ?_ | refine r_popAt (by rfl) ?_ | refine r_addB (by rfl) ?_
  | refine r_iteY (by rfl) ?_ | refine r_iteZ (by rfl) ?_ | refine r_ic (by decide) ?_ | refine r_ic (by omega) ?_ | refine r_ic (Or.inr ⟨by decide, by decide⟩) ?_ | refine r_ic (Or.inl ⟨by decide, by decide⟩) ?_ | refine r_ic ⟨by decide, by decide⟩ ?_ | refine r_addS (by decide) ?_ | refine r_rep (by decide) (by decide) (by decide) ?_
  | refine ⟨szl (by simp), ?_⟩ | refine ⟨⟨_, rfl⟩, by rfl, ?_⟩ | refine ⟨_, _, rfl, ?_⟩ | refine And.intro (by rfl) ?_)
local macro_rules | `(tactic| walk_at "d") => `(tactic| repeat (first | walk_at "s" | walk_at "v"))
theorem head_int (cs : List Int) : ∃ n, ixD (.lst (cs.map D.int ++ [D.int 0])) 0 = some (.int n) := by
  cases cs with
  | nil => exact ⟨0, rfl⟩
  | cons c cs =>
    refine ⟨c, ?_⟩
    show atI (D.int c :: (cs.map D.int ++ [D.int 0])) 0 = _
    unfold atI ixN
    rw [if_pos (by decide), if_pos (by simp; omega)]
    rfl
theorem sq_lt (n : Int) : -(2 ^ 64) < n % 1000000007 ∧ n % 1000000007 < 2 ^ 64 := by
  have h1 := Int.emod_nonneg n (show (1000000007 : Int) ≠ 0 by decide)
  have h2 := Int.emod_lt_of_pos n (show (0 : Int) < 1000000007 by decide)
  omega
theorem sc_l_take : FnScope ["_law_bag_here", "_law_upto", "_law_begin", "_law_second", "_law_cell", "_law_stirred", "_law_value"] ["_law_bag_here", "_law_upto"] (defScope s_l_take) := ⟨rfl, rfl, rfl, by decide +kernel, rfl, by decide +kernel, by decide +kernel⟩
theorem ok_l_take (T : Txt K mg A) (sy : Sys base) : FnG P w K mg base CX0 1 A.f_l_take A.d_l_take ["_law_bag_here", "_law_upto"] (spD K φTake) := by
  have nd := sc_l_take.nd
  refine fn_D (k := 0) T.F_l_take sc_l_take (by rintro ds Q ⟨u, rfl, _⟩; rfl) (fun cdv B up z H E gd hr =>
    have hu := hr.units
    (dss_cons (ds_if (dt_cmp op_eq od_eqC (nomark _) (de_bagIx (by decide) (pv 0)) de_int) (dss_cons (ds_set (i := 4) nd rfl (Or.inl rfl) (de_ix (de_op op_cat od_cat (de_bagCut (pv 0) (de_bagIx (by decide) (pv 0))) (de_lst (da_cons de_int da_nil))) de_int (fun _ _ => rfl))) (dss_cons (ds_bagInc (by decide) (pv 0) de_int) (dss_cons (ds_if (dt_cmp op_ge od_ge (nomark _) (dv 4) (de_pow de_int de_int)) (dss_cons (ds_bagSet (by decide) (pv 0) (dv 4)) dss_nil) dss_nil) (dss_cons (ds_set (i := 5) nd rfl (Or.inl rfl) (de_add (de_add (de_mul (de_bagIx (by decide) (pv 0)) de_int) (de_mod (de_callTy call_int1 cd_int rfl T.int boot_int (da_cons (dv 4) da_nil)) de_int)) (de_mul de_int (de_bagIx (by decide) (pv 0))))) (dss_cons (ds_bagSet (by decide) (pv 0) (de_mod (de_callTy call_int1 cd_int rfl T.int boot_int (da_cons (dv 5) da_nil)) de_int)) dss_nil))))) dss_nil) (dss_cons (ds_if (dt_cmp op_gt od_gt (nomark _) (de_bagIx (by decide) (pv 0)) de_int) (dss_cons (ds_set (i := 6) nd rfl (Or.inl rfl) (de_mod (de_callTy call_int1 cd_int rfl T.int boot_int (da_cons (de_bagIx (by decide) (pv 0)) da_nil)) (dv 1))) (dss_cons (ds_bagSet (by decide) (pv 0) (de_div (de_callTy call_int1 cd_int rfl T.int boot_int (da_cons (de_bagIx (by decide) (pv 0)) da_nil)) (dv 1))) (dss_cons (ds_ret (dv 6)) dss_nil))) dss_nil) (dss_cons (ds_set (i := 2) nd rfl (Or.inl rfl) (de_mod (de_callTy call_int1 cd_int rfl T.int boot_int (da_cons (de_mul (de_add (de_bagIx (by decide) (pv 0)) de_int) de_int) da_nil)) de_int)) (dss_cons (ds_set (i := 3) nd rfl (Or.inl rfl) (de_mod (de_callTy call_int1 cd_int rfl T.int boot_int (da_cons (de_mul (de_mod (de_callTy call_int1 cd_int rfl T.int boot_int (da_cons (de_mul (dv 2) (dv 2)) da_nil)) de_int) de_int) da_nil)) de_int)) (dss_cons (ds_ret (de_mod (de_callTy call_int1 cd_int rfl T.int boot_int (da_cons (de_div (dv 3) de_int) da_nil)) (dv 1))) dss_nil)))))) ?_
  rintro ds Q ⟨u, rfl, u0, u1, k⟩
  have u2 : u < 1073741824 := by omega
  walk_at "d"
  refine r_iteD (fun _ => ?_) (fun _ => ?_)
  · walk_at "d"
    intro cs hcs
    walk_at "d"
    refine r_cat (szl (by simp; omega)) ?_
    walk_at "d"
    obtain ⟨n, hn⟩ := head_int cs
    refine r_ix hn ?_
    walk_at "d"
    refine r_iteD (fun _ => ?_) (fun _ => ?_)
    · walk_at "d"
      walk_at "d"
      refine r_iteD (fun _ => ?_) (fun _ => ?_)
      · walk_at "d"
        refine r_ic ⟨u0, u2⟩ ?_
        walk_at "d"
        exact k _ (Int.emod_nonneg _ (by omega)) (Int.emod_lt_of_pos _ u0)
      · walk_at "d"
        refine r_ic (Or.inl (sq_lt _)) ?_
        walk_at "d"
        exact k _ (Int.emod_nonneg _ (by omega)) (Int.emod_lt_of_pos _ u0)
    · walk_at "d"
      walk_at "d"
      refine r_iteD (fun _ => ?_) (fun _ => ?_)
      · walk_at "d"
        refine r_ic ⟨u0, u2⟩ ?_
        walk_at "d"
        exact k _ (Int.emod_nonneg _ (by omega)) (Int.emod_lt_of_pos _ u0)
      · walk_at "d"
        refine r_ic (Or.inl (sq_lt _)) ?_
        walk_at "d"
        exact k _ (Int.emod_nonneg _ (by omega)) (Int.emod_lt_of_pos _ u0)
  · walk_at "d"
    walk_at "d"
    refine r_iteD (fun _ => ?_) (fun _ => ?_)
    · walk_at "d"
      refine r_ic ⟨u0, u2⟩ ?_
      walk_at "d"
      exact k _ (Int.emod_nonneg _ (by omega)) (Int.emod_lt_of_pos _ u0)
    · walk_at "d"
      refine r_ic (Or.inl (sq_lt _)) ?_
      walk_at "d"
      exact k _ (Int.emod_nonneg _ (by omega)) (Int.emod_lt_of_pos _ u0)
end
end K
namespace K
open PySem PySem.Spec PyProof.Rows L2 DL
local macro_rules | `(tactic| walk_at "s") => `(tactic| with_reducible first
  | refine r_seq ?_ | refine r_skip ?_ | refine r_set ?_ | refine r_own ?_ | refine r_do ?_ | refine r_ret ?_ | refine r_retN ?_ | refine r_if ?_ | refine r_par ?_ | refine r_parN ?_
  | refine r_test ?_ | refine r_bl ?_ | refine r_blV ?_ | refine r_and ?_ | refine r_or ?_ | refine r_not ?_ | refine r_ifE ?_ | refine r_andV ?_ | refine r_orV ?_ | refine r_notV ?_
  | refine r_iteT ?_ | refine r_iteF ?_
  | refine r_c ?_ | refine r_op ?_ | refine r_isN ?_ | refine r_notN ?_ | refine r_isB ?_ | refine r_notB ?_ | refine r_neg ?_ | refine r_negB ?_ | refine r_intX ?_ | refine r_strX ?_
  | refine r_chain ?_ | refine r_cb ?_ | refine r_int ?_ | refine r_intB ?_ | refine r_nil ?_ | refine r_cons ?_ | refine r_tup ?_ | refine r_lst ?_ | refine r_new ?_ | refine r_fr ?_ | refine r_items ?_ | refine r_call ?_
  | refine r_is ?_ | refine r_is2 ?_ | refine r_sl ?_ | refine r_noPart ?_ | refine r_part ?_ | refine r_split ?_ | refine r_upper ?_ | refine r_dict1 ?_ | refine r_bagSet ?_ | refine r_leS ?_ | refine r_inS ?_ | refine r_yes ?_ | refine r_forL ?_ | refine r_forT ?_ | refine r_forR ?_ | refine r_lc ?_ | refine r_setIx ?_)
local macro_rules | `(tactic| walk_at "v") => `(tactic| first
  | refine r_var (by rfl) ?_ | refine r_varO (by rfl) ?_ | refine r_p2 (by rfl) ?_ | refine r_eqC (by rfl) ?_ | refine r_neC (by rfl) ?_ | refine r_isX (by rfl) ?_ | refine r_len (by rfl) ?_ | refine r_lenO (by rfl) ?_ | refine r_tupOf (by rfl) ?_
  | refine r_bagIx (by rfl) (fun n => ?_) | refine r_bagCut (by rfl) ?_ | refine r_ixO (by rfl) ?_ | refine r_app (by rfl) ?_ | refine r_ins (by rfl) ?_ | refine r_popAt (by rfl) ?_ | refine r_addB (by rfl) ?_
  | refine r_iteY (by rfl) ?_ | refine r_iteZ (by rfl) ?_ | refine r_ic (by decide) ?_ | refine r_ic (by omega) ?_ | refine r_ic (Or.inr ⟨by decide, by decide⟩) ?_ | refine r_ic (Or.inl ⟨by decide, by decide⟩) ?_ | refine r_ic ⟨by decide, by decide⟩ ?_ | refine r_addS (by decide) ?_ | refine r_rep (by decide) (by decide) (by decide) ?_
  | refine ⟨szl (by simp), ?_⟩ | refine ⟨⟨_, rfl⟩, by rfl, ?_⟩ | refine ⟨_, _, rfl, ?_⟩ | refine And.intro (by rfl) ?_)
local macro_rules | `(tactic| walk_at "d") => `(tactic| repeat (first | walk_at "s" | walk_at "v"))
section
variable {P : Program} {w : World} {K : PySem.W.Frag} {mg : Str → Option Value} {base : Heap} {A : Ad}
theorem ix_mem {xs : List D} {r : Int} (h0 : 0 ≤ r) (h1 : r < xs.length) : ∃ d, ixD (.lst xs) r = some d ∧ d ∈ xs := by
  have h2 : r.toNat < xs.length := by omega
  refine ⟨xs[r.toNat], ?_, List.getElem_mem h2⟩
  show atI xs r = _
  unfold atI ixN
  rw [if_pos h0, if_pos h1]
  exact List.getElem?_eq_getElem h2
def φMixed : DSpec := fun ds Q => ∃ xs, ds = [.bag, .lst xs] ∧ xs.length < 100000 ∧ ∀ ys : List D, ys.Perm xs → Q (.lst ys)
def φAlike : DSpec := fun ds Q => ∃ x, ds = [x, x] ∧ plainD x ∧ Shows x ∧ Q (.bl true)
theorem sc_l_some : FnScope ["_law_bag_here", "_law_things"] ["_law_bag_here", "_law_things"] (defScope s_l_some) := ⟨rfl, rfl, rfl, by decide +kernel, rfl, by decide +kernel, by decide +kernel⟩
theorem ok_l_some (T : Txt K mg A) (sy : Sys base) : FnG P w K mg base CX0 2 A.f_l_some A.d_l_some ["_law_bag_here", "_law_things"] (spD K φSome) := by
  have G_l_take := ok_l_take (P := P) (w := w) T sy
  have nd := sc_l_some.nd
  refine fn_D (k := 1) T.F_l_some sc_l_some (by rintro ds Q ⟨u, rfl, _⟩; rfl) (fun cdv B up z H E gd hr =>
    have hu := hr.units
    (dss_cons (ds_ret (de_ix (dv 1) (de_call G_l_take gd (hr.mono (by decide)) rfl T.m_l_take T.F_l_take.kp T.b_l_take (da_cons (dv 0) (da_cons (de_callB call_lenT cd_len rfl T.len PySem.boot_len (da_cons (dv 1) da_nil)) da_nil))) (fun _ _ => rfl))) dss_nil)) ?_
  rintro ds Q ⟨xs, rfl, h0, h1, k⟩
  walk_at "d"
  refine ⟨_, rfl, ?_, by omega, fun r r0 r1 => ?_⟩
  · cases xs with
    | nil => exact absurd rfl h0
    | cons x xs => simp
  obtain ⟨d, e, m⟩ := ix_mem r0 r1
  refine r_ix e ?_
  walk_at "d"
  exact k d m
theorem sc_l_mixed : FnScope ["_law_bag_here", "_law_things", "_law_found", "_law_thing"] ["_law_bag_here", "_law_things"] (defScope s_l_mixed) := ⟨rfl, rfl, rfl, by decide +kernel, rfl, by decide +kernel, by decide +kernel⟩
theorem ok_l_mixed (T : Txt K mg A) (sy : Sys base) : FnG P w K mg base CX0 2 A.f_l_mixed A.d_l_mixed ["_law_bag_here", "_law_things"] (spD K φMixed) := by
  have G_l_take := ok_l_take (P := P) (w := w) T sy
  have nd := sc_l_mixed.nd
  refine fn_D (k := 1) T.F_l_mixed sc_l_mixed (by rintro ds Q ⟨u, rfl, _⟩; rfl) (fun cdv B up z H E gd hr =>
    have hu := hr.units
    (dss_cons (ds_own (i := 2) nd rfl (Or.inl rfl) (dn_lst da_nil)) (dss_cons (ds_forL PassesOwn.never rfl (dv 1) nd (j := 3) rfl (Or.inl rfl) (dss_cons (ds_ins (pe_bm PySem.F.plainAttrs_list PySem.F.slot_list_insert PySem.F.type_list_insert mt_insert (pv 2) (pa_cons (de_call G_l_take gd (hr.mono (by decide)) rfl T.m_l_take T.F_l_take.kp T.b_l_take (da_cons (dv 0) (da_cons (de_add (de_lenO (pv 2) rfl T.len) de_int) da_nil))) (pa_cons (dv 3) pa_nil)))) dss_nil)) (dss_cons (ds_ret (dv 2)) dss_nil)))) ?_
  rintro ds Q ⟨xs, rfl, h1, k⟩
  walk_at "d"
  refine ⟨xs, rfl, fun rest δ => ∃ ys o, δ = [some (.dat .bag), some (.dat (.lst xs)), some (.own ys), o] ∧ (ys ++ rest).Perm xs, ⟨[], none, rfl, .refl _⟩, ?_, ?_⟩
  · rintro δ ⟨ys, o, rfl, p⟩
    walk_at "d"
    exact k ys (by simpa using p)
  · rintro x rest δ hx ⟨ys, o, rfl, p⟩
    have hl := p.length_eq
    simp only [List.length_append, List.length_cons] at hl
    walk_at "d"
    refine ⟨_, rfl, by omega, by omega, fun r r0 r1 => ?_⟩
    walk_at "d"
    refine ⟨ys, r, rfl, r0, by omega, rfl, szlt (by omega), ?_⟩
    walk_at "d"
    refine List.Perm.trans ?_ p
    have e : ys = ys.take r.toNat ++ ys.drop r.toNat := (List.take_append_drop _ _).symm
    have p2 : (ys.take r.toNat ++ [x] ++ ys.drop r.toNat).Perm (ys ++ [x]) := by
      conv => rhs; rw [e]
      rw [List.append_assoc, List.append_assoc]
      exact List.Perm.append_left _ List.perm_append_comm
    have p3 := List.Perm.append_right rest p2
    simpa using p3
theorem sc_l_alike : FnScope ["_law_found", "_law_due"] ["_law_found", "_law_due"] (defScope s_l_alike) := ⟨rfl, rfl, rfl, by decide +kernel, rfl, by decide +kernel, by decide +kernel⟩
theorem ok_l_alike (T : Txt K mg A) (sy : Sys base) : FnG P w K mg base CX0 1 A.f_l_alike A.d_l_alike ["_law_found", "_law_due"] (spD K φAlike) := by
  have nd := sc_l_alike.nd
  refine fn_D (k := 0) T.F_l_alike sc_l_alike (by rintro ds Q ⟨u, rfl, _⟩; rfl) (fun cdv B up z H E gd hr =>
    have hu := hr.units
    (dss_cons (ds_ret (de_and (de_cmp (op_eqT hu sy) od_eq (nomark _) (dv 0) (dv 1)) (de_one (de_cmp op_eq od_eqC (nomark _) (de_callB (call_reprD gd hu sy) cd_repr rfl T.repr boot_repr (da_cons (dv 0) da_nil)) (de_callB (call_reprD gd hu sy) cd_repr rfl T.repr boot_repr (da_cons (dv 1) da_nil)))))) dss_nil)) ?_
  rintro ds Q ⟨x, rfl, p, s, k⟩
  walk_at "d"
  refine r_eqD p p ?_
  rw [SeqAt.eqv_refl _ (SeqAt.canLay_of_shaped p.2)]
  walk_at "d"
  refine r_repr s ?_
  walk_at "d"
  refine r_repr s ?_
  walk_at "d"
  simpa using k
end
end K
namespace K
open PySem PySem.Spec PyProof.Rows L2 DL
local macro_rules | `(tactic| walk_at "s") => `(tactic| with_reducible first
  | refine r_seq ?_ | refine r_skip ?_ | refine r_set ?_ | refine r_own ?_ | refine r_do ?_ | refine r_ret ?_ | refine r_retN ?_ | refine r_if ?_ | refine r_par ?_ | refine r_parN ?_
  | refine r_test ?_ | refine r_bl ?_ | refine r_blV ?_ | refine r_and ?_ | refine r_or ?_ | refine r_not ?_ | refine r_ifE ?_ | refine r_andV ?_ | refine r_orV ?_ | refine r_notV ?_
  | refine r_iteT ?_ | refine r_iteF ?_
  | refine r_c ?_ | refine r_op ?_ | refine r_isN ?_ | refine r_notN ?_ | refine r_isB ?_ | refine r_notB ?_ | refine r_neg ?_ | refine r_negB ?_ | refine r_intX ?_ | refine r_strX ?_
  | refine r_chain ?_ | refine r_cb ?_ | refine r_int ?_ | refine r_intB ?_ | refine r_nil ?_ | refine r_cons ?_ | refine r_tup ?_ | refine r_lst ?_ | refine r_new ?_ | refine r_fr ?_ | refine r_items ?_ | refine r_call ?_
  | refine r_is ?_ | refine r_is2 ?_ | refine r_sl ?_ | refine r_noPart ?_ | refine r_part ?_ | refine r_split ?_ | refine r_upper ?_ | refine r_dict1 ?_ | refine r_bagSet ?_ | refine r_leS ?_ | refine r_inS ?_ | refine r_yes ?_ | refine r_forL ?_ | refine r_forT ?_ | refine r_forR ?_ | refine r_lc ?_ | refine r_setIx ?_)
local macro_rules | `(tactic| walk_at "v") => `(tactic| first
  | refine r_var (by rfl) ?_ | refine r_varO (by rfl) ?_ | refine r_p2 (by rfl) ?_ | refine r_eqC (by rfl) ?_ | refine r_neC (by rfl) ?_ | refine r_isX (by rfl) ?_ | refine r_len (by rfl) ?_ | refine r_lenO (by rfl) ?_ | refine r_tupOf (by rfl) ?_
  | refine r_bagIx (by rfl) (fun n => ?_) | refine r_bagCut (by rfl) ?_ | refine r_ixO (by rfl) ?_ | refine r_app (by rfl) ?_ | refine r_ins (by rfl) ?_ | refine r_popAt (by rfl) ?_ | refine r_addB (by rfl) ?_
  | refine r_iteY (by rfl) ?_ | refine r_iteZ (by rfl) ?_ | refine r_ic (by decide) ?_ | refine r_ic (by omega) ?_ | refine r_ic (Or.inr ⟨by decide, by decide⟩) ?_ | refine r_ic (Or.inl ⟨by decide, by decide⟩) ?_ | refine r_ic ⟨by decide, by decide⟩ ?_ | refine r_addS (by decide) ?_ | refine r_rep (by decide) (by decide) (by decide) ?_
  | (refine And.intro (szl ?_) ?_; focus (simp; done)) | refine ⟨⟨_, rfl⟩, by rfl, ?_⟩ | refine ⟨_, _, rfl, ?_⟩ | refine And.intro (by rfl) ?_)
local macro_rules | `(tactic| walk_at "d") => `(tactic| repeat (first | walk_at "s" | walk_at "v"))
section
variable {P : Program} {w : World} {K : PySem.W.Frag} {mg : Str → Option Value} {base : Heap} {A : Ad}
structure TxtO (K : PySem.W.Frag) (A : Ad) : Prop where
  own : OwnC K A.cHeap
  oInt : PySem.W.kitOne K (.ref A.cHeap) (.type "int") = some false
  oBool : PySem.W.kitOne K (.ref A.cHeap) (.type "bool") = some false
  oStr : PySem.W.kitOne K (.ref A.cHeap) (.type "str") = some false
  oTup : PySem.W.kitOne K (.ref A.cHeap) (.type "tuple") = some false
def ok0 (C : Addr) : D → Prop
  | .bag => False
  | .obj C' => C' = C
  | .str x => x.length ≤ 1000000 ∧ (PyData.str x).canLay0 = true
  | _ => True
def isIntD : D → Bool
  | .int _ => true
  | _ => false
def isNatD : D → Bool
  | .int i => decide (0 ≤ i)
  | _ => false
def sgOk (c : Nat) : Bool := decide (97 ≤ c) && decide (c ≤ 122)
def nameS (x : Str) : Bool := decide (1 ≤ x.length) && decide (x.length ≤ 8) && !decide (x ∈ reserved) && x.cps.toList.all sgOk
def isNameD : D → Bool
  | .str x => nameS x
  | _ => false
def φB (C : Addr) (f : D → Bool) : DSpec := fun ds Q => ∃ x, ds = [x] ∧ ok0 C x ∧ Q (.bl (f x))
theorem sgOk_le (c : Nat) : (if (!decide ([c] < [97])) = true then !decide ([122] < [c]) else false) = sgOk c := by
  unfold sgOk
  have lt1 : ∀ a b : Nat, ([a] < [b]) ↔ a < b := fun a b => by
    rw [List.cons_lt_cons_iff]
    simp
  simp only [lt1]
  by_cases h1 : c < 97
  · rw [decide_eq_true h1, decide_eq_false (show ¬ 97 ≤ c by omega)]
    rfl
  · rw [decide_eq_false h1, decide_eq_true (show 97 ≤ c by omega)]
    by_cases h3 : c ≤ 122
    · rw [decide_eq_true h3, decide_eq_false (show ¬ 122 < c by omega)]
      rfl
    · rw [decide_eq_false h3, decide_eq_true (show 122 < c by omega)]
      rfl
def alphabet : Str := "abcdefghijklmnopqrstuvwxyz"
theorem sgOk_mem (c : Nat) : decide (c ∈ alphabet.cps.toList) = sgOk c := by
  have e : alphabet.cps.toList = (List.range 26).map (fun n => n + 97) := by decide +kernel
  unfold sgOk
  rw [e, ← Bool.decide_and]
  congr 1
  apply propext
  simp only [List.mem_map, List.mem_range]
  constructor
  · rintro ⟨a, h, e⟩
    omega
  · rintro ⟨h1, h2⟩
    exact ⟨c - 97, by omega, by omega⟩
theorem lenS {x : Str} (h : x.length ≤ 1000000) : lenD (.str x) = some (x.length : Int) := if_pos (szl h)
theorem sc_is_integer : FnScope ["thing"] ["thing"] (defScope s_is_integer) := ⟨rfl, rfl, rfl, by decide +kernel, rfl, by decide +kernel, by decide +kernel⟩
theorem ok_is_integer (T : Txt K mg A) (sy : Sys base) (O : TxtO K A) : FnG P w K mg base CX0 1 A.f_is_integer A.d_is_integer ["thing"] (spD K (φB A.cHeap isIntD)) := by
  have nd := sc_is_integer.nd
  refine fn_D (k := 0) T.F_is_integer sc_is_integer (by rintro ds Q ⟨u, rfl, _⟩; rfl) (fun cdv B up z H E gd hr =>
    have hu := hr.units
    (dss_cons (ds_ret (de_and (de_isi (K₁ := K) rfl T.isinstance rfl T.int rfl boot_int (dv 0)) (de_one (de_not (de_isi (K₁ := K) rfl T.isinstance rfl T.bool rfl boot_bool (dv 0)))))) dss_nil)) ?_
  rintro ds Q ⟨x, rfl, o, k⟩
  cases x with
  | bag => exact o.elim
  | obj C =>
    have e : C = A.cHeap := o
    subst e
    walk_at "d"
    refine r_isO O.own O.oInt ?_
    walk_at "d"
    exact k
  | _ =>
    walk_at "d"
    exact k
theorem sc_l_is_integer : FnScope ["_law_thing"] ["_law_thing"] (defScope s_l_is_integer) := ⟨rfl, rfl, rfl, by decide +kernel, rfl, by decide +kernel, by decide +kernel⟩
theorem ok_l_is_integer (T : Txt K mg A) (sy : Sys base) (O : TxtO K A) : FnG P w K mg base CX0 1 A.f_l_is_integer A.d_l_is_integer ["_law_thing"] (spD K (φB A.cHeap isIntD)) := by
  have nd := sc_l_is_integer.nd
  refine fn_D (k := 0) T.F_l_is_integer sc_l_is_integer (by rintro ds Q ⟨u, rfl, _⟩; rfl) (fun cdv B up z H E gd hr =>
    have hu := hr.units
    (dss_cons (ds_ret (de_and (de_isi (K₁ := K) rfl T.isinstance rfl T.int rfl boot_int (dv 0)) (de_one (de_not (de_isi (K₁ := K) rfl T.isinstance rfl T.bool rfl boot_bool (dv 0)))))) dss_nil)) ?_
  rintro ds Q ⟨x, rfl, o, k⟩
  cases x with
  | bag => exact o.elim
  | obj C =>
    have e : C = A.cHeap := o
    subst e
    walk_at "d"
    refine r_isO O.own O.oInt ?_
    walk_at "d"
    exact k
  | _ =>
    walk_at "d"
    exact k
theorem sc_is_natural : FnScope ["thing"] ["thing"] (defScope s_is_natural) := ⟨rfl, rfl, rfl, by decide +kernel, rfl, by decide +kernel, by decide +kernel⟩
theorem ok_is_natural (T : Txt K mg A) (sy : Sys base) (O : TxtO K A) : FnG P w K mg base CX0 2 A.f_is_natural A.d_is_natural ["thing"] (spD K (φB A.cHeap isNatD)) := by
  have G_is_integer := ok_is_integer (P := P) (w := w) T sy O
  have nd := sc_is_natural.nd
  refine fn_D (k := 1) T.F_is_natural sc_is_natural (by rintro ds Q ⟨u, rfl, _⟩; rfl) (fun cdv B up z H E gd hr =>
    have hu := hr.units
    (dss_cons (ds_ret (de_and (de_call G_is_integer gd (hr.mono (by decide)) rfl T.m_is_integer T.F_is_integer.kp T.b_is_integer (da_cons (dv 0) da_nil)) (de_one (de_cmp op_ge od_ge (nomark _) (dv 0) de_int)))) dss_nil)) ?_
  rintro ds Q ⟨x, rfl, o, k⟩
  walk_at "d"
  refine ⟨x, rfl, o, ?_⟩
  cases x with
  | int i =>
    refine ⟨true, rfl, ?_⟩
    walk_at "d"
    exact k
  | _ => exact ⟨false, rfl, k⟩
theorem sc_is_name : FnScope ["thing", "sign"] ["thing"] (defScope s_is_name) := ⟨rfl, rfl, rfl, by decide +kernel, rfl, by decide +kernel, by decide +kernel⟩
theorem ok_is_name (T : Txt K mg A) (sy : Sys base) (O : TxtO K A) : FnG P w K mg base CX0 1 A.f_is_name A.d_is_name ["thing"] (spD K (φB A.cHeap isNameD)) := by
  have nd := sc_is_name.nd
  refine fn_D (k := 0) T.F_is_name sc_is_name (by rintro ds Q ⟨u, rfl, _⟩; rfl) (fun cdv B up z H E gd hr =>
    have hu := hr.units
    (dss_cons (ds_if (PW.pt (dw_or (dt_not (dt_val (de_isi (K₁ := K) rfl T.isinstance rfl T.str rfl boot_str (dv 0)))) (dw_or1 (dt_not (dt_chain op_le op_le od_le od_le de_int (de_callB call_lenT cd_len rfl T.len PySem.boot_len (da_cons (dv 0) da_nil)) de_int))))) (dss_cons (ds_ret de_bl) dss_nil) dss_nil) (dss_cons (ds_ret (de_and (de_cmp op_notIn_seq (od_in true) (by with_unfolding_all rfl) (dv 0) (de_globT rfl T.mRes T.kRes)) (de_one (de_callB (cr_all rfl) cd_all rfl T.all (by decide +kernel) (da_cons (de_fr (dn_lc .s rfl nd (dv 0) (blkOk_by (N := ["thing", "sign"]) (sc := defScope s_is_name) (by decide +kernel)) (fun _ _ _ _ _ => pg_name (i := 1) nd rfl (Or.inl rfl)) (fun _ _ _ _ _ => dts_nil) (fun _ _ _ _ _ => (de_chain op_le_str op_le_str od_leS od_leS de_str (dv 1) de_str)))) da_nil))))) dss_nil))) ?_
  rintro ds Q ⟨x, rfl, o, k⟩
  cases x with
  | bag => exact o.elim
  | obj C =>
    have e : C = A.cHeap := o
    subst e
    walk_at "d"
    refine r_isO O.own O.oStr ?_
    walk_at "d"
    exact k
  | str x =>
    walk_at "d"
    refine r_len (lenS o.1) ?_
    walk_at "d"
    refine r_iteD (fun h1 => ?_) (fun h1 => ?_)
    · walk_at "d"
      refine r_iteND (fun h2 => ?_) (fun h2 => ?_)
      · walk_at "d"
        have e : isNameD (.str x) = false := by
          show nameS x = false
          unfold nameS
          rw [decide_eq_false (show ¬ x.length ≤ 8 by omega)]
          simp
        rw [e] at k
        exact k
      · walk_at "d"
        refine r_in (ws := reserved) rfl ?_
        walk_at "d"
        by_cases h3 : x ∈ reserved
        · rw [decide_eq_true h3]
          walk_at "d"
          have e : isNameD (.str x) = false := by
            show nameS x = false
            unfold nameS
            rw [decide_eq_true h3]
            simp
          rw [e] at k
          exact k
        · rw [decide_eq_false h3]
          walk_at "d"
          refine ⟨signs x, rfl, by rfl, fun rest acc δ => ∃ done cs, x.cps.toList = done ++ cs ∧ rest = cs.map (fun c => D.str ⟨#[c]⟩) ∧ acc = (done.map sgOk).map D.bl ∧ δ = [some (.dat (.str x)), none], ⟨[], _, rfl, rfl, rfl, rfl⟩, ?_, ?_⟩
          · rintro acc δ' ⟨done, cs, e1, e2, e3, rfl⟩
            have e4 : cs = [] := by simpa using e2.symm
            subst e4
            subst e3
            rw [List.append_nil] at e1
            walk_at "d"
            refine r_all ?_
            walk_at "d"
            have e : isNameD (.str x) = (List.map sgOk done).all id := by
              show nameS x = _
              unfold nameS
              rw [decide_eq_true (show 1 ≤ x.length by omega), decide_eq_true (show x.length ≤ 8 by omega), decide_eq_false h3, e1, List.all_map]
              simp
            rw [e] at k
            exact k
          · rintro y rest acc δ' hy ⟨done, cs, e1, e2, e3, rfl⟩
            cases cs with
            | nil => cases e2
            | cons c cs =>
              obtain ⟨rfl, rfl⟩ : y = .str ⟨#[c]⟩ ∧ rest = cs.map (fun c => D.str ⟨#[c]⟩) := by simpa using e2
              have hl : acc.length < sizeLine := by
                subst e3
                have h5 := congrArg List.length e1
                simp only [List.length_append, List.length_cons, Array.length_toList] at h5
                have h6 : x.cps.size ≤ 1000000 := o.1
                rw [List.length_map, List.length_map]
                exact szlt (by omega)
              have fin : ∀ b : Bool, b = sgOk c → ∃ done' cs', x.cps.toList = done' ++ cs' ∧ cs.map (fun c => D.str ⟨#[c]⟩) = cs'.map (fun c => D.str ⟨#[c]⟩) ∧ acc ++ [D.bl b] = (done'.map sgOk).map D.bl ∧ [some (Sl.dat (.str x)), none] = [some (Sl.dat (.str x)), none] := fun b hb =>
                ⟨done ++ [c], cs, by rw [e1]; simp, rfl, by rw [e3, hb]; simp, rfl⟩
              have g := sgOk_le c
              walk_at "d"
              by_cases h7 : [c] < [97]
              · rw [decide_eq_true h7] at g
                refine r_iteZ (by show (!decide ([c] < [97])) = false; rw [decide_eq_true h7]; rfl) ?_
                exact ⟨hl, fin _ (by rw [← g]; rfl)⟩
              · rw [decide_eq_false h7] at g
                refine r_iteY (by show (!decide ([c] < [97])) = true; rw [decide_eq_false h7]; rfl) ?_
                walk_at "d"
                exact ⟨hl, fin _ (by rw [← g]; rfl)⟩
    · walk_at "d"
      have e : isNameD (.str x) = false := by
        show nameS x = false
        unfold nameS
        rw [decide_eq_false (show ¬ 1 ≤ x.length by omega)]
        simp
      rw [e] at k
      exact k
  | _ =>
    walk_at "d"
    exact k
end
end K
namespace K
open PySem PySem.Spec PyProof.Rows L2 DL
local macro_rules | `(tactic| walk_at "s") => `(tactic| with_reducible first
  | refine r_seq ?_ | refine r_skip ?_ | refine r_set ?_ | refine r_own ?_ | refine r_do ?_ | refine r_ret ?_ | refine r_retN ?_ | refine r_if ?_ | refine r_par ?_ | refine r_parN ?_
  | refine r_test ?_ | refine r_bl ?_ | refine r_blV ?_ | refine r_and ?_ | refine r_or ?_ | refine r_not ?_ | refine r_ifE ?_ | refine r_andV ?_ | refine r_orV ?_ | refine r_notV ?_
  | refine r_iteT ?_ | refine r_iteF ?_
  | refine r_c ?_ | refine r_op ?_ | refine r_isN ?_ | refine r_notN ?_ | refine r_isB ?_ | refine r_notB ?_ | refine r_neg ?_ | refine r_negB ?_ | refine r_intX ?_ | refine r_strX ?_
  | refine r_chain ?_ | refine r_cb ?_ | refine r_int ?_ | refine r_intB ?_ | refine r_nil ?_ | refine r_cons ?_ | refine r_tup ?_ | refine r_lst ?_ | refine r_new ?_ | refine r_fr ?_ | refine r_items ?_ | refine r_call ?_
  | refine r_is ?_ | refine r_is2 ?_ | refine r_sl ?_ | refine r_noPart ?_ | refine r_part ?_ | refine r_split ?_ | refine r_upper ?_ | refine r_dict1 ?_ | refine r_bagSet ?_ | refine r_leS ?_ | refine r_inS ?_ | refine r_yes ?_ | refine r_forL ?_ | refine r_forT ?_ | refine r_forR ?_ | refine r_lc ?_ | refine r_setIx ?_)
local macro_rules | `(tactic| walk_at "v") => `(tactic| first
  | refine r_var (by rfl) ?_ | refine r_varO (by rfl) ?_ | refine r_p2 (by rfl) ?_ | refine r_eqC (by rfl) ?_ | refine r_neC (by rfl) ?_ | refine r_isX (by rfl) ?_ | refine r_len (by rfl) ?_ | refine r_lenO (by rfl) ?_ | refine r_tupOf (by rfl) ?_
  | refine r_bagIx (by rfl) (fun n => ?_) | refine r_bagCut (by rfl) ?_ | refine r_ixO (by rfl) ?_ | refine r_app (by rfl) ?_ | refine r_ins (by rfl) ?_ | refine r_popAt (by rfl) ?_ | refine r_addB (by rfl) ?_
  | refine r_iteY (by rfl) ?_ | refine r_iteZ (by rfl) ?_ | refine r_ic (by decide) ?_ | refine r_ic (by omega) ?_ | refine r_ic (Or.inr ⟨by decide, by decide⟩) ?_ | refine r_ic (Or.inl ⟨by decide, by decide⟩) ?_ | refine r_ic ⟨by decide, by decide⟩ ?_ | refine r_addS (by decide) ?_ | refine r_rep (by decide) (by decide) (by decide) ?_
  | (refine And.intro (szl ?_) ?_; focus (simp; done)) | refine ⟨⟨_, rfl⟩, by rfl, ?_⟩ | refine ⟨_, _, rfl, ?_⟩ | refine And.intro (by rfl) ?_)
local macro_rules | `(tactic| walk_at "d") => `(tactic| repeat (first | walk_at "s" | walk_at "v"))
section
variable {P : Program} {w : World} {K : PySem.W.Frag} {mg : Str → Option Value} {base : Heap} {A : Ad}
def sg (c : Nat) : D := .str ⟨#[c]⟩
theorem sg_plain (cs : List Nat) (h : ∀ c ∈ cs, c < 0x110000) : plainD (.lst (cs.map sg)) := by
  have h1 : cleanAll (cs.map sg) = true ∧ PyData.canLayAll0 (pyAll (cs.map sg)) = true ∧ PyData.depthAll (pyAll (cs.map sg)) = 0 := by
    induction cs with
    | nil => exact ⟨rfl, rfl, rfl⟩
    | cons c cs ih =>
      obtain ⟨a, b, d⟩ := ih fun c hc => h c (List.mem_cons_of_mem _ hc)
      refine ⟨by simp [List.map_cons, cleanAll, sg, clean, a], ?_, by simp [List.map_cons, pyAll, sg, py, PyData.depthAll, PyData.depth, d]⟩
      have h2 : (PyData.str ⟨#[c]⟩).canLay0 = true := by
        have := h c (List.mem_cons_self ..)
        simp [PyData.canLay0, PyData.strOk, this]
      simp [List.map_cons, pyAll, sg, py, PyData.canLayAll0, h2, b]
  refine ⟨h1.1, ?_⟩
  show (PyData.canLay0 _ && decide (PyData.depth _ ≤ 64)) = true
  simp only [py, PyData.canLay0, PyData.depth, h1.2.1, h1.2.2]
  rfl
theorem eqv_nil (ds : List D) : PyData.eqv (py (.lst ds)) (py (.lst [])) = ds.isEmpty := by
  cases ds with
  | nil => rfl
  | cons d ds => simp [py, pyAll, PyData.eqv, PyData.eqvAll]
theorem split_reserved : (Txt.split (("add back call cell do field function generator if import integer is less let make maker module mul next" : Str) ++ (" nothing put quo rest same store sub tell throw try while word yield" : Str)) " ") = reserved := by decide +kernel
def φReserved : DSpec := fun ds Q => ds = [] ∧ Q (.lst (reserved.map D.str))
theorem sc_l_reserved : FnScope ["_law_some_here"] [] (defScope s_l_reserved) := ⟨rfl, rfl, rfl, by decide +kernel, rfl, by decide +kernel, by decide +kernel⟩
theorem ok_l_reserved (T : Txt K mg A) (sy : Sys base) : FnG P w K mg base CX0 1 A.f_l_reserved A.d_l_reserved [] (spD K φReserved) := by
  have nd := sc_l_reserved.nd
  refine fn_D (k := 0) T.F_l_reserved sc_l_reserved (by rintro ds Q ⟨rfl, _⟩; rfl) (fun cdv B up z H E gd hr =>
    have hu := hr.units
    (dss_cons (ds_set (i := 0) nd rfl (Or.inl rfl) de_str) (dss_cons (ds_ret (de_split (de_op op_add_str od_addS (dv 0) de_str) de_str)) dss_nil))) ?_
  rintro ds Q ⟨rfl, k⟩
  walk_at "d"
  rw [split_reserved]
  exact ⟨szl (by decide +kernel), k⟩
theorem sc_l_is_name : FnScope ["_law_thing", "_law_sign"] ["_law_thing"] (defScope s_l_is_name) := ⟨rfl, rfl, rfl, by decide +kernel, rfl, by decide +kernel, by decide +kernel⟩
theorem ok_l_is_name (T : Txt K mg A) (sy : Sys base) (O : TxtO K A) : FnG P w K mg base CX0 2 A.f_l_is_name A.d_l_is_name ["_law_thing"] (spD K (φB A.cHeap isNameD)) := by
  have G_l_reserved := ok_l_reserved (P := P) (w := w) T sy
  have nd := sc_l_is_name.nd
  refine fn_D (k := 1) T.F_l_is_name sc_l_is_name (by rintro ds Q ⟨u, rfl, _⟩; rfl) (fun cdv B up z H E gd hr =>
    have hu := hr.units
    (dss_cons (ds_if (PW.pt (dw_or (dt_not (dt_val (de_isi (K₁ := K) rfl T.isinstance rfl T.str rfl boot_str (dv 0)))) (dw_or (dt_not (dt_chain op_lt op_lt od_lt od_lt de_int (de_callB call_lenT cd_len rfl T.len PySem.boot_len (da_cons (dv 0) da_nil)) de_int)) (dw_or1 (dt_cmp op_in_seq (od_in false) (by with_unfolding_all rfl) (dv 0) (de_call0 G_l_reserved gd (hr.mono (by decide)) rfl T.m_l_reserved T.F_l_reserved.kp T.b_l_reserved)))))) (dss_cons (ds_ret de_bl) dss_nil) dss_nil) (dss_cons (ds_ret (de_cmp (op_eqT hu sy) od_eq (nomark _) (de_fr (dn_lc .s rfl nd (dv 0) (blkOk_by (N := ["_law_thing", "_law_sign"]) (sc := defScope s_l_is_name) (by decide +kernel)) (fun _ _ _ _ _ => pg_name (i := 1) nd rfl (Or.inl rfl)) (fun _ _ _ _ _ => (pts_one (dt_cmp op_notIn_sign od_ninS (by with_unfolding_all rfl) (dv 1) de_str))) (fun _ _ _ _ _ => (dv 1)))) (de_lst da_nil))) dss_nil))) ?_
  rintro ds Q ⟨x, rfl, o, k⟩
  cases x with
  | bag => exact o.elim
  | obj C =>
    have e : C = A.cHeap := o
    subst e
    walk_at "d"
    refine r_isO O.own O.oStr ?_
    walk_at "d"
    exact k
  | str x =>
    walk_at "d"
    refine r_len (lenS o.1) ?_
    walk_at "d"
    have fls : nameS x = false → Q (.bl false) := fun e => by
      have e' : isNameD (.str x) = false := e
      rw [e'] at k
      exact k
    refine r_iteD (fun h1 => ?_) (fun h1 => ?_)
    · walk_at "d"
      refine r_iteND (fun h2 => ?_) (fun h2 => ?_)
      · walk_at "d"
        refine fls ?_
        unfold nameS
        rw [decide_eq_false (show ¬ x.length ≤ 8 by omega)]
        simp
      · walk_at "d"
        refine r_in (ws := reserved) rfl ?_
        walk_at "d"
        by_cases h3 : x ∈ reserved
        · rw [decide_eq_true h3]
          walk_at "d"
          refine fls ?_
          unfold nameS
          rw [decide_eq_true h3]
          simp
        · rw [decide_eq_false h3]
          walk_at "d"
          refine ⟨signs x, rfl, by rfl, fun rest acc δ => ∃ done cs, x.cps.toList = done ++ cs ∧ rest = cs.map sg ∧ acc = (done.filter fun c => !sgOk c).map sg ∧ δ = [some (.dat (.str x)), none], ⟨[], _, rfl, rfl, rfl, rfl⟩, ?_, ?_⟩
          · rintro acc δ' ⟨done, cs, e1, e2, e3, rfl⟩
            have e4 : cs = [] := by simpa using e2.symm
            subst e4
            subst e3
            rw [List.append_nil] at e1
            walk_at "d"
            refine r_eqD (sg_plain _ fun c hc => ?_) (sg_plain [] fun c hc => by simp at hc) ?_
            · have h4 : c ∈ x.cps.toList := by rw [e1]; exact (List.mem_filter.mp hc).1
              have h5 : x.cps.all (fun c => decide (c < 0x110000)) = true := o.2
              rw [← Array.all_toList] at h5
              simpa using List.all_eq_true.mp h5 c h4
            walk_at "d"
            rw [eqv_nil]
            have e : isNameD (.str x) = (List.map sg (List.filter (fun c => !sgOk c) done)).isEmpty := by
              show nameS x = _
              unfold nameS
              rw [decide_eq_true (show 1 ≤ x.length by omega), decide_eq_true (show x.length ≤ 8 by omega), decide_eq_false h3, e1]
              simp only [Bool.true_and, Bool.not_false]
              clear e1
              induction done with
              | nil => rfl
              | cons c cs ih =>
                rw [List.all_cons, List.filter_cons]
                cases hc : sgOk c
                · simp
                · simpa using ih
            rw [e] at k
            exact k
          · rintro y rest acc δ' hy ⟨done, cs, e1, e2, e3, rfl⟩
            cases cs with
            | nil => cases e2
            | cons c cs =>
              obtain ⟨rfl, rfl⟩ : y = sg c ∧ rest = cs.map sg := by simpa using e2
              have hl : acc.length < sizeLine := by
                subst e3
                have h5 := congrArg List.length e1
                simp only [List.length_append, List.length_cons, Array.length_toList] at h5
                have h6 : x.cps.size ≤ 1000000 := o.1
                have h7 := List.length_filter_le (fun c => !sgOk c) done
                rw [List.length_map]
                exact szlt (by omega)
              walk_at "d"
              unfold sg
              refine r_inS ?_
              refine ⟨_, rfl, ?_⟩
              have g : decide (c ∈ ("abcdefghijklmnopqrstuvwxyz" : Str).cps.toList) = sgOk c := sgOk_mem c
              rw [g]
              cases hc : sgOk c
              · walk_at "d"
                exact ⟨hl, done ++ [c], cs, by rw [e1]; simp, rfl, by rw [e3]; simp [hc, sg], rfl⟩
              · walk_at "d"
                exact ⟨done ++ [c], cs, by rw [e1]; simp, rfl, by rw [e3]; simp [hc, sg], rfl⟩
    · walk_at "d"
      refine fls ?_
      unfold nameS
      rw [decide_eq_false (show ¬ 1 ≤ x.length by omega)]
      simp
  | _ =>
    walk_at "d"
    exact k
end
end K
namespace K
open PySem PySem.Spec PyProof.Rows L2 DL
local macro_rules | `(tactic| walk_at "s") => `(tactic| with_reducible first
  | refine r_seq ?_ | refine r_skip ?_ | refine r_set ?_ | refine r_own ?_ | refine r_do ?_ | refine r_ret ?_ | refine r_retN ?_ | refine r_if ?_ | refine r_par ?_ | refine r_parN ?_
  | refine r_test ?_ | refine r_bl ?_ | refine r_blV ?_ | refine r_and ?_ | refine r_or ?_ | refine r_not ?_ | refine r_ifE ?_ | refine r_andV ?_ | refine r_orV ?_ | refine r_notV ?_
  | refine r_iteT ?_ | refine r_iteF ?_
  | refine r_c ?_ | refine r_op ?_ | refine r_isN ?_ | refine r_notN ?_ | refine r_isB ?_ | refine r_notB ?_ | refine r_neg ?_ | refine r_negB ?_ | refine r_intX ?_ | refine r_strX ?_
  | refine r_chain ?_ | refine r_cb ?_ | refine r_int ?_ | refine r_intB ?_ | refine r_nil ?_ | refine r_cons ?_ | refine r_tup ?_ | refine r_lst ?_ | refine r_new ?_ | refine r_fr ?_ | refine r_items ?_ | refine r_call ?_
  | refine r_is ?_ | refine r_is2 ?_ | refine r_sl ?_ | refine r_noPart ?_ | refine r_part ?_ | refine r_split ?_ | refine r_upper ?_ | refine r_dict1 ?_ | refine r_bagSet ?_ | refine r_leS ?_ | refine r_inS ?_ | refine r_yes ?_ | refine r_forL ?_ | refine r_forT ?_ | refine r_forR ?_ | refine r_lc ?_ | refine r_setIx ?_)
local macro_rules | `(tactic| walk_at "v") => `(tactic| first
  | refine r_var (by rfl) ?_ | refine r_varO (by rfl) ?_ | refine r_p2 (by rfl) ?_ | refine r_eqC (by rfl) ?_ | refine r_neC (by rfl) ?_ | refine r_isX (by rfl) ?_ | refine r_len (by rfl) ?_ | refine r_lenO (by rfl) ?_ | refine r_tupOf (by rfl) ?_
  | refine r_bagIx (by rfl) (fun n => ?_) | refine r_bagCut (by rfl) ?_ | refine r_ixO (by rfl) ?_ | refine r_app (by rfl) ?_ | refine r_ins (by rfl) ?_ | refine r_popAt (by rfl) ?_ | refine r_addB (by rfl) ?_
  | refine r_iteY (by rfl) ?_ | refine r_iteZ (by rfl) ?_ | refine r_ic (by decide) ?_ | refine r_ic (by omega) ?_ | refine r_ic (Or.inr ⟨by decide, by decide⟩) ?_ | refine r_ic (Or.inl ⟨by decide, by decide⟩) ?_ | refine r_ic ⟨by decide, by decide⟩ ?_ | refine r_addS (by decide) ?_ | refine r_rep (by decide) (by decide) (by decide) ?_
  | (refine And.intro (szl ?_) ?_; focus (simp; done)) | refine ⟨⟨_, rfl⟩, by rfl, ?_⟩ | refine ⟨_, _, rfl, ?_⟩ | refine And.intro (by rfl) ?_)
local macro_rules | `(tactic| walk_at "d") => `(tactic| repeat (first | walk_at "s" | walk_at "v"))
section
variable {P : Program} {w : World} {K : PySem.W.Frag} {mg : Str → Option Value} {base : Heap} {A : Ad}
abbrev s_heq : Stmt := inClass (top 13) 1
/-- what is to be known of Heap.__eq__ -/
structure HeapEq (K : PySem.W.Frag) (mg : Str → Option Value) (A : Ad) (f : Addr) (fd : FuncData) : Prop where
  F : Fun K "__eq__" "Heap.__eq__" s_heq f fd
  b : Binds K fd ["self", "other"] []
  look : PySem.W.findIn K (.ref A.cHeap) "__eq__" = some (some (.ref f))
  fn : PySem.W.isFn K (.ref f) = true
  nf : PySem.W.notFirst K A.cHeap (.type "str") = true
  mH : mg "Heap" = some (.ref A.cHeap)
  no : PySem.W.kitOne K (.type "str") (.ref A.cHeap) = some false
theorem pe_dead {X : Cx} {e : Expr} : PE X e (fun _ _ _ => False) := ⟨fun _ _ _ _ _ _ h => h.elim⟩
def spEqH (C : Addr) : Sp := fun vs H Q _ => ∃ a dx fs z, vs = [.ref a, .str z] ∧ H a = some (.ins C dx fs) ∧ Q (.bl false) H
theorem ok_heq {f : Addr} {fd : FuncData} (T : Txt K mg A) (h : HeapEq K mg A f fd) : FnG P w K mg base CX0 1 f fd ["self", "other"] (spEqH A.cHeap) := by
  have S : FnScope ["self", "other"] ["self", "other"] (defScope s_heq) := ⟨rfl, rfl, rfl, by decide +kernel, rfl, by decide +kernel, by decide +kernel⟩
  have nd := S.nd
  refine FnG.plain (Fun.ok (k := 0) h.F S (by rintro vs H Q E ⟨a, dx, fs, z, rfl, _⟩; rfl) fun cdv B up z H vs Q E hr hq => ⟨_,
    pss_cons (ps_ret (pe_and (pe_callB (t := tCons (tVar 1) (tCons (tC (.ref A.cHeap)) tNil)) call_isi rfl T.isinstance boot_isinstance (pa_cons (pv 1) (pa_cons (pe_glob rfl h.mH (v := .ref A.cHeap) rfl (by decide)) pa_nil)) (by decide) (by decide) rfl) (pe_one pe_dead))) pss_nil, ?_⟩)
  obtain ⟨a, dx, fs, y, rfl, ha, q⟩ := hq
  exact ⟨.str y, rfl, .str y, .ref A.cHeap, .type "str", .ref A.cHeap, false, rfl, .own _, .base (.str _), h.no, false, rfl, q⟩
theorem objEq {X : Cx} {k : Nat} {f : Addr} {fd : FuncData} {C : Addr} (F : FnG X.prog X.w X.K X.mg X.base CX0 k f fd ["self", "other"] (spEqH C)) (gd : X.A.guards = some []) (room : Room k X.A)
    (hb : Binds X.K fd ["self", "other"] []) (hs : PySem.W.findIn X.K (.ref C) "__eq__" = some (some (.ref f))) (hf : PySem.W.isFn X.K (.ref f) = true) (nf : PySem.W.notFirst X.K C (.type "str") = true) : ObjEq X C := by
  intro pins s σ H a dx fs z u Q I ha q
  obtain ⟨mA, J, _⟩ := ins_get I.hok ha
  obtain ⟨od, J, _⟩ := J.look
  obtain ⟨m, hF⟩ := I.fr
  show wpAny (model X.prog X.w) X.A (richCompare .Eq (.ref a) (.str z u)) (EP X pins σ Q) X.xe s
  refine PySem.W.cmp_K (op := .Eq) (tb := .type "str") room.units0 hF I.ok.mod.kin J (PySem.W.Looks.of_pure rfl) nf hs hf ?_
  refine wpAny_mono (callee_g (us := [.ref a, .str z u]) (vs := [.ref a, .str z]) (dvs := []) (ds := []) (Q := fun v H' => v = .bl false ∧ Q v H') (E := E0) F gd room hb .nil pass0 I (.cons rfl (.cons ⟨u, rfl⟩ .nil)) ⟨a, dx, fs, z, rfl, ha, rfl, q⟩) (fun r s' hr => ?_) fun _ _ e => e
  obtain ⟨v, H', I', rv, rfl, q'⟩ := hr
  cases rv
  exact (show EP X pins σ Q (.bool false) s' from ⟨.bl false, H', I', rfl, q'⟩)
end
end K
namespace K
open PySem PySem.Spec PyProof.Rows L2 DL
local macro_rules | `(tactic| walk_at "s") => `(tactic| with_reducible first
  | refine r_seq ?_ | refine r_skip ?_ | refine r_set ?_ | refine r_own ?_ | refine r_do ?_ | refine r_ret ?_ | refine r_retN ?_ | refine r_if ?_ | refine r_par ?_ | refine r_parN ?_
  | refine r_test ?_ | refine r_bl ?_ | refine r_blV ?_ | refine r_and ?_ | refine r_or ?_ | refine r_not ?_ | refine r_ifE ?_ | refine r_andV ?_ | refine r_orV ?_ | refine r_notV ?_
  | refine r_iteT ?_ | refine r_iteF ?_
  | refine r_c ?_ | refine r_op ?_ | refine r_isN ?_ | refine r_notN ?_ | refine r_isB ?_ | refine r_notB ?_ | refine r_neg ?_ | refine r_negB ?_ | refine r_intX ?_ | refine r_strX ?_
  | refine r_chain ?_ | refine r_cb ?_ | refine r_int ?_ | refine r_intB ?_ | refine r_nil ?_ | refine r_cons ?_ | refine r_tup ?_ | refine r_lst ?_ | refine r_new ?_ | refine r_fr ?_ | refine r_items ?_ | refine r_call ?_
  | refine r_is ?_ | refine r_is2 ?_ | refine r_sl ?_ | refine r_noPart ?_ | refine r_part ?_ | refine r_split ?_ | refine r_upper ?_ | refine r_dict1 ?_ | refine r_bagSet ?_ | refine r_leS ?_ | refine r_inS ?_ | refine r_yes ?_ | refine r_forL ?_ | refine r_forT ?_ | refine r_forR ?_ | refine r_lc ?_ | refine r_setIx ?_)
local macro_rules | `(tactic| walk_at "v") => `(tactic| first
  | refine r_var (by rfl) ?_ | refine r_varO (by rfl) ?_ | refine r_p2 (by rfl) ?_ | refine r_eqC (by rfl) ?_ | refine r_neC (by rfl) ?_ | refine r_isX (by rfl) ?_ | refine r_len (by rfl) ?_ | refine r_lenO (by rfl) ?_ | refine r_tupOf (by rfl) ?_
  | refine r_bagIx (by rfl) (fun n => ?_) | refine r_bagCut (by rfl) ?_ | refine r_ixO (by rfl) ?_ | refine r_app (by rfl) ?_ | refine r_ins (by rfl) ?_ | refine r_popAt (by rfl) ?_ | refine r_addB (by rfl) ?_
  | refine r_iteY (by rfl) ?_ | refine r_iteZ (by rfl) ?_ | refine r_ic (by decide) ?_ | refine r_ic (by omega) ?_ | refine r_ic (Or.inr ⟨by decide, by decide⟩) ?_ | refine r_ic (Or.inl ⟨by decide, by decide⟩) ?_ | refine r_ic ⟨by decide, by decide⟩ ?_ | refine r_addS (by decide) ?_ | refine r_rep (by decide) (by decide) (by decide) ?_
  | (refine And.intro (szl ?_) ?_; focus (simp; done)) | refine ⟨⟨_, rfl⟩, by rfl, ?_⟩ | refine ⟨_, _, rfl, ?_⟩ | refine And.intro (by rfl) ?_)
local macro_rules | `(tactic| walk_at "d") => `(tactic| repeat (first | walk_at "s" | walk_at "v"))
section
variable {P : Program} {w : World} {K : PySem.W.Frag} {mg : Str → Option Value} {base : Heap} {A : Ad}
def ok1 (C : Addr) (d : D) : Prop := ok0 C d ∧ ∀ xs, d = .tup xs → ∀ x, x ∈ xs → ok0 C x
theorem okS_of {C : Addr} {d : D} (h : ok0 C d) : okS (fun C' => C' = C) d := by
  cases d with
  | bag => exact h.elim
  | obj C' => exact h
  | _ => trivial
def isAtD : D → Bool
  | .tup [x, y] => eqS x "at" && isNatD y
  | _ => false
def isValD (d : D) : Bool := isN d || isIntD d || isNameD d || isAtD d
def φB1 (C : Addr) (f : D → Bool) : DSpec := fun ds Q => ∃ x, ds = [x] ∧ ok1 C x ∧ Q (.bl (f x))
theorem len2 {n : Nat} : scD (.int (n : Int)) (.int 2) = some (decide (n = 2)) := by
  show some _ = some _
  congr 1
  by_cases h : n = 2
  · subst h
    rfl
  · rw [decide_eq_false h]
    simp
    omega
theorem sc_is_at : FnScope ["thing"] ["thing"] (defScope s_is_at) := ⟨rfl, rfl, rfl, by decide +kernel, rfl, by decide +kernel, by decide +kernel⟩
theorem ok_is_at (T : Txt K mg A) (sy : Sys base) (O : TxtO K A) {fe : Addr} {de : FuncData} (HE : HeapEq K mg A fe de) : FnG P w K mg base CX0 3 A.f_is_at A.d_is_at ["thing"] (spD K (φB1 A.cHeap isAtD)) := by
  have G_is_natural := ok_is_natural (P := P) (w := w) T sy O
  have nd := sc_is_at.nd
  have G_heq := ok_heq (P := P) (w := w) (base := base) T HE
  refine fn_D (k := 2) T.F_is_at sc_is_at (by rintro ds Q ⟨u, rfl, _⟩; rfl) (fun cdv B up z H E gd hr =>
    have hu := hr.units
    (dss_cons (ds_ret (de_and (de_isi (K₁ := K) rfl T.isinstance rfl T.tuple rfl boot_tuple (dv 0)) (de_and (de_cmp op_eq od_eqC (nomark _) (de_callB call_lenT cd_len rfl T.len PySem.boot_len (da_cons (dv 0) da_nil)) de_int) (de_and (de_cmp (op_eqS (OC := (fun C => C = A.cHeap)) hu (fun C e => by subst e; exact objEq G_heq gd (hr.mono (by decide)) HE.b HE.look HE.fn HE.nf)) (od_eqS (OC := (fun C => C = A.cHeap))) (nomark _) (de_ix (dv 0) de_int (fun _ _ => rfl)) de_str) (de_one (de_call G_is_natural gd (hr.mono (by decide)) rfl T.m_is_natural T.F_is_natural.kp T.b_is_natural (da_cons (de_ix (dv 0) de_int (fun _ _ => rfl)) da_nil))))))) dss_nil)) ?_
  rintro ds Q ⟨x, rfl, ⟨o, o1⟩, k⟩
  cases x with
  | bag => exact o.elim
  | obj C =>
    have e : C = A.cHeap := o
    subst e
    walk_at "d"
    refine r_isO O.own O.oTup ?_
    walk_at "d"
    exact k
  | tup xs =>
    rcases xs with _ | ⟨x, _ | ⟨y, _ | ⟨z, r⟩⟩⟩
    · walk_at "d"
      exact k
    · walk_at "d"
      exact k
    · walk_at "d"
      refine r_ix (d' := x) rfl ?_
      walk_at "d"
      refine r_eqS (okS_of (o1 _ rfl x (by simp))) ?_
      refine ⟨_, rfl, ?_⟩
      have e : isAtD (.tup [x, y]) = (eqS x "at" && isNatD y) := rfl
      rw [e] at k
      cases h : eqS x "at"
      · rw [h] at k
        walk_at "d"
        exact k
      · rw [h] at k
        walk_at "d"
        refine r_ix (d' := y) rfl ?_
        walk_at "d"
        exact ⟨y, rfl, o1 _ rfl y (by simp), k⟩
    · walk_at "d"
      exact k
  | _ =>
    walk_at "d"
    exact k
theorem sc_is_value : FnScope ["thing"] ["thing"] (defScope s_is_value) := ⟨rfl, rfl, rfl, by decide +kernel, rfl, by decide +kernel, by decide +kernel⟩
theorem ok_is_value (T : Txt K mg A) (sy : Sys base) (O : TxtO K A) {fe : Addr} {de : FuncData} (HE : HeapEq K mg A fe de) : FnG P w K mg base CX0 4 A.f_is_value A.d_is_value ["thing"] (spD K (φB1 A.cHeap isValD)) := by
  have G_is_at := ok_is_at (P := P) (w := w) T sy O HE
  have G_is_integer := ok_is_integer (P := P) (w := w) T sy O
  have G_is_name := ok_is_name (P := P) (w := w) T sy O
  have nd := sc_is_value.nd
  have G_heq := ok_heq (P := P) (w := w) (base := base) T HE
  refine fn_D (k := 3) T.F_is_value sc_is_value (by rintro ds Q ⟨u, rfl, _⟩; rfl) (fun cdv B up z H E gd hr =>
    have hu := hr.units
    (dss_cons (ds_ret (de_or (de_cmp op_isN od_isN (nomark _) (dv 0) de_non) (de_or (de_call G_is_integer gd (hr.mono (by decide)) rfl T.m_is_integer T.F_is_integer.kp T.b_is_integer (da_cons (dv 0) da_nil)) (de_or (de_call G_is_name gd (hr.mono (by decide)) rfl T.m_is_name T.F_is_name.kp T.b_is_name (da_cons (dv 0) da_nil)) (de_one (de_call G_is_at gd (hr.mono (by decide)) rfl T.m_is_at T.F_is_at.kp T.b_is_at (da_cons (dv 0) da_nil))))))) dss_nil)) ?_
  rintro ds Q ⟨x, rfl, ⟨o, o1⟩, k⟩
  walk_at "d"
  unfold isValD at k
  cases h1 : isN x
  · rw [h1] at k
    walk_at "d"
    refine ⟨x, rfl, o, _, rfl, ?_⟩
    cases h2 : isIntD x
    · rw [h2] at k
      walk_at "d"
      refine ⟨x, rfl, o, _, rfl, ?_⟩
      cases h3 : isNameD x
      · rw [h3] at k
        walk_at "d"
        exact ⟨x, rfl, ⟨o, o1⟩, k⟩
      · rw [h3] at k
        walk_at "d"
        exact k
    · rw [h2] at k
      walk_at "d"
      exact k
  · rw [h1] at k
    walk_at "d"
    exact k
theorem sc_l_is_value : FnScope ["_law_thing"] ["_law_thing"] (defScope s_l_is_value) := ⟨rfl, rfl, rfl, by decide +kernel, rfl, by decide +kernel, by decide +kernel⟩
theorem ok_l_is_value (T : Txt K mg A) (sy : Sys base) (O : TxtO K A) {fe : Addr} {de : FuncData} (HE : HeapEq K mg A fe de) : FnG P w K mg base CX0 3 A.f_l_is_value A.d_l_is_value ["_law_thing"] (spD K (φB1 A.cHeap isValD)) := by
  have G_l_is_integer := ok_l_is_integer (P := P) (w := w) T sy O
  have G_l_is_name := ok_l_is_name (P := P) (w := w) T sy O
  have nd := sc_l_is_value.nd
  have G_heq := ok_heq (P := P) (w := w) (base := base) T HE
  refine fn_D (k := 2) T.F_l_is_value sc_l_is_value (by rintro ds Q ⟨u, rfl, _⟩; rfl) (fun cdv B up z H E gd hr =>
    have hu := hr.units
    (dss_cons (ds_if (dt_val (de_isi (K₁ := K) rfl T.isinstance rfl T.tuple rfl boot_tuple (dv 0))) (dss_cons (ds_ret (de_and (de_cmp op_eq od_eqC (nomark _) (de_callB call_lenT cd_len rfl T.len PySem.boot_len (da_cons (dv 0) da_nil)) de_int) (de_and (de_cmp (op_eqS (OC := (fun C => C = A.cHeap)) hu (fun C e => by subst e; exact objEq G_heq gd (hr.mono (by decide)) HE.b HE.look HE.fn HE.nf)) (od_eqS (OC := (fun C => C = A.cHeap))) (nomark _) (de_ix (dv 0) de_int (fun _ _ => rfl)) de_str) (de_and (de_call G_l_is_integer gd (hr.mono (by decide)) rfl T.m_l_is_integer T.F_l_is_integer.kp T.b_l_is_integer (da_cons (de_ix (dv 0) de_int (fun _ _ => rfl)) da_nil)) (de_one (de_cmp op_ge od_ge (nomark _) (de_ix (dv 0) de_int (fun _ _ => rfl)) de_int)))))) dss_nil) dss_nil) (dss_cons (ds_ret (de_or (de_cmp op_isN od_isN (nomark _) (dv 0) de_non) (de_or (de_call G_l_is_integer gd (hr.mono (by decide)) rfl T.m_l_is_integer T.F_l_is_integer.kp T.b_l_is_integer (da_cons (dv 0) da_nil)) (de_one (de_call G_l_is_name gd (hr.mono (by decide)) rfl T.m_l_is_name T.F_l_is_name.kp T.b_l_is_name (da_cons (dv 0) da_nil)))))) dss_nil))) ?_
  rintro ds Q ⟨x, rfl, ⟨o, o1⟩, k⟩
  cases x with
  | bag => exact o.elim
  | obj C =>
    have e : C = A.cHeap := o
    subst e
    walk_at "d"
    refine r_isO O.own O.oTup ?_
    walk_at "d"
    refine ⟨_, rfl, o, _, rfl, ?_⟩
    walk_at "d"
    exact ⟨_, rfl, o, k⟩
  | tup xs =>
    rcases xs with _ | ⟨x, _ | ⟨y, _ | ⟨z, r⟩⟩⟩
    · walk_at "d"
      exact k
    · walk_at "d"
      exact k
    · walk_at "d"
      refine r_ix (d' := x) rfl ?_
      walk_at "d"
      refine r_eqS (okS_of (o1 _ rfl x (by simp))) ?_
      refine ⟨_, rfl, ?_⟩
      have e : isValD (.tup [x, y]) = (eqS x "at" && isNatD y) := rfl
      rw [e] at k
      cases h : eqS x "at"
      · rw [h] at k
        walk_at "d"
        exact k
      · rw [h] at k
        walk_at "d"
        refine r_ix (d' := y) rfl ?_
        walk_at "d"
        refine ⟨y, rfl, o1 _ rfl y (by simp), _, rfl, ?_⟩
        cases y with
        | int i =>
          walk_at "d"
          refine r_ix (d' := .int i) rfl ?_
          walk_at "d"
          exact k
        | _ =>
          walk_at "d"
          exact k
    · walk_at "d"
      exact k
  | non =>
    walk_at "d"
    exact k
  | int i =>
    walk_at "d"
    refine ⟨_, rfl, o, _, rfl, ?_⟩
    exact r_iteY rfl k
  | str z =>
    walk_at "d"
    refine ⟨_, rfl, o, _, rfl, ?_⟩
    walk_at "d"
    refine ⟨_, rfl, o, ?_⟩
    have e : isValD (.str z) = isNameD (.str z) := by simp [isValD, isN, isIntD, isAtD]
    rw [e] at k
    exact k
  | _ =>
    walk_at "d"
    refine ⟨_, rfl, o, _, rfl, ?_⟩
    walk_at "d"
    exact ⟨_, rfl, o, k⟩
end
end K
namespace K
open PySem PySem.Spec PyProof.Rows L2 DL
local macro_rules | `(tactic| walk_at "s") => `(tactic| with_reducible first
  | refine r_seq ?_ | refine r_skip ?_ | refine r_set ?_ | refine r_own ?_ | refine r_do ?_ | refine r_ret ?_ | refine r_retN ?_ | refine r_if ?_ | refine r_par ?_ | refine r_parN ?_
  | refine r_test ?_ | refine r_bl ?_ | refine r_blV ?_ | refine r_and ?_ | refine r_or ?_ | refine r_not ?_ | refine r_ifE ?_ | refine r_andV ?_ | refine r_orV ?_ | refine r_notV ?_
  | refine r_iteT ?_ | refine r_iteF ?_
  | refine r_c ?_ | refine r_op ?_ | refine r_isN ?_ | refine r_notN ?_ | refine r_isB ?_ | refine r_notB ?_ | refine r_neg ?_ | refine r_negB ?_ | refine r_intX ?_ | refine r_strX ?_
  | refine r_chain ?_ | refine r_cb ?_ | refine r_int ?_ | refine r_intB ?_ | refine r_nil ?_ | refine r_cons ?_ | refine r_tup ?_ | refine r_lst ?_ | refine r_new ?_ | refine r_fr ?_ | refine r_items ?_ | refine r_call ?_
  | refine r_is ?_ | refine r_is2 ?_ | refine r_sl ?_ | refine r_noPart ?_ | refine r_part ?_ | refine r_split ?_ | refine r_upper ?_ | refine r_dict1 ?_ | refine r_bagSet ?_ | refine r_leS ?_ | refine r_inS ?_ | refine r_yes ?_ | refine r_forL ?_ | refine r_forT ?_ | refine r_forR ?_ | refine r_lc ?_ | refine r_setIx ?_)
local macro_rules | `(tactic| walk_at "v") => `(tactic| first
  | refine r_var (by rfl) ?_ | refine r_varO (by rfl) ?_ | refine r_p2 (by rfl) ?_ | refine r_eqC (by rfl) ?_ | refine r_neC (by rfl) ?_ | refine r_isX (by rfl) ?_ | refine r_len (by rfl) ?_ | refine r_lenO (by rfl) ?_ | refine r_tupOf (by rfl) ?_
  | refine r_bagIx (by rfl) (fun n => ?_) | refine r_bagCut (by rfl) ?_ | refine r_ixO (by rfl) ?_ | refine r_app (by rfl) ?_ | refine r_ins (by rfl) ?_ | refine r_popAt (by rfl) ?_ | refine r_addB (by rfl) ?_
  | refine r_iteY (by rfl) ?_ | refine r_iteZ (by rfl) ?_ | refine r_ic (by decide) ?_ | refine r_ic (by omega) ?_ | refine r_ic (Or.inr ⟨by decide, by decide⟩) ?_ | refine r_ic (Or.inl ⟨by decide, by decide⟩) ?_ | refine r_ic ⟨by decide, by decide⟩ ?_ | refine r_addS (by decide) ?_ | refine r_rep (by decide) (by decide) (by decide) ?_
  | (refine And.intro (szl ?_) ?_; focus (simp; done)) | refine ⟨⟨_, rfl⟩, by rfl, ?_⟩ | refine ⟨_, _, rfl, ?_⟩ | refine And.intro (by rfl) ?_)
local macro_rules | `(tactic| walk_at "d") => `(tactic| repeat (first | walk_at "s" | walk_at "v"))
section
variable {P : Program} {w : World} {K : PySem.W.Frag} {mg : Str → Option Value} {base : Heap} {A : Ad}
def wd (x : Str) : Bool := asc x && decide (x.length ≤ 8) && decide (1 ≤ x.length)
theorem wd_sm {x : Str} (h : wd x = true) : Sm 8 x ∧ 1 ≤ x.length := by
  simp only [wd, Bool.and_eq_true, decide_eq_true_eq] at h
  exact ⟨⟨h.1.1, h.1.2⟩, h.2⟩
def wordD (d : D) : Prop := ∃ x, d = .str x ∧ wd x = true
def φNames : DSpec := fun ds Q => ds = [.bag, .int 12] ∧ ∀ ys : List D, (∀ d, d ∈ ys → wordD d) → ys.length ≤ 2000 → Q (.lst ys)
def menu : Str := "a b c d e x y z n top lib main told ends over kind cells fields zzzzzzzz aa ab begin scan old lets"
theorem menu_split : (Txt.split menu " ").all wd = true ∧ (Txt.split menu " ").length = 25 := by decide +kernel
theorem cut_mem {xs : List D} {lo hi : Option Int} {d : D} (h : d ∈ DL.cutD xs lo hi) : d ∈ xs := List.mem_of_mem_drop (List.mem_of_mem_take h)
theorem cut_len {xs : List D} {lo hi : Option Int} : (DL.cutD xs lo hi).length ≤ xs.length := by
  unfold DL.cutD
  rw [List.length_take, List.length_drop]
  omega
theorem sc_l_names : FnScope ["_law_bag_here", "_law_upto", "_law_menu", "_law_some_here", "_law_words", "_law_at", "_law_stem", "_law_letters", "_law_letter"] ["_law_bag_here", "_law_upto"] (defScope s_l_names) := ⟨rfl, rfl, rfl, by decide +kernel, rfl, by decide +kernel, by decide +kernel⟩
theorem ok_l_names (T : Txt K mg A) (sy : Sys base) : FnG P w K mg base CX0 3 A.f_l_names A.d_l_names ["_law_bag_here", "_law_upto"] (spD K φNames) := by
  have G_l_mixed := ok_l_mixed (P := P) (w := w) T sy
  have G_l_some := ok_l_some (P := P) (w := w) T sy
  have G_l_take := ok_l_take (P := P) (w := w) T sy
  have nd := sc_l_names.nd
  refine fn_D (k := 2) T.F_l_names sc_l_names (by rintro ds Q ⟨rfl, _⟩; rfl) (fun cdv B up z H E gd hr =>
    have hu := hr.units
    (dss_cons (ds_set (i := 2) nd rfl (Or.inl rfl) de_str) (dss_cons (ds_par (i := 4) (j := 5) rfl nd rfl rfl (by decide) rfl rfl (da_cons (de_split (dv 2) de_str) (da_cons (de_call G_l_take gd (hr.mono (by decide)) rfl T.m_l_take T.F_l_take.kp T.b_l_take (da_cons (dv 0) (da_cons de_int da_nil))) da_nil)) rfl) (dss_cons (ds_set (i := 3) nd rfl (Or.inl rfl) (de_sl (de_op op_cat od_cat (dv 4) (dv 4)) (do_some (dv 5)) (do_some (de_add (dv 5) (dv 1))))) (dss_cons (ds_if (dt_cmp op_eq od_eqC (nomark _) (de_call G_l_take gd (hr.mono (by decide)) rfl T.m_l_take T.F_l_take.kp T.b_l_take (da_cons (dv 0) (da_cons de_int da_nil))) de_int) (dss_cons (ds_parC (i := 6) (j := 7) rfl nd rfl rfl (Or.inr rfl) (Or.inl rfl) (da_cons (de_call G_l_some gd (hr.mono (by decide)) rfl T.m_l_some T.F_l_some.kp T.b_l_some (da_cons (dv 0) (da_cons (de_lst (da_cons de_str (da_cons de_str (da_cons de_str (da_cons de_str da_nil))))) da_nil))) (da_cons de_str da_nil)) (hc1 := pgs_cons (pg_name nd rfl (Or.inr rfl)) (pgs_cons (pg_name nd rfl (Or.inl rfl)) pgs_nil))) (dss_cons (ds_setLc (i := 3) .s rfl nd rfl rfl rfl rfl (by decide +kernel) (de_sl (de_op op_add_str od_addS (dv 7) (dv 7)) (do_some (dv 5)) (do_some (de_add (dv 5) (dv 1)))) (blkOk_by (N := ["_law_bag_here", "_law_upto", "_law_menu", "_law_some_here", "_law_words", "_law_at", "_law_stem", "_law_letters", "_law_letter"]) (sc := defScope s_l_names) (by decide +kernel)) (fun _ _ _ _ _ => pg_name (i := 8) nd rfl (Or.inl rfl)) (fun _ _ _ _ _ => dts_nil) (fun _ _ _ _ _ => (de_op op_add_str od_addS (dv 6) (dv 8)))) dss_nil)) dss_nil) (dss_cons (ds_ret (de_call G_l_mixed gd (hr.mono (by decide)) rfl T.m_l_mixed T.F_l_mixed.kp T.b_l_mixed (da_cons (dv 0) (da_cons (dv 3) da_nil)))) dss_nil)))))) ?_
  rintro ds Q ⟨rfl, k⟩
  walk_at "d"
  refine ⟨szl (by decide +kernel), ?_⟩
  obtain ⟨w1, w2⟩ := menu_split
  unfold menu at w1 w2
  generalize hW : Txt.split ("a b c d e x y z n top lib main told ends over kind cells fields zzzzzzzz aa ab begin scan old lets" : Str) " " = W at w1 w2 ⊢
  have wW : ∀ d, d ∈ W.map D.str ++ W.map D.str → wordD d := fun d hd => by
    have h1 : d ∈ W.map D.str := (List.mem_append.mp hd).elim id id
    obtain ⟨x, hx, rfl⟩ := List.mem_map.mp h1
    exact ⟨x, rfl, List.all_eq_true.mp w1 x hx⟩
  have lW : (W.map D.str).length = 25 := by rw [List.length_map, w2]
  walk_at "d"
  refine ⟨25, rfl, by decide, by decide, fun r r0 r1 => ?_⟩
  walk_at "d"
  refine r_cat (szl (by omega)) ?_
  walk_at "d"
  refine ⟨_, rfl, ?_⟩
  have wS : ∀ d, d ∈ DL.cutD (W.map D.str ++ W.map D.str) (some r) (some (r + 12)) → wordD d := fun d hd => wW d (cut_mem hd)
  have lS : (DL.cutD (W.map D.str ++ W.map D.str) (some r) (some (r + 12))).length ≤ 50 := by
    have h1 := cut_len (xs := W.map D.str ++ W.map D.str) (lo := some r) (hi := some (r + 12))
    rw [List.length_append] at h1
    omega
  generalize DL.cutD (W.map D.str ++ W.map D.str) (some r) (some (r + 12)) = S at wS lS ⊢
  walk_at "d"
  refine ⟨4, rfl, by decide, by decide, fun q q0 q1 => ?_⟩
  walk_at "d"
  refine r_iteD (fun _ => ?_) (fun _ => ?_)
  · walk_at "d"
    refine ⟨_, rfl, by simp, by simp, fun d hd => ?_⟩
    obtain ⟨st, rfl, sa⟩ : ∃ st, d = D.str st ∧ Sm 7 st := by
      simp only [List.mem_cons, List.not_mem_nil, or_false] at hd
      rcases hd with rfl | rfl | rfl | rfl <;> exact ⟨_, rfl, by decide +kernel, by decide +kernel⟩
    walk_at "d"
    refine ⟨_, slS (k := 52) ⟨by decide +kernel, by decide +kernel⟩ (by decide) _ _, ?_⟩
    have lc : Sm 52 (cutS (("abcdefghijklmnopqrstuvwxyz" : Str) ++ "abcdefghijklmnopqrstuvwxyz") (some r) (some (r + 12))) := Sm.cut ⟨by decide +kernel, by decide +kernel⟩ _ _
    generalize cutS (("abcdefghijklmnopqrstuvwxyz" : Str) ++ "abcdefghijklmnopqrstuvwxyz") (some r) (some (r + 12)) = Y at lc ⊢
    have lY : Y.cps.toList.length ≤ 52 := by have := lc.l; simpa [Str.length] using this
    refine ⟨DL.signs Y, rfl, by rfl, fun rest acc δ => (∀ d, d ∈ acc → wordD d) ∧ acc.length + rest.length ≤ 52 ∧ (∀ d, d ∈ rest → ∃ c, d = sg c ∧ c < 128) ∧
      δ = [some (.dat .bag), some (.dat (.int 12)), some (.dat (.str "a b c d e x y z n top lib main told ends over kind cells fields zzzzzzzz aa ab begin scan old lets")), some (.dat (.lst S)), some (.dat (.lst (W.map D.str))), some (.dat (.int r)), some (.dat (.str st)), some (.dat (.str "abcdefghijklmnopqrstuvwxyz")), none], ⟨by simp, ?_, ?_, rfl⟩, ?_, ?_⟩
    · unfold DL.signs
      rw [List.length_map]
      simpa using lY
    · intro d hd
      obtain ⟨c, hc, rfl⟩ := List.mem_map.mp hd
      exact ⟨c, rfl, asc_mem.mp lc.a c hc⟩
    · rintro acc δ' ⟨h1, h2, h3, rfl⟩
      walk_at "d"
      refine ⟨acc, rfl, ?_, fun ys hy => ?_⟩
      · have : acc.length ≤ 52 := by simpa using h2
        omega
      · refine k ys (fun d hd => h1 d (hy.mem_iff.mp hd)) ?_
        have : acc.length ≤ 52 := by simpa using h2
        rw [hy.length_eq]
        omega
    · rintro y rest acc δ' hy ⟨h1, h2, h3, rfl⟩
      obtain ⟨c, rfl, hc⟩ := h3 y (List.mem_cons_self ..)
      walk_at "d"
      unfold sg
      have s1 : Sm 1 (⟨#[c]⟩ : Str) := ⟨by simp [asc, hc], Nat.le_refl _⟩
      refine r_addS (szl (by have := sa.l; have := s1.l; omega)) ?_
      simp only [List.length_cons] at h2
      refine ⟨szlt (by omega), ?_, ?_, fun d hd => h3 d (List.mem_cons_of_mem _ hd), rfl⟩
      · intro d hd
        rcases List.mem_append.mp hd with hd | hd
        · exact h1 d hd
        · rw [List.mem_singleton.mp hd]
          have s2 := sa.app s1
          refine ⟨_, rfl, ?_⟩
          simp only [wd, Bool.and_eq_true, decide_eq_true_eq]
          refine ⟨⟨s2.a, s2.l⟩, ?_⟩
          rw [strLen_append]
          show 1 ≤ st.length + 1
          omega
      · rw [List.length_append, List.length_singleton]
        omega
  · walk_at "d"
    refine ⟨S, rfl, by omega, fun ys hy => ?_⟩
    refine k ys (fun d hd => wS d (hy.mem_iff.mp hd)) ?_
    rw [hy.length_eq]
    omega
end
end K
namespace K
open PySem PySem.Spec PyProof.Rows L2 DL
local macro_rules | `(tactic| walk_at "s") => `(tactic| with_reducible first
  | refine r_seq ?_ | refine r_skip ?_ | refine r_set ?_ | refine r_own ?_ | refine r_do ?_ | refine r_ret ?_ | refine r_retN ?_ | refine r_if ?_ | refine r_par ?_ | refine r_parN ?_
  | refine r_test ?_ | refine r_bl ?_ | refine r_blV ?_ | refine r_and ?_ | refine r_or ?_ | refine r_not ?_ | refine r_ifE ?_ | refine r_andV ?_ | refine r_orV ?_ | refine r_notV ?_
  | refine r_iteT ?_ | refine r_iteF ?_
  | refine r_c ?_ | refine r_op ?_ | refine r_isN ?_ | refine r_notN ?_ | refine r_isB ?_ | refine r_notB ?_ | refine r_neg ?_ | refine r_negB ?_ | refine r_intX ?_ | refine r_strX ?_
  | refine r_chain ?_ | refine r_cb ?_ | refine r_int ?_ | refine r_intB ?_ | refine r_nil ?_ | refine r_cons ?_ | refine r_tup ?_ | refine r_lst ?_ | refine r_new ?_ | refine r_fr ?_ | refine r_items ?_ | refine r_call ?_
  | refine r_is ?_ | refine r_is2 ?_ | refine r_sl ?_ | refine r_noPart ?_ | refine r_part ?_ | refine r_split ?_ | refine r_upper ?_ | refine r_dict1 ?_ | refine r_bagSet ?_ | refine r_leS ?_ | refine r_inS ?_ | refine r_yes ?_ | refine r_forL ?_ | refine r_forT ?_ | refine r_forR ?_ | refine r_lc ?_ | refine r_setIx ?_)
local macro_rules | `(tactic| walk_at "v") => `(tactic| first
  | refine r_var (by rfl) ?_ | refine r_varO (by rfl) ?_ | refine r_p2 (by rfl) ?_ | refine r_eqC (by rfl) ?_ | refine r_neC (by rfl) ?_ | refine r_isX (by rfl) ?_ | refine r_len (by rfl) ?_ | refine r_lenO (by rfl) ?_ | refine r_tupOf (by rfl) ?_
  | refine r_bagIx (by rfl) (fun n => ?_) | refine r_bagCut (by rfl) ?_ | refine r_ixO (by rfl) ?_ | refine r_app (by rfl) ?_ | refine r_ins (by rfl) ?_ | refine r_popAt (by rfl) ?_ | refine r_addB (by rfl) ?_
  | refine r_iteY (by rfl) ?_ | refine r_iteZ (by rfl) ?_ | refine r_ic (by decide) ?_ | refine r_ic (by omega) ?_ | refine r_ic (Or.inr ⟨by decide, by decide⟩) ?_ | refine r_ic (Or.inl ⟨by decide, by decide⟩) ?_ | refine r_ic ⟨by decide, by decide⟩ ?_ | refine r_addS (by decide) ?_ | refine r_rep (by decide) (by decide) (by decide) ?_
  | (refine And.intro (szl ?_) ?_; focus (simp; done)) | refine ⟨⟨_, rfl⟩, by rfl, ?_⟩ | refine ⟨_, _, rfl, ?_⟩ | refine And.intro (by rfl) ?_)
local macro_rules | `(tactic| walk_at "d") => `(tactic| repeat (first | walk_at "s" | walk_at "v"))
section
variable {P : Program} {w : World} {K : PySem.W.Frag} {mg : Str → Option Value} {base : Heap} {A : Ad}
structure OddD (d : D) : Prop where
  sd : DL.sd d = true
  wt : DL.wt d ≤ 50000
  dp : DL.dp d ≤ 20
instance (d : D) : Decidable (OddD d) := decidable_of_iff (sd d = true ∧ wt d ≤ 50000 ∧ dp d ≤ 20) ⟨fun ⟨a, b, c⟩ => ⟨a, b, c⟩, fun ⟨a, b, c⟩ => ⟨a, b, c⟩⟩
def φOdd : DSpec := fun ds Q => ds = [.bag] ∧ ∀ d, OddD d → Q d
structure Dp (i : Nat) (d : D) : Prop where
  sd : DL.sd d = true
  wt : DL.wt d ≤ 30 + 5 * i
  dp : DL.dp d ≤ 1 + i
theorem Dp.lst {i : Nat} {d : D} (h : Dp i d) : Dp (i + 1) (.lst [d]) := ⟨by simp [DL.sd, sdAll, h.sd], by
  have := h.wt
  simp only [DL.wt, wtAll]
  omega, by
  have := h.dp
  simp only [DL.dp, dpAll]
  omega⟩
theorem Dp.tup {i : Nat} {d : D} (h : Dp i d) : Dp (i + 1) (.tup [d]) := ⟨by simp [DL.sd, sdAll, h.sd], by
  have := h.wt
  simp only [DL.wt, wtAll]
  omega, by
  have := h.dp
  simp only [DL.dp, dpAll]
  omega⟩
theorem sc_l_odd : FnScope ["_law_bag_here", "_law_deep", "_law_k", "_law_some_here"] ["_law_bag_here"] (defScope s_l_odd) := ⟨rfl, rfl, rfl, by decide +kernel, rfl, by decide +kernel, by decide +kernel⟩
theorem ok_l_odd (T : Txt K mg A) (sy : Sys base) : FnG P w K mg base CX0 3 A.f_l_odd A.d_l_odd ["_law_bag_here"] (spD K φOdd) := by
  have G_l_some := ok_l_some (P := P) (w := w) T sy
  have G_l_take := ok_l_take (P := P) (w := w) T sy
  have nd := sc_l_odd.nd
  refine fn_D (k := 2) T.F_l_odd sc_l_odd (by rintro ds Q ⟨rfl, _⟩; rfl) (fun cdv B up z H E gd hr =>
    have hu := hr.units
    (dss_cons (ds_set (i := 1) nd rfl (Or.inl rfl) (de_call G_l_some gd (hr.mono (by decide)) rfl T.m_l_some T.F_l_some.kp T.b_l_some (da_cons (dv 0) (da_cons (de_lst (da_cons (de_lst da_nil) (da_cons (de_tup da_nil) (da_cons de_str (da_cons de_dict0 da_nil))))) da_nil)))) (dss_cons (ds_forR PassesOwn.never rfl rfl T.range (da_cons de_int da_nil) nd (j := 2) rfl (Or.inl rfl) (dss_cons (ds_set (i := 1) nd rfl (Or.inl rfl) (de_if (dt_cmp op_eq od_eqC (nomark _) (de_call G_l_take gd (hr.mono (by decide)) rfl T.m_l_take T.F_l_take.kp T.b_l_take (da_cons (dv 0) (da_cons de_int da_nil))) de_int) (de_lst (da_cons (dv 1) da_nil)) (de_tup (da_cons (dv 1) da_nil)))) dss_nil)) (dss_cons (ds_set (i := 3) nd rfl (Or.inl rfl) (de_lst (da_cons de_non (da_cons de_bl (da_cons de_bl (da_cons de_int (da_cons de_int (da_cons (de_neg de_int) (da_cons (de_pow de_int de_int) (da_cons (de_neg (de_pow de_int de_int)) (da_cons de_str (da_cons de_str (da_cons de_str (da_cons de_str (da_cons de_str (da_cons de_str (da_cons de_str (da_cons de_str da_nil)))))))))))))))))) (dss_cons (ds_set (i := 3) nd rfl (Or.inl rfl) (de_op op_cat od_cat (dv 3) (de_lst (da_cons (de_lst da_nil) (da_cons (de_tup da_nil) (da_cons de_dict0 (da_cons (de_lst (da_cons de_str da_nil)) (da_cons (de_tup (da_cons de_str da_nil)) (da_cons (de_lst (da_cons de_int da_nil)) (da_cons (de_dict1 (kk := .inr ("a")) pe_str de_int) (da_cons (de_dict1 (kk := .inl (0)) pe_int de_str) (da_cons (de_dict1 (kk := .inr ("a")) pe_str (de_tup (da_cons de_str (da_cons de_int da_nil)))) (da_cons (dv 1) (da_cons (de_op op_rep od_rep (de_lst (da_cons de_int da_nil)) de_int) (da_cons (de_tup (da_cons de_str da_nil)) da_nil))))))))))))))) (dss_cons (ds_set (i := 3) nd rfl (Or.inl rfl) (de_op op_cat od_cat (dv 3) (de_lst (da_cons (de_tup (da_cons de_str (da_cons de_int da_nil))) (da_cons (de_tup (da_cons de_str (da_cons (de_neg de_int) da_nil))) (da_cons (de_tup (da_cons de_str (da_cons de_bl da_nil))) (da_cons (de_lst (da_cons de_str (da_cons de_int da_nil))) (da_cons (de_tup (da_cons de_str (da_cons de_int (da_cons de_int da_nil)))) (da_cons (de_tup (da_cons de_str (da_cons de_str da_nil))) (da_cons (de_tup (da_cons de_str (da_cons de_int da_nil))) (da_cons (de_tup (da_cons de_int (da_cons de_str da_nil))) da_nil))))))))))) (dss_cons (ds_set (i := 3) nd rfl (Or.inl rfl) (de_op op_cat od_cat (dv 3) (de_lst (da_cons (de_tup (da_cons de_str (da_cons de_int da_nil))) (da_cons (de_tup (da_cons de_str (da_cons de_bl da_nil))) (da_cons (de_tup (da_cons de_str (da_cons de_str da_nil))) (da_cons (de_tup (da_cons de_str da_nil)) (da_cons (de_tup (da_cons de_str (da_cons de_str da_nil))) (da_cons (de_lst (da_cons de_str da_nil)) da_nil))))))))) (dss_cons (ds_set (i := 3) nd rfl (Or.inl rfl) (de_op op_cat od_cat (dv 3) (de_lst (da_cons (de_tup (da_cons de_str da_nil)) (da_cons (de_tup (da_cons (de_tup (da_cons de_str (da_cons (de_tup (da_cons de_str da_nil)) da_nil))) da_nil)) (da_cons (de_tup (da_cons de_str (da_cons (de_tup (da_cons de_str da_nil)) da_nil))) (da_cons (de_lst (da_cons (de_tup (da_cons de_str (da_cons (de_tup (da_cons de_str da_nil)) da_nil))) da_nil)) da_nil))))))) (dss_cons (ds_ret (de_call G_l_some gd (hr.mono (by decide)) rfl T.m_l_some T.F_l_some.kp T.b_l_some (da_cons (dv 0) (da_cons (de_op op_cat od_cat (dv 3) (de_lst (da_cons (de_tup (da_cons (de_tup da_nil) (da_cons (de_tup da_nil) (da_cons (de_tup da_nil) da_nil)))) (da_cons (de_lst (da_cons (de_lst da_nil) (da_cons (de_lst da_nil) (da_cons (de_lst da_nil) da_nil)))) (da_cons (de_tup (da_cons (de_tup da_nil) (da_cons (de_tup (da_cons de_str da_nil)) (da_cons (de_tup da_nil) da_nil)))) (da_cons (de_op op_repS od_repS de_str de_int) da_nil)))))) da_nil)))) dss_nil))))))))) ?_
  rintro ds Q ⟨rfl, k⟩
  walk_at "d"
  refine ⟨_, rfl, by simp, by simp, fun d hd => ?_⟩
  have h0 : Dp 0 d := by
    simp only [List.mem_cons, List.not_mem_nil, or_false] at hd
    rcases hd with rfl | rfl | rfl | rfl <;> exact ⟨by decide +kernel, by decide +kernel, by decide +kernel⟩
  walk_at "d"
  refine ⟨12, rfl, by decide, by decide, fun i δ => ∃ d o, Dp i d ∧ δ = [some (.dat .bag), some (.dat d), o, none], ⟨d, _, h0, rfl⟩, ?_, ?_⟩
  · rintro δ ⟨d, o, hd, rfl⟩
    have od : OddD d := ⟨hd.sd, Nat.le_trans hd.wt (by decide), Nat.le_trans hd.dp (by decide)⟩
    walk_at "d"
    refine r_cat (szl (by simp)) ?_
    walk_at "d"
    refine r_cat (szl (by simp)) ?_
    walk_at "d"
    refine r_cat (szl (by simp)) ?_
    walk_at "d"
    refine r_cat (szl (by simp)) ?_
    walk_at "d"
    refine r_repS (by decide) (by decide) (by decide +kernel) (by decide +kernel) ?_
    walk_at "d"
    refine r_cat (szl (by simp)) ?_
    walk_at "d"
    refine ⟨_, rfl, by simp, by simp, fun d' hd' => k d' ?_⟩
    revert d'
    simp only [List.forall_mem_append, List.forall_mem_cons]
    repeat' apply And.intro
    all_goals first
      | exact od
      | decide +kernel
      | (intro _ h; cases h)
  · rintro i δ hi ⟨d, o, hd, rfl⟩
    walk_at "d"
    refine ⟨2, rfl, by decide, by decide, fun q q0 q1 => ?_⟩
    walk_at "d"
    refine r_iteD (fun _ => ?_) (fun _ => ?_)
    · walk_at "d"
      exact ⟨_, _, hd.lst, rfl⟩
    · walk_at "d"
      exact ⟨_, _, hd.tup, rfl⟩
end
end K
namespace K
open PySem PySem.Spec PyProof.Rows L2 DL
local macro_rules | `(tactic| walk_at "s") => `(tactic| with_reducible first
  | refine r_seq ?_ | refine r_skip ?_ | refine r_set ?_ | refine r_own ?_ | refine r_do ?_ | refine r_ret ?_ | refine r_retN ?_ | refine r_if ?_ | refine r_par ?_ | refine r_parN ?_
  | refine r_test ?_ | refine r_bl ?_ | refine r_blV ?_ | refine r_and ?_ | refine r_or ?_ | refine r_not ?_ | refine r_ifE ?_ | refine r_andV ?_ | refine r_orV ?_ | refine r_notV ?_
  | refine r_iteT ?_ | refine r_iteF ?_
  | refine r_c ?_ | refine r_op ?_ | refine r_isN ?_ | refine r_notN ?_ | refine r_isB ?_ | refine r_notB ?_ | refine r_neg ?_ | refine r_negB ?_ | refine r_intX ?_ | refine r_strX ?_
  | refine r_chain ?_ | refine r_cb ?_ | refine r_int ?_ | refine r_intB ?_ | refine r_nil ?_ | refine r_cons ?_ | refine r_tup ?_ | refine r_lst ?_ | refine r_new ?_ | refine r_fr ?_ | refine r_items ?_ | refine r_call ?_
  | refine r_is ?_ | refine r_is2 ?_ | refine r_sl ?_ | refine r_noPart ?_ | refine r_part ?_ | refine r_split ?_ | refine r_upper ?_ | refine r_dict1 ?_ | refine r_bagSet ?_ | refine r_leS ?_ | refine r_inS ?_ | refine r_yes ?_ | refine r_forL ?_ | refine r_forT ?_ | refine r_forR ?_ | refine r_lc ?_ | refine r_setIx ?_)
local macro_rules | `(tactic| walk_at "v") => `(tactic| first
  | refine r_var (by rfl) ?_ | refine r_varO (by rfl) ?_ | refine r_p2 (by rfl) ?_ | refine r_eqC (by rfl) ?_ | refine r_neC (by rfl) ?_ | refine r_isX (by rfl) ?_ | refine r_len (by rfl) ?_ | refine r_lenO (by rfl) ?_ | refine r_tupOf (by rfl) ?_
  | refine r_bagIx (by rfl) (fun n => ?_) | refine r_bagCut (by rfl) ?_ | refine r_ixO (by rfl) ?_ | refine r_app (by rfl) ?_ | refine r_ins (by rfl) ?_ | refine r_popAt (by rfl) ?_ | refine r_addB (by rfl) ?_
  | refine r_iteY (by rfl) ?_ | refine r_iteZ (by rfl) ?_ | refine r_ic (by decide) ?_ | refine r_ic (by omega) ?_ | refine r_ic (Or.inr ⟨by decide, by decide⟩) ?_ | refine r_ic (Or.inl ⟨by decide, by decide⟩) ?_ | refine r_ic ⟨by decide, by decide⟩ ?_ | refine r_addS (by decide) ?_ | refine r_rep (by decide) (by decide) (by decide) ?_
  | (refine And.intro (szl ?_) ?_; focus (simp; done)) | refine ⟨⟨_, rfl⟩, by rfl, ?_⟩ | refine ⟨_, _, rfl, ?_⟩ | refine And.intro (by rfl) ?_)
local macro_rules | `(tactic| walk_at "d") => `(tactic| repeat (first | walk_at "s" | walk_at "v"))
section
variable {P : Program} {w : World} {K : PySem.W.Frag} {mg : Str → Option Value} {base : Heap} {A : Ad}
def menuI : List Int := [0, 1, 2, 39, 10 ^ 39, -1, -10 ^ 39]
def menuT : List Str := ["at", "At", "on", "0"]
mutual
def nb : D → Bool
  | .int i => decide (i ∈ menuI)
  | .str x => decide (x ∈ menuT)
  | .lst xs => nbAll xs
  | .tup xs => nbAll xs
  | .bag => false
  | .obj _ => false
  | _ => true
def nbAll : List D → Bool
  | [] => true
  | d :: ds => nb d && nbAll ds
end
theorem _root_.DL.Sm.odd {k : Nat} {x : Str} (h : Sm k x) (e : k ≤ 4000) : OddD (.str x) := ⟨h.a, by
  have := h.l
  show 10 * x.length + 2 ≤ 50000
  omega, Nat.zero_le _⟩
theorem menuT_sm : ∀ x ∈ menuT, Sm 2 x := by
  intro x hx
  have h : ∀ x ∈ menuT, asc x = true ∧ x.length ≤ 2 := by decide +kernel
  exact ⟨(h x hx).1, (h x hx).2⟩
theorem menuT_tup : ∀ x ∈ menuT, OddD (.tup [.str x]) := by decide +kernel
theorem menuI_odd : ∀ i ∈ menuI, OddD (.int (i + 1)) ∧ OddD (.int (-i)) ∧ OddD (.tup [.int i]) := by decide +kernel
def φChanged : DSpec := fun ds Q => ∃ x, ds = [.bag, x] ∧ nb x = true ∧ ∀ d, OddD d → Q d
theorem sc_l_changed : FnScope ["_law_bag_here", "_law_thing", "_law_some_here"] ["_law_bag_here", "_law_thing"] (defScope s_l_changed) := ⟨rfl, rfl, rfl, by decide +kernel, rfl, by decide +kernel, by decide +kernel⟩
theorem ok_l_changed (T : Txt K mg A) (sy : Sys base) : FnG P w K mg base CX0 4 A.f_l_changed A.d_l_changed ["_law_bag_here", "_law_thing"] (spD K φChanged) := by
  have G_l_odd := ok_l_odd (P := P) (w := w) T sy
  have G_l_some := ok_l_some (P := P) (w := w) T sy
  have nd := sc_l_changed.nd
  refine fn_D (k := 3) T.F_l_changed sc_l_changed (by rintro ds Q ⟨u, rfl, _⟩; rfl) (fun cdv B up z H E gd hr =>
    have hu := hr.units
    (dss_cons (ds_if (dt_val (de_isi (K₁ := K) rfl T.isinstance rfl T.str rfl boot_str (dv 1))) (dss_cons (ds_set (i := 2) nd rfl (Or.inl rfl) (de_lst (da_cons (de_op op_add_str od_addS (dv 1) de_str) (da_cons (de_sl (dv 1) do_none (do_some (de_neg de_int))) (da_cons (de_upper (dv 1)) (da_cons de_str (da_cons de_str (da_cons de_str (da_cons de_str (da_cons de_str (da_cons de_str (da_cons de_str (da_cons (de_tup (da_cons (dv 1) da_nil)) da_nil))))))))))))) (dss_cons (ds_ret (de_call G_l_some gd (hr.mono (by decide)) rfl T.m_l_some T.F_l_some.kp T.b_l_some (da_cons (dv 0) (da_cons (de_op op_cat od_cat (dv 2) (de_lst (da_cons (de_call G_l_odd gd (hr.mono (by decide)) rfl T.m_l_odd T.F_l_odd.kp T.b_l_odd (da_cons (dv 0) da_nil)) da_nil))) da_nil)))) dss_nil)) dss_nil) (dss_cons (ds_if (dt_val (de_isi (K₁ := K) rfl T.isinstance rfl T.int rfl boot_int (dv 1))) (dss_cons (ds_ret (de_call G_l_some gd (hr.mono (by decide)) rfl T.m_l_some T.F_l_some.kp T.b_l_some (da_cons (dv 0) (da_cons (de_lst (da_cons (de_cmp (op_eqT hu sy) od_eq (nomark _) (dv 1) de_int) (da_cons (de_op op_addB od_addB (dv 1) de_int) (da_cons (de_negB (dv 1)) (da_cons de_non (da_cons (de_tup (da_cons (dv 1) da_nil)) (da_cons (de_call G_l_odd gd (hr.mono (by decide)) rfl T.m_l_odd T.F_l_odd.kp T.b_l_odd (da_cons (dv 0) da_nil)) da_nil))))))) da_nil)))) dss_nil) dss_nil) (dss_cons (ds_ret (de_call G_l_odd gd (hr.mono (by decide)) rfl T.m_l_odd T.F_l_odd.kp T.b_l_odd (da_cons (dv 0) da_nil))) dss_nil)))) ?_
  rintro ds Q ⟨x, rfl, nx, k⟩
  cases x with
  | bag => cases nx
  | obj C => cases nx
  | str x =>
    have hx : x ∈ menuT := by simpa [nb] using nx
    have sm := menuT_sm x hx
    walk_at "d"
    refine r_addS (szl (by have := sm.l; show x.length + 1 ≤ _; omega)) ?_
    walk_at "d"
    refine ⟨_, slS sm (by decide) _ _, ?_⟩
    walk_at "d"
    refine ⟨by have := sm.l; omega, ?_⟩
    walk_at "d"
    refine fun od hod => ?_
    walk_at "d"
    refine r_cat (szl (by simp)) ?_
    walk_at "d"
    refine ⟨_, rfl, by simp, by simp, fun d' hd' => k d' ?_⟩
    have a1 : OddD (.str (x ++ "a")) := (sm.app (⟨by decide +kernel, by decide +kernel⟩ : Sm 1 "a")).odd (by decide)
    have a2 : OddD (.str (cutS x none (some (-1)))) := (sm.cut _ _).odd (by decide)
    have a3 : OddD (.str (Txt.upper x)) := sm.upper.odd (by decide)
    have a4 : OddD (.tup [.str x]) := menuT_tup x hx
    revert d'
    simp only [List.forall_mem_append, List.forall_mem_cons]
    repeat' apply And.intro
    all_goals first
      | assumption
      | exact a1 _
      | decide +kernel
      | (intro _ h; cases h)
  | int i =>
    have hi : i ∈ menuI := by simpa [nb] using nx
    obtain ⟨o1, o2, o3⟩ := menuI_odd i hi
    walk_at "d"
    refine r_eqD ⟨rfl, rfl⟩ ⟨rfl, rfl⟩ ?_
    walk_at "d"
    refine ⟨_, rfl, ?_⟩
    walk_at "d"
    refine fun od hod => ?_
    walk_at "d"
    refine ⟨_, rfl, by simp, by simp, fun d' hd' => k d' ?_⟩
    have a1 : ∀ b, OddD (.bl b) := by decide
    revert d'
    simp only [List.forall_mem_append, List.forall_mem_cons]
    repeat' apply And.intro
    all_goals first
      | assumption
      | exact a1 _
      | decide +kernel
      | (intro _ h; cases h)
  | bl b =>
    cases b
    all_goals
      walk_at "d"
      refine r_eqD ⟨rfl, rfl⟩ ⟨rfl, rfl⟩ ?_
      walk_at "d"
      refine ⟨_, rfl, ?_⟩
      walk_at "d"
      refine fun od hod => ?_
      walk_at "d"
      refine ⟨_, rfl, by simp, by simp, fun d' hd' => k d' ?_⟩
      have a1 : ∀ b, OddD (.bl b) := by decide
      revert d'
      simp only [List.forall_mem_append, List.forall_mem_cons]
      repeat' apply And.intro
      all_goals first
        | assumption
        | decide +kernel
        | (intro _ h; cases h)
  | _ =>
    walk_at "d"
    exact k
end
end K
namespace K
open PySem PySem.Spec PyProof.Rows L2 DL
local macro_rules | `(tactic| walk_at "s") => `(tactic| with_reducible first
  | refine r_seq ?_ | refine r_skip ?_ | refine r_set ?_ | refine r_own ?_ | refine r_do ?_ | refine r_ret ?_ | refine r_retN ?_ | refine r_if ?_ | refine r_par ?_ | refine r_parN ?_
  | refine r_test ?_ | refine r_bl ?_ | refine r_blV ?_ | refine r_and ?_ | refine r_or ?_ | refine r_not ?_ | refine r_ifE ?_ | refine r_andV ?_ | refine r_orV ?_ | refine r_notV ?_
  | refine r_iteT ?_ | refine r_iteF ?_
  | refine r_c ?_ | refine r_op ?_ | refine r_isN ?_ | refine r_notN ?_ | refine r_isB ?_ | refine r_notB ?_ | refine r_neg ?_ | refine r_negB ?_ | refine r_intX ?_ | refine r_strX ?_
  | refine r_chain ?_ | refine r_cb ?_ | refine r_int ?_ | refine r_intB ?_ | refine r_nil ?_ | refine r_cons ?_ | refine r_tup ?_ | refine r_lst ?_ | refine r_new ?_ | refine r_fr ?_ | refine r_items ?_ | refine r_call ?_
  | refine r_is ?_ | refine r_is2 ?_ | refine r_sl ?_ | refine r_noPart ?_ | refine r_part ?_ | refine r_split ?_ | refine r_upper ?_ | refine r_dict1 ?_ | refine r_bagSet ?_ | refine r_leS ?_ | refine r_inS ?_ | refine r_yes ?_ | refine r_forL ?_ | refine r_forT ?_ | refine r_forR ?_ | refine r_lc ?_ | refine r_setIx ?_)
local macro_rules | `(tactic| walk_at "v") => `(tactic| first
  | refine r_var (by rfl) ?_ | refine r_varO (by rfl) ?_ | refine r_p2 (by rfl) ?_ | refine r_eqC (by rfl) ?_ | refine r_neC (by rfl) ?_ | refine r_isX (by rfl) ?_ | refine r_len (by rfl) ?_ | refine r_lenO (by rfl) ?_ | refine r_tupOf (by rfl) ?_
  | refine r_bagIx (by rfl) (fun n => ?_) | refine r_bagCut (by rfl) ?_ | refine r_ixO (by rfl) ?_ | refine r_app (by rfl) ?_ | refine r_ins (by rfl) ?_ | refine r_popAt (by rfl) ?_ | refine r_addB (by rfl) ?_
  | refine r_iteY (by rfl) ?_ | refine r_iteZ (by rfl) ?_ | refine r_ic (by decide) ?_ | refine r_ic (by omega) ?_ | refine r_ic (Or.inr ⟨by decide, by decide⟩) ?_ | refine r_ic (Or.inl ⟨by decide, by decide⟩) ?_ | refine r_ic ⟨by decide, by decide⟩ ?_ | refine r_addS (by decide) ?_ | refine r_rep (by decide) (by decide) (by decide) ?_
  | (refine And.intro (szl ?_) ?_; focus (simp; done)) | refine ⟨⟨_, rfl⟩, by rfl, ?_⟩ | refine ⟨_, _, rfl, ?_⟩ | refine And.intro (by rfl) ?_)
local macro_rules | `(tactic| walk_at "d") => `(tactic| repeat (first | walk_at "s" | walk_at "v"))
section
variable {P : Program} {w : World} {K : PySem.W.Frag} {mg : Str → Option Value} {base : Heap} {A : Ad}
theorem wtAll_app (xs ys : List D) : wtAll (xs ++ ys) = wtAll xs + wtAll ys := by
  induction xs with
  | nil => simp [wtAll]
  | cons x xs ih => simp only [List.cons_append, wtAll, ih]; omega
theorem wtAll_mem {d : D} {xs : List D} (h : d ∈ xs) : wt d + 2 ≤ wtAll xs := by
  induction xs with
  | nil => cases h
  | cons x xs ih =>
    simp only [wtAll]
    rcases List.mem_cons.mp h with rfl | h
    · omega
    · have := ih h
      omega
theorem wtAll_len (xs : List D) : 2 * xs.length ≤ wtAll xs := by
  induction xs with
  | nil => simp [wtAll]
  | cons x xs ih => simp only [wtAll, List.length_cons]; omega
theorem wtAll_erase (xs : List D) (j : Nat) : wtAll (xs.eraseIdx j) ≤ wtAll xs := by
  induction xs generalizing j with
  | nil => simp [wtAll]
  | cons x xs ih =>
    cases j with
    | zero => simp only [List.eraseIdx_cons_zero, wtAll]; omega
    | succ j => have := ih j; simp only [List.eraseIdx_cons_succ, wtAll]; omega
theorem wtAll_set {xs : List D} {j : Nat} {d e : D} (h : xs[j]? = some e) : wtAll (xs.set j d) + wt e = wtAll xs + wt d := by
  induction xs generalizing j with
  | nil => simp at h
  | cons x xs ih =>
    cases j with
    | zero =>
      have h' : x = e := by simpa using h
      subst h'
      simp only [List.set_cons_zero, wtAll]
      omega
    | succ j =>
      have := ih (j := j) (by simpa using h)
      simp only [List.set_cons_succ, wtAll]
      omega
theorem sdAll_iff (xs : List D) : sdAll xs = true ↔ ∀ d, d ∈ xs → sd d = true := by
  induction xs with
  | nil => simp [sdAll]
  | cons x xs ih => simp [sdAll, ih]
theorem nbAll_iff (xs : List D) : nbAll xs = true ↔ ∀ d, d ∈ xs → nb d = true := by
  induction xs with
  | nil => simp [nbAll]
  | cons x xs ih => simp [nbAll, ih]
theorem dpAll_iff (xs : List D) (k : Nat) : dpAll xs ≤ k ↔ ∀ d, d ∈ xs → dp d ≤ k := by
  induction xs with
  | nil => simp [dpAll]
  | cons x xs ih => simp [dpAll, ih, Nat.max_le]
/-- what a bent value may be -/
structure BentD (x d : D) : Prop where
  sd : DL.sd d = true
  wt : DL.wt d ≤ 2 * DL.wt x + 50000
  dp : DL.dp d ≤ DL.dp x + 20
structure Bt (n : Nat) (x : D) : Prop where
  nb : _root_.K.nb x = true
  sd : DL.sd x = true
  dp : DL.dp x < n
  wt : DL.wt x ≤ 100000
def φBent (n : Nat) : DSpec := fun ds Q => ∃ x, ds = [.bag, x] ∧ Bt n x ∧ ∀ d, BentD x d → Q d
theorem OddD.bent {x d : D} (h : OddD d) : BentD x d := ⟨h.sd, by have := h.wt; omega, by have := h.dp; omega⟩
/-- of lists -/
structure BentL (xs ys : List D) : Prop where
  sd : ∀ d, d ∈ ys → DL.sd d = true
  wt : wtAll ys ≤ 2 * wtAll xs + 50000
  dp : ∀ d, d ∈ ys → DL.dp d ≤ dpAll xs + 20
theorem BentL.lst {xs ys : List D} {x : D} (h : BentL xs ys) (e : x = .lst xs ∨ x = .tup xs) : BentD x (.lst ys) ∧ BentD x (.tup ys) := by
  have h1 := (sdAll_iff ys).mpr h.sd
  have h2 := h.wt
  have h3 := (dpAll_iff ys _).mpr h.dp
  have w1 : DL.wt x = 3 + wtAll xs := by rcases e with rfl | rfl <;> rfl
  have d1 : DL.dp x = dpAll xs + 1 := by rcases e with rfl | rfl <;> rfl
  exact ⟨⟨h1, by rw [w1]; show 3 + wtAll ys ≤ _; omega, by rw [d1]; show dpAll ys + 1 ≤ _; omega⟩, ⟨h1, by rw [w1]; show 3 + wtAll ys ≤ _; omega, by rw [d1]; show dpAll ys + 1 ≤ _; omega⟩⟩
theorem bl_same {xs : List D} (h : sdAll xs = true) : BentL xs xs := ⟨(sdAll_iff xs).mp h, by omega, fun d hd => Nat.le_trans ((dpAll_iff xs _).mp (Nat.le_refl _) d hd) (Nat.le_add_right _ _)⟩
theorem bl_erase {xs : List D} (h : sdAll xs = true) (j : Nat) : BentL xs (xs.eraseIdx j) := by
  have b := bl_same h
  exact ⟨fun d hd => b.sd d (List.mem_of_mem_eraseIdx hd), by have := wtAll_erase xs j; omega, fun d hd => b.dp d (List.mem_of_mem_eraseIdx hd)⟩
theorem bl_ins {xs : List D} (h : sdAll xs = true) (j : Nat) {e : D} (he : e ∈ xs) : BentL xs (xs.take j ++ [e] ++ xs.drop j) := by
  have b := bl_same h
  have m : ∀ d, d ∈ xs.take j ++ [e] ++ xs.drop j → d ∈ xs := by
    intro d hd
    rw [List.mem_append, List.mem_append, List.mem_singleton] at hd
    rcases hd with (hd | rfl) | hd
    · exact List.mem_of_mem_take hd
    · exact he
    · exact List.mem_of_mem_drop hd
  refine ⟨fun d hd => b.sd d (m d hd), ?_, fun d hd => b.dp d (m d hd)⟩
  have h1 : wtAll xs = wtAll (xs.take j) + wtAll (xs.drop j) := by rw [← wtAll_app, List.take_append_drop]
  have h2 := wtAll_mem he
  rw [wtAll_app, wtAll_app]
  simp only [wtAll]
  omega
theorem bl_set {xs : List D} (h : sdAll xs = true) {j : Nat} {e d : D} (he : xs[j]? = some e) (g : BentD e d) : BentL xs (xs.set j d) := by
  have b := bl_same h
  have me : e ∈ xs := List.mem_of_getElem? he
  have m : ∀ x, x ∈ xs.set j d → x ∈ xs ∨ x = d := fun x hx => List.mem_or_eq_of_mem_set hx
  refine ⟨fun x hx => (m x hx).elim (b.sd x) fun z => z ▸ g.sd, ?_, fun x hx => (m x hx).elim (b.dp x) fun z => ?_⟩
  · have h1 := wtAll_set (d := d) he
    have h2 := g.wt
    have h3 := wtAll_mem me
    omega
  · subst z
    have h1 := g.dp
    have h2 := (dpAll_iff xs _).mp (Nat.le_refl _) e me
    omega
theorem at_mem {xs : List D} {r : Int} (h0 : 0 ≤ r) (h1 : r < xs.length) : ∃ d, atI xs r = some d ∧ xs[r.toNat]? = some d ∧ d ∈ xs := by
  have h2 : r.toNat < xs.length := by omega
  refine ⟨xs[r.toNat], ?_, List.getElem?_eq_getElem h2, List.getElem_mem h2⟩
  unfold atI ixN
  rw [if_pos h0, if_pos h1]
  exact List.getElem?_eq_getElem h2
theorem sc_l_bent : FnScope ["_law_bag_here", "_law_thing", "_law_way", "_law_at", "_law_some_here"] ["_law_bag_here", "_law_thing"] (defScope s_l_bent) := ⟨rfl, rfl, rfl, by decide +kernel, rfl, by decide +kernel, by decide +kernel⟩
theorem ok_l_bent (T : Txt K mg A) (sy : Sys base) : ∀ n, FnG P w K mg base CX0 (5 + n) A.f_l_bent A.d_l_bent ["_law_bag_here", "_law_thing"] (spD K (φBent n))
  | 0 => ⟨fun vs H Q E h => by
      obtain ⟨_, _, _, _, _, _, _, _, _, _, _, ⟨x, _, bt, _⟩, _⟩ := h
      exact absurd bt.dp (Nat.not_lt_zero _), fun B up z H as us vs Q E _ _ _ _ _ h => by
      obtain ⟨_, _, _, _, _, _, _, _, _, _, _, ⟨x, _, bt, _⟩, _⟩ := h
      exact absurd bt.dp (Nat.not_lt_zero _)⟩
  | n + 1 => by
    have G_l_bent := ok_l_bent T sy n
    have G_l_take := ok_l_take (P := P) (w := w) T sy
    have G_l_changed := ok_l_changed (P := P) (w := w) T sy
    have nd := sc_l_bent.nd
    refine fn_D (k := 5 + n) T.F_l_bent sc_l_bent (by rintro ds Q ⟨u, rfl, _⟩; rfl) (fun cdv B up z H E gd hr =>
      have hu := hr.units
      (dss_cons (ds_set (i := 2) nd rfl (Or.inl rfl) (de_call G_l_take gd (hr.mono (by omega)) rfl T.m_l_take T.F_l_take.kp T.b_l_take (da_cons (dv 0) (da_cons de_int da_nil)))) (dss_cons (ds_if (PW.pt (dw_or (dt_not (dt_val (de_isi2 (p5 := ⟨0, 0, 0, 0⟩) T.isinstance rfl T.tuple rfl boot_tuple T.list rfl boot_list (dv 1)))) (dw_or (dt_cmp op_eq od_eqC (nomark _) (de_callB call_lenT cd_len rfl T.len PySem.boot_len (da_cons (dv 1) da_nil)) de_int) (dw_or1 (dt_cmp op_eq od_eqC (nomark _) (dv 2) de_int))))) (dss_cons (ds_ret (de_call G_l_changed gd (hr.mono (by omega)) rfl T.m_l_changed T.F_l_changed.kp T.b_l_changed (da_cons (dv 0) (da_cons (dv 1) da_nil)))) dss_nil) dss_nil) (dss_cons (ds_parN (i := 3) (j := 4) rfl nd rfl rfl (by decide) rfl rfl (de_call G_l_take gd (hr.mono (by omega)) rfl T.m_l_take T.F_l_take.kp T.b_l_take (da_cons (dv 0) (da_cons (de_callB call_lenT cd_len rfl T.len PySem.boot_len (da_cons (dv 1) da_nil)) da_nil))) (dn_listOf rfl T.list (dv 1)) rfl) (dss_cons (ds_if (dt_cmp op_eq od_eqC (nomark _) (dv 2) de_int) (dss_cons (ds_popAt (pe_bm PySem.F.plainAttrs_list PySem.F.slot_list_pop PySem.F.type_list_pop mt_popAt (pv 4) (pa_cons (dv 3) pa_nil))) dss_nil) (dss_cons (ds_if (dt_cmp op_eq od_eqC (nomark _) (dv 2) de_int) (dss_cons (ds_ins (pe_bm PySem.F.plainAttrs_list PySem.F.slot_list_insert PySem.F.type_list_insert mt_insert (pv 4) (pa_cons (dv 3) (pa_cons (de_ix (dv 1) (dv 3) (fun _ _ => rfl)) pa_nil)))) dss_nil) (dss_cons (ds_if (dt_cmp op_eq od_eqC (nomark _) (dv 2) de_int) (dss_cons (ds_ret (de_if (dt_val (de_isi (K₁ := K) rfl T.isinstance rfl T.tuple rfl boot_tuple (dv 1))) (dv 4) (de_callTy call_tuple_of cd_tupOf rfl T.tuple boot_tuple (da_cons (dv 4) da_nil)))) dss_nil) (dss_cons (ds_setIx (pv 4) (dv 3) (de_call G_l_bent gd (hr.mono (by omega)) rfl T.m_l_bent T.F_l_bent.kp T.b_l_bent (da_cons (dv 0) (da_cons (de_ixO (pv 4) (dv 3) (fun _ _ => rfl)) da_nil)))) dss_nil)) dss_nil)) dss_nil)) (dss_cons (ds_ret (de_if (dt_val (de_isi (K₁ := K) rfl T.isinstance rfl T.tuple rfl boot_tuple (dv 1))) (de_callTy call_tuple_of cd_tupOf rfl T.tuple boot_tuple (da_cons (dv 4) da_nil)) (dv 4))) dss_nil)))))) ?_
    rintro ds Q ⟨x, rfl, bt, k⟩
    walk_at "d"
    refine ⟨8, rfl, by decide, by decide, fun q q0 q1 => ?_⟩
    cases x with
    | lst xs =>
      have hs : sdAll xs = true := bt.sd
      have hn := (nbAll_iff xs).mp bt.nb
      have hw : 3 + wtAll xs ≤ 100000 := bt.wt
      have hd1 : dpAll xs + 1 < n + 1 := bt.dp
      have hl := wtAll_len xs
      walk_at "d"
      refine ⟨false, true, rfl, rfl, ?_⟩
      walk_at "d"
      refine r_iteD (fun _ => ?_) (fun hne => ?_)
      · walk_at "d"
        exact ⟨_, rfl, bt.nb, fun d hd => k d hd.bent⟩
      walk_at "d"
      refine r_iteD (fun _ => ?_) (fun _ => ?_)
      · walk_at "d"
        exact ⟨_, rfl, bt.nb, fun d hd => k d hd.bent⟩
      walk_at "d"
      refine ⟨_, rfl, by omega, by omega, fun r r0 r1 => ?_⟩
      obtain ⟨e, e1, e2, e3⟩ := at_mem r0 r1
      walk_at "d"
      refine ⟨xs, rfl, ?_⟩
      walk_at "d"
      refine r_iteD (fun _ => ?_) (fun _ => ?_)
      · walk_at "d"
        refine ⟨_, r, r.toNat, rfl, rfl, r0, by omega, by omega, by omega, ?_⟩
        walk_at "d"
        exact k _ ((bl_erase hs _).lst (Or.inl rfl)).1
      walk_at "d"
      refine r_iteD (fun _ => ?_) (fun _ => ?_)
      · walk_at "d"
        refine r_ix e1 ?_
        refine ⟨_, r, rfl, r0, by omega, rfl, szlt (by omega), ?_⟩
        walk_at "d"
        exact k _ ((bl_ins hs _ e3).lst (Or.inl rfl)).1
      walk_at "d"
      refine r_iteD (fun _ => ?_) (fun _ => ?_)
      · walk_at "d"
        exact k _ ((bl_same hs).lst (Or.inl rfl)).2
      walk_at "d"
      refine ⟨_, r, e, rfl, rfl, e1, ?_⟩
      walk_at "d"
      refine ⟨e, rfl, ⟨hn e e3, (sdAll_iff xs).mp hs e e3, ?_, ?_⟩, fun d hd => ?_⟩
      · have := (dpAll_iff xs _).mp (Nat.le_refl _) e e3
        omega
      · have := wtAll_mem e3
        omega
      refine ⟨⟨_, rfl⟩, ?_⟩
      walk_at "d"
      refine ⟨_, r, r.toNat, rfl, rfl, by omega, by omega, ?_⟩
      walk_at "d"
      exact k _ ((bl_set hs e2 hd).lst (Or.inl rfl)).1
    | tup xs =>
      have hs : sdAll xs = true := bt.sd
      have hn := (nbAll_iff xs).mp bt.nb
      have hw : 3 + wtAll xs ≤ 100000 := bt.wt
      have hd1 : dpAll xs + 1 < n + 1 := bt.dp
      have hl := wtAll_len xs
      walk_at "d"
      refine ⟨true, false, rfl, rfl, ?_⟩
      walk_at "d"
      refine r_iteD (fun _ => ?_) (fun hne => ?_)
      · walk_at "d"
        exact ⟨_, rfl, bt.nb, fun d hd => k d hd.bent⟩
      walk_at "d"
      refine r_iteD (fun _ => ?_) (fun _ => ?_)
      · walk_at "d"
        exact ⟨_, rfl, bt.nb, fun d hd => k d hd.bent⟩
      walk_at "d"
      refine ⟨_, rfl, by omega, by omega, fun r r0 r1 => ?_⟩
      obtain ⟨e, e1, e2, e3⟩ := at_mem r0 r1
      walk_at "d"
      refine ⟨xs, rfl, ?_⟩
      walk_at "d"
      refine r_iteD (fun _ => ?_) (fun _ => ?_)
      · walk_at "d"
        refine ⟨_, r, r.toNat, rfl, rfl, r0, by omega, by omega, by omega, ?_⟩
        walk_at "d"
        exact k _ ((bl_erase hs _).lst (Or.inr rfl)).2
      walk_at "d"
      refine r_iteD (fun _ => ?_) (fun _ => ?_)
      · walk_at "d"
        refine r_ix e1 ?_
        refine ⟨_, r, rfl, r0, by omega, rfl, szlt (by omega), ?_⟩
        walk_at "d"
        exact k _ ((bl_ins hs _ e3).lst (Or.inr rfl)).2
      walk_at "d"
      refine r_iteD (fun _ => ?_) (fun _ => ?_)
      · walk_at "d"
        exact k _ ((bl_same hs).lst (Or.inr rfl)).1
      walk_at "d"
      refine ⟨_, r, e, rfl, rfl, e1, ?_⟩
      walk_at "d"
      refine ⟨e, rfl, ⟨hn e e3, (sdAll_iff xs).mp hs e e3, ?_, ?_⟩, fun d hd => ?_⟩
      · have := (dpAll_iff xs _).mp (Nat.le_refl _) e e3
        omega
      · have := wtAll_mem e3
        omega
      refine ⟨⟨_, rfl⟩, ?_⟩
      walk_at "d"
      refine ⟨_, r, r.toNat, rfl, rfl, by omega, by omega, ?_⟩
      walk_at "d"
      exact k _ ((bl_set hs e2 hd).lst (Or.inr rfl)).2
    | bag => cases bt.nb
    | obj C => cases bt.nb
    | _ =>
      walk_at "d"
      refine ⟨_, _, rfl, rfl, ?_⟩
      walk_at "d"
      exact ⟨_, rfl, bt.nb, fun d hd => k d hd.bent⟩
end
end K
namespace K
open PySem PySem.Spec PyProof.Rows L2 DL
local macro_rules | `(tactic| walk_at "s") => `(tactic| with_reducible first
  | refine r_seq ?_ | refine r_skip ?_ | refine r_set ?_ | refine r_own ?_ | refine r_do ?_ | refine r_ret ?_ | refine r_retN ?_ | refine r_if ?_ | refine r_par ?_ | refine r_parN ?_
  | refine r_test ?_ | refine r_bl ?_ | refine r_blV ?_ | refine r_and ?_ | refine r_or ?_ | refine r_not ?_ | refine r_ifE ?_ | refine r_andV ?_ | refine r_orV ?_ | refine r_notV ?_
  | refine r_iteT ?_ | refine r_iteF ?_
  | refine r_c ?_ | refine r_op ?_ | refine r_isN ?_ | refine r_notN ?_ | refine r_isB ?_ | refine r_notB ?_ | refine r_neg ?_ | refine r_negB ?_ | refine r_intX ?_ | refine r_strX ?_
  | refine r_chain ?_ | refine r_cb ?_ | refine r_int ?_ | refine r_intB ?_ | refine r_nil ?_ | refine r_cons ?_ | refine r_tup ?_ | refine r_lst ?_ | refine r_new ?_ | refine r_fr ?_ | refine r_items ?_ | refine r_call ?_
  | refine r_is ?_ | refine r_is2 ?_ | refine r_sl ?_ | refine r_noPart ?_ | refine r_part ?_ | refine r_split ?_ | refine r_upper ?_ | refine r_dict1 ?_ | refine r_bagSet ?_ | refine r_leS ?_ | refine r_inS ?_ | refine r_yes ?_ | refine r_forL ?_ | refine r_forT ?_ | refine r_forR ?_ | refine r_lc ?_ | refine r_setIx ?_)
local macro_rules | `(tactic| walk_at "v") => `(tactic| first
  | refine r_var (by rfl) ?_ | refine r_varO (by rfl) ?_ | refine r_p2 (by rfl) ?_ | refine r_eqC (by rfl) ?_ | refine r_neC (by rfl) ?_ | refine r_isX (by rfl) ?_ | refine r_len (by rfl) ?_ | refine r_lenO (by rfl) ?_ | refine r_tupOf (by rfl) ?_
  | refine r_bagIx (by rfl) (fun n => ?_) | refine r_bagCut (by rfl) ?_ | refine r_ixO (by rfl) ?_ | refine r_app (by rfl) ?_ | refine r_ins (by rfl) ?_ | refine r_popAt (by rfl) ?_ | refine r_addB (by rfl) ?_
  | refine r_iteY (by rfl) ?_ | refine r_iteZ (by rfl) ?_ | refine r_ic (by decide) ?_ | refine r_ic (by omega) ?_ | refine r_ic (Or.inr ⟨by decide, by decide⟩) ?_ | refine r_ic (Or.inl ⟨by decide, by decide⟩) ?_ | refine r_ic ⟨by decide, by decide⟩ ?_ | refine r_addS (by decide) ?_ | refine r_rep (by decide) (by decide) (by decide) ?_
  | (refine And.intro (szl ?_) ?_; focus (simp; done)) | refine ⟨⟨_, rfl⟩, by rfl, ?_⟩ | refine ⟨_, _, rfl, ?_⟩ | refine And.intro (by rfl) ?_)
local macro_rules | `(tactic| walk_at "d") => `(tactic| repeat (first | walk_at "s" | walk_at "v"))
section
variable {P : Program} {w : World} {K : PySem.W.Frag} {mg : Str → Option Value} {base : Heap} {A : Ad}
def φWord : DSpec := fun ds Q => ds = [.bag] ∧ ∀ x, Sm 40 x → Q (.str x)
theorem r_addSm {j k : Nat} {s s' : Str} {δ : DSt} {Q : D → DSt → Prop} (h1 : Sm j s) (h2 : Sm k s') (e : j + k ≤ 1000000) (h : Q (.str (s ++ s')) δ) : fAddS (.str s) (.str s') δ Q := r_addS (szl (by have := h1.l; have := h2.l; omega)) h
def φNear : DSpec := fun ds Q => ds = [.bag] ∧ ∀ d, Bt 5 d → Q d
structure Nu (d : D) : Prop where
  nb : _root_.K.nb d = true
  sd : DL.sd d = true
  wt : DL.wt d ≤ 100
  dp : DL.dp d ≤ 1
instance (d : D) : Decidable (Nu d) := decidable_of_iff (nb d = true ∧ sd d = true ∧ wt d ≤ 100 ∧ dp d ≤ 1) ⟨fun ⟨a, b, c, e⟩ => ⟨a, b, c, e⟩, fun ⟨a, b, c, e⟩ => ⟨a, b, c, e⟩⟩
theorem res_wd : ∀ x ∈ reserved, Sm 9 x ∧ 1 ≤ x.length := by
  have h : ∀ x ∈ reserved, asc x = true ∧ x.length ≤ 9 ∧ 1 ≤ x.length := by decide +kernel
  exact fun x hx => ⟨⟨(h x hx).1, (h x hx).2.1⟩, (h x hx).2.2⟩
theorem sc_l_near_word : FnScope ["_law_bag_here", "_law_word", "_law_sign", "_law_at", "_law_some_here"] ["_law_bag_here"] (defScope s_l_near_word) := ⟨rfl, rfl, rfl, by decide +kernel, rfl, by decide +kernel, by decide +kernel⟩
theorem ok_l_near_word (T : Txt K mg A) (sy : Sys base) : FnG P w K mg base CX0 4 A.f_l_near_word A.d_l_near_word ["_law_bag_here"] (spD K φWord) := by
  have G_l_names := ok_l_names (P := P) (w := w) T sy
  have G_l_reserved := ok_l_reserved (P := P) (w := w) T sy
  have G_l_some := ok_l_some (P := P) (w := w) T sy
  have G_l_take := ok_l_take (P := P) (w := w) T sy
  have nd := sc_l_near_word.nd
  refine fn_D (k := 3) T.F_l_near_word sc_l_near_word (by rintro ds Q ⟨rfl, _⟩; rfl) (fun cdv B up z H E gd hr =>
    have hu := hr.units
    (dss_cons (ds_set (i := 1) nd rfl (Or.inl rfl) (de_call G_l_some gd (hr.mono (by decide)) rfl T.m_l_some T.F_l_some.kp T.b_l_some (da_cons (dv 0) (da_cons (de_op op_cat od_cat (de_call0 G_l_reserved gd (hr.mono (by decide)) rfl T.m_l_reserved T.F_l_reserved.kp T.b_l_reserved) (de_call G_l_names gd (hr.mono (by decide)) rfl T.m_l_names T.F_l_names.kp T.b_l_names (da_cons (dv 0) (da_cons de_int da_nil)))) da_nil)))) (dss_cons (ds_set (i := 2) nd rfl (Or.inl rfl) (de_call G_l_some gd (hr.mono (by decide)) rfl T.m_l_some T.F_l_some.kp T.b_l_some (da_cons (dv 0) (da_cons (de_lst (da_cons de_str (da_cons de_str (da_cons de_str (da_cons de_str (da_cons de_str (da_cons de_str (da_cons de_str (da_cons de_str (da_cons de_str (da_cons de_str (da_cons de_str da_nil)))))))))))) da_nil)))) (dss_cons (ds_set (i := 3) nd rfl (Or.inl rfl) (de_call G_l_take gd (hr.mono (by decide)) rfl T.m_l_take T.F_l_take.kp T.b_l_take (da_cons (dv 0) (da_cons (de_add (de_callB call_lenT cd_len rfl T.len PySem.boot_len (da_cons (dv 1) da_nil)) de_int) da_nil)))) (dss_cons (ds_set (i := 4) nd rfl (Or.inl rfl) (de_lst (da_cons (dv 1) (da_cons (dv 1) (da_cons (de_op op_add_str od_addS (dv 1) (dv 2)) (da_cons (de_op op_add_str od_addS (dv 2) (dv 1)) (da_cons (de_op op_add_str od_addS (de_op op_add_str od_addS (de_sl (dv 1) do_none (do_some (dv 3))) (dv 2)) (de_sl (dv 1) (do_some (dv 3)) do_none)) (da_cons (de_sl (dv 1) do_none (do_some (dv 3))) (da_cons (de_op op_add_str od_addS (de_sl (dv 1) do_none (do_some (dv 3))) (de_sl (dv 1) (do_some (de_add (dv 3) de_int)) do_none)) da_nil))))))))) (dss_cons (ds_ret (de_call G_l_some gd (hr.mono (by decide)) rfl T.m_l_some T.F_l_some.kp T.b_l_some (da_cons (dv 0) (da_cons (de_op op_cat od_cat (dv 4) (de_lst (da_cons (de_op op_repS od_repS (dv 1) de_int) (da_cons (de_upper (dv 1)) (da_cons (de_op op_add_str od_addS (dv 1) de_str) (da_cons (de_op op_add_str od_addS de_str (dv 1)) da_nil)))))) da_nil)))) dss_nil)))))) ?_
  rintro ds Q ⟨rfl, k⟩
  walk_at "d"
  refine fun ys hy1 hy2 => ?_
  walk_at "d"
  have lres : reserved.length = 32 := by decide +kernel
  refine r_cat (szl (by rw [List.length_map]; omega)) ?_
  walk_at "d"
  refine ⟨_, rfl, by simp [reserved], ?_, fun d hd => ?_⟩
  · rw [List.length_append, List.length_map]
    omega
  obtain ⟨x, rfl, sx, lx⟩ : ∃ x, d = D.str x ∧ Sm 9 x ∧ 1 ≤ x.length := by
    rcases List.mem_append.mp hd with hd | hd
    · obtain ⟨x, hx, rfl⟩ := List.mem_map.mp hd
      exact ⟨x, rfl, res_wd x hx⟩
    · obtain ⟨x, rfl, hx⟩ := hy1 d hd
      exact ⟨x, rfl, (wd_sm hx).1.mono (by decide), (wd_sm hx).2⟩
  have llx := sx.l
  walk_at "d"
  refine ⟨_, rfl, by simp, by simp, fun d hd => ?_⟩
  obtain ⟨g, rfl, sg⟩ : ∃ x, d = D.str x ∧ Sm 1 x := by
    simp only [List.mem_cons, List.not_mem_nil, or_false] at hd
    rcases hd with rfl | rfl | rfl | rfl | rfl | rfl | rfl | rfl | rfl | rfl | rfl <;> exact ⟨_, rfl, by decide +kernel, by decide +kernel⟩
  have lg := sg.l
  walk_at "d"
  refine r_len (lenSm sx (by decide)) ?_
  walk_at "d"
  refine ⟨_, rfl, by omega, by omega, fun r r0 r1 => ?_⟩
  walk_at "d"
  refine r_addSm sx sg (by decide) ?_
  walk_at "d"
  refine r_addSm sg sx (by decide) ?_
  walk_at "d"
  refine ⟨_, slS sx (by decide) _ _, ?_⟩
  walk_at "d"
  refine r_addSm (sx.cut _ _) sg (by decide) ?_
  walk_at "d"
  refine ⟨_, slS sx (by decide) _ _, ?_⟩
  walk_at "d"
  refine r_addSm ((sx.cut _ _).app sg) (sx.cut _ _) (by decide) ?_
  walk_at "d"
  refine ⟨_, slS sx (by decide) _ _, ?_⟩
  walk_at "d"
  refine ⟨_, slS sx (by decide) _ _, ?_⟩
  walk_at "d"
  refine ⟨_, slS sx (by decide) _ _, ?_⟩
  walk_at "d"
  refine r_addSm (sx.cut _ _) (sx.cut _ _) (by decide) ?_
  walk_at "d"
  refine r_repS (by decide) (by decide) (by omega) (by omega) ?_
  walk_at "d"
  refine ⟨by omega, ?_⟩
  walk_at "d"
  have se : ∀ {c : Str}, asc c = true ∧ c.length ≤ 1 → Sm 1 c := fun h => ⟨h.1, h.2⟩
  refine r_addSm sx (se (by decide +kernel)) (by decide) ?_
  walk_at "d"
  refine r_addSm (se (by decide +kernel)) sx (by decide) ?_
  walk_at "d"
  refine r_cat (szl (by simp)) ?_
  walk_at "d"
  refine ⟨_, rfl, by simp, by simp, fun d' hd' => ?_⟩
  obtain ⟨y, rfl, hy⟩ : ∃ y, d' = D.str y ∧ Sm 40 y := by
    revert d'
    simp only [List.forall_mem_append, List.forall_mem_cons]
    repeat' apply And.intro
    all_goals first
      | (intro _ h; cases h; done)
      | exact ⟨_, rfl, sx.mono (by decide)⟩
      | exact ⟨_, rfl, (sx.app sg).mono (by decide)⟩
      | exact ⟨_, rfl, (sg.app sx).mono (by decide)⟩
      | exact ⟨_, rfl, (((sx.cut _ _).app sg).app (sx.cut _ _)).mono (by decide)⟩
      | exact ⟨_, rfl, (sx.cut _ _).mono (by decide)⟩
      | exact ⟨_, rfl, ((sx.cut _ _).app (sx.cut _ _)).mono (by decide)⟩
      | exact ⟨_, rfl, sx.rep.mono (by decide)⟩
      | exact ⟨_, rfl, sx.upper.mono (by decide)⟩
      | exact ⟨_, rfl, (sx.app (se (by decide +kernel))).mono (by decide)⟩
      | exact ⟨_, rfl, ((se (by decide +kernel)).app sx).mono (by decide)⟩
  exact k y hy
theorem sc_l_near_value : FnScope ["_law_bag_here", "_law_number", "_law_some_here"] ["_law_bag_here"] (defScope s_l_near_value) := ⟨rfl, rfl, rfl, by decide +kernel, rfl, by decide +kernel, by decide +kernel⟩
theorem ok_l_near_value (T : Txt K mg A) (sy : Sys base) : FnG P w K mg base CX0 3 A.f_l_near_value A.d_l_near_value ["_law_bag_here"] (spD K φNear) := by
  have G_l_some := ok_l_some (P := P) (w := w) T sy
  have nd := sc_l_near_value.nd
  refine fn_D (k := 2) T.F_l_near_value sc_l_near_value (by rintro ds Q ⟨rfl, _⟩; rfl) (fun cdv B up z H E gd hr =>
    have hu := hr.units
    (dss_cons (ds_set (i := 1) nd rfl (Or.inl rfl) (de_call G_l_some gd (hr.mono (by decide)) rfl T.m_l_some T.F_l_some.kp T.b_l_some (da_cons (dv 0) (da_cons (de_lst (da_cons de_int (da_cons de_int (da_cons de_int (da_cons de_int (da_cons (de_pow de_int de_int) (da_cons (de_neg de_int) (da_cons (de_neg (de_pow de_int de_int)) (da_cons de_bl (da_cons de_bl (da_cons de_str (da_cons de_non (da_cons (de_tup (da_cons de_int da_nil)) da_nil))))))))))))) da_nil)))) (dss_cons (ds_set (i := 2) nd rfl (Or.inl rfl) (de_lst (da_cons (de_tup (da_cons de_str (da_cons (dv 1) da_nil))) (da_cons (de_tup (da_cons de_str (da_cons (dv 1) da_nil))) (da_cons (de_tup (da_cons de_str (da_cons (dv 1) da_nil))) (da_cons (dv 1) (da_cons (de_lst (da_cons de_str (da_cons (dv 1) da_nil))) (da_cons (de_tup (da_cons de_str (da_cons (dv 1) (da_cons de_int da_nil)))) (da_cons (de_tup (da_cons de_str da_nil)) da_nil))))))))) (dss_cons (ds_set (i := 2) nd rfl (Or.inl rfl) (de_op op_cat od_cat (dv 2) (de_lst (da_cons (de_tup (da_cons (dv 1) da_nil)) (da_cons (de_tup (da_cons de_str (da_cons (dv 1) da_nil))) (da_cons (de_tup (da_cons (dv 1) (da_cons de_str da_nil))) (da_cons (de_tup (da_cons de_str (da_cons (dv 1) da_nil))) (da_cons (de_tup (da_cons (de_tup (da_cons de_str (da_cons (dv 1) da_nil))) da_nil)) (da_cons (de_dict1 (kk := .inr ("at")) pe_str (dv 1)) da_nil))))))))) (dss_cons (ds_ret (de_call G_l_some gd (hr.mono (by decide)) rfl T.m_l_some T.F_l_some.kp T.b_l_some (da_cons (dv 0) (da_cons (dv 2) da_nil)))) dss_nil))))) ?_
  rintro ds Q ⟨rfl, k⟩
  walk_at "d"
  refine ⟨_, rfl, by simp, by simp, fun d hd => ?_⟩
  have nu : Nu d := by
    revert d
    simp only [List.forall_mem_append, List.forall_mem_cons]
    repeat' apply And.intro
    all_goals first
      | decide +kernel
      | (intro _ h; cases h)
  walk_at "d"
  refine r_cat (szl (by simp)) ?_
  walk_at "d"
  refine ⟨_, rfl, by simp, by simp, fun d' hd' => k d' ?_⟩
  obtain ⟨n1, n2, n3, n4⟩ := nu
  have b1 : sd (.str "at") = true ∧ nb (.str "at") = true ∧ wt (.str "at") = 22 := by decide +kernel
  have b2 : sd (.str "At") = true ∧ nb (.str "At") = true ∧ wt (.str "At") = 22 := by decide +kernel
  have b3 : sd (.str "on") = true ∧ nb (.str "on") = true ∧ wt (.str "on") = 22 := by decide +kernel
  have b4 : sd (.int 0) = true ∧ nb (.int 0) = true ∧ wt (.int 0) = 1 := by decide +kernel
  have b5 : asc "at" = true ∧ ("at" : Str).length = 2 := by decide +kernel
  have t1 : nb (.tup [.str "at", d]) = true := by show nbAll _ = true; simp only [nbAll, n1, b1.2.1, Bool.and_true, Bool.and_self]
  have t2 : sd (.tup [.str "at", d]) = true := by show sdAll _ = true; simp only [sdAll, n2, b1.1, Bool.and_true, Bool.and_self]
  have t3 : wt (.tup [.str "at", d]) ≤ 200 := by show 3 + wtAll _ ≤ 200; simp only [wtAll, b1.2.2]; omega
  have t4 : dp (.tup [.str "at", d]) ≤ 2 := by show dpAll _ + 1 ≤ 2; simp only [dpAll, dp]; omega
  revert d'
  simp only [List.forall_mem_append, List.forall_mem_cons]
  repeat' apply And.intro
  all_goals first
    | (intro _ h; cases h; done)
    | exact ⟨n1, n2, by omega, by omega⟩
    | (refine ⟨?_, ?_, ?_, ?_⟩
       · first
           | rfl
           | (show nbAll _ = true; simp only [nbAll, n1, t1, b1.2.1, b2.2.1, b3.2.1, b4.2.1, Bool.and_true, Bool.and_self]; done)
       · first
           | (show sdAll _ = true; simp only [sdAll, n2, t2, b1.1, b2.1, b3.1, b4.1, Bool.and_true, Bool.and_self]; done)
           | (show sdKv _ = true; simp only [sdKv, n2, b5.1, Bool.and_true, Bool.and_self]; done)
       · first
           | (show dpAll _ + 1 < 5; simp only [dpAll]; have e1 : dp (.str "at") = 0 := rfl; have e2 : dp (.str "At") = 0 := rfl; have e3 : dp (.str "on") = 0 := rfl; have e4 : dp (.int 0) = 0 := rfl; omega)
           | (show dpKv _ + 1 < 5; simp only [dpKv]; omega)
       · first
           | (show 3 + wtAll _ ≤ 100000; simp only [wtAll, b1.2.2, b2.2.2, b3.2.2, b4.2.2]; omega)
           | (show 3 + wtKv _ ≤ 100000; simp only [wtKv, b5.2]; omega))
end
end K
namespace K
open PySem PySem.Spec PyProof.Rows L2 DL
local macro_rules | `(tactic| walk_at "s") => `(tactic| with_reducible first
  | refine r_seq ?_ | refine r_skip ?_ | refine r_set ?_ | refine r_own ?_ | refine r_do ?_ | refine r_ret ?_ | refine r_retN ?_ | refine r_if ?_ | refine r_par ?_ | refine r_parN ?_
  | refine r_test ?_ | refine r_bl ?_ | refine r_blV ?_ | refine r_and ?_ | refine r_or ?_ | refine r_not ?_ | refine r_ifE ?_ | refine r_andV ?_ | refine r_orV ?_ | refine r_notV ?_
  | refine r_iteT ?_ | refine r_iteF ?_
  | refine r_c ?_ | refine r_op ?_ | refine r_isN ?_ | refine r_notN ?_ | refine r_isB ?_ | refine r_notB ?_ | refine r_neg ?_ | refine r_negB ?_ | refine r_intX ?_ | refine r_strX ?_
  | refine r_chain ?_ | refine r_cb ?_ | refine r_int ?_ | refine r_intB ?_ | refine r_nil ?_ | refine r_cons ?_ | refine r_tup ?_ | refine r_lst ?_ | refine r_new ?_ | refine r_fr ?_ | refine r_items ?_ | refine r_call ?_
  | refine r_is ?_ | refine r_is2 ?_ | refine r_sl ?_ | refine r_noPart ?_ | refine r_part ?_ | refine r_split ?_ | refine r_upper ?_ | refine r_dict1 ?_ | refine r_bagSet ?_ | refine r_leS ?_ | refine r_inS ?_ | refine r_yes ?_ | refine r_forL ?_ | refine r_forT ?_ | refine r_forR ?_ | refine r_lc ?_ | refine r_setIx ?_)
local macro_rules | `(tactic| walk_at "v") => `(tactic| first
  | refine r_var (by rfl) ?_ | refine r_varO (by rfl) ?_ | refine r_p2 (by rfl) ?_ | refine r_eqC (by rfl) ?_ | refine r_neC (by rfl) ?_ | refine r_isX (by rfl) ?_ | refine r_len (by rfl) ?_ | refine r_lenO (by rfl) ?_ | refine r_tupOf (by rfl) ?_
  | refine r_bagIx (by rfl) (fun n => ?_) | refine r_bagCut (by rfl) ?_ | refine r_ixO (by rfl) ?_ | refine r_app (by rfl) ?_ | refine r_ins (by rfl) ?_ | refine r_popAt (by rfl) ?_ | refine r_addB (by rfl) ?_
  | refine r_iteY (by rfl) ?_ | refine r_iteZ (by rfl) ?_ | refine r_ic (by decide) ?_ | refine r_ic (by omega) ?_ | refine r_ic (Or.inr ⟨by decide, by decide⟩) ?_ | refine r_ic (Or.inl ⟨by decide, by decide⟩) ?_ | refine r_ic ⟨by decide, by decide⟩ ?_ | refine r_addS (by decide) ?_ | refine r_rep (by decide) (by decide) (by decide) ?_
  | (refine And.intro (szl ?_) ?_; focus (simp; done)) | refine ⟨⟨_, rfl⟩, by rfl, ?_⟩ | refine ⟨_, _, rfl, ?_⟩ | refine And.intro (by rfl) ?_)
local macro_rules | `(tactic| walk_at "d") => `(tactic| repeat (first | walk_at "s" | walk_at "v"))
section
variable {P : Program} {w : World} {K : PySem.W.Frag} {mg : Str → Option Value} {base : Heap} {A : Ad}
abbrev s_hinit : Stmt := inClass (top 13) 0
/-- the bag of draws -/
def spBag (K : PySem.W.Frag) : Sp := fun vs H Q _ => ∃ (a : Addr) (ns : List Int), vs = [.ref a] ∧ SqL K H a (ns.map V.int) ∧ ns.length ≤ 63 ∧
  ∀ b l H', Bag b l H' → l ≠ b → H b = none → H l = none → (∀ x o, H x = some o → H' x = some o) → Q (.ref b) H'
theorem sc_l_bag : FnScope ["_law_script", "_law_cell"] ["_law_script"] (defScope s_l_bag) := ⟨rfl, rfl, rfl, by decide +kernel, rfl, by decide +kernel, by decide +kernel⟩
def absI (i : Int) : Int := if i < 0 then -i else i
theorem ok_l_bag (T : Txt K mg A) : FnG P w K mg base CX0 1 A.f_l_bag A.d_l_bag ["_law_script"] (spBag K) := by
  have nd := sc_l_bag.nd
  refine FnG.plain (Fun.ok (k := 0) T.F_l_bag sc_l_bag (by rintro vs H Q E ⟨a, ns, rfl, _⟩; rfl) fun cdv B up z H vs Q E hr hq => ⟨_,
    pss_cons (ps_ret (pe_lst (pa_cons pe_int (pa_cons pe_int (pa_cons pe_int (pa_cons
      (pe_lc (own := [("_law_cell", 1)]) rfl nd (pi_list (pe_slice sl_list (pv 0) po_none (po_some pe_int))) (blkOk_by (N := ["_law_script", "_law_cell"]) (sc := defScope s_l_bag) (by decide +kernel))
        (fun _ _ _ _ _ => pg_name (i := 1) nd rfl (Or.inl rfl)) (fun _ _ _ _ _ => pts_nil) (fun _ _ _ _ _ => pe_callB call_abs rfl T.abs PyProof.Rows.boot_abs (pa_cons (pv 1) pa_nil)))
      pa_nil)))))) pss_nil, ?_⟩)
  obtain ⟨a, ns, rfl, hS, hl, k⟩ := hq
  obtain ⟨ms, hms, hml⟩ : ∃ ms : List Int, cutV (ns.map V.int) none (some 63) = ms.map V.int ∧ ms.length ≤ 63 := by
    refine ⟨(ns.drop (HT.sIx (ns.map V.int).length 0 none)).take (HT.sIx (ns.map V.int).length (ns.map V.int).length (some 63) - HT.sIx (ns.map V.int).length 0 none), ?_, ?_⟩
    · unfold cutV
      rw [List.map_take, List.map_drop]
    · rw [List.length_take, List.length_drop]
      omega
  refine ⟨_, rfl, 63, rfl, a, _, rfl, hS, fun p hp => ?_⟩
  rw [hms]
  have np : ∀ b o, H b = some o → upd H p (.lst (ms.map V.int)) b = some o := ex_new hp
  refine ⟨p, rfl, ⟨_, Or.inl (Or.inl upd_same)⟩, fun D hD => ?_⟩
  have nD : D ≠ p := fun e => by rw [e, upd_same] at hD; cases hD
  have hD0 : H D = none := by rw [upd_ne nD] at hD; exact hD
  refine lc_list (xs := ms.map V.int) (fun i H' => ∃ cs : List Int, H' D = some (.lst (cs.map V.int)) ∧ cs.length = i ∧ H' p = some (.lst (ms.map V.int)) ∧ ∀ b o, H b = some o → H' b = some o) ⟨[], upd_same, rfl, ?_, ?_⟩ ?_ ?_ ?_
  · rw [upd_ne nD.symm, upd_same]
  · intro b o e
    rw [upd_ne (ne_of_none e hD0)]
    exact np b o e
  · rintro i H' _ ⟨cs, _, _, h3, _⟩
    exact Or.inl (Or.inl h3)
  · rintro i x H' hx ⟨cs, h1, h2, h3, h4⟩
    obtain ⟨m, rfl⟩ : ∃ m, x = V.int m := by
      rw [List.getElem?_map] at hx
      cases e : ms[i]? with
      | none => rw [e] at hx; cases hx
      | some m => rw [e] at hx; exact ⟨m, (Option.some.inj hx).symm⟩
    have hi : i < 63 := by
      have := (List.getElem?_eq_some_iff.mp hx).1
      rw [List.length_map] at this
      omega
    refine ⟨by simp [wipe, gName, L2.start], _, rfl, m, rfl, _, h1, ?_, cs ++ [absI m], ?_, ?_, ?_, ?_⟩
    · rw [List.length_map]
      exact szlt (by omega)
    · rw [upd_same, List.map_append]
      rfl
    · rw [List.length_append, h2]
      rfl
    · rw [upd_ne nD.symm]
      exact h3
    · intro b o e
      rw [upd_ne (ne_of_none e hD0)]
      exact h4 b o e
  · rintro H' ⟨cs, h1, h2, h3, h4⟩
    refine ⟨(show 4 ≤ sizeLine by decide), fun q hq => ?_⟩
    have hq0 : H q = none := by
      cases e : H q with
      | none => rfl
      | some o => rw [h4 q o e] at hq; cases hq
    have nq : q ≠ D := fun e => by rw [e, h1] at hq; cases hq
    refine k q D _ ⟨0, 1234567891, 0, cs, upd_same, ?_, ?_⟩ nq.symm hq0 hD0 fun x o e => ?_
    · rw [upd_ne nq.symm]
      exact h1
    · rw [h2, List.length_map]
      omega
    · rw [upd_ne (ne_of_none e hq0)]
      exact h4 x o e
/-- what is to be known of Heap() -/
structure HeapMk (K : PySem.W.Frag) (mg : Str → Option Value) (A : Ad) (f : Addr) (fd : FuncData) : Prop where
  F : Fun K "__init__" "Heap.__init__" s_hinit f fd
  b : Binds K fd ["self"] []
  M : Mk K A.cHeap f
  cl : Cls K A.cHeap
  n1 : NoAttr K A.cHeap "_cells"
  n2 : NoAttr K A.cHeap "_made"
  mH : mg "Heap" = some (.ref A.cHeap)
def spHeap (C : Addr) : Sp := fun vs H Q _ => ∃ (p dx : Addr), vs = [.ref p] ∧ H p = some (.ins C dx []) ∧ ∀ H' fs, H' p = some (.ins C dx fs) → (∀ b o, b ≠ p → H b = some o → H' b = some o) → Q .non H'
theorem ok_hinit {f : Addr} {fd : FuncData} (h : HeapMk K mg A f fd) : FnOk P w K mg base CX0 1 f fd ["self"] (spHeap A.cHeap) := by
  have S : FnScope ["self"] ["self"] (defScope s_hinit) := ⟨rfl, rfl, rfl, by decide +kernel, rfl, by decide +kernel, by decide +kernel⟩
  have nd := S.nd
  refine Fun.ok (k := 0) h.F S (by rintro vs H Q E ⟨p, dx, rfl, _⟩; rfl) fun cdv B up z H vs Q E hr hq => ⟨_,
    pss_cons (ps_fld (pv 0) pe_dnewK rfl) (pss_one (ps_fld (pv 0) pe_int rfl)), ?_⟩
  obtain ⟨p, dx, rfl, hp, k⟩ := hq
  intro l hl
  have npl : p ≠ l := ne_of_none hp hl
  refine ⟨_, rfl, p, A.cHeap, dx, [], rfl, (by rw [upd_ne npl]; exact hp), h.cl, h.n1, (by show 0 < 1000; decide), _, rfl, p, A.cHeap, dx, _, rfl, upd_same, h.cl, h.n2, (by show 1 < 1000; decide), ?_⟩
  exact k _ _ upd_same (fun b o nb e => by rw [upd_ne nb, upd_ne nb, upd_ne (ne_of_none e hl)]; exact e)
theorem _root_.DL.de_make0 {X : Cx} {k : Nat} {C f : Addr} {fd : FuncData} {x : Str} {p pos : Pos} (M : Mk X.K C f) (F : FnOk X.prog X.w X.K X.mg X.base CX0 k f fd ["self"] (spHeap C)) (hr : Room (k + 1) X.A) (hg : Gl X x) (hm : X.mg x = some (.ref C)) (hb : Binds X.K fd ["self"] [])
    (hdb : (x == ("__debug__" : Str)) = false := by decide) : PE X (.Call (.Name x p) [] [] pos) (rd X.K (dC (.obj C))) := PE.to (pe_make0 (E := E0) M F hr hg hm hb .nil pass0 hdb) (by
  rintro σ H Q ⟨M, δ, QD, I, h, k⟩
  intro x dx nx ndx nex
  refine ⟨x, dx, rfl, upd_same, fun H' fs e kp => ⟨rfl, ?_⟩⟩
  obtain ⟨f1, f2, _⟩ := I.free nx
  obtain ⟨I', w'⟩ := I.ext (H' := H') fun b o eb => kp b o (ne_of_none eb nx) (by
    rw [upd_ne (ne_of_none eb nx), upd_ne (ne_of_none eb ndx)]
    exact eb)
  exact k (.ref x) H' (.obj C) δ I' w' ⟨x, dx, fs, rfl, e, f1, f2⟩ h)
end
end K
namespace K
open PySem PySem.Spec PyProof.Rows L2 DL
local macro_rules | `(tactic| walk_at "s") => `(tactic| with_reducible first
  | refine r_seq ?_ | refine r_skip ?_ | refine r_set ?_ | refine r_own ?_ | refine r_do ?_ | refine r_ret ?_ | refine r_retN ?_ | refine r_if ?_ | refine r_par ?_ | refine r_parN ?_
  | refine r_test ?_ | refine r_bl ?_ | refine r_blV ?_ | refine r_and ?_ | refine r_or ?_ | refine r_not ?_ | refine r_ifE ?_ | refine r_andV ?_ | refine r_orV ?_ | refine r_notV ?_
  | refine r_iteT ?_ | refine r_iteF ?_
  | refine r_c ?_ | refine r_op ?_ | refine r_isN ?_ | refine r_notN ?_ | refine r_isB ?_ | refine r_notB ?_ | refine r_neg ?_ | refine r_negB ?_ | refine r_intX ?_ | refine r_strX ?_
  | refine r_chain ?_ | refine r_cb ?_ | refine r_int ?_ | refine r_intB ?_ | refine r_nil ?_ | refine r_cons ?_ | refine r_tup ?_ | refine r_lst ?_ | refine r_new ?_ | refine r_fr ?_ | refine r_items ?_ | refine r_call ?_
  | refine r_is ?_ | refine r_is2 ?_ | refine r_sl ?_ | refine r_noPart ?_ | refine r_part ?_ | refine r_split ?_ | refine r_upper ?_ | refine r_dict1 ?_ | refine r_bagSet ?_ | refine r_leS ?_ | refine r_inS ?_ | refine r_yes ?_ | refine r_forL ?_ | refine r_forT ?_ | refine r_forR ?_ | refine r_lc ?_ | refine r_setIx ?_)
local macro_rules | `(tactic| walk_at "v") => `(tactic| first
  | refine r_var (by rfl) ?_ | refine r_varO (by rfl) ?_ | refine r_p2 (by rfl) ?_ | refine r_eqC (by rfl) ?_ | refine r_neC (by rfl) ?_ | refine r_isX (by rfl) ?_ | refine r_len (by rfl) ?_ | refine r_lenO (by rfl) ?_ | refine r_tupOf (by rfl) ?_
  | refine r_bagIx (by rfl) (fun n => ?_) | refine r_bagCut (by rfl) ?_ | refine r_ixO (by rfl) ?_ | refine r_app (by rfl) ?_ | refine r_ins (by rfl) ?_ | refine r_popAt (by rfl) ?_ | refine r_addB (by rfl) ?_
  | refine r_iteY (by rfl) ?_ | refine r_iteZ (by rfl) ?_ | refine r_ic (by decide) ?_ | refine r_ic (by omega) ?_ | refine r_ic (Or.inr ⟨by decide, by decide⟩) ?_ | refine r_ic (Or.inl ⟨by decide, by decide⟩) ?_ | refine r_ic ⟨by decide, by decide⟩ ?_ | refine r_addS (by decide) ?_ | refine r_rep (by decide) (by decide) (by decide) ?_
  | (refine And.intro (szl ?_) ?_; focus (simp; done)) | refine ⟨⟨_, rfl⟩, by rfl, ?_⟩ | refine ⟨_, _, rfl, ?_⟩ | refine And.intro (by rfl) ?_)
local macro_rules | `(tactic| walk_at "d") => `(tactic| repeat (first | walk_at "s" | walk_at "v"))
section
variable {P : Program} {w : World} {K : PySem.W.Frag} {mg : Str → Option Value} {base : Heap} {A : Ad}
theorem Good.ok0 {C : Addr} {d : D} (s : sd d = true) (h : wt d ≤ 900000) : ok0 C d := by
  cases d with
  | bag => cases s
  | obj _ => cases s
  | str x =>
    have h' : 10 * x.length + 2 ≤ 900000 := h
    refine ⟨by omega, ?_⟩
    show x.cps.all (fun c => decide (c < 0x110000)) = true
    rw [← Array.all_toList, List.all_eq_true]
    intro c hc
    have := asc_mem.mp s c hc
    exact decide_eq_true (Nat.lt_trans this (by decide))
  | _ => trivial
theorem Good.ok1 {C : Addr} {d : D} (h : Good d) : ok1 C d := by
  refine ⟨Good.ok0 h.sd h.wt, ?_⟩
  rintro xs rfl x hx
  have h1 : sdAll xs = true := h.sd
  have h2 : 3 + wtAll xs ≤ 900000 := h.wt
  have h3 := wtAll_mem hx
  exact Good.ok0 ((sdAll_iff xs).mp h1 x hx) (by omega)
theorem Bt.good {n : Nat} {d : D} (h : Bt n d) (hn : n ≤ 30) : Good d := ⟨h.sd, by have := h.wt; omega, by have := h.dp; omega⟩
theorem OddD.good {d : D} (h : OddD d) : Good d := ⟨h.sd, by have := h.wt; omega, by have := h.dp; omega⟩
theorem BentD.good {n : Nat} {x d : D} (g : Bt n x) (hn : n ≤ 15) (h : BentD x d) : Good d := ⟨h.sd, by have := h.wt; have := g.wt; omega, by have := h.dp; have := g.dp; omega⟩
theorem three (a b c : Bool) : plainD (.lst [.bl a, .bl b, .bl c]) ∧ Shows (.lst [.bl a, .bl b, .bl c]) :=
  ⟨⟨rfl, rfl⟩, Good.shows (d := .lst [.bl a, .bl b, .bl c]) ⟨rfl, (show 3 + (5 + 2 + (5 + 2 + (5 + 2 + 0))) ≤ 900000 by decide), (show max 0 (max 0 (max 0 0)) + 1 ≤ 40 by decide)⟩⟩
theorem res_no {x : Str} (h : x ∈ reserved) : isNameD (.str x) = false ∧ isValD (.str x) = false := by
  have e : isNameD (.str x) = false := by
    show nameS x = false
    unfold nameS
    rw [decide_eq_true h]
    simp
  exact ⟨e, by simp [isValD, isN, isIntD, isAtD, e]⟩
def spLaw (K : PySem.W.Frag) : Sp := fun vs H Q _ => ∃ (a : Addr) (ns : List Int), vs = [.ref a] ∧ SqL K H a (ns.map V.int) ∧ ns.length ≤ 63 ∧ ∀ H', Q (.bl true) H'
theorem sc_law : FnScope ["_law_script", "_law_bag_here", "_law_turn", "_law_words", "_law_heap", "_law_thing", "_law_shown", "_law_found", "_law_due", "_law_word"] ["_law_script"] (defScope s_law) := ⟨rfl, rfl, rfl, by decide +kernel, rfl, by decide +kernel, by decide +kernel⟩
theorem ok_law (T : Txt K mg A) (sy : Sys base) (O : TxtO K A) {fe fi : Addr} {de di : FuncData} (HE : HeapEq K mg A fe de) (MK : HeapMk K mg A fi di) : FnG P w K mg base CX0 13 A.f_law A.d_law ["_law_script"] (spLaw K) := by
  have G_l_alike := ok_l_alike (P := P) (w := w) T sy
  have G_l_bent := ok_l_bent (P := P) (w := w) T sy 5
  have G_l_is_integer := ok_l_is_integer (P := P) (w := w) T sy O
  have G_l_is_name := ok_l_is_name (P := P) (w := w) T sy O
  have G_l_is_value := ok_l_is_value (P := P) (w := w) T sy O HE
  have G_l_near_value := ok_l_near_value (P := P) (w := w) T sy
  have G_l_near_word := ok_l_near_word (P := P) (w := w) T sy
  have G_l_odd := ok_l_odd (P := P) (w := w) T sy
  have G_l_reserved := ok_l_reserved (P := P) (w := w) T sy
  have G_is_integer := ok_is_integer (P := P) (w := w) T sy O
  have G_is_name := ok_is_name (P := P) (w := w) T sy O
  have G_is_value := ok_is_value (P := P) (w := w) T sy O HE
  have G_l_bag := ok_l_bag (P := P) (w := w) (base := base) T
  have G_init := ok_hinit (P := P) (w := w) (base := base) MK
  have nd := sc_law.nd
  refine fn_ofG T.F_law sc_law (by rintro vs H Q E ⟨a, ns, rfl, _⟩; rfl) fun cdv B up z H vs Q E gd hr hq => ⟨_, PSs.nox (
    have hu := hr.units
    pss_cons (ps_set (i := 1) nd rfl (Or.inl rfl) (pe_callG G_l_bag gd (hr.mono (by decide)) rfl T.m_l_bag T.F_l_bag.kp T.b_l_bag .nil pass0 (pa_cons (pv 0) pa_nil))) (dss_cons (ds_forR PassesOwn.never rfl rfl T.range (da_cons de_int da_nil) nd (j := 2) rfl (Or.inl rfl) (dss_cons (ds_forT PassesOwn.never rfl (de_tup (da_cons (de_call G_l_near_word gd (hr.mono (by decide)) rfl T.m_l_near_word T.F_l_near_word.kp T.b_l_near_word (da_cons (dv 1) da_nil)) (da_cons (de_call G_l_near_value gd (hr.mono (by decide)) rfl T.m_l_near_value T.F_l_near_value.kp T.b_l_near_value (da_cons (dv 1) da_nil)) (da_cons (de_call G_l_odd gd (hr.mono (by decide)) rfl T.m_l_odd T.F_l_odd.kp T.b_l_odd (da_cons (dv 1) da_nil)) (da_cons (de_call G_l_bent gd (hr.mono (by decide)) rfl T.m_l_bent T.F_l_bent.kp T.b_l_bent (da_cons (dv 1) (da_cons (de_call G_l_near_value gd (hr.mono (by decide)) rfl T.m_l_near_value T.F_l_near_value.kp T.b_l_near_value (da_cons (dv 1) da_nil)) da_nil))) da_nil))))) nd (j := 5) rfl (Or.inl rfl) (dss_cons (ds_set (i := 6) nd rfl (Or.inl rfl) (de_callB (call_reprD gd hu sy) cd_repr rfl T.repr boot_repr (da_cons (dv 5) da_nil))) (dss_cons (ds_set (i := 7) nd rfl (Or.inl rfl) (de_lst (da_cons (de_call G_is_integer gd (hr.mono (by decide)) rfl T.m_is_integer T.F_is_integer.kp T.b_is_integer (da_cons (dv 5) da_nil)) (da_cons (de_call G_is_name gd (hr.mono (by decide)) rfl T.m_is_name T.F_is_name.kp T.b_is_name (da_cons (dv 5) da_nil)) (da_cons (de_call G_is_value gd (hr.mono (by decide)) rfl T.m_is_value T.F_is_value.kp T.b_is_value (da_cons (dv 5) da_nil)) da_nil))))) (dss_cons (ds_set (i := 8) nd rfl (Or.inl rfl) (de_lst (da_cons (de_call G_l_is_integer gd (hr.mono (by decide)) rfl T.m_l_is_integer T.F_l_is_integer.kp T.b_l_is_integer (da_cons (dv 5) da_nil)) (da_cons (de_call G_l_is_name gd (hr.mono (by decide)) rfl T.m_l_is_name T.F_l_is_name.kp T.b_l_is_name (da_cons (dv 5) da_nil)) (da_cons (de_call G_l_is_value gd (hr.mono (by decide)) rfl T.m_l_is_value T.F_l_is_value.kp T.b_l_is_value (da_cons (dv 5) da_nil)) da_nil))))) (dss_cons (ds_if (PW.pt (dw_or (dt_not (dt_val (de_call G_l_alike gd (hr.mono (by decide)) rfl T.m_l_alike T.F_l_alike.kp T.b_l_alike (da_cons (dv 7) (da_cons (dv 8) da_nil))))) (dw_or1 (dt_cmp op_ne od_neC (nomark _) (de_callB (call_reprD gd hu sy) cd_repr rfl T.repr boot_repr (da_cons (dv 5) da_nil)) (dv 6))))) (dss_cons (ds_ret de_bl) dss_nil) dss_nil) dss_nil))))) dss_nil)) (dss_cons (ds_set (i := 3) nd rfl (Or.inl rfl) (de_call0 G_l_reserved gd (hr.mono (by decide)) rfl T.m_l_reserved T.F_l_reserved.kp T.b_l_reserved)) (dss_cons (ds_if (dt_cmp (op_neT hu sy) od_ne (nomark _) (de_fr (dn_lc .l rfl nd (dv 3) (blkOk_by (N := ["_law_script", "_law_bag_here", "_law_turn", "_law_words", "_law_heap", "_law_thing", "_law_shown", "_law_found", "_law_due", "_law_word"]) (sc := defScope s_law) (by decide +kernel)) (fun _ _ _ _ _ => pg_name (i := 9) nd rfl (Or.inl rfl)) (fun _ _ _ _ _ => (pts_one (PW.pt (dw_or (dt_cmp op_notBl od_notB (nomark _) (de_call G_is_name gd (hr.mono (by decide)) rfl T.m_is_name T.F_is_name.kp T.b_is_name (da_cons (dv 9) da_nil)) de_bl) (dw_or1 (dt_cmp op_notBl od_notB (nomark _) (de_call G_is_value gd (hr.mono (by decide)) rfl T.m_is_value T.F_is_value.kp T.b_is_value (da_cons (dv 9) da_nil)) de_bl)))))) (fun _ _ _ _ _ => (dv 9)))) (de_lst da_nil)) (dss_cons (ds_ret de_bl) dss_nil) dss_nil) (dss_cons (ds_set (i := 4) nd rfl (Or.inl rfl) (de_make0 MK.M G_init (hr.mono (by decide)) rfl MK.mH MK.b)) (dss_cons (ds_forT PassesOwn.never rfl (de_tup (da_cons (dv 4) (da_cons (de_lst (da_cons (dv 4) da_nil)) (da_cons (de_tup (da_cons de_str (da_cons (dv 4) da_nil))) (da_cons (de_tup (da_cons (dv 4) (da_cons de_int da_nil))) da_nil))))) nd (j := 5) rfl (Or.inl rfl) (dss_cons (ds_if (dt_not (dt_val (de_call G_l_alike gd (hr.mono (by decide)) rfl T.m_l_alike T.F_l_alike.kp T.b_l_alike (da_cons (de_lst (da_cons (de_call G_is_integer gd (hr.mono (by decide)) rfl T.m_is_integer T.F_is_integer.kp T.b_is_integer (da_cons (dv 5) da_nil)) (da_cons (de_call G_is_name gd (hr.mono (by decide)) rfl T.m_is_name T.F_is_name.kp T.b_is_name (da_cons (dv 5) da_nil)) (da_cons (de_call G_is_value gd (hr.mono (by decide)) rfl T.m_is_value T.F_is_value.kp T.b_is_value (da_cons (dv 5) da_nil)) da_nil)))) (da_cons (de_op op_rep od_rep (de_lst (da_cons de_bl da_nil)) de_int) da_nil))))) (dss_cons (ds_ret de_bl) dss_nil) dss_nil) dss_nil)) (dss_cons (ds_ret (de_and (de_cmp op_isBl od_isB (nomark _) (de_call G_is_value gd (hr.mono (by decide)) rfl T.m_is_value T.F_is_value.kp T.b_is_value (da_cons de_non da_nil)) de_bl) (de_and (de_cmp op_isBl od_isB (nomark _) (de_call G_is_integer gd (hr.mono (by decide)) rfl T.m_is_integer T.F_is_integer.kp T.b_is_integer (da_cons de_non da_nil)) de_bl) (de_one (de_cmp op_isBl od_isB (nomark _) (de_call G_is_name gd (hr.mono (by decide)) rfl T.m_is_name T.F_is_name.kp T.b_is_name (da_cons de_non da_nil)) de_bl))))) dss_nil))))))), ?_⟩
  obtain ⟨a, ns, rfl, hS, hl, k⟩ := hq
  refine ⟨_, rfl, a, ns, rfl, hS, hl, fun b l H' bag lb hb hl' kp => ?_⟩
  refine ⟨⟨b, l, fun x => x = b ∨ x = l, fun _ => none⟩, [none, some (.dat .bag), none, none, none, none, none, none, none, none], { nx := fun _ => False, rt := fun d => d = .bl true }, ⟨rfl, bag, Or.inl rfl, Or.inr rfl, lb, ?_, fun _ _ _ e => (by cases e), ?_, ?_, ?_⟩, ?_, ⟨fun _ _ _ _ _ q => q.elim, fun _ _ _ _ _ q => q.elim, fun _ _ _ _ _ q => q.elim, ?_⟩⟩
  · obtain ⟨_, _, _, _, e1, e2, _⟩ := bag
    rintro x (rfl | rfl) e
    · rw [e1] at e
      cases e
    · rw [e2] at e
      cases e
  · intro i d h
    rcases i with _ | _ | _ | _ | _ | _ | _ | _ | _ | _ | i <;> first
      | (cases h; exact ⟨_, rfl, rfl⟩)
      | (simp at h)
  · intro i d h
    rcases i with _ | _ | _ | _ | _ | _ | _ | _ | _ | _ | i <;> simp at h
  · intro i j a ds es h
    rcases i with _ | _ | _ | _ | _ | _ | _ | _ | _ | _ | i <;> simp at h
  · walk_at "d"
    refine ⟨14, rfl, by decide, by decide, fun _ δ => ∃ o2 o5 o6 o7 o8, δ = [none, some (.dat .bag), o2, none, none, o5, o6, o7, o8, none], ⟨none, none, none, none, none, rfl⟩, ?_, ?_⟩
    · rintro δ ⟨o2, o5, o6, o7, o8, rfl⟩
      walk_at "d"
      refine ⟨_, rfl, by rfl, fun rest acc δ => acc = [] ∧ (∀ d, d ∈ rest → ∃ w, w ∈ reserved ∧ d = D.str w) ∧ δ = [none, some (.dat .bag), o2, some (.dat (.lst (reserved.map D.str))), none, o5, o6, o7, o8, none], ⟨rfl, ?_, rfl⟩, ?_, ?_⟩
      · intro d hd
        obtain ⟨w, hw, rfl⟩ := List.mem_map.mp hd
        exact ⟨w, hw, rfl⟩
      · rintro acc δ ⟨rfl, _, rfl⟩
        walk_at "d"
        refine ⟨⟨rfl, rfl⟩, ⟨rfl, rfl⟩, ?_⟩
        walk_at "d"
        have kh : ok0 A.cHeap (.obj A.cHeap) := rfl
        have ke : ∀ y, y ∈ [D.obj A.cHeap, .lst [.obj A.cHeap], .tup [.str "at", .obj A.cHeap], .tup [.obj A.cHeap, .int 0]] → ok1 A.cHeap y ∧ isIntD y = false ∧ isNameD y = false ∧ isValD y = false := by
          have o1 : ok0 A.cHeap (.str "at") := ⟨by decide +kernel, by decide +kernel⟩
          simp only [List.forall_mem_cons]
          refine ⟨⟨⟨kh, fun xs e => by cases e⟩, rfl, rfl, rfl⟩, ⟨⟨trivial, fun xs e => by cases e⟩, rfl, rfl, rfl⟩, ⟨⟨trivial, ?_⟩, rfl, rfl, by simp [isValD, isN, isIntD, isNameD, isAtD, isNatD]⟩, ⟨⟨trivial, ?_⟩, rfl, rfl, rfl⟩, fun _ h => by cases h⟩
          · intro xs e
            cases e
            simp only [List.forall_mem_cons]
            exact ⟨o1, kh, fun _ h => by cases h⟩
          · intro xs e
            cases e
            simp only [List.forall_mem_cons]
            exact ⟨kh, trivial, fun _ h => by cases h⟩
        refine ⟨_, rfl, fun _ δ => ∃ o5, δ = [none, some (.dat .bag), o2, some (.dat (.lst (reserved.map D.str))), some (.dat (.obj A.cHeap)), o5, o6, o7, o8, none], ⟨_, rfl⟩, ?_, ?_⟩
        · rintro δ ⟨o5, rfl⟩
          walk_at "d"
          refine ⟨_, rfl, ⟨trivial, fun xs e => by cases e⟩, ?_⟩
          walk_at "d"
          refine ⟨_, rfl, trivial, ?_⟩
          walk_at "d"
          refine ⟨_, rfl, trivial, ?_⟩
          walk_at "d"
          rfl
        · rintro y rest δ hy ⟨o5, rfl⟩
          obtain ⟨k1, e1, e2, e3⟩ := ke y hy
          walk_at "d"
          refine ⟨y, rfl, k1.1, ?_⟩
          walk_at "d"
          refine ⟨y, rfl, k1.1, ?_⟩
          walk_at "d"
          refine ⟨y, rfl, k1, ?_⟩
          walk_at "d"
          rw [e1, e2, e3]
          refine ⟨_, rfl, (three _ _ _).1, (three _ _ _).2, ?_⟩
          walk_at "d"
          exact ⟨_, rfl⟩
      · rintro y rest acc δ hy ⟨rfl, h, rfl⟩
        obtain ⟨w, hw, rfl⟩ := h y (List.mem_cons_self ..)
        have lw := (res_wd w hw).1
        have kw : ok1 A.cHeap (.str w) := Good.ok1 (lw.good (by decide))
        obtain ⟨e1, e2⟩ := res_no hw
        walk_at "d"
        refine ⟨_, rfl, kw.1, ?_⟩
        rw [e1]
        walk_at "d"
        refine ⟨_, rfl, kw, ?_⟩
        rw [e2]
        walk_at "d"
        exact ⟨fun d hd => h d (List.mem_cons_of_mem _ hd), rfl⟩
    · rintro i δ hi ⟨o2, o5, o6, o7, o8, rfl⟩
      walk_at "d"
      refine fun x sx => ?_
      walk_at "d"
      refine fun v bv => ?_
      walk_at "d"
      refine fun o oo => ?_
      walk_at "d"
      refine fun v2 bv2 => ?_
      walk_at "d"
      refine ⟨v2, rfl, bv2, fun t bt => ?_⟩
      have hg : ∀ y, y ∈ [D.str x, v, o, t] → Good y := by
        simp only [List.forall_mem_cons]
        exact ⟨sx.good (by decide), bv.good (by decide), oo.good, bt.good bv2 (by decide), fun _ h => by cases h⟩
      walk_at "d"
      refine ⟨_, rfl, fun _ δ => ∃ o2 o5 o6 o7 o8, δ = [none, some (.dat .bag), o2, none, none, o5, o6, o7, o8, none], ⟨_, _, _, _, _, rfl⟩, ?_, ?_⟩
      · rintro δ ⟨o2, o5, o6, o7, o8, rfl⟩
        walk_at "d"
        exact ⟨_, _, _, _, _, rfl⟩
      · rintro y rest δ hy ⟨o2, o5, o6, o7, o8, rfl⟩
        have gy := hg y hy
        have k1 : ok1 A.cHeap y := Good.ok1 gy
        walk_at "d"
        refine r_repr gy.shows ?_
        walk_at "d"
        refine ⟨y, rfl, k1.1, ?_⟩
        walk_at "d"
        refine ⟨y, rfl, k1.1, ?_⟩
        walk_at "d"
        refine ⟨y, rfl, k1, ?_⟩
        walk_at "d"
        refine ⟨y, rfl, k1.1, ?_⟩
        walk_at "d"
        refine ⟨y, rfl, k1.1, ?_⟩
        walk_at "d"
        refine ⟨y, rfl, k1, ?_⟩
        walk_at "d"
        refine ⟨_, rfl, (three _ _ _).1, (three _ _ _).2, ?_⟩
        walk_at "d"
        refine r_repr gy.shows ?_
        refine r_var (by rfl) ?_
        refine r_neC (c := true) (by simp [scD]) ?_
        walk_at "d"
        exact ⟨_, _, _, _, _, rfl⟩
  · rintro v H'' d bag' kp' w' hv rfl
    have e : v = V.bl true := hv
    rw [e]
    exact k H''
end
end K
/-! The end of a row by a promise that is kept where no repr is under way. -/
namespace DL
open PySem PySem.Spec PyProof.Rows L2
/-- of the abstract heap the script at most is told -/
def scr (at_ : Addr) (ob : Obj) (xs : List V) (on : Bool) : Hp := fun c => if on = true ∧ c = at_ then some (.frz ob (.lst xs)) else none
theorem scr_some {at_ c : Addr} {ob : Obj} {xs : List V} {on : Bool} {u : HO} (e : scr at_ ob xs on c = some u) : on = true ∧ c = at_ ∧ u = .frz ob (.lst xs) := by
  unfold scr at e
  split at e
  · rename_i h
    exact ⟨h.1, h.2, (Option.some.inj e).symm⟩
  · cases e
section
variable {P : Program} {w : World} {K : PySem.W.Frag} {mg mb : Str → Option Value} {k : Nat} {fa at_ : Addr} {fd : FuncData} {x : Str} {sp : Sp} {st : Shared} {us : List Value} {ns : List Int}
theorem lawG_core (on : Bool) (KX : K.In st.heap) (g1 : st.heap.Ns mainGlobals mg) (g2 : st.heap.Ns builtinsNs mb)
    (g3 : ∀ y : Str, y ≠ "__name__" → mb y = bootBuiltins y) (g4 : st.heap.NoLimit) (g5 : st.gens = #[]) (g6 : ∃ m, st.heap.Ns sysModules m)
    (hob : st.heap.get? at_ = some { cls := .type "list", data := .seq us.toArray }) (hi : IntsAre us ns) (hl : ns.length ≤ sizeLine) (hr : Room k callerA)
    (off : on = true → K.lookup at_ = none)
    (hS : SqL K (scr at_ { cls := .type "list", data := .seq us.toArray } (ns.map V.int) on) at_ (ns.map V.int))
    (F : ∀ bs : Heap, K.In bs → bs.Ns mainGlobals mg → Sys bs → FnG P w K mg bs CX0 k fa fd [x] sp)
    (hb : ∀ (z : Shared) (u : Value), BindsTo z fd ⟨[u], []⟩ [(x, u)])
    (hsp : ∀ H : Hp, SqL K H at_ (ns.map V.int) → sp [.ref at_] H (fun v _ => v = .bl true) fun _ _ _ => False) :
    codeAny (model P w) callerA (.call (.ref fa) ⟨[.ref at_], []⟩)
      (fun r z => r = .ok (.ret (.bool true)) ∧ OldK st.heap z.heap ∧ z.os = st.os ∧ AllBare z.gens) st := by
  have rv := vals_ints hi
  generalize hob' : ({ cls := .type "list", data := .seq us.toArray } : Obj) = ob at hob hS
  generalize hH : scr at_ ob (ns.map V.int) on = H at hS
  have told : ∀ {c : Addr} {u : HO}, H c = some u → on = true ∧ c = at_ ∧ u = .frz ob (.lst (ns.map V.int)) := fun e => scr_some (hH ▸ e)
  have kept : ∀ {c : Addr} {o : Obj}, st.heap.get? c = some o → c ≠ at_ → (hidT st.heap H).get? c = some o := fun {c o} e n =>
    hidT_get e (by
      cases q : H c with
      | none => rfl
      | some u => exact absurd (told q).2.1 n)
  have nsk : ∀ {c : Addr} {m : Str → Option Value}, st.heap.Ns c m → (hidT st.heap H).Ns c m := fun {c m} ⟨o, es, ep, e, d, r⟩ =>
    ⟨o, es, ep, kept e (fun z => by
      subst z
      rw [hob] at e
      cases e
      rw [← hob'] at d
      cases d), d, r⟩
  have kin : K.In (hidT st.heap H) := fun c o e => hidT_get (KX c o e) (by
    cases q : H c with
    | none => rfl
    | some u =>
      obtain ⟨t, z, _⟩ := told q
      rw [z, off t] at e
      cases e)
  have md : Mod K mg (hidT st.heap H) := ⟨kin, nsk g1, ⟨mb, nsk g2, g3⟩, by
    obtain ⟨mc, q1, q2⟩ := g4
    exact ⟨mc, nsk q1, q2⟩⟩
  have sy : Sys (hidT st.heap H) := by
    obtain ⟨m, q⟩ := g6
    exact ⟨m, nsk q⟩
  have ok : HOk P w H st.heap := fun c u e => by
    obtain ⟨_, rfl, rfl⟩ := told e
    subst hob'
    exact ⟨hob, by rw [List.length_map]; exact hl, us, _, rv, hob⟩
  have e0 : Env0 P w K mg (hidT st.heap H) callerA [] st H :=
    ⟨rfl, md, fun _ _ e => of_hidT e, Nat.le_of_eq (hidT_size _ _), trivial, fun c hc => (by cases hc), ok, .of_eq g5⟩
  have go := (F _ kin (nsk g1) sy).go callerA [] st H ⟨[.ref at_], []⟩ [.ref at_] [.ref at_] _ _ rfl hr e0 (hb st (.ref at_)) (.cons rfl .nil) (hsp H hS)
  refine codeAny_mono go fun r z got => ?_
  match r, got with
  | .error _, got => exact got.elim
  | .ok .next, got => exact got.elim
  | .ok .brk, got => exact got.elim
  | .ok .cont, got => exact got.elim
  | .ok (.ret u), ⟨v, H', os, bare, un, ok', rel, q⟩ =>
    have q : v = .bl true := q
    subst q
    have eu : u = Value.bool true := rel
    subst eu
    refine ⟨rfl, OldK.of_keep fun c o e => ?_, os, bare⟩
    cases q : H c with
    | none => exact un.keep c o e q (fun z => by cases z) (by simp)
    | some t =>
      obtain ⟨_, rfl, rfl⟩ := told q
      have z2 := un.frzs _ ob _ q
      have z3 := (ok' _ _ z2).1
      rw [hob] at e
      cases e
      exact z3
theorem lawG (KX : K.In st.heap) (g1 : st.heap.Ns mainGlobals mg) (g2 : st.heap.Ns builtinsNs mb)
    (g3 : ∀ y : Str, y ≠ "__name__" → mb y = bootBuiltins y) (g4 : st.heap.NoLimit) (g5 : st.gens = #[]) (g6 : ∃ m, st.heap.Ns sysModules m)
    (hob : st.heap.get? at_ = some { cls := .type "list", data := .seq us.toArray }) (hi : IntsAre us ns) (hl : ns.length ≤ sizeLine) (hr : Room k callerA)
    (F : ∀ bs : Heap, K.In bs → bs.Ns mainGlobals mg → Sys bs → FnG P w K mg bs CX0 k fa fd [x] sp)
    (hb : ∀ (z : Shared) (u : Value), BindsTo z fd ⟨[u], []⟩ [(x, u)])
    (hsp : ∀ H : Hp, SqL K H at_ (ns.map V.int) → sp [.ref at_] H (fun v _ => v = .bl true) fun _ _ _ => False) :
    codeAny (model P w) callerA (.call (.ref fa) ⟨[.ref at_], []⟩)
      (fun r z => r = .ok (.ret (.bool true)) ∧ OldK st.heap z.heap ∧ z.os = st.os ∧ AllBare z.gens) st := by
  cases q : K.lookup at_ with
  | some o =>
    have e := KX at_ o q
    rw [hob] at e
    cases e
    exact lawG_core false KX g1 g2 g3 g4 g5 g6 hob hi hl hr (fun z => by cases z)
      (Or.inr ⟨_, us.toArray, _, q, rfl, rfl, rfl, by rw [List.size_toArray, hi.length]; exact hl, by simpa using vals_ints hi⟩) F hb hsp
  | none =>
    exact lawG_core true KX g1 g2 g3 g4 g5 g6 hob hi hl hr (fun _ => q) (Or.inl (Or.inr ⟨_, if_pos ⟨rfl, rfl⟩⟩)) F hb hsp
end
theorem rowG {l : PySem.W.OpenLaw} {n k : Nat} {q : Program} {loose : List Str} {XP : (Str → Option Value) → Heap → Prop} {YP : World → Heap → Prop}
    {d : DefRec} {K : Params → PySem.W.Frag} {sp : World → Sp} {x : Str} (hn : l.most = some n) (hn2 : n ≤ sizeLine)
    (hdf : d.params.defaults = []) (hr : Room k callerA) (hq : importsNone q = true) (hY : ∀ (w : World) (h : Heap), YP w h → (K w.params).In h)
    (F : ∀ (w : World) (mg : Str → Option Value) (fa : Addr) (h : Heap), (K w.params).In h → h.Ns mainGlobals mg → mg d.name = some (.ref fa) →
      ∃ fd : FuncData, (∀ (z : Shared) (u : Value), BindsTo z fd ⟨[u], []⟩ [(x, u)]) ∧
        ∀ bs : Heap, (K w.params).In bs → bs.Ns mainGlobals mg → Sys bs → FnG l.prog w (K w.params) mg bs CX0 k fa fd [x] (sp w))
    (hsp : ∀ (w : World) (H : Hp) (c : Addr) (ns : List Int), ns.length ≤ n → SqL (K w.params) H c (ns.map V.int) →
      sp w [.ref c] H (fun v _ => v = .bl true) fun _ _ _ => False) :
    PySem.W.WalkO q loose XP YP l.row.toRowW d [] (fun f vs => PySem.call f vs) := by
  refine Att.attach_call hn hdf fun w _ st mg mb fa _ _ _ _ c us ns G Y _ _ _ named hob hi hlen gens => ?_
  have KX := hY w _ Y
  obtain ⟨fd, hb, hF⟩ := F w mg fa _ KX G.T.g named
  have sm : ∃ m, st.heap.Ns sysModules m := by
    obtain ⟨mm, e, _⟩ := (G.T.seer hq).mods
    exact ⟨mm, e⟩
  exact lawG KX G.T.g G.T.b G.T.builtins G.T.nolimit gens sm hob hi (Nat.le_trans hlen hn2) hr hF hb fun H hS => hsp w H c ns hlen hS
end DL
namespace K
open PySem PySem.Spec PyProof.Rows L2 DL
theorem kit_rt {K : PySem.W.Frag} {C : Addr} {U : String} {r : Bool} (hm : PySem.W.kitMeta U = true) (e : PySem.W.mroIn K C (.type U) = some r) : PySem.W.kitOne K (.ref C) (.type U) = some r := by
  unfold PySem.W.kitOne
  rw [if_neg (show ¬ (Value.ref C == Value.type U) = true from Bool.false_ne_true)]
  show (if PySem.W.kitMeta U = true then PySem.W.subIn K (.ref C) (.type U) else none) = some r
  rw [if_pos hm]
  exact e
theorem kit_tr {K : PySem.W.Frag} {C : Addr} {U : String} {r : Bool} {cd : ClassData} (h1 : PySem.W.clsIn K C = some cd) (h2 : PySem.W.typeIn K (.ref C) = some (.type "type")) (e : PySem.W.subIn K (.type U) (.ref C) = some r) : PySem.W.kitOne K (.type U) (.ref C) = some r := by
  unfold PySem.W.kitOne
  rw [if_neg (show ¬ (Value.type U == Value.ref C) = true from Bool.false_ne_true)]
  unfold PySem.W.kitCls
  simp only [h1, h2]
  exact e
theorem all_mk {l : PySem.W.OpenLaw} {w : World} {K : PySem.W.Frag} {h : Heap} {mg : Str → Option Value} {cdC : ClassData} {f0 f1 f2 f3 f4 f5 f6 f7 f8 f9 f10 f11 f12 f13 f14 f15 f16 f17 f18 f19 f20 f21 f22 fa C res : Addr} {od0 an0 od1 an1 od2 an2 od3 an3 od4 an4 od5 an5 od6 an6 od7 an7 od8 an8 od9 an9 od10 an10 od11 an11 od12 an12 od13 an13 od14 an14 od15 an15 od16 an16 od17 an17 od18 an18 od19 an19 od20 an20 od21 an21 od22 an22 odR : Option Addr} {sl0 sl1 sl2 sl3 sl4 sl5 sl6 sl7 sl8 sl9 sl10 sl11 sl12 sl13 sl14 sl15 sl16 sl17 sl18 sl19 sl20 sl21 sl22 slR : Array (Option Value)} {usT : Array Value} {nT : Nat} {oc0 kV0 dc0 pm0 cd0 ct0 oc1 kV1 dc1 pm1 cd1 ct1 oc2 kV2 dc2 pm2 cd2 ct2 oc3 kV3 dc3 pm3 cd3 ct3 oc4 kV4 dc4 pm4 cd4 ct4 oc5 kV5 dc5 pm5 cd5 ct5 oc6 kV6 dc6 pm6 cd6 ct6 oc7 kV7 dc7 pm7 cd7 ct7 oc8 kV8 dc8 pm8 cd8 ct8 oc9 kV9 dc9 pm9 cd9 ct9 oc10 kV10 dc10 pm10 cd10 ct10 oc11 kV11 dc11 pm11 cd11 ct11 oc12 kV12 dc12 pm12 cd12 ct12 oc13 kV13 dc13 pm13 cd13 ct13 oc14 kV14 dc14 pm14 cd14 ct14 oc15 kV15 dc15 pm15 cd15 ct15 oc16 kV16 dc16 pm16 cd16 ct16 oc17 kV17 dc17 pm17 cd17 ct17 oc18 kV18 dc18 pm18 cd18 ct18 oc19 kV19 dc19 pm19 cd19 ct19 oc20 kV20 dc20 pm20 cd20 ct20 oc21 kV21 dc21 pm21 cd21 ct21 oc22 kV22 dc22 pm22 cd22 ct22 : Value} (X : K.In h) (G : h.Ns mainGlobals mg) (hfa : mg "law" = some (.ref fa))
    (aC : PySem.W.nsIn K mainGlobals "Heap" = some (some (.ref C)))
    (hpg : PySem.W.plainGet K C Str.empty = true)
    (hhd : PySem.W.hasDictIn K C = true)
    (hpo : PySem.W.plainOver K C = true)
    (hsa : PySem.W.findIn K (.ref C) "__setattr__" = some (some (.builtin "object.__setattr__")))
    (hmk : PySem.W.makesIn K C = true)
    (hkc : PySem.W.keepIn K (.ref C) = true)
    (hn1 : PySem.W.findIn K (.ref C) "_cells" = some none)
    (hn2 : PySem.W.findIn K (.ref C) "_made" = some none)
    (hha : PySem.W.findIn K (.ref C) "__class__" = some (some (.builtin "object.__class__")))
    (hhn : PySem.W.specialIn K (.builtin "object.__class__") "__get__" = some (some (.builtin "getset_descriptor.__get__")))
    (hht : PySem.W.takesIn K (.builtin "object.__class__") = some true)
    (hhm : PySem.W.mroIn K C (.type "object") = some true)
    (hiint : PySem.W.mroIn K C (.type "int") = some false)
    (hibool : PySem.W.mroIn K C (.type "bool") = some false)
    (histr : PySem.W.mroIn K C (.type "str") = some false)
    (hituple : PySem.W.mroIn K C (.type "tuple") = some false)
    (hcl : PySem.W.clsIn K C = some cdC)
    (hty : PySem.W.typeIn K (.ref C) = some (.type "type"))
    (hsub : PySem.W.subIn K (.type "str") (.ref C) = some false)
    (hnf : PySem.W.notFirst K C (.type "str") = true)
    (a0 : PySem.W.nsIn K mainGlobals "is_integer" = some (some (.ref f0)))
    (l0 : K.lookup f0 = some ⟨oc0, od0, .func (PySem.W.fnOf "is_integer" "is_integer" (defArgs s_is_integer) (defBody s_is_integer) (defScope s_is_integer) .none kV0 dc0 pm0 an0 cd0 ct0), sl0⟩)
    (c0 : PySem.W.codeIn K cd0 "is_integer" = true)
    (k0 : PySem.W.keepIn K (.ref f0) = true)
    (a1 : PySem.W.nsIn K mainGlobals "is_natural" = some (some (.ref f1)))
    (l1 : K.lookup f1 = some ⟨oc1, od1, .func (PySem.W.fnOf "is_natural" "is_natural" (defArgs s_is_natural) (defBody s_is_natural) (defScope s_is_natural) .none kV1 dc1 pm1 an1 cd1 ct1), sl1⟩)
    (c1 : PySem.W.codeIn K cd1 "is_natural" = true)
    (k1 : PySem.W.keepIn K (.ref f1) = true)
    (a2 : PySem.W.nsIn K mainGlobals "is_name" = some (some (.ref f2)))
    (l2 : K.lookup f2 = some ⟨oc2, od2, .func (PySem.W.fnOf "is_name" "is_name" (defArgs s_is_name) (defBody s_is_name) (defScope s_is_name) .none kV2 dc2 pm2 an2 cd2 ct2), sl2⟩)
    (c2 : PySem.W.codeIn K cd2 "is_name" = true)
    (k2 : PySem.W.keepIn K (.ref f2) = true)
    (a3 : PySem.W.nsIn K mainGlobals "is_at" = some (some (.ref f3)))
    (l3 : K.lookup f3 = some ⟨oc3, od3, .func (PySem.W.fnOf "is_at" "is_at" (defArgs s_is_at) (defBody s_is_at) (defScope s_is_at) .none kV3 dc3 pm3 an3 cd3 ct3), sl3⟩)
    (c3 : PySem.W.codeIn K cd3 "is_at" = true)
    (k3 : PySem.W.keepIn K (.ref f3) = true)
    (a4 : PySem.W.nsIn K mainGlobals "is_value" = some (some (.ref f4)))
    (l4 : K.lookup f4 = some ⟨oc4, od4, .func (PySem.W.fnOf "is_value" "is_value" (defArgs s_is_value) (defBody s_is_value) (defScope s_is_value) .none kV4 dc4 pm4 an4 cd4 ct4), sl4⟩)
    (c4 : PySem.W.codeIn K cd4 "is_value" = true)
    (k4 : PySem.W.keepIn K (.ref f4) = true)
    (a5 : PySem.W.nsIn K mainGlobals "_law_bag" = some (some (.ref f5)))
    (l5 : K.lookup f5 = some ⟨oc5, od5, .func (PySem.W.fnOf "_law_bag" "_law_bag" (defArgs s_l_bag) (defBody s_l_bag) (defScope s_l_bag) .none kV5 dc5 pm5 an5 cd5 ct5), sl5⟩)
    (c5 : PySem.W.codeIn K cd5 "_law_bag" = true)
    (k5 : PySem.W.keepIn K (.ref f5) = true)
    (a6 : PySem.W.nsIn K mainGlobals "_law_take" = some (some (.ref f6)))
    (l6 : K.lookup f6 = some ⟨oc6, od6, .func (PySem.W.fnOf "_law_take" "_law_take" (defArgs s_l_take) (defBody s_l_take) (defScope s_l_take) .none kV6 dc6 pm6 an6 cd6 ct6), sl6⟩)
    (c6 : PySem.W.codeIn K cd6 "_law_take" = true)
    (k6 : PySem.W.keepIn K (.ref f6) = true)
    (a7 : PySem.W.nsIn K mainGlobals "_law_some" = some (some (.ref f7)))
    (l7 : K.lookup f7 = some ⟨oc7, od7, .func (PySem.W.fnOf "_law_some" "_law_some" (defArgs s_l_some) (defBody s_l_some) (defScope s_l_some) .none kV7 dc7 pm7 an7 cd7 ct7), sl7⟩)
    (c7 : PySem.W.codeIn K cd7 "_law_some" = true)
    (k7 : PySem.W.keepIn K (.ref f7) = true)
    (a8 : PySem.W.nsIn K mainGlobals "_law_mixed" = some (some (.ref f8)))
    (l8 : K.lookup f8 = some ⟨oc8, od8, .func (PySem.W.fnOf "_law_mixed" "_law_mixed" (defArgs s_l_mixed) (defBody s_l_mixed) (defScope s_l_mixed) .none kV8 dc8 pm8 an8 cd8 ct8), sl8⟩)
    (c8 : PySem.W.codeIn K cd8 "_law_mixed" = true)
    (k8 : PySem.W.keepIn K (.ref f8) = true)
    (a9 : PySem.W.nsIn K mainGlobals "_law_alike" = some (some (.ref f9)))
    (l9 : K.lookup f9 = some ⟨oc9, od9, .func (PySem.W.fnOf "_law_alike" "_law_alike" (defArgs s_l_alike) (defBody s_l_alike) (defScope s_l_alike) .none kV9 dc9 pm9 an9 cd9 ct9), sl9⟩)
    (c9 : PySem.W.codeIn K cd9 "_law_alike" = true)
    (k9 : PySem.W.keepIn K (.ref f9) = true)
    (a10 : PySem.W.nsIn K mainGlobals "_law_names" = some (some (.ref f10)))
    (l10 : K.lookup f10 = some ⟨oc10, od10, .func (PySem.W.fnOf "_law_names" "_law_names" (defArgs s_l_names) (defBody s_l_names) (defScope s_l_names) .none kV10 dc10 pm10 an10 cd10 ct10), sl10⟩)
    (c10 : PySem.W.codeIn K cd10 "_law_names" = true)
    (k10 : PySem.W.keepIn K (.ref f10) = true)
    (a11 : PySem.W.nsIn K mainGlobals "_law_odd" = some (some (.ref f11)))
    (l11 : K.lookup f11 = some ⟨oc11, od11, .func (PySem.W.fnOf "_law_odd" "_law_odd" (defArgs s_l_odd) (defBody s_l_odd) (defScope s_l_odd) .none kV11 dc11 pm11 an11 cd11 ct11), sl11⟩)
    (c11 : PySem.W.codeIn K cd11 "_law_odd" = true)
    (k11 : PySem.W.keepIn K (.ref f11) = true)
    (a12 : PySem.W.nsIn K mainGlobals "_law_changed" = some (some (.ref f12)))
    (l12 : K.lookup f12 = some ⟨oc12, od12, .func (PySem.W.fnOf "_law_changed" "_law_changed" (defArgs s_l_changed) (defBody s_l_changed) (defScope s_l_changed) .none kV12 dc12 pm12 an12 cd12 ct12), sl12⟩)
    (c12 : PySem.W.codeIn K cd12 "_law_changed" = true)
    (k12 : PySem.W.keepIn K (.ref f12) = true)
    (a13 : PySem.W.nsIn K mainGlobals "_law_bent" = some (some (.ref f13)))
    (l13 : K.lookup f13 = some ⟨oc13, od13, .func (PySem.W.fnOf "_law_bent" "_law_bent" (defArgs s_l_bent) (defBody s_l_bent) (defScope s_l_bent) .none kV13 dc13 pm13 an13 cd13 ct13), sl13⟩)
    (c13 : PySem.W.codeIn K cd13 "_law_bent" = true)
    (k13 : PySem.W.keepIn K (.ref f13) = true)
    (a14 : PySem.W.nsIn K mainGlobals "_law_reserved" = some (some (.ref f14)))
    (l14 : K.lookup f14 = some ⟨oc14, od14, .func (PySem.W.fnOf "_law_reserved" "_law_reserved" (defArgs s_l_reserved) (defBody s_l_reserved) (defScope s_l_reserved) .none kV14 dc14 pm14 an14 cd14 ct14), sl14⟩)
    (c14 : PySem.W.codeIn K cd14 "_law_reserved" = true)
    (k14 : PySem.W.keepIn K (.ref f14) = true)
    (a15 : PySem.W.nsIn K mainGlobals "_law_is_integer" = some (some (.ref f15)))
    (l15 : K.lookup f15 = some ⟨oc15, od15, .func (PySem.W.fnOf "_law_is_integer" "_law_is_integer" (defArgs s_l_is_integer) (defBody s_l_is_integer) (defScope s_l_is_integer) .none kV15 dc15 pm15 an15 cd15 ct15), sl15⟩)
    (c15 : PySem.W.codeIn K cd15 "_law_is_integer" = true)
    (k15 : PySem.W.keepIn K (.ref f15) = true)
    (a16 : PySem.W.nsIn K mainGlobals "_law_is_name" = some (some (.ref f16)))
    (l16 : K.lookup f16 = some ⟨oc16, od16, .func (PySem.W.fnOf "_law_is_name" "_law_is_name" (defArgs s_l_is_name) (defBody s_l_is_name) (defScope s_l_is_name) .none kV16 dc16 pm16 an16 cd16 ct16), sl16⟩)
    (c16 : PySem.W.codeIn K cd16 "_law_is_name" = true)
    (k16 : PySem.W.keepIn K (.ref f16) = true)
    (a17 : PySem.W.nsIn K mainGlobals "_law_is_value" = some (some (.ref f17)))
    (l17 : K.lookup f17 = some ⟨oc17, od17, .func (PySem.W.fnOf "_law_is_value" "_law_is_value" (defArgs s_l_is_value) (defBody s_l_is_value) (defScope s_l_is_value) .none kV17 dc17 pm17 an17 cd17 ct17), sl17⟩)
    (c17 : PySem.W.codeIn K cd17 "_law_is_value" = true)
    (k17 : PySem.W.keepIn K (.ref f17) = true)
    (a18 : PySem.W.nsIn K mainGlobals "_law_near_word" = some (some (.ref f18)))
    (l18 : K.lookup f18 = some ⟨oc18, od18, .func (PySem.W.fnOf "_law_near_word" "_law_near_word" (defArgs s_l_near_word) (defBody s_l_near_word) (defScope s_l_near_word) .none kV18 dc18 pm18 an18 cd18 ct18), sl18⟩)
    (c18 : PySem.W.codeIn K cd18 "_law_near_word" = true)
    (k18 : PySem.W.keepIn K (.ref f18) = true)
    (a19 : PySem.W.nsIn K mainGlobals "_law_near_value" = some (some (.ref f19)))
    (l19 : K.lookup f19 = some ⟨oc19, od19, .func (PySem.W.fnOf "_law_near_value" "_law_near_value" (defArgs s_l_near_value) (defBody s_l_near_value) (defScope s_l_near_value) .none kV19 dc19 pm19 an19 cd19 ct19), sl19⟩)
    (c19 : PySem.W.codeIn K cd19 "_law_near_value" = true)
    (k19 : PySem.W.keepIn K (.ref f19) = true)
    (a20 : PySem.W.nsIn K mainGlobals "law" = some (some (.ref f20)))
    (l20 : K.lookup f20 = some ⟨oc20, od20, .func (PySem.W.fnOf "law" "law" (defArgs s_law) (defBody s_law) (defScope s_law) .none kV20 dc20 pm20 an20 cd20 ct20), sl20⟩)
    (c20 : PySem.W.codeIn K cd20 "law" = true)
    (k20 : PySem.W.keepIn K (.ref f20) = true)
    (a21 : PySem.W.findIn K (.ref C) "__eq__" = some (some (.ref f21)))
    (i21 : PySem.W.isFn K (.ref f21) = true)
    (l21 : K.lookup f21 = some ⟨oc21, od21, .func (PySem.W.fnOf "__eq__" "Heap.__eq__" (defArgs s_heq) (defBody s_heq) (defScope s_heq) .none kV21 dc21 pm21 an21 cd21 ct21), sl21⟩)
    (c21 : PySem.W.codeIn K cd21 "Heap.__eq__" = true)
    (k21 : PySem.W.keepIn K (.ref f21) = true)
    (a22 : PySem.W.findIn K (.ref C) "__init__" = some (some (.ref f22)))
    (i22 : PySem.W.isFn K (.ref f22) = true)
    (l22 : K.lookup f22 = some ⟨oc22, od22, .func (PySem.W.fnOf "__init__" "Heap.__init__" (defArgs s_hinit) (defBody s_hinit) (defScope s_hinit) .none kV22 dc22 pm22 an22 cd22 ct22), sl22⟩)
    (c22 : PySem.W.codeIn K cd22 "Heap.__init__" = true)
    (k22 : PySem.W.keepIn K (.ref f22) = true)
    (aR : PySem.W.nsIn K mainGlobals "RESERVED" = some (some (.ref res)))
    (lR : K.lookup res = some ⟨.type "tuple", odR, .seq usT nT, slR⟩)
    (vR : Vals (reserved.map V.str) usT.toList)
    (zlen : PySem.W.nsIn K mainGlobals "len" = some none)
    (zrepr : PySem.W.nsIn K mainGlobals "repr" = some none)
    (zisinstance : PySem.W.nsIn K mainGlobals "isinstance" = some none)
    (zint : PySem.W.nsIn K mainGlobals "int" = some none)
    (zstr : PySem.W.nsIn K mainGlobals "str" = some none)
    (zbool : PySem.W.nsIn K mainGlobals "bool" = some none)
    (ztuple : PySem.W.nsIn K mainGlobals "tuple" = some none)
    (zlist : PySem.W.nsIn K mainGlobals "list" = some none)
    (zall : PySem.W.nsIn K mainGlobals "all" = some none)
    (zabs : PySem.W.nsIn K mainGlobals "abs" = some none)
    (zrange : PySem.W.nsIn K mainGlobals "range" = some none)
    : ∃ fd : FuncData, (∀ (z : Shared) (u : Value), BindsTo z fd ⟨[u], []⟩ [("_law_script", u)]) ∧ ∀ bs : Heap, K.In bs → bs.Ns mainGlobals mg → Sys bs → FnG l.prog w K mg bs CX0 13 fa fd ["_law_script"] (spLaw K) := by
  have e := hfa.symm.trans (PySem.W.mg_of X G a20)
  cases e
  have F0 := fun_mk (st := s_is_integer) l0 c0 k0
  have b0 := F0.binds (ps := ["thing"]) fun _ _ _ _ _ _ us hl => match us, hl with | [_], _ => rfl
  have F1 := fun_mk (st := s_is_natural) l1 c1 k1
  have b1 := F1.binds (ps := ["thing"]) fun _ _ _ _ _ _ us hl => match us, hl with | [_], _ => rfl
  have F2 := fun_mk (st := s_is_name) l2 c2 k2
  have b2 := F2.binds (ps := ["thing"]) fun _ _ _ _ _ _ us hl => match us, hl with | [_], _ => rfl
  have F3 := fun_mk (st := s_is_at) l3 c3 k3
  have b3 := F3.binds (ps := ["thing"]) fun _ _ _ _ _ _ us hl => match us, hl with | [_], _ => rfl
  have F4 := fun_mk (st := s_is_value) l4 c4 k4
  have b4 := F4.binds (ps := ["thing"]) fun _ _ _ _ _ _ us hl => match us, hl with | [_], _ => rfl
  have F5 := fun_mk (st := s_l_bag) l5 c5 k5
  have b5 := F5.binds (ps := ["_law_script"]) fun _ _ _ _ _ _ us hl => match us, hl with | [_], _ => rfl
  have F6 := fun_mk (st := s_l_take) l6 c6 k6
  have b6 := F6.binds (ps := ["_law_bag_here", "_law_upto"]) fun _ _ _ _ _ _ us hl => match us, hl with | [_, _], _ => rfl
  have F7 := fun_mk (st := s_l_some) l7 c7 k7
  have b7 := F7.binds (ps := ["_law_bag_here", "_law_things"]) fun _ _ _ _ _ _ us hl => match us, hl with | [_, _], _ => rfl
  have F8 := fun_mk (st := s_l_mixed) l8 c8 k8
  have b8 := F8.binds (ps := ["_law_bag_here", "_law_things"]) fun _ _ _ _ _ _ us hl => match us, hl with | [_, _], _ => rfl
  have F9 := fun_mk (st := s_l_alike) l9 c9 k9
  have b9 := F9.binds (ps := ["_law_found", "_law_due"]) fun _ _ _ _ _ _ us hl => match us, hl with | [_, _], _ => rfl
  have F10 := fun_mk (st := s_l_names) l10 c10 k10
  have b10 := F10.binds (ps := ["_law_bag_here", "_law_upto"]) fun _ _ _ _ _ _ us hl => match us, hl with | [_, _], _ => rfl
  have F11 := fun_mk (st := s_l_odd) l11 c11 k11
  have b11 := F11.binds (ps := ["_law_bag_here"]) fun _ _ _ _ _ _ us hl => match us, hl with | [_], _ => rfl
  have F12 := fun_mk (st := s_l_changed) l12 c12 k12
  have b12 := F12.binds (ps := ["_law_bag_here", "_law_thing"]) fun _ _ _ _ _ _ us hl => match us, hl with | [_, _], _ => rfl
  have F13 := fun_mk (st := s_l_bent) l13 c13 k13
  have b13 := F13.binds (ps := ["_law_bag_here", "_law_thing"]) fun _ _ _ _ _ _ us hl => match us, hl with | [_, _], _ => rfl
  have F14 := fun_mk (st := s_l_reserved) l14 c14 k14
  have b14 := F14.binds (ps := []) fun _ _ _ _ _ _ us hl => match us, hl with | [], _ => rfl
  have F15 := fun_mk (st := s_l_is_integer) l15 c15 k15
  have b15 := F15.binds (ps := ["_law_thing"]) fun _ _ _ _ _ _ us hl => match us, hl with | [_], _ => rfl
  have F16 := fun_mk (st := s_l_is_name) l16 c16 k16
  have b16 := F16.binds (ps := ["_law_thing"]) fun _ _ _ _ _ _ us hl => match us, hl with | [_], _ => rfl
  have F17 := fun_mk (st := s_l_is_value) l17 c17 k17
  have b17 := F17.binds (ps := ["_law_thing"]) fun _ _ _ _ _ _ us hl => match us, hl with | [_], _ => rfl
  have F18 := fun_mk (st := s_l_near_word) l18 c18 k18
  have b18 := F18.binds (ps := ["_law_bag_here"]) fun _ _ _ _ _ _ us hl => match us, hl with | [_], _ => rfl
  have F19 := fun_mk (st := s_l_near_value) l19 c19 k19
  have b19 := F19.binds (ps := ["_law_bag_here"]) fun _ _ _ _ _ _ us hl => match us, hl with | [_], _ => rfl
  have F20 := fun_mk (st := s_law) l20 c20 k20
  have b20 := F20.binds (ps := ["_law_script"]) fun _ _ _ _ _ _ us hl => match us, hl with | [_], _ => rfl
  have F21 := fun_mk (st := s_heq) l21 c21 k21
  have b21 := F21.binds (ps := ["self", "other"]) fun _ _ _ _ _ _ us hl => match us, hl with | [_, _], _ => rfl
  have F22 := fun_mk (st := s_hinit) l22 c22 k22
  have b22 := F22.binds (ps := ["self"]) fun _ _ _ _ _ _ us hl => match us, hl with | [_], _ => rfl
  let A : Ad := { cHeap := C, fHeap := f22, dHeap := PySem.W.fnOf "__init__" "Heap.__init__" (defArgs s_hinit) (defBody s_hinit) (defScope s_hinit) .none kV22 dc22 pm22 an22 cd22 ct22, res := res, f_is_integer := f0, d_is_integer := PySem.W.fnOf "is_integer" "is_integer" (defArgs s_is_integer) (defBody s_is_integer) (defScope s_is_integer) .none kV0 dc0 pm0 an0 cd0 ct0, f_is_natural := f1, d_is_natural := PySem.W.fnOf "is_natural" "is_natural" (defArgs s_is_natural) (defBody s_is_natural) (defScope s_is_natural) .none kV1 dc1 pm1 an1 cd1 ct1, f_is_name := f2, d_is_name := PySem.W.fnOf "is_name" "is_name" (defArgs s_is_name) (defBody s_is_name) (defScope s_is_name) .none kV2 dc2 pm2 an2 cd2 ct2, f_is_at := f3, d_is_at := PySem.W.fnOf "is_at" "is_at" (defArgs s_is_at) (defBody s_is_at) (defScope s_is_at) .none kV3 dc3 pm3 an3 cd3 ct3, f_is_value := f4, d_is_value := PySem.W.fnOf "is_value" "is_value" (defArgs s_is_value) (defBody s_is_value) (defScope s_is_value) .none kV4 dc4 pm4 an4 cd4 ct4, f_l_bag := f5, d_l_bag := PySem.W.fnOf "_law_bag" "_law_bag" (defArgs s_l_bag) (defBody s_l_bag) (defScope s_l_bag) .none kV5 dc5 pm5 an5 cd5 ct5, f_l_take := f6, d_l_take := PySem.W.fnOf "_law_take" "_law_take" (defArgs s_l_take) (defBody s_l_take) (defScope s_l_take) .none kV6 dc6 pm6 an6 cd6 ct6, f_l_some := f7, d_l_some := PySem.W.fnOf "_law_some" "_law_some" (defArgs s_l_some) (defBody s_l_some) (defScope s_l_some) .none kV7 dc7 pm7 an7 cd7 ct7, f_l_mixed := f8, d_l_mixed := PySem.W.fnOf "_law_mixed" "_law_mixed" (defArgs s_l_mixed) (defBody s_l_mixed) (defScope s_l_mixed) .none kV8 dc8 pm8 an8 cd8 ct8, f_l_alike := f9, d_l_alike := PySem.W.fnOf "_law_alike" "_law_alike" (defArgs s_l_alike) (defBody s_l_alike) (defScope s_l_alike) .none kV9 dc9 pm9 an9 cd9 ct9, f_l_names := f10, d_l_names := PySem.W.fnOf "_law_names" "_law_names" (defArgs s_l_names) (defBody s_l_names) (defScope s_l_names) .none kV10 dc10 pm10 an10 cd10 ct10, f_l_odd := f11, d_l_odd := PySem.W.fnOf "_law_odd" "_law_odd" (defArgs s_l_odd) (defBody s_l_odd) (defScope s_l_odd) .none kV11 dc11 pm11 an11 cd11 ct11, f_l_changed := f12, d_l_changed := PySem.W.fnOf "_law_changed" "_law_changed" (defArgs s_l_changed) (defBody s_l_changed) (defScope s_l_changed) .none kV12 dc12 pm12 an12 cd12 ct12, f_l_bent := f13, d_l_bent := PySem.W.fnOf "_law_bent" "_law_bent" (defArgs s_l_bent) (defBody s_l_bent) (defScope s_l_bent) .none kV13 dc13 pm13 an13 cd13 ct13, f_l_reserved := f14, d_l_reserved := PySem.W.fnOf "_law_reserved" "_law_reserved" (defArgs s_l_reserved) (defBody s_l_reserved) (defScope s_l_reserved) .none kV14 dc14 pm14 an14 cd14 ct14, f_l_is_integer := f15, d_l_is_integer := PySem.W.fnOf "_law_is_integer" "_law_is_integer" (defArgs s_l_is_integer) (defBody s_l_is_integer) (defScope s_l_is_integer) .none kV15 dc15 pm15 an15 cd15 ct15, f_l_is_name := f16, d_l_is_name := PySem.W.fnOf "_law_is_name" "_law_is_name" (defArgs s_l_is_name) (defBody s_l_is_name) (defScope s_l_is_name) .none kV16 dc16 pm16 an16 cd16 ct16, f_l_is_value := f17, d_l_is_value := PySem.W.fnOf "_law_is_value" "_law_is_value" (defArgs s_l_is_value) (defBody s_l_is_value) (defScope s_l_is_value) .none kV17 dc17 pm17 an17 cd17 ct17, f_l_near_word := f18, d_l_near_word := PySem.W.fnOf "_law_near_word" "_law_near_word" (defArgs s_l_near_word) (defBody s_l_near_word) (defScope s_l_near_word) .none kV18 dc18 pm18 an18 cd18 ct18, f_l_near_value := f19, d_l_near_value := PySem.W.fnOf "_law_near_value" "_law_near_value" (defArgs s_l_near_value) (defBody s_l_near_value) (defScope s_l_near_value) .none kV19 dc19 pm19 an19 cd19 ct19, f_law := f20, d_law := PySem.W.fnOf "law" "law" (defArgs s_law) (defBody s_law) (defScope s_law) .none kV20 dc20 pm20 an20 cd20 ct20 }
  have T : Txt K mg A := { mRes := PySem.W.mg_of X G aR, kRes := ⟨_, usT, nT, lR, rfl, rfl, (by have h1 := vR.length; have h2 : (reserved.map V.str).length = 32 := (by decide +kernel); rw [← Array.length_toList, ← h1, h2]; decide), vR⟩, m_is_integer := PySem.W.mg_of X G a0, F_is_integer := F0, b_is_integer := b0, m_is_natural := PySem.W.mg_of X G a1, F_is_natural := F1, b_is_natural := b1, m_is_name := PySem.W.mg_of X G a2, F_is_name := F2, b_is_name := b2, m_is_at := PySem.W.mg_of X G a3, F_is_at := F3, b_is_at := b3, m_is_value := PySem.W.mg_of X G a4, F_is_value := F4, b_is_value := b4, m_l_bag := PySem.W.mg_of X G a5, F_l_bag := F5, b_l_bag := b5, m_l_take := PySem.W.mg_of X G a6, F_l_take := F6, b_l_take := b6, m_l_some := PySem.W.mg_of X G a7, F_l_some := F7, b_l_some := b7, m_l_mixed := PySem.W.mg_of X G a8, F_l_mixed := F8, b_l_mixed := b8, m_l_alike := PySem.W.mg_of X G a9, F_l_alike := F9, b_l_alike := b9, m_l_names := PySem.W.mg_of X G a10, F_l_names := F10, b_l_names := b10, m_l_odd := PySem.W.mg_of X G a11, F_l_odd := F11, b_l_odd := b11, m_l_changed := PySem.W.mg_of X G a12, F_l_changed := F12, b_l_changed := b12, m_l_bent := PySem.W.mg_of X G a13, F_l_bent := F13, b_l_bent := b13, m_l_reserved := PySem.W.mg_of X G a14, F_l_reserved := F14, b_l_reserved := b14, m_l_is_integer := PySem.W.mg_of X G a15, F_l_is_integer := F15, b_l_is_integer := b15, m_l_is_name := PySem.W.mg_of X G a16, F_l_is_name := F16, b_l_is_name := b16, m_l_is_value := PySem.W.mg_of X G a17, F_l_is_value := F17, b_l_is_value := b17, m_l_near_word := PySem.W.mg_of X G a18, F_l_near_word := F18, b_l_near_word := b18, m_l_near_value := PySem.W.mg_of X G a19, F_l_near_value := F19, b_l_near_value := b19, m_law := PySem.W.mg_of X G a20, F_law := F20, b_law := b20, len := PySem.W.mg_none_of X G zlen, repr := PySem.W.mg_none_of X G zrepr, isinstance := PySem.W.mg_none_of X G zisinstance, int := PySem.W.mg_none_of X G zint, str := PySem.W.mg_none_of X G zstr, bool := PySem.W.mg_none_of X G zbool, tuple := PySem.W.mg_none_of X G ztuple, list := PySem.W.mg_none_of X G zlist, all := PySem.W.mg_none_of X G zall, abs := PySem.W.mg_none_of X G zabs, range := PySem.W.mg_none_of X G zrange }
  have cl : Cls K C := ⟨hpg, hhd, hpo, hsa⟩
  have O : TxtO K A := ⟨⟨cl, hha, hhn, hht, hhm⟩, kit_rt (by decide +kernel) hiint, kit_rt (by decide +kernel) hibool, kit_rt (by decide +kernel) histr, kit_rt (by decide +kernel) hituple⟩
  have HE : HeapEq K mg A f21 _ := ⟨F21, b21, a21, i21, hnf, PySem.W.mg_of X G aC, kit_tr hcl hty hsub⟩
  have MK : HeapMk K mg A f22 _ := ⟨F22, b22, ⟨hmk, a22, i22, hkc⟩, cl, hn1, hn2, PySem.W.mg_of X G aC⟩
  exact ⟨_, fun s v => .of_eq rfl, fun bs _ _ sy => ok_law T sy O HE MK⟩
theorem fin {l : PySem.W.OpenLaw} {q : Program} {loose : List Str} {XP : (Str → Option Value) → Heap → Prop} {YP : World → Heap → Prop} {d : DefRec} {K : Params → PySem.W.Frag} (hn : l.most = some 63) (hdf : d.params.defaults = []) (hq : importsNone q = true)
    (hY : ∀ (w : World) (h : Heap), YP w h → (K w.params).In h)
    (F : ∀ (w : World) (mg : Str → Option Value) (fa : Addr) (h : Heap), (K w.params).In h → h.Ns mainGlobals mg → mg d.name = some (.ref fa) →
      ∃ fd : FuncData, (∀ (z : Shared) (u : Value), BindsTo z fd ⟨[u], []⟩ [("_law_script", u)]) ∧ ∀ bs : Heap, (K w.params).In bs → bs.Ns mainGlobals mg → Sys bs → FnG l.prog w (K w.params) mg bs CX0 13 fa fd ["_law_script"] (spLaw (K w.params))) :
    PySem.W.WalkO q loose XP YP l.row.toRowW d [] (fun f vs => PySem.call f vs) :=
  rowG (n := 63) (k := 13) (x := "_law_script") (sp := fun w => spLaw (K w.params)) hn (by decide) hdf ⟨rfl, by decide, by decide⟩ hq hY F (fun _ _ a ns hl hS => ⟨a, ns, rfl, hS, hl, fun _ => rfl⟩)
end K
open PySem PySem.W PyProof.Rows in
set_option maxRecDepth 100000 in
set_option maxHeartbeats 0 in
theorem PySem.Challenge.cw_reachkept_k11_kinds_of_any_value_holds : PySem.Challenge.rw_reachkept_k11_kinds_of_any_value.Holds := by
  w_on; o_law; k_head; (case hw => w_witness2)
  k_fill
  refine _root_.K.fin (l := PySem.Challenge.rw_reachkept_k11_kinds_of_any_value) rfl rfl ?Q (fun w h Y => PySem.W.kIn_of Y) ?F
  case Q => decide +kernel
  case F =>
    intro w mg fa h KX G hmg
    refine' _root_.K.all_mk KX G hmg ?aC ?hpg ?hhd ?hpo ?hsa ?hmk ?hkc ?hn1 ?hn2 ?hha ?hhn ?hht ?hhm ?hiint ?hibool ?histr ?hituple ?hcl ?hty ?hsub ?hnf ?a0 ?l0 ?c0 ?k0 ?a1 ?l1 ?c1 ?k1 ?a2 ?l2 ?c2 ?k2 ?a3 ?l3 ?c3 ?k3 ?a4 ?l4 ?c4 ?k4 ?a5 ?l5 ?c5 ?k5 ?a6 ?l6 ?c6 ?k6 ?a7 ?l7 ?c7 ?k7 ?a8 ?l8 ?c8 ?k8 ?a9 ?l9 ?c9 ?k9 ?a10 ?l10 ?c10 ?k10 ?a11 ?l11 ?c11 ?k11 ?a12 ?l12 ?c12 ?k12 ?a13 ?l13 ?c13 ?k13 ?a14 ?l14 ?c14 ?k14 ?a15 ?l15 ?c15 ?k15 ?a16 ?l16 ?c16 ?k16 ?a17 ?l17 ?c17 ?k17 ?a18 ?l18 ?c18 ?k18 ?a19 ?l19 ?c19 ?k19 ?a20 ?l20 ?c20 ?k20 ?a21 ?i21 ?l21 ?c21 ?k21 ?a22 ?i22 ?l22 ?c22 ?k22 ?aR ?lR ?vR ?zlen ?zrepr ?zisinstance ?zint ?zstr ?zbool ?ztuple ?zlist ?zall ?zabs ?zrange
    (case aC => k_is)
    (case hpg => k_is)
    (case hhd => k_is)
    (case hpo => k_is)
    (case hsa => k_is)
    (case hmk => k_is)
    (case hkc => k_is)
    (case hn1 => k_is)
    (case hn2 => k_is)
    (case hha => k_is)
    (case hhn => k_is)
    (case hht => k_is)
    (case hhm => k_is)
    (case hiint => k_is)
    (case hibool => k_is)
    (case histr => k_is)
    (case hituple => k_is)
    (case hcl => k_is)
    (case hty => k_is)
    (case hsub => k_is)
    (case hnf => k_is)
    (case a0 => k_is)
    (case l0 => k_is)
    (case c0 => k_is)
    (case k0 => k_is)
    (case a1 => k_is)
    (case l1 => k_is)
    (case c1 => k_is)
    (case k1 => k_is)
    (case a2 => k_is)
    (case l2 => k_is)
    (case c2 => k_is)
    (case k2 => k_is)
    (case a3 => k_is)
    (case l3 => k_is)
    (case c3 => k_is)
    (case k3 => k_is)
    (case a4 => k_is)
    (case l4 => k_is)
    (case c4 => k_is)
    (case k4 => k_is)
    (case a5 => k_is)
    (case l5 => k_is)
    (case c5 => k_is)
    (case k5 => k_is)
    (case a6 => k_is)
    (case l6 => k_is)
    (case c6 => k_is)
    (case k6 => k_is)
    (case a7 => k_is)
    (case l7 => k_is)
    (case c7 => k_is)
    (case k7 => k_is)
    (case a8 => k_is)
    (case l8 => k_is)
    (case c8 => k_is)
    (case k8 => k_is)
    (case a9 => k_is)
    (case l9 => k_is)
    (case c9 => k_is)
    (case k9 => k_is)
    (case a10 => k_is)
    (case l10 => k_is)
    (case c10 => k_is)
    (case k10 => k_is)
    (case a11 => k_is)
    (case l11 => k_is)
    (case c11 => k_is)
    (case k11 => k_is)
    (case a12 => k_is)
    (case l12 => k_is)
    (case c12 => k_is)
    (case k12 => k_is)
    (case a13 => k_is)
    (case l13 => k_is)
    (case c13 => k_is)
    (case k13 => k_is)
    (case a14 => k_is)
    (case l14 => k_is)
    (case c14 => k_is)
    (case k14 => k_is)
    (case a15 => k_is)
    (case l15 => k_is)
    (case c15 => k_is)
    (case k15 => k_is)
    (case a16 => k_is)
    (case l16 => k_is)
    (case c16 => k_is)
    (case k16 => k_is)
    (case a17 => k_is)
    (case l17 => k_is)
    (case c17 => k_is)
    (case k17 => k_is)
    (case a18 => k_is)
    (case l18 => k_is)
    (case c18 => k_is)
    (case k18 => k_is)
    (case a19 => k_is)
    (case l19 => k_is)
    (case c19 => k_is)
    (case k19 => k_is)
    (case a20 => k_is)
    (case l20 => k_is)
    (case c20 => k_is)
    (case k20 => k_is)
    (case a21 => k_is)
    (case i21 => k_is)
    (case l21 => k_is)
    (case c21 => k_is)
    (case k21 => k_is)
    (case a22 => k_is)
    (case i22 => k_is)
    (case l22 => k_is)
    (case c22 => k_is)
    (case k22 => k_is)
    (case aR => k_is)
    (case lR => k_is)
    (case vR => (repeat (first | exact .nil | refine .cons ⟨_, rfl⟩ ?_)))
    (case zlen => k_is)
    (case zrepr => k_is)
    (case zisinstance => k_is)
    (case zint => k_is)
    (case zstr => k_is)
    (case zbool => k_is)
    (case ztuple => k_is)
    (case zlist => k_is)
    (case zall => k_is)
    (case zabs => k_is)
    (case zrange => k_is)
#print axioms PySem.Challenge.cw_reachkept_k11_kinds_of_any_value_holds
