import PyProof.Rows.All
import Wide.All
import OpenK.AllK
import Wide.FinOn
import HandS.ForMost
import HandS.Wide
import HandS.IsInst
import HandS.Strs
import PyProof.ReprRoads
import PyProof.StrBlock2
import HandS.Evl
import HandS.Walk
import HandS.TupSets
import PyProof.P3Eq
import PyProof.StrLawsRepr
import PyProof.Rows.StrCase
import PyProof.Rows.TmSorted
import HandS.Zip
import PySem.Challenge.RW_onceswapped_k91_items_and_observations_w
set_option Elab.async false
set_option linter.all false
set_option maxRecDepth 100000
set_option maxHeartbeats 8000000
/-! guarded defs: a def's promise where no repr is under way (what repr of a list asks) -/
namespace Os
open PySem PySem.Spec PyProof.Rows L2

section
variable (P : Program) (w : World) (K : PySem.W.Frag) (mg : Str → Option Value) (base : Heap)
/-- the def at f keeps sp at every call that is made while no repr runs -/
structure FnG (k : Nat) (f : Addr) (fd : FuncData) (ps : List Str) (sp : Sp) : Prop where
  arity : ∀ vs H Q E, sp vs H Q E → vs.length = ps.length
  runs : ∀ (B : Around) (out : List Env) (st : Shared) (H : Hp) (ar : Args) (us : List Value) (vs : List V) (Q : VK) (E : XK),
    B.guards = some [] → Room k B → Env0 P w K mg base B out st H →
    BindsTo st fd ar (ps.zip us) → Vals vs us → sp vs H Q E →
    codeAny (model P w) B (.call (.ref f) ar) (CR CX0 out P w H st Q E) st
end

section
variable {P : Program} {w : World} {K : PySem.W.Frag} {mg : Str → Option Value} {base : Heap}

theorem FnG.of {k : Nat} {f : Addr} {fd : FuncData} {ps : List Str} {sp : Sp}
    (F : FnOk P w K mg base CX0 k f fd ps sp) : FnG P w K mg base k f fd ps sp :=
  ⟨F.len, fun B out st H ar us vs Q E _ => F.run B out st H ar us vs Q E⟩

theorem FnG.mono {j k : Nat} {f : Addr} {fd : FuncData} {ps : List Str} {sp : Sp} (F : FnG P w K mg base j f fd ps sp) (h : j ≤ k) : FnG P w K mg base k f fd ps sp :=
  ⟨F.arity, fun B out st H ar us vs Q E gd hr => F.runs B out st H ar us vs Q E gd (hr.mono h)⟩
/-- the rule for a def, the guards told to its body -/
theorem okG {x qual : Str} {st : Stmt} {f : Addr} {fd : FuncData} {N ps : List Str} {k : Nat} {sp : Sp}
    (F : Fun K x qual st f fd) (S : FnScope N ps (defScope st))
    (ar : ∀ vs H Q E, sp vs H Q E → vs.length = ps.length)
    (body : ∀ (cdv : Value) (B : Around) (out : List Env) (s : Shared) (H : Hp) (vs : List V) (Q : VK) (E : XK),
      B.guards = some [] → Room k (B.deeper (envOfC qual (defScope st) s.heap.objs.size f cdv)) → sp vs H Q E →
      ∃ t, PSs (cxOf CX0 P w K mg base N qual (defScope st) f cdv B out s H E).nox (defBody st) t ∧
        t { nx := fun _ H' => Q .non H', rt := Q } (start N vs) H) :
    FnG P w K mg base (k + 1) f fd ps sp := by
  obtain ⟨oc, od, kV, doc, pm, an, cd, ct, sl, efd, look, code⟩ := F.ex
  subst efd
  refine ⟨ar, ?_⟩
  intro B out s H args us vs Q E gd hr e0 hb rel hsp
  have hlen := ar _ _ _ _ hsp
  have inK : K.In s.heap := e0.mod.kin.keeps fun b o q => (e0.bs b o q).1
  have lim : s.heap.NoLimit :=
    e0.mod.nolimit.keeps fun b o q => (e0.bs b o q).1
  have kinds : ∀ y ∈ ps.zip us, (defScope st).names.lookup y.1 = some .local ∨
      ((defScope st).names.lookup y.1 = some .cell ∧ ((cellsFrom (s.heap.objs.size + 1) (defScope st).names []).lookup y.1).isSome = true) := by
    rintro ⟨n, v⟩ hy
    cases S.par n (List.of_mem_zip hy).1 with
    | inl q => exact .inl q
    | inr q => exact .inr ⟨q, PySem.W.cellsFrom_some _ _ _ (.inl q)⟩
  refine codeAny_call_function hr.depth (inK _ _ look) rfl S.co S.gen rfl (PySem.W.codeRec_of inK code) (hb _ _ _ _ ?_)
  refine wpAny_newFunctionEnv_cells S.kind kinds fun env ee s1 x => ?_
  cases ee
  refine ⟨lim.keeps x.toInCall.keep, codeAny_func ?_⟩
  obtain ⟨t, ht, hq⟩ := body cd B out s H vs Q E gd (hr.deeper _) hsp
  have I := inv_start (CX := CX0) (E := E) S hr.hd e0 hlen rel x
  refine wpAny_mono (ht.nox.run [] s1 (start N vs) H _ I hq) (fun fl s' hs => ?_) (fun _ _ z => z)
  cases fl with
  | ret u =>
    obtain ⟨v, sg, H', J, rv, q⟩ := hs
    exact ⟨v, H', J.os, J.bare, J.base, J.hok, rv, q⟩
  | next =>
    obtain ⟨sg, H', J, q⟩ := hs
    exact ⟨V.non, H', J.os, J.bare, J.base, J.hok, rfl, q⟩
  | brk => exact (hs.elim fun _ z => z.elim fun _ z => z.2).elim
  | cont => exact (hs.elim fun _ z => z.elim fun _ z => z.2).elim
end

section
variable {X : Cx} {k : Nat} {f : Addr} {fd : FuncData} {ps : List Str} {sp : Sp} {x : Str} {p pos : Pos} {e : Expr} {es : List Expr} {t : TA}
/-- a call of such a def -/
theorem pe_callG (F : FnG X.prog X.w X.K X.mg X.base k f fd ps sp) (gd : X.A.guards = some []) (hr : Room k X.A) (hg : Gl X x)
    (hm : X.mg x = some (.ref f)) (hk : PySem.W.keepIn X.K (.ref f) = true) (hb : Binds X.K fd ps [])
    (ha : PA X (e :: es) t) (hdb : (x == ("__debug__" : Str)) = false := by decide)
    (he : starEach (e :: es) X.env = (false, eval e X.env) :: starEach es X.env := by rfl)
    (hpl : (backTo pos (starEach es X.env)).any (·.1) = false := by rfl) :
    PE X (.Call (.Name x p) (e :: es) [] pos) (tCall sp [] E0 t) := by
  constructor
  intro pins s sg H Q I h
  refine wpAny_Call_Name_kw (ld_glob I hg hm ?_ hdb)
  refine PySem.W.callWith_K (h₀ := X.base) I.ok.mod.kin hk (thn (ha.run pos pins s sg H _ I h) ?_) he hpl
  rintro us s1 ⟨vs, H1, I1, r, q⟩
  refine ⟨I1.kIn, ?_⟩
  have r2 : Vals (vs ++ []) (us ++ []) := r.append .nil
  have hl : (us ++ []).length = ps.length := by
    rw [← r2.length]
    exact F.arity _ _ _ _ q
  refine wpAny_call (codeAny_mono (F.runs X.A X.stack s1 H1 ⟨us, []⟩ (us ++ []) (vs ++ []) Q E0 gd hr I1.env0 (hb s1 us I1.kIn hl) r2 q) ?_)
  intro rr s' hq
  match rr, hq with
  | .ok (.ret u), hq => exact I1.after hq
  | .ok .next, hq => exact hq.elim
  | .ok .brk, hq => exact hq.elim
  | .ok .cont, hq => exact hq.elim
  | .error _, hq => exact hq.elim
end

section
variable {P : Program} {w : World} {K : PySem.W.Frag} {mg mb : Str → Option Value} {k : Nat} {fa a : Addr} {fd : FuncData} {x : Str} {sp : Sp} {s1 : Shared} {vs : List Value} {ns : List Int}
/-- the heap that tracks at most the script -/
structure Bare (K : PySem.W.Frag) (a : Addr) (o : Obj) (h : Heap) (H : Hp) : Prop where
  only : Only H
  at' : ∀ b, H b ≠ none → b = a
  out : H a ≠ none → K.lookup a = none
theorem Bare.stay {o : Obj} {h : Heap} {H : Hp} (B : Bare K a o h H) (ho : h.get? a = some o) {b : Addr} {q : Obj} (e : h.get? b = some q) (no : b = a → q ≠ o) : H b = none :=
  Decidable.byContradiction fun z => by
    have eb := B.at' b z
    rw [eb, ho] at e
    exact no eb (Option.some.inj e).symm
theorem law_run (KX : K.In s1.heap) (hns : s1.heap.Ns mainGlobals mg) (hb : s1.heap.Ns builtinsNs mb)
    (hbb : ∀ x : Str, x ≠ "__name__" → mb x = bootBuiltins x) (hlim : s1.heap.NoLimit) (hg : s1.gens = #[])
    (ha : s1.heap.get? a = some { cls := .type "list", data := .seq vs.toArray }) {H : Hp} (B : Bare K a { cls := .type "list", data := .seq vs.toArray } s1.heap H)
    (ok : HOk P w H s1.heap) (hr : Room k callerA)
    (F : ∀ base : Heap, K.In base → base.Ns mainGlobals mg → FnG P w K mg base k fa fd [x] sp)
    (hbind : ∀ (s : Shared) (u : Value), BindsTo s fd ⟨[u], []⟩ [(x, u)])
    (hsp : sp [.ref a] H (fun v _ => v = .bl true) fun _ _ _ => False) :
    codeAny (model P w) callerA (.call (.ref fa) ⟨[.ref a], []⟩)
      (fun r s' => r = .ok (.ret (.bool true)) ∧ OldK s1.heap s'.heap ∧ s'.os = s1.os ∧ AllBare s'.gens) s1 := by
  have dictStays : ∀ {b : Addr} {m : Str → Option Value}, s1.heap.Ns b m → (hidT s1.heap H).Ns b m := by
    rintro b m ⟨o, es, ep, e, d, r⟩
    refine ⟨o, es, ep, hidT_get e (B.stay ha e fun _ z => ?_), d, r⟩
    subst z
    exact nomatch (show Data.seq vs.toArray _ = Data.dict es ep from d)
  have keptK : K.In (hidT s1.heap H) := fun b o e => hidT_get (KX b o e) <| Decidable.byContradiction fun z => by
    have eb := B.at' b z
    subst eb
    have := B.out z
    rw [e] at this
    cases this
  have M : Mod K mg (hidT s1.heap H) := by
    obtain ⟨mc, h1, h2⟩ := hlim
    exact ⟨keptK, dictStays hns, ⟨mb, dictStays hb, hbb⟩, ⟨mc, dictStays h1, h2⟩⟩
  have e0 : Env0 P w K mg (hidT s1.heap H) callerA [] s1 H := {
    frames := rfl, mod := M, bs := fun b o e => of_hidT e, bsz := Nat.le_of_eq (hidT_size _ _), funs := trivial,
    frf := fun b z => absurd (show b ∈ ([] : List Addr) from z) (by simp), hok := ok, bare := .of_eq hg }
  refine codeAny_mono ((F _ keptK (dictStays hns)).runs callerA [] s1 H ⟨[.ref a], []⟩ [.ref a] [.ref a] _ _ rfl hr e0 (hbind s1 (.ref a)) (.cons rfl .nil) hsp) ?_
  intro r s' hq
  match r, hq with
  | .error _, hq => exact hq.elim
  | .ok .next, hq => exact hq.elim
  | .ok .brk, hq => exact hq.elim
  | .ok .cont, hq => exact hq.elim
  | .ok (.ret u), ⟨v, H', os, bare, un, ok', r', q⟩ =>
    have q1 : v = .bl true := q
    subst q1
    have ru : u = Value.bool true := r'
    subst ru
    refine ⟨rfl, OldK.of_keep fun b o e => ?_, os, bare⟩
    rcases B.only b with z | ⟨ob, xs, z⟩
    · exact un.keep b o e z (fun y => absurd (show b ∈ ([] : List Addr) from y) (by simp)) (by simp)
    · have e1 := (ok b _ z).1
      have e2 := (ok' b _ (un.frzs b ob _ z)).1
      rw [e] at e1
      rw [e2, e1]
theorem law_callG (KX : K.In s1.heap) (hns : s1.heap.Ns mainGlobals mg) (hb : s1.heap.Ns builtinsNs mb)
    (hbb : ∀ x : Str, x ≠ "__name__" → mb x = bootBuiltins x) (hlim : s1.heap.NoLimit) (hg : s1.gens = #[])
    (ha : s1.heap.get? a = some { cls := .type "list", data := .seq vs.toArray }) (hi : IntsAre vs ns) (hl : ns.length ≤ sizeLine) (hr : Room k callerA)
    (F : ∀ base : Heap, K.In base → base.Ns mainGlobals mg → FnG P w K mg base k fa fd [x] sp)
    (hbind : ∀ (s : Shared) (u : Value), BindsTo s fd ⟨[u], []⟩ [(x, u)])
    (hsp : ∀ H : Hp, Only H → SqL K H a (ns.map V.int) → sp [.ref a] H (fun v _ => v = .bl true) fun _ _ _ => False) :
    codeAny (model P w) callerA (.call (.ref fa) ⟨[.ref a], []⟩)
      (fun r s' => r = .ok (.ret (.bool true)) ∧ OldK s1.heap s'.heap ∧ s'.os = s1.os ∧ AllBare s'.gens) s1 := by
  have rv : Vals (ns.map V.int) vs := vals_ints hi
  have hlen : vs.length = ns.length := hi.length
  by_cases hk : ∃ o, K.lookup a = some o
  · obtain ⟨o, hk⟩ := hk
    have e := KX a o hk
    rw [ha] at e
    have eo := Option.some.inj e
    subst eo
    have hO : Only (fun _ => none) := fun _ => .inl rfl
    refine law_run KX hns hb hbb hlim hg ha (H := fun _ => none) ⟨hO, fun b z => absurd rfl z, fun z => absurd rfl z⟩ (fun b u z => nomatch (show (none : Option HO) = some u from z)) hr F hbind (hsp _ hO ?_)
    exact .inr ⟨_, vs.toArray, _, hk, rfl, rfl, rfl, by rw [List.size_toArray, hlen]; exact hl, by simpa using rv⟩
  · have hk0 : K.lookup a = none := Option.eq_none_iff_forall_ne_some.mpr fun o q => hk ⟨o, q⟩
    let H1 : Hp := upd (fun _ => none) a (.frz { cls := .type "list", data := .seq vs.toArray } (.lst (ns.map V.int)))
    have at1 : ∀ b, H1 b ≠ none → b = a := fun b z => Decidable.byContradiction fun n => z (upd_ne n)
    have hO : Only H1 := fun b => by
      by_cases n : b = a
      · exact .inr ⟨_, _, by rw [n]; exact upd_same⟩
      · exact .inl (upd_ne n)
    refine law_run KX hns hb hbb hlim hg ha (H := H1) ⟨hO, at1, fun _ => hk0⟩ (fun b u z => ?_) hr F hbind (hsp _ hO (.inl (.inr ⟨_, upd_same⟩)))
    have eb := at1 b (by rw [z]; exact fun q => nomatch q)
    subst eb
    have z2 : some (HO.frz { cls := .type "list", data := .seq vs.toArray } (.lst (ns.map V.int))) = some u := upd_same.symm.trans z
    cases z2
    exact ⟨ha, by rw [List.length_map]; exact hl, vs, _, rv, ha⟩

/-- the goal that k_head leaves, from the law's guarded promise -/
theorem walk_ofG {l : PySem.W.OpenLaw} {n k : Nat} {q : Program} {loose : List Str} {XP : (Str → Option Value) → Heap → Prop} {YP : World → Heap → Prop}
    {d : DefRec} {K : Params → PySem.W.Frag} {sp : World → Sp} {x : Str}
    (hn : l.most = some n) (hn2 : n ≤ sizeLine) (hdf : d.params.defaults = []) (hr : Room k callerA)
    (hY : ∀ (w : World) (h : Heap), YP w h → (K w.params).In h)
    (F : ∀ (w : World) (mg : Str → Option Value) (fa : Addr) (h : Heap), (K w.params).In h → h.Ns mainGlobals mg → mg d.name = some (.ref fa) →
      ∃ fd : FuncData, (∀ (s : Shared) (u : Value), BindsTo s fd ⟨[u], []⟩ [(x, u)]) ∧
        ∀ base : Heap, (K w.params).In base → base.Ns mainGlobals mg → FnG l.prog w (K w.params) mg base k fa fd [x] (sp w))
    (hsp : ∀ (w : World) (H : Hp) (a : Addr) (ns : List Int), ns.length ≤ n → Only H → SqL (K w.params) H a (ns.map V.int) →
      sp w [.ref a] H (fun v _ => v = .bl true) fun _ _ _ => False) :
    PySem.W.WalkO q loose XP YP l.row.toRowW d [] (fun f vs => PySem.call f vs) :=
  Att.attach_call hn hdf fun w s₀ s₁ mg mb fa o pm cd doc a vs ns G Y ho hd hcd hmg hobj hints hlen hg =>
    have KX := hY w _ Y
    match F w mg fa _ KX G.T.g hmg with
    | ⟨_, hb, hF⟩ => law_callG KX G.T.g G.T.b G.T.builtins G.T.nolimit hg hobj hints (Nat.le_trans hlen hn2) hr hF hb
        (fun H hO hS => hsp w H a ns hlen hO hS)
end

/-! ### a call by keywords alone, in the opposite order of the parameters -/
def revG (us ws : List Value) : List Value := match us with
  | [] => ws.reverse
  | _ => []
def revV (us ws : List V) : List V := match us with
  | [] => ws.reverse
  | _ => []
theorem Vals.rev : ∀ {vs : List V} {us : List Value}, Vals vs us → Vals vs.reverse us.reverse
  | _, _, .nil => .nil
  | _, _, .cons r t => by
    rw [List.reverse_cons, List.reverse_cons]
    exact Vals.append (Vals.rev t) (.cons r .nil)
theorem revK {K : PySem.W.Frag} {fd : FuncData} {ps ks : List Str} (hp : ps ≠ []) (h : ∀ ws : List Value, ws.length = ps.length → bindArgs fd ⟨[], ks.zip ws⟩ = pure (ps.zip ws.reverse)) : KBinds K fd ps ks revG revV where
  to := fun s us ws _ hl => by
    cases us with
    | nil => exact .of_eq (h ws (by rw [← hl]; exact (List.length_reverse).symm))
    | cons u us =>
      have hl' : ([] : List Value).length = ps.length := hl
      exact absurd (List.length_eq_zero_iff.mp hl'.symm) hp
  rel := fun {vs us zs ws} r1 r2 => by
    cases r1 with
    | nil => exact Vals.rev r2
    | cons _ _ => exact .nil
theorem funRevK {K : PySem.W.Frag} {x qual : Str} {st : Stmt} {f : Addr} {fd : FuncData} {ps ks : List Str} (F : Fun K x qual st f fd) (hp : ps ≠ [])
    (h : ∀ (kV doc pm : Value) (an : Option Addr) (cdv ct : Value) (ws : List Value), ws.length = ps.length →
      bindArgs (PySem.W.fnOf x qual (defArgs st) (defBody st) (defScope st) .none kV doc pm an cdv ct) ⟨[], ks.zip ws⟩ = pure (ps.zip ws.reverse)) : KBinds K fd ps ks revG revV := by
  obtain ⟨oc, od, kV, doc, pm, an, cd, ct, sl, efd, look, code⟩ := F.ex
  subst efd
  exact revK hp (h kV doc pm an cd ct)
section
variable {X : Cx} {CX : CXT} {k : Nat} {f : Addr} {fd : FuncData} {ps ks : List Str} {sp : Sp} {E : XK} {x : Str} {p pos : Pos} {kws : List Keyword} {tk : TA} {g : List Value → List Value → List Value} {gV : List V → List V → List V}
theorem pe_callK0 (F : FnOk X.prog X.w X.K X.mg X.base CX k f fd ps sp) (hr : Room k X.A) (hg : Gl X x) (hm : X.mg x = some (.ref f)) (hk : PySem.W.keepIn X.K (.ref f) = true)
    (hb : KBinds X.K fd ps ks g gV) (hx : Passes CX X E) (hkw : PK X kws tk)
    (hall : (backToKw pos (keywordEach kws X.env)).all (·.1.isSome) = true := by rfl)
    (hks : (backToKw pos (keywordEach kws X.env)).filterMap (·.1) = ks := by rfl)
    (hdb : (x == ("__debug__" : Str)) = false := by decide)
    (hpl : ((backTo pos (starEach [] X.env)).any (·.1) || (backToKw pos (keywordEach kws X.env)).any (·.1.isNone)) = false := by rfl) :
    PE X (.Call (.Name x p) [] kws pos) (tCallK sp gV E tNil tk) := by
  constructor
  intro pins s sg H Q I h
  refine wpAny_Call_Name_kw (ld_glob I hg hm ?_ hdb)
  refine PySem.W.callWith_KW0 (h₀ := X.base) I.ok.mod.kin hk hall (thn (hkw.run pos pins s sg H _ I h) ?_) hpl
  rintro ws s2 ⟨zs, H2, I2, rz, q2⟩
  refine ⟨I2.kIn, ?_⟩
  rw [hks]
  exact run_fnk (us := []) (vs := []) F hr hb hx I2 .nil rz q2
end
end Os
/-! further rules by values: ** of great ints, repr of data, len(set(texts)), text * int, a call by keywords alone -/
namespace Os
open PySem PySem.Spec PyProof.Rows L2

/-! ### great powers -/
section
variable {X : Cx}
theorem op_powW : OpR X (binaryOp .Pow) (rI (fun i j => 0 ≤ j ∧ (Builtin.Int.intBits i : Int) * j ≤ 2 ^ 27) fun i j => .int (i ^ j.toNat)) :=
  opI fun _ _ _ _ _ _ _ hc q => pow_int hc.1 hc.2 q
end
theorem cube_ok {i : Int} {n : Nat} (h : i.natAbs < 2 ^ n) (h0 : 0 < n) (hn : n ≤ 1000000) : (0 : Int) ≤ 3 ∧ (Builtin.Int.intBits i : Int) * 3 ≤ 2 ^ 27 := by
  have hl := PySem.Flt.log2_lt_of h0 h
  have hb : Builtin.Int.intBits i ≤ i.natAbs.log2 + 1 := by
    unfold Builtin.Int.intBits
    split <;> omega
  omega

/-! ### text * int -/
section
variable {X : Cx}
def rMulS : R2 := fun x y H Q => ∃ (z : Str) (n : Int), x = .str z ∧ y = .int n ∧ MulOk z n ∧ Q (.str (Txt.mul z n)) H
theorem op_mulS : OpR X (binaryOp .Mult) rMulS := by
  intro pins s sg H x y v u Q I rx ry h
  obtain ⟨z, n, rfl, rfl, ok, q⟩ := h
  obtain ⟨t, rfl⟩ := rx
  obtain ⟨t', rfl⟩ := ry
  exact PySem.SB.mul ok fun t2 k => ⟨.str _, H, I.tok _, ⟨_, rfl⟩, q⟩
theorem mul_small {z : Str} {n : Int} (h0 : 0 ≤ n) (h1 : n ≤ 1000) (hz : z.length ≤ 1000) : MulOk z n := by
  refine ⟨?_, fun h _ => ?_, fun h _ => ?_⟩
  · rw [decide_eq_false (by omega), decide_eq_false (by omega)]
    rfl
  · have hn : 0 < n := by omega
    have : (1000 : Int) ≤ (2 ^ 63 - 1) / n := (Int.le_ediv_iff_mul_le hn).mpr (by omega)
    omega
  · have hm : z.length * n.toNat ≤ 1000 * 1000 := Nat.mul_le_mul hz (by omega)
    unfold Builtin.Str.tooLong
    have hl : (1000 * 1000 : Nat) ≤ sizeLine := by decide
    simp only [decide_eq_false_iff_not]
    omega
end

/-! ### data that stands in the tracked heap -/
mutual
inductive Dt (H : Hp) : V → PyData → Prop
  | non : Dt H .non .none
  | bl (b : Bool) : Dt H (.bl b) (.bool b)
  | int (i : Int) : Dt H (.int i) (.int i)
  | str (x : Str) : Dt H (.str x) (.str x)
  | lst {a : Addr} {xs : List V} {ds : List PyData} : H a = some (.lst xs) → Dts H xs ds → Dt H (.ref a) (.list ds)
  | tup {a : Addr} {xs : List V} {ds : List PyData} : H a = some (.tup xs) → Dts H xs ds → Dt H (.ref a) (.tuple ds)
inductive Dts (H : Hp) : List V → List PyData → Prop
  | nil : Dts H [] []
  | cons {v : V} {vs : List V} {d : PyData} {ds : List PyData} : Dt H v d → Dts H vs ds → Dts H (v :: vs) (d :: ds)
end
section
variable {H H' : Hp}
mutual
theorem Dt.same (e : Same H H') : ∀ {d : PyData} {v : V}, Dt H v d → Dt H' v d
  | _, _, .non => .non
  | _, _, .bl b => .bl b
  | _, _, .int i => .int i
  | _, _, .str x => .str x
  | _, _, .lst h t => .lst (e _ _ h) (Dts.same e t)
  | _, _, .tup h t => .tup (e _ _ h) (Dts.same e t)
theorem Dts.same (e : Same H H') : ∀ {ds : List PyData} {vs : List V}, Dts H vs ds → Dts H' vs ds
  | _, _, .nil => .nil
  | _, _, .cons h t => .cons (Dt.same e h) (Dts.same e t)
end
mutual
theorem Dt.dp {K : PySem.W.Frag} : ∀ {d : PyData} {v : V}, Dt H v d → Dp K H v d
  | _, _, .non => .non
  | _, _, .bl b => .bl b
  | _, _, .int i => .int i
  | _, _, .str x => .str x
  | _, _, .lst h t => .lst (.inl (.inl h)) (Dts.dp t)
  | _, _, .tup h t => .tup (.inl (.inl h)) (Dts.dp t)
theorem Dts.dp {K : PySem.W.Frag} : ∀ {ds : List PyData} {vs : List V}, Dts H vs ds → DpAll K H vs ds
  | _, _, .nil => .nil
  | _, _, .cons h t => .cons (Dt.dp h) (Dts.dp t)
end
theorem Dts.length : ∀ {ds : List PyData} {vs : List V}, Dts H vs ds → vs.length = ds.length
  | _, _, .nil => rfl
  | _, _, .cons _ t => congrArg (· + 1) (Dts.length t)
theorem Dts.get : ∀ {ds : List PyData} {vs : List V} {i : Nat} {v : V}, Dts H vs ds → vs[i]? = some v → ∃ d, ds[i]? = some d ∧ Dt H v d
  | _, _, _, _, .nil, e => by simp at e
  | _, _, 0, _, .cons h _, e => by simp at e; subst e; exact ⟨_, rfl, h⟩
  | _, _, i + 1, v, .cons _ t, e => by
    obtain ⟨d, h1, h2⟩ := Dts.get (i := i) (v := v) t (by simpa using e)
    exact ⟨d, by simpa using h1, h2⟩
end

/-! ### repr of such data -/
section
variable {X : Cx}
/-- how large data is when it is shown -/
structure Fit (n : Nat) (d : PyData) : Prop where
  long : d.shown.length ≤ n
  deep : d.depth ≤ 40
  show' : d.showable = true
  flat : d.hasDict = false
def rRepr : List V → Hp → VK → Prop := fun xs H Q => ∃ (x : V) (d : PyData), xs = [x] ∧ Dt H x d ∧ Fit sizeLine d ∧ Q (.str d.shown) H
theorem call_repr (gd : X.A.guards = some []) (hu : X.A.units + 64 < cLine) : CallR X (.builtin "repr") rRepr := by
  intro pins s sg H xs us Q I r h
  obtain ⟨x, d, e, hd, fit, q⟩ := h
  subst e
  obtain ⟨u, rfl, ru⟩ := Vals.one r
  have line : d.shown.length ≤ sizeLine := fit.long
  match d, x, hd with
  | _, _, .non =>
    cases ru
    exact PySem.P.repr_of_none ⟨.str _, H, I.tok _, ⟨_, rfl⟩, by simpa only [PyData.shown] using q⟩
  | _, _, .bl b =>
    cases ru
    exact PySem.P.repr_of_bool ⟨.str _, H, I.tok _, ⟨_, rfl⟩, by simpa only [PyData.shown] using q⟩
  | _, _, .int i =>
    obtain ⟨t, rfl⟩ := ru
    have hz : i.natAbs.log2 < 1920 := of_decide_eq_true (by simpa only [PyData.showable] using fit.show')
    exact PySem.P.repr_of_int hz ⟨.str _, H, I.tok _, ⟨_, rfl⟩, by simpa only [PyData.shown] using q⟩
  | _, _, .str z =>
    obtain ⟨t, rfl⟩ := ru
    exact PySem.P.repr_of_str ⟨.str _, H, I.tok _, ⟨_, rfl⟩, by simpa only [PyData.shown] using q⟩ (by simpa only [PyData.shown] using line)
  | _, _, .lst ha ht =>
    obtain ⟨as, rd⟩ := Dp.reads I _ _ u (Dt.dp (.lst ha ht)) ru
    cases ru
    refine PySem.repr_of_reads' rd fit.show' (PyData.noDict_hsm fit.flat) gd (by have := fit.deep; omega) (fun _ _ z => z) (fun h' u' tk k => ?_) line
    exact ⟨.str _, H, I.kept k, ⟨_, rfl⟩, q⟩
  | _, _, .tup ha ht =>
    obtain ⟨as, rd⟩ := Dp.reads I _ _ u (Dt.dp (.tup ha ht)) ru
    cases ru
    refine PySem.repr_of_reads' rd fit.show' (PyData.noDict_hsm fit.flat) gd (by have := fit.deep; omega) (fun _ _ z => z) (fun h' u' tk k => ?_) line
    exact ⟨.str _, H, I.kept k, ⟨_, rfl⟩, q⟩
end
end Os
/-! len(set(xs)), xs a list of texts of any number below 4000 -/
namespace Os
open PySem PySem.Spec PyProof.Rows L2

/-- the texts met so far, each once -/
def once : List Str → List Str
  | [] => []
  | x :: r => if x ∈ once r then once r else x :: once r
/-- the same from the left, over the first i of them -/
def met (xs : List Str) (i : Nat) : List Str := once (xs.take i).reverse
theorem met_zero (xs : List Str) : met xs 0 = [] := rfl
theorem met_succ {xs : List Str} {i : Nat} {x : Str} (h : xs[i]? = some x) : met xs (i + 1) = if x ∈ met xs i then met xs i else x :: met xs i := by
  unfold met
  rw [List.take_add_one, h]
  show once ((xs.take i ++ [x]).reverse) = _
  rw [List.reverse_append]
  rfl
theorem once_mem : ∀ {l : List Str} {x : Str}, x ∈ once l ↔ x ∈ l
  | [], _ => Iff.rfl
  | y :: r, x => by
    have ih := @once_mem r
    unfold once
    split
    · rename_i hy
      rw [ih, List.mem_cons]
      exact ⟨.inr, fun z => z.elim (fun e => by rw [e]; exact ih.mp hy) id⟩
    · rw [List.mem_cons, List.mem_cons, ih]
theorem once_le : ∀ l : List Str, (once l).length ≤ l.length
  | [] => Nat.le_refl _
  | y :: r => by
    have ih := once_le r
    unfold once
    split
    · exact Nat.le_succ_of_le ih
    · exact Nat.succ_le_succ ih
theorem once_nodup : ∀ l : List Str, (once l).length = l.length ↔ l.Nodup
  | [] => ⟨fun _ => .nil, fun _ => rfl⟩
  | y :: r => by
    have ih := once_nodup r
    have le := once_le r
    unfold once
    rw [List.nodup_cons]
    split
    · rename_i hy
      constructor
      · intro e
        rw [List.length_cons] at e
        omega
      · intro e
        exact absurd (once_mem.mp hy) e.1
    · rename_i hy
      rw [List.length_cons, List.length_cons]
      constructor
      · intro e
        exact ⟨fun z => hy (once_mem.mpr z), ih.mp (Nat.succ.inj e)⟩
      · intro e
        rw [ih.mpr e.2]
theorem met_le (xs : List Str) (i : Nat) : (met xs i).length ≤ i := by
  refine Nat.le_trans (once_le _) ?_
  rw [List.length_reverse, List.length_take]
  exact Nat.min_le_left _ _
theorem met_all (xs : List Str) : (met xs xs.length).length = xs.length ↔ xs.Nodup := by
  unfold met
  rw [List.take_length]
  have := once_nodup xs.reverse
  rw [List.length_reverse] at this
  rw [this]
  unfold List.Nodup
  rw [List.pairwise_reverse]
  exact ⟨fun h => h.imp fun a => a.symm, fun h => h.imp fun a => a.symm⟩

section
variable {prog : Program} {w : World} {A : Around} {R : Result → Shared → Prop} {I : Addr} {fp wr : List Addr} {G : Array GenState → Array GenState → Prop} {n : Nat} {P : Nat → Value → Prop} {St : Nat → Shared → Prop}
/-- what the set at S holds behind i turns -/
abbrev Holds (prog : Program) (w : World) (xs : List Str) (S : Addr) (i : Nat) (h : Heap) : Prop :=
  h.SetOf (PySem.strKind prog w) S (fun k => decide (k ∈ met xs i)) (met xs i).length
theorem set_fill (W : WalksS prog w A.in1 I fp wr G n P St) (S : Addr) (out : S ∉ fp) (xs : List Str)
    (ln : xs.length = n) (val : ∀ i v, P i v → ∃ x t, xs[i]? = some x ∧ v = .str x t) (room : n + 1 < scanBound) :
    ∀ (left i : Nat) (s : Shared), i + left = n → St i s → Holds prog w xs S i s.heap →
      (∀ s', Moved (S :: wr) G s s' → Holds prog w xs S n s'.heap → R (.ok (.ret .none)) s') →
      codeAny (model prog w) A (.builtin "set.update.loop" ⟨[.ref S, .ref I], []⟩) R s := by
  have noS : S ∉ wr := fun z => out (W.sub _ z)
  have more : ∀ b ∈ wr, b ∈ S :: wr := fun _ z => List.mem_cons_of_mem _ z
  have carried : ∀ {i : Nat} {s s' : Shared}, Moved wr G s s' → Holds prog w xs S i s.heap → Holds prog w xs S i s'.heap := by
    rintro i s s' mv ⟨o, es, ep, t, ho, rest⟩
    exact ⟨o, es, ep, t, mv.heap S _ noS ho, rest⟩
  intro left
  induction left with
  | zero =>
    intro i s e st hS fin
    have ein : i = n := e
    subst ein
    refine codeAny_builtin PyProof.Rows.F.entry_set_update_loop ?_
    rw [Around.under_plainId PyProof.Rows.F.plain_set_update_loop _]
    refine wpAny_bind (m := pyNext (.ref I)) (W.done s _ _ st fun s' mv => ?_)
    exact wpAny_pure (fin s' (mv.mono more) (carried mv hS))
  | succ left ih =>
    intro i s e st hS fin
    have lt : i < n := by omega
    refine codeAny_builtin PyProof.Rows.F.entry_set_update_loop ?_
    rw [Around.under_plainId PyProof.Rows.F.plain_set_update_loop _]
    refine wpAny_bind (m := pyNext (.ref I)) (W.item i s _ _ lt st fun v s' hP st' mv => ?_)
    obtain ⟨x, t, hx, ev⟩ := val i v hP
    subst ev
    have hS1 := carried mv hS
    show wpAny _ A.in1 (holding [Value.str x t] (setAdd S (.str x t)) >>= _) _ _ s'
    refine wpAny_bind (wpAny_holding ?_)
    unfold setAdd
    refine wpAny_holding (wpAny_bind ((PySem.strKind prog w).pyHash (k := x) (strKind_is _ _ _ _) ?_))
    have fits : (met xs i).length + 1 < scanBound := by
      have := met_le xs i
      omega
    refine wpAny_setAddHashed_of (knd := PySem.strKind prog w) (s := { s' with toks := s'.toks + 1 }) (strKind_is _ _ _ _) rfl hS1 fits fun h' same hS2 => ?_
    have hS3 : Holds prog w xs S (i + 1) h' := by
      refine PyProof.Rows.SetOf_congr hS2 (fun k => ?_) ?_
      · rw [met_succ hx]
        by_cases m : x ∈ met xs i
        · rw [if_pos m]
          by_cases ek : k = x
          · subst ek
            simp [m]
          · simp [ek]
        · rw [if_neg m]
          by_cases ek : k = x
          · subst ek
            simp
          · simp [ek]
      · rw [met_succ hx]
        by_cases m : x ∈ met xs i
        · simp [m]
        · simp [m]
    refine wpAny_pure ⟨plainId_quiet PyProof.Rows.F.plain_set_update_loop _, ih (i + 1) _ (by omega) (W.frame _ s' _ _ st' (Nat.le_succ _) fun b hb o q => ?_) hS3 fun s2 mv2 hS4 => ?_⟩
    · rw [same.2 b (fun z : b = S => out (by rw [← z]; exact hb))]
      exact q
    · refine fin s2 (Moved.trans W.gtrans ((mv.mono more).then_heap (Nat.le_succ _) fun b o hb q => ?_) mv2) hS4
      rw [same.2 b (fun z : b = S => hb (by rw [z]; exact List.mem_cons_self))]
      exact q
end

section
variable {prog : Program} {w : World} {A : Around} {E : Value → Shared → Prop} {s : Shared}
/-- a new set -/
abbrev freshSet (led : Bool) : Obj := { cls := .type "set", dict := none, data := .set #[] 0 (.fresh 0 0 led) }
/-- its __init__ over a list of texts -/
theorem init_set_strs {l : Addr} {items : Array Value} {xs : List Str} {led : Bool} {R : Result → Shared → Prop} (hh : A.handled = none)
    (hl : s.heap.IsList l items) (hi : PyProof.Rows.StrsAre items.toList xs) (room : xs.length + 1 < scanBound)
    (h : ∀ (h' : Heap) (tk : Nat), Holds prog w xs s.heap.objs.size xs.length h' →
      (∀ b o, b < s.heap.objs.size → s.heap.get? b = some o → h'.get? b = some o) → R (.ok (.ret .none)) { s with heap := h', toks := tk }) :
    wpAny (model prog w) A.in1 (Builtin.«set.__init__» ⟨[.ref s.heap.objs.size, .ref l], []⟩) (fun fin s' => match fin with
        | .done f => R (.ok f) s'
        | .again c => c.quiet = true ∧ codeAny (model prog w) A c R s')
      (fun e s' => R (.error e) s') { s with heap := s.heap.push (freshSet led) } := by
  obtain ⟨⟨_, od, _, osl⟩, hol, rfl, nl, rfl⟩ := hl
  have there : (s.heap.push (freshSet led)).get? l = some ⟨.type "list", od, .seq items nl, osl⟩ := Heap.get?_push_of_some _ hol
  have newAt : (s.heap.push (freshSet led)).get? s.heap.objs.size = some (freshSet led) := Heap.get?_push_size _ rfl
  have lst1 : (s.heap.push (freshSet led)).IsList l items := ⟨_, there, rfl, nl, rfl⟩
  have hT : Shared.TypeIs { s with heap := s.heap.push (freshSet led) } (.ref s.heap.objs.size) "set" := ⟨_, newAt, rfl⟩
  have subS := PySem.F.sub_list_set
  have subF := PySem.F.sub_list_frozenset
  have notD : (Value.type "list" == Value.type "dict") = false := by decide
  unfold Builtin.«set.__init__» noKeywords Builtin.Frozenset.updateFrom
  generalize hPI : pyIter = PI
  wp_walk
  subst hPI
  refine wpAny_pyIter_list lst1 ?_
  refine wpAny_bind (wpAny_runValue ?_)
  have lS : l < s.heap.objs.size := Heap.lt_size hol
  have hh2 : A.in1.in1.handled = none := by simp [hh]
  have apart : l ≠ (s.heap.push (freshSet led)).objs.size := by
    rw [Heap.size_push]
    exact Nat.ne_of_lt (Nat.lt_succ_of_lt lS)
  have outer : s.heap.objs.size ∉ [(s.heap.push (freshSet led)).objs.size, l] := by
    rw [Heap.size_push]
    intro z
    rcases List.mem_cons.mp z with z | z
    · exact absurd z (Nat.ne_of_lt (Nat.lt_succ_self _))
    · exact absurd (List.mem_singleton.mp z) (Nat.ne_of_gt lS)
  have hsz : xs.length = items.size := by rw [← StrsAre.len_eq hi, Array.length_toList]
  have vals : ∀ (i : Nat) (v : Value), items[i]? = some v → ∃ x t, xs[i]? = some x ∧ v = .str x t := fun i v hv => by
    rw [← Array.getElem?_toList] at hv
    obtain ⟨t, e⟩ := SS.strs_at hi i v hv
    have lt : i < xs.length := by
      rw [← StrsAre.len_eq hi]
      exact (List.getElem?_eq_some_iff.mp hv).1
    refine ⟨xs[i], t, List.getElem?_eq_getElem lt, ?_⟩
    rw [e, List.getD_eq_getElem?_getD, List.getElem?_eq_getElem lt]
    rfl
  refine set_fill ((Walks.list hh2 _ l apart items).toS) s.heap.objs.size outer xs hsz vals (by rw [← hsz]; exact room) items.size 0 _ (Nat.zero_add _)
    ?start ?first ?last
  case start => exact ⟨⟨_, Heap.get?_push_size _ rfl, rfl, rfl⟩, (lst1.push _)⟩
  case first =>
    refine PyProof.Rows.SetOf_congr ((PyProof.Rows.setObjOf_fresh (knd := PySem.strKind prog w) led).setOf (Heap.get?_push_of_some _ newAt) (by unfold scanBound; omega)) (fun k => ?_) rfl
    rw [met_zero]
    rfl
  case last =>
    intro s' mv hS
    obtain ⟨h', g', d', tk', os'⟩ := s'
    have e1 : g' = s.gens := mv.gens
    have e2 : d' = s.drawn := mv.drawn
    have e3 : os' = s.os := mv.os
    subst e1 e2 e3
    show wpAny _ _ _ _ _ _
    refine wpAny_pure ?_
    refine wpAny_pure (h h' tk' (by rw [hsz]; exact hS) fun b o hb q => ?_)
    refine mv.heap b o (fun z => ?_) (Heap.get?_push_of_some _ (Heap.get?_push_of_some _ q))
    rcases List.mem_cons.mp z with z | z
    · exact absurd z (Nat.ne_of_lt hb)
    · rw [List.mem_singleton, Heap.size_push] at z
      exact absurd z (Nat.ne_of_lt (Nat.lt_succ_of_lt hb))

/-- set(xs), xs a list of texts -/
theorem call_set_strs {l : Addr} {items : Array Value} {xs : List Str} {Q : Value → Shared → Prop} (hh : A.handled = none)
    (hl : s.heap.IsList l items) (hi : PyProof.Rows.StrsAre items.toList xs) (room : xs.length + 1 < scanBound)
    (h : ∀ (h' : Heap) (tk : Nat), Holds prog w xs s.heap.objs.size xs.length h' →
      (∀ b o, b < s.heap.objs.size → s.heap.get? b = some o → h'.get? b = some o) → Q (.ref s.heap.objs.size) { s with heap := h', toks := tk }) :
    wpAny (model prog w) A (call (.type "set") [.ref l]) Q E s := by
  obtain ⟨c, tl, mro⟩ := PySem.F.called_set.mro
  have made := PySem.F.called_set.made
  have sub := PySem.F.called_set.sub
  have noTy := PySem.F.called_set.notType
  have creates := PySem.F.called_set.canCreate
  have typeCall := PySem.F.typeCall_set_1 (.ref l)
  refine wpAny_call (codeAny_of_tree ?_)
  show wpAny _ _ (callAny (.type "set") _) _ _ _
  refine wpAny_pure ⟨Code.quiet_builtin _ (by decide +kernel), codeAny_builtin PySem.F.entry_type_call ?_⟩
  rw [Around.under_plain (weight_type_call_type "set" [.ref l] []) rfl]
  repeat (any_goals (first | assumption | wp_step))
  refine codeAny_mono (code_set_new_1 (.ref l) (E := E) (Q₁ := fun v s₁ => ∃ led : Bool, v = .ref s.heap.objs.size ∧ s₁ = { s with heap := s.heap.push (freshSet led) }) fun led => ⟨led, rfl, rfl⟩) ?_
  intro r s1 hr
  match r, hr with
  | .error _, hr => exact hr
  | .ok .next, hr => exact hr.elim
  | .ok .brk, hr => exact hr.elim
  | .ok .cont, hr => exact hr.elim
  | .ok (.ret v), ⟨led, ev, es⟩ =>
    subst ev es
    have newAt : (s.heap.push (freshSet led)).get? s.heap.objs.size = some (freshSet led) := Heap.get?_push_size _ rfl
    have hT : Shared.TypeIs { s with heap := s.heap.push (freshSet led) } (.ref s.heap.objs.size) "set" := ⟨_, newAt, rfl⟩
    have initLook := PySem.F.called_set.init.lookup
    have initBind := PySem.F.called_set.init.bind (.ref s.heap.objs.size)
    repeat (any_goals (first | assumption | wp_step))
    refine codeAny_mono (codeAny_call_builtin (R := wants (fun v s2 => v = .none ∧ ∃ h' tk, s2 = { s with heap := h', toks := tk } ∧ Holds prog w xs s.heap.objs.size xs.length h' ∧
      (∀ b o, b < s.heap.objs.size → s.heap.get? b = some o → h'.get? b = some o)) E) PySem.F.called_set.init.plain PySem.F.entry_set_init (check_set_init_1 hT (init_set_strs (by simp [hh]) hl hi room fun h' tk a b => ⟨rfl, h', tk, rfl, a, b⟩))) ?_
    intro r2 s2 hr2
    match r2, hr2 with
    | .error _, hr2 => exact hr2
    | .ok .next, hr2 => exact hr2.elim
    | .ok .brk, hr2 => exact hr2.elim
    | .ok .cont, hr2 => exact hr2.elim
    | .ok (.ret v2), ⟨ev2, h', tk, es2, a, b⟩ =>
      subst ev2 es2
      repeat (any_goals (first | assumption | wp_step))
      exact h _ _ a b
end

/-- len(set(xs)) -/
def tLenSetS (K : PySem.W.Frag) (ta : TE) : TE := fun σ H Q => ta σ H fun x H1 => ∃ (l : Addr) (xs : List Str), x = .ref l ∧ SqL K H1 l (xs.map V.str) ∧ xs.length ≤ 4000 ∧ Q (.int (met xs xs.length).length) H1
theorem pe_lenSetS {X : Cx} {a : Expr} {ta : TE} {p p2 q pos : Pos} (hg : Gl X "len") (hm : X.mg "len" = none) (hg2 : Gl X "set") (hm2 : X.mg "set" = none) (ha : PE X a ta) (hc : X.calm = true := by rfl)
    (na : starEach [a] X.env = (false, eval a X.env) :: starEach [] X.env := by rfl) : PE X (.Call (.Name "len" p) [.Call (.Name "set" p2) [a] [] q] [] pos) (tLenSetS X.K ta) := by
  constructor
  intro pins s sg H Q I h
  refine Call_ (ld_blt I hg hm boot_len ?_)
  refine PyProof.Rows.callWith_builtin1 (PyProof.Rows.args_cons ?_ rfl) rfl rfl
  refine Call_ (ld_blt I hg2 hm2 boot_set ?_)
  refine PyProof.Rows.callWith_type1 (PyProof.Rows.args_cons (thn (ha.run pins s sg H _ I h) ?_) na) na rfl
  rintro v s1 ⟨x, H1, I1, r1, l, xs, ex, hq, hl, q1⟩
  refine PyProof.Rows.args_nil ?_
  subst ex
  cases r1
  obtain ⟨its, r, pl, hz⟩ := I1.list hq
  refine call_set_strs (I1.ok.hd hc) pl.isList (by simpa using Vals.strs r) (by unfold scanBound; omega) fun h' tk hS hk => ?_
  refine PyProof.Rows.args_nil ?_
  obtain ⟨o, es, ep, t, ho, hex, hd, _, _, _, hf, hn⟩ := hS
  have I2 : Inv X pins sg H1 { s1 with heap := h', toks := tk } := I1.kept fun b o e => hk b o (Heap.lt_size e) e
  have small : (met xs xs.length).length ≤ 4000 := Nat.le_trans (met_le xs _) hl
  exact call_len_set ho hex hd hf (by rw [hn]; omega) ⟨.int (met xs xs.length).length, H1, I2.tok _, ⟨_, by rw [hn]⟩, q1⟩
end Os
namespace Os
open PySem PySem.Spec PyProof.Rows L2

/-! ### kinds of data -/
def tyName : PyData → String
  | .none => "NoneType"
  | .bool _ => "bool"
  | .int _ => "int"
  | .str _ => "str"
  | .list _ => "list"
  | .tuple _ => "tuple"
  | .dict _ => "dict"
def isStrD : PyData → Bool
  | .str _ => true
  | _ => false
def isListD : PyData → Bool
  | .list _ => true
  | _ => false
def isTupD : PyData → Bool
  | .tuple _ => true
  | _ => false
theorem kit_str (d : PyData) : kitB (tyName d) "str" = some (isStrD d) := by
  cases d <;> (simp only [tyName, isStrD, isListD, isTupD]; decide +kernel)
theorem kit_list (d : PyData) : kitB (tyName d) "list" = some (isListD d) := by
  cases d <;> (simp only [tyName, isStrD, isListD, isTupD]; decide +kernel)
theorem kit_tup (d : PyData) : kitB (tyName d) "tuple" = some (isTupD d) := by
  cases d <;> (simp only [tyName, isStrD, isListD, isTupD]; decide +kernel)
section
variable {H H' : Hp} {v : V} {d : PyData} {K : PySem.W.Frag}
theorem Dt.ty (h : Dt H v d) : TyOf K H v (.type (tyName d)) := by
  cases h with
  | non => exact .non
  | bl b => exact .bl b
  | int i => exact .int i
  | str x => exact .str x
  | lst ha _ => exact .lst ha
  | tup ha _ => exact .tup ha
theorem isi_of {T : String} {b : Bool} {Q : VK} (h : Dt H v d) (e : kitB (tyName d) T = some b) (q : Q (.bl b) H) : rIsi K [v, .ty T] H Q :=
  ⟨v, .ty T, _, _, b, rfl, .ty T, .base h.ty, kit_ty e, q⟩
theorem Dt.str_or (h : Dt H v d) : (∃ z, v = .str z ∧ d = .str z) ∨ isStrD d = false := by
  cases h with
  | str x => exact .inl ⟨x, rfl, rfl⟩
  | _ => exact .inr rfl
theorem Dt.list_or (h : Dt H v d) : (∃ a xs ds, v = .ref a ∧ H a = some (.lst xs) ∧ Dts H xs ds ∧ d = .list ds) ∨ isListD d = false := by
  cases h with
  | lst ha t => exact .inl ⟨_, _, _, rfl, ha, t, rfl⟩
  | _ => exact .inr rfl
theorem Dt.tup_or (h : Dt H v d) : (∃ a xs ds, v = .ref a ∧ H a = some (.tup xs) ∧ Dts H xs ds ∧ d = .tuple ds) ∨ isTupD d = false := by
  cases h with
  | tup ha t => exact .inl ⟨_, _, _, rfl, ha, t, rfl⟩
  | _ => exact .inr rfl
end
/-! ### heaps but for one address -/
/-- H without what stands at s -/
def hide (s : Addr) (H : Hp) : Hp := fun b => if b = s then none else H b
theorem hide_ne {s b : Addr} {H : Hp} (h : b ≠ s) : hide s H b = H b := if_neg h
theorem hide_at {s : Addr} {H : Hp} : hide s H s = none := if_pos rfl
theorem hide_of {s b : Addr} {H : Hp} {o : HO} (h : hide s H b = some o) : b ≠ s ∧ H b = some o := by
  unfold hide at h
  split at h
  · cases h
  · exact ⟨by assumption, h⟩
theorem hide_same {s : Addr} {H : Hp} : Same (hide s H) H := fun _ _ h => (hide_of h).2
theorem Same.hide {s : Addr} {H H' : Hp} (e : Same H H') : Same (Os.hide s H) (Os.hide s H') := fun b o h => by
  obtain ⟨h1, h2⟩ := hide_of h
  rw [hide_ne h1]
  exact e b o h2
theorem hide_upd {s : Addr} {H : Hp} {o : HO} : Os.hide s (upd H s o) = Os.hide s H := by
  funext b
  by_cases e : b = s
  · rw [e, hide_at, hide_at]
  · rw [hide_ne e, hide_ne e, upd_ne e]
theorem same_new {H : Hp} {p : Addr} {o : HO} (h : H p = none) : Same H (upd H p o) := fun b u e => by
  rw [upd_ne (ne_of_none e h)]
  exact e
/-- what H does not know may change -/
theorem same_mut {H H' : Hp} {p : Addr} {o : HO} (e : Same H H') (h : H p = none) : Same H (upd H' p o) := fun b u q => by
  rw [upd_ne (ne_of_none q h)]
  exact e b u q
theorem Same.none {H H' : Hp} (e : Same H H') {p : Addr} (h : H' p = Option.none) : H p = Option.none := e.free h
theorem hide_none {s p : Addr} {H : Hp} (h : H p = Option.none) : Os.hide s H p = Option.none := by
  unfold Os.hide
  split
  · rfl
  · exact h
end Os
namespace Os
open PySem PySem.Spec PyProof.Rows L2 Evl

/-! ### more of what evaluates to what -/
section
variable {K : PySem.W.Frag} {σ : L2.St} {H H' : Hp} {ta tb tc te : TE} {t : TT} {x y z v : V} {r r' : R2}
theorem same_ex (e : Ex H H') : Same H H' := e
theorem ev_isi {T : String} {b : Bool} {d : PyData} (h : Ev ta σ H v) (hd : Dt H v d) (e : kitB (tyName d) T = some b) :
    Ev (tCB (rIsi K) (tCons ta (tCons (tC (.ty T)) tNil))) σ H (.bl b) := fun H1 e1 Q q =>
  h H1 e1 _ fun H2 e2 => isi_of (hd.same (same_ex (e1.trans e2))) e (q H2 e2)
theorem ev_lenS {s : Str} (h : Ev ta σ H (.str s)) (hl : s.length ≤ 100000) :
    Ev (tCB (fun xs H Q => ∃ z, xs = [.str z] ∧ z.length ≤ sizeLine ∧ Q (.int z.length) H) (tCons ta tNil)) σ H (.int s.length) := fun H1 e1 Q q =>
  h H1 e1 _ fun H2 e2 => ⟨s, rfl, sz_of hl, q H2 e2⟩
theorem ev_chain {b c : Bool} (h1 : Ev ta σ H x) (h2 : Ev tb σ H y) (hr : RV r x y H (.bl b)) (h3 : b = true → ∃ z, Ev tc σ H z ∧ RV r' y z H (.bl c)) :
    Ev (tChain r r' ta tb tc) σ H (.bl (b && c)) := fun H1 e Q q =>
  h1 H1 e _ fun H2 e2 => h2 H2 (e.trans e2) _ fun H3 e3 => hr H3 ((e.trans e2).trans e3) _ fun H4 e4 => ⟨b, rfl, by
    cases b with
    | true =>
      obtain ⟨z, hz, hs⟩ := h3 rfl
      show tc σ H4 _
      exact hz H4 (((e.trans e2).trans e3).trans e4) _ fun H5 e5 => hs H5 ((((e.trans e2).trans e3).trans e4).trans e5) Q fun H6 e6 => q H6 ((((e2.trans e3).trans e4).trans e5).trans e6)
    | false =>
      show Q (.bl false) H4
      exact q H4 ((e2.trans e3).trans e4)⟩
theorem rv_leS {i j : Str} : RV (fun x y H Q => ∃ i j, x = .str i ∧ y = .str j ∧ Q (.bl (!decide (j.cps.toList < i.cps.toList))) H) (.str i) (.str j) H (.bl (!decide (j.cps.toList < i.cps.toList))) :=
  fun H1 _ _ q => ⟨i, j, rfl, rfl, q H1 (Ex.refl H1)⟩
theorem rv_notInSign {c : Nat} {s : Str} : RV (fun x y H Q => ∃ (c : Nat) (z : Str), x = .str ⟨#[c]⟩ ∧ y = .str z ∧ Q (.bl (!decide (c ∈ z.cps.toList))) H) (.str ⟨#[c]⟩) (.str s) H (.bl (!decide (c ∈ s.cps.toList))) :=
  fun H1 _ _ q => ⟨c, s, rfl, rfl, q H1 (Ex.refl H1)⟩
theorem ev_abs {i : Int} (h : Ev ta σ H (.int i)) : Ev (tCB (fun xs H Q => ∃ i, xs = [V.int i] ∧ Q (.int (if i < 0 then -i else i)) H) (tCons ta tNil)) σ H (.int (if i < 0 then -i else i)) := fun H1 e1 Q q =>
  h H1 e1 _ fun H2 e2 => ⟨i, rfl, q H2 e2⟩
theorem ev_max {i j : Int} (ha : Ev ta σ H (.int i)) (hb : Ev tb σ H (.int j)) : Ev (tCB (fun xs H Q => ∃ i j, xs = [V.int i, .int j] ∧ Q (.int (if j > i then j else i)) H) (tCons ta (tCons tb tNil))) σ H (.int (if j > i then j else i)) := fun H1 e1 Q q =>
  ha H1 e1 _ fun H2 e2 => hb H2 (e1.trans e2) _ fun H3 e3 => ⟨i, j, rfl, q H3 (e2.trans e3)⟩
theorem ev_min {i j : Int} (ha : Ev ta σ H (.int i)) (hb : Ev tb σ H (.int j)) : Ev (tCB (fun xs H Q => ∃ i j, xs = [V.int i, .int j] ∧ Q (.int (if j < i then j else i)) H) (tCons ta (tCons tb tNil))) σ H (.int (if j < i then j else i)) := fun H1 e1 Q q =>
  ha H1 e1 _ fun H2 e2 => hb H2 (e1.trans e2) _ fun H3 e3 => ⟨i, j, rfl, q H3 (e2.trans e3)⟩
theorem ev_all {bs : List Bool} (h : EvL ta σ H (bs.map V.bl)) : Ev (tCB (rAll K) (tCons ta tNil)) σ H (.bl (bs.all id)) := fun H1 e Q q =>
  h H1 e _ fun p H2 _ e2 hp => ⟨p, bs, rfl, sq_of hp, q H2 e2⟩
theorem ev_repr {d : PyData} (h : Ev ta σ H v) (hd : Dt H v d) (fit : Fit sizeLine d) : Ev (tCB rRepr (tCons ta tNil)) σ H (.str d.shown) := fun H1 e Q q =>
  h H1 e _ fun H2 e2 => ⟨v, d, rfl, hd.same (same_ex (e.trans e2)), fit, q H2 e2⟩
theorem ev_reprL {xs : List V} {ds : List PyData} (h : EvL ta σ H xs) (hd : Dts H xs ds) (fit : Fit sizeLine (.list ds)) : Ev (tCB rRepr (tCons ta tNil)) σ H (.str (PyData.list ds).shown) := fun H1 e Q q =>
  h H1 e _ fun p H2 _ e2 hp => ⟨.ref p, .list ds, rfl, .lst hp (hd.same (same_ex (e.trans e2))), fit, q H2 e2⟩
/-- two lists, the left a new one, the right a new one, of data -/
theorem ev_eqLL {xs ys : List V} {ds es : List PyData} (ha : EvL ta σ H xs) (hb : EvL tb σ H ys) (hx : Dts H xs ds) (hy : Dts H ys es) (s1 : SeqAt.shaped (.list ds) = true) (s2 : SeqAt.shaped (.list es) = true) :
    Ev (tOp (rEqD K) ta tb) σ H (.bl (PyData.eqv (.list ds) (.list es))) :=
  ev_opLL ha hb fun p q H1 hp hq e => fun H2 e2 Q k => ⟨.list ds, .list es, Dt.dp (.lst (e2 _ _ hp) (hx.same (same_ex (e.trans e2)))), Dt.dp (.lst (e2 _ _ hq) (hy.same (same_ex (e.trans e2)))), s1, s2, k H2 (Ex.refl H2)⟩
/-- a call of a def that makes nothing but a value -/
theorem ev_sp {sp : Sp} {dvs vs : List V} {E : XK} {ta : TA} (h : EvA ta σ H vs) (hs : ∀ H1, Ex H H1 → ∀ Q : VK, (∀ H2, Ex H1 H2 → Q z H2) → sp (vs ++ dvs) H1 Q E) : Ev (tCall sp dvs E ta) σ H z := fun H1 e Q q =>
  h H1 e _ fun H2 e2 => hs H2 (e.trans e2) Q fun H3 e3 => q H3 (e2.trans e3)
/-- a comprehension over a text -/
theorem el_lcS {s : Str} {j : Nat} {vs : List Nat} {tl : TE} (f : Nat → Bool) (v : Nat → V) (h : Ev tl σ H (.str s)) (hz : s.length ≤ 40000) (hw : ∀ x, wipe ((wipe σ vs).set j (some x)) vs = wipe σ vs)
    (ht : ∀ (i c : Nat) H1, Ex H H1 → s.cps.toList[i]? = some c → EvT t ((wipe σ vs).set j (some (.str ⟨#[c]⟩))) H1 (f i))
    (he : ∀ (i c : Nat) H1, Ex H H1 → s.cps.toList[i]? = some c → f i = true → Ev te ((wipe σ vs).set j (some (.str ⟨#[c]⟩))) H1 (v i)) :
    EvL (tLc (iStr tl) (gName j) t te vs) σ H (given s.length f v) := fun H0 e Q q => h H0 e _ fun H1 e1 => ⟨s, rfl, fun Dl hD =>
  lc_it (walk_str (z := s)) (Cw H1 f v Dl) ⟨hD, Ex.new hD, upd_same⟩ (fun _ _ _ _ => trivial) (fun i x Ha Hb hi p y => by
    obtain ⟨rfl, c, hc, rfl⟩ := y
    have hc' : s.cps.toList[i]? = some c := by rw [Array.getElem?_toList]; exact hc
    have hi2 : i < s.length := hi
    exact ⟨hw _, cw_turn p (by omega) (ht i c H1 (e.trans e1) hc') (fun hf => he i c H1 (e.trans e1) hc' hf)⟩)
    (fun Hc p => q Dl Hc (fresh_back e1 p.1) (e1.trans p.2.1) p.2.2)⟩
end

/-! ### what a comprehension gives, by the items -/
theorem given_map {α : Type} (xs : List α) (g : α → V) (v : Nat → V) (h : ∀ i x, xs[i]? = some x → v i = g x) : given xs.length (fun _ => true) v = xs.map g := by
  unfold given
  rw [List.filter_eq_self.mpr (fun _ _ => rfl)]
  refine List.ext_getElem? fun i => ?_
  rw [List.getElem?_map, List.getElem?_map]
  by_cases hi : i < xs.length
  · rw [List.getElem?_range hi, List.getElem?_eq_getElem hi]
    exact congrArg some (h i _ (List.getElem?_eq_getElem hi))
  · rw [List.getElem?_eq_none (by rw [List.length_range]; omega), List.getElem?_eq_none (by omega)]
    rfl
theorem given_part {α : Type} (g : α → V) (p : α → Bool) (f : Nat → Bool) (v : Nat → V) (xs : List α) (hf : ∀ i x, xs[i]? = some x → f i = p x) (hv : ∀ i x, xs[i]? = some x → v i = g x) :
    ∀ n, n ≤ xs.length → given n f v = ((xs.take n).filter p).map g
  | 0, _ => rfl
  | n + 1, hn => by
    have lt : n < xs.length := hn
    have e := List.getElem?_eq_getElem lt
    have ih := given_part g p f v xs hf hv n (Nat.le_of_lt lt)
    rw [List.take_add_one, e]
    show _ = ((xs.take n ++ [xs[n]]).filter p).map g
    rw [List.filter_append, List.map_append, ← ih]
    cases hp : p xs[n] with
    | true =>
      rw [given_yes (by rw [hf _ _ e]; exact hp), hv _ _ e, List.filter_cons, if_pos hp]
      rfl
    | false =>
      rw [given_no (by rw [hf _ _ e]; exact hp), List.filter_cons, if_neg (by rw [hp]; decide)]
      rw [List.filter_nil, List.map_nil, List.append_nil]
theorem given_filter {α : Type} (g : α → V) (p : α → Bool) (f : Nat → Bool) (v : Nat → V) (xs : List α) (hf : ∀ i x, xs[i]? = some x → f i = p x) (hv : ∀ i x, xs[i]? = some x → v i = g x) :
    given xs.length f v = (xs.filter p).map g := by
  rw [given_part g p f v xs hf hv _ (Nat.le_refl _), List.take_length]
theorem given_eq {n : Nat} {f g : Nat → Bool} {v u : Nat → V} (hf : ∀ i, i < n → f i = g i) (hv : ∀ i, i < n → v i = u i) : given n f v = given n g u := by
  unfold given
  rw [List.filter_congr (q := g) (fun i hi => hf i (List.mem_range.mp hi))]
  exact List.map_congr_left fun i hi => hv i (List.mem_range.mp (List.mem_filter.mp hi).1)
end Os
namespace K91
open PySem PySem.Spec PyProof.Rows L2 Os Evl
def topS (i : Nat) : Stmt := PySem.Challenge.pw_onceswapped_k91_items_and_observations_w.main.body.getD i (.Pass ⟨0, 0, 0, 0⟩)
abbrev sItem : Stmt := topS 6
theorem scItem : FnScope ["thing", "letter"] ["thing"] (defScope sItem) := ⟨rfl, rfl, rfl, by decide +kernel, rfl, by decide +kernel, by decide +kernel⟩

/-- a letter's code -/
def letterB (c : Nat) : Bool := decide (97 ≤ c) && decide (c ≤ 122)
def nameB (z : Str) : Bool := decide (1 ≤ z.length) && decide (z.length ≤ 8) && z.cps.toList.all letterB
def itemB : PyData → Bool
  | .str z => nameB z
  | _ => false
/-- the texts among them are not too long -/
def ShortS : PyData → Prop
  | .str z => z.length ≤ 1000 ∧ PyData.strOk z = true
  | _ => True

/-- the length test as the program does it -/
def itemLen : PyData → Bool
  | .str z => decide ((1 : Int) ≤ (z.length : Int)) && decide ((z.length : Int) ≤ 8)
  | _ => false
theorem lenB (z : Str) : (decide (1 ≤ z.length) && decide (z.length ≤ 8)) = itemLen (.str z) := by
  show _ = (decide ((1 : Int) ≤ (z.length : Int)) && decide ((z.length : Int) ≤ 8))
  rw [decide_eq_decide.mpr (show 1 ≤ z.length ↔ (1 : Int) ≤ (z.length : Int) by omega), decide_eq_decide.mpr (show z.length ≤ 8 ↔ (z.length : Int) ≤ 8 by omega)]

section
variable {P : Program} {w : World} {K : PySem.W.Frag} {mg : Str → Option Value} {base : Heap}
def spItem : Sp := fun vs H Q _ => ∃ v d, vs = [v] ∧ Dt H v d ∧ ShortS d ∧ ∀ H', Same H H' → Q (.bl (itemB d)) H'

theorem sign_le (c : Nat) : (!decide ((⟨#[c]⟩ : Str).cps.toList < ("a" : Str).cps.toList)) = decide (97 ≤ c) := by
  have e : ("a" : Str).cps.toList = [97] := by decide
  rw [e]
  show (!decide ([c] < [97])) = _
  by_cases h : c < 97
  · rw [decide_eq_true (show [c] < [97] from List.Lex.rel h), decide_eq_false (by omega)]
    rfl
  · rw [decide_eq_false (show ¬ [c] < [97] from fun z => by
      cases z with
      | rel z => exact h z
      | cons z => cases z), decide_eq_true (by omega)]
    rfl
theorem le_sign (c : Nat) : (!decide (("z" : Str).cps.toList < (⟨#[c]⟩ : Str).cps.toList)) = decide (c ≤ 122) := by
  have e : ("z" : Str).cps.toList = [122] := by decide
  rw [e]
  show (!decide ([122] < [c])) = _
  by_cases h : 122 < c
  · rw [decide_eq_true (show [122] < [c] from List.Lex.rel h), decide_eq_false (by omega)]
    rfl
  · rw [decide_eq_false (show ¬ [122] < [c] from fun z => by
      cases z with
      | rel z => exact h z
      | cons z => cases z), decide_eq_true (by omega)]
    rfl

theorem ok_item {f : Addr} {fd : FuncData} {k : Nat} (F : Fun K "is_item" "is_item" sItem f fd) (mI : mg "isinstance" = none) (mS : mg "str" = none) (mL : mg "len" = none) (mA : mg "all" = none)
    {t8 : Tok} (m8 : mg "MOST_LETTERS" = some (.int 8 t8)) : FnOk P w K mg base CX0 (k + 1) f fd ["thing"] spItem := by
  refine F.ok scItem (fun vs H Q E h => ?_) (fun cdv A outer s H vs Q E hr h => ?_)
  · obtain ⟨v, d, rfl, _⟩ := h
    rfl
  · obtain ⟨v, d, rfl, hd, hz, q⟩ := h
    refine ⟨_, pss_cons (ps_if (PW.pt (pw_or (pt_not (pt_val (pe_callB call_isi (by rfl) mI boot_isinstance (pa_cons (pv 0) (pa_cons (pe_bltn (v := .ty "str") (by rfl) mS boot_str rfl) pa_nil)))))
        (pw_or1 (pt_not (pt_chain op_le op_le pe_int (pe_callB call_len_str (by rfl) mL boot_len (pa_cons (pv 0) pa_nil)) (pe_glob (v := .int 8) (by rfl) m8 ⟨_, rfl⟩))))))
        (pss_one (ps_ret pe_bl)) pss_nil)
      (pss_one (ps_ret (pe_callB (cr_all rfl) (by rfl) mA boot_all (pa_cons
        (pe_lc (own := [("letter", 1)]) (g := gName 1) (tt := tYes) rfl scItem.nd (pi_str (pv 0)) (blkOk_by (N := ["thing", "letter"]) (sc := defScope sItem) (by decide +kernel))
          (fun _ _ _ _ _ => pg_name (i := 1) scItem.nd rfl (Or.inl rfl)) (fun _ _ _ _ _ => pts_nil)
          (fun _ _ _ _ _ => pe_chain op_le_str op_le_str pe_str (pv 1) pe_str)) pa_nil)))), ?_⟩
    have e0 : Ev (tVar 0) (start ["thing", "letter"] [v]) H v := ev_var rfl
    refine q_when (b := !isStrD d || !(itemLen d)) (et_or (et_not (et_B (ev_isi e0 hd (kit_str d)))) fun hs => et_not (et_test ?_)) ?_ ?_
    · rcases hd.str_or with ⟨z, rfl, rfl⟩ | hn
      · exact ev_chain ev_c (ev_lenS e0 (Nat.le_trans hz.1 (by decide))) rv_I0 fun _ => ⟨_, ev_c, rv_I0⟩
      · rw [hn] at hs
        cases hs
    · intro hb H1 e1
      have : itemB d = false := by
        rcases hd.str_or with ⟨z, rfl, rfl⟩ | hn
        · have hb' : (!itemLen (.str z)) = true := hb
          show (_ && _) = false
          rw [show (decide (1 ≤ z.length) && decide (z.length ≤ 8)) = itemLen (.str z) from lenB z, (Bool.not_eq_true' _).mp hb']
          rfl
        · cases d <;> first | rfl | cases hn
      rw [← this]
      exact q H1 e1
    · intro hb H1 e1
      rcases hd.str_or with ⟨z, rfl, rfl⟩ | hn
      · have hb' : itemLen (.str z) = true := by
          have hb2 : (!itemLen (.str z)) = false := hb
          exact (Bool.not_eq_false' _).mp hb2
        refine s_ret (v := .bl (itemB (.str z))) (ev_is (ev_all (bs := z.cps.toList.map letterB) ?_) ?_) fun H2 e2 => q H2 (e1.trans e2)
        · rw [List.map_map, ← given_map z.cps.toList (V.bl ∘ letterB) (fun i => .bl (letterB (z.cps.toList.getD i 0))) (fun i x e => by
            rw [List.getD_eq_getElem?_getD, e]
            rfl)]
          rw [Array.length_toList]
          refine el_lcS (f := fun _ => true) (v := _) (ev_var rfl) (Nat.le_trans hz.1 (by decide)) (fun _ => rfl) (fun i c H2 _ _ => fun H3 e3 Q q => q H3 (Ex.refl H3)) (fun i c H2 e2 hc _ => ?_)
          rw [List.getD_eq_getElem?_getD, hc]
          show Ev _ _ _ (.bl (letterB c))
          have e4 : letterB c = ((!decide ((⟨#[c]⟩ : Str).cps.toList < ("a" : Str).cps.toList)) && (!decide (("z" : Str).cps.toList < (⟨#[c]⟩ : Str).cps.toList))) := by
            rw [sign_le, le_sign]
            rfl
          rw [e4]
          exact ev_chain ev_c (ev_var rfl) rv_leS fun _ => ⟨_, ev_c, rv_leS⟩
        · show V.bl _ = V.bl (_ && _)
          rw [show (decide (1 ≤ z.length) && decide (z.length ≤ 8)) = itemLen (.str z) from lenB z, hb', List.all_map]
          rfl
      · have hb2 : (!isStrD d || !itemLen d) = false := hb
        rw [hn] at hb2
        cases hb2
end
theorem canLay_strs : ∀ {zs : List Str}, (∀ z ∈ zs, PyData.strOk z = true) → PyData.canLayAll0 (zs.map PyData.str) = true
  | [], _ => rfl
  | z :: zs, h => by
    show (PyData.canLay0 (.str z) && PyData.canLayAll0 (zs.map PyData.str)) = true
    rw [canLay_strs fun y hy => h y (List.mem_cons_of_mem _ hy), Bool.and_true]
    exact h z List.mem_cons_self
theorem depth_strs : ∀ zs : List Str, PyData.depthAll (zs.map PyData.str) = 0
  | [] => rfl
  | z :: zs => by
    show max (PyData.depth (.str z)) (PyData.depthAll (zs.map PyData.str)) = 0
    rw [depth_strs zs]
    rfl
theorem shaped_strs {zs : List Str} (h : ∀ z ∈ zs, PyData.strOk z = true) : SeqAt.shaped (.list (zs.map PyData.str)) = true := by
  show (PyData.canLayAll0 (zs.map PyData.str) && decide (PyData.depthAll (zs.map PyData.str) + 1 ≤ 64)) = true
  rw [canLay_strs h, depth_strs]
  rfl
theorem dts_strs {H : Hp} : ∀ zs : List Str, Dts H (zs.map V.str) (zs.map PyData.str)
  | [] => .nil
  | z :: zs => .cons (.str z) (dts_strs zs)
theorem inV_strs (z : Str) : ∀ zs : List Str, inV (.str z) (zs.map V.str) = decide (z ∈ zs)
  | [] => rfl
  | y :: zs => by
    have ih := inV_strs z zs
    unfold inV at ih ⊢
    rw [List.map_cons, List.any_cons, ih]
    show ((y == z) || decide (z ∈ zs)) = decide (z ∈ y :: zs)
    by_cases h : y = z
    · subst h
      simp
    · have h2 : ¬ z = y := fun e => h e.symm
      simp [h, h2]
theorem flat_strs' : ∀ zs : List Str, (zs.map V.str).all flatV = true
  | [] => rfl
  | _ :: zs => flat_strs' zs
def alphabet : Str := "abcdefghijklmnopqrstuvwxyz"
theorem in_alphabet (c : Nat) : decide (c ∈ alphabet.cps.toList) = letterB c := by
  have e : alphabet.cps.toList = List.range' 97 26 := by decide
  rw [e]
  unfold letterB
  by_cases h : 97 ≤ c ∧ c ≤ 122
  · rw [decide_eq_true (show c ∈ List.range' 97 26 from List.mem_range'.mpr ⟨c - 97, by omega, by omega⟩), decide_eq_true h.1, decide_eq_true h.2]
    rfl
  · rw [decide_eq_false (show ¬ c ∈ List.range' 97 26 from fun z => by
      obtain ⟨i, h1, h2⟩ := List.mem_range'.mp z
      exact h ⟨by omega, by omega⟩)]
    by_cases h1 : 97 ≤ c
    · rw [decide_eq_true h1, decide_eq_false (by omega)]
      rfl
    · rw [decide_eq_false h1]
      rfl
theorem sign_ok {z : Str} (h : PyData.strOk z = true) {c : Nat} (hc : c ∈ z.cps.toList) : PyData.strOk ⟨#[c]⟩ = true := by
  unfold PyData.strOk at h ⊢
  rw [← Array.all_toList, List.all_eq_true] at h
  have := h c hc
  simpa using this

end K91
/-! the law's drawn numbers: what a source holds -/
namespace Os
open PySem PySem.Spec PyProof.Rows L2 Evl

/-- at s a source: the digits left, the seed, the number of mixed draws (at most B) -/
def Src (H : Hp) (s : Addr) (B : Nat) : Prop := ∃ x y z : Int, H s = some (.lst [.int x, .int y, .int z]) ∧ 0 ≤ x ∧ 0 ≤ y ∧ y < 2 ^ 140 ∧ 0 ≤ z ∧ z ≤ (B : Int)
theorem Src.mono {H : Hp} {s : Addr} {B C : Nat} (h : Src H s B) (le : B ≤ C) : Src H s C := by
  obtain ⟨x, y, z, h1, h2, h3, h4, h5, h6⟩ := h
  exact ⟨x, y, z, h1, h2, h3, h4, h5, by omega⟩
theorem Src.ex {H H' : Hp} {s : Addr} {B : Nat} (h : Src H s B) (e : Ex H H') : Src H' s B := by
  obtain ⟨x, y, z, h1, h2⟩ := h
  exact ⟨x, y, z, e _ _ h1, h2⟩
theorem Src.at {H : Hp} {s : Addr} {B : Nat} (h : Src H s B) : ∃ o, H s = some o := by
  obtain ⟨x, y, z, h1, _⟩ := h
  exact ⟨_, h1⟩
/-- all but the source stands as it was; the source has made at most n more mixed draws -/
structure Drew (s : Addr) (B : Nat) (H H' : Hp) : Prop where
  kept : Ex (hide s H) (hide s H')
  src : Src H' s B
theorem Drew.refl {s : Addr} {B : Nat} {H : Hp} (h : Src H s B) : Drew s B H H := ⟨Ex.refl _, h⟩
theorem Drew.trans {s : Addr} {B C : Nat} {H H1 H2 : Hp} (a : Drew s B H H1) (b : Drew s C H1 H2) : Drew s C H H2 := ⟨a.kept.trans b.kept, b.src⟩
theorem Drew.ex {s : Addr} {B : Nat} {H H1 H2 : Hp} (a : Drew s B H H1) (e : Ex H1 H2) : Drew s B H H2 := ⟨a.kept.trans (Same.hide (same_ex e)), a.src.ex e⟩
theorem Drew.get {s : Addr} {B : Nat} {H H' : Hp} (a : Drew s B H H') {b : Addr} {o : HO} (n : b ≠ s) (h : H b = some o) : H' b = some o := by
  have := a.kept b o (by rw [hide_ne n]; exact h)
  exact (hide_of this).2
theorem Drew.mono {s : Addr} {B C : Nat} {H H' : Hp} (a : Drew s B H H') (le : B ≤ C) : Drew s C H H' := ⟨a.kept, a.src.mono le⟩
/-- what is free behind was free before -/
theorem Drew.none {s : Addr} {B : Nat} {H H' : Hp} (a : Drew s B H H') (h0 : ∃ o, H s = some o) {p : Addr} (h : H' p = Option.none) : H p = Option.none := by
  obtain ⟨o, so⟩ := a.src.at
  have np : p ≠ s := fun e => by rw [e, so] at h; cases h
  cases q : H p with
  | none => rfl
  | some u =>
    rw [a.get np q] at h
    cases h
/-- a new object, or one that H did not know, is changed -/
theorem Drew.mut {s : Addr} {B : Nat} {H H' : Hp} (a : Drew s B H H') {p : Addr} {o : HO} (hs : ∃ u, H s = some u) (h : H p = Option.none) : Drew s B H (upd H' p o) := by
  obtain ⟨u, hu⟩ := hs
  have np : s ≠ p := ne_of_none hu h
  refine ⟨fun b v q => ?_, ?_⟩
  · obtain ⟨q1, q2⟩ := hide_of q
    rw [hide_ne q1, upd_ne (ne_of_none q2 h)]
    exact a.get q1 q2
  · obtain ⟨x, y, z, h1, h2⟩ := a.src
    exact ⟨x, y, z, by rw [upd_ne np]; exact h1, h2⟩

/-! ### data beside a source -/
theorem Dt.drew {s : Addr} {B : Nat} {H H' : Hp} {v : V} {d : PyData} (h : Dt (hide s H) v d) (a : Drew s B H H') : Dt (hide s H') v d := h.same (same_ex a.kept)
theorem Dt.seen {s : Addr} {H : Hp} {v : V} {d : PyData} (h : Dt (hide s H) v d) : Dt H v d := h.same hide_same
theorem Dts.seen {s : Addr} {H : Hp} {vs : List V} {ds : List PyData} (h : Dts (hide s H) vs ds) : Dts H vs ds := h.same hide_same

/-! ### the numbers -/
theorem mix_bound {y z : Int} (hy0 : 0 ≤ y) (hy : y < 2 ^ 140) (hz0 : 0 ≤ z) (hz : z < 2 ^ 80) (c : Int) (hc0 : 0 ≤ c) (hc : c < 2 ^ 30) : (y + c * z).natAbs < 2 ^ 141 := by
  have h1 : 0 ≤ c * z := Int.mul_nonneg hc0 hz0
  have h2 : c * z ≤ 2 ^ 30 * 2 ^ 80 := Int.mul_le_mul (by omega) (by omega) hz0 (by decide)
  have h3 : (2 : Int) ^ 30 * 2 ^ 80 ≤ 2 ^ 140 := by decide
  omega
theorem cube_nonneg {i : Int} (h : 0 ≤ i) : 0 ≤ i ^ (3 : Int).toNat := Int.pow_nonneg h
end Os
namespace K91
open PySem PySem.Spec PyProof.Rows L2 Os Evl
abbrev sSource : Stmt := topS 14
abbrev sPick : Stmt := topS 15
theorem scSource : FnScope ["script", "k", "cell"] ["script", "k"] (defScope sSource) := ⟨rfl, rfl, rfl, by decide +kernel, rfl, by decide +kernel, by decide +kernel⟩
theorem scPick : FnScope ["source", "count", "found", "mixed"] ["source", "count"] (defScope sPick) := ⟨rfl, rfl, rfl, by decide +kernel, rfl, by decide +kernel, by decide +kernel⟩
def cellOf (ns : List Int) (k : Nat) : Int := if (k : Int) < (ns.length : Int) then ns.getD k 0 else 0
section
variable {P : Program} {w : World} {K : PySem.W.Frag} {mg : Str → Option Value} {base : Heap}
def spSource (K : PySem.W.Frag) : Sp := fun vs H Q _ => ∃ (a : Addr) (ns : List Int) (k : Nat), vs = [.ref a, .int (k : Int)] ∧ SqL K H a (ns.map V.int) ∧ k ≤ 1000 ∧
  ∀ H' p, Ex H H' → H p = none → Src H' p 0 → Q (.ref p) H'
theorem ok_source {f : Addr} {fd : FuncData} {k : Nat} (F : Fun K "_law_source" "_law_source" sSource f fd) (mL : mg "len" = none) (mM : mg "max" = none) (mA : mg "abs" = none) :
    FnOk P w K mg base CX0 (k + 1) f fd ["script", "k"] (spSource K) := by
  refine F.ok scSource (fun vs H Q E h => ?_) (fun cdv A outer s H vs Q E hr h => ?_)
  · obtain ⟨a, ns, k, rfl, _⟩ := h
    rfl
  · obtain ⟨a, ns, k, rfl, hS, hk, q⟩ := h
    refine ⟨_, pss_cons (ps_set (i := 2) scSource.nd rfl (.inl rfl) (pe_ifExp (pt_cmpR op_lt (pv 1) (pe_callB call_len_seq (by rfl) mL boot_len (pa_cons (pv 0) pa_nil)) (nomark _)) (pe_ix ix_list (pv 0) (pv 1) (fun _ _ => rfl)) pe_int))
      (pss_one (ps_ret (pe_lst (pa_cons (pe_callB (call_max2 rfl) (by rfl) mM boot_max (pa_cons pe_int (pa_cons (pe_op op_sub (pe_callB call_abs (by rfl) mA boot_abs (pa_cons (pv 2) pa_nil)) (pe_op op_pow pe_int pe_int)) pa_nil)))
        (pa_cons (pe_op op_add (pe_op op_add (pe_op op_mul (pe_op op_mod (pe_callB call_abs (by rfl) mA boot_abs (pa_cons (pv 2) pa_nil)) (pe_op op_add (pe_op op_pow pe_int pe_int) pe_int)) pe_int) (pv 1)) pe_int)
        (pa_cons pe_int pa_nil)))))), ?_⟩
    refine q_asg (v := .int (cellOf ns k)) (ev_if (b := decide ((k : Int) < (ns.length : Int))) (et_test (ev_op (ev_var rfl) (ev_is (ev_len (ev_var rfl) hS) (by rw [List.length_map])) rv_I0)) (fun hb => ?_) (fun hb => ?_)) fun H1 e1 => ?_
    · have hb2 := of_decide_eq_true hb
      have e : cellOf ns k = ns.getD k 0 := if_pos hb2
      rw [e]
      refine ev_op (ev_var rfl) (ev_var rfl) (rv_ixL hS (atI_nat (j := k) ?_))
      rw [List.getElem?_map, List.getElem?_eq_getElem (by omega), List.getD_eq_getElem?_getD, List.getElem?_eq_getElem (by omega)]
      rfl
    · have hb2 := of_decide_eq_false hb
      have e : cellOf ns k = 0 := if_neg hb2
      rw [e]
      exact ev_c
    · have ec := ev_var (σ := (start ["script", "k", "cell"] [.ref a, .int (k : Int)]).set 2 (some (.int (cellOf ns k)))) (H := H1) (i := 2) (v := .int (cellOf ns k)) rfl
      generalize cellOf ns k = c at ec ⊢
      have e18 : (10 : Int) ^ (18 : Int).toNat = 1000000000000000000 := by decide
      have e36 : (10 : Int) ^ (36 : Int).toNat = 1000000000000000000000000000000000000 := by decide
      have pow : ∀ n : Int, 0 ≤ n → n ≤ 100 → CPow 10 n := fun n h1 h2 => ⟨h1, by omega, by decide⟩
      refine s_retL (el_lst (ea_cons (ev_max ev_c (ev_op (ev_abs ec) (ev_op ev_c ev_c (rv_I (pow 18 (by decide) (by decide)))) rv_I0))
        (ea_cons (ev_op (ev_op (ev_op (ev_op (ev_abs ec) (ev_op (ev_op ev_c ev_c (rv_I (pow 36 (by decide) (by decide)))) ev_c rv_I0) (rv_I (by rw [e36]; decide))) ev_c (rv_I (.inr (by decide)))) (ev_var rfl) rv_I0) ev_c rv_I0)
        (ea_cons ev_c ea_nil))) (show 3 ≤ 100000 by decide)) fun p H2 hp e2 h2 => q H2 p (e1.trans e2) (fresh_back e1 hp) ?_
      rw [e18, e36] at h2
      have ha : 0 ≤ (if c < 0 then -c else c) := by split <;> omega
      refine ⟨_, _, 0, h2, ?_, ?_, ?_, Int.le_refl _, Int.le_refl _⟩
      · split <;> omega
      · have := Int.emod_nonneg (if c < 0 then -c else c) (show (1000000000000000000000000000000000000 + 67 : Int) ≠ 0 by decide)
        omega
      · have := Int.emod_lt_of_pos (if c < 0 then -c else c) (show (0 : Int) < 1000000000000000000000000000000000000 + 67 by decide)
        omega

def spPick : Sp := fun vs H Q _ => ∃ (s : Addr) (n : Int) (B : Nat), vs = [.ref s, .int n] ∧ Src H s B ∧ B ≤ 1000000 ∧ 0 < n ∧ n ≤ 1000000 ∧
  ∀ H' r, Drew s (B + 1) H H' → 0 ≤ r → r < n → Q (.int r) H'
theorem ok_pick {f : Addr} {fd : FuncData} {k : Nat} (F : Fun K "_law_pick" "_law_pick" sPick f fd) : FnOk P w K mg base CX0 (k + 1) f fd ["source", "count"] spPick := by
  refine F.ok scPick (fun vs H Q E h => ?_) (fun cdv A outer s H vs Q E hr h => ?_)
  · obtain ⟨a, n, B, rfl, _⟩ := h
    rfl
  · obtain ⟨a, n, B, rfl, hS, hB, hn0, hn1, q⟩ := h
    refine ⟨_, pss_cons (ps_if (pt_cmpR op_gt (pe_ix ix_list (pv 0) pe_int (fun _ _ => rfl)) pe_int (nomark _))
        (pss_cons (ps_set (i := 2) scPick.nd rfl (.inl rfl) (pe_op op_mod (pe_ix ix_list (pv 0) pe_int (fun _ _ => rfl)) (pv 1)))
        (pss_cons (ps_asg (pe_op op_fdivW (pe_ix ix_list (pv 0) pe_int (fun _ _ => rfl)) (pv 1)) (pg_sub (pv 0) pe_int set_list))
        (pss_one (ps_ret (pv 2))))) pss_nil)
      (pss_cons (ps_asg (pe_op op_add (pe_ix ix_list (pv 0) pe_int (fun _ _ => rfl)) pe_int) (pg_sub (pv 0) pe_int set_list))
      (pss_cons (ps_set (i := 3) scPick.nd rfl (.inl rfl) (pe_op op_mod (pe_op op_powW (pe_op op_add (pe_ix ix_list (pv 0) pe_int (fun _ _ => rfl)) (pe_op op_mul pe_int (pe_ix ix_list (pv 0) pe_int (fun _ _ => rfl)))) pe_int) (pe_op op_add (pe_op op_pow pe_int pe_int) pe_int)))
      (pss_cons (ps_set (i := 3) scPick.nd rfl (.inl rfl) (pe_op op_mod (pe_op op_powW (pe_op op_add (pv 3) (pe_op op_mul pe_int (pe_ix ix_list (pv 0) pe_int (fun _ _ => rfl)))) pe_int) (pe_op op_add (pe_op op_pow pe_int pe_int) pe_int)))
      (pss_one (ps_ret (pe_op op_mod (pe_op op_fdivW (pv 3) pe_int) (pv 1))))))), ?_⟩
    obtain ⟨x, y, z, h1, hx, hy0, hy1, hz0, hz1⟩ := hS
    have at0 : ∀ {H' : Hp} {x' y' z' : Int}, H' a = some (.lst [.int x', .int y', .int z']) → ∀ {σ : L2.St}, σ[0]? = some (some (.ref a)) →
        Ev (tOp (rIxL K) (tVar 0) (tC (.int 0))) σ H' (.int x') ∧ Ev (tOp (rIxL K) (tVar 0) (tC (.int 1))) σ H' (.int y') ∧ Ev (tOp (rIxL K) (tVar 0) (tC (.int 2))) σ H' (.int z') := fun h σ e =>
      ⟨ev_op (ev_var e) ev_c (rv_ixL (sq_of h) (atI_nat (j := 0) rfl)), ev_op (ev_var e) ev_c (rv_ixL (sq_of h) (atI_nat (j := 1) rfl)), ev_op (ev_var e) ev_c (rv_ixL (sq_of h) (atI_nat (j := 2) rfl))⟩
    have upd_drew : ∀ {H1 : Hp} {x' z' : Int}, Ex H H1 → 0 ≤ x' → 0 ≤ z' → z' ≤ ((B + 1 : Nat) : Int) → Drew a (B + 1) H (upd H1 a (.lst [.int x', .int y, .int z'])) := fun e p1 p2 p3 =>
      ⟨by rw [hide_upd]; exact Same.hide (same_ex e), _, y, _, upd_same, p1, hy0, hy1, p2, p3⟩
    refine q_when (b := decide (0 < x)) (et_test (ev_op (at0 h1 rfl).1 ev_c rv_I0)) ?_ ?_
    · intro hb H1 e1
      refine q_asg (v := .int (x % n)) (ev_op (at0 (e1 _ _ h1) rfl).1 (ev_var rfl) (rv_I hn0)) fun H2 e2 => ?_
      refine q_setL (j := 0) (xs := [.int x, .int y, .int z]) (v := .int (x / n)) (e2 _ _ (e1 _ _ h1)) (ev_op (at0 (e2 _ _ (e1 _ _ h1)) rfl).1 (ev_var rfl) (rv_I (wide_div (b := 30) hn0 (by omega) (by decide) (by decide)))) (ev_var rfl) ev_c (show 0 < 3 by decide) fun H3 e3 => ?_
      refine s_ret (v := .int (x % n)) (ev_var rfl) fun H4 e4 => ?_
      exact q H4 _ ((upd_drew ((e1.trans e2).trans e3) (Int.ediv_nonneg hx (by omega)) hz0 (by omega)).ex e4) (Int.emod_nonneg x (by omega)) (Int.emod_lt_of_pos x hn0)
    · intro hb H1 e1
      refine q_setL (j := 2) (xs := [.int x, .int y, .int z]) (v := .int (z + 1)) (e1 _ _ h1) (ev_op (at0 (e1 _ _ h1) rfl).2.2 ev_c rv_I0) (ev_var rfl) ev_c (show 2 < 3 by decide) fun H2 e2 => ?_
      have d2 : Drew a (B + 1) H (upd H2 a (.lst [.int x, .int y, .int (z + 1)])) := upd_drew (e1.trans e2) hx (by omega) (by omega)
      have h3 : (upd H2 a (.lst [.int x, .int y, .int (z + 1)])) a = some (.lst [.int x, .int y, .int (z + 1)]) := upd_same
      have e38 : (10 : Int) ^ (38 : Int).toNat = 100000000000000000000000000000000000000 := by decide
      have e37 : (10 : Int) ^ (37 : Int).toNat = 10000000000000000000000000000000000000 := by decide
      have pow : ∀ n : Int, 0 ≤ n → n ≤ 100 → CPow 10 n := fun n h1 h2 => ⟨h1, by omega, by decide⟩
      show tSeq _ _ _ _ (upd H2 a (.lst [.int x, .int y, .int (z + 1)]))
      generalize (upd H2 a (.lst [.int x, .int y, .int (z + 1)])) = H3 at d2 h3
      have b1 : (y + 49979687 * (z + 1)).natAbs < 2 ^ 141 := mix_bound hy0 hy1 (by omega) (by omega) 49979687 (by decide) (by decide)
      refine q_asg (v := .int ((y + 49979687 * (z + 1)) ^ (3 : Int).toNat % ((10 : Int) ^ (38 : Int).toNat + 133))) (ev_op (ev_op (ev_op (at0 h3 rfl).2.1 (ev_op ev_c (at0 h3 rfl).2.2 (rv_I (.inl (by decide)))) rv_I0) ev_c (rv_I (cube_ok b1 (by decide) (by decide))))
        (ev_op (ev_op ev_c ev_c (rv_I (pow 38 (by decide) (by decide)))) ev_c rv_I0) (rv_I (by rw [e38]; decide))) fun H4 e4 => ?_
      have m1 := Int.emod_nonneg ((y + 49979687 * (z + 1)) ^ (3 : Int).toNat) (show ((10 : Int) ^ (38 : Int).toNat + 133) ≠ 0 by rw [e38]; decide)
      have m2 := Int.emod_lt_of_pos ((y + 49979687 * (z + 1)) ^ (3 : Int).toNat) (show 0 < ((10 : Int) ^ (38 : Int).toNat + 133) by rw [e38]; decide)
      generalize (y + 49979687 * (z + 1)) ^ (3 : Int).toNat % ((10 : Int) ^ (38 : Int).toNat + 133) = m at m1 m2
      rw [e38] at m2
      have b2 : (m + 32452843 * (z + 1)).natAbs < 2 ^ 141 := mix_bound m1 (by omega) (by omega) (by omega) 32452843 (by decide) (by decide)
      refine q_asg (v := .int ((m + 32452843 * (z + 1)) ^ (3 : Int).toNat % ((10 : Int) ^ (37 : Int).toNat + 43))) (ev_op (ev_op (ev_op (ev_var rfl) (ev_op ev_c (at0 (e4 _ _ h3) rfl).2.2 (rv_I (.inl (by decide)))) rv_I0) ev_c (rv_I (cube_ok b2 (by decide) (by decide))))
        (ev_op (ev_op ev_c ev_c (rv_I (pow 37 (by decide) (by decide)))) ev_c rv_I0) (rv_I (by rw [e37]; decide))) fun H5 e5 => ?_
      generalize (m + 32452843 * (z + 1)) ^ (3 : Int).toNat % ((10 : Int) ^ (37 : Int).toNat + 43) = u
      refine s_ret (v := .int (u / 131071 % n)) (ev_op (ev_op (ev_var rfl) ev_c (rv_I (wide_div (b := 30) (by decide) (by decide) (by decide) (by decide)))) (ev_var rfl) (rv_I hn0)) fun H6 e6 => ?_
      exact q H6 _ (((d2.ex e4).ex e5).ex e6) (Int.emod_nonneg _ (by omega)) (Int.emod_lt_of_pos _ hn0)
end
end K91
namespace K91
open PySem PySem.Spec PyProof.Rows L2 Os Evl
abbrev sShuf : Stmt := topS 16
theorem scShuf : FnScope ["source", "row", "left", "k"] ["source", "row"] (defScope sShuf) := ⟨rfl, rfl, rfl, by decide +kernel, rfl, by decide +kernel, by decide +kernel⟩
theorem perm_pop {α : Type} {l : List α} {k : Nat} {y : α} (acc : List α) (h : l[k]? = some y) : ((acc ++ [y]) ++ l.eraseIdx k).Perm (acc ++ l) := by
  obtain ⟨lt, e⟩ := List.getElem?_eq_some_iff.mp h
  rw [List.append_assoc]
  refine List.Perm.append_left acc ?_
  have e2 := List.drop_eq_getElem_cons lt
  rw [e] at e2
  rw [List.eraseIdx_eq_take_drop_succ]
  refine List.Perm.trans (l₂ := l.take k ++ y :: l.drop (k + 1)) (show (y :: (l.take k ++ l.drop (k + 1))).Perm _ from List.perm_middle.symm) ?_
  rw [← e2, List.take_append_drop]
section
variable {P : Program} {w : World} {K : PySem.W.Frag} {mg : Str → Option Value} {base : Heap}
def spShuf : Sp := fun vs H Q _ => ∃ (s a : Addr) (xs : List V) (B : Nat), vs = [.ref s, .ref a] ∧ Src H s B ∧ H a = some (.lst xs) ∧ a ≠ s ∧ xs.length ≤ 1000 ∧ B ≤ 900000 ∧
  ∀ H' p ys, Drew s (B + xs.length) H H' → H p = none → H' p = some (.lst ys) → ys.Perm xs → Q (.ref p) H'
theorem ok_shuf {f fP : Addr} {fd fdP : FuncData} {k : Nat} (F : Fun K "_law_shuffled" "_law_shuffled" sShuf f fd) (GP : FnOk P w K mg base CX0 k fP fdP ["source", "count"] spPick) (FP : Fun K "_law_pick" "_law_pick" sPick fP fdP) (bP : Binds K fdP ["source", "count"] [])
    (gP : mg "_law_pick" = some (.ref fP)) (mS : mg "list" = none) (mL : mg "len" = none) (mR : mg "range" = none) : FnOk P w K mg base CX0 (k + 1) f fd ["source", "row"] spShuf := by
  refine F.ok scShuf (fun vs H Q E h => ?_) (fun cdv A outer s H vs Q E hr h => ?_)
  · obtain ⟨s, a, xs, B, rfl, _⟩ := h
    rfl
  · obtain ⟨s, a, xs, B, rfl, hS, ha, nas, hl, hB, q⟩ := h
    refine ⟨_, pss_cons (ps_set (i := 2) scShuf.nd rfl (.inr rfl) (pe_callTy call_list_of (by rfl) mS boot_list (pa_cons (pv 1) pa_nil)))
      (pss_one (ps_ret (pe_lc (own := [("k", 3)]) (g := gName 3) (tt := tYes) (te := tBM K "list" rPopAt (tVar 2) (tCons (tCall spPick [] E0 (tCons (tVar 0) (tCons (tCB (rLenS K) (tCons (tVar 2) tNil)) tNil))) tNil)) rfl scShuf.nd (pi_range1 (by rfl) mR (pa_cons (pe_callB call_len_seq (by rfl) mL boot_len (pa_cons (pv 1) pa_nil)) pa_nil))
          (blkOk_by (N := ["source", "row", "left", "k"]) (sc := defScope sShuf) (by decide +kernel))
          (fun _ _ _ _ _ => pg_name (i := 3) scShuf.nd rfl (Or.inl rfl)) (fun _ _ _ _ _ => pts_nil)
          (fun _ _ _ _ _ => pe_bm PySem.F.plainAttrs_list PySem.F.slot_list_pop PySem.F.type_list_pop mt_popAt (pv 2)
            (pa_cons (pe_call GP hr (by rfl) gP FP.kp bP .nil pass0 (pa_cons (pv 0) (pa_cons (pe_callB call_len_seq (by rfl) mL boot_len (pa_cons (pv 2) pa_nil)) pa_nil))) pa_nil))))), ?_⟩
    -- left = list(row)
    refine ⟨.ref a, rfl, a, xs, rfl, .inl (sq_of ha), fun L hL => ?_⟩
    have e1 : Ex H (upd H L (.lst xs)) := Ex.new hL
    have src0 := hS.at
    -- range(len(row))
    refine ⟨.ref a, rfl, a, xs, rfl, .inl (sq_of (e1 _ _ ha)), (xs.length : Int), rfl, by omega, by omega, fun D hD => ?_⟩
    have nLD : D ≠ L := fun e => by
      rw [e, upd_same] at hD
      cases hD
    have hD0 : H D = none := fresh_back e1 hD
    refine lc_range (lo := 0) (n := (xs.length : Int).toNat) (fun i Hh => ∃ l acc, Hh L = some (.lst l) ∧ Hh D = some (.lst acc) ∧ (acc ++ l).Perm xs ∧ l.length + i = xs.length ∧ acc.length = i ∧ Drew s (B + i) H Hh) ?_ ?_ ?_
    · refine ⟨xs, [], ?_, upd_same, List.Perm.refl _, rfl, rfl, (((Drew.refl hS).ex e1).mut src0 hD0)⟩
      rw [upd_ne nLD.symm]
      exact upd_same
    · rintro i Hh hi ⟨l, acc, hl1, hD1, pm, len, len2, dr⟩
      have hi' : i < xs.length := by omega
      refine ⟨rfl, ?_⟩
      show tBM K "list" rPopAt (tVar 2) _ _ _ _
      refine ⟨.ref L, rfl, .inl ⟨rfl, _, sq_of hl1⟩, .ref s, rfl, .ref L, rfl, L, l, rfl, .inl (sq_of hl1), s, (l.length : Int), B + i, rfl, dr.src, by omega, by omega, by omega, fun H2 r dr2 r0 r1 => ?_⟩
      have nLs : L ≠ s := fun e => by
        obtain ⟨o, ho⟩ := src0
        rw [e, ho] at hL
        cases hL
      have nDs : D ≠ s := fun e => by
        obtain ⟨o, ho⟩ := src0
        rw [e, ho] at hD0
        cases hD0
      have hl2 : H2 L = some (.lst l) := dr2.get nLs hl1
      have hD2 : H2 D = some (.lst acc) := dr2.get nDs hD1
      have lt : r.toNat < l.length := by omega
      have er : r = (r.toNat : Int) := by omega
      refine ⟨L, l, r, r.toNat, l[r.toNat], rfl, rfl, hl2, by omega, by omega, (ixN_seq (by rw [er]; exact ixN_nat lt)).1, List.getElem?_eq_getElem lt, acc, ?_, ?_, ?_⟩
      · rw [upd_ne nLD]
        exact hD2
      · exact sz_lt (by omega)
      · refine ⟨l.eraseIdx r.toNat, acc ++ [l[r.toNat]], ?_, upd_same, (perm_pop acc (List.getElem?_eq_getElem lt)).trans pm, ?_, ?_, ?_⟩
        · rw [upd_ne nLD.symm]
          exact upd_same
        · rw [List.length_eraseIdx_of_lt lt]
          omega
        · rw [List.length_append, len2]
          rfl
        · exact ((dr.trans dr2).mut src0 hL).mut src0 hD0
    · rintro Hh ⟨l, acc, hl1, hD1, pm, len, len2, dr⟩
      have hn : l.length = 0 := by omega
      rw [List.length_eq_zero_iff.mp hn, List.append_nil] at pm
      exact q Hh D acc (by simpa using dr) hD0 hD1 pm
end
end K91
namespace K91
open PySem PySem.Spec PyProof.Rows L2 Os Evl
abbrev sNames : Stmt := topS 17
theorem scNames : FnScope ["source", "size", "letters", "style", "found", "k", "tail"] ["source", "size"] (defScope sNames) := ⟨rfl, rfl, rfl, by decide +kernel, rfl, by decide +kernel, by decide +kernel⟩
def tailOf (k : Nat) : Str := (⟨#[97 + k / 26]⟩ : Str) ++ (⟨#[97 + k % 26]⟩ : Str)
def nm (style k : Nat) : Str := match style with
  | 0 => tailOf k
  | 1 => ("abcdef" : Str) ++ tailOf k
  | _ => Txt.mul ⟨#[97 + k % 26]⟩ (1 + ((k / 26 : Nat) : Int))
def namesOf (style n : Nat) : List Str := (List.range n).map (nm style)
theorem names_ok : ∀ st, st < 3 → ((namesOf st 40).all fun z => nameB z && PyData.strOk z) = true ∧ (namesOf st 40).Nodup
  | 0, _ => by decide +kernel
  | 1, _ => by decide +kernel
  | 2, _ => by decide +kernel
theorem namesOf_take {st n : Nat} (h : n ≤ 40) : namesOf st n = (namesOf st 40).take n := by
  unfold namesOf
  rw [← List.map_take, List.take_range, Nat.min_eq_left h]
theorem names_all {st n : Nat} (hs : st < 3) (h : n ≤ 40) : (∀ z ∈ namesOf st n, nameB z = true ∧ PyData.strOk z = true) ∧ (namesOf st n).Nodup ∧ (namesOf st n).length = n := by
  obtain ⟨h1, h2⟩ := names_ok st hs
  refine ⟨fun z hz => ?_, ?_, ?_⟩
  · rw [namesOf_take h] at hz
    have := List.all_eq_true.mp h1 z (List.mem_of_mem_take hz)
    rwa [Bool.and_eq_true] at this
  · rw [namesOf_take h]
    exact h2.sublist (List.take_sublist _ _)
  · unfold namesOf
    rw [List.length_map, List.length_range]
theorem alph_at {k : Nat} (h : k < 26) : alphabet.cps.toList[k]? = some (97 + k) := by
  have e : alphabet.cps.toList = List.range' 97 26 := by decide
  rw [e, List.getElem?_range' h, Nat.one_mul]
/-- what a permutation of texts is -/
theorem perm_strs {zs : List Str} {ys : List V} (h : ys.Perm (zs.map V.str)) : ∃ us : List Str, ys = us.map V.str ∧ us.Perm zs := by
  have back : ∀ x ∈ ys, ∃ z, x = V.str z := fun x hx => by
    obtain ⟨z, _, e⟩ := List.mem_map.mp (h.mem_iff.mp hx)
    exact ⟨z, e.symm⟩
  let un : V → Str := fun v => match v with
    | .str z => z
    | _ => Str.empty
  refine ⟨ys.map un, ?_, ?_⟩
  · rw [List.map_map]
    have : ys.map (V.str ∘ un) = ys.map id := List.map_congr_left fun x hx => by
      obtain ⟨z, e⟩ := back x hx
      rw [e]
      rfl
    rw [this, List.map_id]
  · have := h.map un
    rw [List.map_map] at this
    have e : zs.map (un ∘ V.str) = zs := by
      have : zs.map (un ∘ V.str) = zs.map id := List.map_congr_left fun x _ => rfl
      rw [this, List.map_id]
    rwa [e] at this

section
variable {P : Program} {w : World} {K : PySem.W.Frag} {mg : Str → Option Value} {base : Heap}
def spNames : Sp := fun vs H Q _ => ∃ (s : Addr) (n B : Nat), vs = [.ref s, .int (n : Int)] ∧ Src H s B ∧ n ≤ 40 ∧ B ≤ 800000 ∧
  ∀ (H' : Hp) (p : Addr) (zs : List Str), Drew s (B + 1 + n) H H' → H p = none → H' p = some (.lst (zs.map V.str)) → zs.length = n → (∀ z ∈ zs, nameB z = true ∧ PyData.strOk z = true) → zs.Nodup → Q (.ref p) H'
theorem rv_addS {H : Hp} {i j : Str} (h : i.length + j.length ≤ 100000) : RV (fun x y H Q => ∃ i j, x = .str i ∧ y = .str j ∧ i.length + j.length ≤ sizeLine ∧ Q (.str (i ++ j)) H) (.str i) (.str j) H (.str (i ++ j)) :=
  fun H1 _ _ q => ⟨i, j, rfl, rfl, sz_of h, q H1 (Ex.refl H1)⟩
theorem rv_mulS {H : Hp} {z : Str} {n : Int} (h : MulOk z n) : RV rMulS (.str z) (.int n) H (.str (Txt.mul z n)) :=
  fun H1 _ _ q => ⟨z, n, rfl, rfl, h, q H1 (Ex.refl H1)⟩
theorem ok_names {f fP fS : Addr} {fd fdP fdS : FuncData} {k : Nat} (F : Fun K "_law_names" "_law_names" sNames f fd) (GP : FnOk P w K mg base CX0 k fP fdP ["source", "count"] spPick) (FP : Fun K "_law_pick" "_law_pick" sPick fP fdP) (bP : Binds K fdP ["source", "count"] [])
    (gP : mg "_law_pick" = some (.ref fP)) (GS : FnOk P w K mg base CX0 k fS fdS ["source", "row"] spShuf) (FS : Fun K "_law_shuffled" "_law_shuffled" sShuf fS fdS) (bS : Binds K fdS ["source", "row"] []) (gS : mg "_law_shuffled" = some (.ref fS)) (mR : mg "range" = none) :
    FnOk P w K mg base CX0 (k + 1) f fd ["source", "size"] spNames := by
  refine F.ok scNames (fun vs H Q E h => ?_) (fun cdv A outer s H vs Q E hr h => ?_)
  · obtain ⟨s, n, B, rfl, _⟩ := h
    rfl
  · obtain ⟨s, n, B, rfl, hS, hn, hB, q⟩ := h
    refine ⟨_, pss_cons (ps_set (i := 2) scNames.nd rfl (.inl rfl) pe_str)
      (pss_cons (ps_set (i := 3) scNames.nd rfl (.inl rfl) (pe_call GP hr (by rfl) gP FP.kp bP .nil pass0 (pa_cons (pv 0) (pa_cons pe_int pa_nil))))
      (pss_cons (ps_set (i := 4) scNames.nd rfl (.inl rfl) (pe_lst pa_nil))
      (pss_cons (ps_for PassesOwn.never rfl (pi_range1 (by rfl) mR (pa_cons (pv 1) pa_nil)) (pg_name (i := 5) scNames.nd rfl (Or.inl rfl))
        (pss_cons (ps_set (i := 6) scNames.nd rfl (.inl rfl) (pe_op op_add_str (pe_ix ix_str (pv 2) (pe_op op_fdiv (pv 5) pe_int) (fun _ _ => rfl)) (pe_ix ix_str (pv 2) (pe_op op_mod (pv 5) pe_int) (fun _ _ => rfl))))
        (pss_one (ps_expr (pe_bm PySem.F.plainAttrs_list PySem.F.slot_list_append PySem.F.type_list_append mt_append (pv 4) (pa_cons
          (pe_ix ix_list (pe_lst (pa_cons (pv 6) (pa_cons (pe_op op_add_str pe_str (pv 6)) (pa_cons (pe_op op_mulS (pe_ix ix_str (pv 2) (pe_op op_mod (pv 5) pe_int) (fun _ _ => rfl)) (pe_op op_add pe_int (pe_op op_fdiv (pv 5) pe_int))) pa_nil)))) (pv 3) (fun _ _ => rfl)) pa_nil))))))
      (pss_one (ps_ret (pe_call GS hr (by rfl) gS FS.kp bS .nil pass0 (pa_cons (pv 0) (pa_cons (pv 4) pa_nil)))))))), ?_⟩
    have src0 := hS.at
    refine q_asg (v := .str alphabet) ev_c fun H1 e1 => ?_
    -- style = _law_pick(source, 3)
    refine ⟨.ref s, rfl, s, 3, B, rfl, hS.ex e1, by omega, by decide, by decide, fun H2 st dr2 st0 st1 => ?_⟩
    obtain ⟨sty, rfl⟩ : ∃ sty : Nat, st = (sty : Int) := ⟨st.toNat, by omega⟩
    have hst : sty < 3 := by omega
    have D2 : Drew s (B + 1) H H2 := ((Drew.refl hS).ex e1).trans dr2
    refine q_asgL (xs := []) (el_lst ea_nil (Nat.zero_le _)) fun Fa H3 hFa e3 hF3 => ?_
    have hF0 : H Fa = none := D2.none src0 hFa
    have nFs : Fa ≠ s := fun e => by
      obtain ⟨o, ho⟩ := src0
      rw [e, ho] at hF0
      cases hF0
    refine q_forR1 (n := (n : Int)) (ea_cons (ev_var rfl) ea_nil) ⟨by omega, by omega⟩
      (fun i σ' H' => H' Fa = some (.lst ((namesOf sty i).map V.str)) ∧ Drew s (B + 1) H H' ∧ ∃ y5 y6, σ' = [some (.ref s), some (.int n), some (.str alphabet), some (.int (sty : Int)), some (.ref Fa), y5, y6])
      (fun H4 e4 => ⟨e4 _ _ hF3, (D2.ex e3).ex e4, _, _, rfl⟩) ?_ ?_
    · rintro i σ' H4 hi ⟨hF4, dr4, y5, y6, rfl⟩
      have hi' : i < 40 := by omega
      have small : ∀ c : Nat, ((⟨#[c]⟩ : Str)).length = 1 := fun _ => rfl
      have sL : alphabet.length ≤ 100000 := by decide
      have et : ∀ {σ : L2.St} {H' : Hp}, σ[2]? = some (some (.str alphabet)) → σ[5]? = some (some (.int (i : Int))) → Ev (tOp rIxS (tVar 2) (tOp (rI CDiv fun i j => .int (i / j)) (tVar 5) (tC (.int 26)))) σ H' (.str ⟨#[97 + i / 26]⟩) := fun h1 h2 =>
        ev_op (ev_var h1) (ev_is (ev_op (ev_var h2) ev_c (rv_I ⟨by decide, by decide⟩)) (show _ = V.int ((i / 26 : Nat) : Int) from congrArg V.int (by omega))) (rv_ixS sL (atI_nat (alph_at (by omega))))
      have em : ∀ {σ : L2.St} {H' : Hp}, σ[2]? = some (some (.str alphabet)) → σ[5]? = some (some (.int (i : Int))) → Ev (tOp rIxS (tVar 2) (tOp (rI (fun _ j => 0 < j) fun i j => .int (i % j)) (tVar 5) (tC (.int 26)))) σ H' (.str ⟨#[97 + i % 26]⟩) := fun h1 h2 =>
        ev_op (ev_var h1) (ev_is (ev_op (ev_var h2) ev_c (rv_I (by decide))) (show _ = V.int ((i % 26 : Nat) : Int) from congrArg V.int (by omega))) (rv_ixS sL (atI_nat (alph_at (by omega))))
      refine q_asg (v := .str (tailOf i)) (ev_op (et rfl rfl) (em rfl rfl) (rv_addS (by rw [small, small]; decide))) fun H5 e5 => ?_
      refine s_app (v := .str (nm sty i)) (e5 _ _ hF4) (ev_var rfl) (ev_opL1 (xs := [.str (tailOf i), .str (("abcdef" : Str) ++ tailOf i), .str (Txt.mul ⟨#[97 + i % 26]⟩ (1 + ((i / 26 : Nat) : Int)))]) (y := .int (sty : Int)) (el_lst (ea_cons (ev_var rfl) (ea_cons (ev_op ev_c (ev_var rfl) (rv_addS ?_))
        (ea_cons (ev_op (em rfl rfl) (ev_is (ev_op ev_c (ev_op (ev_var rfl) ev_c (rv_I ⟨by decide, by decide⟩)) rv_I0) (show _ = V.int (1 + ((i / 26 : Nat) : Int)) from congrArg V.int (by omega))) (rv_mulS (mul_small (by omega) (by omega) (by rw [small]; decide)))) ea_nil))) (show 3 ≤ 100000 by decide)) (fun _ _ => ev_var rfl) fun p H6 hp _ => rv_ixL (sq_of hp) (atI_nat ?_)) ?_ fun H6 e6 => ?_
      · unfold tailOf
        rw [strLen_append, small, small]
        decide
      · match sty, hst with
        | 0, _ => rfl
        | 1, _ => rfl
        | 2, _ => rfl
      · rw [List.length_map]
        unfold namesOf
        rw [List.length_map, List.length_range]
        omega
      · refine ⟨?_, ((dr4.ex e5).ex e6).mut src0 hF0, _, _, rfl⟩
        rw [upd_same]
        unfold namesOf
        rw [List.range_succ, List.map_append, List.map_append]
        rfl
    · rintro σ' H4 ⟨hF4, dr4, y5, y6, rfl⟩
      rw [Int.toNat_natCast] at hF4
      obtain ⟨a1, a2, a3⟩ := names_all hst hn
      have len : ((namesOf sty n).map V.str).length = n := by rw [List.length_map, a3]
      refine ⟨.ref s, rfl, .ref Fa, rfl, s, Fa, _, B + 1, rfl, dr4.src, hF4, nFs, by omega, by omega, fun H5 p ys dr5 hp hys pm => ?_⟩
      obtain ⟨us, rfl, pu⟩ := perm_strs pm
      rw [len] at dr5
      exact q H5 p us (dr4.trans dr5) (dr4.none src0 hp) hys (by rw [pu.length_eq, a3]) (fun z hz => a1 z (pu.mem_iff.mp hz)) (pu.nodup_iff.mpr a2)
end
end K91
/-! forests: the mathematics, and pairs of ints in the heap -/
namespace Os
open PySem PySem.Spec PyProof.Rows L2 Evl

abbrev Pr := Nat × Nat
/-! ### labels that are merged: the program's search for a cycle -/
def merge (t : List Nat) (e : Pr) : List Nat := t.map fun x => if x = t.getD e.2 0 then t.getD e.1 0 else x
def cycB : List Pr → List Nat → Bool
  | [], _ => false
  | e :: r, t => if t.getD e.1 0 = t.getD e.2 0 then true else cycB r (merge t e)
/-- each edge has a side that all other edges respect -/
def Bridges (es : List Pr) : Prop := ∀ e ∈ es, ∃ S : Nat → Bool, S e.1 ≠ S e.2 ∧ ∀ f ∈ es, f ≠ e → S f.1 = S f.2
theorem merge_length (t : List Nat) (e : Pr) : (merge t e).length = t.length := List.length_map ..
theorem getD_map {f : Nat → Nat} {t : List Nat} {i : Nat} (h : i < t.length) : (t.map f).getD i 0 = f (t.getD i 0) := by
  rw [List.getD_eq_getElem?_getD, List.getD_eq_getElem?_getD, List.getElem?_map, List.getElem?_eq_getElem h]
  rfl
/-- labels are equal only where every respected side is -/
def Fine (t : List Nat) (done : List Pr) : Prop := ∀ x y, x < t.length → y < t.length → t.getD x 0 = t.getD y 0 → ∀ S : Nat → Bool, (∀ f ∈ done, S f.1 = S f.2) → S x = S y
theorem fine_start (n : Nat) : Fine (List.range n) [] := fun x y hx hy e S _ => by
  rw [List.length_range] at hx hy
  rw [List.getD_eq_getElem?_getD, List.getD_eq_getElem?_getD, List.getElem?_range hx, List.getElem?_range hy] at e
  have e2 : x = y := e
  rw [e2]
theorem fine_merge {t : List Nat} {done : List Pr} {e : Pr} (h : Fine t done) (h1 : e.1 < t.length) (h2 : e.2 < t.length) : Fine (merge t e) (done ++ [e]) := fun x y hx hy q S hS => by
  rw [merge_length] at hx hy
  unfold merge at q
  rw [getD_map hx, getD_map hy] at q
  have hd : ∀ f ∈ done, S f.1 = S f.2 := fun f hf => hS f (List.mem_append_left _ hf)
  have he : S e.1 = S e.2 := hS e (by simp)
  by_cases a : t.getD x 0 = t.getD e.2 0
  · have sx := h x e.2 hx h2 a S hd
    by_cases b : t.getD y 0 = t.getD e.2 0
    · rw [sx, h y e.2 hy h2 b S hd]
    · rw [if_pos a, if_neg b] at q
      rw [sx, ← he, h e.1 y h1 hy q S hd]
  · by_cases b : t.getD y 0 = t.getD e.2 0
    · rw [if_neg a, if_pos b] at q
      rw [h x e.1 hx h1 q S hd, he, h y e.2 hy h2 b S hd]
    · rw [if_neg a, if_neg b] at q
      exact h x y hx hy q S hd
theorem cyc_none {es : List Pr} (br : Bridges es) (nd : es.Nodup) : ∀ (r done : List Pr) (t : List Nat), es = done ++ r → (∀ e ∈ r, e.1 < t.length ∧ e.2 < t.length) → Fine t done → cycB r t = false
  | [], _, _, _, _, _ => rfl
  | e :: r, done, t, he, hb, hf => by
    obtain ⟨b1, b2⟩ := hb e List.mem_cons_self
    obtain ⟨S, s1, s2⟩ := br e (by rw [he]; simp)
    have ne : ¬ t.getD e.1 0 = t.getD e.2 0 := fun q => s1 (hf e.1 e.2 b1 b2 q S fun f hf' => s2 f (by rw [he]; exact List.mem_append_left _ hf') fun z => by
      rw [he] at nd
      exact (List.nodup_append.mp nd).2.2 f hf' e List.mem_cons_self z)
    unfold cycB
    rw [if_neg ne]
    refine cyc_none br nd r (done ++ [e]) (merge t e) (by rw [he, List.append_assoc]; rfl) (fun f hf' => ?_) (fine_merge hf b1 b2)
    rw [merge_length]
    exact hb f (List.mem_cons_of_mem _ hf')
/-! ### order of pairs -/
def ltP (e f : Pr) : Bool := decide (e.1 < f.1) || (decide (e.1 = f.1) && decide (e.2 < f.2))
def ascB : List Pr → Bool
  | e :: f :: r => ltP e f && ascB (f :: r)
  | _ => true
/-- a forest's edges -/
structure Edges (n : Nat) (es : List Pr) : Prop where
  inn : ∀ e ∈ es, e.1 < e.2 ∧ e.2 < n
  asc : es.Pairwise fun e f => ltP e f = true
  br : Bridges es
theorem ltP_irr (e : Pr) : ltP e e = false := by
  unfold ltP
  rw [decide_eq_false (Nat.lt_irrefl _), decide_eq_false (Nat.lt_irrefl _), Bool.and_false]
  rfl
theorem ltP_iff {e f : Pr} : ltP e f = true ↔ e.1 < f.1 ∨ (e.1 = f.1 ∧ e.2 < f.2) := by
  unfold ltP
  simp only [Bool.or_eq_true, Bool.and_eq_true, decide_eq_true_eq]
theorem ltP_trans {e f g : Pr} (h1 : ltP e f = true) (h2 : ltP f g = true) : ltP e g = true := by
  rw [ltP_iff] at *
  omega
theorem Edges.nodup {n : Nat} {es : List Pr} (h : Edges n es) : es.Nodup := h.asc.imp fun {a b} q e => by
  rw [e, ltP_irr] at q
  cases q
theorem asc_of : ∀ {es : List Pr}, es.Pairwise (fun e f => ltP e f = true) → ascB es = true
  | [], _ => rfl
  | [_], _ => rfl
  | e :: f :: r, h => by
    obtain ⟨h1, h2⟩ := List.pairwise_cons.mp h
    show (ltP e f && ascB (f :: r)) = true
    rw [h1 f List.mem_cons_self, asc_of h2]
    rfl
theorem Edges.no_cyc {n : Nat} {es : List Pr} (h : Edges n es) : cycB es (List.range n) = false :=
  cyc_none h.br h.nodup es [] _ rfl (fun e he => by
    rw [List.length_range]
    have := h.inn e he
    omega) (fine_start n)

/-! ### pairs in the heap -/
/-- v is a tuple of the two ints -/
def PrV (G : Hp) (v : V) (e : Pr) : Prop := ∃ t, v = .ref t ∧ G t = some (.tup [.int (e.1 : Int), .int (e.2 : Int)])
inductive PrsV (G : Hp) : List V → List Pr → Prop
  | nil : PrsV G [] []
  | cons {v : V} {vs : List V} {e : Pr} {es : List Pr} : PrV G v e → PrsV G vs es → PrsV G (v :: vs) (e :: es)
theorem PrV.ex {G G' : Hp} (h : Ex G G') {v : V} {e : Pr} (p : PrV G v e) : PrV G' v e := by
  obtain ⟨t, e1, e2⟩ := p
  exact ⟨t, e1, h _ _ e2⟩
theorem PrsV.ex {G G' : Hp} (h : Ex G G') : ∀ {vs : List V} {es : List Pr}, PrsV G vs es → PrsV G' vs es
  | _, _, .nil => .nil
  | _, _, .cons p r => .cons (p.ex h) (PrsV.ex h r)
theorem PrsV.length {G : Hp} : ∀ {vs : List V} {es : List Pr}, PrsV G vs es → vs.length = es.length
  | _, _, .nil => rfl
  | _, _, .cons _ r => congrArg (· + 1) (PrsV.length r)
theorem PrsV.get {G : Hp} : ∀ {vs : List V} {es : List Pr} {i : Nat} {v : V}, PrsV G vs es → vs[i]? = some v → ∃ e, es[i]? = some e ∧ PrV G v e
  | _, _, _, _, .nil, h => by simp at h
  | _, _, 0, _, .cons p _, h => by simp at h; subst h; exact ⟨_, rfl, p⟩
  | _, _, i + 1, v, .cons _ r, h => by
    obtain ⟨e, h1, h2⟩ := PrsV.get (i := i) (v := v) r (by simpa using h)
    exact ⟨e, by simpa using h1, h2⟩
theorem PrsV.get' {G : Hp} : ∀ {vs : List V} {es : List Pr} {i : Nat} {e : Pr}, PrsV G vs es → es[i]? = some e → ∃ v, vs[i]? = some v ∧ PrV G v e
  | _, _, _, _, .nil, h => by simp at h
  | _, _, 0, _, .cons p _, h => by simp at h; subst h; exact ⟨_, rfl, p⟩
  | _, _, i + 1, e, .cons _ r, h => by
    obtain ⟨v, h1, h2⟩ := PrsV.get' (i := i) (e := e) r (by simpa using h)
    exact ⟨v, by simpa using h1, h2⟩
theorem PrsV.append {G : Hp} : ∀ {vs us : List V} {es fs : List Pr}, PrsV G vs es → PrsV G us fs → PrsV G (vs ++ us) (es ++ fs)
  | _, _, _, _, .nil, r => r
  | _, _, _, _, .cons p q, r => .cons p (PrsV.append q r)
theorem PrsV.drop {G : Hp} : ∀ {vs : List V} {es : List Pr} (i : Nat), PrsV G vs es → PrsV G (vs.drop i) (es.drop i)
  | _, _, 0, h => h
  | _, _, _ + 1, .nil => .nil
  | _, _, i + 1, .cons _ r => PrsV.drop i r
theorem PrsV.take {G : Hp} : ∀ {vs : List V} {es : List Pr} (i : Nat), PrsV G vs es → PrsV G (vs.take i) (es.take i)
  | _, _, 0, _ => .nil
  | _, _, _ + 1, .nil => .nil
  | _, _, i + 1, .cons p r => .cons p (PrsV.take i r)
theorem PrsV.reverse {G : Hp} : ∀ {vs : List V} {es : List Pr}, PrsV G vs es → PrsV G vs.reverse es.reverse
  | _, _, .nil => .nil
  | _, _, .cons p r => by
    rw [List.reverse_cons, List.reverse_cons]
    exact PrsV.append (PrsV.reverse r) (.cons p .nil)
theorem PrsV.perm {G : Hp} {vs us : List V} (h : vs.Perm us) : ∀ {es : List Pr}, PrsV G us es → ∃ fs, PrsV G vs fs ∧ fs.Perm es := by
  induction h with
  | nil => exact fun h => ⟨_, h, List.Perm.refl _⟩
  | cons x _ ih =>
    intro es h
    cases h with
    | cons p r =>
      obtain ⟨fs, h1, h2⟩ := ih r
      exact ⟨_, .cons p h1, h2.cons _⟩
  | swap x y l =>
    intro es h
    cases h with
    | cons p r =>
      cases r with
      | cons q r => exact ⟨_, .cons q (.cons p r), List.Perm.swap _ _ _⟩
  | trans _ _ ih1 ih2 =>
    intro es h
    obtain ⟨fs, h1, h2⟩ := ih2 h
    obtain ⟨gs, h3, h4⟩ := ih1 h1
    exact ⟨gs, h3, h4.trans h2⟩
def prD (e : Pr) : PyData := .tuple [.int (e.1 : Int), .int (e.2 : Int)]
theorem PrV.dt {G : Hp} {v : V} {e : Pr} (p : PrV G v e) : Dt G v (prD e) := by
  obtain ⟨t, rfl, h⟩ := p
  exact .tup h (.cons (.int _) (.cons (.int _) .nil))
theorem PrsV.dts {G : Hp} : ∀ {vs : List V} {es : List Pr}, PrsV G vs es → Dts G vs (es.map prD)
  | _, _, .nil => .nil
  | _, _, .cons p r => .cons p.dt (PrsV.dts r)
end Os
/-! the drawn forests: each later label is tied to an earlier one at most once -/
namespace Os
open PySem PySem.Spec PyProof.Rows L2 Evl
theorem snd_inj : ∀ {ks : List Pr}, ks.Pairwise (fun p q => p.2 < q.2) → ∀ {p q : Pr}, p ∈ ks → q ∈ ks → p.2 = q.2 → p = q
  | x :: r, h, p, q, hp, hq, e => by
    obtain ⟨h1, h2⟩ := List.pairwise_cons.mp h
    rcases List.mem_cons.mp hp with ep | hp
    · rcases List.mem_cons.mp hq with eq | hq
      · rw [ep, eq]
      · have := h1 q hq
        rw [ep] at e
        omega
    · rcases List.mem_cons.mp hq with eq | hq
      · have := h1 p hp
        rw [eq] at e
        omega
      · exact snd_inj h2 hp hq e
def edgeOf (lab : List Nat) (p : Pr) : Pr := (min (lab.getD p.1 0) (lab.getD p.2 0), max (lab.getD p.1 0) (lab.getD p.2 0))
/-- the places that hang below those of T -/
def below : List Pr → (Nat → Bool) → Nat → Bool
  | [], T => T
  | p :: r, T => below r fun x => T x || (decide (x = p.2) && T p.1)
theorem below_out : ∀ {ks : List Pr} {T : Nat → Bool} {x : Nat}, (∀ p ∈ ks, p.2 ≠ x) → below ks T x = T x
  | [], _, _, _ => rfl
  | p :: r, T, x, h => by
    show below r _ x = T x
    rw [below_out fun q hq => h q (List.mem_cons_of_mem _ hq), decide_eq_false fun e => h p List.mem_cons_self e.symm, Bool.false_and, Bool.or_false]
theorem below_tie : ∀ {ks : List Pr} {T : Nat → Bool} {a k : Nat}, (∀ p ∈ ks, p.1 < p.2) → ks.Pairwise (fun p q => p.2 < q.2) → (a, k) ∈ ks → below ks T k = (T k || below ks T a)
  | p :: r, T, a, k, hl, inc, hm => by
    obtain ⟨i1, i2⟩ := List.pairwise_cons.mp inc
    rcases List.mem_cons.mp hm with e | hm
    · subst e
      have lt : a < k := hl _ List.mem_cons_self
      show below r _ k = (T k || below r _ a)
      rw [below_out (x := k) fun q hq e => by have := i1 q hq; omega, below_out (x := a) fun q hq e => by have := i1 q hq; omega]
      rw [decide_eq_true rfl, decide_eq_false (show ¬ a = k by omega), Bool.true_and, Bool.false_and, Bool.or_false]
    · have gt : p.2 < k := i1 _ hm
      show below r _ k = (T k || below r _ a)
      rw [below_tie (fun q hq => hl q (List.mem_cons_of_mem _ hq)) i2 hm, decide_eq_false (show ¬ k = p.2 by omega), Bool.false_and, Bool.or_false]
theorem below_up : ∀ {ks : List Pr} {T : Nat → Bool} {x : Nat}, T x = true → below ks T x = true
  | [], _, _, h => h
  | p :: r, T, x, h => below_up (ks := r) (by rw [h]; rfl)
theorem below_ge : ∀ {ks : List Pr} {T : Nat → Bool} {c : Nat}, (∀ p ∈ ks, p.1 < p.2) → (∀ x, T x = true → c ≤ x) → ∀ x, below ks T x = true → c ≤ x
  | [], _, _, _, h => h
  | p :: r, T, c, hl, h => below_ge (ks := r) (fun q hq => hl q (List.mem_cons_of_mem _ hq)) fun x hx => by
    rw [Bool.or_eq_true, Bool.and_eq_true] at hx
    rcases hx with hx | ⟨h1, h2⟩
    · exact h x hx
    · have e := of_decide_eq_true h1
      have := h p.1 h2
      have := hl p List.mem_cons_self
      omega
theorem perm_nats {l : List Nat} {ys : List V} (h : ys.Perm (l.map fun x : Nat => V.int (x : Int))) : ∃ us : List Nat, ys = us.map (fun x : Nat => V.int (x : Int)) ∧ us.Perm l := by
  have back : ∀ x ∈ ys, ∃ z : Nat, x = V.int (z : Int) := fun x hx => by
    obtain ⟨z, _, e⟩ := List.mem_map.mp (h.mem_iff.mp hx)
    exact ⟨z, e.symm⟩
  let un : V → Nat := fun v => match v with
    | .int z => z.toNat
    | _ => 0
  refine ⟨ys.map un, ?_, ?_⟩
  · rw [List.map_map]
    have : ys.map ((fun x : Nat => V.int (x : Int)) ∘ un) = ys.map id := List.map_congr_left fun x hx => by
      obtain ⟨z, e⟩ := back x hx
      rw [e]
      rfl
    rw [this, List.map_id]
  · have := h.map un
    rw [List.map_map] at this
    have e : l.map (un ∘ fun x : Nat => V.int (x : Int)) = l := by
      have : l.map (un ∘ fun x : Nat => V.int (x : Int)) = l.map id := List.map_congr_left fun x _ => rfl
      rw [this, List.map_id]
    rwa [e] at this
section
variable {lab : List Nat} {n : Nat}
theorem lab_len (pm : lab.Perm (List.range n)) : lab.length = n := by rw [pm.length_eq, List.length_range]
theorem lab_lt (pm : lab.Perm (List.range n)) {i : Nat} (h : i < n) : lab.getD i 0 < n := by
  rw [List.getD_eq_getElem?_getD, List.getElem?_eq_getElem (by rw [lab_len pm]; exact h)]
  exact List.mem_range.mp (pm.mem_iff.mp (List.getElem_mem _))
theorem lab_inj (pm : lab.Perm (List.range n)) {i j : Nat} (hi : i < n) (hj : j < n) (e : lab.getD i 0 = lab.getD j 0) : i = j := by
  have nd : lab.Nodup := pm.nodup_iff.mpr List.nodup_range
  have li : i < lab.length := by rw [lab_len pm]; exact hi
  have lj : j < lab.length := by rw [lab_len pm]; exact hj
  rw [List.getD_eq_getElem?_getD, List.getD_eq_getElem?_getD, List.getElem?_eq_getElem li, List.getElem?_eq_getElem lj] at e
  have e' : lab[i] = lab[j] := e
  refine Decidable.byContradiction fun ne => ?_
  rcases Nat.lt_or_gt_of_ne ne with h | h
  · exact List.pairwise_iff_getElem.mp nd i j li lj h e'
  · exact List.pairwise_iff_getElem.mp nd j i lj li h e'.symm
/-- a property of places, said of labels -/
def onLab (lab : List Nat) (n : Nat) (T : Nat → Bool) (x : Nat) : Bool := (List.range n).any fun i => decide (lab.getD i 0 = x) && T i
theorem onLab_at (pm : lab.Perm (List.range n)) (T : Nat → Bool) {i : Nat} (hi : i < n) : onLab lab n T (lab.getD i 0) = T i := by
  unfold onLab
  cases h : T i with
  | true => exact List.any_eq_true.mpr ⟨i, List.mem_range.mpr hi, by rw [decide_eq_true rfl, h]; rfl⟩
  | false =>
    refine List.any_eq_false.mpr fun j hj z => ?_
    rw [Bool.and_eq_true] at z
    have e := lab_inj pm (List.mem_range.mp hj) hi (of_decide_eq_true z.1)
    rw [e, h] at z
    cases z.2
theorem minmax (S : Nat → Bool) (u v : Nat) : (S (min u v) = S (max u v)) ↔ S u = S v := by
  by_cases h : u ≤ v
  · rw [Nat.min_eq_left h, Nat.max_eq_right h]
  · rw [Nat.min_eq_right (by omega), Nat.max_eq_left (by omega)]
    exact ⟨Eq.symm, Eq.symm⟩
theorem drawn_edges {ks : List Pr} (pm : lab.Perm (List.range n)) (hl : ∀ p ∈ ks, p.1 < p.2 ∧ p.2 < n) (inc : ks.Pairwise fun p q => p.2 < q.2) :
    (∀ e ∈ ks.map (edgeOf lab), e.1 < e.2 ∧ e.2 < n) ∧ (ks.map (edgeOf lab)).Nodup ∧ Bridges (ks.map (edgeOf lab)) := by
  refine ⟨fun e he => ?_, ?_, fun e he => ?_⟩
  · obtain ⟨p, hp, rfl⟩ := List.mem_map.mp he
    obtain ⟨h1, h2⟩ := hl p hp
    have a := lab_lt pm (show p.1 < n by omega)
    have b := lab_lt pm h2
    have ne : lab.getD p.1 0 ≠ lab.getD p.2 0 := fun z => by
      have := lab_inj pm (show p.1 < n by omega) h2 z
      omega
    show min _ _ < max _ _ ∧ max _ _ < n
    omega
  · unfold List.Nodup
    rw [List.pairwise_map]
    refine List.Pairwise.imp_of_mem (fun {p q} hp hq lt e => ?_) inc
    obtain ⟨h1, h2⟩ := hl p hp
    obtain ⟨h3, h4⟩ := hl q hq
    have e1 : min (lab.getD p.1 0) (lab.getD p.2 0) = min (lab.getD q.1 0) (lab.getD q.2 0) := congrArg Prod.fst e
    have e2 : max (lab.getD p.1 0) (lab.getD p.2 0) = max (lab.getD q.1 0) (lab.getD q.2 0) := congrArg Prod.snd e
    have or : (lab.getD p.1 0 = lab.getD q.1 0 ∧ lab.getD p.2 0 = lab.getD q.2 0) ∨ (lab.getD p.1 0 = lab.getD q.2 0 ∧ lab.getD p.2 0 = lab.getD q.1 0) := by omega
    rcases or with ⟨_, z⟩ | ⟨z1, z2⟩
    · have := lab_inj pm h2 h4 z
      omega
    · have := lab_inj pm (by omega) h4 z1
      have := lab_inj pm h2 (by omega) z2
      omega
  · obtain ⟨p, hp, rfl⟩ := List.mem_map.mp he
    obtain ⟨h1, h2⟩ := hl p hp
    have hl1 : ∀ q ∈ ks, q.1 < q.2 := fun q hq => (hl q hq).1
    refine ⟨onLab lab n (below ks fun x => decide (x = p.2)), ?_, fun f hf ne => ?_⟩
    · intro z
      have z2 := (minmax _ _ _).mp z
      rw [onLab_at pm _ (show p.1 < n by omega), onLab_at pm _ h2, below_up (x := p.2) (decide_eq_true rfl)] at z2
      have := below_ge (c := p.2) hl1 (fun x hx => by have := of_decide_eq_true hx; omega) p.1 z2
      omega
    · obtain ⟨q, hq, rfl⟩ := List.mem_map.mp hf
      obtain ⟨h3, h4⟩ := hl q hq
      refine (minmax _ _ _).mpr ?_
      rw [onLab_at pm _ (show q.1 < n by omega), onLab_at pm _ h4]
      have nk : q.2 ≠ p.2 := fun z => by
        have : p = q := snd_inj inc hp hq z.symm
        rw [this] at ne
        exact ne rfl
      have t := below_tie (T := fun x => decide (x = p.2)) hl1 inc (show (q.1, q.2) ∈ ks from hq)
      rw [decide_eq_false nk, Bool.false_or] at t
      exact t.symm
end
/-! ### sorted -/
theorem Bridges.perm {es fs : List Pr} (h : Bridges es) (pm : fs.Perm es) : Bridges fs := fun e he => by
  obtain ⟨S, h1, h2⟩ := h e (pm.mem_iff.mp he)
  exact ⟨S, h1, fun f hf => h2 f (pm.mem_iff.mp hf)⟩
theorem asc_strict {es : List Pr} (nd : es.Nodup) (small : ∀ e ∈ es, e.1 < 64 ∧ e.2 < 64) (h : es.Pairwise fun e f => (e.1 : Int) * 64 + (e.2 : Int) ≤ (f.1 : Int) * 64 + (f.2 : Int)) : es.Pairwise fun e f => ltP e f = true := by
  have h2 := h.and nd
  refine List.Pairwise.imp_of_mem (fun {e f} he hf z => ?_) h2
  obtain ⟨a1, a2⟩ := small e he
  obtain ⟨b1, b2⟩ := small f hf
  rw [ltP_iff]
  by_cases q : e.1 = f.1
  · by_cases q2 : e.2 = f.2
    · exact absurd (Prod.ext q q2) z.2
    · have := z.1
      omega
  · have := z.1
    omega
end Os
/-! what evaluates to something of a kind: displays, sums and slices whose items are new objects themselves -/
namespace Os
open PySem PySem.Spec PyProof.Rows L2 Evl

/-- R is kept by more heap -/
def Up (R : Hp → V → Prop) : Prop := ∀ G G' v, Ex G G' → R G v → R G' v
section
variable (s : Addr) (R : Hp → V → Prop)
def EvR (te : TE) (σ : L2.St) (H : Hp) : Prop := ∀ H1, Ex H H1 → ∀ Q : VK, (∀ v H2, Ex H1 H2 → R (hide s H2) v → Q v H2) → te σ H1 Q
def EvAR (ta : TA) (σ : L2.St) (H : Hp) (n : Nat) : Prop := ∀ H1, Ex H H1 → ∀ Q : List V → Hp → Prop, (∀ vs H2, Ex H1 H2 → vs.length = n → (∀ v ∈ vs, R (hide s H2) v) → Q vs H2) → ta σ H1 Q
/-- a new list of lo to hi such items -/
def EvLR (te : TE) (σ : L2.St) (H : Hp) (lo hi : Nat) : Prop := ∀ H1, Ex H H1 → ∀ Q : VK,
  (∀ p xs H2, H1 p = none → Ex H1 H2 → H2 p = some (.lst xs) → lo ≤ xs.length → xs.length ≤ hi → (∀ x ∈ xs, R (hide s H2) x) → Q (.ref p) H2) → te σ H1 Q
/-- a list that stands at p, the same of its items -/
def LsR (H : Hp) (p : Addr) (lo hi : Nat) : Prop := p ≠ s ∧ ∃ xs, H p = some (.lst xs) ∧ lo ≤ xs.length ∧ xs.length ≤ hi ∧ ∀ x ∈ xs, R (hide s H) x
end
section
variable {K : PySem.W.Frag} {s : Addr} {R : Hp → V → Prop} {σ : L2.St} {H H' : Hp} {ta tb te : TE} {tl tr : TA} {n m lo hi lo' hi' : Nat} {v : V}
theorem hide_ex (e : Ex H H') : Ex (hide s H) (hide s H') := Same.hide (same_ex e)
theorem er_of (up : Up R) (h : Ev te σ H v) (r : R (hide s H) v) : EvR s R te σ H := fun H1 e Q q =>
  h H1 e _ fun H2 e2 => q v H2 e2 (up _ _ _ (hide_ex (e.trans e2)) r)
theorem er_mono (e : Ex H H') (h : EvR s R te σ H) : EvR s R te σ H' := fun H1 a Q q => h H1 (e.trans a) Q q
theorem ear_nil : EvAR s R tNil σ H 0 := fun H1 _ Q q => q [] H1 (Ex.refl _) rfl fun _ h => nomatch h
theorem ear_cons (up : Up R) (h : EvR s R te σ H) (hr : EvAR s R tr σ H n) : EvAR s R (tCons te tr) σ H (n + 1) := fun H1 e Q q =>
  h H1 e _ fun v H2 e2 r => hr H2 (e.trans e2) _ fun vs H3 e3 hn hv => q (v :: vs) H3 (e2.trans e3) (by rw [List.length_cons, hn]) fun x hx => by
    rcases List.mem_cons.mp hx with rfl | hx
    · exact up _ _ _ (hide_ex e3) r
    · exact hv x hx
theorem new_apart (hs : ∃ o, H s = some o) {p : Addr} (h : H p = none) : p ≠ s := fun e => by
  obtain ⟨o, ho⟩ := hs
  rw [e, ho] at h
  cases h
theorem elr_lst (up : Up R) (h : EvAR s R tl σ H n) (hn : n ≤ 1000) : EvLR s R (tLst tl) σ H n n := fun H1 e Q q =>
  h H1 e _ fun vs H2 e2 hl hv => ⟨by rw [hl]; exact sz_of (by omega), fun p hp => q p vs _ (fresh_back e2 hp) (e2.trans (Ex.new hp)) upd_same (by omega) (by omega) fun x hx => up _ _ _ (hide_ex (Ex.new hp)) (hv x hx)⟩
theorem elr_cat (up : Up R) (h1 : EvLR s R ta σ H lo hi) (h2 : EvLR s R tb σ H lo' hi') (hn : hi + hi' ≤ 10000) : EvLR s R (tOp rCat ta tb) σ H (lo + lo') (hi + hi') := fun H1 e Q q =>
  h1 H1 e _ fun p xs H2 hp e2 hx l1 l2 rx => h2 H2 (e.trans e2) _ fun p' ys H3 hp' e3 hy l3 l4 ry =>
    ⟨p, p', xs, ys, rfl, rfl, e3 _ _ hx, hy, sz_of (by omega), fun r hr => q r (xs ++ ys) _ (fresh_back (e2.trans e3) hr) ((e2.trans e3).trans (Ex.new hr)) upd_same (by rw [List.length_append]; omega) (by rw [List.length_append]; omega) fun x hx => by
      rcases List.mem_append.mp hx with z | z
      · exact up _ _ _ (hide_ex (e3.trans (Ex.new hr))) (rx x z)
      · exact up _ _ _ (hide_ex (Ex.new hr)) (ry x z)⟩
/-- the left one stands there already -/
theorem elr_catV (up : Up R) {p : Addr} (h1 : Ev ta σ H (.ref p)) (hp : LsR s R H p lo hi) (h2 : EvLR s R tb σ H lo' hi') (hn : hi + hi' ≤ 10000) : EvLR s R (tOp rCat ta tb) σ H (lo + lo') (hi + hi') := fun H1 e Q q => by
  obtain ⟨_, xs, hx, l1, l2, rx⟩ := hp
  exact h1 H1 e _ fun H2 e2 => h2 H2 (e.trans e2) _ fun p' ys H3 hp' e3 hy l3 l4 ry =>
    ⟨p, p', xs, ys, rfl, rfl, ((e.trans e2).trans e3) _ _ hx, hy, sz_of (by omega), fun r hr => q r (xs ++ ys) _ (fresh_back (e2.trans e3) hr) ((e2.trans e3).trans (Ex.new hr)) upd_same (by rw [List.length_append]; omega) (by rw [List.length_append]; omega) fun x hx => by
      rcases List.mem_append.mp hx with z | z
      · exact up _ _ _ (hide_ex (((e.trans e2).trans e3).trans (Ex.new hr))) (rx x z)
      · exact up _ _ _ (hide_ex (Ex.new hr)) (ry x z)⟩
/-- a list that is known whole -/
theorem elr_of (up : Up R) {xs : List V} (h : EvL te σ H xs) (l1 : lo ≤ xs.length) (l2 : xs.length ≤ hi) (r : ∀ x ∈ xs, R (hide s H) x) : EvLR s R te σ H lo hi := fun H1 e Q q =>
  h H1 e _ fun p H2 hp e2 h2 => q p xs H2 hp e2 h2 l1 l2 fun x hx => up _ _ _ (hide_ex (e.trans e2)) (r x hx)
/-- such a list as a value of another kind -/
theorem er_list {R' : Hp → V → Prop} (hs : ∃ o, H s = some o) (h : EvLR s R te σ H lo hi) (f : ∀ p xs G, G p = some (.lst xs) → lo ≤ xs.length → xs.length ≤ hi → (∀ x ∈ xs, R G x) → R' G (.ref p)) : EvR s R' te σ H := fun H1 e Q q =>
  h H1 e _ fun p xs H2 hp e2 h2 l1 l2 r => q (.ref p) H2 e2 (f p xs _ (by
    rw [hide_ne (new_apart (by obtain ⟨o, ho⟩ := hs; exact ⟨o, e _ _ ho⟩) hp)]
    exact h2) l1 l2 r)
theorem er_tup {R' : Hp → V → Prop} (up : Up R) (hs : ∃ o, H s = some o) (h : EvAR s R tl σ H n) (hn : n ≤ 1000) (f : ∀ p xs G, G p = some (.tup xs) → xs.length = n → (∀ x ∈ xs, R G x) → R' G (.ref p)) : EvR s R' (tTup tl) σ H := fun H1 e Q q =>
  h H1 e _ fun vs H2 e2 hl hv => ⟨by rw [hl]; exact sz_of (by omega), fun p hp => q (.ref p) _ (e2.trans (Ex.new hp)) (f p vs _ (by
    rw [hide_ne (new_apart (by obtain ⟨o, ho⟩ := hs; exact ⟨o, e2 _ _ (e _ _ ho)⟩) hp)]
    exact upd_same) hl fun x hx => up _ _ _ (hide_ex (Ex.new hp)) (hv x hx))⟩
theorem er_imp {R' : Hp → V → Prop} (h : EvR s R te σ H) (f : ∀ G v, R G v → R' G v) : EvR s R' te σ H := fun H1 e Q q => h H1 e Q fun v H2 e2 r => q v H2 e2 (f _ _ r)
/-- statements -/
theorem q_asgR {i : Nat} {D : Ends} {tz : TS} (h : EvR s R te σ H) (k : ∀ v H1, Ex H H1 → R (hide s H1) v → tz D (σ.set i (some v)) H1) : tSeq (tAsg te (gName i)) tz D σ H := h H (Ex.refl H) _ fun v H1 e r => k v H1 e r
theorem q_asgLR {i : Nat} {D : Ends} {tz : TS} (hs : ∃ o, H s = some o) (h : EvLR s R te σ H lo hi) (k : ∀ p H1, H p = none → Ex H H1 → LsR s R H1 p lo hi → tz D (σ.set i (some (.ref p))) H1) : tSeq (tAsg te (gName i)) tz D σ H :=
  h H (Ex.refl H) _ fun p xs H1 hp e h1 l1 l2 r => k p H1 hp e ⟨new_apart hs hp, xs, h1, l1, l2, r⟩
theorem LsR.drew {B : Nat} (up : Up R) {p : Addr} (h : LsR s R H p lo hi) (d : Drew s B H H') : LsR s R H' p lo hi := by
  obtain ⟨np, xs, hx, l1, l2, r⟩ := h
  exact ⟨np, xs, d.get np hx, l1, l2, fun x hx => up _ _ _ d.kept (r x hx)⟩
theorem LsR.ex (up : Up R) {p : Addr} (h : LsR s R H p lo hi) (e : Ex H H') : LsR s R H' p lo hi := by
  obtain ⟨np, xs, hx, l1, l2, r⟩ := h
  exact ⟨np, xs, e _ _ hx, l1, l2, fun x hx => up _ _ _ (hide_ex e) (r x hx)⟩
theorem LsR.pick {Kf : PySem.W.Frag} {p : Addr} {r : Int} {Q : VK} (h : LsR s R H p lo hi) (r0 : 0 ≤ r) (r1 : r < (lo : Int)) (q : ∀ x, R (hide s H) x → Q x H) : rIxL Kf (.ref p) (.int r) H Q := by
  obtain ⟨_, xs, hx, l1, l2, hr⟩ := h
  have lt : r.toNat < xs.length := by omega
  have e : r = (r.toNat : Int) := by omega
  rw [e]
  exact ⟨p, xs, _, xs[r.toNat], rfl, rfl, sq_of hx, atI_nat (List.getElem?_eq_getElem lt), q _ (hr _ (List.getElem_mem lt))⟩
end
end Os
/-! data of bounded text and depth; sorted texts; permutations -/
namespace Os
open PySem PySem.Spec PyProof.Rows L2 Evl
theorem listText_len (ts : List Str) : (listText ts).length ≤ 2 + piled ts := by
  cases ts with
  | nil => decide
  | cons t ts =>
    unfold listText
    show (textFrom 1 ((("[" : Str) ++ ("" : Str)) ++ t) ts ++ ("]" : Str)).length ≤ _
    rw [strLen_append, textFrom_length_pos ts 1 _ (by decide), strLen_append, strLen_append, piled_cons]
    have e1 : ("[" : Str).length = 1 := by decide
    have e2 : ("" : Str).length = 0 := by decide
    have e3 : ("]" : Str).length = 1 := by decide
    omega
theorem tupleText_len (ts : List Str) : (tupleText ts).length ≤ 3 + piled ts := by
  unfold tupleText
  rw [strLen_append, strLen_append]
  have e1 : ("(" : Str).length = 1 := by decide
  have e2 : ((if ts.length == 1 then ",)" else ")" : String) : Str).length ≤ 2 := by split <;> decide
  cases ts with
  | nil => decide
  | cons t ts =>
    have := join_length_add (t :: ts) (fun h => nomatch h)
    omega
theorem str_codes {z : Str} (h : PyData.strOk z = true) : ∀ c ∈ z.cps.toList, c < 1114112 := by
  unfold PyData.strOk at h
  rw [← Array.all_toList, List.all_eq_true] at h
  exact fun c hc => of_decide_eq_true (h c hc)
theorem str_of_codes {z : Str} (h : ∀ c ∈ z.cps.toList, c < 1114112) : PyData.strOk z = true := by
  unfold PyData.strOk
  rw [← Array.all_toList, List.all_eq_true]
  exact fun c hc => decide_eq_true (h c hc)
theorem int_shown : ∀ i, i < 64 → (PyData.int ((i : Nat) : Int)).shown.length ≤ 100 := by decide +kernel
theorem dts_strs {H : Hp} : ∀ zs : List Str, Dts H (zs.map V.str) (zs.map PyData.str)
  | [] => .nil
  | z :: zs => .cons (.str z) (dts_strs zs)

/-- data of ints, texts, lists and tuples -/
structure Sh (n : Nat) (d : PyData) : Prop where
  lay : d.canLay0 = true
  deep : d.depth ≤ n
theorem sh_all {n : Nat} : ∀ {ds : List PyData}, (∀ d ∈ ds, Sh n d) → PyData.canLayAll0 ds = true ∧ PyData.depthAll ds ≤ n
  | [], _ => ⟨rfl, Nat.zero_le _⟩
  | d :: ds, h => by
    obtain ⟨h1, h2⟩ := sh_all (ds := ds) fun x hx => h x (List.mem_cons_of_mem _ hx)
    have i := h d List.mem_cons_self
    refine ⟨?_, ?_⟩
    · show (d.canLay0 && PyData.canLayAll0 ds) = true
      rw [i.lay, h1]
      rfl
    · show max d.depth (PyData.depthAll ds) ≤ n
      have := i.deep
      omega
theorem Sh.lst {n : Nat} {ds : List PyData} (h : ∀ d ∈ ds, Sh n d) : Sh (n + 1) (.list ds) := ⟨(sh_all h).1, Nat.succ_le_succ (sh_all h).2⟩
theorem Sh.tup {n : Nat} {ds : List PyData} (h : ∀ d ∈ ds, Sh n d) : Sh (n + 1) (.tuple ds) := ⟨(sh_all h).1, Nat.succ_le_succ (sh_all h).2⟩
theorem Sh.int (n : Nat) (i : Int) : Sh n (.int i) := ⟨rfl, Nat.zero_le _⟩
theorem Sh.str (n : Nat) {z : Str} (h : PyData.strOk z = true) : Sh n (.str z) := ⟨h, Nat.zero_le _⟩
theorem Sh.mono {m n : Nat} {d : PyData} (h : Sh m d) (le : m ≤ n) : Sh n d := ⟨h.lay, Nat.le_trans h.deep le⟩
theorem Sh.shaped {n : Nat} {d : PyData} (h : Sh n d) (le : n ≤ 64) : SeqAt.shaped d = true := by
  show (d.canLay0 && decide (d.depth ≤ 64)) = true
  rw [h.lay, decide_eq_true (Nat.le_trans h.deep le)]
  rfl
theorem Sh.refl {n : Nat} {d : PyData} (h : Sh n d) : PyData.eqv d d = true := SeqAt.eqv_refl d h.lay
/-- data of bounded text -/
structure Lim (L D : Nat) (d : PyData) : Prop where
  long : d.shown.length ≤ L
  deep : d.depth ≤ D
  show' : d.showable = true
  flat : d.hasDict = false
theorem Lim.fit {L D : Nat} {d : PyData} (h : Lim L D d) (h1 : L ≤ 1000000) (h2 : D ≤ 40) : Fit sizeLine d := ⟨Nat.le_trans h.long (Nat.le_trans h1 (by decide)), Nat.le_trans h.deep h2, h.show', h.flat⟩
theorem Lim.mono {L D L' D' : Nat} {d : PyData} (h : Lim L D d) (h1 : L ≤ L') (h2 : D ≤ D') : Lim L' D' d := ⟨Nat.le_trans h.long h1, Nat.le_trans h.deep h2, h.show', h.flat⟩
theorem lim_all {L D : Nat} : ∀ {ds : List PyData}, (∀ d ∈ ds, Lim L D d) → piled (PyData.shownAll ds) ≤ (L + 2) * ds.length ∧ PyData.depthAll ds ≤ D ∧ PyData.showableAll ds = true ∧ PyData.hasDictAll ds = false
  | [], _ => ⟨Nat.le_refl _, Nat.zero_le _, rfl, rfl⟩
  | d :: ds, h => by
    obtain ⟨h1, h2, h3, h4⟩ := lim_all (ds := ds) fun x hx => h x (List.mem_cons_of_mem _ hx)
    have i := h d List.mem_cons_self
    refine ⟨?_, ?_, ?_, ?_⟩
    · show piled (d.shown :: PyData.shownAll ds) ≤ (L + 2) * (ds.length + 1)
      rw [piled_cons, Nat.mul_succ]
      have := i.long
      omega
    · show max d.depth (PyData.depthAll ds) ≤ D
      have := i.deep
      omega
    · show (d.showable && PyData.showableAll ds) = true
      rw [i.show', h3]
      rfl
    · show (d.hasDict || PyData.hasDictAll ds) = false
      rw [i.flat, h4]
      rfl
theorem Lim.lst {L D m : Nat} {ds : List PyData} (h : ∀ d ∈ ds, Lim L D d) (hm : ds.length ≤ m) : Lim (3 + (L + 2) * m) (D + 1) (.list ds) := by
  obtain ⟨h1, h2, h3, h4⟩ := lim_all h
  have := Nat.mul_le_mul_left (L + 2) hm
  refine ⟨?_, Nat.succ_le_succ h2, h3, h4⟩
  show (listText (PyData.shownAll ds)).length ≤ _
  have := listText_len (PyData.shownAll ds)
  omega
theorem Lim.tup {L D m : Nat} {ds : List PyData} (h : ∀ d ∈ ds, Lim L D d) (hm : ds.length ≤ m) : Lim (3 + (L + 2) * m) (D + 1) (.tuple ds) := by
  obtain ⟨h1, h2, h3, h4⟩ := lim_all h
  have := Nat.mul_le_mul_left (L + 2) hm
  refine ⟨?_, Nat.succ_le_succ h2, h3, h4⟩
  show (tupleText (PyData.shownAll ds)).length ≤ _
  have := tupleText_len (PyData.shownAll ds)
  omega
theorem Lim.str {z : Str} (h : z.length ≤ 8) (ok : PyData.strOk z = true) : Lim 100 0 (.str z) := by
  refine ⟨?_, Nat.zero_le _, rfl, rfl⟩
  show (reprText z).length ≤ _
  have := StrLaws.reprText_len z fun c hc => Nat.lt_trans (str_codes ok c hc) (by decide)
  omega
theorem Lim.int {i : Nat} (h : i < 64) : Lim 100 0 (.int (i : Int)) := by
  refine ⟨int_shown i h, Nat.zero_le _, ?_, rfl⟩
  show decide (((i : Int)).natAbs.log2 < 1920) = true
  refine decide_eq_true ?_
  have : ((i : Int)).natAbs = i := by omega
  rw [this]
  exact Nat.lt_of_le_of_lt (Nat.log2_le_self i) (by omega)
/-! ### sorted texts -/
theorem rising_pair : ∀ {p : Str} {l : List Str}, risingS p l = true → (p :: l).Pairwise fun a b => ¬ b.cps.toList < a.cps.toList
  | p, [], _ => List.pairwise_singleton _ _
  | p, x :: r, h => by
    have h' : (!ltCps x.cps.toList p.cps.toList && risingS x r) = true := h
    rw [Bool.and_eq_true, ltCps_eq, Bool.not_eq_true', decide_eq_false_iff_not] at h'
    have ih := rising_pair h'.2
    refine List.pairwise_cons.mpr ⟨fun b hb => ?_, ih⟩
    rcases List.mem_cons.mp hb with rfl | hb
    · exact h'.1
    · have h2 := List.rel_of_pairwise_cons ih hb
      exact fun z => h2 (Decidable.byContradiction fun n => h'.1 (by
        exact List.lt_of_le_of_lt (List.not_lt.mp n) z))
theorem sortedS_pair {l : List Str} (h : sortedS l = true) : l.Pairwise fun a b => ¬ b.cps.toList < a.cps.toList := by
  cases l with
  | nil => exact .nil
  | cons x r => exact rising_pair h
theorem sorted_same {l m : List Str} (p : l.Perm m) (h1 : sortedS l = true) (h2 : sortedS m = true) : l = m :=
  List.Perm.eq_of_pairwise (fun a b _ _ x y => by
    have e : a.cps.toList = b.cps.toList := List.le_antisymm (List.not_lt.mp x) (List.not_lt.mp y)
    cases a
    cases b
    exact congrArg Str.mk (Array.ext' e)) (sortedS_pair h1) (sortedS_pair h2) p
/-! ### swaps -/
def swp (zs : List Str) (e : Pr) : List Str := (zs.set e.1 (zs.getD e.2 ⟨#[]⟩)).set e.2 (zs.getD e.1 ⟨#[]⟩)
theorem swp_len (zs : List Str) (e : Pr) : (swp zs e).length = zs.length := by
  unfold swp
  rw [List.length_set, List.length_set]
theorem swp_perm {zs : List Str} {e : Pr} (h1 : e.1 < zs.length) (h2 : e.2 < zs.length) : (swp zs e).Perm zs := by
  unfold swp
  rw [List.getD_eq_getElem?_getD, List.getD_eq_getElem?_getD, List.getElem?_eq_getElem h1, List.getElem?_eq_getElem h2]
  exact List.set_set_perm h1 h2
def swps (zs : List Str) (es : List Pr) : List Str := es.foldl swp zs
theorem swps_perm {n : Nat} : ∀ {es : List Pr} {zs : List Str}, zs.length = n → (∀ e ∈ es, e.1 < n ∧ e.2 < n) → (swps zs es).Perm zs
  | [], _, _, _ => List.Perm.refl _
  | e :: r, zs, hl, h => by
    obtain ⟨a, b⟩ := h e List.mem_cons_self
    exact (swps_perm (by rw [swp_len, hl]) fun f hf => h f (List.mem_cons_of_mem _ hf)).trans (swp_perm (by omega) (by omega))
/-! ### two ascending lists of pairs with the same entries -/
theorem pairs_same {l m : List Pr} (p : l.Perm m) (h1 : l.Pairwise fun e f => (e.1 : Int) * 64 + (e.2 : Int) ≤ (f.1 : Int) * 64 + (f.2 : Int)) (h2 : m.Pairwise fun e f => ltP e f = true) (small : ∀ e ∈ m, e.1 < 64 ∧ e.2 < 64) : l = m := by
  refine List.Perm.eq_of_pairwise (le := fun e f => (e.1 : Int) * 64 + (e.2 : Int) ≤ (f.1 : Int) * 64 + (f.2 : Int)) (fun a b ha hb x y => ?_) h1 (List.Pairwise.imp_of_mem (fun {a b} ha hb h => ?_) h2) p
  · have sa := small a (p.mem_iff.mp ha)
    have sb := small b hb
    exact Prod.ext (by omega) (by omega)
  · have sa := small a ha
    have sb := small b hb
    rw [ltP_iff] at h
    omega
end Os
/-! texts of words: join and split, lists of texts and None, a loop over enumerate -/
namespace Os
open PySem PySem.Spec PyProof.Rows L2 Evl

def isBlO : PyData → Bool
  | .bool _ => true
  | _ => false
theorem kit_boolO (d : PyData) : kitB (tyName d) "bool" = some (isBlO d) := by
  cases d <;> (simp only [tyName, isBlO]; decide +kernel)
/-! ### texts and None -/
def oV : Option Str → V
  | none => .non
  | some z => .str z
def oD : Option Str → PyData
  | none => .none
  | some z => .str z
def oW : Option Str → Str
  | none => "?"
  | some z => z
theorem dt_o {H : Hp} : ∀ o : Option Str, Dt H (oV o) (oD o)
  | none => .non
  | some z => .str z
theorem dts_o {H : Hp} : ∀ os : List (Option Str), Dts H (os.map oV) (os.map oD)
  | [] => .nil
  | o :: os => .cons (dt_o o) (dts_o os)
theorem some_V (zs : List Str) : (zs.map some).map oV = zs.map V.str := by
  rw [List.map_map]
  rfl
theorem some_D (zs : List Str) : (zs.map some).map oD = zs.map PyData.str := by
  rw [List.map_map]
  rfl
theorem some_W (zs : List Str) : (zs.map some).map oW = zs := by
  rw [List.map_map]
  exact List.map_id' zs
theorem flat_o : ∀ os : List (Option Str), (os.map oV).all flatV = true
  | [] => rfl
  | none :: os => flat_o os
  | some _ :: os => flat_o os
theorem inV_o (z : Str) : ∀ os : List (Option Str), inV (.str z) (os.map oV) = decide (some z ∈ os)
  | [] => rfl
  | none :: os => by
    have ih := inV_o z os
    unfold inV at ih ⊢
    rw [List.map_cons, List.any_cons, ih]
    show (false || decide (some z ∈ os)) = _
    rw [Bool.false_or]
    exact decide_eq_decide.mpr ⟨fun h => List.mem_cons_of_mem _ h, fun h => by
      rcases List.mem_cons.mp h with h | h
      · cases h
      · exact h⟩
  | some y :: os => by
    have ih := inV_o z os
    unfold inV at ih ⊢
    rw [List.map_cons, List.any_cons, ih]
    show ((y == z) || decide (some z ∈ os)) = decide (some z ∈ some y :: os)
    by_cases h : y = z
    · subst h
      simp
    · have h2 : ¬ z = y := fun e => h e.symm
      simp [h, h2]
theorem inV_strs' (z : Str) (zs : List Str) : inV (.str z) (zs.map V.str) = decide (z ∈ zs) := by
  rw [← some_V, inV_o]
  refine decide_eq_decide.mpr ⟨fun h => ?_, fun h => List.mem_map.mpr ⟨z, h, rfl⟩⟩
  obtain ⟨y, hy, e⟩ := List.mem_map.mp h
  rw [← Option.some.inj e]
  exact hy

theorem cut_drop (xs : List V) (k : Nat) : cutV xs (some (k : Int)) none = xs.drop k := by
  unfold cutV
  rw [HT.sIx_none, HT.sIx_nat]
  by_cases h : k ≤ xs.length
  · rw [Nat.min_eq_left h, List.take_of_length_le (by rw [List.length_drop]; exact Nat.le_refl _)]
  · rw [Nat.min_eq_right (by omega), List.drop_of_length_le (Nat.le_refl _), List.drop_of_length_le (by omega), List.take_nil]
/-! ### words -/
/-- few words that are not long -/
structure WOk (ws : List Str) : Prop where
  few : ws.length ≤ 100
  short : ∀ w ∈ ws, w.length ≤ 200
abbrev page (ws : List Str) : Str := Txt.join (" " : Str) ws
theorem sum_len {ws : List Str} {b : Nat} (h : ∀ w ∈ ws, w.length ≤ b) : (ws.map (·.length)).sum ≤ b * ws.length := by
  induction ws with
  | nil => exact Nat.le_refl _
  | cons z r ih =>
    rw [List.map_cons, List.sum_cons, List.length_cons, Nat.mul_succ]
    have := ih fun y hy => h y (List.mem_cons_of_mem _ hy)
    have := h z List.mem_cons_self
    omega
theorem WOk.sum {ws : List Str} (h : WOk ws) : (ws.map (·.length)).sum ≤ 20000 := by
  have h1 := sum_len h.short
  have h2 := Nat.mul_le_mul_left 200 h.few
  omega
theorem len_sp : (" " : Str).length = 1 := by decide
theorem len_nl : ("\n" : Str).length = 1 := by decide
theorem join_len_le {sep : Str} {ws : List Str} (hs : sep.length = 1) (h : WOk ws) : (Txt.join sep ws).length ≤ 20100 := by
  have e : Txt.join sep ws = Str.join sep ws := StrLaws.glued_eq_join _ _
  rw [e]
  have h1 := StrLaws.join_length_le sep ws
  have h2 := h.sum
  have h3 := h.few
  rw [hs] at h1
  omega
theorem join_snoc (sep : Str) : ∀ (ws : List Str) (w : Str), ws ≠ [] → Txt.join sep (ws ++ [w]) = Txt.join sep ws ++ sep ++ w
  | [], _, h => absurd rfl h
  | [x], w, _ => by
    rw [TL.join_eq, TL.join_eq]
    rfl
  | x :: y :: r, w, _ => by
    have ih := join_snoc sep (y :: r) w (fun h => nomatch h)
    rw [TL.join_eq, TL.join_eq] at ih
    rw [TL.join_eq, TL.join_eq]
    show x ++ sep ++ Str.join sep (y :: r ++ [w]) = x ++ sep ++ Str.join sep (y :: r) ++ sep ++ w
    rw [show (y :: r ++ [w]) = (y :: r) ++ [w] from rfl, ih]
    refine TL.ext_tl ?_
    simp only [TL.tl_append, List.append_assoc]
theorem join_one (sep w : Str) : Txt.join sep [w] = w := by
  rw [TL.join_eq]
  rfl
/-- a joined text, split -/
theorem split_page {ws : List Str} (ne : ws ≠ []) (h : ∀ w ∈ ws, 32 ∉ w.cps.toList) : Txt.split (page ws) (" " : Str) = ws :=
  TL.split_join (s := 32) (S := []) (by decide) (by decide +kernel) ne h
theorem split_lines {ws : List Str} (ne : ws ≠ []) (h : ∀ w ∈ ws, 10 ∉ w.cps.toList) : Txt.split (Txt.join ("\n" : Str) ws) ("\n" : Str) = ws :=
  TL.split_join (s := 10) (S := []) (by decide) (by decide +kernel) ne h
theorem codes_join {sep : Str} : ∀ {zs : List Str} {c : Nat}, c ∈ (Str.join sep zs).cps.toList → c ∈ sep.cps.toList ∨ ∃ z ∈ zs, c ∈ z.cps.toList
  | [], c, h => by simp [Str.join, Str.empty] at h
  | [x], c, h => .inr ⟨x, List.mem_cons_self, h⟩
  | x :: y :: r, c, h => by
    have h : c ∈ (x ++ sep ++ Str.join sep (y :: r)).cps.toList := h
    rw [PyProof.Rows.cps_toList_append, PyProof.Rows.cps_toList_append] at h
    rcases List.mem_append.mp h with h | h
    · rcases List.mem_append.mp h with h | h
      · exact .inr ⟨x, List.mem_cons_self, h⟩
      · exact .inl h
    · rcases codes_join h with h | ⟨z, h1, h2⟩
      · exact .inl h
      · exact .inr ⟨z, List.mem_cons_of_mem _ h1, h2⟩
theorem page_codes {sep : Str} {zs : List Str} {c : Nat} (h : c ∈ (Txt.join sep zs).cps.toList) : c ∈ sep.cps.toList ∨ ∃ z ∈ zs, c ∈ z.cps.toList := by
  rw [TL.join_eq] at h
  exact codes_join h

/-! ### what evaluates to what -/
section
variable {K : PySem.W.Frag} {σ : L2.St} {H H' : Hp} {ta tb tc te : TE} {x y z v : V} {a : Addr} {D : Ends} {tu tw tz : TS}
def rJoin (K : PySem.W.Frag) : V → List V → Hp → VK → Prop := fun x xs H Q => ∃ a p, ∃ ys : List Str, x = V.str a ∧ xs = [.ref p] ∧ (SqL K H p (ys.map V.str) ∨ SqT K H p (ys.map V.str)) ∧ (ys.map (·.length)).sum + ys.length * a.length ≤ 16777216 ∧ Q (.str (Txt.join a ys)) H
theorem ev_joinV {sep : Str} {zs : List Str} (hs : sep.length = 1) (h : Ev te σ H (.str sep)) (h2 : Ev ta σ H (.ref a)) (ha : H a = some (.lst (zs.map V.str))) (hz : WOk zs) :
    Ev (tM1 (rJoin K) te ta) σ H (.str (Txt.join sep zs)) := fun H1 e Q q =>
  h H1 e _ fun H2 e2 => ⟨⟨_, rfl⟩, h2 H2 (e.trans e2) _ fun H3 e3 => ⟨sep, a, zs, rfl, rfl, .inl (sq_of (((e.trans e2).trans e3) _ _ ha)), by have := hz.sum; have := hz.few; rw [hs]; omega, q H3 (e2.trans e3)⟩⟩
theorem ev_joinL {sep : Str} {zs : List Str} (hs : sep.length = 1) (h : Ev te σ H (.str sep)) (h2 : EvL ta σ H (zs.map V.str)) (hz : WOk zs) :
    Ev (tM1 (rJoin K) te ta) σ H (.str (Txt.join sep zs)) := fun H1 e Q q =>
  h H1 e _ fun H2 e2 => ⟨⟨_, rfl⟩, h2 H2 (e.trans e2) _ fun p H3 _ e3 hp => ⟨sep, p, zs, rfl, rfl, .inl (sq_of hp), by have := hz.sum; have := hz.few; rw [hs]; omega, q H3 (e2.trans e3)⟩⟩
def rSplit : V → List V → Hp → VK → Prop := fun x xs H Q => ∃ a b, x = .str a ∧ xs = [.str b] ∧ (b.length == 0) = false ∧ a.length + 2 ≤ sizeLine ∧ rNewStrs (Txt.split a b) H Q
theorem el_split {p sep : Str} {ws : List Str} (h : Ev te σ H (.str p)) (h2 : Ev ta σ H (.str sep)) (hs : sep.length = 1) (hl : p.length ≤ 90000) (e : Txt.split p sep = ws) : EvL (tM1 rSplit te ta) σ H (ws.map V.str) := fun H1 e1 Q q =>
  h H1 e1 _ fun H2 e2 => ⟨⟨_, rfl⟩, h2 H2 (e1.trans e2) _ fun H3 e3 => ⟨p, sep, rfl, rfl, by rw [hs]; rfl, sz_of (by omega), fun r hr => by
    rw [e]
    exact q r _ (fresh_back (e2.trans e3) hr) ((e2.trans e3).trans (Ex.new hr)) upd_same⟩⟩
theorem rv_addS' {H : Hp} {i j : Str} (h : i.length + j.length ≤ 100000) : RV (fun x y H Q => ∃ i j, x = .str i ∧ y = .str j ∧ i.length + j.length ≤ sizeLine ∧ Q (.str (i ++ j)) H) (.str i) (.str j) H (.str (i ++ j)) :=
  fun H1 _ _ q => ⟨i, j, rfl, rfl, sz_of h, q H1 (Ex.refl H1)⟩
theorem rv_isN' {H : Hp} {x : V} : RV (fun x y H Q => y = V.non ∧ Q (.bl (decide (x = .non))) H) x .non H (.bl (decide (x = .non))) := fun H1 _ _ q => ⟨rfl, q H1 (Ex.refl H1)⟩
/-- a call by keywords alone of a def that makes nothing but a value -/
theorem ev_spK {sp : Sp} {gV : List V → List V → List V} {vs zs : List V} {E : XK} {tk : TA} (h : EvA tk σ H zs) (e : gV [] zs = vs) (hs : ∀ H1, Ex H H1 → ∀ Q : VK, (∀ H2, Ex H1 H2 → Q z H2) → sp vs H1 Q E) : Ev (tCallK sp gV E tNil tk) σ H z := fun H1 e1 Q q =>
  h H1 e1 _ fun H2 e2 => by
    rw [e]
    exact hs H2 (e1.trans e2) Q fun H3 e3 => q H3 (e2.trans e3)
/-- a call that gives a new list -/
theorem el_sp {sp : Sp} {dvs vs xs : List V} {E : XK} {ta : TA} (h : EvA ta σ H vs) (hs : ∀ H1, Ex H H1 → ∀ Q : VK, (∀ p H2, H1 p = none → Ex H1 H2 → H2 p = some (.lst xs) → Q (.ref p) H2) → sp (vs ++ dvs) H1 Q E) : EvL (tCall sp dvs E ta) σ H xs := fun H1 e Q q =>
  h H1 e _ fun H2 e2 => hs H2 (e.trans e2) Q fun p H3 hp e3 h3 => q p H3 (fresh_back e2 hp) (e2.trans e3) h3
/-- a call whose argument is a new list -/
theorem ev_spL {sp : Sp} {xs : List V} {E : XK} (h : EvL te σ H xs) (hs : ∀ p H1, H1 p = some (.lst xs) → Ex H H1 → ∀ Q : VK, (∀ H2, Ex H1 H2 → Q z H2) → sp [.ref p] H1 Q E) : Ev (tCall sp [] E (tCons te tNil)) σ H z := fun H1 e Q q =>
  h H1 e _ fun p H2 _ e2 hp => hs p H2 hp (e.trans e2) Q fun H3 e3 => q H3 (e2.trans e3)
theorem el_spK {sp : Sp} {gV : List V → List V → List V} {vs zs xs : List V} {E : XK} {tk : TA} (h : EvA tk σ H zs) (e : gV [] zs = vs) (hs : ∀ H1, Ex H H1 → ∀ Q : VK, (∀ p H2, H1 p = none → Ex H1 H2 → H2 p = some (.lst xs) → Q (.ref p) H2) → sp vs H1 Q E) : EvL (tCallK sp gV E tNil tk) σ H xs := fun H1 e1 Q q =>
  h H1 e1 _ fun H2 e2 => by
    rw [e]
    exact hs H2 (e1.trans e2) Q fun p H3 hp e3 h3 => q p H3 (fresh_back e2 hp) (e2.trans e3) h3
/-- equal data -/
theorem rv_eqD {d : PyData} {n : Nat} (hx : Dt H x d) (hy : Dt H y d) (sh : Sh n d) (le : n ≤ 64) : RV (rEqD K) x y H (.bl true) := fun H1 e Q q =>
  ⟨d, d, (hx.same (same_ex e)).dp, (hy.same (same_ex e)).dp, sh.shaped le, sh.shaped le, by
    rw [sh.refl]
    exact q H1 (Ex.refl H1)⟩
theorem ev_eqD {d : PyData} {n : Nat} (ha : Ev ta σ H x) (hb : Ev tb σ H y) (hx : Dt H x d) (hy : Dt H y d) (sh : Sh n d) (le : n ≤ 64) : Ev (tOp (rEqD K) ta tb) σ H (.bl true) := ev_op ha hb (rv_eqD hx hy sh le)
theorem ev_eqD1 {xs : List V} {ds : List PyData} {n : Nat} (ha : EvL ta σ H xs) (hb : ∀ H1, Ex H H1 → Ev tb σ H1 y) (hx : Dts H xs ds) (hy : Dt H y (.list ds)) (sh : Sh n (.list ds)) (le : n ≤ 64) : Ev (tOp (rEqD K) ta tb) σ H (.bl true) :=
  ev_opL1 ha hb fun p H1 hp e => rv_eqD (.lst hp (hx.same (same_ex e))) (hy.same (same_ex e)) sh le
theorem q_clear {l : Addr} {xs : List V} (hl : H l = some (.lst xs)) (ha : Ev ta σ H (.ref l)) (k : ∀ H1, Ex H H1 → tz D σ (upd H1 l (.lst []))) : tSeq (tDrop (tBM0 K "list" rClear ta)) tz D σ H :=
  ha H (Ex.refl H) _ fun H1 e1 => ⟨Or.inl ⟨rfl, xs, sq_of (e1 l _ hl)⟩, l, xs, rfl, rfl, e1 l _ hl, k H1 e1⟩
theorem q_reverse {l : Addr} {xs : List V} (hl : H l = some (.lst xs)) (ha : Ev ta σ H (.ref l)) (k : ∀ H1, Ex H H1 → tz D σ (upd H1 l (.lst xs.reverse))) : tSeq (tDrop (tBM0 K "list" rReverse ta)) tz D σ H :=
  ha H (Ex.refl H) _ fun H1 e1 => ⟨Or.inl ⟨rfl, xs, sq_of (e1 l _ hl)⟩, l, xs, rfl, rfl, e1 l _ hl, k H1 e1⟩
/-- a for over enumerate of a new list -/
theorem s_forE {xs : List V} {tl : TE} {i j : Nat} (h : EvL tl σ H xs) (Pv : Addr → Nat → L2.St → Hp → Prop) (h0 : ∀ p H1, H p = none → Ex H H1 → H1 p = some (.lst xs) → Pv p 0 σ H1) (hl : ∀ p n σ' H', Pv p n σ' H' → SqL K H' p xs)
    (hs : ∀ p n x σ' H' H2, xs[n]? = some x → Pv p n σ' H' → Ex H' H2 → tu { D with nx := Pv p (n + 1), ct := Pv p (n + 1), bk := D.nx } ((σ'.set i (some (.int (n : Int)))).set j (some x)) H2)
    (hd : ∀ p σ' H', Pv p xs.length σ' H' → D.nx σ' H') : tFor (iEnum K (tCons tl tNil)) (gTup K 2 (gCons (gName i) (gCons (gName j) gNil))) tu D σ H :=
  h H (Ex.refl H) _ fun p H1 hp e h1 => ⟨p, xs, rfl, sq_of h1, for_it walk_enum (Pv p) (h0 p H1 hp e h1) (fun n σ H _ q => hl p n σ H q) (fun n v σ' H' H2 hn q y => by
    obtain ⟨T, x, z, rfl, nT, rfl, hx, hz⟩ := y
    cases hx
    exact ⟨T, [.int (n : Int), z], rfl, st_of upd_same, rfl, .int (n : Int), [z], rfl, z, [], rfl, rfl, hs p n z σ' H' _ hz q (Ex.new nT)⟩) (hd p)⟩
theorem q_forE {xs : List V} {tl : TE} {i j : Nat} (h : EvL tl σ H xs) (Pv : Addr → Nat → L2.St → Hp → Prop) (h0 : ∀ p H1, H p = none → Ex H H1 → H1 p = some (.lst xs) → Pv p 0 σ H1) (hl : ∀ p n σ' H', Pv p n σ' H' → SqL K H' p xs)
    (hs : ∀ p n x σ' H' H2, xs[n]? = some x → Pv p n σ' H' → Ex H' H2 → tu { D with nx := Pv p (n + 1), ct := Pv p (n + 1), bk := tz D } ((σ'.set i (some (.int (n : Int)))).set j (some x)) H2)
    (hd : ∀ p σ' H', Pv p xs.length σ' H' → tz D σ' H') : tSeq (tFor (iEnum K (tCons tl tNil)) (gTup K 2 (gCons (gName i) (gCons (gName j) gNil))) tu) tz D σ H := s_forE (D := { D with nx := tz D }) h Pv h0 hl hs hd
end
/-- lists of texts and None -/
theorem lay_o : ∀ os : List (Option Str), (∀ z, some z ∈ os → PyData.strOk z = true) → ∀ d ∈ os.map oD, Sh 0 d := fun os h d hd => by
  obtain ⟨o, ho, rfl⟩ := List.mem_map.mp hd
  cases o with
  | none => exact ⟨rfl, Nat.zero_le _⟩
  | some z => exact .str 0 (h z ho)
theorem sh_o {os : List (Option Str)} (h : ∀ z, some z ∈ os → PyData.strOk z = true) : Sh 1 (.list (os.map oD)) := .lst (lay_o os h)
end Os
/-! the cycles of a permutation -/
namespace Os
open PySem PySem.Spec PyProof.Rows L2 Evl
theorem few_below : ∀ (n : Nat) {l : List Nat}, l.Nodup → (∀ x ∈ l, x < n) → l.length ≤ n
  | 0, l, _, h => by
    cases l with
    | nil => exact Nat.le_refl _
    | cons x r => exact absurd (h x List.mem_cons_self) (Nat.not_lt_zero x)
  | n + 1, l, nd, h => by
    have h1 : ∀ x ∈ l.erase n, x < n := fun x hx => by
      have m := List.mem_of_mem_erase hx
      have := h x m
      have ne : x ≠ n := fun e => by
        rw [e] at hx
        exact List.Nodup.not_mem_erase nd hx
      omega
    have ih := few_below n (nd.erase n) h1
    rw [List.length_erase] at ih
    split at ih <;> omega
def itr (f : List Nat) : Nat → Nat → Nat
  | 0, x => x
  | k + 1, x => f.getD (itr f k x) 0
/-- f is a permutation of the places below n -/
structure IsPerm (f : List Nat) (n : Nat) : Prop where
  len : f.length = n
  lt : ∀ i, i < n → f.getD i 0 < n
  inj : ∀ i j, i < n → j < n → f.getD i 0 = f.getD j 0 → i = j
section
variable {f : List Nat} {n : Nat}
theorem itr_lt (p : IsPerm f n) : ∀ (k : Nat) {x : Nat}, x < n → itr f k x < n
  | 0, _, h => h
  | k + 1, _, h => p.lt _ (itr_lt p k h)
theorem itr_back (p : IsPerm f n) {x : Nat} (hx : x < n) : ∀ (i j : Nat), itr f i x = itr f (i + j) x → x = itr f j x
  | 0, j, e => by rw [Nat.zero_add] at e; exact e
  | i + 1, j, e => by
    rw [show i + 1 + j = (i + j) + 1 by omega] at e
    exact itr_back p hx i j (p.inj _ _ (itr_lt p i hx) (itr_lt p (i + j) hx) e)
theorem itr_returns (p : IsPerm f n) {x : Nat} (hx : x < n) : ∃ j, j < n ∧ itr f (j + 1) x = x := Decidable.byContradiction fun no => by
  have nd : ((List.range (n + 1)).map fun i => itr f i x).Nodup := by
    unfold List.Nodup
    rw [List.pairwise_map]
    refine List.Pairwise.imp_of_mem (fun {i j} hi hj lt e => ?_) List.pairwise_lt_range
    have hj' := List.mem_range.mp hj
    have b := itr_back p hx i (j - i) (by rw [show i + (j - i) = j by omega]; exact e)
    exact no ⟨j - i - 1, by omega, by rw [show j - i - 1 + 1 = j - i by omega]; exact b.symm⟩
  have := few_below n nd fun y hy => by
    obtain ⟨i, _, rfl⟩ := List.mem_map.mp hy
    exact itr_lt p i hx
  rw [List.length_map, List.length_range] at this
  omega
def per (f : List Nat) (n x : Nat) : Nat := ((List.range n).find? fun j => itr f (j + 1) x == x).getD 0 + 1
theorem per_ok (p : IsPerm f n) {x : Nat} (hx : x < n) : 1 ≤ per f n x ∧ per f n x ≤ n ∧ itr f (per f n x) x = x ∧ ∀ j, 1 ≤ j → j < per f n x → itr f j x ≠ x := by
  obtain ⟨j, hj, e⟩ := itr_returns p hx
  unfold per
  cases hf : (List.range n).find? fun j => itr f (j + 1) x == x with
  | none => exact absurd (List.find?_eq_none.mp hf j (List.mem_range.mpr hj)) (by rw [e]; simp)
  | some m =>
    obtain ⟨h1, h2, h3⟩ := List.find?_range_eq_some.mp hf
    have hm := List.mem_range.mp h2
    show 1 ≤ m + 1 ∧ m + 1 ≤ n ∧ itr f (m + 1) x = x ∧ _
    refine ⟨by omega, by omega, by simpa using h1, fun j j1 jm z => ?_⟩
    have jm' : j < m + 1 := jm
    have := h3 (j - 1) (by omega)
    rw [show j - 1 + 1 = j by omega, z] at this
    simp at this
/-- the first k places on x's way -/
def way (f : List Nat) (k x : Nat) : List Nat := (List.range k).map fun i => itr f i x
theorem way_succ (f : List Nat) (k x : Nat) : way f (k + 1) x = way f k x ++ [itr f k x] := by
  unfold way
  rw [List.range_succ, List.map_append]
  rfl
theorem way_len (f : List Nat) (k x : Nat) : (way f k x).length = k := by
  unfold way
  rw [List.length_map, List.length_range]
def ringOf (f : List Nat) (n x : Nat) : List Nat := way f (per f n x) x
def lead (f : List Nat) (n x : Nat) : Bool := decide (∀ y ∈ ringOf f n x, x ≤ y)
def cycles (f : List Nat) (n : Nat) : List (List Nat) := ((List.range n).filter (lead f n)).map (ringOf f n)
theorem ring_head (p : IsPerm f n) {x : Nat} (hx : x < n) : (ringOf f n x)[0]? = some x ∧ x ∈ ringOf f n x := by
  have h := (per_ok p hx).1
  have e : (ringOf f n x)[0]? = some x := by
    unfold ringOf way
    rw [List.getElem?_map, List.getElem?_range (by omega)]
    rfl
  exact ⟨e, List.mem_of_getElem? e⟩
theorem lead_min (p : IsPerm f n) {x m : Nat} (hx : x < n) (hm : m ∈ ringOf f n x) (le : ∀ y ∈ ringOf f n x, m ≤ y) : decide (x = m) = lead f n x := by
  unfold lead
  refine decide_eq_decide.mpr ⟨fun e => e ▸ le, fun h => ?_⟩
  have := h m hm
  have := le x (ring_head p hx).2
  omega
theorem ring_lt (p : IsPerm f n) {x y : Nat} (hx : x < n) (hy : y ∈ ringOf f n x) : y < n := by
  obtain ⟨i, _, rfl⟩ := List.mem_map.mp hy
  exact itr_lt p i hx
theorem ring_len (p : IsPerm f n) {x : Nat} (hx : x < n) : (ringOf f n x).length ≤ n := by
  unfold ringOf
  rw [way_len]
  exact (per_ok p hx).2.1
/-- place 0 leads the first cycle -/
theorem lead_zero : lead f n 0 = true := decide_eq_true fun _ _ => Nat.zero_le _
end
/-! ### where the texts went -/
def went (zs us : List Str) : List Nat := zs.map fun z => us.idxOf z
theorem went_perm {zs us : List Str} {n : Nat} (p : us.Perm zs) (nd : zs.Nodup) (hl : zs.length = n) : IsPerm (went zs us) n := by
  have atW : ∀ {i : Nat} (h : i < zs.length), (went zs us).getD i 0 = us.idxOf zs[i] := fun {i} h => by
    unfold went
    rw [List.getD_eq_getElem?_getD, List.getElem?_map, List.getElem?_eq_getElem h]
    rfl
  have inU : ∀ {i : Nat} (h : i < zs.length), us.idxOf zs[i] < us.length := fun {i} h => List.idxOf_lt_length_iff.mpr (p.mem_iff.mpr (List.getElem_mem h))
  refine ⟨by unfold went; rw [List.length_map, hl], fun i hi => ?_, fun i j hi hj e => ?_⟩
  · rw [atW (by omega)]
    have := inU (i := i) (by omega)
    rw [p.length_eq] at this
    omega
  · rw [atW (by omega), atW (by omega)] at e
    have e1 := List.getElem_idxOf (inU (i := i) (by omega))
    have e2 := List.getElem_idxOf (inU (i := j) (by omega))
    have e3 : zs[i]'(by omega) = zs[j]'(by omega) := by
      rw [← e1, ← e2]
      simp only [e]
    refine Decidable.byContradiction fun ne => ?_
    rcases Nat.lt_or_gt_of_ne ne with h | h
    · exact List.pairwise_iff_getElem.mp nd i j _ _ h e3
    · exact List.pairwise_iff_getElem.mp nd j i _ _ h e3.symm
end Os
namespace K91
open PySem PySem.Spec PyProof.Rows L2 Os Evl
abbrev sSame : Stmt := topS 18
theorem scSame : FnScope ["found", "due", "one", "two"] ["found", "due"] (defScope sSame) := ⟨rfl, rfl, rfl, by decide +kernel, rfl, by decide +kernel, by decide +kernel⟩
theorem walk_zipT {K : PySem.W.Frag} {a b : Addr} {xs ys : List V} {n : Nat} (hn : n = min xs.length ys.length) : Walk (RZ.ItzT K a b) n (fun H => SqT K H a xs ∧ SqT K H b ys) (YPair (fun i => xs[i]?) (fun i => ys[i]?)) := by
  subst hn
  refine ⟨fun i _ hi q => ?_, fun _ q => ⟨xs, ys, q.1, q.2, by omega⟩, fun i H v H' _ q y => ?_⟩
  · have h1 : i < xs.length := by omega
    have h2 : i < ys.length := by omega
    exact ⟨xs, ys, xs[i], ys[i], q.1, q.2, by simp [h1], by simp [h2]⟩
  · obtain ⟨T, x, z, h1, h2, h3, h4, h5⟩ := y
    exact ⟨T, x, z, h1, h2, h3, h4 xs q.1, h5 ys q.2⟩
/-- None, numbers, texts, and lists and tuples of such -/
def Plain : Nat → PyData → Prop
  | 0, _ => False
  | j + 1, d => d = .none ∨ (∃ i, d = .int i) ∨ (∃ z, d = .str z) ∨ ∃ ds, (d = .list ds ∨ d = .tuple ds) ∧ ds.length ≤ 1000 ∧ ∀ x ∈ ds, Plain j x
section
variable {K : PySem.W.Frag} {σ : L2.St} {H : Hp} {ta : TE}
theorem ev_len' {p : Addr} {xs : List V} (ha : Ev ta σ H (.ref p)) (h : H p = some (.lst xs)) :
    Ev (tCB (fun xs H Q => ∃ p ys, xs = [V.ref p] ∧ (SqL K H p ys ∨ SqT K H p ys) ∧ Q (.int ys.length) H) (tCons ta tNil)) σ H (.int (xs.length : Int)) := ev_len ha (sq_of h)
theorem ev_lenT {p : Addr} {xs : List V} (ha : Ev ta σ H (.ref p)) (h : H p = some (.tup xs)) :
    Ev (tCB (fun xs H Q => ∃ p ys, xs = [V.ref p] ∧ (SqL K H p ys ∨ SqT K H p ys) ∧ Q (.int ys.length) H) (tCons ta tNil)) σ H (.int (xs.length : Int)) := fun H1 e Q q =>
  ha H1 e _ fun H2 e2 => ⟨p, xs, rfl, Or.inr (st_of ((e.trans e2) _ _ h)), q H2 e2⟩
theorem isiT_of {H : Hp} {v : V} {d : PyData} {tp : Addr} {Q : VK} (hd : Dt H v d) (ht : H tp = some (.tup [.ty "list", .ty "tuple"])) (q : Q (.bl (isListD d || isTupD d)) H) : rIsiT K [v, .ref tp] H Q := by
  refine ⟨v, tp, _, _, _, _, rfl, ht, .cons (.ty "list") (.cons (.ty "tuple") .nil), .base hd.ty, ?_, q⟩
  exact kitAny_cons (kit_ty (kit_list d)) (fun h => kitAny_cons (kit_ty (kit_tup d)) (fun h2 => by rw [h, h2]; rfl) (fun h2 => by rw [h2, Bool.or_true])) (fun h => by rw [h, Bool.true_or])
theorem ev_isiT {v : V} {d : PyData} (h : Ev ta σ H v) (hd : Dt H v d) :
    Ev (tCB (rIsiT K) (tCons ta (tCons (tTup (tCons (tC (.ty "list")) (tCons (tC (.ty "tuple")) tNil))) tNil))) σ H (.bl (isListD d || isTupD d)) := fun H1 e1 Q q =>
  h H1 e1 _ fun H2 e2 => ⟨show 2 ≤ sizeLine by decide, fun tp htp => isiT_of (hd.same (same_ex ((e1.trans e2).trans (Ex.new htp)))) upd_same (q _ (e2.trans (Ex.new htp)))⟩
end
theorem Dts.at' {H : Hp} : ∀ {xs : List V} {ds : List PyData} {i : Nat} {x : V}, Dts H xs ds → xs[i]? = some x → ∃ d, ds[i]? = some d ∧ Dt H x d
  | _, _, _, _, .nil, h => by simp at h
  | _, _, 0, _, .cons h1 _, h => by
    simp at h
    subst h
    exact ⟨_, rfl, h1⟩
  | _, _, i + 1, _, .cons _ r, h => by
    have h' := Dts.at' (i := i) r (by simpa using h)
    simpa using h'
section
variable {P : Program} {w : World} {K : PySem.W.Frag} {mg : Str → Option Value} {base : Heap}
def spSame (j : Nat) : Sp := fun vs H Q _ => ∃ (v u : V) (d : PyData), vs = [v, u] ∧ Dt H v d ∧ Dt H u d ∧ Plain j d ∧ ∀ H', Ex H H' → Q (.bl true) H'
theorem ok_same {f : Addr} {fd : FuncData} (F : Fun K "_law_same" "_law_same" sSame f fd) (bS : Binds K fd ["found", "due"] []) (gS : mg "_law_same" = some (.ref f)) (mIsi : mg "isinstance" = none) (mList : mg "list" = none) (mTuple : mg "tuple" = none) (mBool : mg "bool" = none) (mStr : mg "str" = none)
    (mLen : mg "len" = none) (mAll : mg "all" = none) (mZip : mg "zip" = none) : ∀ j, FnOk P w K mg base CX0 j f fd ["found", "due"] (spSame j)
  | 0 => ⟨fun vs H Q E h => by
      obtain ⟨_, _, _, rfl, _⟩ := h
      rfl, fun B out st H ar us vs Q E hr e0 hb rel h => by
      obtain ⟨_, _, _, _, _, _, h, _⟩ := h
      exact h.elim⟩
  | j + 1 => by
    have GS := ok_same F bS gS mIsi mList mTuple mBool mStr mLen mAll mZip j
    have FS := F
    refine F.ok scSame (fun vs H Q E h => ?_) (fun cdv A outer s H vs Q E hr h => ?_)
    · obtain ⟨v, u, d, rfl, _⟩ := h
      rfl
    · obtain ⟨v, u, d, rfl, hv, hu, pl, q⟩ := h
      refine ⟨_, (pss_cons (ps_if (pt_val (pe_callB call_isiT (by rfl) mIsi boot_isinstance (pa_cons (pv 1) (pa_cons (pe_tup (pa_cons (pe_bltn (v := .ty "list") (by rfl) mList boot_list rfl) (pa_cons (pe_bltn (v := .ty "tuple") (by rfl) mTuple boot_tuple rfl) pa_nil))) pa_nil)))) (pss_cons (ps_if (PW.pt (pw_or (pt_not (pt_val (pe_callB call_isiT (by rfl) mIsi boot_isinstance (pa_cons (pv 0) (pa_cons (pe_tup (pa_cons (pe_bltn (v := .ty "list") (by rfl) mList boot_list rfl) (pa_cons (pe_bltn (v := .ty "tuple") (by rfl) mTuple boot_tuple rfl) pa_nil))) pa_nil))))) (pw_or1 (pt_cmpR op_ne (pe_callB call_isi (by rfl) mIsi boot_isinstance (pa_cons (pv 0) (pa_cons (pe_bltn (v := .ty "list") (by rfl) mList boot_list rfl) pa_nil))) (pe_callB call_isi (by rfl) mIsi boot_isinstance (pa_cons (pv 1) (pa_cons (pe_bltn (v := .ty "list") (by rfl) mList boot_list rfl) pa_nil))) (nomark _))))) pss_never pss_nil)
      (pss_one (ps_ret (pe_and (pe_cmpR op_eq (pe_callB call_len_seq (by rfl) mLen boot_len (pa_cons (pv 0) pa_nil)) (pe_callB call_len_seq (by rfl) mLen boot_len (pa_cons (pv 1) pa_nil)) (nomark _)) (pe_one (pe_callB (cr_all rfl) (by rfl) mAll boot_all (pa_cons (pe_lc (own := [("one", 2), ("two", 3)]) (g := gTup K 2 (gCons (gName 2) (gCons (gName 3) gNil))) (tt := tYes) (te := tCall (spSame j) [] E0 (tCons (tVar 2) (tCons (tVar 3) tNil))) rfl scSame.nd (RZ.pi_zipA (by rfl) mZip (pa_cons (pv 0) (pa_cons (pv 1) pa_nil))) (blkOk_by (N := ["found", "due", "one", "two"]) (sc := defScope sSame) (by decide +kernel)) (fun _ _ _ _ _ => pg_tup rfl (pgs_cons (pg_name (i := 2) scSame.nd rfl (Or.inl rfl)) (pgs_cons (pg_name (i := 3) scSame.nd rfl (Or.inl rfl)) pgs_nil))) (fun _ _ _ _ _ => pts_nil) (fun _ _ _ _ _ => (pe_call GS hr (by rfl) gS FS.kp bS .nil pass0 (pa_cons (pv 2) (pa_cons (pv 3) pa_nil))))) pa_nil))))))) pss_nil)
      (pss_cons (ps_if (PW.pt (pw_or (pt_cmpR op_isN (pv 1) pe_non (nomark _)) (pw_or1 (pt_cmpR op_isN (pv 0) pe_non (nomark _))))) (pss_one (ps_ret (pe_and (pe_cmpR op_isN (pv 1) pe_non (nomark _)) (pe_one (pe_cmpR op_isN (pv 0) pe_non (nomark _)))))) pss_nil)
      (pss_cons (ps_if (PW.pt (pw_or (pt_cmpR op_ne (pe_callB call_isi (by rfl) mIsi boot_isinstance (pa_cons (pv 0) (pa_cons (pe_bltn (v := .ty "bool") (by rfl) mBool boot_bool rfl) pa_nil))) (pe_callB call_isi (by rfl) mIsi boot_isinstance (pa_cons (pv 1) (pa_cons (pe_bltn (v := .ty "bool") (by rfl) mBool boot_bool rfl) pa_nil))) (nomark _)) (pw_or1 (pt_cmpR op_ne (pe_callB call_isi (by rfl) mIsi boot_isinstance (pa_cons (pv 0) (pa_cons (pe_bltn (v := .ty "str") (by rfl) mStr boot_str rfl) pa_nil))) (pe_callB call_isi (by rfl) mIsi boot_isinstance (pa_cons (pv 1) (pa_cons (pe_bltn (v := .ty "str") (by rfl) mStr boot_str rfl) pa_nil))) (nomark _))))) pss_never pss_nil)
      (pss_one (ps_ret (pe_cmpR op_eq (pv 0) (pv 1) (nomark _))))))), ?_⟩
      rcases pl with rfl | ⟨i, rfl⟩ | ⟨z, rfl⟩ | ⟨ds, hds, hl, pl⟩
      · cases hv
        cases hu
        refine q_when (b := false) (et_B (ev_isiT (ev_var rfl) .non)) (fun h => nomatch h) fun _ H1 e1 => ?_
        refine q_when (b := true) (et_is (et_or (a := true) (b := true) (et_test (ev_op (ev_var rfl) ev_c rv_isN')) fun h => nomatch h) rfl) (fun _ H2 e2 => ?_) (fun h => nomatch h)
        exact s_ret (v := .bl true) (ev_andV (a := true) (b := true) (ev_op (ev_var rfl) ev_c rv_isN') fun _ => ev_op (ev_var rfl) ev_c rv_isN') fun H4 e4 => q H4 ((e1.trans e2).trans e4)
      · cases hv
        cases hu
        refine q_when (b := false) (et_B (ev_isiT (ev_var rfl) (.int i))) (fun h => nomatch h) fun _ H1 e1 => ?_
        refine q_when (b := false) (et_is (et_or (a := false) (b := false) (et_test (ev_op (ev_var rfl) ev_c rv_isN')) fun _ => et_test (ev_op (ev_var rfl) ev_c rv_isN')) rfl) (fun h => nomatch h) fun _ H2 e2 => ?_
        refine q_when (b := false) (et_is (et_or (a := !decide (V.bl false = V.bl false)) (b := !decide (V.bl false = V.bl false)) (et_test (ev_op (ev_isi (ev_var rfl) (.int i) (kit_boolO _)) (ev_isi (ev_var rfl) (.int i) (kit_boolO _)) (rv_ne rfl))) fun _ => et_test (ev_op (ev_isi (ev_var rfl) (.int i) (kit_str _)) (ev_isi (ev_var rfl) (.int i) (kit_str _)) (rv_ne rfl))) (by rw [decide_eq_true rfl]; rfl)) (fun h => nomatch h) fun _ H3 e3 => ?_
        exact s_ret (v := .bl true) (ev_is (ev_op (ev_var rfl) (ev_var rfl) (rv_eq rfl)) (by rw [decide_eq_true rfl])) fun H4 e4 => q H4 (((e1.trans e2).trans e3).trans e4)
      · cases hv
        cases hu
        refine q_when (b := false) (et_B (ev_isiT (ev_var rfl) (.str z))) (fun h => nomatch h) fun _ H1 e1 => ?_
        refine q_when (b := false) (et_is (et_or (a := false) (b := false) (et_test (ev_op (ev_var rfl) ev_c rv_isN')) fun _ => et_test (ev_op (ev_var rfl) ev_c rv_isN')) rfl) (fun h => nomatch h) fun _ H2 e2 => ?_
        refine q_when (b := false) (et_is (et_or (a := !decide (V.bl false = V.bl false)) (b := !decide (V.bl true = V.bl true)) (et_test (ev_op (ev_isi (ev_var rfl) (.str z) (kit_boolO _)) (ev_isi (ev_var rfl) (.str z) (kit_boolO _)) (rv_ne rfl))) fun _ => et_test (ev_op (ev_isi (ev_var rfl) (.str z) (kit_str _)) (ev_isi (ev_var rfl) (.str z) (kit_str _)) (rv_ne rfl))) (by rw [decide_eq_true rfl, decide_eq_true rfl]; rfl)) (fun h => nomatch h) fun _ H3 e3 => ?_
        exact s_ret (v := .bl true) (ev_is (ev_op (ev_var rfl) (ev_var rfl) (rv_eq rfl)) (by rw [decide_eq_true rfl])) fun H4 e4 => q H4 (((e1.trans e2).trans e3).trans e4)
      · have hv0 := hv
        have hu0 := hu
        rcases hds with rfl | rfl
        · cases hv with
          | @lst a xs _ ha hx =>
          cases hu with
          | @lst b ys _ hb hy =>
          have lx := hx.length
          have ly := hy.length
          refine q_when (b := true) (et_B (ev_isiT (ev_var rfl) hu0)) (fun _ H1 e1 => ?_) (fun h => nomatch h)
          refine q_when (b := false) (et_is (et_or (a := !true) (b := !decide (V.bl true = V.bl true)) (et_not (et_B (ev_isiT (ev_var rfl) (hv0.same (same_ex e1))))) fun _ => et_test (ev_op (ev_isi (ev_var rfl) (hv0.same (same_ex e1)) (kit_list _)) (ev_isi (ev_var rfl) (hu0.same (same_ex e1)) (kit_list _)) (rv_ne rfl))) (by rw [decide_eq_true rfl]; rfl)) (fun h => nomatch h) fun _ H2 e2 => ?_
          have e12 := e1.trans e2
          refine s_ret (v := .bl true) (ev_is (ev_andV (a := true) (b := (ds.map fun _ => true).all id) (ev_is (ev_op (ev_len' (ev_var rfl) (e12 _ _ ha)) (ev_len' (ev_var rfl) (e12 _ _ hb)) (rv_eq rfl)) (by rw [lx, ly, decide_eq_true rfl])) fun _ => ev_all (bs := ds.map fun _ => true) ?_) ?_) fun H3 e3 => q H3 (e12.trans e3)
          · intro H0 e0 Q' q'
            have e20 := e12.trans e0
            refine ⟨.ref a, rfl, .ref b, rfl, a, b, xs, ys, rfl, .inl ⟨sq_of (e20 _ _ ha), sq_of (e20 _ _ hb), fun D hD => ?_⟩⟩
            refine lc_it (walk_zip (n := ds.length) (by omega)) (fun i Hh => Ex H0 Hh ∧ Hh D = some (.lst (List.replicate i (V.bl true)))) ⟨Ex.new hD, upd_same⟩ (fun i Hh _ p => ⟨sq_of (p.1 _ _ (e20 _ _ ha)), sq_of (p.1 _ _ (e20 _ _ hb))⟩) ?_ ?_
            · rintro i v Ha Hb hi ⟨p1, p2⟩ ⟨T, x, y, rfl, nT, rfl, hx', hy'⟩
              obtain ⟨d1, hd1, dt1⟩ := Dts.at' hx hx'
              obtain ⟨d2, hd2, dt2⟩ := Dts.at' hy hy'
              rw [hd1] at hd2
              cases hd2
              have eT : Ex Ha (upd Ha T (.tup [x, y])) := Ex.new nT
              have eA := (e20.trans p1).trans eT
              refine ⟨T, [x, y], rfl, st_of upd_same, rfl, x, [y], rfl, y, [], rfl, rfl, rfl, ?_⟩
              show tCall (spSame j) [] E0 (tCons (tVar 2) (tCons (tVar 3) tNil)) _ _ _
              refine ⟨x, rfl, y, rfl, x, y, d1, rfl, dt1.same (same_ex eA), dt2.same (same_ex eA), pl d1 (List.mem_of_getElem? hd1), fun H5 e5 => ⟨_, e5 _ _ (eT _ _ p2), sz_lt (by rw [List.length_replicate]; omega), ((p1.trans eT).trans e5).mut hD, ?_⟩⟩
              rw [List.replicate_succ']
              exact upd_same
            · rintro Hh ⟨p1, p2⟩
              refine q' D Hh hD p1 ?_
              rw [p2]
              refine congrArg (fun l => some (HO.lst l)) ?_
              refine List.ext_getElem (by simp) fun i h1 h2 => by simp
          · rw [List.all_eq_true.mpr (fun b hb => by
              obtain ⟨_, _, rfl⟩ := List.mem_map.mp hb
              rfl)]
            rfl
        · cases hv with
          | @tup a xs _ ha hx =>
          cases hu with
          | @tup b ys _ hb hy =>
          have lx := hx.length
          have ly := hy.length
          refine q_when (b := true) (et_B (ev_isiT (ev_var rfl) hu0)) (fun _ H1 e1 => ?_) (fun h => nomatch h)
          refine q_when (b := false) (et_is (et_or (a := !true) (b := !decide (V.bl false = V.bl false)) (et_not (et_B (ev_isiT (ev_var rfl) (hv0.same (same_ex e1))))) fun _ => et_test (ev_op (ev_isi (ev_var rfl) (hv0.same (same_ex e1)) (kit_list _)) (ev_isi (ev_var rfl) (hu0.same (same_ex e1)) (kit_list _)) (rv_ne rfl))) (by rw [decide_eq_true rfl]; rfl)) (fun h => nomatch h) fun _ H2 e2 => ?_
          have e12 := e1.trans e2
          refine s_ret (v := .bl true) (ev_is (ev_andV (a := true) (b := (ds.map fun _ => true).all id) (ev_is (ev_op (ev_lenT (ev_var rfl) (e12 _ _ ha)) (ev_lenT (ev_var rfl) (e12 _ _ hb)) (rv_eq rfl)) (by rw [lx, ly, decide_eq_true rfl])) fun _ => ev_all (bs := ds.map fun _ => true) ?_) ?_) fun H3 e3 => q H3 (e12.trans e3)
          · intro H0 e0 Q' q'
            have e20 := e12.trans e0
            refine ⟨.ref a, rfl, .ref b, rfl, a, b, xs, ys, rfl, .inr ⟨st_of (e20 _ _ ha), st_of (e20 _ _ hb), fun D hD => ?_⟩⟩
            refine lc_it (walk_zipT (n := ds.length) (by omega)) (fun i Hh => Ex H0 Hh ∧ Hh D = some (.lst (List.replicate i (V.bl true)))) ⟨Ex.new hD, upd_same⟩ (fun i Hh _ p => ⟨st_of (p.1 _ _ (e20 _ _ ha)), st_of (p.1 _ _ (e20 _ _ hb))⟩) ?_ ?_
            · rintro i v Ha Hb hi ⟨p1, p2⟩ ⟨T, x, y, rfl, nT, rfl, hx', hy'⟩
              obtain ⟨d1, hd1, dt1⟩ := Dts.at' hx hx'
              obtain ⟨d2, hd2, dt2⟩ := Dts.at' hy hy'
              rw [hd1] at hd2
              cases hd2
              have eT : Ex Ha (upd Ha T (.tup [x, y])) := Ex.new nT
              have eA := (e20.trans p1).trans eT
              refine ⟨T, [x, y], rfl, st_of upd_same, rfl, x, [y], rfl, y, [], rfl, rfl, rfl, ?_⟩
              show tCall (spSame j) [] E0 (tCons (tVar 2) (tCons (tVar 3) tNil)) _ _ _
              refine ⟨x, rfl, y, rfl, x, y, d1, rfl, dt1.same (same_ex eA), dt2.same (same_ex eA), pl d1 (List.mem_of_getElem? hd1), fun H5 e5 => ⟨_, e5 _ _ (eT _ _ p2), sz_lt (by rw [List.length_replicate]; omega), ((p1.trans eT).trans e5).mut hD, ?_⟩⟩
              rw [List.replicate_succ']
              exact upd_same
            · rintro Hh ⟨p1, p2⟩
              refine q' D Hh hD p1 ?_
              rw [p2]
              refine congrArg (fun l => some (HO.lst l)) ?_
              refine List.ext_getElem (by simp) fun i h1 h2 => by simp
          · rw [List.all_eq_true.mpr (fun b hb => by
              obtain ⟨_, _, rfl⟩ := List.mem_map.mp hb
              rfl)]
            rfl
end
theorem ev_same {σ : L2.St} {H : Hp} {ta tb : TA} {xs ys : List V} {ds : List PyData} (h1 : EvA ta σ H xs) (h2 : EvA tb σ H ys) (d1 : Dts H xs ds) (d2 : Dts H ys ds) (pl : Plain 5 (.list ds)) (few : ds.length ≤ 1000) :
    Ev (tCall (spSame 5) [] E0 (tCons (tLst ta) (tCons (tLst tb) tNil))) σ H (.bl true) := fun H1 e1 Q q => h1 H1 e1 _ fun H2 e2 => ⟨sz_of (by rw [d1.length]; omega), fun p hp => by
  have x1 := Ex.new (o := .lst xs) hp
  refine h2 _ ((e1.trans e2).trans x1) _ fun H3 e3 => ⟨sz_of (by rw [d2.length]; omega), fun r hr => ?_⟩
  have x2 := Ex.new (o := .lst ys) hr
  have eA := ((e1.trans e2).trans x1).trans (e3.trans x2)
  exact ⟨.ref p, .ref r, .list ds, rfl, .lst (x2 _ _ (e3 _ _ upd_same)) (d1.same (same_ex eA)), .lst upd_same (d2.same (same_ex eA)), pl, fun H4 e4 => q H4 ((e2.trans x1).trans ((e3.trans x2).trans e4))⟩⟩
theorem plain_list {j : Nat} {ds : List PyData} (hl : ds.length ≤ 1000) (h : ∀ d ∈ ds, Plain j d) : Plain (j + 1) (.list ds) := .inr (.inr (.inr ⟨ds, .inl rfl, hl, h⟩))
theorem plain_tup {j : Nat} {ds : List PyData} (hl : ds.length ≤ 1000) (h : ∀ d ∈ ds, Plain j d) : Plain (j + 1) (.tuple ds) := .inr (.inr (.inr ⟨ds, .inr rfl, hl, h⟩))
theorem plain_str (j : Nat) (z : Str) : Plain (j + 1) (.str z) := .inr (.inr (.inl ⟨z, rfl⟩))
theorem plain_int (j : Nat) (i : Int) : Plain (j + 1) (.int i) := .inr (.inl ⟨i, rfl⟩)
theorem plain_none (j : Nat) : Plain (j + 1) .none := .inl rfl
theorem plain_o (j : Nat) (os : List (Option Str)) (h : os.length ≤ 1000) : Plain (j + 2) (.list (os.map oD)) := plain_list (by rw [List.length_map]; exact h) fun d hd => by
  obtain ⟨o, _, rfl⟩ := List.mem_map.mp hd
  cases o with
  | none => exact plain_none j
  | some z => exact plain_str j z
end K91
namespace K91
open PySem PySem.Spec PyProof.Rows L2 Os Evl
abbrev sWI : Stmt := topS 9
theorem scWI : FnScope ["items"] ["items"] (defScope sWI) := ⟨rfl, rfl, rfl, by decide +kernel, rfl, by decide +kernel, by decide +kernel⟩
abbrev sRI : Stmt := topS 10
theorem scRI : FnScope ["text", "items", "at", "word"] ["text"] (defScope sRI) := ⟨rfl, rfl, rfl, by decide +kernel, rfl, by decide +kernel, by decide +kernel⟩
abbrev sWS : Stmt := topS 11
theorem scWS : FnScope ["seen", "entry"] ["seen"] (defScope sWS) := ⟨rfl, rfl, rfl, by decide +kernel, rfl, by decide +kernel, by decide +kernel⟩
abbrev sRS : Stmt := topS 12
theorem scRS : FnScope ["text", "seen", "at", "word"] ["text"] (defScope sRS) := ⟨rfl, rfl, rfl, by decide +kernel, rfl, by decide +kernel, by decide +kernel⟩
abbrev sJoined : Stmt := topS 19
theorem scJoined : FnScope ["words", "page", "word"] ["words"] (defScope sJoined) := ⟨rfl, rfl, rfl, by decide +kernel, rfl, by decide +kernel, by decide +kernel⟩
abbrev sHidden : Stmt := topS 20
theorem scHidden : FnScope ["source", "row", "often", "name"] ["source", "row"] (defScope sHidden) := ⟨rfl, rfl, rfl, by decide +kernel, rfl, by decide +kernel, by decide +kernel⟩
theorem name_free {z : Str} (h : nameB z = true) {c : Nat} (hc : c < 97) : c ∉ z.cps.toList := fun m => by
  unfold nameB at h
  rw [Bool.and_eq_true] at h
  have := List.all_eq_true.mp h.2 c m
  unfold letterB at this
  rw [Bool.and_eq_true] at this
  have := of_decide_eq_true this.1
  omega
theorem name_len' {z : Str} (h : nameB z = true) : z.length ≤ 8 := by
  unfold nameB at h
  rw [Bool.and_eq_true, Bool.and_eq_true] at h
  exact of_decide_eq_true h.1.2
theorem name_ne {z : Str} (h : nameB z = true) : z ≠ ("?" : Str) := fun e => by
  refine name_free h (c := 63) (by decide) ?_
  rw [e]
  decide
/-- an observation: few names, no name twice -/
structure ObsOk (os : List (Option Str)) : Prop where
  ne : os ≠ []
  few : os.length ≤ 40
  ok : ∀ z, some z ∈ os → nameB z = true ∧ PyData.strOk z = true
  nd : (os.filterMap id).Nodup
theorem ObsOk.words {os : List (Option Str)} (h : ObsOk os) : WOk (os.map oW) := by
  refine ⟨by rw [List.length_map]; have := h.few; omega, fun w hw => ?_⟩
  obtain ⟨o, ho, rfl⟩ := List.mem_map.mp hw
  cases o with
  | none => decide
  | some z => exact Nat.le_trans (name_len' (h.ok z ho).1) (by decide)
theorem ObsOk.wne {os : List (Option Str)} (h : ObsOk os) : os.map oW ≠ [] := fun e => h.ne (List.map_eq_nil_iff.mp e)
theorem ObsOk.back {os : List (Option Str)} (h : ObsOk os) : Txt.split (page (os.map oW)) (" " : Str) = os.map oW := split_page h.wne fun w hw => by
  obtain ⟨o, ho, rfl⟩ := List.mem_map.mp hw
  cases o with
  | none => decide
  | some z => exact name_free (h.ok z ho).1 (by decide)
theorem some_sub {os : List (Option Str)} {i : Nat} {z : Str} (nd : (os.filterMap id).Nodup) (h : os[i]? = some (some z)) : some z ∉ os.take i := fun m => by
  have lt := (List.getElem?_eq_some_iff.mp h).1
  have e : os = os.take i ++ (some z :: os.drop (i + 1)) := by
    have e7 := List.drop_eq_getElem_cons lt
    rw [(List.getElem?_eq_some_iff.mp h).2] at e7
    rw [← e7, List.take_append_drop]
  rw [e, List.filterMap_append] at nd
  refine (List.nodup_append.mp nd).2.2 z (List.mem_filterMap.mpr ⟨some z, m, rfl⟩) z ?_ rfl
  exact List.mem_filterMap.mpr ⟨some z, List.mem_cons_self, rfl⟩
theorem obs_row {zs : List Str} (ne : zs ≠ []) (l : zs.length ≤ 40) (ok : ∀ z ∈ zs, nameB z = true ∧ PyData.strOk z = true) (nd : zs.Nodup) : ObsOk (zs.map some) :=
  ⟨fun e => ne (List.map_eq_nil_iff.mp e), by rw [List.length_map]; exact l, fun z hz => by
    obtain ⟨y, hy, e⟩ := List.mem_map.mp hz
    rw [← Option.some.inj e]
    exact ok y hy, by
    rw [List.filterMap_map]
    have : zs.filterMap (id ∘ some) = zs := by
      rw [show (id ∘ some : Str → Option Str) = some from rfl, List.filterMap_some]
    rw [this]
    exact nd⟩
section
variable {P : Program} {w : World} {K : PySem.W.Frag} {mg : Str → Option Value} {base : Heap}
def spWI : Sp := fun vs H Q _ => ∃ (a : Addr) (zs : List Str), vs = [.ref a] ∧ H a = some (.lst (zs.map V.str)) ∧ WOk zs ∧ ∀ H', Ex H H' → Q (.str (page zs)) H'
theorem ok_wi {f : Addr} {fd : FuncData} {k : Nat} (F : Fun K "write_items" "write_items" sWI f fd) : FnOk P w K mg base CX0 (k + 1) f fd ["items"] spWI := by
  refine F.ok scWI (fun vs H Q E h => ?_) (fun cdv A outer s H vs Q E hr h => ?_)
  · obtain ⟨a, zs, rfl, _⟩ := h
    rfl
  · obtain ⟨a, zs, rfl, ha, hz, q⟩ := h
    refine ⟨_, (pss_one (ps_ret (pe_join pe_str (pv 0)))), ?_⟩
    exact s_ret (v := .str (page zs)) (ev_joinV len_sp ev_c (ev_var rfl) ha hz) q
def spWS : Sp := fun vs H Q _ => ∃ (a : Addr) (os : List (Option Str)), vs = [.ref a] ∧ H a = some (.lst (os.map oV)) ∧ WOk (os.map oW) ∧ ∀ H', Ex H H' → Q (.str (page (os.map oW))) H'
theorem words_of {os : List (Option Str)} : given (os.map oV).length (fun _ => true) (fun i => V.str (oW (os.getD i none))) = (os.map oW).map V.str := by
  rw [List.length_map, List.map_map]
  exact given_map os (V.str ∘ oW) _ fun i x e => by
    rw [List.getD_eq_getElem?_getD, e]
    rfl
theorem ok_ws {f : Addr} {fd : FuncData} {k : Nat} (F : Fun K "write_seen" "write_seen" sWS f fd) {tU : Tok} (mU : mg "UNSEEN" = some (.str "?" tU)) : FnOk P w K mg base CX0 (k + 1) f fd ["seen"] spWS := by
  refine F.ok scWS (fun vs H Q E h => ?_) (fun cdv A outer s H vs Q E hr h => ?_)
  · obtain ⟨a, os, rfl, _⟩ := h
    rfl
  · obtain ⟨a, os, rfl, ha, hz, q⟩ := h
    refine ⟨_, (pss_one (ps_ret (pe_join pe_str (pe_lc (own := [("entry", 1)]) (g := gName 1) (tt := tYes) rfl scWS.nd (pi_list (pv 0)) (blkOk_by (N := ["seen", "entry"]) (sc := defScope sWS) (by decide +kernel)) (fun _ _ _ _ _ => pg_name (i := 1) scWS.nd rfl (Or.inl rfl)) (fun _ _ _ _ _ => pts_nil) (fun _ _ _ _ _ => (pe_ifExp (pt_cmpR op_isN (pv 1) pe_non (nomark _)) (pe_glob (v := .str "?") (by rfl) mU ⟨_, rfl⟩) (pv 1))))))), ?_⟩
    refine s_ret (v := .str (page (os.map oW))) (ev_joinL len_sp ev_c ?_ hz) q
    rw [← words_of]
    have few := hz.few
    rw [List.length_map] at few
    refine el_lcL (f := fun _ => true) (v := _) (ev_var rfl) (sq_of ha) (by rw [List.length_map]; omega) (fun _ => rfl) (fun i x H2 _ _ => fun H3 e3 Q q => q H3 (Ex.refl H3)) (fun i x H2 e2 hx _ => ?_)
    rw [List.getElem?_map] at hx
    obtain ⟨o, ho, rfl⟩ := Option.map_eq_some_iff.mp hx
    rw [List.getD_eq_getElem?_getD, ho]
    show Ev _ _ _ (.str (oW o))
    cases o with
    | none => exact ev_if (b := true) (et_test (ev_op (ev_var rfl) ev_c rv_isN')) (fun _ => ev_c) fun h => nomatch h
    | some z => exact ev_if (b := false) (et_test (ev_op (ev_var rfl) ev_c rv_isN')) (fun h => nomatch h) fun _ => ev_var rfl
def spRI : Sp := fun vs H Q _ => ∃ (zs : List Str), vs = [.str (page zs)] ∧ ObsOk (zs.map some) ∧ ∀ H' p, Ex H H' → H p = none → H' p = some (.lst (zs.map V.str)) → Q (.ref p) H'
theorem ok_ri {f fI : Addr} {fd fdI : FuncData} {k : Nat} (F : Fun K "read_items" "read_items" sRI f fd)
    (GI : FnOk P w K mg base CX0 k fI fdI ["thing"] spItem) (FI : Fun K "is_item" "is_item" sItem fI fdI) (bI : Binds K fdI ["thing"] []) (gI : mg "is_item" = some (.ref fI))
    (mEnum : mg "enumerate" = none) {t40 : Tok} (m40 : mg "MOST_POSITIONS" = some (.int 40 t40)) : FnOk P w K mg base CX0 (k + 1) f fd ["text"] spRI := by
  refine F.ok scRI (fun vs H Q E h => ?_) (fun cdv A outer s H vs Q E hr h => ?_)
  · obtain ⟨zs, rfl, _⟩ := h
    rfl
  · obtain ⟨zs, rfl, ok, q⟩ := h
    refine ⟨_, (pss_cons (ps_set (i := 1) scRI.nd rfl (.inl rfl) (pe_lst pa_nil))
      (pss_cons (ps_for PassesOwn.never rfl (pi_enum (by rfl) mEnum (pa_cons (pe_split (pv 0) pe_str) pa_nil)) (pg_tup rfl (pgs_cons (pg_name (i := 2) scRI.nd rfl (Or.inl rfl)) (pgs_cons (pg_name (i := 3) scRI.nd rfl (Or.inl rfl)) pgs_nil)))
      (pss_cons (ps_if (PW.pt (pw_or (pt_cmpR op_ge (pv 2) (pe_glob (v := .int 40) (by rfl) m40 ⟨_, rfl⟩) (nomark _)) (pw_or (pt_not (pt_val (pe_call GI hr (by rfl) gI FI.kp bI .nil pass0 (pa_cons (pv 3) pa_nil)))) (pw_or1 (pt_cmpR op_in_seq (pv 3) (pv 1) (by rfl)))))) pss_never pss_nil)
      (pss_one (ps_expr (pe_bm PySem.F.plainAttrs_list PySem.F.slot_list_append PySem.F.type_list_append mt_append (pv 1) (pa_cons (pv 3) pa_nil))))))
      (pss_one (ps_ret (pv 1))))), ?_⟩
    have wok := ok.words
    have back := ok.back
    rw [some_W] at wok back
    have few : zs.length ≤ 40 := by
      have := ok.few
      rw [List.length_map] at this
      exact this
    refine q_asgL (xs := []) (el_lst ea_nil (Nat.zero_le _)) fun L H1 hL e1 h1 => ?_
    refine q_forE (xs := zs.map V.str) (el_split (ev_var rfl) ev_c len_sp (Nat.le_trans (join_len_le len_sp wok) (by decide)) back)
      (fun p i σ' H' => Ex H H' ∧ H' p = some (.lst (zs.map V.str)) ∧ p ≠ L ∧ H' L = some (.lst ((zs.take i).map V.str)) ∧ ∃ y2 y3, σ' = [some (.str (page zs)), some (.ref L), y2, y3])
      (fun p H2 hp e2 h2 => ⟨e1.trans e2, h2, (ne_of_none h1 hp).symm, e2 _ _ h1, _, _, rfl⟩) (fun p i σ' H' h => sq_of h.2.1) ?_ ?_
    · rintro p i x σ' H3 H4 hx ⟨e3, hp3, npL, hL3, y2, y3, rfl⟩ e4
      rw [List.getElem?_map] at hx
      obtain ⟨z, hz, rfl⟩ := Option.map_eq_some_iff.mp hx
      have hi : i < zs.length := (List.getElem?_eq_some_iff.mp hz).1
      have mz : some z ∈ zs.map some := List.mem_map.mpr ⟨z, List.mem_of_getElem? hz, rfl⟩
      obtain ⟨nb, so⟩ := ok.ok z mz
      have nin : z ∉ zs.take i := fun m => by
        refine some_sub (i := i) (z := z) ok.nd (by rw [List.getElem?_map, hz]; rfl) ?_
        rw [← List.map_take]
        exact List.mem_map.mpr ⟨z, m, rfl⟩
      have hL4 := e4 _ _ hL3
      refine q_when (b := false) (et_is (et_or (a := false) (b := false) (et_test (ev_is (ev_op (ev_var rfl) ev_c rv_I0) (by rw [decide_eq_false (by omega)]))) fun _ => et_is (et_or (a := false) (b := false) (et_is (et_not (et_B (ev_sp (z := .bl (itemB (.str z))) (ea_cons (ev_var rfl) ea_nil) fun H5 e5 Q q => ⟨.str z, .str z, rfl, .str z, ⟨Nat.le_trans (name_len' nb) (by decide), so⟩, fun H6 e6 => q H6 e6⟩))) (show (!nameB z) = false by rw [nb]; rfl)) fun _ => et_test (ev_is (ev_op (ev_var rfl) (ev_var rfl) (rv_isL (sq_of hL4) rfl (flat_strs' _))) (by rw [inV_strs', decide_eq_false nin]))) rfl) rfl) (fun h => nomatch h) fun _ H5 e5 => ?_
      refine s_app (e5 _ _ hL4) (ev_var rfl) (ev_var rfl) (by rw [List.length_map, List.length_take]; omega) fun H6 e6 => ?_
      have hLn : H L = none := hL
      refine ⟨((((e3.trans e4).trans e5).trans e6)).mut hLn, ?_, npL, ?_, _, _, rfl⟩
      · rw [upd_ne npL]
        exact e6 _ _ (e5 _ _ (e4 _ _ hp3))
      · rw [upd_same, List.take_add_one, hz]
        show some (HO.lst _) = some (HO.lst ((zs.take i ++ [z]).map V.str))
        rw [List.map_append]
        rfl
    · rintro p σ' H3 ⟨e3, hp3, npL, hL3, y2, y3, rfl⟩
      rw [List.length_map, List.take_length] at hL3
      exact s_ret (v := .ref L) (ev_var rfl) fun H4 e4 => q H4 L (e3.trans e4) hL (e4 _ _ hL3)
def spRS : Sp := fun vs H Q _ => ∃ (os : List (Option Str)), vs = [.str (page (os.map oW))] ∧ ObsOk os ∧ ∀ H' p, Ex H H' → H p = none → H' p = some (.lst (os.map oV)) → Q (.ref p) H'
theorem ok_rs {f fI : Addr} {fd fdI : FuncData} {k : Nat} (F : Fun K "read_seen" "read_seen" sRS f fd)
    (GI : FnOk P w K mg base CX0 k fI fdI ["thing"] spItem) (FI : Fun K "is_item" "is_item" sItem fI fdI) (bI : Binds K fdI ["thing"] []) (gI : mg "is_item" = some (.ref fI))
    (mEnum : mg "enumerate" = none) {t40 : Tok} (m40 : mg "MOST_POSITIONS" = some (.int 40 t40)) {tU : Tok} (mU : mg "UNSEEN" = some (.str "?" tU)) : FnOk P w K mg base CX0 (k + 1) f fd ["text"] spRS := by
  refine F.ok scRS (fun vs H Q E h => ?_) (fun cdv A outer s H vs Q E hr h => ?_)
  · obtain ⟨os, rfl, _⟩ := h
    rfl
  · obtain ⟨os, rfl, ok, q⟩ := h
    refine ⟨_, (pss_cons (ps_set (i := 1) scRS.nd rfl (.inl rfl) (pe_lst pa_nil))
      (pss_cons (ps_for PassesOwn.never rfl (pi_enum (by rfl) mEnum (pa_cons (pe_split (pv 0) pe_str) pa_nil)) (pg_tup rfl (pgs_cons (pg_name (i := 2) scRS.nd rfl (Or.inl rfl)) (pgs_cons (pg_name (i := 3) scRS.nd rfl (Or.inl rfl)) pgs_nil)))
      (pss_cons (ps_if (pt_cmpR op_ge (pv 2) (pe_glob (v := .int 40) (by rfl) m40 ⟨_, rfl⟩) (nomark _)) pss_never pss_nil)
      (pss_one (ps_if (pt_cmpR op_eq (pv 3) (pe_glob (v := .str "?") (by rfl) mU ⟨_, rfl⟩) (nomark _)) (pss_one (ps_expr (pe_bm PySem.F.plainAttrs_list PySem.F.slot_list_append PySem.F.type_list_append mt_append (pv 1) (pa_cons pe_non pa_nil)))) (pss_one (ps_if (PW.pt (pw_and (pt_val (pe_call GI hr (by rfl) gI FI.kp bI .nil pass0 (pa_cons (pv 3) pa_nil))) (pw_and1 (pt_cmpR op_notIn_seq (pv 3) (pv 1) (by rfl))))) (pss_one (ps_expr (pe_bm PySem.F.plainAttrs_list PySem.F.slot_list_append PySem.F.type_list_append mt_append (pv 1) (pa_cons (pv 3) pa_nil)))) pss_never))))))
      (pss_one (ps_ret (pv 1))))), ?_⟩
    have wok := ok.words
    have back := ok.back
    have few := ok.few
    refine q_asgL (xs := []) (el_lst ea_nil (Nat.zero_le _)) fun L H1 hL e1 h1 => ?_
    refine q_forE (xs := (os.map oW).map V.str) (el_split (ev_var rfl) ev_c len_sp (Nat.le_trans (join_len_le len_sp wok) (by decide)) back)
      (fun p i σ' H' => Ex H H' ∧ H' p = some (.lst ((os.map oW).map V.str)) ∧ p ≠ L ∧ H' L = some (.lst ((os.take i).map oV)) ∧ ∃ y2 y3, σ' = [some (.str (page (os.map oW))), some (.ref L), y2, y3])
      (fun p H2 hp e2 h2 => ⟨e1.trans e2, h2, (ne_of_none h1 hp).symm, e2 _ _ h1, _, _, rfl⟩) (fun p i σ' H' h => sq_of h.2.1) ?_ ?_
    · rintro p i x σ' H3 H4 hx ⟨e3, hp3, npL, hL3, y2, y3, rfl⟩ e4
      rw [List.getElem?_map] at hx
      obtain ⟨z, hz0, rfl⟩ := Option.map_eq_some_iff.mp hx
      rw [List.getElem?_map] at hz0
      obtain ⟨o, ho, rfl⟩ := Option.map_eq_some_iff.mp hz0
      have hi : i < os.length := (List.getElem?_eq_some_iff.mp ho).1
      have mo := List.mem_of_getElem? ho
      have hL4 := e4 _ _ hL3
      have hLn : H L = none := hL
      have fin : ∀ {H5 H6 : Hp}, Ex H4 H5 → Ex H5 H6 → (Ex H (upd H6 L (.lst ((os.take i).map oV ++ [oV o]))) ∧ upd H6 L (.lst ((os.take i).map oV ++ [oV o])) p = some (.lst ((os.map oW).map V.str)) ∧ p ≠ L ∧ upd H6 L (.lst ((os.take i).map oV ++ [oV o])) L = some (.lst ((os.take (i + 1)).map oV))) := fun e5 e6 => by
        refine ⟨(((e3.trans e4).trans e5).trans e6).mut hLn, ?_, npL, ?_⟩
        · rw [upd_ne npL]
          exact e6 _ _ (e5 _ _ (e4 _ _ hp3))
        · rw [upd_same, List.take_add_one, ho]
          show some (HO.lst _) = some (HO.lst ((os.take i ++ [o]).map oV))
          rw [List.map_append]
          rfl
      have sz : ((os.take i).map oV).length < 100000 := by rw [List.length_map, List.length_take]; omega
      refine q_when (b := false) (et_test (ev_is (ev_op (ev_var rfl) ev_c rv_I0) (by rw [decide_eq_false (by omega)]))) (fun h => nomatch h) fun _ H5 e5 => ?_
      cases o with
      | none =>
        refine s_if (b := true) (et_test (ev_op (ev_var rfl) ev_c (rv_eq rfl))) (fun _ H6 e6 => ?_) (fun h => nomatch h)
        refine s_app (e6 _ _ (e5 _ _ hL4)) (ev_var rfl) ev_c sz fun H7 e7 => ?_
        obtain ⟨f1, f2, f3, f4⟩ := fin (e5.trans e6) e7
        exact ⟨f1, f2, f3, f4, _, _, rfl⟩
      | some z =>
        obtain ⟨nb, so⟩ := ok.ok z mo
        have nin : some z ∉ os.take i := some_sub ok.nd ho
        refine s_if (b := false) (et_test (ev_is (ev_op (ev_var rfl) ev_c (rv_eq rfl)) (congrArg V.bl (decide_eq_false (fun e => name_ne nb (V.str.inj e)))))) (fun h => nomatch h) fun _ H6 e6 => ?_
        refine s_if (b := true) (et_is (et_and (a := true) (b := true) (et_is (et_B (ev_sp (z := .bl (itemB (.str z))) (ea_cons (ev_var rfl) ea_nil) fun H5 e5 Q q => ⟨.str z, .str z, rfl, .str z, ⟨Nat.le_trans (name_len' nb) (by decide), so⟩, fun H6 e6 => q H6 e6⟩)) nb) fun _ => et_test (ev_is (ev_op (ev_var rfl) (ev_var rfl) (rv_niL (sq_of (e6 _ _ (e5 _ _ hL4))) rfl (flat_o _))) (by rw [show inV (V.str (oW (some z))) ((os.take i).map oV) = _ from inV_o z _, decide_eq_false nin]; rfl))) rfl) (fun _ H7 e7 => ?_) (fun h => nomatch h)
        refine s_app (e7 _ _ (e6 _ _ (e5 _ _ hL4))) (ev_var rfl) (ev_var rfl) sz fun H8 e8 => ?_
        obtain ⟨f1, f2, f3, f4⟩ := fin ((e5.trans e6).trans e7) e8
        exact ⟨f1, f2, f3, f4, _, _, rfl⟩
    · rintro p σ' H3 ⟨e3, hp3, npL, hL3, y2, y3, rfl⟩
      rw [List.length_map, List.length_map, List.take_length] at hL3
      exact s_ret (v := .ref L) (ev_var rfl) fun H4 e4 => q H4 L (e3.trans e4) hL (e4 _ _ hL3)
/-! ### the law's own -/
def spJoined : Sp := fun vs H Q _ => ∃ (a : Addr) (ws : List Str), vs = [.ref a] ∧ H a = some (.lst (ws.map V.str)) ∧ WOk ws ∧ ws ≠ [] ∧ ∀ H', Ex H H' → Q (.str (page ws)) H'
theorem ok_joined {f : Addr} {fd : FuncData} {k : Nat} (F : Fun K "_law_joined" "_law_joined" sJoined f fd) : FnOk P w K mg base CX0 (k + 1) f fd ["words"] spJoined := by
  refine F.ok scJoined (fun vs H Q E h => ?_) (fun cdv A outer s H vs Q E hr h => ?_)
  · obtain ⟨a, ws, rfl, _⟩ := h
    rfl
  · obtain ⟨a, ws, rfl, ha, hz, ne, q⟩ := h
    refine ⟨_, (pss_cons (ps_set (i := 1) scJoined.nd rfl (.inl rfl) (pe_ix ix_list (pv 0) pe_int (fun _ _ => rfl)))
      (pss_cons (ps_for PassesOwn.never rfl (pi_list (pe_slice sl_list (pv 0) (po_some pe_int) po_none)) (pg_name (i := 2) scJoined.nd rfl (Or.inl rfl))
      (pss_one (ps_set (i := 1) scJoined.nd rfl (.inl rfl) (pe_op op_add_str (pe_op op_add_str (pv 1) pe_str) (pv 2)))))
      (pss_one (ps_ret (pv 1))))), ?_⟩
    obtain ⟨w0, r, rfl⟩ := List.exists_cons_of_ne_nil ne
    refine q_asg (v := .str w0) (ev_op (ev_var rfl) ev_c (rv_ixL (sq_of ha) (atI_nat (j := 0) rfl))) fun H1 e1 => ?_
    have ecut : cutV ((w0 :: r).map V.str) (some (1 : Int)) none = r.map V.str := by
      rw [show (1 : Int) = ((1 : Nat) : Int) from rfl, cut_drop]
      rfl
    refine q_forNLn (j := 2) (xs := r.map V.str) (by rw [← ecut]; exact el_sl (ev_var rfl) (eo_some ev_c) eo_none (sq_of (e1 _ _ ha)))
      (fun p i σ' H' => Ex H H' ∧ H' p = some (.lst (r.map V.str)) ∧ ∃ y2, σ' = [some (.ref a), some (.str (page ((w0 :: r).take (i + 1)))), y2])
      (fun p H2 hp e2 h2 => ⟨e1.trans e2, h2, _, by rw [show page ((w0 :: r).take (0 + 1)) = w0 from Os.join_one _ _]; rfl⟩) (fun p i σ' H' _ h => sq_of h.2.1) ?_ ?_
    · rintro p i x σ' H3 hx ⟨e3, hp3, y2, rfl⟩
      rw [List.getElem?_map] at hx
      obtain ⟨z, hz', rfl⟩ := Option.map_eq_some_iff.mp hx
      have tk : (w0 :: r).take (i + 1 + 1) = (w0 :: r).take (i + 1) ++ [z] := by
        rw [List.take_add_one, List.getElem?_cons_succ, hz']
        rfl
      have wok : WOk ((w0 :: r).take (i + 1)) := ⟨by have := hz.few; rw [List.length_take]; omega, fun w hw => hz.short w (List.mem_of_mem_take hw)⟩
      have l1 : (page ((w0 :: r).take (i + 1))).length ≤ 20100 := join_len_le len_sp wok
      have l2 := hz.short z (List.mem_cons_of_mem _ (List.mem_of_getElem? hz'))
      refine s_asg (v := .str (page ((w0 :: r).take (i + 1 + 1)))) (ev_is (ev_op (ev_op (ev_var rfl) ev_c (rv_addS' (by rw [len_sp]; omega))) (ev_var rfl) (rv_addS' (by rw [strLen_append, len_sp]; omega))) ?_) fun H4 e4 => ⟨e3.trans e4, e4 _ _ hp3, _, rfl⟩
      rw [tk, show page ((w0 :: r).take (i + 1) ++ [z]) = _ from join_snoc _ _ _ (by simp)]
    · rintro p σ' H3 ⟨e3, hp3, y2, rfl⟩
      rw [List.length_map, show (w0 :: r).take (r.length + 1) = w0 :: r from List.take_length (l := w0 :: r)]
      exact s_ret (v := .str (page (w0 :: r))) (ev_var rfl) fun H4 e4 => q H4 (e3.trans e4)
def spHidden : Sp := fun vs H Q _ => ∃ (s a : Addr) (zs : List Str) (B : Nat), vs = [.ref s, .ref a] ∧ Src H s B ∧ H a = some (.lst (zs.map V.str)) ∧ a ≠ s ∧ zs.length ≤ 40 ∧ B ≤ 700000 ∧
  ∀ (H' : Hp) (p : Addr) (os : List (Option Str)), Drew s (B + 1 + zs.length) H H' → H p = none → H' p = some (.lst (os.map oV)) → os.length = zs.length → (os.filterMap id).Sublist zs → Q (.ref p) H'
theorem ok_hidden {f fP : Addr} {fd fdP : FuncData} {k : Nat} (F : Fun K "_law_hidden" "_law_hidden" sHidden f fd)
    (GP : FnOk P w K mg base CX0 k fP fdP ["source", "count"] spPick) (FP : Fun K "_law_pick" "_law_pick" sPick fP fdP) (bP : Binds K fdP ["source", "count"] []) (gP : mg "_law_pick" = some (.ref fP)) : FnOk P w K mg base CX0 (k + 1) f fd ["source", "row"] spHidden := by
  refine F.ok scHidden (fun vs H Q E h => ?_) (fun cdv A outer s H vs Q E hr h => ?_)
  · obtain ⟨s, a, zs, B, rfl, _⟩ := h
    rfl
  · obtain ⟨s, a, zs, B, rfl, hS, ha, nas, hl, hB, q⟩ := h
    refine ⟨_, (pss_cons (ps_set (i := 2) scHidden.nd rfl (.inr rfl) (pe_ix ix_list (pe_lst (pa_cons pe_int (pa_cons pe_int (pa_cons pe_int (pa_cons pe_int pa_nil))))) (pe_call GP hr (by rfl) gP FP.kp bP .nil pass0 (pa_cons (pv 0) (pa_cons pe_int pa_nil))) (fun _ _ => rfl)))
      (pss_one (ps_ret (pe_lc (own := [("name", 3)]) (g := gName 3) (tt := tYes) (te := tIf (tTest (tOp rEq (tCall spPick [] E0 (tCons (tVar 0) (tCons (tVar 2) tNil))) (tC (.int 0)))) (tC .non) (tVar 3)) rfl scHidden.nd (pi_list (pv 1)) (blkOk_by (N := ["source", "row", "often", "name"]) (sc := defScope sHidden) (by decide +kernel)) (fun _ _ _ _ _ => pg_name (i := 3) scHidden.nd rfl (Or.inl rfl)) (fun _ _ _ _ _ => pts_nil) (fun _ _ _ _ _ => (pe_ifExp (pt_cmpR op_eq (pe_call GP hr (by rfl) gP FP.kp bP .nil pass0 (pa_cons (pv 0) (pa_cons (pv 2) pa_nil))) pe_int (nomark _)) pe_non (pv 3))))))), ?_⟩
    have src0 := hS.at
    refine ⟨show 4 ≤ sizeLine by decide, fun p hp => ⟨.ref s, rfl, s, 4, B, rfl, hS.ex (Ex.new hp), by omega, by decide, by decide, fun H1 r d1 r0 r1 => ?_⟩⟩
    have e0 := Ex.new (o := .lst [.int 1, .int 2, .int 9, .int 1]) hp
    have D1 : Drew s (B + 1) H H1 := ((Drew.refl hS).ex e0).trans d1
    have np : p ≠ s := new_apart src0 hp
    have hp1 := d1.get np upd_same
    obtain ⟨m, hm, m1, m9⟩ : ∃ m : Int, ([.int 1, .int 2, .int 9, .int 1] : List V)[r.toNat]? = some (.int m) ∧ 0 < m ∧ m ≤ 9 := by
      have : r.toNat < 4 := by omega
      match r.toNat, this with
      | 0, _ => exact ⟨1, rfl, by decide, by decide⟩
      | 1, _ => exact ⟨2, rfl, by decide, by decide⟩
      | 2, _ => exact ⟨9, rfl, by decide, by decide⟩
      | 3, _ => exact ⟨1, rfl, by decide, by decide⟩
    refine ⟨p, _, r, .int m, rfl, rfl, sq_of hp1, by rw [show r = (r.toNat : Int) by omega]; exact atI_nat hm, ?_⟩
    have ha1 := D1.get nas ha
    dsimp only [gName]
    refine ⟨.ref a, rfl, a, rfl, ⟨_, sq_of ha1⟩, fun D hD => ?_⟩
    have hD0 : H D = none := D1.none src0 hD
    have nDs : D ≠ s := new_apart D1.src.at hD
    have nDa : D ≠ a := (ne_of_none ha1 hD).symm
    refine lc_list (xs := zs.map V.str) (fun i Hh => ∃ os : List (Option Str), Hh D = some (.lst (os.map oV)) ∧ os.length = i ∧ (os.filterMap id).Sublist (zs.take i) ∧ Drew s (B + 1 + i) H Hh) ?_ ?_ ?_ ?_
    · exact ⟨[], upd_same, rfl, List.Sublist.refl _, D1.mut src0 hD0⟩
    · rintro i Hh _ ⟨os, _, _, _, dr⟩
      exact sq_of (dr.get nas ha)
    · rintro i x Hh hx ⟨os, hD1, len, sub, dr⟩
      rw [List.getElem?_map] at hx
      obtain ⟨z, hz, rfl⟩ := Option.map_eq_some_iff.mp hx
      have hi : i < zs.length := (List.getElem?_eq_some_iff.mp hz).1
      have tk : zs.take (i + 1) = zs.take i ++ [z] := by
        rw [List.take_add_one, hz]
        rfl
      refine ⟨rfl, ?_⟩
      dsimp only [tYes]
      rw [if_pos rfl]
      refine ⟨.ref s, rfl, .int m, rfl, s, m, B + 1 + i, rfl, dr.src, by omega, m1, by omega, fun H2 r2 d2 r20 r21 => ⟨rfl, decide (V.int r2 = V.int 0), rfl, ?_⟩⟩
      have D2 := dr.trans d2
      have hD2 := d2.get nDs hD1
      cases hb : decide (V.int r2 = V.int 0) with
      | true =>
        refine ⟨os.map oV, hD2, sz_lt (by rw [List.length_map]; omega), os ++ [none], ?_, by rw [List.length_append, len]; rfl, ?_, D2.mut src0 hD0⟩
        · rw [upd_same, List.map_append]
          rfl
        · rw [tk, List.filterMap_append]
          show (os.filterMap id ++ []).Sublist _
          rw [List.append_nil]
          exact sub.trans (List.sublist_append_left _ _)
      | false =>
        refine ⟨.str z, rfl, os.map oV, hD2, sz_lt (by rw [List.length_map]; omega), os ++ [some z], ?_, by rw [List.length_append, len]; rfl, ?_, D2.mut src0 hD0⟩
        · rw [upd_same, List.map_append]
          rfl
        · rw [tk, List.filterMap_append]
          exact List.Sublist.append sub (List.Sublist.refl _)
    · rintro Hh ⟨os, hD1, len, sub, dr⟩
      rw [List.length_map] at len sub dr
      rw [List.take_length] at sub
      exact q Hh D os dr hD0 hD1 len sub
end
end K91
namespace K91
open PySem PySem.Spec PyProof.Rows L2 Os Evl
abbrev sIR : Stmt := topS 21
theorem scIR : FnScope ["row", "page", "handed", "found", "again"] ["row"] (defScope sIR) := ⟨rfl, rfl, rfl, by decide +kernel, rfl, by decide +kernel, by decide +kernel⟩
abbrev sSR : Stmt := topS 22
theorem scSR : FnScope ["row", "page", "handed", "found", "again", "name"] ["row"] (defScope sSR) := ⟨rfl, rfl, rfl, by decide +kernel, rfl, by decide +kernel, by decide +kernel⟩
theorem rev1 (v : V) : revV [] [v] = [v] := rfl
section
variable {P : Program} {w : World} {K : PySem.W.Frag} {mg : Str → Option Value} {base : Heap}
def spIR : Sp := fun vs H Q _ => ∃ (a : Addr) (zs : List Str), vs = [.ref a] ∧ H a = some (.lst (zs.map V.str)) ∧ ObsOk (zs.map some) ∧ ∀ H', Ex H H' → Q (.bl true) H'
theorem ok_ir {f fJ fE fW fR : Addr} {fd fdJ fdE fdW fdR : FuncData} {k : Nat} (F : Fun K "_law_items_right" "_law_items_right" sIR f fd)
    (GJ : FnOk P w K mg base CX0 k fJ fdJ ["words"] spJoined) (FJ : Fun K "_law_joined" "_law_joined" sJoined fJ fdJ) (bJ : Binds K fdJ ["words"] []) (gJ : mg "_law_joined" = some (.ref fJ))
    (GE : FnOk P w K mg base CX0 k fE fdE ["found", "due"] (spSame 5)) (FE : Fun K "_law_same" "_law_same" sSame fE fdE) (bE : Binds K fdE ["found", "due"] []) (gE : mg "_law_same" = some (.ref fE))
    (GW : FnOk P w K mg base CX0 k fW fdW ["items"] spWI) (FW : Fun K "write_items" "write_items" sWI fW fdW) (bW : Binds K fdW ["items"] []) (kW : KBinds K fdW ["items"] ["items"] revG revV) (gW : mg "write_items" = some (.ref fW))
    (GR : FnOk P w K mg base CX0 k fR fdR ["text"] spRI) (FR : Fun K "read_items" "read_items" sRI fR fdR) (bR : Binds K fdR ["text"] []) (kR : KBinds K fdR ["text"] ["text"] revG revV) (gR : mg "read_items" = some (.ref fR))
    (mList : mg "list" = none) : FnOk P w K mg base CX0 (k + 1) f fd ["row"] spIR := by
  refine F.ok scIR (fun vs H Q E h => ?_) (fun cdv A outer s H vs Q E hr h => ?_)
  · obtain ⟨a, zs, rfl, _⟩ := h
    rfl
  · obtain ⟨a, zs, rfl, ha, ok, q⟩ := h
    refine ⟨_, (pss_cons (ps_set (i := 1) scIR.nd rfl (.inl rfl) (pe_call GJ hr (by rfl) gJ FJ.kp bJ .nil pass0 (pa_cons (pv 0) pa_nil)))
      (pss_cons (ps_set (i := 2) scIR.nd rfl (.inl rfl) (pe_callTy call_list_of (by rfl) mList boot_list (pa_cons (pv 0) pa_nil)))
      (pss_cons (ps_if (pt_not (pt_val (pe_call GE hr (by rfl) gE FE.kp bE .nil pass0 (pa_cons (pe_lst (pa_cons (pe_call GW hr (by rfl) gW FW.kp bW .nil pass0 (pa_cons (pv 2) pa_nil)) (pa_cons (pe_callK0 GW hr (by rfl) gW FW.kp kW pass0 (pk_cons (pv 2) pk_nil)) (pa_cons (pv 2) pa_nil)))) (pa_cons (pe_lst (pa_cons (pv 1) (pa_cons (pv 1) (pa_cons (pv 0) pa_nil)))) pa_nil))))) pss_never pss_nil)
      (pss_cons (ps_expr (pe_bm0 PySem.F.plainAttrs_list PySem.F.slot_list_clear PySem.F.type_list_clear mt_clear (pv 2)))
      (pss_cons (ps_par (i := 3) (j := 4) rfl scIR.nd rfl rfl (by decide) rfl rfl (pa_cons (pe_call GR hr (by rfl) gR FR.kp bR .nil pass0 (pa_cons (pv 1) pa_nil)) (pa_cons (pe_callK0 GR hr (by rfl) gR FR.kp kR pass0 (pk_cons (pv 1) pk_nil)) pa_nil)) (by rfl))
      (pss_cons (ps_if (pt_not (pt_val (pe_call GE hr (by rfl) gE FE.kp bE .nil pass0 (pa_cons (pe_lst (pa_cons (pv 3) (pa_cons (pv 4) pa_nil))) (pa_cons (pe_lst (pa_cons (pv 0) (pa_cons (pv 0) pa_nil))) pa_nil))))) pss_never pss_nil)
      (pss_cons (ps_expr (pe_bm0 PySem.F.plainAttrs_list PySem.F.slot_list_reverse PySem.F.type_list_reverse mt_reverse (pv 3)))
      (pss_cons (ps_expr (pe_bm PySem.F.plainAttrs_list PySem.F.slot_list_append PySem.F.type_list_append mt_append (pv 3) (pa_cons pe_str pa_nil)))
      (pss_one (ps_ret (pe_and (pe_cmpR (op_eqD hr.units) (pv 4) (pv 0) (nomark _)) (pe_and (pe_cmpR (op_eqD hr.units) (pe_call GR hr (by rfl) gR FR.kp bR .nil pass0 (pa_cons (pv 1) pa_nil)) (pv 0) (nomark _)) (pe_one (pe_cmpR op_eq (pe_call GW hr (by rfl) gW FW.kp bW .nil pass0 (pa_cons (pv 4) pa_nil)) (pv 1) (nomark _))))))))))))))), ?_⟩
    have wok := ok.words
    have wne := ok.wne
    rw [some_W] at wok wne
    have few : zs.length ≤ 40 := by
      have := ok.few
      rw [List.length_map] at this
      exact this
    have sh : Sh 1 (.list (zs.map PyData.str)) := by
      rw [← some_D]
      exact sh_o fun z hz => (ok.ok z hz).2
    have pl : ∀ j, Plain (j + 2) (.list (zs.map PyData.str)) := fun j => by
      rw [← some_D]
      exact plain_o j _ (by rw [List.length_map]; omega)
    have dt : ∀ {G : Hp} {p : Addr}, G p = some (.lst (zs.map V.str)) → Dt G (.ref p) (.list (zs.map PyData.str)) := fun h => .lst h (dts_strs zs)
    -- page, handed
    refine q_asg (v := .str (page zs)) (ev_sp (ea_cons (ev_var rfl) ea_nil) fun H1 e1 Q q => ⟨a, zs, rfl, e1 _ _ ha, wok, wne, q⟩) fun H1 e1 => ?_
    refine q_asgL (xs := zs.map V.str) (el_list (ev_var rfl) (sq_of (e1 _ _ ha))) fun L H2 hL e2 h2 => ?_
    have wri : ∀ {G H' : Hp} {p : Addr} {Q : VK}, Ex G H' → G p = some (.lst (zs.map V.str)) → (∀ H2, Ex H' H2 → Q (.str (page zs)) H2) → spWI [.ref p] H' Q E0 := fun e h q => ⟨_, zs, rfl, e _ _ h, wok, q⟩
    refine q_when (b := !true) (et_not (et_B (ev_same (ea_cons (ev_sp (ea_cons (ev_var rfl) ea_nil) fun H5 e5 Q q => wri e5 h2 q) (ea_cons (ev_spK (ea_cons (ev_var rfl) ea_nil) (rev1 _) fun H5 e5 Q q => wri e5 h2 q) (ea_cons (ev_var rfl) ea_nil)))
      (ea_cons (ev_var rfl) (ea_cons (ev_var rfl) (ea_cons (ev_var rfl) ea_nil))) (.cons (.str _) (.cons (.str _) (.cons (dt h2) .nil))) (.cons (.str _) (.cons (.str _) (.cons (dt (e2 _ _ (e1 _ _ ha))) .nil)))
      (plain_list (by show 3 ≤ 1000; decide) fun d hd => by
        rcases List.mem_cons.mp hd with rfl | hd
        · exact plain_str _ _
        · rcases List.mem_cons.mp hd with rfl | hd
          · exact plain_str _ _
          · rw [List.mem_singleton.mp hd]
            exact pl 2) (by show 3 ≤ 1000; decide)))) (fun h => nomatch h) fun _ H3 e3 => ?_
    refine q_clear (e3 _ _ h2) (ev_var rfl) fun H4' e4' => ?_
    have hL0 : H L = none := fresh_back e1 hL
    have x4 : Ex H (upd H4' L (.lst [])) := (((e1.trans e2).trans e3).trans e4').mut hL0
    generalize upd H4' L (.lst []) = H4 at x4
    -- found, again
    refine ⟨.str (page zs), rfl, zs, rfl, ok, fun H5 fo e5 hfo h5 => ⟨.str (page zs), rfl, zs, rfl, ok, fun H6 ag e6 hag h6 => ⟨_, _, rfl, ?_⟩⟩⟩
    have x6 := (x4.trans e5).trans e6
    refine q_when (b := !true) (et_not (et_B (ev_same (ea_cons (ev_var rfl) (ea_cons (ev_var rfl) ea_nil)) (ea_cons (ev_var rfl) (ea_cons (ev_var rfl) ea_nil)) (.cons (dt (e6 _ _ h5)) (.cons (dt h6) .nil)) (.cons (dt (x6 _ _ ha)) (.cons (dt (x6 _ _ ha)) .nil))
      (plain_list (by show 2 ≤ 1000; decide) fun d hd => by
        rcases List.mem_cons.mp hd with rfl | hd
        · exact pl 2
        · rw [List.mem_singleton.mp hd]
          exact pl 2) (by show 2 ≤ 1000; decide)))) (fun h => nomatch h) fun _ H7 e7 => ?_
    have x7 := x6.trans e7
    have fo0 : H fo = none := fresh_back x4 hfo
    have nag : ag ≠ fo := (ne_of_none h5 hag).symm
    refine q_reverse (e7 _ _ (e6 _ _ h5)) (ev_var rfl) fun H8 e8 => ?_
    refine q_app (v := .str Str.empty) upd_same (ev_var rfl) ev_c (by rw [List.length_reverse, List.length_map]; omega) fun H9 e9 => ?_
    have x9 : Ex H (upd H9 fo (.lst ((zs.map V.str).reverse ++ [.str Str.empty]))) := (((x7.trans e8).mut fo0).trans e9).mut fo0
    have ag9 : upd H9 fo (.lst ((zs.map V.str).reverse ++ [.str Str.empty])) ag = some (.lst (zs.map V.str)) := by
      rw [upd_ne nag]
      refine e9 _ _ ?_
      rw [upd_ne nag]
      exact e8 _ _ (e7 _ _ h6)
    generalize upd H9 fo (.lst ((zs.map V.str).reverse ++ [.str Str.empty])) = G at x9 ag9
    refine s_ret (v := .bl true) (ev_andV (a := true) (b := true) (ev_eqD (ev_var rfl) (ev_var rfl) (dt ag9) (dt (x9 _ _ ha)) sh (by decide)) fun _ => ev_andV (a := true) (b := true)
      (ev_eqD1 (el_sp (xs := zs.map V.str) (ea_cons (ev_var rfl) ea_nil) fun H5 e5 Q q => ⟨zs, rfl, ok, fun H' p e' hp h' => q p H' hp e' h'⟩) (fun _ _ => ev_var rfl) (dts_strs zs) (dt (x9 _ _ ha)) sh (by decide))
      fun _ => ev_is (ev_op (ev_sp (ea_cons (ev_var rfl) ea_nil) fun H5 e5 Q q => wri e5 ag9 q) (ev_var rfl) (rv_eq rfl)) (congrArg V.bl (decide_eq_true rfl))) fun H10 e10 => q H10 (x9.trans e10)
def spSR : Sp := fun vs H Q _ => ∃ (a : Addr) (os : List (Option Str)), vs = [.ref a] ∧ H a = some (.lst (os.map oV)) ∧ ObsOk os ∧ ∀ H', Ex H H' → Q (.bl true) H'
theorem ok_sr {f fJ fE fW fR : Addr} {fd fdJ fdE fdW fdR : FuncData} {k : Nat} (F : Fun K "_law_seen_right" "_law_seen_right" sSR f fd)
    (GJ : FnOk P w K mg base CX0 k fJ fdJ ["words"] spJoined) (FJ : Fun K "_law_joined" "_law_joined" sJoined fJ fdJ) (bJ : Binds K fdJ ["words"] []) (gJ : mg "_law_joined" = some (.ref fJ))
    (GE : FnOk P w K mg base CX0 k fE fdE ["found", "due"] (spSame 5)) (FE : Fun K "_law_same" "_law_same" sSame fE fdE) (bE : Binds K fdE ["found", "due"] []) (gE : mg "_law_same" = some (.ref fE))
    (GW : FnOk P w K mg base CX0 k fW fdW ["seen"] spWS) (FW : Fun K "write_seen" "write_seen" sWS fW fdW) (bW : Binds K fdW ["seen"] []) (kW : KBinds K fdW ["seen"] ["seen"] revG revV) (gW : mg "write_seen" = some (.ref fW))
    (GR : FnOk P w K mg base CX0 k fR fdR ["text"] spRS) (FR : Fun K "read_seen" "read_seen" sRS fR fdR) (bR : Binds K fdR ["text"] []) (kR : KBinds K fdR ["text"] ["text"] revG revV) (gR : mg "read_seen" = some (.ref fR))
    (mList : mg "list" = none) : FnOk P w K mg base CX0 (k + 1) f fd ["row"] spSR := by
  refine F.ok scSR (fun vs H Q E h => ?_) (fun cdv A outer s H vs Q E hr h => ?_)
  · obtain ⟨a, os, rfl, _⟩ := h
    rfl
  · obtain ⟨a, os, rfl, ha, ok, q⟩ := h
    refine ⟨_, (pss_cons (ps_set (i := 1) scSR.nd rfl (.inl rfl) (pe_call GJ hr (by rfl) gJ FJ.kp bJ .nil pass0 (pa_cons (pe_lc (own := [("name", 5)]) (g := gName 5) (tt := tYes) rfl scSR.nd (pi_list (pv 0)) (blkOk_by (N := ["row", "page", "handed", "found", "again", "name"]) (sc := defScope sSR) (by decide +kernel)) (fun _ _ _ _ _ => pg_name (i := 5) scSR.nd rfl (Or.inl rfl)) (fun _ _ _ _ _ => pts_nil) (fun _ _ _ _ _ => (pe_ifExp (pt_cmpR op_isN (pv 5) pe_non (nomark _)) pe_str (pv 5)))) pa_nil)))
      (pss_cons (ps_set (i := 2) scSR.nd rfl (.inl rfl) (pe_callTy call_list_of (by rfl) mList boot_list (pa_cons (pv 0) pa_nil)))
      (pss_cons (ps_if (pt_not (pt_val (pe_call GE hr (by rfl) gE FE.kp bE .nil pass0 (pa_cons (pe_lst (pa_cons (pe_call GW hr (by rfl) gW FW.kp bW .nil pass0 (pa_cons (pv 2) pa_nil)) (pa_cons (pe_callK0 GW hr (by rfl) gW FW.kp kW pass0 (pk_cons (pv 2) pk_nil)) (pa_cons (pv 2) pa_nil)))) (pa_cons (pe_lst (pa_cons (pv 1) (pa_cons (pv 1) (pa_cons (pv 0) pa_nil)))) pa_nil))))) pss_never pss_nil)
      (pss_cons (ps_expr (pe_bm0 PySem.F.plainAttrs_list PySem.F.slot_list_clear PySem.F.type_list_clear mt_clear (pv 2)))
      (pss_cons (ps_par (i := 3) (j := 4) rfl scSR.nd rfl rfl (by decide) rfl rfl (pa_cons (pe_call GR hr (by rfl) gR FR.kp bR .nil pass0 (pa_cons (pv 1) pa_nil)) (pa_cons (pe_callK0 GR hr (by rfl) gR FR.kp kR pass0 (pk_cons (pv 1) pk_nil)) pa_nil)) (by rfl))
      (pss_cons (ps_if (pt_not (pt_val (pe_call GE hr (by rfl) gE FE.kp bE .nil pass0 (pa_cons (pe_lst (pa_cons (pv 3) (pa_cons (pv 4) pa_nil))) (pa_cons (pe_lst (pa_cons (pv 0) (pa_cons (pv 0) pa_nil))) pa_nil))))) pss_never pss_nil)
      (pss_cons (ps_expr (pe_bm PySem.F.plainAttrs_list PySem.F.slot_list_append PySem.F.type_list_append mt_append (pv 3) (pa_cons pe_non pa_nil)))
      (pss_one (ps_ret (pe_and (pe_cmpR (op_eqD hr.units) (pv 4) (pv 0) (nomark _)) (pe_and (pe_cmpR (op_eqD hr.units) (pe_call GR hr (by rfl) gR FR.kp bR .nil pass0 (pa_cons (pv 1) pa_nil)) (pv 0) (nomark _)) (pe_one (pe_cmpR op_eq (pe_call GW hr (by rfl) gW FW.kp bW .nil pass0 (pa_cons (pv 4) pa_nil)) (pv 1) (nomark _)))))))))))))), ?_⟩
    have wok := ok.words
    have wne := ok.wne
    have few := ok.few
    have sh : Sh 1 (.list (os.map oD)) := sh_o fun z hz => (ok.ok z hz).2
    have pl : ∀ j, Plain (j + 2) (.list (os.map oD)) := fun j => plain_o j _ (by omega)
    have dt : ∀ {G : Hp} {p : Addr}, G p = some (.lst (os.map oV)) → Dt G (.ref p) (.list (os.map oD)) := fun h => .lst h (dts_o os)
    -- page, handed
    refine q_asg (v := .str (page (os.map oW))) (ev_spL (xs := (os.map oW).map V.str) ?_ fun p H2 hp e2 Q q => ⟨p, os.map oW, rfl, hp, wok, wne, q⟩) fun H1 e1 => ?_
    · rw [← words_of]
      refine el_lcL (f := fun _ => true) (v := _) (ev_var rfl) (sq_of ha) (by rw [List.length_map]; omega) (fun _ => rfl) (fun i x H2 _ _ => fun H3 e3 Q q => q H3 (Ex.refl H3)) (fun i x H2 e2 hx _ => ?_)
      rw [List.getElem?_map] at hx
      obtain ⟨o, ho, rfl⟩ := Option.map_eq_some_iff.mp hx
      rw [List.getD_eq_getElem?_getD, ho]
      show Ev _ _ _ (.str (oW o))
      cases o with
      | none => exact ev_if (b := true) (et_test (ev_op (ev_var rfl) ev_c rv_isN')) (fun _ => ev_c) fun h => nomatch h
      | some z => exact ev_if (b := false) (et_test (ev_op (ev_var rfl) ev_c rv_isN')) (fun h => nomatch h) fun _ => ev_var rfl
    refine q_asgL (xs := os.map oV) (el_list (ev_var rfl) (sq_of (e1 _ _ ha))) fun L H2 hL e2 h2 => ?_
    have wri : ∀ {G H' : Hp} {p : Addr} {Q : VK}, Ex G H' → G p = some (.lst (os.map oV)) → (∀ H2, Ex H' H2 → Q (.str (page (os.map oW))) H2) → spWS [.ref p] H' Q E0 := fun e h q => ⟨_, os, rfl, e _ _ h, wok, q⟩
    refine q_when (b := !true) (et_not (et_B (ev_same (ea_cons (ev_sp (ea_cons (ev_var rfl) ea_nil) fun H5 e5 Q q => wri e5 h2 q) (ea_cons (ev_spK (ea_cons (ev_var rfl) ea_nil) (rev1 _) fun H5 e5 Q q => wri e5 h2 q) (ea_cons (ev_var rfl) ea_nil)))
      (ea_cons (ev_var rfl) (ea_cons (ev_var rfl) (ea_cons (ev_var rfl) ea_nil))) (.cons (.str _) (.cons (.str _) (.cons (dt h2) .nil))) (.cons (.str _) (.cons (.str _) (.cons (dt (e2 _ _ (e1 _ _ ha))) .nil)))
      (plain_list (by show 3 ≤ 1000; decide) fun d hd => by
        rcases List.mem_cons.mp hd with rfl | hd
        · exact plain_str _ _
        · rcases List.mem_cons.mp hd with rfl | hd
          · exact plain_str _ _
          · rw [List.mem_singleton.mp hd]
            exact pl 2) (by show 3 ≤ 1000; decide)))) (fun h => nomatch h) fun _ H3 e3 => ?_
    refine q_clear (e3 _ _ h2) (ev_var rfl) fun H4' e4' => ?_
    have hL0 : H L = none := fresh_back e1 hL
    have x4 : Ex H (upd H4' L (.lst [])) := (((e1.trans e2).trans e3).trans e4').mut hL0
    generalize upd H4' L (.lst []) = H4 at x4
    -- found, again
    refine ⟨.str (page (os.map oW)), rfl, os, rfl, ok, fun H5 fo e5 hfo h5 => ⟨.str (page (os.map oW)), rfl, os, rfl, ok, fun H6 ag e6 hag h6 => ⟨_, _, rfl, ?_⟩⟩⟩
    have x6 := (x4.trans e5).trans e6
    refine q_when (b := !true) (et_not (et_B (ev_same (ea_cons (ev_var rfl) (ea_cons (ev_var rfl) ea_nil)) (ea_cons (ev_var rfl) (ea_cons (ev_var rfl) ea_nil)) (.cons (dt (e6 _ _ h5)) (.cons (dt h6) .nil)) (.cons (dt (x6 _ _ ha)) (.cons (dt (x6 _ _ ha)) .nil))
      (plain_list (by show 2 ≤ 1000; decide) fun d hd => by
        rcases List.mem_cons.mp hd with rfl | hd
        · exact pl 2
        · rw [List.mem_singleton.mp hd]
          exact pl 2) (by show 2 ≤ 1000; decide)))) (fun h => nomatch h) fun _ H7 e7 => ?_
    have x7 := x6.trans e7
    have fo0 : H fo = none := fresh_back x4 hfo
    have nag : ag ≠ fo := (ne_of_none h5 hag).symm
    refine q_app (v := .non) (e7 _ _ (e6 _ _ h5)) (ev_var rfl) ev_c (by rw [List.length_map]; omega) fun H9 e9 => ?_
    have x9 : Ex H (upd H9 fo (.lst (os.map oV ++ [.non]))) := (x7.trans e9).mut fo0
    have ag9 : upd H9 fo (.lst (os.map oV ++ [.non])) ag = some (.lst (os.map oV)) := by
      rw [upd_ne nag]
      exact e9 _ _ (e7 _ _ h6)
    generalize upd H9 fo (.lst (os.map oV ++ [.non])) = G at x9 ag9
    refine s_ret (v := .bl true) (ev_andV (a := true) (b := true) (ev_eqD (ev_var rfl) (ev_var rfl) (dt ag9) (dt (x9 _ _ ha)) sh (by decide)) fun _ => ev_andV (a := true) (b := true)
      (ev_eqD1 (el_sp (xs := os.map oV) (ea_cons (ev_var rfl) ea_nil) fun H5 e5 Q q => ⟨os, rfl, ok, fun H' p e' hp h' => q p H' hp e' h'⟩) (fun _ _ => ev_var rfl) (dts_o os) (dt (x9 _ _ ha)) sh (by decide))
      fun _ => ev_is (ev_op (ev_sp (ea_cons (ev_var rfl) ea_nil) fun H5 e5 Q q => wri e5 ag9 q) (ev_var rfl) (rv_eq rfl)) (congrArg V.bl (decide_eq_true rfl))) fun H10 e10 => q H10 (x9.trans e10)
end
end K91
namespace K91
open PySem PySem.Spec PyProof.Rows L2 Os Evl
abbrev sLaw : Stmt := topS 23
theorem scLaw : FnScope ["script", "k", "source", "turn", "size", "row"] ["script"] (defScope sLaw) := ⟨rfl, rfl, rfl, by decide +kernel, rfl, by decide +kernel, by decide +kernel⟩
theorem Drew.old {s : Addr} {B : Nat} {H0 H H' : Hp} (e : Ex H0 H) (ns : H0 s = none) (d : Drew s B H H') : Ex H0 H' := fun b o h =>
  d.get (ne_of_none h ns) (e b o h)
theorem obs_sub {zs : List Str} {os : List (Option Str)} (n1 : 1 ≤ zs.length) (l : zs.length ≤ 40) (ok : ∀ z ∈ zs, nameB z = true ∧ PyData.strOk z = true) (nd : zs.Nodup) (len : os.length = zs.length) (sub : (os.filterMap id).Sublist zs) : ObsOk os :=
  ⟨fun e => by rw [e] at len; simp at len; omega, by omega, fun z hz => ok z (sub.subset (List.mem_filterMap.mpr ⟨some z, hz, rfl⟩)), nd.sublist sub⟩
theorem obs_none {n : Nat} (n1 : 1 ≤ n) (l : n ≤ 40) : ObsOk (List.replicate n none) :=
  ⟨fun e => by have := congrArg List.length e; simp at this; omega, by rw [List.length_replicate]; exact l, (fun z hz => nomatch (List.eq_of_mem_replicate hz : some z = none)), by
    have : (List.replicate n (none : Option Str)).filterMap id = [] := List.filterMap_eq_nil_iff.mpr fun a ha => by rw [List.eq_of_mem_replicate ha]; rfl
    rw [this]
    exact .nil⟩
theorem rep_none : ∀ n : Nat, (List.replicate n [V.non]).flatten = (List.replicate n none).map oV
  | 0 => rfl
  | n + 1 => by
    rw [List.replicate_succ, List.replicate_succ, List.flatten_cons, rep_none n]
    rfl
section
variable {P : Program} {w : World} {K : PySem.W.Frag} {mg : Str → Option Value} {base : Heap}
def spLaw (K : PySem.W.Frag) : Sp := fun vs H Q _ => ∃ (a : Addr) (ns : List Int), vs = [.ref a] ∧ SqL K H a (ns.map V.int) ∧ ns.length ≤ 63 ∧ ∀ H', Q (.bl true) H'
theorem ok_law {f fS fP fN fA fB fH : Addr} {fd fdS fdP fdN fdA fdB fdH : FuncData} {k : Nat} (F : Fun K "law" "law" sLaw f fd)
    (GS : FnOk P w K mg base CX0 k fS fdS ["script", "k"] (spSource K)) (FS : Fun K "_law_source" "_law_source" sSource fS fdS) (bS : Binds K fdS ["script", "k"] []) (gS : mg "_law_source" = some (.ref fS))
    (GP : FnOk P w K mg base CX0 k fP fdP ["source", "count"] spPick) (FP : Fun K "_law_pick" "_law_pick" sPick fP fdP) (bP : Binds K fdP ["source", "count"] []) (gP : mg "_law_pick" = some (.ref fP))
    (GN : FnOk P w K mg base CX0 k fN fdN ["source", "size"] spNames) (FN : Fun K "_law_names" "_law_names" sNames fN fdN) (bN : Binds K fdN ["source", "size"] []) (gN : mg "_law_names" = some (.ref fN))
    (GA : FnOk P w K mg base CX0 k fA fdA ["row"] spIR) (FA : Fun K "_law_items_right" "_law_items_right" sIR fA fdA) (bA : Binds K fdA ["row"] []) (gA : mg "_law_items_right" = some (.ref fA))
    (GB : FnOk P w K mg base CX0 k fB fdB ["row"] spSR) (FB : Fun K "_law_seen_right" "_law_seen_right" sSR fB fdB) (bB : Binds K fdB ["row"] []) (gB : mg "_law_seen_right" = some (.ref fB))
    (GH : FnOk P w K mg base CX0 k fH fdH ["source", "row"] spHidden) (FH : Fun K "_law_hidden" "_law_hidden" sHidden fH fdH) (bH : Binds K fdH ["source", "row"] []) (gH : mg "_law_hidden" = some (.ref fH))
    (mRange : mg "range" = none) (mMax : mg "max" = none) (mMin : mg "min" = none) (mLen : mg "len" = none) : FnG P w K mg base (k + 1) f fd ["script"] (spLaw K) := by
  refine FnG.of (F.ok scLaw (fun vs H Q E h => ?_) (fun cdv A outer s0 H vs Q E hr h => ?_))
  · obtain ⟨a, ns, rfl, _⟩ := h
    rfl
  · obtain ⟨a, ns, rfl, hS, hlen, q⟩ := h
    refine ⟨_, (pss_cons (ps_for PassesOwn.never rfl (pi_range1 (by rfl) mRange (pa_cons (pe_callB (call_max2 rfl) (by rfl) mMax boot_max (pa_cons pe_int (pa_cons (pe_callB (call_min2 rfl) (by rfl) mMin boot_min (pa_cons pe_int (pa_cons (pe_callB call_len_seq (by rfl) mLen boot_len (pa_cons (pv 0) pa_nil)) pa_nil))) pa_nil))) pa_nil)) (pg_name (i := 1) scLaw.nd rfl (Or.inl rfl))
      (pss_cons (ps_set (i := 2) scLaw.nd rfl (.inl rfl) (pe_call GS hr (by rfl) gS FS.kp bS .nil pass0 (pa_cons (pv 0) (pa_cons (pv 1) pa_nil))))
      (pss_one (ps_for PassesOwn.never rfl (pi_range1 (by rfl) mRange (pa_cons pe_int pa_nil)) (pg_name (i := 3) scLaw.nd rfl (Or.inl rfl))
      (pss_cons (ps_set (i := 4) scLaw.nd rfl (.inl rfl) (pe_ix ix_list (pe_lst (pa_cons pe_int (pa_cons (pe_op op_add pe_int (pe_call GP hr (by rfl) gP FP.kp bP .nil pass0 (pa_cons (pv 2) (pa_cons pe_int pa_nil)))) (pa_cons (pe_op op_add pe_int (pe_call GP hr (by rfl) gP FP.kp bP .nil pass0 (pa_cons (pv 2) (pa_cons pe_int pa_nil)))) (pa_cons pe_int (pa_cons pe_int pa_nil)))))) (pv 3) (fun _ _ => rfl)))
      (pss_cons (ps_set (i := 5) scLaw.nd rfl (.inl rfl) (pe_call GN hr (by rfl) gN FN.kp bN .nil pass0 (pa_cons (pv 2) (pa_cons (pv 4) pa_nil))))
      (pss_cons (ps_if (PW.pt (pw_or (pt_not (pt_val (pe_call GA hr (by rfl) gA FA.kp bA .nil pass0 (pa_cons (pv 5) pa_nil)))) (pw_or1 (pt_not (pt_val (pe_call GB hr (by rfl) gB FB.kp bB .nil pass0 (pa_cons (pv 5) pa_nil))))))) pss_never pss_nil)
      (pss_one (ps_if (PW.pt (pw_or (pt_not (pt_val (pe_call GB hr (by rfl) gB FB.kp bB .nil pass0 (pa_cons (pe_call GH hr (by rfl) gH FH.kp bH .nil pass0 (pa_cons (pv 2) (pa_cons (pv 5) pa_nil))) pa_nil)))) (pw_or1 (pt_not (pt_val (pe_call GB hr (by rfl) gB FB.kp bB .nil pass0 (pa_cons (pe_op op_rep (pe_lst (pa_cons pe_non pa_nil)) (pv 4)) pa_nil))))))) pss_never pss_nil)))))))))
      (pss_one (ps_ret pe_bl))), ?_⟩
    have hlen' : (ns.map V.int).length = ns.length := List.length_map ..
    refine q_forR1 (n := if (if ((ns.map V.int).length : Int) < 4 then ((ns.map V.int).length : Int) else 4) > 1 then (if ((ns.map V.int).length : Int) < 4 then ((ns.map V.int).length : Int) else 4) else 1)
      (ea_cons (ev_max ev_c (ev_min ev_c (ev_len (ev_var rfl) hS))) ea_nil) ⟨by split <;> (try split) <;> omega, by split <;> (try split) <;> omega⟩
      (fun i σ' H' => Ex H H' ∧ i ≤ 4 ∧ ∃ y1 y2 y3 y4 y5, σ' = [some (.ref a), y1, y2, y3, y4, y5]) (fun H1 e1 => ⟨e1, by omega, _, _, _, _, _, rfl⟩) ?_ ?_
    · rintro i σ' H1 hi ⟨e1, hi4, y1, y2, y3, y4, y5, rfl⟩
      have hi5 : i < 4 := by
        split at hi <;> (try split at hi) <;> omega
      -- source = _law_source(script, k)
      refine ⟨.ref a, rfl, .int (i : Int), rfl, a, ns, i, rfl, ex_l e1 hS, by omega, fun H2 s e2 ns1 src => ?_⟩
      refine s_forR1 (n := 5) (ea_cons ev_c ea_nil) ⟨by decide, by decide⟩
        (fun j σ' H' => Drew s (200 * j) H2 H' ∧ j ≤ 5 ∧ ∃ y3 y4 y5, σ' = [some (.ref a), some (.int (i : Int)), some (.ref s), y3, y4, y5])
        (fun H3 e3 => ⟨((Drew.refl src).ex e3).mono (by omega), by omega, _, _, _, rfl⟩) ?_ ?_
      · rintro j σ' H3 hj ⟨d3, hj4, z3, z4, z5, rfl⟩
        have hj5 : j < 5 := by omega
        -- size
        refine ⟨.ref s, rfl, s, 5, 200 * j, rfl, d3.src, by omega, by decide, by decide, fun H4 r1 d4 r10 r11 => ⟨1, r1, rfl, rfl, .ref s, rfl, s, 40, 200 * j + 1, rfl, d4.src, by omega, by decide, by decide, fun H5 r2 d5 r20 r21 =>
          ⟨1, r2, rfl, rfl, (show 5 ≤ sizeLine by decide), fun p6 hp6 => ?_⟩⟩⟩
        obtain ⟨n, hn, n1, n40⟩ : ∃ n : Nat, ([.int 1, .int (1 + r1), .int (1 + r2), .int 40, .int 27] : List V)[j]? = some (.int (n : Int)) ∧ 1 ≤ n ∧ n ≤ 40 := by
          match j, hj5 with
          | 0, _ => exact ⟨1, rfl, by omega, by omega⟩
          | 1, _ => exact ⟨(1 + r1).toNat, congrArg (fun z => some (V.int z)) (by omega), by omega, by omega⟩
          | 2, _ => exact ⟨(1 + r2).toNat, congrArg (fun z => some (V.int z)) (by omega), by omega, by omega⟩
          | 3, _ => exact ⟨40, rfl, by omega, by omega⟩
          | 4, _ => exact ⟨27, rfl, by omega, by omega⟩
        refine ⟨.int (j : Int), rfl, p6, _, (j : Int), .int (n : Int), rfl, rfl, sq_of upd_same, atI_nat hn, ?_⟩
        have D7 : Drew s (200 * j + 2) H2 (upd H5 p6 (.lst [.int 1, .int (1 + r1), .int (1 + r2), .int 40, .int 27])) := ((d3.trans d4).trans d5).ex (Ex.new hp6)
        show tSeq _ _ _ _ (upd H5 p6 (.lst [.int 1, .int (1 + r1), .int (1 + r2), .int 40, .int 27]))
        generalize upd H5 p6 (.lst [.int 1, .int (1 + r1), .int (1 + r2), .int 40, .int 27]) = H7 at D7
        -- row
        refine ⟨.ref s, rfl, .int (n : Int), rfl, s, n, 200 * j + 2, rfl, D7.src, n40, by omega, fun H8 pr zs d8 hpr hzs len names nd => ?_⟩
        have npr : pr ≠ s := new_apart D7.src.at hpr
        subst len
        have D8 := D7.trans d8
        have zne : zs ≠ [] := fun e => by rw [e] at n1; simp at n1
        have okr := obs_row zne n40 names nd
        refine ⟨.ref pr, rfl, pr, zs, rfl, hzs, okr, fun H9 e9 => ⟨true, rfl, iteF ?_⟩⟩
        have hzs9 := e9 _ _ hzs
        refine ⟨.ref pr, rfl, pr, zs.map some, rfl, by rw [some_V]; exact hzs9, okr, fun H10 e10 => ⟨true, rfl, iteF ?_⟩⟩
        have hzs10 := e10 _ _ hzs9
        have D10 := (D8.ex e9).ex e10
        refine ⟨.ref s, rfl, .ref pr, rfl, s, pr, zs, _, rfl, D10.src, hzs10, npr, n40, by omega, fun H11 po os d11 hpo hos leno sub => ⟨po, os, rfl, hos, obs_sub n1 n40 names nd leno sub, fun H12 e12 => ⟨true, rfl, iteF ?_⟩⟩⟩
        have D12 := (D10.trans d11).ex e12
        refine ⟨show 1 ≤ sizeLine by decide, fun l hl => ⟨.int (zs.length : Int), rfl, l, (zs.length : Int), [.non], rfl, rfl, upd_same, by omega, by omega, sz_of (by rw [Int.toNat_natCast]; simp; omega), fun p hp => ⟨p, List.replicate zs.length none, rfl, by rw [upd_same, Int.toNat_natCast, rep_none], obs_none n1 n40, fun H15 e15 => ⟨true, rfl, iteF ?_⟩⟩⟩⟩
        exact ⟨(((D12.ex (Ex.new hl)).ex (Ex.new hp)).ex e15).mono (by omega), by omega, _, _, _, rfl⟩
      · rintro σ' H3 ⟨d3, _, z3, z4, z5, rfl⟩
        exact ⟨Drew.old (e1.trans e2) (fresh_back e1 ns1) d3, by omega, _, _, _, _, _, rfl⟩
    · rintro σ' H1 ⟨e1, _, y1, y2, y3, y4, y5, rfl⟩
      exact s_ret (v := .bl true) ev_c fun H2 e2 => q H2
end
end K91
namespace K91
open PySem PySem.Spec PyProof.Rows L2 Os Evl
section
variable {l : PySem.W.OpenLaw} {w : World} {K : PySem.W.Frag} {h : Heap} {mg : Str → Option Value} {fa : Addr}
/-- a def that stands at the top -/
def Def (K : PySem.W.Frag) (x : Str) (st : Stmt) (f : Addr) : Prop :=
  PySem.W.nsIn K mainGlobals x = some (some (.ref f)) ∧ (∃ (oc kV dc pm cd ct : Value) (od an : Option Addr) (sl : Array (Option Value)), K.lookup f = some ⟨oc, od, .func (PySem.W.fnOf x x (defArgs st) (defBody st) (defScope st) .none kV dc pm an cd ct), sl⟩ ∧ PySem.W.codeIn K cd x = true) ∧ PySem.W.keepIn K (.ref f) = true
theorem Def.of {x : Str} {st : Stmt} {f : Addr} {oc kV dc pm cd ct : Value} {od an : Option Addr} {sl : Array (Option Value)} (a : PySem.W.nsIn K mainGlobals x = some (some (.ref f)))
    (lk : K.lookup f = some ⟨oc, od, .func (PySem.W.fnOf x x (defArgs st) (defBody st) (defScope st) .none kV dc pm an cd ct), sl⟩) (c : PySem.W.codeIn K cd x = true) (kp : PySem.W.keepIn K (.ref f) = true) : Def K x st f :=
  ⟨a, ⟨oc, kV, dc, pm, cd, ct, od, an, sl, lk, c⟩, kp⟩
theorem Def.fun_ {x : Str} {st : Stmt} {f : Addr} (d : Def K x st f) : ∃ fd, Fun K x x st f fd := by
  obtain ⟨_, ⟨oc, kV, dc, pm, cd, ct, od, an, sl, lk, c⟩, k⟩ := d
  exact ⟨_, fun_mk lk c k⟩
theorem all_mk (X : K.In h) (G : h.Ns mainGlobals mg) (hfa : mg "law" = some (.ref fa))
    {fItem fWI fRI fWS fRS fSource fPick fShuf fNames fSame fJoined fHidden fIR fSR fLaw : Addr} {t8 t40 tU : Tok} (n8 : PySem.W.nsIn K mainGlobals "MOST_LETTERS" = some (some (.int 8 t8))) (n40 : PySem.W.nsIn K mainGlobals "MOST_POSITIONS" = some (some (.int 40 t40))) (nU : PySem.W.nsIn K mainGlobals "UNSEEN" = some (some (.str "?" tU)))
    (dItem : Def K "is_item" sItem fItem)
    (dWI : Def K "write_items" sWI fWI)
    (dRI : Def K "read_items" sRI fRI)
    (dWS : Def K "write_seen" sWS fWS)
    (dRS : Def K "read_seen" sRS fRS)
    (dSource : Def K "_law_source" sSource fSource)
    (dPick : Def K "_law_pick" sPick fPick)
    (dShuf : Def K "_law_shuffled" sShuf fShuf)
    (dNames : Def K "_law_names" sNames fNames)
    (dSame : Def K "_law_same" sSame fSame)
    (dJoined : Def K "_law_joined" sJoined fJoined)
    (dHidden : Def K "_law_hidden" sHidden fHidden)
    (dIR : Def K "_law_items_right" sIR fIR)
    (dSR : Def K "_law_seen_right" sSR fSR)
    (aLaw : PySem.W.nsIn K mainGlobals "law" = some (some (.ref fLaw))) {oc kV dc pm cd ct : Value} {od an : Option Addr} {sl : Array (Option Value)} (lLaw : K.lookup fLaw = some ⟨oc, od, .func (PySem.W.fnOf "law" "law" (defArgs sLaw) (defBody sLaw) (defScope sLaw) .none kV dc pm an cd ct), sl⟩) (cLaw : PySem.W.codeIn K cd "law" = true) (kLaw : PySem.W.keepIn K (.ref fLaw) = true)
    (z_isinstance : PySem.W.nsIn K mainGlobals "isinstance" = some none) (z_str : PySem.W.nsIn K mainGlobals "str" = some none) (z_len : PySem.W.nsIn K mainGlobals "len" = some none) (z_all : PySem.W.nsIn K mainGlobals "all" = some none) (z_max : PySem.W.nsIn K mainGlobals "max" = some none) (z_abs : PySem.W.nsIn K mainGlobals "abs" = some none) (z_list : PySem.W.nsIn K mainGlobals "list" = some none) (z_range : PySem.W.nsIn K mainGlobals "range" = some none) (z_tuple : PySem.W.nsIn K mainGlobals "tuple" = some none) (z_bool : PySem.W.nsIn K mainGlobals "bool" = some none) (z_zip : PySem.W.nsIn K mainGlobals "zip" = some none) (z_enumerate : PySem.W.nsIn K mainGlobals "enumerate" = some none) (z_min : PySem.W.nsIn K mainGlobals "min" = some none) :
    ∃ fd : FuncData, (∀ (s : Shared) (v : Value), BindsTo s fd ⟨[v], []⟩ [("script", v)]) ∧ ∀ base : Heap, K.In base → base.Ns mainGlobals mg → FnG l.prog w K mg base 7 fa fd ["script"] (spLaw K) := by
  have e := hfa.symm.trans (PySem.W.mg_of X G aLaw)
  cases e
  have none' : ∀ {x : Str}, PySem.W.nsIn K mainGlobals x = some none → mg x = none := fun z => PySem.W.mg_none_of X G z
  have ref' : ∀ {x : Str} {f : Addr}, PySem.W.nsIn K mainGlobals x = some (some (.ref f)) → mg x = some (.ref f) := fun z => PySem.W.mg_of X G z
  obtain ⟨fdItem, FItem⟩ := dItem.fun_
  obtain ⟨fdWI, FWI⟩ := dWI.fun_
  obtain ⟨fdRI, FRI⟩ := dRI.fun_
  obtain ⟨fdWS, FWS⟩ := dWS.fun_
  obtain ⟨fdRS, FRS⟩ := dRS.fun_
  obtain ⟨fdSource, FSource⟩ := dSource.fun_
  obtain ⟨fdPick, FPick⟩ := dPick.fun_
  obtain ⟨fdShuf, FShuf⟩ := dShuf.fun_
  obtain ⟨fdNames, FNames⟩ := dNames.fun_
  obtain ⟨fdSame, FSame⟩ := dSame.fun_
  obtain ⟨fdJoined, FJoined⟩ := dJoined.fun_
  obtain ⟨fdHidden, FHidden⟩ := dHidden.fun_
  obtain ⟨fdIR, FIR⟩ := dIR.fun_
  obtain ⟨fdSR, FSR⟩ := dSR.fun_
  have FLaw := fun_mk (st := sLaw) lLaw cLaw kLaw
  have bItem := FItem.binds (ps := ["thing"]) fun _ _ _ _ _ _ us hl => match us, hl with | [_], _ => rfl
  have bWI := FWI.binds (ps := ["items"]) fun _ _ _ _ _ _ us hl => match us, hl with | [_], _ => rfl
  have kWI := funRevK FWI (ps := ["items"]) (ks := ["items"]) (by decide) fun _ _ _ _ _ _ us hl => match us, hl with | [_], _ => rfl
  have bRI := FRI.binds (ps := ["text"]) fun _ _ _ _ _ _ us hl => match us, hl with | [_], _ => rfl
  have kRI := funRevK FRI (ps := ["text"]) (ks := ["text"]) (by decide) fun _ _ _ _ _ _ us hl => match us, hl with | [_], _ => rfl
  have bWS := FWS.binds (ps := ["seen"]) fun _ _ _ _ _ _ us hl => match us, hl with | [_], _ => rfl
  have kWS := funRevK FWS (ps := ["seen"]) (ks := ["seen"]) (by decide) fun _ _ _ _ _ _ us hl => match us, hl with | [_], _ => rfl
  have bRS := FRS.binds (ps := ["text"]) fun _ _ _ _ _ _ us hl => match us, hl with | [_], _ => rfl
  have kRS := funRevK FRS (ps := ["text"]) (ks := ["text"]) (by decide) fun _ _ _ _ _ _ us hl => match us, hl with | [_], _ => rfl
  have bSource := FSource.binds (ps := ["script", "k"]) fun _ _ _ _ _ _ us hl => match us, hl with | [_, _], _ => rfl
  have bPick := FPick.binds (ps := ["source", "count"]) fun _ _ _ _ _ _ us hl => match us, hl with | [_, _], _ => rfl
  have bShuf := FShuf.binds (ps := ["source", "row"]) fun _ _ _ _ _ _ us hl => match us, hl with | [_, _], _ => rfl
  have bNames := FNames.binds (ps := ["source", "size"]) fun _ _ _ _ _ _ us hl => match us, hl with | [_, _], _ => rfl
  have bSame := FSame.binds (ps := ["found", "due"]) fun _ _ _ _ _ _ us hl => match us, hl with | [_, _], _ => rfl
  have bJoined := FJoined.binds (ps := ["words"]) fun _ _ _ _ _ _ us hl => match us, hl with | [_], _ => rfl
  have bHidden := FHidden.binds (ps := ["source", "row"]) fun _ _ _ _ _ _ us hl => match us, hl with | [_, _], _ => rfl
  have bIR := FIR.binds (ps := ["row"]) fun _ _ _ _ _ _ us hl => match us, hl with | [_], _ => rfl
  have bSR := FSR.binds (ps := ["row"]) fun _ _ _ _ _ _ us hl => match us, hl with | [_], _ => rfl
  refine ⟨PySem.W.fnOf "law" "law" (defArgs sLaw) (defBody sLaw) (defScope sLaw) .none kV dc pm an cd ct, fun s v => .of_eq rfl, fun base _ _ => ?_⟩
  have GItem : FnOk l.prog w K mg base CX0 1 fItem fdItem ["thing"] spItem := ok_item FItem (none' z_isinstance) (none' z_str) (none' z_len) (none' z_all) (PySem.W.mg_of X G n8)
  have GWI : FnOk l.prog w K mg base CX0 1 fWI fdWI ["items"] spWI := ok_wi FWI
  have GRI : FnOk l.prog w K mg base CX0 2 fRI fdRI ["text"] spRI := ok_ri FRI (GItem.mono (by decide)) FItem bItem (ref' dItem.1) (none' z_enumerate) (PySem.W.mg_of X G n40)
  have GWS : FnOk l.prog w K mg base CX0 1 fWS fdWS ["seen"] spWS := ok_ws FWS (PySem.W.mg_of X G nU)
  have GRS : FnOk l.prog w K mg base CX0 2 fRS fdRS ["text"] spRS := ok_rs FRS (GItem.mono (by decide)) FItem bItem (ref' dItem.1) (none' z_enumerate) (PySem.W.mg_of X G n40) (PySem.W.mg_of X G nU)
  have GSource : FnOk l.prog w K mg base CX0 1 fSource fdSource ["script", "k"] (spSource K) := ok_source FSource (none' z_len) (none' z_max) (none' z_abs)
  have GPick : FnOk l.prog w K mg base CX0 1 fPick fdPick ["source", "count"] spPick := ok_pick FPick
  have GShuf : FnOk l.prog w K mg base CX0 2 fShuf fdShuf ["source", "row"] spShuf := ok_shuf FShuf (GPick.mono (by decide)) FPick bPick (ref' dPick.1) (none' z_list) (none' z_len) (none' z_range)
  have GNames : FnOk l.prog w K mg base CX0 3 fNames fdNames ["source", "size"] spNames := ok_names FNames (GPick.mono (by decide)) FPick bPick (ref' dPick.1) (GShuf.mono (by decide)) FShuf bShuf (ref' dShuf.1) (none' z_range)
  have GSame : FnOk l.prog w K mg base CX0 5 fSame fdSame ["found", "due"] (spSame 5) := ok_same FSame bSame (ref' dSame.1) (none' z_isinstance) (none' z_list) (none' z_tuple) (none' z_bool) (none' z_str) (none' z_len) (none' z_all) (none' z_zip) 5
  have GJoined : FnOk l.prog w K mg base CX0 1 fJoined fdJoined ["words"] spJoined := ok_joined FJoined
  have GHidden : FnOk l.prog w K mg base CX0 2 fHidden fdHidden ["source", "row"] spHidden := ok_hidden FHidden (GPick.mono (by decide)) FPick bPick (ref' dPick.1)
  have GIR : FnOk l.prog w K mg base CX0 6 fIR fdIR ["row"] spIR := ok_ir FIR (GJoined.mono (by decide)) FJoined bJoined (ref' dJoined.1) (GSame.mono (by decide)) FSame bSame (ref' dSame.1) (GWI.mono (by decide)) FWI bWI kWI (ref' dWI.1) (GRI.mono (by decide)) FRI bRI kRI (ref' dRI.1) (none' z_list)
  have GSR : FnOk l.prog w K mg base CX0 6 fSR fdSR ["row"] spSR := ok_sr FSR (GJoined.mono (by decide)) FJoined bJoined (ref' dJoined.1) (GSame.mono (by decide)) FSame bSame (ref' dSame.1) (GWS.mono (by decide)) FWS bWS kWS (ref' dWS.1) (GRS.mono (by decide)) FRS bRS kRS (ref' dRS.1) (none' z_list)
  exact ok_law FLaw (GSource.mono (by decide)) FSource bSource (ref' dSource.1) (GPick.mono (by decide)) FPick bPick (ref' dPick.1) (GNames.mono (by decide)) FNames bNames (ref' dNames.1) (GIR.mono (by decide)) FIR bIR (ref' dIR.1) (GSR.mono (by decide)) FSR bSR (ref' dSR.1) (GHidden.mono (by decide)) FHidden bHidden (ref' dHidden.1) (none' z_range) (none' z_max) (none' z_min) (none' z_len)
end
end K91
open PySem PySem.W PyProof.Rows
set_option maxHeartbeats 0 in
theorem PySem.Challenge.cw_onceswapped_k91_items_and_observations_w_holds : PySem.Challenge.rw_onceswapped_k91_items_and_observations_w.Holds := by
  w_on; o_law; k_head; (case hw => w_witness2)
  k_fill
  refine Os.walk_ofG (l := PySem.Challenge.rw_onceswapped_k91_items_and_observations_w) (n := 63) (k := 7) (x := "script") (sp := fun w => K91.spLaw _) rfl (by decide) rfl ⟨rfl, by decide, by decide⟩ (fun w h Y => PySem.W.kIn_of Y) ?F (fun _ _ a ns hl _ hS => ⟨a, ns, rfl, hS, hl, fun _ => rfl⟩)
  case F =>
    intro w mg fa h KX G hmg
    refine' K91.all_mk KX G hmg ?n8 ?n40 ?nU ?dItem ?dWI ?dRI ?dWS ?dRS ?dSource ?dPick ?dShuf ?dNames ?dSame ?dJoined ?dHidden ?dIR ?dSR ?a13 ?l13 ?c13 ?k13 ?zisinstance ?zstr ?zlen ?zall ?zmax ?zabs ?zlist ?zrange ?ztuple ?zbool ?zzip ?zenumerate ?zmin
    (case n8 => k_is)
    (case n40 => k_is)
    (case nU => k_is)
    (case dItem => refine' K91.Def.of ?a ?l ?c ?k; (case a => k_is); (case l => k_is); (case c => k_is); (case k => k_is))
    (case dWI => refine' K91.Def.of ?a ?l ?c ?k; (case a => k_is); (case l => k_is); (case c => k_is); (case k => k_is))
    (case dRI => refine' K91.Def.of ?a ?l ?c ?k; (case a => k_is); (case l => k_is); (case c => k_is); (case k => k_is))
    (case dWS => refine' K91.Def.of ?a ?l ?c ?k; (case a => k_is); (case l => k_is); (case c => k_is); (case k => k_is))
    (case dRS => refine' K91.Def.of ?a ?l ?c ?k; (case a => k_is); (case l => k_is); (case c => k_is); (case k => k_is))
    (case dSource => refine' K91.Def.of ?a ?l ?c ?k; (case a => k_is); (case l => k_is); (case c => k_is); (case k => k_is))
    (case dPick => refine' K91.Def.of ?a ?l ?c ?k; (case a => k_is); (case l => k_is); (case c => k_is); (case k => k_is))
    (case dShuf => refine' K91.Def.of ?a ?l ?c ?k; (case a => k_is); (case l => k_is); (case c => k_is); (case k => k_is))
    (case dNames => refine' K91.Def.of ?a ?l ?c ?k; (case a => k_is); (case l => k_is); (case c => k_is); (case k => k_is))
    (case dSame => refine' K91.Def.of ?a ?l ?c ?k; (case a => k_is); (case l => k_is); (case c => k_is); (case k => k_is))
    (case dJoined => refine' K91.Def.of ?a ?l ?c ?k; (case a => k_is); (case l => k_is); (case c => k_is); (case k => k_is))
    (case dHidden => refine' K91.Def.of ?a ?l ?c ?k; (case a => k_is); (case l => k_is); (case c => k_is); (case k => k_is))
    (case dIR => refine' K91.Def.of ?a ?l ?c ?k; (case a => k_is); (case l => k_is); (case c => k_is); (case k => k_is))
    (case dSR => refine' K91.Def.of ?a ?l ?c ?k; (case a => k_is); (case l => k_is); (case c => k_is); (case k => k_is))
    (case a13 => k_is); (case l13 => k_is); (case c13 => k_is); (case k13 => k_is)
    (case zisinstance => k_is); (case zstr => k_is); (case zlen => k_is); (case zall => k_is); (case zmax => k_is); (case zabs => k_is); (case zlist => k_is); (case zrange => k_is); (case ztuple => k_is); (case zbool => k_is); (case zzip => k_is); (case zenumerate => k_is); (case zmin => k_is)
