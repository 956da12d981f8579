import PyProof.Rows.All
import Wide.All
import OpenK.AllK
import Wide.FinOn
import HandS.ForMost
import HandS.Wide
import HandS.IsInst
import HandS.Strs
import PyProof.ReprRoads
import PyProof.StrBlock2
import HandS.Evl
import HandS.Walk
import HandS.Conv
import HandS.Style
import HandS.TupSets
import PyProof.P3Eq
import PyProof.StrLawsRepr
import PyProof.Rows.StrCase
import PyProof.Rows.TmSorted
import HandS.Zip
import HandS.Deep
import PySem.Challenge.RW_onceswapped_k03_neighbours_and_degrees
set_option Elab.async false
set_option linter.all false
set_option maxRecDepth 100000
set_option maxHeartbeats 8000000
/-! guarded defs: a def's promise where no repr is under way (what repr of a list asks) -/
namespace Os
open PySem PySem.Spec PyProof.Rows L2

section
variable (P : Program) (w : World) (K : PySem.W.Frag) (mg : Str → Option Value) (base : Heap)
/-- the def at f keeps sp at every call that is made while no repr runs -/
structure FnG (k : Nat) (f : Addr) (fd : FuncData) (ps : List Str) (sp : Sp) : Prop where
  arity : ∀ vs H Q E, sp vs H Q E → vs.length = ps.length
  runs : ∀ (B : Around) (out : List Env) (st : Shared) (H : Hp) (ar : Args) (us : List Value) (vs : List V) (Q : VK) (E : XK),
    B.guards = some [] → Room k B → Env0 P w K mg base B out st H →
    BindsTo st fd ar (ps.zip us) → Vals vs us → sp vs H Q E →
    codeAny (model P w) B (.call (.ref f) ar) (CR CX0 out P w H st Q E) st
end

section
variable {P : Program} {w : World} {K : PySem.W.Frag} {mg : Str → Option Value} {base : Heap}

theorem FnG.of {k : Nat} {f : Addr} {fd : FuncData} {ps : List Str} {sp : Sp}
    (F : FnOk P w K mg base CX0 k f fd ps sp) : FnG P w K mg base k f fd ps sp :=
  ⟨F.len, fun B out st H ar us vs Q E _ => F.run B out st H ar us vs Q E⟩

theorem FnG.mono {j k : Nat} {f : Addr} {fd : FuncData} {ps : List Str} {sp : Sp} (F : FnG P w K mg base j f fd ps sp) (h : j ≤ k) : FnG P w K mg base k f fd ps sp :=
  ⟨F.arity, fun B out st H ar us vs Q E gd hr => F.runs B out st H ar us vs Q E gd (hr.mono h)⟩
/-- the rule for a def, the guards told to its body -/
theorem okG {x qual : Str} {st : Stmt} {f : Addr} {fd : FuncData} {N ps : List Str} {k : Nat} {sp : Sp}
    (F : Fun K x qual st f fd) (S : FnScope N ps (defScope st))
    (ar : ∀ vs H Q E, sp vs H Q E → vs.length = ps.length)
    (body : ∀ (cdv : Value) (B : Around) (out : List Env) (s : Shared) (H : Hp) (vs : List V) (Q : VK) (E : XK),
      B.guards = some [] → Room k (B.deeper (envOfC qual (defScope st) s.heap.objs.size f cdv)) → sp vs H Q E →
      ∃ t, PSs (cxOf CX0 P w K mg base N qual (defScope st) f cdv B out s H E).nox (defBody st) t ∧
        t { nx := fun _ H' => Q .non H', rt := Q } (start N vs) H) :
    FnG P w K mg base (k + 1) f fd ps sp := by
  obtain ⟨oc, od, kV, doc, pm, an, cd, ct, sl, efd, look, code⟩ := F.ex
  subst efd
  refine ⟨ar, ?_⟩
  intro B out s H args us vs Q E gd hr e0 hb rel hsp
  have hlen := ar _ _ _ _ hsp
  have inK : K.In s.heap := e0.mod.kin.keeps fun b o q => (e0.bs b o q).1
  have lim : s.heap.NoLimit :=
    e0.mod.nolimit.keeps fun b o q => (e0.bs b o q).1
  have kinds : ∀ y ∈ ps.zip us, (defScope st).names.lookup y.1 = some .local ∨
      ((defScope st).names.lookup y.1 = some .cell ∧ ((cellsFrom (s.heap.objs.size + 1) (defScope st).names []).lookup y.1).isSome = true) := by
    rintro ⟨n, v⟩ hy
    cases S.par n (List.of_mem_zip hy).1 with
    | inl q => exact .inl q
    | inr q => exact .inr ⟨q, PySem.W.cellsFrom_some _ _ _ (.inl q)⟩
  refine codeAny_call_function hr.depth (inK _ _ look) rfl S.co S.gen rfl (PySem.W.codeRec_of inK code) (hb _ _ _ _ ?_)
  refine wpAny_newFunctionEnv_cells S.kind kinds fun env ee s1 x => ?_
  cases ee
  refine ⟨lim.keeps x.toInCall.keep, codeAny_func ?_⟩
  obtain ⟨t, ht, hq⟩ := body cd B out s H vs Q E gd (hr.deeper _) hsp
  have I := inv_start (CX := CX0) (E := E) S hr.hd e0 hlen rel x
  refine wpAny_mono (ht.nox.run [] s1 (start N vs) H _ I hq) (fun fl s' hs => ?_) (fun _ _ z => z)
  cases fl with
  | ret u =>
    obtain ⟨v, sg, H', J, rv, q⟩ := hs
    exact ⟨v, H', J.os, J.bare, J.base, J.hok, rv, q⟩
  | next =>
    obtain ⟨sg, H', J, q⟩ := hs
    exact ⟨V.non, H', J.os, J.bare, J.base, J.hok, rfl, q⟩
  | brk => exact (hs.elim fun _ z => z.elim fun _ z => z.2).elim
  | cont => exact (hs.elim fun _ z => z.elim fun _ z => z.2).elim
end

section
variable {X : Cx} {k : Nat} {f : Addr} {fd : FuncData} {ps : List Str} {sp : Sp} {x : Str} {p pos : Pos} {e : Expr} {es : List Expr} {t : TA}
/-- a call of such a def -/
theorem pe_callG (F : FnG X.prog X.w X.K X.mg X.base k f fd ps sp) (gd : X.A.guards = some []) (hr : Room k X.A) (hg : Gl X x)
    (hm : X.mg x = some (.ref f)) (hk : PySem.W.keepIn X.K (.ref f) = true) (hb : Binds X.K fd ps [])
    (ha : PA X (e :: es) t) (hdb : (x == ("__debug__" : Str)) = false := by decide)
    (he : starEach (e :: es) X.env = (false, eval e X.env) :: starEach es X.env := by rfl)
    (hpl : (backTo pos (starEach es X.env)).any (·.1) = false := by rfl) :
    PE X (.Call (.Name x p) (e :: es) [] pos) (tCall sp [] E0 t) := by
  constructor
  intro pins s sg H Q I h
  refine wpAny_Call_Name_kw (ld_glob I hg hm ?_ hdb)
  refine PySem.W.callWith_K (h₀ := X.base) I.ok.mod.kin hk (thn (ha.run pos pins s sg H _ I h) ?_) he hpl
  rintro us s1 ⟨vs, H1, I1, r, q⟩
  refine ⟨I1.kIn, ?_⟩
  have r2 : Vals (vs ++ []) (us ++ []) := r.append .nil
  have hl : (us ++ []).length = ps.length := by
    rw [← r2.length]
    exact F.arity _ _ _ _ q
  refine wpAny_call (codeAny_mono (F.runs X.A X.stack s1 H1 ⟨us, []⟩ (us ++ []) (vs ++ []) Q E0 gd hr I1.env0 (hb s1 us I1.kIn hl) r2 q) ?_)
  intro rr s' hq
  match rr, hq with
  | .ok (.ret u), hq => exact I1.after hq
  | .ok .next, hq => exact hq.elim
  | .ok .brk, hq => exact hq.elim
  | .ok .cont, hq => exact hq.elim
  | .error _, hq => exact hq.elim
end

section
variable {P : Program} {w : World} {K : PySem.W.Frag} {mg mb : Str → Option Value} {k : Nat} {fa a : Addr} {fd : FuncData} {x : Str} {sp : Sp} {s1 : Shared} {vs : List Value} {ns : List Int}
/-- the heap that tracks at most the script -/
structure Bare (K : PySem.W.Frag) (a : Addr) (o : Obj) (h : Heap) (H : Hp) : Prop where
  only : Only H
  at' : ∀ b, H b ≠ none → b = a
  out : H a ≠ none → K.lookup a = none
theorem Bare.stay {o : Obj} {h : Heap} {H : Hp} (B : Bare K a o h H) (ho : h.get? a = some o) {b : Addr} {q : Obj} (e : h.get? b = some q) (no : b = a → q ≠ o) : H b = none :=
  Decidable.byContradiction fun z => by
    have eb := B.at' b z
    rw [eb, ho] at e
    exact no eb (Option.some.inj e).symm
theorem law_run (KX : K.In s1.heap) (hns : s1.heap.Ns mainGlobals mg) (hb : s1.heap.Ns builtinsNs mb)
    (hbb : ∀ x : Str, x ≠ "__name__" → mb x = bootBuiltins x) (hlim : s1.heap.NoLimit) (hg : s1.gens = #[])
    (ha : s1.heap.get? a = some { cls := .type "list", data := .seq vs.toArray }) {H : Hp} (B : Bare K a { cls := .type "list", data := .seq vs.toArray } s1.heap H)
    (ok : HOk P w H s1.heap) (hr : Room k callerA)
    (F : ∀ base : Heap, K.In base → base.Ns mainGlobals mg → FnG P w K mg base k fa fd [x] sp)
    (hbind : ∀ (s : Shared) (u : Value), BindsTo s fd ⟨[u], []⟩ [(x, u)])
    (hsp : sp [.ref a] H (fun v _ => v = .bl true) fun _ _ _ => False) :
    codeAny (model P w) callerA (.call (.ref fa) ⟨[.ref a], []⟩)
      (fun r s' => r = .ok (.ret (.bool true)) ∧ OldK s1.heap s'.heap ∧ s'.os = s1.os ∧ AllBare s'.gens) s1 := by
  have dictStays : ∀ {b : Addr} {m : Str → Option Value}, s1.heap.Ns b m → (hidT s1.heap H).Ns b m := by
    rintro b m ⟨o, es, ep, e, d, r⟩
    refine ⟨o, es, ep, hidT_get e (B.stay ha e fun _ z => ?_), d, r⟩
    subst z
    exact nomatch (show Data.seq vs.toArray _ = Data.dict es ep from d)
  have keptK : K.In (hidT s1.heap H) := fun b o e => hidT_get (KX b o e) <| Decidable.byContradiction fun z => by
    have eb := B.at' b z
    subst eb
    have := B.out z
    rw [e] at this
    cases this
  have M : Mod K mg (hidT s1.heap H) := by
    obtain ⟨mc, h1, h2⟩ := hlim
    exact ⟨keptK, dictStays hns, ⟨mb, dictStays hb, hbb⟩, ⟨mc, dictStays h1, h2⟩⟩
  have e0 : Env0 P w K mg (hidT s1.heap H) callerA [] s1 H := {
    frames := rfl, mod := M, bs := fun b o e => of_hidT e, bsz := Nat.le_of_eq (hidT_size _ _), funs := trivial,
    frf := fun b z => absurd (show b ∈ ([] : List Addr) from z) (by simp), hok := ok, bare := .of_eq hg }
  refine codeAny_mono ((F _ keptK (dictStays hns)).runs callerA [] s1 H ⟨[.ref a], []⟩ [.ref a] [.ref a] _ _ rfl hr e0 (hbind s1 (.ref a)) (.cons rfl .nil) hsp) ?_
  intro r s' hq
  match r, hq with
  | .error _, hq => exact hq.elim
  | .ok .next, hq => exact hq.elim
  | .ok .brk, hq => exact hq.elim
  | .ok .cont, hq => exact hq.elim
  | .ok (.ret u), ⟨v, H', os, bare, un, ok', r', q⟩ =>
    have q1 : v = .bl true := q
    subst q1
    have ru : u = Value.bool true := r'
    subst ru
    refine ⟨rfl, OldK.of_keep fun b o e => ?_, os, bare⟩
    rcases B.only b with z | ⟨ob, xs, z⟩
    · exact un.keep b o e z (fun y => absurd (show b ∈ ([] : List Addr) from y) (by simp)) (by simp)
    · have e1 := (ok b _ z).1
      have e2 := (ok' b _ (un.frzs b ob _ z)).1
      rw [e] at e1
      rw [e2, e1]
theorem law_callG (KX : K.In s1.heap) (hns : s1.heap.Ns mainGlobals mg) (hb : s1.heap.Ns builtinsNs mb)
    (hbb : ∀ x : Str, x ≠ "__name__" → mb x = bootBuiltins x) (hlim : s1.heap.NoLimit) (hg : s1.gens = #[])
    (ha : s1.heap.get? a = some { cls := .type "list", data := .seq vs.toArray }) (hi : IntsAre vs ns) (hl : ns.length ≤ sizeLine) (hr : Room k callerA)
    (F : ∀ base : Heap, K.In base → base.Ns mainGlobals mg → FnG P w K mg base k fa fd [x] sp)
    (hbind : ∀ (s : Shared) (u : Value), BindsTo s fd ⟨[u], []⟩ [(x, u)])
    (hsp : ∀ H : Hp, Only H → SqL K H a (ns.map V.int) → sp [.ref a] H (fun v _ => v = .bl true) fun _ _ _ => False) :
    codeAny (model P w) callerA (.call (.ref fa) ⟨[.ref a], []⟩)
      (fun r s' => r = .ok (.ret (.bool true)) ∧ OldK s1.heap s'.heap ∧ s'.os = s1.os ∧ AllBare s'.gens) s1 := by
  have rv : Vals (ns.map V.int) vs := vals_ints hi
  have hlen : vs.length = ns.length := hi.length
  by_cases hk : ∃ o, K.lookup a = some o
  · obtain ⟨o, hk⟩ := hk
    have e := KX a o hk
    rw [ha] at e
    have eo := Option.some.inj e
    subst eo
    have hO : Only (fun _ => none) := fun _ => .inl rfl
    refine law_run KX hns hb hbb hlim hg ha (H := fun _ => none) ⟨hO, fun b z => absurd rfl z, fun z => absurd rfl z⟩ (fun b u z => nomatch (show (none : Option HO) = some u from z)) hr F hbind (hsp _ hO ?_)
    exact .inr ⟨_, vs.toArray, _, hk, rfl, rfl, rfl, by rw [List.size_toArray, hlen]; exact hl, by simpa using rv⟩
  · have hk0 : K.lookup a = none := Option.eq_none_iff_forall_ne_some.mpr fun o q => hk ⟨o, q⟩
    let H1 : Hp := upd (fun _ => none) a (.frz { cls := .type "list", data := .seq vs.toArray } (.lst (ns.map V.int)))
    have at1 : ∀ b, H1 b ≠ none → b = a := fun b z => Decidable.byContradiction fun n => z (upd_ne n)
    have hO : Only H1 := fun b => by
      by_cases n : b = a
      · exact .inr ⟨_, _, by rw [n]; exact upd_same⟩
      · exact .inl (upd_ne n)
    refine law_run KX hns hb hbb hlim hg ha (H := H1) ⟨hO, at1, fun _ => hk0⟩ (fun b u z => ?_) hr F hbind (hsp _ hO (.inl (.inr ⟨_, upd_same⟩)))
    have eb := at1 b (by rw [z]; exact fun q => nomatch q)
    subst eb
    have z2 : some (HO.frz { cls := .type "list", data := .seq vs.toArray } (.lst (ns.map V.int))) = some u := upd_same.symm.trans z
    cases z2
    exact ⟨ha, by rw [List.length_map]; exact hl, vs, _, rv, ha⟩

/-- the goal that k_head leaves, from the law's guarded promise -/
theorem walk_ofG {l : PySem.W.OpenLaw} {n k : Nat} {q : Program} {loose : List Str} {XP : (Str → Option Value) → Heap → Prop} {YP : World → Heap → Prop}
    {d : DefRec} {K : Params → PySem.W.Frag} {sp : World → Sp} {x : Str}
    (hn : l.most = some n) (hn2 : n ≤ sizeLine) (hdf : d.params.defaults = []) (hr : Room k callerA)
    (hY : ∀ (w : World) (h : Heap), YP w h → (K w.params).In h)
    (F : ∀ (w : World) (mg : Str → Option Value) (fa : Addr) (h : Heap), (K w.params).In h → h.Ns mainGlobals mg → mg d.name = some (.ref fa) →
      ∃ fd : FuncData, (∀ (s : Shared) (u : Value), BindsTo s fd ⟨[u], []⟩ [(x, u)]) ∧
        ∀ base : Heap, (K w.params).In base → base.Ns mainGlobals mg → FnG l.prog w (K w.params) mg base k fa fd [x] (sp w))
    (hsp : ∀ (w : World) (H : Hp) (a : Addr) (ns : List Int), ns.length ≤ n → Only H → SqL (K w.params) H a (ns.map V.int) →
      sp w [.ref a] H (fun v _ => v = .bl true) fun _ _ _ => False) :
    PySem.W.WalkO q loose XP YP l.row.toRowW d [] (fun f vs => PySem.call f vs) :=
  Att.attach_call hn hdf fun w s₀ s₁ mg mb fa o pm cd doc a vs ns G Y ho hd hcd hmg hobj hints hlen hg =>
    have KX := hY w _ Y
    match F w mg fa _ KX G.T.g hmg with
    | ⟨_, hb, hF⟩ => law_callG KX G.T.g G.T.b G.T.builtins G.T.nolimit hg hobj hints (Nat.le_trans hlen hn2) hr hF hb
        (fun H hO hS => hsp w H a ns hlen hO hS)
end

/-! ### a call by keywords alone, in the opposite order of the parameters -/
def revG (us ws : List Value) : List Value := match us with
  | [] => ws.reverse
  | _ => []
def revV (us ws : List V) : List V := match us with
  | [] => ws.reverse
  | _ => []
theorem Vals.rev : ∀ {vs : List V} {us : List Value}, Vals vs us → Vals vs.reverse us.reverse
  | _, _, .nil => .nil
  | _, _, .cons r t => by
    rw [List.reverse_cons, List.reverse_cons]
    exact Vals.append (Vals.rev t) (.cons r .nil)
theorem revK {K : PySem.W.Frag} {fd : FuncData} {ps ks : List Str} (hp : ps ≠ []) (h : ∀ ws : List Value, ws.length = ps.length → bindArgs fd ⟨[], ks.zip ws⟩ = pure (ps.zip ws.reverse)) : KBinds K fd ps ks revG revV where
  to := fun s us ws _ hl => by
    cases us with
    | nil => exact .of_eq (h ws (by rw [← hl]; exact (List.length_reverse).symm))
    | cons u us =>
      have hl' : ([] : List Value).length = ps.length := hl
      exact absurd (List.length_eq_zero_iff.mp hl'.symm) hp
  rel := fun {vs us zs ws} r1 r2 => by
    cases r1 with
    | nil => exact Vals.rev r2
    | cons _ _ => exact .nil
theorem funRevK {K : PySem.W.Frag} {x qual : Str} {st : Stmt} {f : Addr} {fd : FuncData} {ps ks : List Str} (F : Fun K x qual st f fd) (hp : ps ≠ [])
    (h : ∀ (kV doc pm : Value) (an : Option Addr) (cdv ct : Value) (ws : List Value), ws.length = ps.length →
      bindArgs (PySem.W.fnOf x qual (defArgs st) (defBody st) (defScope st) .none kV doc pm an cdv ct) ⟨[], ks.zip ws⟩ = pure (ps.zip ws.reverse)) : KBinds K fd ps ks revG revV := by
  obtain ⟨oc, od, kV, doc, pm, an, cd, ct, sl, efd, look, code⟩ := F.ex
  subst efd
  exact revK hp (h kV doc pm an cd ct)
section
variable {X : Cx} {CX : CXT} {k : Nat} {f : Addr} {fd : FuncData} {ps ks : List Str} {sp : Sp} {E : XK} {x : Str} {p pos : Pos} {kws : List Keyword} {tk : TA} {g : List Value → List Value → List Value} {gV : List V → List V → List V}
theorem pe_callK0 (F : FnOk X.prog X.w X.K X.mg X.base CX k f fd ps sp) (hr : Room k X.A) (hg : Gl X x) (hm : X.mg x = some (.ref f)) (hk : PySem.W.keepIn X.K (.ref f) = true)
    (hb : KBinds X.K fd ps ks g gV) (hx : Passes CX X E) (hkw : PK X kws tk)
    (hall : (backToKw pos (keywordEach kws X.env)).all (·.1.isSome) = true := by rfl)
    (hks : (backToKw pos (keywordEach kws X.env)).filterMap (·.1) = ks := by rfl)
    (hdb : (x == ("__debug__" : Str)) = false := by decide)
    (hpl : ((backTo pos (starEach [] X.env)).any (·.1) || (backToKw pos (keywordEach kws X.env)).any (·.1.isNone)) = false := by rfl) :
    PE X (.Call (.Name x p) [] kws pos) (tCallK sp gV E tNil tk) := by
  constructor
  intro pins s sg H Q I h
  refine wpAny_Call_Name_kw (ld_glob I hg hm ?_ hdb)
  refine PySem.W.callWith_KW0 (h₀ := X.base) I.ok.mod.kin hk hall (thn (hkw.run pos pins s sg H _ I h) ?_) hpl
  rintro ws s2 ⟨zs, H2, I2, rz, q2⟩
  refine ⟨I2.kIn, ?_⟩
  rw [hks]
  exact run_fnk (us := []) (vs := []) F hr hb hx I2 .nil rz q2
end
end Os
/-! further rules by values: ** of great ints, repr of data, len(set(texts)), text * int, a call by keywords alone -/
namespace Os
open PySem PySem.Spec PyProof.Rows L2

/-! ### great powers -/
section
variable {X : Cx}
theorem op_powW : OpR X (binaryOp .Pow) (rI (fun i j => 0 ≤ j ∧ (Builtin.Int.intBits i : Int) * j ≤ 2 ^ 27) fun i j => .int (i ^ j.toNat)) :=
  opI fun _ _ _ _ _ _ _ hc q => pow_int hc.1 hc.2 q
end
theorem cube_ok {i : Int} {n : Nat} (h : i.natAbs < 2 ^ n) (h0 : 0 < n) (hn : n ≤ 1000000) : (0 : Int) ≤ 3 ∧ (Builtin.Int.intBits i : Int) * 3 ≤ 2 ^ 27 := by
  have hl := PySem.Flt.log2_lt_of h0 h
  have hb : Builtin.Int.intBits i ≤ i.natAbs.log2 + 1 := by
    unfold Builtin.Int.intBits
    split <;> omega
  omega

/-! ### text * int -/
section
variable {X : Cx}
def rMulS : R2 := fun x y H Q => ∃ (z : Str) (n : Int), x = .str z ∧ y = .int n ∧ MulOk z n ∧ Q (.str (Txt.mul z n)) H
theorem op_mulS : OpR X (binaryOp .Mult) rMulS := by
  intro pins s sg H x y v u Q I rx ry h
  obtain ⟨z, n, rfl, rfl, ok, q⟩ := h
  obtain ⟨t, rfl⟩ := rx
  obtain ⟨t', rfl⟩ := ry
  exact PySem.SB.mul ok fun t2 k => ⟨.str _, H, I.tok _, ⟨_, rfl⟩, q⟩
theorem mul_small {z : Str} {n : Int} (h0 : 0 ≤ n) (h1 : n ≤ 1000) (hz : z.length ≤ 1000) : MulOk z n := by
  refine ⟨?_, fun h _ => ?_, fun h _ => ?_⟩
  · rw [decide_eq_false (by omega), decide_eq_false (by omega)]
    rfl
  · have hn : 0 < n := by omega
    have : (1000 : Int) ≤ (2 ^ 63 - 1) / n := (Int.le_ediv_iff_mul_le hn).mpr (by omega)
    omega
  · have hm : z.length * n.toNat ≤ 1000 * 1000 := Nat.mul_le_mul hz (by omega)
    unfold Builtin.Str.tooLong
    have hl : (1000 * 1000 : Nat) ≤ sizeLine := by decide
    simp only [decide_eq_false_iff_not]
    omega
end

/-! ### data that stands in the tracked heap -/
mutual
inductive Dt (H : Hp) : V → PyData → Prop
  | non : Dt H .non .none
  | bl (b : Bool) : Dt H (.bl b) (.bool b)
  | int (i : Int) : Dt H (.int i) (.int i)
  | str (x : Str) : Dt H (.str x) (.str x)
  | lst {a : Addr} {xs : List V} {ds : List PyData} : H a = some (.lst xs) → Dts H xs ds → Dt H (.ref a) (.list ds)
  | tup {a : Addr} {xs : List V} {ds : List PyData} : H a = some (.tup xs) → Dts H xs ds → Dt H (.ref a) (.tuple ds)
inductive Dts (H : Hp) : List V → List PyData → Prop
  | nil : Dts H [] []
  | cons {v : V} {vs : List V} {d : PyData} {ds : List PyData} : Dt H v d → Dts H vs ds → Dts H (v :: vs) (d :: ds)
end
section
variable {H H' : Hp}
mutual
theorem Dt.same (e : Same H H') : ∀ {d : PyData} {v : V}, Dt H v d → Dt H' v d
  | _, _, .non => .non
  | _, _, .bl b => .bl b
  | _, _, .int i => .int i
  | _, _, .str x => .str x
  | _, _, .lst h t => .lst (e _ _ h) (Dts.same e t)
  | _, _, .tup h t => .tup (e _ _ h) (Dts.same e t)
theorem Dts.same (e : Same H H') : ∀ {ds : List PyData} {vs : List V}, Dts H vs ds → Dts H' vs ds
  | _, _, .nil => .nil
  | _, _, .cons h t => .cons (Dt.same e h) (Dts.same e t)
end
mutual
theorem Dt.dp {K : PySem.W.Frag} : ∀ {d : PyData} {v : V}, Dt H v d → Dp K H v d
  | _, _, .non => .non
  | _, _, .bl b => .bl b
  | _, _, .int i => .int i
  | _, _, .str x => .str x
  | _, _, .lst h t => .lst (.inl (.inl h)) (Dts.dp t)
  | _, _, .tup h t => .tup (.inl (.inl h)) (Dts.dp t)
theorem Dts.dp {K : PySem.W.Frag} : ∀ {ds : List PyData} {vs : List V}, Dts H vs ds → DpAll K H vs ds
  | _, _, .nil => .nil
  | _, _, .cons h t => .cons (Dt.dp h) (Dts.dp t)
end
theorem Dts.length : ∀ {ds : List PyData} {vs : List V}, Dts H vs ds → vs.length = ds.length
  | _, _, .nil => rfl
  | _, _, .cons _ t => congrArg (· + 1) (Dts.length t)
theorem Dts.get : ∀ {ds : List PyData} {vs : List V} {i : Nat} {v : V}, Dts H vs ds → vs[i]? = some v → ∃ d, ds[i]? = some d ∧ Dt H v d
  | _, _, _, _, .nil, e => by simp at e
  | _, _, 0, _, .cons h _, e => by simp at e; subst e; exact ⟨_, rfl, h⟩
  | _, _, i + 1, v, .cons _ t, e => by
    obtain ⟨d, h1, h2⟩ := Dts.get (i := i) (v := v) t (by simpa using e)
    exact ⟨d, by simpa using h1, h2⟩
end

/-! ### repr of such data -/
section
variable {X : Cx}
/-- how large data is when it is shown -/
structure Fit (n : Nat) (d : PyData) : Prop where
  long : d.shown.length ≤ n
  deep : d.depth ≤ 40
  show' : d.showable = true
  flat : d.hasDict = false
def rRepr : List V → Hp → VK → Prop := fun xs H Q => ∃ (x : V) (d : PyData), xs = [x] ∧ Dt H x d ∧ Fit sizeLine d ∧ Q (.str d.shown) H
theorem call_repr (gd : X.A.guards = some []) (hu : X.A.units + 64 < cLine) : CallR X (.builtin "repr") rRepr := by
  intro pins s sg H xs us Q I r h
  obtain ⟨x, d, e, hd, fit, q⟩ := h
  subst e
  obtain ⟨u, rfl, ru⟩ := Vals.one r
  have line : d.shown.length ≤ sizeLine := fit.long
  match d, x, hd with
  | _, _, .non =>
    cases ru
    exact PySem.P.repr_of_none ⟨.str _, H, I.tok _, ⟨_, rfl⟩, by simpa only [PyData.shown] using q⟩
  | _, _, .bl b =>
    cases ru
    exact PySem.P.repr_of_bool ⟨.str _, H, I.tok _, ⟨_, rfl⟩, by simpa only [PyData.shown] using q⟩
  | _, _, .int i =>
    obtain ⟨t, rfl⟩ := ru
    have hz : i.natAbs.log2 < 1920 := of_decide_eq_true (by simpa only [PyData.showable] using fit.show')
    exact PySem.P.repr_of_int hz ⟨.str _, H, I.tok _, ⟨_, rfl⟩, by simpa only [PyData.shown] using q⟩
  | _, _, .str z =>
    obtain ⟨t, rfl⟩ := ru
    exact PySem.P.repr_of_str ⟨.str _, H, I.tok _, ⟨_, rfl⟩, by simpa only [PyData.shown] using q⟩ (by simpa only [PyData.shown] using line)
  | _, _, .lst ha ht =>
    obtain ⟨as, rd⟩ := Dp.reads I _ _ u (Dt.dp (.lst ha ht)) ru
    cases ru
    refine PySem.repr_of_reads' rd fit.show' (PyData.noDict_hsm fit.flat) gd (by have := fit.deep; omega) (fun _ _ z => z) (fun h' u' tk k => ?_) line
    exact ⟨.str _, H, I.kept k, ⟨_, rfl⟩, q⟩
  | _, _, .tup ha ht =>
    obtain ⟨as, rd⟩ := Dp.reads I _ _ u (Dt.dp (.tup ha ht)) ru
    cases ru
    refine PySem.repr_of_reads' rd fit.show' (PyData.noDict_hsm fit.flat) gd (by have := fit.deep; omega) (fun _ _ z => z) (fun h' u' tk k => ?_) line
    exact ⟨.str _, H, I.kept k, ⟨_, rfl⟩, q⟩
end
end Os
/-! len(set(xs)), xs a list of texts of any number below 4000 -/
namespace Os
open PySem PySem.Spec PyProof.Rows L2

/-- the texts met so far, each once -/
def once : List Str → List Str
  | [] => []
  | x :: r => if x ∈ once r then once r else x :: once r
/-- the same from the left, over the first i of them -/
def met (xs : List Str) (i : Nat) : List Str := once (xs.take i).reverse
theorem met_zero (xs : List Str) : met xs 0 = [] := rfl
theorem met_succ {xs : List Str} {i : Nat} {x : Str} (h : xs[i]? = some x) : met xs (i + 1) = if x ∈ met xs i then met xs i else x :: met xs i := by
  unfold met
  rw [List.take_add_one, h]
  show once ((xs.take i ++ [x]).reverse) = _
  rw [List.reverse_append]
  rfl
theorem once_mem : ∀ {l : List Str} {x : Str}, x ∈ once l ↔ x ∈ l
  | [], _ => Iff.rfl
  | y :: r, x => by
    have ih := @once_mem r
    unfold once
    split
    · rename_i hy
      rw [ih, List.mem_cons]
      exact ⟨.inr, fun z => z.elim (fun e => by rw [e]; exact ih.mp hy) id⟩
    · rw [List.mem_cons, List.mem_cons, ih]
theorem once_le : ∀ l : List Str, (once l).length ≤ l.length
  | [] => Nat.le_refl _
  | y :: r => by
    have ih := once_le r
    unfold once
    split
    · exact Nat.le_succ_of_le ih
    · exact Nat.succ_le_succ ih
theorem once_nodup : ∀ l : List Str, (once l).length = l.length ↔ l.Nodup
  | [] => ⟨fun _ => .nil, fun _ => rfl⟩
  | y :: r => by
    have ih := once_nodup r
    have le := once_le r
    unfold once
    rw [List.nodup_cons]
    split
    · rename_i hy
      constructor
      · intro e
        rw [List.length_cons] at e
        omega
      · intro e
        exact absurd (once_mem.mp hy) e.1
    · rename_i hy
      rw [List.length_cons, List.length_cons]
      constructor
      · intro e
        exact ⟨fun z => hy (once_mem.mpr z), ih.mp (Nat.succ.inj e)⟩
      · intro e
        rw [ih.mpr e.2]
theorem met_le (xs : List Str) (i : Nat) : (met xs i).length ≤ i := by
  refine Nat.le_trans (once_le _) ?_
  rw [List.length_reverse, List.length_take]
  exact Nat.min_le_left _ _
theorem met_all (xs : List Str) : (met xs xs.length).length = xs.length ↔ xs.Nodup := by
  unfold met
  rw [List.take_length]
  have := once_nodup xs.reverse
  rw [List.length_reverse] at this
  rw [this]
  unfold List.Nodup
  rw [List.pairwise_reverse]
  exact ⟨fun h => h.imp fun a => a.symm, fun h => h.imp fun a => a.symm⟩

section
variable {prog : Program} {w : World} {A : Around} {R : Result → Shared → Prop} {I : Addr} {fp wr : List Addr} {G : Array GenState → Array GenState → Prop} {n : Nat} {P : Nat → Value → Prop} {St : Nat → Shared → Prop}
/-- what the set at S holds behind i turns -/
abbrev Holds (prog : Program) (w : World) (xs : List Str) (S : Addr) (i : Nat) (h : Heap) : Prop :=
  h.SetOf (PySem.strKind prog w) S (fun k => decide (k ∈ met xs i)) (met xs i).length
theorem set_fill (W : WalksS prog w A.in1 I fp wr G n P St) (S : Addr) (out : S ∉ fp) (xs : List Str)
    (ln : xs.length = n) (val : ∀ i v, P i v → ∃ x t, xs[i]? = some x ∧ v = .str x t) (room : n + 1 < scanBound) :
    ∀ (left i : Nat) (s : Shared), i + left = n → St i s → Holds prog w xs S i s.heap →
      (∀ s', Moved (S :: wr) G s s' → Holds prog w xs S n s'.heap → R (.ok (.ret .none)) s') →
      codeAny (model prog w) A (.builtin "set.update.loop" ⟨[.ref S, .ref I], []⟩) R s := by
  have noS : S ∉ wr := fun z => out (W.sub _ z)
  have more : ∀ b ∈ wr, b ∈ S :: wr := fun _ z => List.mem_cons_of_mem _ z
  have carried : ∀ {i : Nat} {s s' : Shared}, Moved wr G s s' → Holds prog w xs S i s.heap → Holds prog w xs S i s'.heap := by
    rintro i s s' mv ⟨o, es, ep, t, ho, rest⟩
    exact ⟨o, es, ep, t, mv.heap S _ noS ho, rest⟩
  intro left
  induction left with
  | zero =>
    intro i s e st hS fin
    have ein : i = n := e
    subst ein
    refine codeAny_builtin PyProof.Rows.F.entry_set_update_loop ?_
    rw [Around.under_plainId PyProof.Rows.F.plain_set_update_loop _]
    refine wpAny_bind (m := pyNext (.ref I)) (W.done s _ _ st fun s' mv => ?_)
    exact wpAny_pure (fin s' (mv.mono more) (carried mv hS))
  | succ left ih =>
    intro i s e st hS fin
    have lt : i < n := by omega
    refine codeAny_builtin PyProof.Rows.F.entry_set_update_loop ?_
    rw [Around.under_plainId PyProof.Rows.F.plain_set_update_loop _]
    refine wpAny_bind (m := pyNext (.ref I)) (W.item i s _ _ lt st fun v s' hP st' mv => ?_)
    obtain ⟨x, t, hx, ev⟩ := val i v hP
    subst ev
    have hS1 := carried mv hS
    show wpAny _ A.in1 (holding [Value.str x t] (setAdd S (.str x t)) >>= _) _ _ s'
    refine wpAny_bind (wpAny_holding ?_)
    unfold setAdd
    refine wpAny_holding (wpAny_bind ((PySem.strKind prog w).pyHash (k := x) (strKind_is _ _ _ _) ?_))
    have fits : (met xs i).length + 1 < scanBound := by
      have := met_le xs i
      omega
    refine wpAny_setAddHashed_of (knd := PySem.strKind prog w) (s := { s' with toks := s'.toks + 1 }) (strKind_is _ _ _ _) rfl hS1 fits fun h' same hS2 => ?_
    have hS3 : Holds prog w xs S (i + 1) h' := by
      refine PyProof.Rows.SetOf_congr hS2 (fun k => ?_) ?_
      · rw [met_succ hx]
        by_cases m : x ∈ met xs i
        · rw [if_pos m]
          by_cases ek : k = x
          · subst ek
            simp [m]
          · simp [ek]
        · rw [if_neg m]
          by_cases ek : k = x
          · subst ek
            simp
          · simp [ek]
      · rw [met_succ hx]
        by_cases m : x ∈ met xs i
        · simp [m]
        · simp [m]
    refine wpAny_pure ⟨plainId_quiet PyProof.Rows.F.plain_set_update_loop _, ih (i + 1) _ (by omega) (W.frame _ s' _ _ st' (Nat.le_succ _) fun b hb o q => ?_) hS3 fun s2 mv2 hS4 => ?_⟩
    · rw [same.2 b (fun z : b = S => out (by rw [← z]; exact hb))]
      exact q
    · refine fin s2 (Moved.trans W.gtrans ((mv.mono more).then_heap (Nat.le_succ _) fun b o hb q => ?_) mv2) hS4
      rw [same.2 b (fun z : b = S => hb (by rw [z]; exact List.mem_cons_self))]
      exact q
end

section
variable {prog : Program} {w : World} {A : Around} {E : Value → Shared → Prop} {s : Shared}
/-- a new set -/
abbrev freshSet (led : Bool) : Obj := { cls := .type "set", dict := none, data := .set #[] 0 (.fresh 0 0 led) }
/-- its __init__ over a list of texts -/
theorem init_set_strs {l : Addr} {items : Array Value} {xs : List Str} {led : Bool} {R : Result → Shared → Prop} (hh : A.handled = none)
    (hl : s.heap.IsList l items) (hi : PyProof.Rows.StrsAre items.toList xs) (room : xs.length + 1 < scanBound)
    (h : ∀ (h' : Heap) (tk : Nat), Holds prog w xs s.heap.objs.size xs.length h' →
      (∀ b o, b < s.heap.objs.size → s.heap.get? b = some o → h'.get? b = some o) → R (.ok (.ret .none)) { s with heap := h', toks := tk }) :
    wpAny (model prog w) A.in1 (Builtin.«set.__init__» ⟨[.ref s.heap.objs.size, .ref l], []⟩) (fun fin s' => match fin with
        | .done f => R (.ok f) s'
        | .again c => c.quiet = true ∧ codeAny (model prog w) A c R s')
      (fun e s' => R (.error e) s') { s with heap := s.heap.push (freshSet led) } := by
  obtain ⟨⟨_, od, _, osl⟩, hol, rfl, nl, rfl⟩ := hl
  have there : (s.heap.push (freshSet led)).get? l = some ⟨.type "list", od, .seq items nl, osl⟩ := Heap.get?_push_of_some _ hol
  have newAt : (s.heap.push (freshSet led)).get? s.heap.objs.size = some (freshSet led) := Heap.get?_push_size _ rfl
  have lst1 : (s.heap.push (freshSet led)).IsList l items := ⟨_, there, rfl, nl, rfl⟩
  have hT : Shared.TypeIs { s with heap := s.heap.push (freshSet led) } (.ref s.heap.objs.size) "set" := ⟨_, newAt, rfl⟩
  have subS := PySem.F.sub_list_set
  have subF := PySem.F.sub_list_frozenset
  have notD : (Value.type "list" == Value.type "dict") = false := by decide
  unfold Builtin.«set.__init__» noKeywords Builtin.Frozenset.updateFrom
  generalize hPI : pyIter = PI
  wp_walk
  subst hPI
  refine wpAny_pyIter_list lst1 ?_
  refine wpAny_bind (wpAny_runValue ?_)
  have lS : l < s.heap.objs.size := Heap.lt_size hol
  have hh2 : A.in1.in1.handled = none := by simp [hh]
  have apart : l ≠ (s.heap.push (freshSet led)).objs.size := by
    rw [Heap.size_push]
    exact Nat.ne_of_lt (Nat.lt_succ_of_lt lS)
  have outer : s.heap.objs.size ∉ [(s.heap.push (freshSet led)).objs.size, l] := by
    rw [Heap.size_push]
    intro z
    rcases List.mem_cons.mp z with z | z
    · exact absurd z (Nat.ne_of_lt (Nat.lt_succ_self _))
    · exact absurd (List.mem_singleton.mp z) (Nat.ne_of_gt lS)
  have hsz : xs.length = items.size := by rw [← StrsAre.len_eq hi, Array.length_toList]
  have vals : ∀ (i : Nat) (v : Value), items[i]? = some v → ∃ x t, xs[i]? = some x ∧ v = .str x t := fun i v hv => by
    rw [← Array.getElem?_toList] at hv
    obtain ⟨t, e⟩ := SS.strs_at hi i v hv
    have lt : i < xs.length := by
      rw [← StrsAre.len_eq hi]
      exact (List.getElem?_eq_some_iff.mp hv).1
    refine ⟨xs[i], t, List.getElem?_eq_getElem lt, ?_⟩
    rw [e, List.getD_eq_getElem?_getD, List.getElem?_eq_getElem lt]
    rfl
  refine set_fill ((Walks.list hh2 _ l apart items).toS) s.heap.objs.size outer xs hsz vals (by rw [← hsz]; exact room) items.size 0 _ (Nat.zero_add _)
    ?start ?first ?last
  case start => exact ⟨⟨_, Heap.get?_push_size _ rfl, rfl, rfl⟩, (lst1.push _)⟩
  case first =>
    refine PyProof.Rows.SetOf_congr ((PyProof.Rows.setObjOf_fresh (knd := PySem.strKind prog w) led).setOf (Heap.get?_push_of_some _ newAt) (by unfold scanBound; omega)) (fun k => ?_) rfl
    rw [met_zero]
    rfl
  case last =>
    intro s' mv hS
    obtain ⟨h', g', d', tk', os'⟩ := s'
    have e1 : g' = s.gens := mv.gens
    have e2 : d' = s.drawn := mv.drawn
    have e3 : os' = s.os := mv.os
    subst e1 e2 e3
    show wpAny _ _ _ _ _ _
    refine wpAny_pure ?_
    refine wpAny_pure (h h' tk' (by rw [hsz]; exact hS) fun b o hb q => ?_)
    refine mv.heap b o (fun z => ?_) (Heap.get?_push_of_some _ (Heap.get?_push_of_some _ q))
    rcases List.mem_cons.mp z with z | z
    · exact absurd z (Nat.ne_of_lt hb)
    · rw [List.mem_singleton, Heap.size_push] at z
      exact absurd z (Nat.ne_of_lt (Nat.lt_succ_of_lt hb))

/-- set(xs), xs a list of texts -/
theorem call_set_strs {l : Addr} {items : Array Value} {xs : List Str} {Q : Value → Shared → Prop} (hh : A.handled = none)
    (hl : s.heap.IsList l items) (hi : PyProof.Rows.StrsAre items.toList xs) (room : xs.length + 1 < scanBound)
    (h : ∀ (h' : Heap) (tk : Nat), Holds prog w xs s.heap.objs.size xs.length h' →
      (∀ b o, b < s.heap.objs.size → s.heap.get? b = some o → h'.get? b = some o) → Q (.ref s.heap.objs.size) { s with heap := h', toks := tk }) :
    wpAny (model prog w) A (call (.type "set") [.ref l]) Q E s := by
  obtain ⟨c, tl, mro⟩ := PySem.F.called_set.mro
  have made := PySem.F.called_set.made
  have sub := PySem.F.called_set.sub
  have noTy := PySem.F.called_set.notType
  have creates := PySem.F.called_set.canCreate
  have typeCall := PySem.F.typeCall_set_1 (.ref l)
  refine wpAny_call (codeAny_of_tree ?_)
  show wpAny _ _ (callAny (.type "set") _) _ _ _
  refine wpAny_pure ⟨Code.quiet_builtin _ (by decide +kernel), codeAny_builtin PySem.F.entry_type_call ?_⟩
  rw [Around.under_plain (weight_type_call_type "set" [.ref l] []) rfl]
  repeat (any_goals (first | assumption | wp_step))
  refine codeAny_mono (code_set_new_1 (.ref l) (E := E) (Q₁ := fun v s₁ => ∃ led : Bool, v = .ref s.heap.objs.size ∧ s₁ = { s with heap := s.heap.push (freshSet led) }) fun led => ⟨led, rfl, rfl⟩) ?_
  intro r s1 hr
  match r, hr with
  | .error _, hr => exact hr
  | .ok .next, hr => exact hr.elim
  | .ok .brk, hr => exact hr.elim
  | .ok .cont, hr => exact hr.elim
  | .ok (.ret v), ⟨led, ev, es⟩ =>
    subst ev es
    have newAt : (s.heap.push (freshSet led)).get? s.heap.objs.size = some (freshSet led) := Heap.get?_push_size _ rfl
    have hT : Shared.TypeIs { s with heap := s.heap.push (freshSet led) } (.ref s.heap.objs.size) "set" := ⟨_, newAt, rfl⟩
    have initLook := PySem.F.called_set.init.lookup
    have initBind := PySem.F.called_set.init.bind (.ref s.heap.objs.size)
    repeat (any_goals (first | assumption | wp_step))
    refine codeAny_mono (codeAny_call_builtin (R := wants (fun v s2 => v = .none ∧ ∃ h' tk, s2 = { s with heap := h', toks := tk } ∧ Holds prog w xs s.heap.objs.size xs.length h' ∧
      (∀ b o, b < s.heap.objs.size → s.heap.get? b = some o → h'.get? b = some o)) E) PySem.F.called_set.init.plain PySem.F.entry_set_init (check_set_init_1 hT (init_set_strs (by simp [hh]) hl hi room fun h' tk a b => ⟨rfl, h', tk, rfl, a, b⟩))) ?_
    intro r2 s2 hr2
    match r2, hr2 with
    | .error _, hr2 => exact hr2
    | .ok .next, hr2 => exact hr2.elim
    | .ok .brk, hr2 => exact hr2.elim
    | .ok .cont, hr2 => exact hr2.elim
    | .ok (.ret v2), ⟨ev2, h', tk, es2, a, b⟩ =>
      subst ev2 es2
      repeat (any_goals (first | assumption | wp_step))
      exact h _ _ a b
end

/-- len(set(xs)) -/
def tLenSetS (K : PySem.W.Frag) (ta : TE) : TE := fun σ H Q => ta σ H fun x H1 => ∃ (l : Addr) (xs : List Str), x = .ref l ∧ SqL K H1 l (xs.map V.str) ∧ xs.length ≤ 4000 ∧ Q (.int (met xs xs.length).length) H1
theorem pe_lenSetS {X : Cx} {a : Expr} {ta : TE} {p p2 q pos : Pos} (hg : Gl X "len") (hm : X.mg "len" = none) (hg2 : Gl X "set") (hm2 : X.mg "set" = none) (ha : PE X a ta) (hc : X.calm = true := by rfl)
    (na : starEach [a] X.env = (false, eval a X.env) :: starEach [] X.env := by rfl) : PE X (.Call (.Name "len" p) [.Call (.Name "set" p2) [a] [] q] [] pos) (tLenSetS X.K ta) := by
  constructor
  intro pins s sg H Q I h
  refine Call_ (ld_blt I hg hm boot_len ?_)
  refine PyProof.Rows.callWith_builtin1 (PyProof.Rows.args_cons ?_ rfl) rfl rfl
  refine Call_ (ld_blt I hg2 hm2 boot_set ?_)
  refine PyProof.Rows.callWith_type1 (PyProof.Rows.args_cons (thn (ha.run pins s sg H _ I h) ?_) na) na rfl
  rintro v s1 ⟨x, H1, I1, r1, l, xs, ex, hq, hl, q1⟩
  refine PyProof.Rows.args_nil ?_
  subst ex
  cases r1
  obtain ⟨its, r, pl, hz⟩ := I1.list hq
  refine call_set_strs (I1.ok.hd hc) pl.isList (by simpa using Vals.strs r) (by unfold scanBound; omega) fun h' tk hS hk => ?_
  refine PyProof.Rows.args_nil ?_
  obtain ⟨o, es, ep, t, ho, hex, hd, _, _, _, hf, hn⟩ := hS
  have I2 : Inv X pins sg H1 { s1 with heap := h', toks := tk } := I1.kept fun b o e => hk b o (Heap.lt_size e) e
  have small : (met xs xs.length).length ≤ 4000 := Nat.le_trans (met_le xs _) hl
  exact call_len_set ho hex hd hf (by rw [hn]; omega) ⟨.int (met xs xs.length).length, H1, I2.tok _, ⟨_, by rw [hn]⟩, q1⟩
end Os
namespace Os
open PySem PySem.Spec PyProof.Rows L2

/-! ### kinds of data -/
def tyName : PyData → String
  | .none => "NoneType"
  | .bool _ => "bool"
  | .int _ => "int"
  | .str _ => "str"
  | .list _ => "list"
  | .tuple _ => "tuple"
  | .dict _ => "dict"
def isStrD : PyData → Bool
  | .str _ => true
  | _ => false
def isListD : PyData → Bool
  | .list _ => true
  | _ => false
def isTupD : PyData → Bool
  | .tuple _ => true
  | _ => false
theorem kit_str (d : PyData) : kitB (tyName d) "str" = some (isStrD d) := by
  cases d <;> (simp only [tyName, isStrD, isListD, isTupD]; decide +kernel)
theorem kit_list (d : PyData) : kitB (tyName d) "list" = some (isListD d) := by
  cases d <;> (simp only [tyName, isStrD, isListD, isTupD]; decide +kernel)
theorem kit_tup (d : PyData) : kitB (tyName d) "tuple" = some (isTupD d) := by
  cases d <;> (simp only [tyName, isStrD, isListD, isTupD]; decide +kernel)
section
variable {H H' : Hp} {v : V} {d : PyData} {K : PySem.W.Frag}
theorem Dt.ty (h : Dt H v d) : TyOf K H v (.type (tyName d)) := by
  cases h with
  | non => exact .non
  | bl b => exact .bl b
  | int i => exact .int i
  | str x => exact .str x
  | lst ha _ => exact .lst ha
  | tup ha _ => exact .tup ha
theorem isi_of {T : String} {b : Bool} {Q : VK} (h : Dt H v d) (e : kitB (tyName d) T = some b) (q : Q (.bl b) H) : rIsi K [v, .ty T] H Q :=
  ⟨v, .ty T, _, _, b, rfl, .ty T, .base h.ty, kit_ty e, q⟩
theorem Dt.str_or (h : Dt H v d) : (∃ z, v = .str z ∧ d = .str z) ∨ isStrD d = false := by
  cases h with
  | str x => exact .inl ⟨x, rfl, rfl⟩
  | _ => exact .inr rfl
theorem Dt.list_or (h : Dt H v d) : (∃ a xs ds, v = .ref a ∧ H a = some (.lst xs) ∧ Dts H xs ds ∧ d = .list ds) ∨ isListD d = false := by
  cases h with
  | lst ha t => exact .inl ⟨_, _, _, rfl, ha, t, rfl⟩
  | _ => exact .inr rfl
theorem Dt.tup_or (h : Dt H v d) : (∃ a xs ds, v = .ref a ∧ H a = some (.tup xs) ∧ Dts H xs ds ∧ d = .tuple ds) ∨ isTupD d = false := by
  cases h with
  | tup ha t => exact .inl ⟨_, _, _, rfl, ha, t, rfl⟩
  | _ => exact .inr rfl
end
/-! ### heaps but for one address -/
/-- H without what stands at s -/
def hide (s : Addr) (H : Hp) : Hp := fun b => if b = s then none else H b
theorem hide_ne {s b : Addr} {H : Hp} (h : b ≠ s) : hide s H b = H b := if_neg h
theorem hide_at {s : Addr} {H : Hp} : hide s H s = none := if_pos rfl
theorem hide_of {s b : Addr} {H : Hp} {o : HO} (h : hide s H b = some o) : b ≠ s ∧ H b = some o := by
  unfold hide at h
  split at h
  · cases h
  · exact ⟨by assumption, h⟩
theorem hide_same {s : Addr} {H : Hp} : Same (hide s H) H := fun _ _ h => (hide_of h).2
theorem Same.hide {s : Addr} {H H' : Hp} (e : Same H H') : Same (Os.hide s H) (Os.hide s H') := fun b o h => by
  obtain ⟨h1, h2⟩ := hide_of h
  rw [hide_ne h1]
  exact e b o h2
theorem hide_upd {s : Addr} {H : Hp} {o : HO} : Os.hide s (upd H s o) = Os.hide s H := by
  funext b
  by_cases e : b = s
  · rw [e, hide_at, hide_at]
  · rw [hide_ne e, hide_ne e, upd_ne e]
theorem same_new {H : Hp} {p : Addr} {o : HO} (h : H p = none) : Same H (upd H p o) := fun b u e => by
  rw [upd_ne (ne_of_none e h)]
  exact e
/-- what H does not know may change -/
theorem same_mut {H H' : Hp} {p : Addr} {o : HO} (e : Same H H') (h : H p = none) : Same H (upd H' p o) := fun b u q => by
  rw [upd_ne (ne_of_none q h)]
  exact e b u q
theorem Same.none {H H' : Hp} (e : Same H H') {p : Addr} (h : H' p = Option.none) : H p = Option.none := e.free h
theorem hide_none {s p : Addr} {H : Hp} (h : H p = Option.none) : Os.hide s H p = Option.none := by
  unfold Os.hide
  split
  · rfl
  · exact h
end Os
namespace Os
open PySem PySem.Spec PyProof.Rows L2 Evl

/-! ### more of what evaluates to what -/
section
variable {K : PySem.W.Frag} {σ : L2.St} {H H' : Hp} {ta tb tc te : TE} {t : TT} {x y z v : V} {r r' : R2}
theorem same_ex (e : Ex H H') : Same H H' := e
theorem ev_isi {T : String} {b : Bool} {d : PyData} (h : Ev ta σ H v) (hd : Dt H v d) (e : kitB (tyName d) T = some b) :
    Ev (tCB (rIsi K) (tCons ta (tCons (tC (.ty T)) tNil))) σ H (.bl b) := fun H1 e1 Q q =>
  h H1 e1 _ fun H2 e2 => isi_of (hd.same (same_ex (e1.trans e2))) e (q H2 e2)
theorem ev_lenS {s : Str} (h : Ev ta σ H (.str s)) (hl : s.length ≤ 100000) :
    Ev (tCB (fun xs H Q => ∃ z, xs = [.str z] ∧ z.length ≤ sizeLine ∧ Q (.int z.length) H) (tCons ta tNil)) σ H (.int s.length) := fun H1 e1 Q q =>
  h H1 e1 _ fun H2 e2 => ⟨s, rfl, sz_of hl, q H2 e2⟩
theorem ev_chain {b c : Bool} (h1 : Ev ta σ H x) (h2 : Ev tb σ H y) (hr : RV r x y H (.bl b)) (h3 : b = true → ∃ z, Ev tc σ H z ∧ RV r' y z H (.bl c)) :
    Ev (tChain r r' ta tb tc) σ H (.bl (b && c)) := fun H1 e Q q =>
  h1 H1 e _ fun H2 e2 => h2 H2 (e.trans e2) _ fun H3 e3 => hr H3 ((e.trans e2).trans e3) _ fun H4 e4 => ⟨b, rfl, by
    cases b with
    | true =>
      obtain ⟨z, hz, hs⟩ := h3 rfl
      show tc σ H4 _
      exact hz H4 (((e.trans e2).trans e3).trans e4) _ fun H5 e5 => hs H5 ((((e.trans e2).trans e3).trans e4).trans e5) Q fun H6 e6 => q H6 ((((e2.trans e3).trans e4).trans e5).trans e6)
    | false =>
      show Q (.bl false) H4
      exact q H4 ((e2.trans e3).trans e4)⟩
theorem rv_leS {i j : Str} : RV (fun x y H Q => ∃ i j, x = .str i ∧ y = .str j ∧ Q (.bl (!decide (j.cps.toList < i.cps.toList))) H) (.str i) (.str j) H (.bl (!decide (j.cps.toList < i.cps.toList))) :=
  fun H1 _ _ q => ⟨i, j, rfl, rfl, q H1 (Ex.refl H1)⟩
theorem rv_notInSign {c : Nat} {s : Str} : RV (fun x y H Q => ∃ (c : Nat) (z : Str), x = .str ⟨#[c]⟩ ∧ y = .str z ∧ Q (.bl (!decide (c ∈ z.cps.toList))) H) (.str ⟨#[c]⟩) (.str s) H (.bl (!decide (c ∈ s.cps.toList))) :=
  fun H1 _ _ q => ⟨c, s, rfl, rfl, q H1 (Ex.refl H1)⟩
theorem ev_abs {i : Int} (h : Ev ta σ H (.int i)) : Ev (tCB (fun xs H Q => ∃ i, xs = [V.int i] ∧ Q (.int (if i < 0 then -i else i)) H) (tCons ta tNil)) σ H (.int (if i < 0 then -i else i)) := fun H1 e1 Q q =>
  h H1 e1 _ fun H2 e2 => ⟨i, rfl, q H2 e2⟩
theorem ev_max {i j : Int} (ha : Ev ta σ H (.int i)) (hb : Ev tb σ H (.int j)) : Ev (tCB (fun xs H Q => ∃ i j, xs = [V.int i, .int j] ∧ Q (.int (if j > i then j else i)) H) (tCons ta (tCons tb tNil))) σ H (.int (if j > i then j else i)) := fun H1 e1 Q q =>
  ha H1 e1 _ fun H2 e2 => hb H2 (e1.trans e2) _ fun H3 e3 => ⟨i, j, rfl, q H3 (e2.trans e3)⟩
theorem ev_min {i j : Int} (ha : Ev ta σ H (.int i)) (hb : Ev tb σ H (.int j)) : Ev (tCB (fun xs H Q => ∃ i j, xs = [V.int i, .int j] ∧ Q (.int (if j < i then j else i)) H) (tCons ta (tCons tb tNil))) σ H (.int (if j < i then j else i)) := fun H1 e1 Q q =>
  ha H1 e1 _ fun H2 e2 => hb H2 (e1.trans e2) _ fun H3 e3 => ⟨i, j, rfl, q H3 (e2.trans e3)⟩
theorem ev_all {bs : List Bool} (h : EvL ta σ H (bs.map V.bl)) : Ev (tCB (rAll K) (tCons ta tNil)) σ H (.bl (bs.all id)) := fun H1 e Q q =>
  h H1 e _ fun p H2 _ e2 hp => ⟨p, bs, rfl, sq_of hp, q H2 e2⟩
theorem ev_repr {d : PyData} (h : Ev ta σ H v) (hd : Dt H v d) (fit : Fit sizeLine d) : Ev (tCB rRepr (tCons ta tNil)) σ H (.str d.shown) := fun H1 e Q q =>
  h H1 e _ fun H2 e2 => ⟨v, d, rfl, hd.same (same_ex (e.trans e2)), fit, q H2 e2⟩
theorem ev_reprL {xs : List V} {ds : List PyData} (h : EvL ta σ H xs) (hd : Dts H xs ds) (fit : Fit sizeLine (.list ds)) : Ev (tCB rRepr (tCons ta tNil)) σ H (.str (PyData.list ds).shown) := fun H1 e Q q =>
  h H1 e _ fun p H2 _ e2 hp => ⟨.ref p, .list ds, rfl, .lst hp (hd.same (same_ex (e.trans e2))), fit, q H2 e2⟩
/-- two lists, the left a new one, the right a new one, of data -/
theorem ev_eqLL {xs ys : List V} {ds es : List PyData} (ha : EvL ta σ H xs) (hb : EvL tb σ H ys) (hx : Dts H xs ds) (hy : Dts H ys es) (s1 : SeqAt.shaped (.list ds) = true) (s2 : SeqAt.shaped (.list es) = true) :
    Ev (tOp (rEqD K) ta tb) σ H (.bl (PyData.eqv (.list ds) (.list es))) :=
  ev_opLL ha hb fun p q H1 hp hq e => fun H2 e2 Q k => ⟨.list ds, .list es, Dt.dp (.lst (e2 _ _ hp) (hx.same (same_ex (e.trans e2)))), Dt.dp (.lst (e2 _ _ hq) (hy.same (same_ex (e.trans e2)))), s1, s2, k H2 (Ex.refl H2)⟩
/-- a call of a def that makes nothing but a value -/
theorem ev_sp {sp : Sp} {dvs vs : List V} {E : XK} {ta : TA} (h : EvA ta σ H vs) (hs : ∀ H1, Ex H H1 → ∀ Q : VK, (∀ H2, Ex H1 H2 → Q z H2) → sp (vs ++ dvs) H1 Q E) : Ev (tCall sp dvs E ta) σ H z := fun H1 e Q q =>
  h H1 e _ fun H2 e2 => hs H2 (e.trans e2) Q fun H3 e3 => q H3 (e2.trans e3)
/-- a comprehension over a text -/
theorem el_lcS {s : Str} {j : Nat} {vs : List Nat} {tl : TE} (f : Nat → Bool) (v : Nat → V) (h : Ev tl σ H (.str s)) (hz : s.length ≤ 40000) (hw : ∀ x, wipe ((wipe σ vs).set j (some x)) vs = wipe σ vs)
    (ht : ∀ (i c : Nat) H1, Ex H H1 → s.cps.toList[i]? = some c → EvT t ((wipe σ vs).set j (some (.str ⟨#[c]⟩))) H1 (f i))
    (he : ∀ (i c : Nat) H1, Ex H H1 → s.cps.toList[i]? = some c → f i = true → Ev te ((wipe σ vs).set j (some (.str ⟨#[c]⟩))) H1 (v i)) :
    EvL (tLc (iStr tl) (gName j) t te vs) σ H (given s.length f v) := fun H0 e Q q => h H0 e _ fun H1 e1 => ⟨s, rfl, fun Dl hD =>
  lc_it (walk_str (z := s)) (Cw H1 f v Dl) ⟨hD, Ex.new hD, upd_same⟩ (fun _ _ _ _ => trivial) (fun i x Ha Hb hi p y => by
    obtain ⟨rfl, c, hc, rfl⟩ := y
    have hc' : s.cps.toList[i]? = some c := by rw [Array.getElem?_toList]; exact hc
    have hi2 : i < s.length := hi
    exact ⟨hw _, cw_turn p (by omega) (ht i c H1 (e.trans e1) hc') (fun hf => he i c H1 (e.trans e1) hc' hf)⟩)
    (fun Hc p => q Dl Hc (fresh_back e1 p.1) (e1.trans p.2.1) p.2.2)⟩
end

/-! ### what a comprehension gives, by the items -/
theorem given_map {α : Type} (xs : List α) (g : α → V) (v : Nat → V) (h : ∀ i x, xs[i]? = some x → v i = g x) : given xs.length (fun _ => true) v = xs.map g := by
  unfold given
  rw [List.filter_eq_self.mpr (fun _ _ => rfl)]
  refine List.ext_getElem? fun i => ?_
  rw [List.getElem?_map, List.getElem?_map]
  by_cases hi : i < xs.length
  · rw [List.getElem?_range hi, List.getElem?_eq_getElem hi]
    exact congrArg some (h i _ (List.getElem?_eq_getElem hi))
  · rw [List.getElem?_eq_none (by rw [List.length_range]; omega), List.getElem?_eq_none (by omega)]
    rfl
theorem given_part {α : Type} (g : α → V) (p : α → Bool) (f : Nat → Bool) (v : Nat → V) (xs : List α) (hf : ∀ i x, xs[i]? = some x → f i = p x) (hv : ∀ i x, xs[i]? = some x → v i = g x) :
    ∀ n, n ≤ xs.length → given n f v = ((xs.take n).filter p).map g
  | 0, _ => rfl
  | n + 1, hn => by
    have lt : n < xs.length := hn
    have e := List.getElem?_eq_getElem lt
    have ih := given_part g p f v xs hf hv n (Nat.le_of_lt lt)
    rw [List.take_add_one, e]
    show _ = ((xs.take n ++ [xs[n]]).filter p).map g
    rw [List.filter_append, List.map_append, ← ih]
    cases hp : p xs[n] with
    | true =>
      rw [given_yes (by rw [hf _ _ e]; exact hp), hv _ _ e, List.filter_cons, if_pos hp]
      rfl
    | false =>
      rw [given_no (by rw [hf _ _ e]; exact hp), List.filter_cons, if_neg (by rw [hp]; decide)]
      rw [List.filter_nil, List.map_nil, List.append_nil]
theorem given_filter {α : Type} (g : α → V) (p : α → Bool) (f : Nat → Bool) (v : Nat → V) (xs : List α) (hf : ∀ i x, xs[i]? = some x → f i = p x) (hv : ∀ i x, xs[i]? = some x → v i = g x) :
    given xs.length f v = (xs.filter p).map g := by
  rw [given_part g p f v xs hf hv _ (Nat.le_refl _), List.take_length]
theorem given_eq {n : Nat} {f g : Nat → Bool} {v u : Nat → V} (hf : ∀ i, i < n → f i = g i) (hv : ∀ i, i < n → v i = u i) : given n f v = given n g u := by
  unfold given
  rw [List.filter_congr (q := g) (fun i hi => hf i (List.mem_range.mp hi))]
  exact List.map_congr_left fun i hi => hv i (List.mem_range.mp (List.mem_filter.mp hi).1)
end Os
/-! forests: the mathematics, and pairs of ints in the heap -/
namespace Os
open PySem PySem.Spec PyProof.Rows L2 Evl

abbrev Pr := Nat × Nat
/-! ### labels that are merged: the program's search for a cycle -/
def merge (t : List Nat) (e : Pr) : List Nat := t.map fun x => if x = t.getD e.2 0 then t.getD e.1 0 else x
def cycB : List Pr → List Nat → Bool
  | [], _ => false
  | e :: r, t => if t.getD e.1 0 = t.getD e.2 0 then true else cycB r (merge t e)
/-- each edge has a side that all other edges respect -/
def Bridges (es : List Pr) : Prop := ∀ e ∈ es, ∃ S : Nat → Bool, S e.1 ≠ S e.2 ∧ ∀ f ∈ es, f ≠ e → S f.1 = S f.2
theorem merge_length (t : List Nat) (e : Pr) : (merge t e).length = t.length := List.length_map ..
theorem getD_map {f : Nat → Nat} {t : List Nat} {i : Nat} (h : i < t.length) : (t.map f).getD i 0 = f (t.getD i 0) := by
  rw [List.getD_eq_getElem?_getD, List.getD_eq_getElem?_getD, List.getElem?_map, List.getElem?_eq_getElem h]
  rfl
/-- labels are equal only where every respected side is -/
def Fine (t : List Nat) (done : List Pr) : Prop := ∀ x y, x < t.length → y < t.length → t.getD x 0 = t.getD y 0 → ∀ S : Nat → Bool, (∀ f ∈ done, S f.1 = S f.2) → S x = S y
theorem fine_start (n : Nat) : Fine (List.range n) [] := fun x y hx hy e S _ => by
  rw [List.length_range] at hx hy
  rw [List.getD_eq_getElem?_getD, List.getD_eq_getElem?_getD, List.getElem?_range hx, List.getElem?_range hy] at e
  have e2 : x = y := e
  rw [e2]
theorem fine_merge {t : List Nat} {done : List Pr} {e : Pr} (h : Fine t done) (h1 : e.1 < t.length) (h2 : e.2 < t.length) : Fine (merge t e) (done ++ [e]) := fun x y hx hy q S hS => by
  rw [merge_length] at hx hy
  unfold merge at q
  rw [getD_map hx, getD_map hy] at q
  have hd : ∀ f ∈ done, S f.1 = S f.2 := fun f hf => hS f (List.mem_append_left _ hf)
  have he : S e.1 = S e.2 := hS e (by simp)
  by_cases a : t.getD x 0 = t.getD e.2 0
  · have sx := h x e.2 hx h2 a S hd
    by_cases b : t.getD y 0 = t.getD e.2 0
    · rw [sx, h y e.2 hy h2 b S hd]
    · rw [if_pos a, if_neg b] at q
      rw [sx, ← he, h e.1 y h1 hy q S hd]
  · by_cases b : t.getD y 0 = t.getD e.2 0
    · rw [if_neg a, if_pos b] at q
      rw [h x e.1 hx h1 q S hd, he, h y e.2 hy h2 b S hd]
    · rw [if_neg a, if_neg b] at q
      exact h x y hx hy q S hd
theorem cyc_none {es : List Pr} (br : Bridges es) (nd : es.Nodup) : ∀ (r done : List Pr) (t : List Nat), es = done ++ r → (∀ e ∈ r, e.1 < t.length ∧ e.2 < t.length) → Fine t done → cycB r t = false
  | [], _, _, _, _, _ => rfl
  | e :: r, done, t, he, hb, hf => by
    obtain ⟨b1, b2⟩ := hb e List.mem_cons_self
    obtain ⟨S, s1, s2⟩ := br e (by rw [he]; simp)
    have ne : ¬ t.getD e.1 0 = t.getD e.2 0 := fun q => s1 (hf e.1 e.2 b1 b2 q S fun f hf' => s2 f (by rw [he]; exact List.mem_append_left _ hf') fun z => by
      rw [he] at nd
      exact (List.nodup_append.mp nd).2.2 f hf' e List.mem_cons_self z)
    unfold cycB
    rw [if_neg ne]
    refine cyc_none br nd r (done ++ [e]) (merge t e) (by rw [he, List.append_assoc]; rfl) (fun f hf' => ?_) (fine_merge hf b1 b2)
    rw [merge_length]
    exact hb f (List.mem_cons_of_mem _ hf')
/-! ### order of pairs -/
def ltP (e f : Pr) : Bool := decide (e.1 < f.1) || (decide (e.1 = f.1) && decide (e.2 < f.2))
def ascB : List Pr → Bool
  | e :: f :: r => ltP e f && ascB (f :: r)
  | _ => true
/-- a forest's edges -/
structure Edges (n : Nat) (es : List Pr) : Prop where
  inn : ∀ e ∈ es, e.1 < e.2 ∧ e.2 < n
  asc : es.Pairwise fun e f => ltP e f = true
  br : Bridges es
theorem ltP_irr (e : Pr) : ltP e e = false := by
  unfold ltP
  rw [decide_eq_false (Nat.lt_irrefl _), decide_eq_false (Nat.lt_irrefl _), Bool.and_false]
  rfl
theorem ltP_iff {e f : Pr} : ltP e f = true ↔ e.1 < f.1 ∨ (e.1 = f.1 ∧ e.2 < f.2) := by
  unfold ltP
  simp only [Bool.or_eq_true, Bool.and_eq_true, decide_eq_true_eq]
theorem ltP_trans {e f g : Pr} (h1 : ltP e f = true) (h2 : ltP f g = true) : ltP e g = true := by
  rw [ltP_iff] at *
  omega
theorem Edges.nodup {n : Nat} {es : List Pr} (h : Edges n es) : es.Nodup := h.asc.imp fun {a b} q e => by
  rw [e, ltP_irr] at q
  cases q
theorem asc_of : ∀ {es : List Pr}, es.Pairwise (fun e f => ltP e f = true) → ascB es = true
  | [], _ => rfl
  | [_], _ => rfl
  | e :: f :: r, h => by
    obtain ⟨h1, h2⟩ := List.pairwise_cons.mp h
    show (ltP e f && ascB (f :: r)) = true
    rw [h1 f List.mem_cons_self, asc_of h2]
    rfl
theorem Edges.no_cyc {n : Nat} {es : List Pr} (h : Edges n es) : cycB es (List.range n) = false :=
  cyc_none h.br h.nodup es [] _ rfl (fun e he => by
    rw [List.length_range]
    have := h.inn e he
    omega) (fine_start n)

/-! ### pairs in the heap -/
/-- v is a tuple of the two ints -/
def PrV (G : Hp) (v : V) (e : Pr) : Prop := ∃ t, v = .ref t ∧ G t = some (.tup [.int (e.1 : Int), .int (e.2 : Int)])
inductive PrsV (G : Hp) : List V → List Pr → Prop
  | nil : PrsV G [] []
  | cons {v : V} {vs : List V} {e : Pr} {es : List Pr} : PrV G v e → PrsV G vs es → PrsV G (v :: vs) (e :: es)
theorem PrV.ex {G G' : Hp} (h : Ex G G') {v : V} {e : Pr} (p : PrV G v e) : PrV G' v e := by
  obtain ⟨t, e1, e2⟩ := p
  exact ⟨t, e1, h _ _ e2⟩
theorem PrsV.ex {G G' : Hp} (h : Ex G G') : ∀ {vs : List V} {es : List Pr}, PrsV G vs es → PrsV G' vs es
  | _, _, .nil => .nil
  | _, _, .cons p r => .cons (p.ex h) (PrsV.ex h r)
theorem PrsV.length {G : Hp} : ∀ {vs : List V} {es : List Pr}, PrsV G vs es → vs.length = es.length
  | _, _, .nil => rfl
  | _, _, .cons _ r => congrArg (· + 1) (PrsV.length r)
theorem PrsV.get {G : Hp} : ∀ {vs : List V} {es : List Pr} {i : Nat} {v : V}, PrsV G vs es → vs[i]? = some v → ∃ e, es[i]? = some e ∧ PrV G v e
  | _, _, _, _, .nil, h => by simp at h
  | _, _, 0, _, .cons p _, h => by simp at h; subst h; exact ⟨_, rfl, p⟩
  | _, _, i + 1, v, .cons _ r, h => by
    obtain ⟨e, h1, h2⟩ := PrsV.get (i := i) (v := v) r (by simpa using h)
    exact ⟨e, by simpa using h1, h2⟩
theorem PrsV.get' {G : Hp} : ∀ {vs : List V} {es : List Pr} {i : Nat} {e : Pr}, PrsV G vs es → es[i]? = some e → ∃ v, vs[i]? = some v ∧ PrV G v e
  | _, _, _, _, .nil, h => by simp at h
  | _, _, 0, _, .cons p _, h => by simp at h; subst h; exact ⟨_, rfl, p⟩
  | _, _, i + 1, e, .cons _ r, h => by
    obtain ⟨v, h1, h2⟩ := PrsV.get' (i := i) (e := e) r (by simpa using h)
    exact ⟨v, by simpa using h1, h2⟩
theorem PrsV.append {G : Hp} : ∀ {vs us : List V} {es fs : List Pr}, PrsV G vs es → PrsV G us fs → PrsV G (vs ++ us) (es ++ fs)
  | _, _, _, _, .nil, r => r
  | _, _, _, _, .cons p q, r => .cons p (PrsV.append q r)
theorem PrsV.drop {G : Hp} : ∀ {vs : List V} {es : List Pr} (i : Nat), PrsV G vs es → PrsV G (vs.drop i) (es.drop i)
  | _, _, 0, h => h
  | _, _, _ + 1, .nil => .nil
  | _, _, i + 1, .cons _ r => PrsV.drop i r
theorem PrsV.take {G : Hp} : ∀ {vs : List V} {es : List Pr} (i : Nat), PrsV G vs es → PrsV G (vs.take i) (es.take i)
  | _, _, 0, _ => .nil
  | _, _, _ + 1, .nil => .nil
  | _, _, i + 1, .cons p r => .cons p (PrsV.take i r)
theorem PrsV.reverse {G : Hp} : ∀ {vs : List V} {es : List Pr}, PrsV G vs es → PrsV G vs.reverse es.reverse
  | _, _, .nil => .nil
  | _, _, .cons p r => by
    rw [List.reverse_cons, List.reverse_cons]
    exact PrsV.append (PrsV.reverse r) (.cons p .nil)
theorem PrsV.perm {G : Hp} {vs us : List V} (h : vs.Perm us) : ∀ {es : List Pr}, PrsV G us es → ∃ fs, PrsV G vs fs ∧ fs.Perm es := by
  induction h with
  | nil => exact fun h => ⟨_, h, List.Perm.refl _⟩
  | cons x _ ih =>
    intro es h
    cases h with
    | cons p r =>
      obtain ⟨fs, h1, h2⟩ := ih r
      exact ⟨_, .cons p h1, h2.cons _⟩
  | swap x y l =>
    intro es h
    cases h with
    | cons p r =>
      cases r with
      | cons q r => exact ⟨_, .cons q (.cons p r), List.Perm.swap _ _ _⟩
  | trans _ _ ih1 ih2 =>
    intro es h
    obtain ⟨fs, h1, h2⟩ := ih2 h
    obtain ⟨gs, h3, h4⟩ := ih1 h1
    exact ⟨gs, h3, h4.trans h2⟩
def prD (e : Pr) : PyData := .tuple [.int (e.1 : Int), .int (e.2 : Int)]
theorem PrV.dt {G : Hp} {v : V} {e : Pr} (p : PrV G v e) : Dt G v (prD e) := by
  obtain ⟨t, rfl, h⟩ := p
  exact .tup h (.cons (.int _) (.cons (.int _) .nil))
theorem PrsV.dts {G : Hp} : ∀ {vs : List V} {es : List Pr}, PrsV G vs es → Dts G vs (es.map prD)
  | _, _, .nil => .nil
  | _, _, .cons p r => .cons p.dt (PrsV.dts r)
end Os
namespace K03
open PySem PySem.Spec PyProof.Rows L2 Os Evl
def topS (i : Nat) : Stmt := PySem.Challenge.pw_onceswapped_k03_neighbours_and_degrees.main.body.getD i (.Pass ⟨0, 0, 0, 0⟩)
abbrev sInt : Stmt := topS 6
theorem scInt : FnScope ["thing"] ["thing"] (defScope sInt) := ⟨rfl, rfl, rfl, by decide +kernel, rfl, by decide +kernel, by decide +kernel⟩
abbrev sPos : Stmt := topS 7
theorem scPos : FnScope ["n", "thing"] ["n", "thing"] (defScope sPos) := ⟨rfl, rfl, rfl, by decide +kernel, rfl, by decide +kernel, by decide +kernel⟩
abbrev sEdge : Stmt := topS 8
theorem scEdge : FnScope ["n", "thing", "p", "q"] ["n", "thing"] (defScope sEdge) := ⟨rfl, rfl, rfl, by decide +kernel, rfl, by decide +kernel, by decide +kernel⟩
abbrev sForest : Stmt := topS 9
theorem scForest : FnScope ["thing", "n", "edges", "edge"] ["thing"] (defScope sForest) := ⟨rfl, rfl, rfl, by decide +kernel, rfl, by decide +kernel, by decide +kernel⟩
abbrev sAsc : Stmt := topS 10
theorem scAsc : FnScope ["edges", "edge", "following"] ["edges"] (defScope sAsc) := ⟨rfl, rfl, rfl, by decide +kernel, rfl, by decide +kernel, by decide +kernel⟩
abbrev sCyc : Stmt := topS 11
theorem scCyc : FnScope ["n", "edges", "tree_of", "p", "q", "kept", "joined", "tree"] ["n", "edges"] (defScope sCyc) := ⟨rfl, rfl, rfl, by decide +kernel, rfl, by decide +kernel, by decide +kernel⟩

section
variable {P : Program} {w : World} {K : PySem.W.Frag} {mg : Str → Option Value} {base : Heap}
def intB : PyData → Bool
  | .int _ => true
  | _ => false
def numB : PyData → Bool
  | .int _ => true
  | .bool _ => true
  | _ => false
def isBlD : PyData → Bool
  | .bool _ => true
  | _ => false
theorem kit_int (d : PyData) : kitB (tyName d) "int" = some (numB d) := by
  cases d <;> (simp only [tyName, numB]; decide +kernel)
theorem kit_bool (d : PyData) : kitB (tyName d) "bool" = some (isBlD d) := by
  cases d <;> (simp only [tyName, isBlD]; decide +kernel)
def spInt : Sp := fun vs H Q _ => ∃ v d, vs = [v] ∧ Dt H v d ∧ ∀ H', Ex H H' → Q (.bl (intB d)) H'
theorem ok_int {f : Addr} {fd : FuncData} {k : Nat} (F : Fun K "is_integer" "is_integer" sInt f fd) (mIsi : mg "isinstance" = none) (mInt : mg "int" = none) (mBool : mg "bool" = none) : FnOk P w K mg base CX0 (k + 1) f fd ["thing"] spInt := by
  refine F.ok scInt (fun vs H Q E h => ?_) (fun cdv A outer s H vs Q E hr h => ?_)
  · obtain ⟨v, d, rfl, _⟩ := h
    rfl
  · obtain ⟨v, d, rfl, hd, q⟩ := h
    refine ⟨_, (pss_one (ps_ret (pe_and (pe_callB call_isi (by rfl) mIsi boot_isinstance (pa_cons (pv 0) (pa_cons (pe_bltn (v := .ty "int") (by rfl) mInt boot_int rfl) pa_nil))) (pe_one (pe_not (pe_callB call_isi (by rfl) mIsi boot_isinstance (pa_cons (pv 0) (pa_cons (pe_bltn (v := .ty "bool") (by rfl) mBool boot_bool rfl) pa_nil)))))))), ?_⟩
    refine s_ret (v := .bl (intB d)) (ev_is (ev_andV (ev_isi (ev_var rfl) hd (kit_int d)) fun _ => ev_notV (ev_isi (ev_var rfl) hd (kit_bool d))) (by cases d <;> rfl)) fun H1 e1 => q H1 e1
def posB (n : Int) : PyData → Bool
  | .int i => decide (0 ≤ i) && decide (i < n)
  | _ => false
def spPos : Sp := fun vs H Q _ => ∃ n v d, vs = [.int n, v] ∧ Dt H v d ∧ ∀ H', Ex H H' → Q (.bl (posB n d)) H'
theorem ok_pos {f fI : Addr} {fd fdI : FuncData} {k : Nat} (F : Fun K "is_position" "is_position" sPos f fd) (GI : FnOk P w K mg base CX0 k fI fdI ["thing"] spInt) (FI : Fun K "is_integer" "is_integer" sInt fI fdI) (bI : Binds K fdI ["thing"] []) (gI : mg "is_integer" = some (.ref fI)) :
    FnOk P w K mg base CX0 (k + 1) f fd ["n", "thing"] spPos := by
  refine F.ok scPos (fun vs H Q E h => ?_) (fun cdv A outer s H vs Q E hr h => ?_)
  · obtain ⟨n, v, d, rfl, _⟩ := h
    rfl
  · obtain ⟨n, v, d, rfl, hd, q⟩ := h
    refine ⟨_, (pss_one (ps_ret (pe_and (pe_call GI hr (by rfl) gI FI.kp bI .nil pass0 (pa_cons (pv 1) pa_nil)) (pe_one (pe_chain op_le op_lt pe_int (pv 1) (pv 0)))))), ?_⟩
    have e1 : Ev (tCall spInt [] E0 (tCons (tVar 1) tNil)) (start ["n", "thing"] [.int n, v]) H (.bl (intB d)) := ev_sp (ea_cons (ev_var rfl) ea_nil) fun H2 e2 Q q => ⟨v, d, rfl, hd.same (same_ex e2), fun H3 e3 => q H3 e3⟩
    cases hd with
    | int i => exact s_ret (v := .bl (posB n (.int i))) (ev_is (ev_andV (a := true) e1 fun _ => ev_chain ev_c (ev_var rfl) rv_I0 fun _ => ⟨_, ev_var rfl, rv_I0⟩) rfl) fun H2 e2 => q H2 e2
    | _ => exact s_ret (v := .bl false) (ev_andV (b := false) e1 fun h => nomatch h) fun H2 e2 => q H2 e2
def edgeB (n : Int) : PyData → Bool
  | .tuple [.int p, .int q] => posB n (.int p) && (posB n (.int q) && decide (p < q))
  | _ => false
def spEdge : Sp := fun vs H Q _ => ∃ n v d, vs = [.int n, v] ∧ Dt H v d ∧ ∀ H', Ex H H' → Q (.bl (edgeB n d)) H'
theorem edgeB_tup (n : Int) (d1 d2 : PyData) : edgeB n (.tuple [d1, d2]) = (posB n d1 && (posB n d2 && (match d1, d2 with | .int p, .int q => decide (p < q) | _, _ => false))) := by
  cases d1 <;> cases d2 <;> simp [edgeB, posB]
theorem edgeB_len (n : Int) : ∀ {ds : List PyData}, ds.length ≠ 2 → edgeB n (.tuple ds) = false
  | [], _ => rfl
  | [d], _ => by cases d <;> rfl
  | [_, _], h => absurd rfl h
  | d :: e :: _ :: _, _ => by cases d <;> cases e <;> rfl
theorem ev_lenT {K : PySem.W.Frag} {σ : L2.St} {H : Hp} {ta : TE} {p : Addr} {xs : List V} (ha : Ev ta σ H (.ref p)) (h : H p = some (.tup xs)) :
    Ev (tCB (fun xs H Q => ∃ p ys, xs = [V.ref p] ∧ (SqL K H p ys ∨ SqT K H p ys) ∧ Q (.int ys.length) H) (tCons ta tNil)) σ H (.int (xs.length : Int)) := fun H1 e Q q =>
  ha H1 e _ fun H2 e2 => ⟨p, xs, rfl, .inr (st_of ((e.trans e2) _ _ h)), q H2 e2⟩
theorem ok_edge {f fP : Addr} {fd fdP : FuncData} {k : Nat} (F : Fun K "is_edge" "is_edge" sEdge f fd) (GP : FnOk P w K mg base CX0 k fP fdP ["n", "thing"] spPos) (FP : Fun K "is_position" "is_position" sPos fP fdP) (bP : Binds K fdP ["n", "thing"] []) (gP : mg "is_position" = some (.ref fP))
    (mIsi : mg "isinstance" = none) (mTup : mg "tuple" = none) (mLen : mg "len" = none) : FnOk P w K mg base CX0 (k + 1) f fd ["n", "thing"] spEdge := by
  refine F.ok scEdge (fun vs H Q E h => ?_) (fun cdv A outer s H vs Q E hr h => ?_)
  · obtain ⟨n, v, d, rfl, _⟩ := h
    rfl
  · obtain ⟨n, v, d, rfl, hd, q⟩ := h
    refine ⟨_, (pss_cons (ps_if (PW.pt (pw_or (pt_not (pt_val (pe_callB call_isi (by rfl) mIsi boot_isinstance (pa_cons (pv 1) (pa_cons (pe_bltn (v := .ty "tuple") (by rfl) mTup boot_tuple rfl) pa_nil))))) (pw_or1 (pt_cmpR op_ne (pe_callB call_len_seq (by rfl) mLen boot_len (pa_cons (pv 1) pa_nil)) pe_int (nomark _))))) (pss_one (ps_ret pe_bl)) pss_nil)
      (pss_cons (ps_asg (pv 1) (pg_tup rfl (pgs_cons (pg_name (i := 2) scEdge.nd rfl (Or.inl rfl)) (pgs_cons (pg_name (i := 3) scEdge.nd rfl (Or.inl rfl)) pgs_nil))))
      (pss_one (ps_ret (pe_and (pe_call GP hr (by rfl) gP FP.kp bP .nil pass0 (pa_cons (pv 0) (pa_cons (pv 2) pa_nil))) (pe_and (pe_call GP hr (by rfl) gP FP.kp bP .nil pass0 (pa_cons (pv 0) (pa_cons (pv 3) pa_nil))) (pe_one (pe_cmpR op_lt (pv 2) (pv 3) (nomark _))))))))), ?_⟩
    have e0 : Ev (tVar 1) (start ["n", "thing", "p", "q"] [.int n, v]) H v := ev_var rfl
    rcases hd.tup_or with ⟨a, xs, ds, rfl, ha, ht, rfl⟩ | hn
    · have hlen : xs.length = ds.length := ht.length
      refine q_when (b := !true || !decide (V.int xs.length = V.int 2)) (et_or (et_not (et_B (ev_isi e0 hd (kit_tup _)))) fun _ => et_test (ev_op (ev_lenT e0 ha) ev_c (rv_ne rfl))) ?_ ?_
      · intro hb H1 e1
        have hb2 : (!decide (V.int xs.length = V.int 2)) = true := hb
        have hb3 := of_decide_eq_false ((Bool.not_eq_true' _).mp hb2)
        have e2 := edgeB_len n (ds := ds) fun z => hb3 (by rw [hlen, z]; rfl)
        refine s_ret (v := .bl false) ev_c fun H2 e3 => ?_
        rw [← e2]
        exact q H2 (e1.trans e3)
      · intro hb H1 e1
        have hb2 : (!decide (V.int xs.length = V.int 2)) = false := hb
        have hb3 := V.int.inj (of_decide_eq_true ((Bool.not_eq_false' _).mp hb2))
        have t1 := ht.same (same_ex e1)
        have ha1 := e1 _ _ ha
        match xs, ds, t1, hb3, ha1 with
        | [x, y], [d1, d2], .cons h1 (.cons h2 .nil), _, ha1 =>
          refine ⟨.ref a, rfl, a, [x, y], rfl, st_of ha1, rfl, x, [y], rfl, y, [], rfl, rfl, ?_⟩
          have ep : ∀ {i : Nat} {z : V} {d : PyData} {σ : L2.St}, σ[0]? = some (some (.int n)) → σ[i]? = some (some z) → Dt H1 z d → Ev (tCall spPos [] E0 (tCons (tVar 0) (tCons (tVar i) tNil))) σ H1 (.bl (posB n d)) := fun g1 g2 g3 =>
            ev_sp (ea_cons (ev_var g1) (ea_cons (ev_var g2) ea_nil)) fun H2 e2 Q q => ⟨n, _, _, rfl, g3.same (same_ex e2), fun H3 e3 => q H3 e3⟩
          dsimp only
          refine s_ret (v := .bl (edgeB n (.tuple [d1, d2]))) ?_ fun H2 e2 => q H2 (e1.trans e2)
          rw [edgeB_tup]
          refine ev_andV (ep rfl rfl h1) fun p1 => ev_andV (ep rfl rfl h2) fun p2 => ?_
          cases h1 with
          | int i =>
            cases h2 with
            | int j => exact ev_op (ev_var rfl) (ev_var rfl) rv_I0
            | _ => cases p2
          | _ => cases p1
    · refine q_when (b := true) (et_is (et_or (b := true) (et_not (et_B (ev_isi e0 hd (kit_tup _)))) fun hs => ?_) ?_) ?_ ?_
      · rw [hn] at hs
        cases hs
      · rw [hn]
        rfl
      · intro _ H1 e1
        have : edgeB n d = false := by
          cases d <;> first | rfl | cases hn
        refine s_ret (v := .bl false) ev_c fun H2 e3 => ?_
        rw [← this]
        exact q H2 (e1.trans e3)
      · intro hb
        cases hb
end
end K03
namespace K03
open PySem PySem.Spec PyProof.Rows L2 Os Evl
def ascL : List Pr → List Bool
  | e :: f :: r => Os.ltP e f :: ascL (f :: r)
  | _ => []
theorem ascL_len : ∀ es : List Pr, (ascL es).length = es.length - 1
  | [] => rfl
  | [_] => rfl
  | e :: f :: r => by
    show (ascL (f :: r)).length + 1 = r.length + 2 - 1
    rw [ascL_len (f :: r)]
    show (r.length + 1 - 1) + 1 = _
    omega
theorem ascL_at : ∀ {es : List Pr} {i : Nat} {e f : Pr}, es[i]? = some e → es[i + 1]? = some f → (ascL es)[i]? = some (Os.ltP e f)
  | [], _, _, _, h, _ => by simp at h
  | [_], _, _, _, _, h => by simp at h
  | a :: b :: r, 0, e, f, h1, h2 => by
    cases h1
    cases h2
    rfl
  | a :: b :: r, i + 1, e, f, h1, h2 => ascL_at (es := b :: r) (i := i) h1 h2
theorem ascL_all : ∀ es : List Pr, (ascL es).all id = ascB es
  | [] => rfl
  | [_] => rfl
  | e :: f :: r => by
    show (Os.ltP e f && (ascL (f :: r)).all id) = (Os.ltP e f && ascB (f :: r))
    rw [ascL_all (f :: r)]
theorem lex_pr (e f : Pr) : HT.lexLt [(e.1 : Int), (e.2 : Int)] [(f.1 : Int), (f.2 : Int)] = Os.ltP e f := by
  show (if (e.1 : Int) = (f.1 : Int) then (if (e.2 : Int) = (f.2 : Int) then false else decide ((e.2 : Int) < (f.2 : Int))) else decide ((e.1 : Int) < (f.1 : Int))) = Os.ltP e f
  unfold Os.ltP
  by_cases h1 : e.1 = f.1
  · rw [if_pos (by omega), decide_eq_true h1, decide_eq_false (show ¬ e.1 < f.1 by omega)]
    by_cases h2 : e.2 = f.2
    · rw [if_pos (by omega), decide_eq_false (show ¬ e.2 < f.2 by omega)]
      rfl
    · rw [if_neg (by omega), decide_eq_decide.mpr (show (e.2 : Int) < (f.2 : Int) ↔ e.2 < f.2 by omega)]
      cases decide (e.2 < f.2) <;> rfl
  · rw [if_neg (by omega), decide_eq_false h1, decide_eq_decide.mpr (show (e.1 : Int) < (f.1 : Int) ↔ e.1 < f.1 by omega)]
    cases decide (e.1 < f.1) <;> rfl
theorem cut_drop1 (xs : List V) : cutV xs (some 1) none = xs.drop 1 := by
  unfold cutV
  rw [HT.sIx_none, show HT.sIx xs.length 0 (some 1) = min 1 xs.length from HT.sIx_nat xs.length 0 1]
  cases xs with
  | nil => rfl
  | cons x r =>
    rw [show min 1 (x :: r).length = 1 by rw [List.length_cons]; omega]
    show List.take ((x :: r).length - 1) r = r
    rw [List.length_cons, Nat.add_sub_cancel, List.take_length]
section
variable {K : PySem.W.Frag} {σ : L2.St} {H : Hp} {ta tb : TE} {tz : TS} {D : Ends} {x y : V}
/-- i, j = a, b by a tuple -/
theorem q_asgPair {i j n : Nat} (ha : Ev ta σ H x) (hb : Ev tb σ H y) (hn : n = 2) (k : ∀ H1, Ex H H1 → tz D ((σ.set i (some x)).set j (some y)) H1) : tSeq (tAsg (tTup (tCons ta (tCons tb tNil))) (gTup K n (gCons (gName i) (gCons (gName j) gNil)))) tz D σ H :=
  ha H (Ex.refl H) _ fun H2 e2 => hb H2 e2 _ fun H3 e3 => ⟨(show 2 ≤ sizeLine by decide), fun p hp => ⟨p, [x, y], rfl, st_of upd_same, hn.symm, x, [y], rfl, y, [], rfl, rfl, k _ ((e2.trans e3).trans (Ex.new hp))⟩⟩
end
section
variable {P : Program} {w : World} {K : PySem.W.Frag} {mg : Str → Option Value} {base : Heap}
def spAsc : Sp := fun vs H Q _ => ∃ (a : Addr) (xs : List V) (es : List Pr), vs = [.ref a] ∧ H a = some (.lst xs) ∧ PrsV H xs es ∧ es.length ≤ 1000 ∧ ∀ H', Ex H H' → Q (.bl (ascB es)) H'
theorem ok_asc {f : Addr} {fd : FuncData} {k : Nat} (F : Fun K "_is_ascending" "_is_ascending" sAsc f fd) (mAll : mg "all" = none) (mZip : mg "zip" = none) : FnOk P w K mg base CX0 (k + 1) f fd ["edges"] spAsc := by
  refine F.ok scAsc (fun vs H Q E h => ?_) (fun cdv A outer s H vs Q E hr h => ?_)
  · obtain ⟨a, xs, es, rfl, _⟩ := h
    rfl
  · obtain ⟨a, xs, es, rfl, ha, hp, hl, q⟩ := h
    refine ⟨_, (pss_one (ps_ret (pe_callB (cr_all rfl) (by rfl) mAll boot_all (pa_cons (pe_lc (own := [("edge", 1), ("following", 2)]) (g := gTup K 2 (gCons (gName 1) (gCons (gName 2) gNil))) (tt := tYes) (te := tOp (rLtT K) (tVar 1) (tVar 2)) rfl scAsc.nd (pi_zip (by rfl) mZip (pa_cons (pv 0) (pa_cons (pe_slice sl_list (pv 0) (po_some pe_int) po_none) pa_nil))) (blkOk_by (N := ["edges", "edge", "following"]) (sc := defScope sAsc) (by decide +kernel)) (fun _ _ _ _ _ => pg_tup rfl (pgs_cons (pg_name (i := 1) scAsc.nd rfl (Or.inl rfl)) (pgs_cons (pg_name (i := 2) scAsc.nd rfl (Or.inl rfl)) pgs_nil))) (fun _ _ _ _ _ => pts_nil) (fun _ _ _ _ _ => pe_cmpR (op_ltT hr.units0) (pv 1) (pv 2) (nomark _))) pa_nil)))), ?_⟩
    have hlen := hp.length
    refine s_ret (v := .bl (ascB es)) (ev_is (ev_all (bs := ascL es) ?_) (by rw [ascL_all])) fun H1 e1 => q H1 e1
    intro H0 e0 Q' q'
    refine ⟨.ref a, rfl, .ref a, rfl, 1, rfl, a, xs, rfl, sq_of (e0 _ _ ha), fun c nc => ?_⟩
    rw [cut_drop1]
    have e1 : Ex H0 (upd H0 c (.lst (xs.drop 1))) := Ex.new nc
    refine ⟨a, c, xs, xs.drop 1, rfl, sq_of (e1 _ _ (e0 _ _ ha)), sq_of upd_same, fun D hD => ?_⟩
    have hD0 : H0 D = none := fresh_back e1 hD
    refine lc_it (walk_zip (n := es.length - 1) (by rw [List.length_drop]; omega)) (fun i Hh => Ex (upd H0 c (.lst (xs.drop 1))) Hh ∧ Hh D = some (.lst (((ascL es).take i).map V.bl))) ⟨Ex.new hD, upd_same⟩ (fun i Hh _ p => ⟨sq_of (p.1 _ _ (e1 _ _ (e0 _ _ ha))), sq_of (p.1 _ _ upd_same)⟩) ?_ ?_
    · rintro i v Ha Hb hi ⟨p1, p2⟩ ⟨T, x, y, rfl, nT, rfl, hx, hy⟩
      have hx' : xs[i]? = some x := hx
      have hy' : (xs.drop 1)[i]? = some y := hy
      rw [List.getElem?_drop, Nat.add_comm 1 i] at hy'
      obtain ⟨e, he, t1, rfl, ht1⟩ := hp.get hx'
      obtain ⟨g, hg, t2, rfl, ht2⟩ := hp.get hy'
      have eT : Ex Ha (upd Ha T (.tup [.ref t1, .ref t2])) := Ex.new nT
      have eA : Ex H (upd Ha T (.tup [.ref t1, .ref t2])) := ((e0.trans e1).trans p1).trans eT
      refine ⟨T, [.ref t1, .ref t2], rfl, st_of upd_same, rfl, .ref t1, [.ref t2], rfl, .ref t2, [], rfl, rfl, rfl, ?_⟩
      show tOp (rLtT K) (tVar 1) (tVar 2) _ _ _
      refine ⟨.ref t1, rfl, .ref t2, rfl, t1, t2, [(e.1 : Int), (e.2 : Int)], [(g.1 : Int), (g.2 : Int)], rfl, rfl, st_of (eA _ _ ht1), st_of (eA _ _ ht2), ((ascL es).take i).map V.bl, eT _ _ p2, sz_lt (by rw [List.length_map, List.length_take]; omega), Ex.mut (p1.trans eT) hD, ?_⟩
      rw [lex_pr, List.take_add_one, ascL_at he hg, List.map_append]
      exact upd_same
    · rintro Hh ⟨p1, p2⟩
      rw [List.take_of_length_le (by rw [ascL_len]; omega)] at p2
      exact q' D Hh hD0 (e1.trans p1) p2
def spCyc : Sp := fun vs H Q _ => ∃ (n : Nat) (a : Addr) (xs : List V) (es : List Pr), vs = [.int (n : Int), .ref a] ∧ H a = some (.lst xs) ∧ PrsV H xs es ∧ n ≤ 1000 ∧ (∀ e ∈ es, e.1 < n ∧ e.2 < n) ∧ ∀ H', Ex H H' → Q (.bl (cycB es (List.range n))) H'
theorem ok_cyc {f : Addr} {fd : FuncData} {k : Nat} (F : Fun K "_has_cycle" "_has_cycle" sCyc f fd) (mList : mg "list" = none) (mRange : mg "range" = none) : FnOk P w K mg base CX0 (k + 1) f fd ["n", "edges"] spCyc := by
  refine F.ok scCyc (fun vs H Q E h => ?_) (fun cdv A outer s H vs Q E hr h => ?_)
  · obtain ⟨n, a, xs, es, rfl, _⟩ := h
    rfl
  · obtain ⟨n, a, xs, es, rfl, ha, hp, hn, hb, q⟩ := h
    refine ⟨_, (pss_cons (ps_set (i := 2) scCyc.nd rfl (.inl rfl) (pe_listRg rfl (by rfl) mList (prg_1 (by rfl) mRange (pv 0))))
      (pss_cons (ps_for PassesOwn.never rfl (pi_list (pv 1)) (pg_tup rfl (pgs_cons (pg_name (i := 3) scCyc.nd rfl (Or.inl rfl)) (pgs_cons (pg_name (i := 4) scCyc.nd rfl (Or.inl rfl)) pgs_nil)))
      (pss_cons (ps_asg (pe_tup (pa_cons (pe_ix ix_list (pv 2) (pv 3) (fun _ _ => rfl)) (pa_cons (pe_ix ix_list (pv 2) (pv 4) (fun _ _ => rfl)) pa_nil))) (pg_tup rfl (pgs_cons (pg_name (i := 5) scCyc.nd rfl (Or.inr rfl)) (pgs_cons (pg_name (i := 6) scCyc.nd rfl (Or.inr rfl)) pgs_nil))))
      (pss_cons (ps_if (pt_cmpR op_eq (pv 5) (pv 6) (nomark _)) (pss_one (ps_ret pe_bl)) pss_nil)
      (pss_one (ps_setLc (i := 2) (own := [("tree", 7)]) (g := gName 7) (tt := tYes) rfl scCyc.nd rfl rfl (sw_true rfl rfl rfl (by decide +kernel)) (pi_list (pv 2)) (blkOk_by (N := ["n", "edges", "tree_of", "p", "q", "kept", "joined", "tree"]) (sc := defScope sCyc) (by decide +kernel)) (fun _ _ _ _ _ => pg_name (i := 7) scCyc.nd rfl (Or.inl rfl)) (fun _ _ _ _ _ => pts_nil) (fun _ _ _ _ _ => pe_ifExp (pt_cmpR op_eq (pv 7) (pv 6) (nomark _)) (pv 5) (pv 7)))))))
      (pss_one (ps_ret pe_bl)))), ?_⟩
    have hlen := hp.length
    refine ⟨.int (n : Int), rfl, (n : Int), rfl, RgOk.of_le (by omega) (by omega) (by omega) (by omega), fun L hL => ?_⟩
    have e1 : Ex H (upd H L (.lst (rgV 0 (n : Int)))) := Ex.new hL
    have rg : rgV 0 (n : Int) = (List.range n).map fun x : Nat => V.int (x : Int) := by
      unfold rgV
      rw [show ((n : Int) - 0).toNat = n by omega]
      exact List.map_congr_left fun i _ => congrArg V.int (by omega)
    have hb' : ∀ e ∈ es, e.1 < n ∧ e.2 < n := hb
    refine q_forL (xs := xs) (ev_var rfl) (sq_of (e1 _ _ ha)) (fun i σ' H' => Ex H H' ∧ ∃ (t : List Nat) (M : Addr) (y3 y4 y5 y6 y7 : Option V), σ' = [some (.int (n : Int)), some (.ref a), some (.ref M), y3, y4, y5, y6, y7] ∧ H' M = some (.lst (t.map fun x : Nat => V.int (x : Int))) ∧ t.length = n ∧ cycB (es.drop i) t = cycB es (List.range n))
      (fun H2 e2 => ⟨e1.trans e2, List.range n, L, _, _, _, _, _, rfl, e2 _ _ (by rw [← rg]; exact upd_same), List.length_range, rfl⟩) (fun i σ' H' _ h => sq_of (h.1 _ _ ha)) ?_ ?_
    · rintro i x σ' H2 hx ⟨e2, t, M, y3, y4, y5, y6, y7, rfl, hM, tl, cy⟩
      obtain ⟨e, he, tp, rfl, htp⟩ := hp.get hx
      obtain ⟨b1, b2⟩ := hb e (List.mem_of_getElem? he)
      refine ⟨tp, _, rfl, st_of (e2 _ _ htp), rfl, _, _, rfl, _, [], rfl, rfl, ?_⟩
      have at' : ∀ {j : Nat}, j < n → (t.map fun x : Nat => V.int (x : Int))[j]? = some (.int ((t.getD j 0 : Nat) : Int)) := fun {j} hj => by
        rw [List.getElem?_map, List.getD_eq_getElem?_getD, List.getElem?_eq_getElem (by omega)]
        rfl
      refine q_asgPair (x := .int ((t.getD e.1 0 : Nat) : Int)) (y := .int ((t.getD e.2 0 : Nat) : Int)) (ev_op (ev_var rfl) (ev_var rfl) (rv_ixL (sq_of hM) (atI_nat (at' b1)))) (ev_op (ev_var rfl) (ev_var rfl) (rv_ixL (sq_of hM) (atI_nat (at' b2)))) rfl fun H3 e3 => ?_
      have hd : es.drop i = e :: es.drop (i + 1) := by
        have lt := (List.getElem?_eq_some_iff.mp he).1
        rw [List.drop_eq_getElem_cons lt, (List.getElem?_eq_some_iff.mp he).2]
      rw [hd] at cy
      refine q_when (b := decide (V.int ((t.getD e.1 0 : Nat) : Int) = V.int ((t.getD e.2 0 : Nat) : Int))) (et_test (ev_op (ev_var rfl) (ev_var rfl) (rv_eq rfl))) (fun hq H4 e4 => ?_) (fun hq H4 e4 => ?_)
      · have eq : t.getD e.1 0 = t.getD e.2 0 := by
          have := V.int.inj (of_decide_eq_true hq)
          omega
        have c1 : cycB (e :: es.drop (i + 1)) t = true := if_pos eq
        rw [c1] at cy
        refine s_ret (v := .bl true) ev_c fun H5 e5 => ?_
        rw [cy]
        exact q H5 (((e2.trans e3).trans e4).trans e5)
      · have ne : ¬ t.getD e.1 0 = t.getD e.2 0 := fun z => of_decide_eq_false hq (by rw [z])
        have c1 : cycB (e :: es.drop (i + 1)) t = cycB (es.drop (i + 1)) (merge t e) := if_neg ne
        rw [c1] at cy
        have hM4 := e4 _ _ (e3 _ _ hM)
        refine s_asgL (xs := (merge t e).map fun x : Nat => V.int (x : Int)) ?_ fun M' H5 hM' e5 h5 => ?_
        · unfold merge
          rw [List.map_map, ← given_map t ((fun x : Nat => V.int (x : Int)) ∘ fun x => if x = t.getD e.2 0 then t.getD e.1 0 else x) (fun i => .int ((if t.getD i 0 = t.getD e.2 0 then t.getD e.1 0 else t.getD i 0 : Nat) : Int)) (fun i x e => by
            rw [List.getD_eq_getElem?_getD, e]
            rfl)]
          rw [show t.length = (t.map fun x : Nat => V.int (x : Int)).length by rw [List.length_map]]
          refine el_lcL (f := fun _ => true) (v := _) (ev_var rfl) (sq_of hM4) (by rw [List.length_map]; omega) (fun _ => rfl) (fun i c H2 _ _ => fun H3 e3 Q q => q H3 (Ex.refl H3)) (fun i x H6 e6 hx' _ => ?_)
          rw [List.getElem?_map] at hx'
          cases hti : t[i]? with
          | none => rw [hti] at hx'; cases hx'
          | some z =>
            rw [hti] at hx'
            cases hx'
            have ez : t.getD i 0 = z := by rw [List.getD_eq_getElem?_getD, hti]; rfl
            rw [ez]
            refine ev_if (b := decide (V.int (z : Int) = V.int ((t.getD e.2 0 : Nat) : Int))) (et_test (ev_op (ev_var rfl) (ev_var rfl) (rv_eq rfl))) (fun hb => ?_) (fun hb => ?_)
            · have : z = t.getD e.2 0 := by
                have := V.int.inj (of_decide_eq_true hb)
                omega
              rw [if_pos this]
              exact ev_var rfl
            · have : ¬ z = t.getD e.2 0 := fun y => of_decide_eq_false hb (by rw [y])
              rw [if_neg this]
              exact ev_var rfl
        · exact ⟨((e2.trans e3).trans e4).trans e5, merge t e, M', _, _, _, _, _, rfl, h5, by rw [merge_length, tl], cy⟩
    · rintro σ' H2 ⟨e2, t, M, y3, y4, y5, y6, y7, rfl, hM, tl, cy⟩
      rw [hlen, List.drop_length] at cy
      refine s_ret (v := .bl false) ev_c fun H3 e3 => ?_
      rw [show false = cycB es (List.range n) from cy]
      exact q H3 (e2.trans e3)
end
end K03
namespace K03
open PySem PySem.Spec PyProof.Rows L2 Os Evl
/-- a pair of a size and a list of edges -/
def GraphV (G : Hp) (v : V) (n : Nat) (es : List Pr) : Prop := ∃ (g a : Addr) (xs : List V), v = .ref g ∧ G g = some (.tup [.int (n : Int), .ref a]) ∧ G a = some (.lst xs) ∧ PrsV G xs es
theorem GraphV.ex {G G' : Hp} {v : V} {n : Nat} {es : List Pr} (h : GraphV G v n es) (e : Ex G G') : GraphV G' v n es := by
  obtain ⟨g, a, xs, h1, h2, h3, h4⟩ := h
  exact ⟨g, a, xs, h1, e _ _ h2, e _ _ h3, h4.ex e⟩
theorem GraphV.dt {G : Hp} {v : V} {n : Nat} {es : List Pr} (h : GraphV G v n es) : Dt G v (.tuple [.int (n : Int), .list (es.map Os.prD)]) := by
  obtain ⟨g, a, xs, rfl, h2, h3, h4⟩ := h
  exact .tup h2 (.cons (.int _) (.cons (.lst h3 h4.dts) .nil))
/-- a forest, no larger than the document's -/
structure IsForest (n : Nat) (es : List Pr) : Prop where
  edges : Edges n es
  n1 : 1 ≤ n
  n40 : n ≤ 40
  few : es.length ≤ 60
theorem edge_ok {n : Nat} {es : List Pr} (h : IsForest n es) {e : Pr} (he : e ∈ es) : edgeB (n : Int) (Os.prD e) = true := by
  obtain ⟨h1, h2⟩ := h.edges.inn e he
  show (decide (0 ≤ (e.1 : Int)) && decide ((e.1 : Int) < (n : Int)) && (decide (0 ≤ (e.2 : Int)) && decide ((e.2 : Int) < (n : Int)) && decide ((e.1 : Int) < (e.2 : Int)))) = true
  rw [decide_eq_true (show 0 ≤ (e.1 : Int) by omega), decide_eq_true (show (e.1 : Int) < (n : Int) by omega), decide_eq_true (show 0 ≤ (e.2 : Int) by omega), decide_eq_true (show (e.2 : Int) < (n : Int) by omega), decide_eq_true (show (e.1 : Int) < (e.2 : Int) by omega)]
  rfl
section
variable {P : Program} {w : World} {K : PySem.W.Frag} {mg : Str → Option Value} {base : Heap}
def spForest : Sp := fun vs H Q _ => ∃ (v : V) (n : Nat) (es : List Pr), vs = [v] ∧ GraphV H v n es ∧ IsForest n es ∧ ∀ H', Ex H H' → Q (.bl true) H'
theorem ok_forest {f fI fE fA fC : Addr} {fd fdI fdE fdA fdC : FuncData} {k : Nat} (F : Fun K "is_forest" "is_forest" sForest f fd)
    (GI : FnOk P w K mg base CX0 k fI fdI ["thing"] spInt) (FI : Fun K "is_integer" "is_integer" sInt fI fdI) (bI : Binds K fdI ["thing"] []) (gI : mg "is_integer" = some (.ref fI))
    (GE : FnOk P w K mg base CX0 k fE fdE ["n", "thing"] spEdge) (FE : Fun K "is_edge" "is_edge" sEdge fE fdE) (bE : Binds K fdE ["n", "thing"] []) (gE : mg "is_edge" = some (.ref fE))
    (GA : FnOk P w K mg base CX0 k fA fdA ["edges"] spAsc) (FA : Fun K "_is_ascending" "_is_ascending" sAsc fA fdA) (bA : Binds K fdA ["edges"] []) (gA : mg "_is_ascending" = some (.ref fA))
    (GC : FnOk P w K mg base CX0 k fC fdC ["n", "edges"] spCyc) (FC : Fun K "_has_cycle" "_has_cycle" sCyc fC fdC) (bC : Binds K fdC ["n", "edges"] []) (gC : mg "_has_cycle" = some (.ref fC))
    (mIsi : mg "isinstance" = none) (mTup : mg "tuple" = none) (mLen : mg "len" = none) (mList : mg "list" = none) (mAll : mg "all" = none) {t40 : Tok} (m40 : mg "MOST_POSITIONS" = some (.int 40 t40)) : FnOk P w K mg base CX0 (k + 1) f fd ["thing"] spForest := by
  refine F.ok scForest (fun vs H Q E h => ?_) (fun cdv A outer s H vs Q E hr h => ?_)
  · obtain ⟨v, n, es, rfl, _⟩ := h
    rfl
  · obtain ⟨v, n, es, rfl, hg, ok, q⟩ := h
    refine ⟨_, (pss_cons (ps_if (PW.pt (pw_or (pt_not (pt_val (pe_callB call_isi (by rfl) mIsi boot_isinstance (pa_cons (pv 0) (pa_cons (pe_bltn (v := .ty "tuple") (by rfl) mTup boot_tuple rfl) pa_nil))))) (pw_or1 (pt_cmpR op_ne (pe_callB call_len_seq (by rfl) mLen boot_len (pa_cons (pv 0) pa_nil)) pe_int (nomark _))))) (pss_one (ps_ret pe_bl)) pss_nil)
      (pss_cons (ps_asg (pv 0) (pg_tup rfl (pgs_cons (pg_name (i := 1) scForest.nd rfl (Or.inr rfl)) (pgs_cons (pg_name (i := 2) scForest.nd rfl (Or.inl rfl)) pgs_nil))))
      (pss_cons (ps_if (PW.pt (pw_or (pt_not (pt_val (pe_call GI hr (by rfl) gI FI.kp bI .nil pass0 (pa_cons (pv 1) pa_nil)))) (pw_or1 (pt_not (pt_chain op_le op_le pe_int (pv 1) (pe_glob (v := .int 40) (by rfl) m40 ⟨_, rfl⟩)))))) (pss_one (ps_ret pe_bl)) pss_nil)
      (pss_cons (ps_if (PW.pt (pw_or (pt_not (pt_val (pe_callB call_isi (by rfl) mIsi boot_isinstance (pa_cons (pv 2) (pa_cons (pe_bltn (v := .ty "list") (by rfl) mList boot_list rfl) pa_nil))))) (pw_or1 (pt_not (pt_val (pe_callB (cr_all rfl) (by rfl) mAll boot_all (pa_cons (pe_lc (own := [("edge", 3)]) (g := gName 3) (tt := tYes) rfl scForest.nd (pi_list (pv 2)) (blkOk_by (N := ["thing", "n", "edges", "edge"]) (sc := defScope sForest) (by decide +kernel)) (fun _ _ _ _ _ => pg_name (i := 3) scForest.nd rfl (Or.inl rfl)) (fun _ _ _ _ _ => pts_nil) (fun _ _ _ _ _ => (pe_call GE hr (by rfl) gE FE.kp bE .nil pass0 (pa_cons (pv 1) (pa_cons (pv 3) pa_nil))))) pa_nil))))))) (pss_one (ps_ret pe_bl)) pss_nil)
      (pss_one (ps_ret (pe_and (pe_call GA hr (by rfl) gA FA.kp bA .nil pass0 (pa_cons (pv 2) pa_nil)) (pe_one (pe_not (pe_call GC hr (by rfl) gC FC.kp bC .nil pass0 (pa_cons (pv 1) (pa_cons (pv 2) pa_nil)))))))))))), ?_⟩
    have hd := hg.dt
    obtain ⟨g, a, xs, rfl, h2, h3, h4⟩ := hg
    have hlen := h4.length
    refine q_when (b := false) (et_is (et_or (a := !true) (b := false) (et_not (et_B (ev_isi (ev_var rfl) hd (kit_tup _)))) fun _ => et_test (ev_is (ev_op (ev_lenT (ev_var rfl) h2) ev_c (rv_ne rfl)) rfl)) rfl) (fun h => nomatch h) fun _ H1 e1 => ?_
    refine ⟨.ref g, rfl, g, _, rfl, st_of (e1 _ _ h2), rfl, .int (n : Int), _, rfl, .ref a, [], rfl, rfl, ?_⟩
    have eint : ∀ {σ : L2.St} {H2 : Hp}, σ[1]? = some (some (.int (n : Int))) → Ev (tCall spInt [] E0 (tCons (tVar 1) tNil)) σ H2 (.bl true) := fun g1 =>
      ev_sp (ea_cons (ev_var g1) ea_nil) fun H3 e3 Q q => ⟨_, .int (n : Int), rfl, .int _, fun H4 e4 => q H4 e4⟩
    have n1 := ok.n1
    have n40 := ok.n40
    refine q_when (b := false) (et_is (et_or (a := !true) (b := !(decide ((1 : Int) ≤ (n : Int)) && decide ((n : Int) ≤ 40))) (et_not (et_B (eint rfl))) fun _ => et_not (et_test (ev_chain ev_c (ev_var rfl) rv_I0 fun _ => ⟨_, ev_c, rv_I0⟩)))
      (by rw [decide_eq_true (show (1 : Int) ≤ (n : Int) by omega), decide_eq_true (show (n : Int) ≤ 40 by omega)]; rfl)) (fun h => nomatch h) fun _ H2 e2 => ?_
    have e12 := e1.trans e2
    have hl2 : Dt H2 (.ref a) (.list (es.map Os.prD)) := .lst (e12 _ _ h3) (h4.ex e12).dts
    refine q_when (b := false) (et_is (et_or (a := !true) (b := !true) (et_not (et_B (ev_isi (ev_var rfl) hl2 (kit_list _)))) fun _ => et_not (et_B (ev_is (ev_all (bs := es.map fun _ => true) ?_) ?_))) rfl) (fun h => nomatch h) fun _ H3 e3 => ?_
    · rw [List.map_map, ← given_map es (V.bl ∘ fun _ => true) (fun _ => .bl true) (fun _ _ _ => rfl), ← hlen]
      refine el_lcL (f := fun _ => true) (v := _) (ev_var rfl) (sq_of (e12 _ _ h3)) (by rw [hlen]; have := ok.few; omega) (fun _ => rfl) (fun i c H2 _ _ => fun H3 e3 Q q => q H3 (Ex.refl H3)) (fun i x H4 e4 hx _ => ?_)
      obtain ⟨e, he, pe⟩ := h4.get hx
      refine ev_sp (ea_cons (ev_var rfl) (ea_cons (ev_var rfl) ea_nil)) fun H5 e5 Q q => ⟨(n : Int), x, Os.prD e, rfl, (pe.ex ((e12.trans e4).trans e5)).dt, fun H6 e6 => ?_⟩
      rw [edge_ok ok (List.mem_of_getElem? he)]
      exact q H6 e6
    · rw [List.all_eq_true.mpr (fun b hb => by
        obtain ⟨_, _, rfl⟩ := List.mem_map.mp hb
        rfl)]
    · have e13 := e12.trans e3
      refine s_ret (v := .bl true) (ev_is (ev_andV (a := true) (b := !false) (ev_sp (ea_cons (ev_var rfl) ea_nil) fun H4 e4 Q q => ⟨a, xs, es, rfl, e4 _ _ (e13 _ _ h3), (h4.ex e13).ex e4, by have := ok.few; omega, fun H5 e5 => by rw [asc_of ok.edges.asc]; exact q H5 e5⟩)
        fun _ => ev_notV (ev_sp (ea_cons (ev_var rfl) (ea_cons (ev_var rfl) ea_nil)) fun H4 e4 Q q => ⟨n, a, xs, es, rfl, e4 _ _ (e13 _ _ h3), (h4.ex e13).ex e4, by omega, (fun e he => by have := ok.edges.inn e he; omega), fun H5 e5 => by rw [ok.edges.no_cyc]; exact q H5 e5⟩)) rfl) fun H4 e4 => q H4 (e13.trans e4)
end
end K03
/-! the law's drawn numbers: what a source holds -/
namespace Os
open PySem PySem.Spec PyProof.Rows L2 Evl

/-- at s a source: the digits left, the seed, the number of mixed draws (at most B) -/
def Src (H : Hp) (s : Addr) (B : Nat) : Prop := ∃ x y z : Int, H s = some (.lst [.int x, .int y, .int z]) ∧ 0 ≤ x ∧ 0 ≤ y ∧ y < 2 ^ 140 ∧ 0 ≤ z ∧ z ≤ (B : Int)
theorem Src.mono {H : Hp} {s : Addr} {B C : Nat} (h : Src H s B) (le : B ≤ C) : Src H s C := by
  obtain ⟨x, y, z, h1, h2, h3, h4, h5, h6⟩ := h
  exact ⟨x, y, z, h1, h2, h3, h4, h5, by omega⟩
theorem Src.ex {H H' : Hp} {s : Addr} {B : Nat} (h : Src H s B) (e : Ex H H') : Src H' s B := by
  obtain ⟨x, y, z, h1, h2⟩ := h
  exact ⟨x, y, z, e _ _ h1, h2⟩
theorem Src.at {H : Hp} {s : Addr} {B : Nat} (h : Src H s B) : ∃ o, H s = some o := by
  obtain ⟨x, y, z, h1, _⟩ := h
  exact ⟨_, h1⟩
/-- all but the source stands as it was; the source has made at most n more mixed draws -/
structure Drew (s : Addr) (B : Nat) (H H' : Hp) : Prop where
  kept : Ex (hide s H) (hide s H')
  src : Src H' s B
theorem Drew.refl {s : Addr} {B : Nat} {H : Hp} (h : Src H s B) : Drew s B H H := ⟨Ex.refl _, h⟩
theorem Drew.trans {s : Addr} {B C : Nat} {H H1 H2 : Hp} (a : Drew s B H H1) (b : Drew s C H1 H2) : Drew s C H H2 := ⟨a.kept.trans b.kept, b.src⟩
theorem Drew.ex {s : Addr} {B : Nat} {H H1 H2 : Hp} (a : Drew s B H H1) (e : Ex H1 H2) : Drew s B H H2 := ⟨a.kept.trans (Same.hide (same_ex e)), a.src.ex e⟩
theorem Drew.get {s : Addr} {B : Nat} {H H' : Hp} (a : Drew s B H H') {b : Addr} {o : HO} (n : b ≠ s) (h : H b = some o) : H' b = some o := by
  have := a.kept b o (by rw [hide_ne n]; exact h)
  exact (hide_of this).2
theorem Drew.mono {s : Addr} {B C : Nat} {H H' : Hp} (a : Drew s B H H') (le : B ≤ C) : Drew s C H H' := ⟨a.kept, a.src.mono le⟩
/-- what is free behind was free before -/
theorem Drew.none {s : Addr} {B : Nat} {H H' : Hp} (a : Drew s B H H') (h0 : ∃ o, H s = some o) {p : Addr} (h : H' p = Option.none) : H p = Option.none := by
  obtain ⟨o, so⟩ := a.src.at
  have np : p ≠ s := fun e => by rw [e, so] at h; cases h
  cases q : H p with
  | none => rfl
  | some u =>
    rw [a.get np q] at h
    cases h
/-- a new object, or one that H did not know, is changed -/
theorem Drew.mut {s : Addr} {B : Nat} {H H' : Hp} (a : Drew s B H H') {p : Addr} {o : HO} (hs : ∃ u, H s = some u) (h : H p = Option.none) : Drew s B H (upd H' p o) := by
  obtain ⟨u, hu⟩ := hs
  have np : s ≠ p := ne_of_none hu h
  refine ⟨fun b v q => ?_, ?_⟩
  · obtain ⟨q1, q2⟩ := hide_of q
    rw [hide_ne q1, upd_ne (ne_of_none q2 h)]
    exact a.get q1 q2
  · obtain ⟨x, y, z, h1, h2⟩ := a.src
    exact ⟨x, y, z, by rw [upd_ne np]; exact h1, h2⟩

/-! ### data beside a source -/
theorem Dt.drew {s : Addr} {B : Nat} {H H' : Hp} {v : V} {d : PyData} (h : Dt (hide s H) v d) (a : Drew s B H H') : Dt (hide s H') v d := h.same (same_ex a.kept)
theorem Dt.seen {s : Addr} {H : Hp} {v : V} {d : PyData} (h : Dt (hide s H) v d) : Dt H v d := h.same hide_same
theorem Dts.seen {s : Addr} {H : Hp} {vs : List V} {ds : List PyData} (h : Dts (hide s H) vs ds) : Dts H vs ds := h.same hide_same

/-! ### the numbers -/
theorem mix_bound {y z : Int} (hy0 : 0 ≤ y) (hy : y < 2 ^ 140) (hz0 : 0 ≤ z) (hz : z < 2 ^ 80) (c : Int) (hc0 : 0 ≤ c) (hc : c < 2 ^ 30) : (y + c * z).natAbs < 2 ^ 141 := by
  have h1 : 0 ≤ c * z := Int.mul_nonneg hc0 hz0
  have h2 : c * z ≤ 2 ^ 30 * 2 ^ 80 := Int.mul_le_mul (by omega) (by omega) hz0 (by decide)
  have h3 : (2 : Int) ^ 30 * 2 ^ 80 ≤ 2 ^ 140 := by decide
  omega
theorem cube_nonneg {i : Int} (h : 0 ≤ i) : 0 ≤ i ^ (3 : Int).toNat := Int.pow_nonneg h
end Os
namespace K03
open PySem PySem.Spec PyProof.Rows L2 Os Evl
abbrev sSource : Stmt := topS 18
abbrev sPick : Stmt := topS 19
theorem scSource : FnScope ["script", "k", "cell"] ["script", "k"] (defScope sSource) := ⟨rfl, rfl, rfl, by decide +kernel, rfl, by decide +kernel, by decide +kernel⟩
theorem scPick : FnScope ["source", "count", "found", "mixed"] ["source", "count"] (defScope sPick) := ⟨rfl, rfl, rfl, by decide +kernel, rfl, by decide +kernel, by decide +kernel⟩
def cellOf (ns : List Int) (k : Nat) : Int := if (k : Int) < (ns.length : Int) then ns.getD k 0 else 0
section
variable {P : Program} {w : World} {K : PySem.W.Frag} {mg : Str → Option Value} {base : Heap}
def spSource (K : PySem.W.Frag) : Sp := fun vs H Q _ => ∃ (a : Addr) (ns : List Int) (k : Nat), vs = [.ref a, .int (k : Int)] ∧ SqL K H a (ns.map V.int) ∧ k ≤ 1000 ∧
  ∀ H' p, Ex H H' → H p = none → Src H' p 0 → Q (.ref p) H'
theorem ok_source {f : Addr} {fd : FuncData} {k : Nat} (F : Fun K "_law_source" "_law_source" sSource f fd) (mL : mg "len" = none) (mM : mg "max" = none) (mA : mg "abs" = none) :
    FnOk P w K mg base CX0 (k + 1) f fd ["script", "k"] (spSource K) := by
  refine F.ok scSource (fun vs H Q E h => ?_) (fun cdv A outer s H vs Q E hr h => ?_)
  · obtain ⟨a, ns, k, rfl, _⟩ := h
    rfl
  · obtain ⟨a, ns, k, rfl, hS, hk, q⟩ := h
    refine ⟨_, pss_cons (ps_set (i := 2) scSource.nd rfl (.inl rfl) (pe_ifExp (pt_cmpR op_lt (pv 1) (pe_callB call_len_seq (by rfl) mL boot_len (pa_cons (pv 0) pa_nil)) (nomark _)) (pe_ix ix_list (pv 0) (pv 1) (fun _ _ => rfl)) pe_int))
      (pss_one (ps_ret (pe_lst (pa_cons (pe_callB (call_max2 rfl) (by rfl) mM boot_max (pa_cons pe_int (pa_cons (pe_op op_sub (pe_callB call_abs (by rfl) mA boot_abs (pa_cons (pv 2) pa_nil)) (pe_op op_pow pe_int pe_int)) pa_nil)))
        (pa_cons (pe_op op_add (pe_op op_add (pe_op op_mul (pe_op op_mod (pe_callB call_abs (by rfl) mA boot_abs (pa_cons (pv 2) pa_nil)) (pe_op op_add (pe_op op_pow pe_int pe_int) pe_int)) pe_int) (pv 1)) pe_int)
        (pa_cons pe_int pa_nil)))))), ?_⟩
    refine q_asg (v := .int (cellOf ns k)) (ev_if (b := decide ((k : Int) < (ns.length : Int))) (et_test (ev_op (ev_var rfl) (ev_is (ev_len (ev_var rfl) hS) (by rw [List.length_map])) rv_I0)) (fun hb => ?_) (fun hb => ?_)) fun H1 e1 => ?_
    · have hb2 := of_decide_eq_true hb
      have e : cellOf ns k = ns.getD k 0 := if_pos hb2
      rw [e]
      refine ev_op (ev_var rfl) (ev_var rfl) (rv_ixL hS (atI_nat (j := k) ?_))
      rw [List.getElem?_map, List.getElem?_eq_getElem (by omega), List.getD_eq_getElem?_getD, List.getElem?_eq_getElem (by omega)]
      rfl
    · have hb2 := of_decide_eq_false hb
      have e : cellOf ns k = 0 := if_neg hb2
      rw [e]
      exact ev_c
    · have ec := ev_var (σ := (start ["script", "k", "cell"] [.ref a, .int (k : Int)]).set 2 (some (.int (cellOf ns k)))) (H := H1) (i := 2) (v := .int (cellOf ns k)) rfl
      generalize cellOf ns k = c at ec ⊢
      have e18 : (10 : Int) ^ (18 : Int).toNat = 1000000000000000000 := by decide
      have e36 : (10 : Int) ^ (36 : Int).toNat = 1000000000000000000000000000000000000 := by decide
      have pow : ∀ n : Int, 0 ≤ n → n ≤ 100 → CPow 10 n := fun n h1 h2 => ⟨h1, by omega, by decide⟩
      refine s_retL (el_lst (ea_cons (ev_max ev_c (ev_op (ev_abs ec) (ev_op ev_c ev_c (rv_I (pow 18 (by decide) (by decide)))) rv_I0))
        (ea_cons (ev_op (ev_op (ev_op (ev_op (ev_abs ec) (ev_op (ev_op ev_c ev_c (rv_I (pow 36 (by decide) (by decide)))) ev_c rv_I0) (rv_I (by rw [e36]; decide))) ev_c (rv_I (.inr (by decide)))) (ev_var rfl) rv_I0) ev_c rv_I0)
        (ea_cons ev_c ea_nil))) (show 3 ≤ 100000 by decide)) fun p H2 hp e2 h2 => q H2 p (e1.trans e2) (fresh_back e1 hp) ?_
      rw [e18, e36] at h2
      have ha : 0 ≤ (if c < 0 then -c else c) := by split <;> omega
      refine ⟨_, _, 0, h2, ?_, ?_, ?_, Int.le_refl _, Int.le_refl _⟩
      · split <;> omega
      · have := Int.emod_nonneg (if c < 0 then -c else c) (show (1000000000000000000000000000000000000 + 67 : Int) ≠ 0 by decide)
        omega
      · have := Int.emod_lt_of_pos (if c < 0 then -c else c) (show (0 : Int) < 1000000000000000000000000000000000000 + 67 by decide)
        omega

def spPick : Sp := fun vs H Q _ => ∃ (s : Addr) (n : Int) (B : Nat), vs = [.ref s, .int n] ∧ Src H s B ∧ B ≤ 1000000 ∧ 0 < n ∧ n ≤ 1000000 ∧
  ∀ H' r, Drew s (B + 1) H H' → 0 ≤ r → r < n → Q (.int r) H'
theorem ok_pick {f : Addr} {fd : FuncData} {k : Nat} (F : Fun K "_law_pick" "_law_pick" sPick f fd) : FnOk P w K mg base CX0 (k + 1) f fd ["source", "count"] spPick := by
  refine F.ok scPick (fun vs H Q E h => ?_) (fun cdv A outer s H vs Q E hr h => ?_)
  · obtain ⟨a, n, B, rfl, _⟩ := h
    rfl
  · obtain ⟨a, n, B, rfl, hS, hB, hn0, hn1, q⟩ := h
    refine ⟨_, pss_cons (ps_if (pt_cmpR op_gt (pe_ix ix_list (pv 0) pe_int (fun _ _ => rfl)) pe_int (nomark _))
        (pss_cons (ps_set (i := 2) scPick.nd rfl (.inl rfl) (pe_op op_mod (pe_ix ix_list (pv 0) pe_int (fun _ _ => rfl)) (pv 1)))
        (pss_cons (ps_asg (pe_op op_fdivW (pe_ix ix_list (pv 0) pe_int (fun _ _ => rfl)) (pv 1)) (pg_sub (pv 0) pe_int set_list))
        (pss_one (ps_ret (pv 2))))) pss_nil)
      (pss_cons (ps_asg (pe_op op_add (pe_ix ix_list (pv 0) pe_int (fun _ _ => rfl)) pe_int) (pg_sub (pv 0) pe_int set_list))
      (pss_cons (ps_set (i := 3) scPick.nd rfl (.inl rfl) (pe_op op_mod (pe_op op_powW (pe_op op_add (pe_ix ix_list (pv 0) pe_int (fun _ _ => rfl)) (pe_op op_mul pe_int (pe_ix ix_list (pv 0) pe_int (fun _ _ => rfl)))) pe_int) (pe_op op_add (pe_op op_pow pe_int pe_int) pe_int)))
      (pss_cons (ps_set (i := 3) scPick.nd rfl (.inl rfl) (pe_op op_mod (pe_op op_powW (pe_op op_add (pv 3) (pe_op op_mul pe_int (pe_ix ix_list (pv 0) pe_int (fun _ _ => rfl)))) pe_int) (pe_op op_add (pe_op op_pow pe_int pe_int) pe_int)))
      (pss_one (ps_ret (pe_op op_mod (pe_op op_fdivW (pv 3) pe_int) (pv 1))))))), ?_⟩
    obtain ⟨x, y, z, h1, hx, hy0, hy1, hz0, hz1⟩ := hS
    have at0 : ∀ {H' : Hp} {x' y' z' : Int}, H' a = some (.lst [.int x', .int y', .int z']) → ∀ {σ : L2.St}, σ[0]? = some (some (.ref a)) →
        Ev (tOp (rIxL K) (tVar 0) (tC (.int 0))) σ H' (.int x') ∧ Ev (tOp (rIxL K) (tVar 0) (tC (.int 1))) σ H' (.int y') ∧ Ev (tOp (rIxL K) (tVar 0) (tC (.int 2))) σ H' (.int z') := fun h σ e =>
      ⟨ev_op (ev_var e) ev_c (rv_ixL (sq_of h) (atI_nat (j := 0) rfl)), ev_op (ev_var e) ev_c (rv_ixL (sq_of h) (atI_nat (j := 1) rfl)), ev_op (ev_var e) ev_c (rv_ixL (sq_of h) (atI_nat (j := 2) rfl))⟩
    have upd_drew : ∀ {H1 : Hp} {x' z' : Int}, Ex H H1 → 0 ≤ x' → 0 ≤ z' → z' ≤ ((B + 1 : Nat) : Int) → Drew a (B + 1) H (upd H1 a (.lst [.int x', .int y, .int z'])) := fun e p1 p2 p3 =>
      ⟨by rw [hide_upd]; exact Same.hide (same_ex e), _, y, _, upd_same, p1, hy0, hy1, p2, p3⟩
    refine q_when (b := decide (0 < x)) (et_test (ev_op (at0 h1 rfl).1 ev_c rv_I0)) ?_ ?_
    · intro hb H1 e1
      refine q_asg (v := .int (x % n)) (ev_op (at0 (e1 _ _ h1) rfl).1 (ev_var rfl) (rv_I hn0)) fun H2 e2 => ?_
      refine q_setL (j := 0) (xs := [.int x, .int y, .int z]) (v := .int (x / n)) (e2 _ _ (e1 _ _ h1)) (ev_op (at0 (e2 _ _ (e1 _ _ h1)) rfl).1 (ev_var rfl) (rv_I (wide_div (b := 30) hn0 (by omega) (by decide) (by decide)))) (ev_var rfl) ev_c (show 0 < 3 by decide) fun H3 e3 => ?_
      refine s_ret (v := .int (x % n)) (ev_var rfl) fun H4 e4 => ?_
      exact q H4 _ ((upd_drew ((e1.trans e2).trans e3) (Int.ediv_nonneg hx (by omega)) hz0 (by omega)).ex e4) (Int.emod_nonneg x (by omega)) (Int.emod_lt_of_pos x hn0)
    · intro hb H1 e1
      refine q_setL (j := 2) (xs := [.int x, .int y, .int z]) (v := .int (z + 1)) (e1 _ _ h1) (ev_op (at0 (e1 _ _ h1) rfl).2.2 ev_c rv_I0) (ev_var rfl) ev_c (show 2 < 3 by decide) fun H2 e2 => ?_
      have d2 : Drew a (B + 1) H (upd H2 a (.lst [.int x, .int y, .int (z + 1)])) := upd_drew (e1.trans e2) hx (by omega) (by omega)
      have h3 : (upd H2 a (.lst [.int x, .int y, .int (z + 1)])) a = some (.lst [.int x, .int y, .int (z + 1)]) := upd_same
      have e38 : (10 : Int) ^ (38 : Int).toNat = 100000000000000000000000000000000000000 := by decide
      have e37 : (10 : Int) ^ (37 : Int).toNat = 10000000000000000000000000000000000000 := by decide
      have pow : ∀ n : Int, 0 ≤ n → n ≤ 100 → CPow 10 n := fun n h1 h2 => ⟨h1, by omega, by decide⟩
      show tSeq _ _ _ _ (upd H2 a (.lst [.int x, .int y, .int (z + 1)]))
      generalize (upd H2 a (.lst [.int x, .int y, .int (z + 1)])) = H3 at d2 h3
      have b1 : (y + 49979687 * (z + 1)).natAbs < 2 ^ 141 := mix_bound hy0 hy1 (by omega) (by omega) 49979687 (by decide) (by decide)
      refine q_asg (v := .int ((y + 49979687 * (z + 1)) ^ (3 : Int).toNat % ((10 : Int) ^ (38 : Int).toNat + 133))) (ev_op (ev_op (ev_op (at0 h3 rfl).2.1 (ev_op ev_c (at0 h3 rfl).2.2 (rv_I (.inl (by decide)))) rv_I0) ev_c (rv_I (cube_ok b1 (by decide) (by decide))))
        (ev_op (ev_op ev_c ev_c (rv_I (pow 38 (by decide) (by decide)))) ev_c rv_I0) (rv_I (by rw [e38]; decide))) fun H4 e4 => ?_
      have m1 := Int.emod_nonneg ((y + 49979687 * (z + 1)) ^ (3 : Int).toNat) (show ((10 : Int) ^ (38 : Int).toNat + 133) ≠ 0 by rw [e38]; decide)
      have m2 := Int.emod_lt_of_pos ((y + 49979687 * (z + 1)) ^ (3 : Int).toNat) (show 0 < ((10 : Int) ^ (38 : Int).toNat + 133) by rw [e38]; decide)
      generalize (y + 49979687 * (z + 1)) ^ (3 : Int).toNat % ((10 : Int) ^ (38 : Int).toNat + 133) = m at m1 m2
      rw [e38] at m2
      have b2 : (m + 32452843 * (z + 1)).natAbs < 2 ^ 141 := mix_bound m1 (by omega) (by omega) (by omega) 32452843 (by decide) (by decide)
      refine q_asg (v := .int ((m + 32452843 * (z + 1)) ^ (3 : Int).toNat % ((10 : Int) ^ (37 : Int).toNat + 43))) (ev_op (ev_op (ev_op (ev_var rfl) (ev_op ev_c (at0 (e4 _ _ h3) rfl).2.2 (rv_I (.inl (by decide)))) rv_I0) ev_c (rv_I (cube_ok b2 (by decide) (by decide))))
        (ev_op (ev_op ev_c ev_c (rv_I (pow 37 (by decide) (by decide)))) ev_c rv_I0) (rv_I (by rw [e37]; decide))) fun H5 e5 => ?_
      generalize (m + 32452843 * (z + 1)) ^ (3 : Int).toNat % ((10 : Int) ^ (37 : Int).toNat + 43) = u
      refine s_ret (v := .int (u / 131071 % n)) (ev_op (ev_op (ev_var rfl) ev_c (rv_I (wide_div (b := 30) (by decide) (by decide) (by decide) (by decide)))) (ev_var rfl) (rv_I hn0)) fun H6 e6 => ?_
      exact q H6 _ (((d2.ex e4).ex e5).ex e6) (Int.emod_nonneg _ (by omega)) (Int.emod_lt_of_pos _ hn0)
end
end K03
namespace K03
open PySem PySem.Spec PyProof.Rows L2 Os Evl
abbrev sShuf : Stmt := topS 20
theorem scShuf : FnScope ["source", "row", "left", "k"] ["source", "row"] (defScope sShuf) := ⟨rfl, rfl, rfl, by decide +kernel, rfl, by decide +kernel, by decide +kernel⟩
theorem perm_pop {α : Type} {l : List α} {k : Nat} {y : α} (acc : List α) (h : l[k]? = some y) : ((acc ++ [y]) ++ l.eraseIdx k).Perm (acc ++ l) := by
  obtain ⟨lt, e⟩ := List.getElem?_eq_some_iff.mp h
  rw [List.append_assoc]
  refine List.Perm.append_left acc ?_
  have e2 := List.drop_eq_getElem_cons lt
  rw [e] at e2
  rw [List.eraseIdx_eq_take_drop_succ]
  refine List.Perm.trans (l₂ := l.take k ++ y :: l.drop (k + 1)) (show (y :: (l.take k ++ l.drop (k + 1))).Perm _ from List.perm_middle.symm) ?_
  rw [← e2, List.take_append_drop]
section
variable {P : Program} {w : World} {K : PySem.W.Frag} {mg : Str → Option Value} {base : Heap}
def spShuf : Sp := fun vs H Q _ => ∃ (s a : Addr) (xs : List V) (B : Nat), vs = [.ref s, .ref a] ∧ Src H s B ∧ H a = some (.lst xs) ∧ a ≠ s ∧ xs.length ≤ 1000 ∧ B ≤ 900000 ∧
  ∀ H' p ys, Drew s (B + xs.length) H H' → H p = none → H' p = some (.lst ys) → ys.Perm xs → Q (.ref p) H'
theorem ok_shuf {f fP : Addr} {fd fdP : FuncData} {k : Nat} (F : Fun K "_law_shuffled" "_law_shuffled" sShuf f fd) (GP : FnOk P w K mg base CX0 k fP fdP ["source", "count"] spPick) (FP : Fun K "_law_pick" "_law_pick" sPick fP fdP) (bP : Binds K fdP ["source", "count"] [])
    (gP : mg "_law_pick" = some (.ref fP)) (mS : mg "list" = none) (mL : mg "len" = none) (mR : mg "range" = none) : FnOk P w K mg base CX0 (k + 1) f fd ["source", "row"] spShuf := by
  refine F.ok scShuf (fun vs H Q E h => ?_) (fun cdv A outer s H vs Q E hr h => ?_)
  · obtain ⟨s, a, xs, B, rfl, _⟩ := h
    rfl
  · obtain ⟨s, a, xs, B, rfl, hS, ha, nas, hl, hB, q⟩ := h
    refine ⟨_, pss_cons (ps_set (i := 2) scShuf.nd rfl (.inr rfl) (pe_callTy call_list_of (by rfl) mS boot_list (pa_cons (pv 1) pa_nil)))
      (pss_one (ps_ret (pe_lc (own := [("k", 3)]) (g := gName 3) (tt := tYes) (te := tBM K "list" rPopAt (tVar 2) (tCons (tCall spPick [] E0 (tCons (tVar 0) (tCons (tCB (rLenS K) (tCons (tVar 2) tNil)) tNil))) tNil)) rfl scShuf.nd (pi_range1 (by rfl) mR (pa_cons (pe_callB call_len_seq (by rfl) mL boot_len (pa_cons (pv 1) pa_nil)) pa_nil))
          (blkOk_by (N := ["source", "row", "left", "k"]) (sc := defScope sShuf) (by decide +kernel))
          (fun _ _ _ _ _ => pg_name (i := 3) scShuf.nd rfl (Or.inl rfl)) (fun _ _ _ _ _ => pts_nil)
          (fun _ _ _ _ _ => pe_bm PySem.F.plainAttrs_list PySem.F.slot_list_pop PySem.F.type_list_pop mt_popAt (pv 2)
            (pa_cons (pe_call GP hr (by rfl) gP FP.kp bP .nil pass0 (pa_cons (pv 0) (pa_cons (pe_callB call_len_seq (by rfl) mL boot_len (pa_cons (pv 2) pa_nil)) pa_nil))) pa_nil))))), ?_⟩
    -- left = list(row)
    refine ⟨.ref a, rfl, a, xs, rfl, .inl (sq_of ha), fun L hL => ?_⟩
    have e1 : Ex H (upd H L (.lst xs)) := Ex.new hL
    have src0 := hS.at
    -- range(len(row))
    refine ⟨.ref a, rfl, a, xs, rfl, .inl (sq_of (e1 _ _ ha)), (xs.length : Int), rfl, by omega, by omega, fun D hD => ?_⟩
    have nLD : D ≠ L := fun e => by
      rw [e, upd_same] at hD
      cases hD
    have hD0 : H D = none := fresh_back e1 hD
    refine lc_range (lo := 0) (n := (xs.length : Int).toNat) (fun i Hh => ∃ l acc, Hh L = some (.lst l) ∧ Hh D = some (.lst acc) ∧ (acc ++ l).Perm xs ∧ l.length + i = xs.length ∧ acc.length = i ∧ Drew s (B + i) H Hh) ?_ ?_ ?_
    · refine ⟨xs, [], ?_, upd_same, List.Perm.refl _, rfl, rfl, (((Drew.refl hS).ex e1).mut src0 hD0)⟩
      rw [upd_ne nLD.symm]
      exact upd_same
    · rintro i Hh hi ⟨l, acc, hl1, hD1, pm, len, len2, dr⟩
      have hi' : i < xs.length := by omega
      refine ⟨rfl, ?_⟩
      show tBM K "list" rPopAt (tVar 2) _ _ _ _
      refine ⟨.ref L, rfl, .inl ⟨rfl, _, sq_of hl1⟩, .ref s, rfl, .ref L, rfl, L, l, rfl, .inl (sq_of hl1), s, (l.length : Int), B + i, rfl, dr.src, by omega, by omega, by omega, fun H2 r dr2 r0 r1 => ?_⟩
      have nLs : L ≠ s := fun e => by
        obtain ⟨o, ho⟩ := src0
        rw [e, ho] at hL
        cases hL
      have nDs : D ≠ s := fun e => by
        obtain ⟨o, ho⟩ := src0
        rw [e, ho] at hD0
        cases hD0
      have hl2 : H2 L = some (.lst l) := dr2.get nLs hl1
      have hD2 : H2 D = some (.lst acc) := dr2.get nDs hD1
      have lt : r.toNat < l.length := by omega
      have er : r = (r.toNat : Int) := by omega
      refine ⟨L, l, r, r.toNat, l[r.toNat], rfl, rfl, hl2, by omega, by omega, (ixN_seq (by rw [er]; exact ixN_nat lt)).1, List.getElem?_eq_getElem lt, acc, ?_, ?_, ?_⟩
      · rw [upd_ne nLD]
        exact hD2
      · exact sz_lt (by omega)
      · refine ⟨l.eraseIdx r.toNat, acc ++ [l[r.toNat]], ?_, upd_same, (perm_pop acc (List.getElem?_eq_getElem lt)).trans pm, ?_, ?_, ?_⟩
        · rw [upd_ne nLD.symm]
          exact upd_same
        · rw [List.length_eraseIdx_of_lt lt]
          omega
        · rw [List.length_append, len2]
          rfl
        · exact ((dr.trans dr2).mut src0 hL).mut src0 hD0
    · rintro Hh ⟨l, acc, hl1, hD1, pm, len, len2, dr⟩
      have hn : l.length = 0 := by omega
      rw [List.length_eq_zero_iff.mp hn, List.append_nil] at pm
      exact q Hh D acc (by simpa using dr) hD0 hD1 pm
end
end K03
/-! the drawn forests: each later label is tied to an earlier one at most once -/
namespace Os
open PySem PySem.Spec PyProof.Rows L2 Evl
theorem snd_inj : ∀ {ks : List Pr}, ks.Pairwise (fun p q => p.2 < q.2) → ∀ {p q : Pr}, p ∈ ks → q ∈ ks → p.2 = q.2 → p = q
  | x :: r, h, p, q, hp, hq, e => by
    obtain ⟨h1, h2⟩ := List.pairwise_cons.mp h
    rcases List.mem_cons.mp hp with ep | hp
    · rcases List.mem_cons.mp hq with eq | hq
      · rw [ep, eq]
      · have := h1 q hq
        rw [ep] at e
        omega
    · rcases List.mem_cons.mp hq with eq | hq
      · have := h1 p hp
        rw [eq] at e
        omega
      · exact snd_inj h2 hp hq e
def edgeOf (lab : List Nat) (p : Pr) : Pr := (min (lab.getD p.1 0) (lab.getD p.2 0), max (lab.getD p.1 0) (lab.getD p.2 0))
/-- the places that hang below those of T -/
def below : List Pr → (Nat → Bool) → Nat → Bool
  | [], T => T
  | p :: r, T => below r fun x => T x || (decide (x = p.2) && T p.1)
theorem below_out : ∀ {ks : List Pr} {T : Nat → Bool} {x : Nat}, (∀ p ∈ ks, p.2 ≠ x) → below ks T x = T x
  | [], _, _, _ => rfl
  | p :: r, T, x, h => by
    show below r _ x = T x
    rw [below_out fun q hq => h q (List.mem_cons_of_mem _ hq), decide_eq_false fun e => h p List.mem_cons_self e.symm, Bool.false_and, Bool.or_false]
theorem below_tie : ∀ {ks : List Pr} {T : Nat → Bool} {a k : Nat}, (∀ p ∈ ks, p.1 < p.2) → ks.Pairwise (fun p q => p.2 < q.2) → (a, k) ∈ ks → below ks T k = (T k || below ks T a)
  | p :: r, T, a, k, hl, inc, hm => by
    obtain ⟨i1, i2⟩ := List.pairwise_cons.mp inc
    rcases List.mem_cons.mp hm with e | hm
    · subst e
      have lt : a < k := hl _ List.mem_cons_self
      show below r _ k = (T k || below r _ a)
      rw [below_out (x := k) fun q hq e => by have := i1 q hq; omega, below_out (x := a) fun q hq e => by have := i1 q hq; omega]
      rw [decide_eq_true rfl, decide_eq_false (show ¬ a = k by omega), Bool.true_and, Bool.false_and, Bool.or_false]
    · have gt : p.2 < k := i1 _ hm
      show below r _ k = (T k || below r _ a)
      rw [below_tie (fun q hq => hl q (List.mem_cons_of_mem _ hq)) i2 hm, decide_eq_false (show ¬ k = p.2 by omega), Bool.false_and, Bool.or_false]
theorem below_up : ∀ {ks : List Pr} {T : Nat → Bool} {x : Nat}, T x = true → below ks T x = true
  | [], _, _, h => h
  | p :: r, T, x, h => below_up (ks := r) (by rw [h]; rfl)
theorem below_ge : ∀ {ks : List Pr} {T : Nat → Bool} {c : Nat}, (∀ p ∈ ks, p.1 < p.2) → (∀ x, T x = true → c ≤ x) → ∀ x, below ks T x = true → c ≤ x
  | [], _, _, _, h => h
  | p :: r, T, c, hl, h => below_ge (ks := r) (fun q hq => hl q (List.mem_cons_of_mem _ hq)) fun x hx => by
    rw [Bool.or_eq_true, Bool.and_eq_true] at hx
    rcases hx with hx | ⟨h1, h2⟩
    · exact h x hx
    · have e := of_decide_eq_true h1
      have := h p.1 h2
      have := hl p List.mem_cons_self
      omega
theorem perm_nats {l : List Nat} {ys : List V} (h : ys.Perm (l.map fun x : Nat => V.int (x : Int))) : ∃ us : List Nat, ys = us.map (fun x : Nat => V.int (x : Int)) ∧ us.Perm l := by
  have back : ∀ x ∈ ys, ∃ z : Nat, x = V.int (z : Int) := fun x hx => by
    obtain ⟨z, _, e⟩ := List.mem_map.mp (h.mem_iff.mp hx)
    exact ⟨z, e.symm⟩
  let un : V → Nat := fun v => match v with
    | .int z => z.toNat
    | _ => 0
  refine ⟨ys.map un, ?_, ?_⟩
  · rw [List.map_map]
    have : ys.map ((fun x : Nat => V.int (x : Int)) ∘ un) = ys.map id := List.map_congr_left fun x hx => by
      obtain ⟨z, e⟩ := back x hx
      rw [e]
      rfl
    rw [this, List.map_id]
  · have := h.map un
    rw [List.map_map] at this
    have e : l.map (un ∘ fun x : Nat => V.int (x : Int)) = l := by
      have : l.map (un ∘ fun x : Nat => V.int (x : Int)) = l.map id := List.map_congr_left fun x _ => rfl
      rw [this, List.map_id]
    rwa [e] at this
section
variable {lab : List Nat} {n : Nat}
theorem lab_len (pm : lab.Perm (List.range n)) : lab.length = n := by rw [pm.length_eq, List.length_range]
theorem lab_lt (pm : lab.Perm (List.range n)) {i : Nat} (h : i < n) : lab.getD i 0 < n := by
  rw [List.getD_eq_getElem?_getD, List.getElem?_eq_getElem (by rw [lab_len pm]; exact h)]
  exact List.mem_range.mp (pm.mem_iff.mp (List.getElem_mem _))
theorem lab_inj (pm : lab.Perm (List.range n)) {i j : Nat} (hi : i < n) (hj : j < n) (e : lab.getD i 0 = lab.getD j 0) : i = j := by
  have nd : lab.Nodup := pm.nodup_iff.mpr List.nodup_range
  have li : i < lab.length := by rw [lab_len pm]; exact hi
  have lj : j < lab.length := by rw [lab_len pm]; exact hj
  rw [List.getD_eq_getElem?_getD, List.getD_eq_getElem?_getD, List.getElem?_eq_getElem li, List.getElem?_eq_getElem lj] at e
  have e' : lab[i] = lab[j] := e
  refine Decidable.byContradiction fun ne => ?_
  rcases Nat.lt_or_gt_of_ne ne with h | h
  · exact List.pairwise_iff_getElem.mp nd i j li lj h e'
  · exact List.pairwise_iff_getElem.mp nd j i lj li h e'.symm
/-- a property of places, said of labels -/
def onLab (lab : List Nat) (n : Nat) (T : Nat → Bool) (x : Nat) : Bool := (List.range n).any fun i => decide (lab.getD i 0 = x) && T i
theorem onLab_at (pm : lab.Perm (List.range n)) (T : Nat → Bool) {i : Nat} (hi : i < n) : onLab lab n T (lab.getD i 0) = T i := by
  unfold onLab
  cases h : T i with
  | true => exact List.any_eq_true.mpr ⟨i, List.mem_range.mpr hi, by rw [decide_eq_true rfl, h]; rfl⟩
  | false =>
    refine List.any_eq_false.mpr fun j hj z => ?_
    rw [Bool.and_eq_true] at z
    have e := lab_inj pm (List.mem_range.mp hj) hi (of_decide_eq_true z.1)
    rw [e, h] at z
    cases z.2
theorem minmax (S : Nat → Bool) (u v : Nat) : (S (min u v) = S (max u v)) ↔ S u = S v := by
  by_cases h : u ≤ v
  · rw [Nat.min_eq_left h, Nat.max_eq_right h]
  · rw [Nat.min_eq_right (by omega), Nat.max_eq_left (by omega)]
    exact ⟨Eq.symm, Eq.symm⟩
theorem drawn_edges {ks : List Pr} (pm : lab.Perm (List.range n)) (hl : ∀ p ∈ ks, p.1 < p.2 ∧ p.2 < n) (inc : ks.Pairwise fun p q => p.2 < q.2) :
    (∀ e ∈ ks.map (edgeOf lab), e.1 < e.2 ∧ e.2 < n) ∧ (ks.map (edgeOf lab)).Nodup ∧ Bridges (ks.map (edgeOf lab)) := by
  refine ⟨fun e he => ?_, ?_, fun e he => ?_⟩
  · obtain ⟨p, hp, rfl⟩ := List.mem_map.mp he
    obtain ⟨h1, h2⟩ := hl p hp
    have a := lab_lt pm (show p.1 < n by omega)
    have b := lab_lt pm h2
    have ne : lab.getD p.1 0 ≠ lab.getD p.2 0 := fun z => by
      have := lab_inj pm (show p.1 < n by omega) h2 z
      omega
    show min _ _ < max _ _ ∧ max _ _ < n
    omega
  · unfold List.Nodup
    rw [List.pairwise_map]
    refine List.Pairwise.imp_of_mem (fun {p q} hp hq lt e => ?_) inc
    obtain ⟨h1, h2⟩ := hl p hp
    obtain ⟨h3, h4⟩ := hl q hq
    have e1 : min (lab.getD p.1 0) (lab.getD p.2 0) = min (lab.getD q.1 0) (lab.getD q.2 0) := congrArg Prod.fst e
    have e2 : max (lab.getD p.1 0) (lab.getD p.2 0) = max (lab.getD q.1 0) (lab.getD q.2 0) := congrArg Prod.snd e
    have or : (lab.getD p.1 0 = lab.getD q.1 0 ∧ lab.getD p.2 0 = lab.getD q.2 0) ∨ (lab.getD p.1 0 = lab.getD q.2 0 ∧ lab.getD p.2 0 = lab.getD q.1 0) := by omega
    rcases or with ⟨_, z⟩ | ⟨z1, z2⟩
    · have := lab_inj pm h2 h4 z
      omega
    · have := lab_inj pm (by omega) h4 z1
      have := lab_inj pm h2 (by omega) z2
      omega
  · obtain ⟨p, hp, rfl⟩ := List.mem_map.mp he
    obtain ⟨h1, h2⟩ := hl p hp
    have hl1 : ∀ q ∈ ks, q.1 < q.2 := fun q hq => (hl q hq).1
    refine ⟨onLab lab n (below ks fun x => decide (x = p.2)), ?_, fun f hf ne => ?_⟩
    · intro z
      have z2 := (minmax _ _ _).mp z
      rw [onLab_at pm _ (show p.1 < n by omega), onLab_at pm _ h2, below_up (x := p.2) (decide_eq_true rfl)] at z2
      have := below_ge (c := p.2) hl1 (fun x hx => by have := of_decide_eq_true hx; omega) p.1 z2
      omega
    · obtain ⟨q, hq, rfl⟩ := List.mem_map.mp hf
      obtain ⟨h3, h4⟩ := hl q hq
      refine (minmax _ _ _).mpr ?_
      rw [onLab_at pm _ (show q.1 < n by omega), onLab_at pm _ h4]
      have nk : q.2 ≠ p.2 := fun z => by
        have : p = q := snd_inj inc hp hq z.symm
        rw [this] at ne
        exact ne rfl
      have t := below_tie (T := fun x => decide (x = p.2)) hl1 inc (show (q.1, q.2) ∈ ks from hq)
      rw [decide_eq_false nk, Bool.false_or] at t
      exact t.symm
end
/-! ### sorted -/
theorem Bridges.perm {es fs : List Pr} (h : Bridges es) (pm : fs.Perm es) : Bridges fs := fun e he => by
  obtain ⟨S, h1, h2⟩ := h e (pm.mem_iff.mp he)
  exact ⟨S, h1, fun f hf => h2 f (pm.mem_iff.mp hf)⟩
theorem asc_strict {es : List Pr} (nd : es.Nodup) (small : ∀ e ∈ es, e.1 < 64 ∧ e.2 < 64) (h : es.Pairwise fun e f => (e.1 : Int) * 64 + (e.2 : Int) ≤ (f.1 : Int) * 64 + (f.2 : Int)) : es.Pairwise fun e f => ltP e f = true := by
  have h2 := h.and nd
  refine List.Pairwise.imp_of_mem (fun {e f} he hf z => ?_) h2
  obtain ⟨a1, a2⟩ := small e he
  obtain ⟨b1, b2⟩ := small f hf
  rw [ltP_iff]
  by_cases q : e.1 = f.1
  · by_cases q2 : e.2 = f.2
    · exact absurd (Prod.ext q q2) z.2
    · have := z.1
      omega
  · have := z.1
    omega
end Os
/-! what evaluates to something of a kind: displays, sums and slices whose items are new objects themselves -/
namespace Os
open PySem PySem.Spec PyProof.Rows L2 Evl

/-- R is kept by more heap -/
def Up (R : Hp → V → Prop) : Prop := ∀ G G' v, Ex G G' → R G v → R G' v
section
variable (s : Addr) (R : Hp → V → Prop)
def EvR (te : TE) (σ : L2.St) (H : Hp) : Prop := ∀ H1, Ex H H1 → ∀ Q : VK, (∀ v H2, Ex H1 H2 → R (hide s H2) v → Q v H2) → te σ H1 Q
def EvAR (ta : TA) (σ : L2.St) (H : Hp) (n : Nat) : Prop := ∀ H1, Ex H H1 → ∀ Q : List V → Hp → Prop, (∀ vs H2, Ex H1 H2 → vs.length = n → (∀ v ∈ vs, R (hide s H2) v) → Q vs H2) → ta σ H1 Q
/-- a new list of lo to hi such items -/
def EvLR (te : TE) (σ : L2.St) (H : Hp) (lo hi : Nat) : Prop := ∀ H1, Ex H H1 → ∀ Q : VK,
  (∀ p xs H2, H1 p = none → Ex H1 H2 → H2 p = some (.lst xs) → lo ≤ xs.length → xs.length ≤ hi → (∀ x ∈ xs, R (hide s H2) x) → Q (.ref p) H2) → te σ H1 Q
/-- a list that stands at p, the same of its items -/
def LsR (H : Hp) (p : Addr) (lo hi : Nat) : Prop := p ≠ s ∧ ∃ xs, H p = some (.lst xs) ∧ lo ≤ xs.length ∧ xs.length ≤ hi ∧ ∀ x ∈ xs, R (hide s H) x
end
section
variable {K : PySem.W.Frag} {s : Addr} {R : Hp → V → Prop} {σ : L2.St} {H H' : Hp} {ta tb te : TE} {tl tr : TA} {n m lo hi lo' hi' : Nat} {v : V}
theorem hide_ex (e : Ex H H') : Ex (hide s H) (hide s H') := Same.hide (same_ex e)
theorem er_of (up : Up R) (h : Ev te σ H v) (r : R (hide s H) v) : EvR s R te σ H := fun H1 e Q q =>
  h H1 e _ fun H2 e2 => q v H2 e2 (up _ _ _ (hide_ex (e.trans e2)) r)
theorem er_mono (e : Ex H H') (h : EvR s R te σ H) : EvR s R te σ H' := fun H1 a Q q => h H1 (e.trans a) Q q
theorem ear_nil : EvAR s R tNil σ H 0 := fun H1 _ Q q => q [] H1 (Ex.refl _) rfl fun _ h => nomatch h
theorem ear_cons (up : Up R) (h : EvR s R te σ H) (hr : EvAR s R tr σ H n) : EvAR s R (tCons te tr) σ H (n + 1) := fun H1 e Q q =>
  h H1 e _ fun v H2 e2 r => hr H2 (e.trans e2) _ fun vs H3 e3 hn hv => q (v :: vs) H3 (e2.trans e3) (by rw [List.length_cons, hn]) fun x hx => by
    rcases List.mem_cons.mp hx with rfl | hx
    · exact up _ _ _ (hide_ex e3) r
    · exact hv x hx
theorem new_apart (hs : ∃ o, H s = some o) {p : Addr} (h : H p = none) : p ≠ s := fun e => by
  obtain ⟨o, ho⟩ := hs
  rw [e, ho] at h
  cases h
theorem elr_lst (up : Up R) (h : EvAR s R tl σ H n) (hn : n ≤ 1000) : EvLR s R (tLst tl) σ H n n := fun H1 e Q q =>
  h H1 e _ fun vs H2 e2 hl hv => ⟨by rw [hl]; exact sz_of (by omega), fun p hp => q p vs _ (fresh_back e2 hp) (e2.trans (Ex.new hp)) upd_same (by omega) (by omega) fun x hx => up _ _ _ (hide_ex (Ex.new hp)) (hv x hx)⟩
theorem elr_cat (up : Up R) (h1 : EvLR s R ta σ H lo hi) (h2 : EvLR s R tb σ H lo' hi') (hn : hi + hi' ≤ 10000) : EvLR s R (tOp rCat ta tb) σ H (lo + lo') (hi + hi') := fun H1 e Q q =>
  h1 H1 e _ fun p xs H2 hp e2 hx l1 l2 rx => h2 H2 (e.trans e2) _ fun p' ys H3 hp' e3 hy l3 l4 ry =>
    ⟨p, p', xs, ys, rfl, rfl, e3 _ _ hx, hy, sz_of (by omega), fun r hr => q r (xs ++ ys) _ (fresh_back (e2.trans e3) hr) ((e2.trans e3).trans (Ex.new hr)) upd_same (by rw [List.length_append]; omega) (by rw [List.length_append]; omega) fun x hx => by
      rcases List.mem_append.mp hx with z | z
      · exact up _ _ _ (hide_ex (e3.trans (Ex.new hr))) (rx x z)
      · exact up _ _ _ (hide_ex (Ex.new hr)) (ry x z)⟩
/-- the left one stands there already -/
theorem elr_catV (up : Up R) {p : Addr} (h1 : Ev ta σ H (.ref p)) (hp : LsR s R H p lo hi) (h2 : EvLR s R tb σ H lo' hi') (hn : hi + hi' ≤ 10000) : EvLR s R (tOp rCat ta tb) σ H (lo + lo') (hi + hi') := fun H1 e Q q => by
  obtain ⟨_, xs, hx, l1, l2, rx⟩ := hp
  exact h1 H1 e _ fun H2 e2 => h2 H2 (e.trans e2) _ fun p' ys H3 hp' e3 hy l3 l4 ry =>
    ⟨p, p', xs, ys, rfl, rfl, ((e.trans e2).trans e3) _ _ hx, hy, sz_of (by omega), fun r hr => q r (xs ++ ys) _ (fresh_back (e2.trans e3) hr) ((e2.trans e3).trans (Ex.new hr)) upd_same (by rw [List.length_append]; omega) (by rw [List.length_append]; omega) fun x hx => by
      rcases List.mem_append.mp hx with z | z
      · exact up _ _ _ (hide_ex (((e.trans e2).trans e3).trans (Ex.new hr))) (rx x z)
      · exact up _ _ _ (hide_ex (Ex.new hr)) (ry x z)⟩
/-- a list that is known whole -/
theorem elr_of (up : Up R) {xs : List V} (h : EvL te σ H xs) (l1 : lo ≤ xs.length) (l2 : xs.length ≤ hi) (r : ∀ x ∈ xs, R (hide s H) x) : EvLR s R te σ H lo hi := fun H1 e Q q =>
  h H1 e _ fun p H2 hp e2 h2 => q p xs H2 hp e2 h2 l1 l2 fun x hx => up _ _ _ (hide_ex (e.trans e2)) (r x hx)
/-- such a list as a value of another kind -/
theorem er_list {R' : Hp → V → Prop} (hs : ∃ o, H s = some o) (h : EvLR s R te σ H lo hi) (f : ∀ p xs G, G p = some (.lst xs) → lo ≤ xs.length → xs.length ≤ hi → (∀ x ∈ xs, R G x) → R' G (.ref p)) : EvR s R' te σ H := fun H1 e Q q =>
  h H1 e _ fun p xs H2 hp e2 h2 l1 l2 r => q (.ref p) H2 e2 (f p xs _ (by
    rw [hide_ne (new_apart (by obtain ⟨o, ho⟩ := hs; exact ⟨o, e _ _ ho⟩) hp)]
    exact h2) l1 l2 r)
theorem er_tup {R' : Hp → V → Prop} (up : Up R) (hs : ∃ o, H s = some o) (h : EvAR s R tl σ H n) (hn : n ≤ 1000) (f : ∀ p xs G, G p = some (.tup xs) → xs.length = n → (∀ x ∈ xs, R G x) → R' G (.ref p)) : EvR s R' (tTup tl) σ H := fun H1 e Q q =>
  h H1 e _ fun vs H2 e2 hl hv => ⟨by rw [hl]; exact sz_of (by omega), fun p hp => q (.ref p) _ (e2.trans (Ex.new hp)) (f p vs _ (by
    rw [hide_ne (new_apart (by obtain ⟨o, ho⟩ := hs; exact ⟨o, e2 _ _ (e _ _ ho)⟩) hp)]
    exact upd_same) hl fun x hx => up _ _ _ (hide_ex (Ex.new hp)) (hv x hx))⟩
theorem er_imp {R' : Hp → V → Prop} (h : EvR s R te σ H) (f : ∀ G v, R G v → R' G v) : EvR s R' te σ H := fun H1 e Q q => h H1 e Q fun v H2 e2 r => q v H2 e2 (f _ _ r)
/-- statements -/
theorem q_asgR {i : Nat} {D : Ends} {tz : TS} (h : EvR s R te σ H) (k : ∀ v H1, Ex H H1 → R (hide s H1) v → tz D (σ.set i (some v)) H1) : tSeq (tAsg te (gName i)) tz D σ H := h H (Ex.refl H) _ fun v H1 e r => k v H1 e r
theorem q_asgLR {i : Nat} {D : Ends} {tz : TS} (hs : ∃ o, H s = some o) (h : EvLR s R te σ H lo hi) (k : ∀ p H1, H p = none → Ex H H1 → LsR s R H1 p lo hi → tz D (σ.set i (some (.ref p))) H1) : tSeq (tAsg te (gName i)) tz D σ H :=
  h H (Ex.refl H) _ fun p xs H1 hp e h1 l1 l2 r => k p H1 hp e ⟨new_apart hs hp, xs, h1, l1, l2, r⟩
theorem LsR.drew {B : Nat} (up : Up R) {p : Addr} (h : LsR s R H p lo hi) (d : Drew s B H H') : LsR s R H' p lo hi := by
  obtain ⟨np, xs, hx, l1, l2, r⟩ := h
  exact ⟨np, xs, d.get np hx, l1, l2, fun x hx => up _ _ _ d.kept (r x hx)⟩
theorem LsR.ex (up : Up R) {p : Addr} (h : LsR s R H p lo hi) (e : Ex H H') : LsR s R H' p lo hi := by
  obtain ⟨np, xs, hx, l1, l2, r⟩ := h
  exact ⟨np, xs, e _ _ hx, l1, l2, fun x hx => up _ _ _ (hide_ex e) (r x hx)⟩
theorem LsR.pick {Kf : PySem.W.Frag} {p : Addr} {r : Int} {Q : VK} (h : LsR s R H p lo hi) (r0 : 0 ≤ r) (r1 : r < (lo : Int)) (q : ∀ x, R (hide s H) x → Q x H) : rIxL Kf (.ref p) (.int r) H Q := by
  obtain ⟨_, xs, hx, l1, l2, hr⟩ := h
  have lt : r.toNat < xs.length := by omega
  have e : r = (r.toNat : Int) := by omega
  rw [e]
  exact ⟨p, xs, _, xs[r.toNat], rfl, rfl, sq_of hx, atI_nat (List.getElem?_eq_getElem lt), q _ (hr _ (List.getElem_mem lt))⟩
end
end Os
namespace K03
open PySem PySem.Spec PyProof.Rows L2 Os Evl
abbrev sGraph : Stmt := topS 21
theorem scGraph : FnScope ["source", "most", "sizes", "size", "style", "sparse", "labels", "pairs", "k", "ahead"] ["source", "most"] (defScope sGraph) := ⟨rfl, rfl, rfl, by decide +kernel, rfl, by decide +kernel, by decide +kernel⟩
theorem PrsV.put {s p : Addr} {G : Hp} {xs' zs vs : List V} {es : List Pr} (h : PrsV (hide s G) vs es) (np : p ≠ s) (hp : G p = some (.lst xs')) : PrsV (hide s (upd G p (.lst zs))) vs es := by
  induction h with
  | nil => exact .nil
  | cons x _ ih =>
    obtain ⟨t, rfl, ht⟩ := x
    obtain ⟨n1, h1⟩ := hide_of ht
    refine .cons ⟨t, rfl, ?_⟩ ih
    rw [hide_ne n1, upd_ne fun e => by
      rw [e, hp] at h1
      cases h1]
    exact h1
theorem PrsV.mem {G : Hp} : ∀ {vs : List V} {es : List Pr} {e : Pr}, PrsV G vs es → e ∈ es → ∃ v ∈ vs, PrV G v e
  | _, _, _, .cons p r, h => by
    rcases List.mem_cons.mp h with rfl | h
    · exact ⟨_, List.mem_cons_self, p⟩
    · obtain ⟨v, h1, h2⟩ := PrsV.mem r h
      exact ⟨v, List.mem_cons_of_mem _ h1, h2⟩
theorem PrsV.pairwise {G : Hp} {R : V → V → Prop} {S : Pr → Pr → Prop} : ∀ {vs : List V} {es : List Pr}, PrsV G vs es → vs.Pairwise R → (∀ v u e f, R v u → PrV G v e → PrV G u f → S e f) → es.Pairwise S
  | _, _, .nil, _, _ => .nil
  | _, _, .cons p r, h, k => by
    obtain ⟨h1, h2⟩ := List.pairwise_cons.mp h
    refine List.pairwise_cons.mpr ⟨fun f hf => ?_, PrsV.pairwise r h2 k⟩
    obtain ⟨u, hu, pu⟩ := PrsV.mem r hf
    exact k _ _ _ _ (h1 u hu) p pu
theorem drawn_if {s : Addr} {C : Nat} {t : TT} {tu tw : TS} {D : Ends} {σ : L2.St} {H : Hp} (h : ∀ Q : Bool → Hp → Prop, (∀ H1, Drew s C H H1 → Q true H1) → (∀ H1, Drew s C H H1 → Q false H1) → t σ H Q) (k1 : ∀ H1, Drew s C H H1 → tu D σ H1) (k2 : ∀ H1, Drew s C H H1 → tw D σ H1) : tIfS t tu tw D σ H :=
  h _ (fun H1 d => k1 H1 d) (fun H1 d => k2 H1 d)
section
variable {P : Program} {w : World} {K : PySem.W.Frag} {mg : Str → Option Value} {base : Heap}
def spGraph : Sp := fun vs H Q _ => ∃ (s : Addr) (m B : Nat), vs = [.ref s, .int (m : Int)] ∧ 1 ≤ m ∧ m ≤ 40 ∧ Src H s B ∧ B ≤ 800000 ∧
  ∀ (H' : Hp) (v : V) (n : Nat) (es : List Pr), Drew s (B + 200) H H' → GraphV (hide s H') v n es → IsForest n es → Q v H'
theorem ok_graph {f fP fS : Addr} {fd fdP fdS : FuncData} {k : Nat} (F : Fun K "_law_graph" "_law_graph" sGraph f fd) (GP : FnOk P w K mg base CX0 k fP fdP ["source", "count"] spPick) (FP : Fun K "_law_pick" "_law_pick" sPick fP fdP) (bP : Binds K fdP ["source", "count"] [])
    (gP : mg "_law_pick" = some (.ref fP)) (GS : FnOk P w K mg base CX0 k fS fdS ["source", "row"] spShuf) (FS : Fun K "_law_shuffled" "_law_shuffled" sShuf fS fdS) (bS : Binds K fdS ["source", "row"] []) (gS : mg "_law_shuffled" = some (.ref fS))
    (mRange : mg "range" = none) (mList : mg "list" = none) (mMax : mg "max" = none) (mMin : mg "min" = none) (mSorted : mg "sorted" = none) :
    FnOk P w K mg base CX0 (k + 1) f fd ["source", "most"] spGraph := by
  refine F.ok scGraph (fun vs H Q E h => ?_) (fun cdv A outer s H vs Q E hr h => ?_)
  · obtain ⟨s, m, B, rfl, _⟩ := h
    rfl
  · obtain ⟨s, m, B, rfl, hm1, hm40, hS, hB, q⟩ := h
    refine ⟨_, (pss_cons (ps_set (i := 2) scGraph.nd rfl (.inl rfl) (pe_lst (pa_cons (pe_op op_add pe_int (pe_call GP hr (by rfl) gP FP.kp bP .nil pass0 (pa_cons (pv 0) (pa_cons (pe_callB (call_min2 rfl) (by rfl) mMin boot_min (pa_cons (pv 1) (pa_cons pe_int pa_nil))) pa_nil)))) (pa_cons (pe_op op_add pe_int (pe_call GP hr (by rfl) gP FP.kp bP .nil pass0 (pa_cons (pv 0) (pa_cons (pe_callB (call_min2 rfl) (by rfl) mMin boot_min (pa_cons (pv 1) (pa_cons pe_int pa_nil))) pa_nil)))) (pa_cons (pe_op op_add pe_int (pe_call GP hr (by rfl) gP FP.kp bP .nil pass0 (pa_cons (pv 0) (pa_cons (pv 1) pa_nil)))) pa_nil)))))
      (pss_cons (ps_set (i := 3) scGraph.nd rfl (.inl rfl) (pe_ix ix_list (pe_op op_cat (pv 2) (pe_lst (pa_cons (pv 1) pa_nil))) (pe_call GP hr (by rfl) gP FP.kp bP .nil pass0 (pa_cons (pv 0) (pa_cons pe_int pa_nil))) (fun _ _ => rfl)))
      (pss_cons (ps_par (i := 4) (j := 5) rfl scGraph.nd rfl rfl (by decide) rfl rfl (pa_cons (pe_call GP hr (by rfl) gP FP.kp bP .nil pass0 (pa_cons (pv 0) (pa_cons pe_int pa_nil))) (pa_cons (pe_call GP hr (by rfl) gP FP.kp bP .nil pass0 (pa_cons (pv 0) (pa_cons pe_int pa_nil))) pa_nil)) (by rfl))
      (pss_cons (ps_set (i := 6) scGraph.nd rfl (.inl rfl) (pe_call GS hr (by rfl) gS FS.kp bS .nil pass0 (pa_cons (pv 0) (pa_cons (pe_listRg rfl (by rfl) mList (prg_1 (by rfl) mRange (pv 3))) pa_nil))))
      (pss_cons (ps_set (i := 7) scGraph.nd rfl (.inl rfl) (pe_lst pa_nil))
      (pss_cons (ps_for PassesOwn.never rfl (pi_range2 (by rfl) mRange (pa_cons pe_int (pa_cons (pv 3) pa_nil))) (pg_name (i := 8) scGraph.nd rfl (Or.inl rfl))
      (pss_cons (ps_set (i := 9) scGraph.nd rfl (.inl rfl) (pe_ix ix_list (pe_lst (pa_cons (pe_op op_sub (pv 8) pe_int) (pa_cons pe_int (pa_cons (pe_call GP hr (by rfl) gP FP.kp bP .nil pass0 (pa_cons (pv 0) (pa_cons (pv 8) pa_nil))) (pa_cons (pe_callB (call_max2 rfl) (by rfl) mMax boot_max (pa_cons pe_int (pa_cons (pe_op op_sub (pe_op op_sub (pv 8) pe_int) (pe_call GP hr (by rfl) gP FP.kp bP .nil pass0 (pa_cons (pv 0) (pa_cons pe_int pa_nil)))) pa_nil))) pa_nil))))) (pv 4) (fun _ _ => rfl)))
      (pss_one (ps_if (PW.pt (pw_or (pt_cmpR op_lt (pv 5) pe_int (nomark _)) (pw_or1 (pt_cmpR op_gt (pe_call GP hr (by rfl) gP FP.kp bP .nil pass0 (pa_cons (pv 0) (pa_cons pe_int pa_nil))) pe_int (nomark _))))) (pss_one (ps_expr (pe_bm PySem.F.plainAttrs_list PySem.F.slot_list_append PySem.F.type_list_append mt_append (pv 7) (pa_cons (pe_tup (pa_cons (pe_callB (call_min2 rfl) (by rfl) mMin boot_min (pa_cons (pe_ix ix_list (pv 6) (pv 9) (fun _ _ => rfl)) (pa_cons (pe_ix ix_list (pv 6) (pv 8) (fun _ _ => rfl)) pa_nil))) (pa_cons (pe_callB (call_max2 rfl) (by rfl) mMax boot_max (pa_cons (pe_ix ix_list (pv 6) (pv 9) (fun _ _ => rfl)) (pa_cons (pe_ix ix_list (pv 6) (pv 8) (fun _ _ => rfl)) pa_nil))) pa_nil))) pa_nil)))) pss_nil))))
      (pss_one (ps_ret (pe_tup (pa_cons (pv 3) (pa_cons (pe_callB (cr_sortT (d := 2) (B := 64) (by decide)) (by rfl) mSorted boot_sorted (pa_cons (pv 7) pa_nil)) pa_nil))))))))))), ?_⟩
    have src0 := hS.at
    have rgn : ∀ n : Nat, rgV 0 (n : Int) = (List.range n).map fun x : Nat => V.int (x : Int) := fun n => by
      unfold rgV
      rw [show ((n : Int) - 0).toNat = n by omega]
      exact List.map_congr_left fun i _ => congrArg V.int (by omega)
    -- sizes
    refine ⟨.ref s, rfl, .int (m : Int), rfl, (m : Int), 3, rfl, s, if (3 : Int) < (m : Int) then 3 else (m : Int), B, rfl, hS, by omega, by split <;> omega, by split <;> omega, fun H1 r1 d1 r10 r11 => ⟨1, r1, rfl, rfl, ?_⟩⟩
    refine ⟨.ref s, rfl, .int (m : Int), rfl, (m : Int), 9, rfl, s, if (9 : Int) < (m : Int) then 9 else (m : Int), B + 1, rfl, d1.src, by omega, by split <;> omega, by split <;> omega, fun H2 r2 d2 r20 r21 => ⟨1, r2, rfl, rfl, ?_⟩⟩
    refine ⟨.ref s, rfl, .int (m : Int), rfl, s, (m : Int), B + 2, rfl, d2.src, by omega, by omega, by omega, fun H3 r3 d3 r30 r31 => ⟨1, r3, rfl, rfl, show 3 ≤ sizeLine by decide, fun p1 hp1 => ?_⟩⟩
    have D3 := (d1.trans d2).trans d3
    have r11' : r1 < 40 := by split at r11 <;> omega
    have r21' : r2 < 40 := by split at r21 <;> omega
    -- size
    have D4 := D3.ex (Ex.new (o := .lst [.int (1 + r1), .int (1 + r2), .int (1 + r3)]) hp1)
    refine ⟨.ref p1, rfl, .int (m : Int), rfl, show 1 ≤ sizeLine by decide, fun p2 hp2 => ?_⟩
    have e2 := Ex.new (o := .lst [.int (m : Int)]) hp2
    refine ⟨p1, p2, _, [.int (m : Int)], rfl, rfl, e2 _ _ upd_same, upd_same, show 4 ≤ sizeLine by decide, fun p3 hp3 => ?_⟩
    have D5 := (D4.ex e2).ex (Ex.new (o := .lst ([.int (1 + r1), .int (1 + r2), .int (1 + r3)] ++ [.int (m : Int)])) hp3)
    have np3 : p3 ≠ s := new_apart (D4.ex e2).src.at hp3
    refine ⟨.ref s, rfl, s, 4, B + 3, rfl, D5.src, by omega, by decide, by decide, fun H4 r4 d4 r40 r41 => ?_⟩
    obtain ⟨n, hn, n1, n40⟩ : ∃ n : Nat, ([.int (1 + r1), .int (1 + r2), .int (1 + r3)] ++ [.int (m : Int)] : List V)[r4.toNat]? = some (.int (n : Int)) ∧ 1 ≤ n ∧ n ≤ 40 := by
      obtain ⟨a1, rfl⟩ : ∃ a : Nat, r1 = (a : Int) := ⟨r1.toNat, by omega⟩
      obtain ⟨a2, rfl⟩ : ∃ a : Nat, r2 = (a : Int) := ⟨r2.toNat, by omega⟩
      obtain ⟨a3, rfl⟩ : ∃ a : Nat, r3 = (a : Int) := ⟨r3.toNat, by omega⟩
      have h4 : r4.toNat < 4 := by omega
      match r4.toNat, h4 with
      | 0, _ => exact ⟨1 + a1, rfl, by omega, by omega⟩
      | 1, _ => exact ⟨1 + a2, rfl, by omega, by omega⟩
      | 2, _ => exact ⟨1 + a3, rfl, by omega, by omega⟩
      | 3, _ => exact ⟨m, rfl, by omega, by omega⟩
    obtain ⟨t4, rfl⟩ : ∃ a : Nat, r4 = (a : Int) := ⟨r4.toNat, by omega⟩
    refine ⟨p3, _, (t4 : Int), .int (n : Int), rfl, rfl, sq_of (d4.get np3 upd_same), atI_nat hn, ?_⟩
    have D6 := D5.trans d4
    -- style, sparse
    refine ⟨.ref s, rfl, s, 4, B + 4, rfl, D6.src, by omega, by decide, by decide, fun H5 r5 d5 r50 r51 => ?_⟩
    refine ⟨.ref s, rfl, s, 3, B + 5, rfl, d5.src, by omega, by decide, by decide, fun H6 r6 d6 r60 r61 => ⟨_, _, rfl, ?_⟩⟩
    have D7 := (D6.trans d5).trans d6
    -- labels
    refine ⟨.ref s, rfl, .int (n : Int), rfl, (n : Int), rfl, RgOk.of_le (by omega) (by omega) (by omega) (by omega), fun L hL => ?_⟩
    have D8 := D7.ex (Ex.new (o := .lst (rgV 0 (n : Int))) hL)
    refine ⟨s, L, rgV 0 (n : Int), B + 6, rfl, D8.src, upd_same, new_apart D7.src.at hL, by rw [rgn, List.length_map, List.length_range]; omega, by omega, fun H7 La ys d7 hLa hys pm => ?_⟩
    rw [rgn, List.length_map, List.length_range] at d7
    rw [rgn] at pm D8 hLa
    obtain ⟨lab, rfl, pl⟩ := perm_nats pm
    have D9 := D8.trans d7
    have nLa : La ≠ s := fun e => by
      obtain ⟨o, ho⟩ := D8.src.at
      rw [e, ho] at hLa
      cases hLa
    refine q_asgL (xs := []) (el_lst ea_nil (Nat.zero_le _)) fun Pa H8 hPa e8 hP8 => ?_
    have nPs : Pa ≠ s := new_apart D9.src.at hPa
    have nPL : La ≠ Pa := ne_of_none hys hPa
    have D10 := D9.ex e8
    have hPH : H Pa = none := D9.none src0 hPa
    have ll := lab_len pl
    have labAt : ∀ {j : Nat}, j < n → (lab.map fun x : Nat => V.int (x : Int))[j]? = some (.int ((lab.getD j 0 : Nat) : Int)) := fun {j} hj => by
      rw [List.getElem?_map, List.getD_eq_getElem?_getD, List.getElem?_eq_getElem (by omega)]
      rfl
    refine q_forR2 (lo := 1) (n := (n : Int)) (ea_cons ev_c (ea_cons (ev_var rfl) ea_nil)) ⟨by omega, by omega, by omega, by omega⟩
      (fun i σ' H' => ∃ (ks : List Pr) (xs : List V) (y8 y9 : Option V), σ' = [some (.ref s), some (.int (m : Int)), some (.ref p1), some (.int (n : Int)), some (.int r5), some (.int r6), some (.ref La), some (.ref Pa), y8, y9] ∧ H' La = some (.lst (lab.map fun x : Nat => V.int (x : Int))) ∧
        H' Pa = some (.lst xs) ∧ PrsV (hide s H') xs (ks.map (edgeOf lab)) ∧ (∀ p ∈ ks, p.1 < p.2 ∧ p.2 < 1 + i ∧ p.2 < n) ∧ (ks.Pairwise fun p q => p.2 < q.2) ∧ ks.length ≤ i ∧ i ≤ 40 ∧ Drew s (B + 6 + n + 3 * i) H H')
      (fun H9 e9 => ⟨[], [], _, _, rfl, e9 _ _ (e8 _ _ hys), e9 _ _ hP8, .nil, (fun p hp => nomatch hp), .nil, Nat.le_refl _, Nat.zero_le _, D10.ex e9⟩) ?_ ?_
    · rintro i σ' H9 hi ⟨ks, xs, y8, y9, rfl, hLa9, hPa9, prs, kin, inc, kl, i40, dr⟩
      have hk : (1 : Int) + (i : Int) = ((1 + i : Nat) : Int) := by omega
      rw [hk]
      -- ahead
      refine ⟨.int ((1 + i : Nat) : Int), rfl, ((1 + i : Nat) : Int), 1, rfl, rfl, ?_⟩
      refine ⟨.ref s, rfl, .int ((1 + i : Nat) : Int), rfl, s, ((1 + i : Nat) : Int), B + 6 + n + 3 * i, rfl, dr.src, by omega, by omega, by omega, fun Ha ra da ra0 ra1 => ?_⟩
      refine ⟨.int ((1 + i : Nat) : Int), rfl, ((1 + i : Nat) : Int), 1, rfl, rfl, .ref s, rfl, s, 3, _, rfl, da.src, by omega, by decide, by decide, fun Hb rb db rb0 rb1 => ?_⟩
      refine ⟨_, rb, rfl, rfl, 0, _, rfl, show 4 ≤ sizeLine by decide, fun p4 hp4 => ?_⟩
      obtain ⟨ah, hah, ahlt⟩ : ∃ a : Nat, ([.int (((1 + i : Nat) : Int) - 1), .int 0, .int ra, .int (if ((1 + i : Nat) : Int) - 1 - rb > 0 then ((1 + i : Nat) : Int) - 1 - rb else 0)] : List V)[r5.toNat]? = some (.int (a : Int)) ∧ a < 1 + i := by
        have h4 : r5.toNat < 4 := by omega
        match r5.toNat, h4 with
        | 0, _ => exact ⟨i, congrArg some (congrArg V.int (show ((1 + i : Nat) : Int) - 1 = (i : Int) by omega)), by omega⟩
        | 1, _ => exact ⟨0, rfl, by omega⟩
        | 2, _ => exact ⟨ra.toNat, congrArg some (congrArg V.int (show ra = (ra.toNat : Int) by omega)), by omega⟩
        | 3, _ =>
          by_cases hc : ((1 + i : Nat) : Int) - 1 - rb > 0
          · refine ⟨(((1 + i : Nat) : Int) - 1 - rb).toNat, ?_, by omega⟩
            rw [if_pos hc]
            exact congrArg some (congrArg V.int (by omega))
          · refine ⟨0, ?_, by omega⟩
            rw [if_neg hc]
            rfl
      have e4 : Ex Hb _ := Ex.new (o := .lst [.int (((1 + i : Nat) : Int) - 1), .int 0, .int ra, .int (if ((1 + i : Nat) : Int) - 1 - rb > 0 then ((1 + i : Nat) : Int) - 1 - rb else 0)]) hp4
      have da' := (da.trans db).ex e4
      refine ⟨.int r5, rfl, p4, _, r5, .int (ah : Int), rfl, rfl, sq_of upd_same, by rw [show r5 = (r5.toNat : Int) by omega]; exact atI_nat hah, ?_⟩
      have lt_n : 1 + i < n := by omega
      dsimp only [gName]
      refine drawn_if (s := s) (C := B + 6 + n + 3 * (i + 1)) (fun Q' q1 q2 => ?_) (fun Hc dc => ?_) (fun Hc dc => ?_)
      · refine ⟨.int r6, rfl, r6, 2, rfl, rfl, _, rfl, ite2 (fun _ => q1 _ (Drew.refl (da'.src.mono (by omega)))) (fun _ => ?_)⟩
        refine ⟨.ref s, rfl, s, 4, _, rfl, da'.src, by omega, by decide, by decide, fun Hd rd dd rd0 rd1 => ⟨rd, 0, rfl, rfl, ?_⟩⟩
        refine ⟨_, rfl, ?_⟩
        cases hz : decide ((0 : Int) < rd) with
        | true => exact q1 _ (dd.mono (by omega))
        | false => exact q2 _ (dd.mono (by omega))
      · have dF := da'.trans dc
        have hLa10 := dF.get nLa hLa9
        have hPa10 := dF.get nPs hPa9
        have atL : ∀ {j : Nat}, j < n → (lab.map fun x : Nat => V.int (x : Int))[j]? = some (.int ((lab.getD j 0 : Nat) : Int)) := labAt
        have e1 : edgeOf lab (ah, 1 + i) = (min (lab.getD ah 0) (lab.getD (1 + i) 0), max (lab.getD ah 0) (lab.getD (1 + i) 0)) := rfl
        have m1 : (V.int (if ((lab.getD (1 + i) 0 : Nat) : Int) < ((lab.getD ah 0 : Nat) : Int) then ((lab.getD (1 + i) 0 : Nat) : Int) else ((lab.getD ah 0 : Nat) : Int))) = V.int (((edgeOf lab (ah, 1 + i)).1 : Nat) : Int) := by
          rw [e1]
          refine congrArg V.int ?_
          show _ = ((min (lab.getD ah 0) (lab.getD (1 + i) 0) : Nat) : Int)
          split <;> omega
        have m2 : (V.int (if ((lab.getD (1 + i) 0 : Nat) : Int) > ((lab.getD ah 0 : Nat) : Int) then ((lab.getD (1 + i) 0 : Nat) : Int) else ((lab.getD ah 0 : Nat) : Int))) = V.int (((edgeOf lab (ah, 1 + i)).2 : Nat) : Int) := by
          rw [e1]
          refine congrArg V.int ?_
          show _ = ((max (lab.getD ah 0) (lab.getD (1 + i) 0) : Nat) : Int)
          split <;> omega
        have exA : ∀ {σ : L2.St} {j c : Nat}, σ[6]? = some (some (.ref La)) → σ[c]? = some (some (.int (j : Int))) → j < n → Ev (tOp (rIxL K) (tVar 6) (tVar c)) σ Hc (.int ((lab.getD j 0 : Nat) : Int)) := fun {σ j c} g6 g7 hj => ev_op (ev_var g6) (ev_var g7) (rv_ixL (sq_of hLa10) (atI_nat (labAt hj)))
        refine s_appU (ys := [.int (((edgeOf lab (ah, 1 + i)).1 : Nat) : Int), .int (((edgeOf lab (ah, 1 + i)).2 : Nat) : Int)]) hPa10 (ev_var rfl) (eu_tup (ea_cons (ev_is (ev_min (exA rfl rfl (by omega)) (exA rfl rfl (by omega))) m1) (ea_cons (ev_is (ev_max (exA rfl rfl (by omega)) (exA rfl rfl (by omega))) m2) ea_nil)) (by show 2 ≤ 100000; decide)) (by have := prs.length; rw [List.length_map] at this; omega) fun pt Hd hpt ed hptd => ?_
        have npt : pt ≠ s := new_apart dF.src.at hpt
        have dG := dF.ex ed
        have nptPa : Pa ≠ pt := ne_of_none hPa10 hpt
        refine ⟨ks ++ [(ah, 1 + i)], xs ++ [.ref pt], _, _, rfl, ?_, upd_same, ?_, ?_, ?_, ?_, by omega, ?_⟩
        · rw [upd_ne nPL]
          exact ed _ _ hLa10
        · rw [List.map_append]
          have p1 : PrsV (hide s Hd) (xs ++ [.ref pt]) (ks.map (edgeOf lab) ++ [edgeOf lab (ah, 1 + i)]) := (prs.ex dG.kept).append (.cons ⟨pt, rfl, by rw [hide_ne npt]; exact hptd⟩ .nil)
          exact PrsV.put p1 nPs (ed _ _ hPa10)
        · intro p hp
          rcases List.mem_append.mp hp with hp | hp
          · have := kin p hp
            omega
          · rw [List.mem_singleton.mp hp]
            exact ⟨ahlt, by show 1 + i < 1 + (i + 1); omega, lt_n⟩
        · refine List.pairwise_append.mpr ⟨inc, List.pairwise_singleton _ _, fun p hp q hq => ?_⟩
          rw [List.mem_singleton.mp hq]
          exact (kin p hp).2.1
        · rw [List.length_append]
          show ks.length + 1 ≤ i + 1
          omega
        · exact (dr.trans dG).mut src0 hPH
      · have dF := da'.trans dc
        exact ⟨ks, xs, _, _, rfl, dF.get nLa hLa9, dF.get nPs hPa9, prs.ex dF.kept, fun p hp => by have := kin p hp; omega, inc, by omega, by omega, dr.trans dF⟩
    · rintro σ' H9 ⟨ks, xs, y8, y9, rfl, hLa9, hPa9, prs, kin, inc, kl, i40, dr⟩
      obtain ⟨g1, g2, g3⟩ := drawn_edges pl (fun p hp => ⟨(kin p hp).1, (kin p hp).2.2⟩) inc
      have xl := prs.length
      rw [List.length_map] at xl
      have small : ∀ e ∈ ks.map (edgeOf lab), e.1 < 64 ∧ e.2 < 64 := fun e he => by have := g1 e he; omega
      refine ⟨.int (n : Int), rfl, .ref Pa, rfl, Pa, xs, rfl, sq_of hPa9, by omega, fun x hx => ?_, fun ys p pm pw hp => ⟨show 2 ≤ sizeLine by decide, fun t ht => ?_⟩⟩
      · obtain ⟨j, hj⟩ := List.mem_iff_getElem?.mp hx
        obtain ⟨e, he, tt, rfl, htt⟩ := prs.get hj
        have se := small e (List.mem_of_getElem? he)
        exact ⟨[(e.1 : Int), (e.2 : Int)], ⟨tt, rfl, st_of (hide_of htt).2⟩, rfl, fun m hm => by
          rcases List.mem_cons.mp hm with rfl | hm
          · omega
          · rw [List.mem_singleton.mp hm]
            omega⟩
      · obtain ⟨fs, pf, pmf⟩ := prs.perm pm
        have sf : fs.Pairwise fun e f => (e.1 : Int) * 64 + (e.2 : Int) ≤ (f.1 : Int) * 64 + (f.2 : Int) := PrsV.pairwise pf pw fun v u e f r pv pu => by
          obtain ⟨tv, rfl, hv⟩ := pv
          obtain ⟨tu, rfl, hu⟩ := pu
          have := r [(e.1 : Int), (e.2 : Int)] [(f.1 : Int), (f.2 : Int)] ⟨tv, rfl, st_of (hide_of hv).2⟩ ⟨tu, rfl, st_of (hide_of hu).2⟩
          rwa [code_pair, code_pair] at this
        have np : p ≠ s := new_apart dr.src.at hp
        have dS := dr.ex (Ex.new (o := .lst ys) hp)
        have nt : t ≠ s := new_apart dS.src.at ht
        have eT := Ex.new (o := .tup [.int (n : Int), .ref p]) ht
        have dT := dS.ex eT
        refine q _ (.ref t) n fs (dT.mono (by omega)) ⟨t, p, ys, rfl, by rw [hide_ne nt]; exact upd_same, by rw [hide_ne np]; exact eT _ _ upd_same, (pf.ex (hide_ex (Ex.new hp))).ex (hide_ex eT)⟩ ⟨⟨fun e he => g1 e (pmf.mem_iff.mp he), asc_strict (pmf.nodup_iff.mpr g2) (fun e he => small e (pmf.mem_iff.mp he)) sf, g3.perm pmf⟩, n1, n40, by rw [pmf.length_eq, List.length_map]; omega⟩
end
end K03
/-! data of bounded text and depth; sorted texts; permutations -/
namespace Os
open PySem PySem.Spec PyProof.Rows L2 Evl
theorem listText_len (ts : List Str) : (listText ts).length ≤ 2 + piled ts := by
  cases ts with
  | nil => decide
  | cons t ts =>
    unfold listText
    show (textFrom 1 ((("[" : Str) ++ ("" : Str)) ++ t) ts ++ ("]" : Str)).length ≤ _
    rw [strLen_append, textFrom_length_pos ts 1 _ (by decide), strLen_append, strLen_append, piled_cons]
    have e1 : ("[" : Str).length = 1 := by decide
    have e2 : ("" : Str).length = 0 := by decide
    have e3 : ("]" : Str).length = 1 := by decide
    omega
theorem tupleText_len (ts : List Str) : (tupleText ts).length ≤ 3 + piled ts := by
  unfold tupleText
  rw [strLen_append, strLen_append]
  have e1 : ("(" : Str).length = 1 := by decide
  have e2 : ((if ts.length == 1 then ",)" else ")" : String) : Str).length ≤ 2 := by split <;> decide
  cases ts with
  | nil => decide
  | cons t ts =>
    have := join_length_add (t :: ts) (fun h => nomatch h)
    omega
theorem str_codes {z : Str} (h : PyData.strOk z = true) : ∀ c ∈ z.cps.toList, c < 1114112 := by
  unfold PyData.strOk at h
  rw [← Array.all_toList, List.all_eq_true] at h
  exact fun c hc => of_decide_eq_true (h c hc)
theorem str_of_codes {z : Str} (h : ∀ c ∈ z.cps.toList, c < 1114112) : PyData.strOk z = true := by
  unfold PyData.strOk
  rw [← Array.all_toList, List.all_eq_true]
  exact fun c hc => decide_eq_true (h c hc)
theorem int_shown : ∀ i, i < 64 → (PyData.int ((i : Nat) : Int)).shown.length ≤ 100 := by decide +kernel
theorem dts_strs {H : Hp} : ∀ zs : List Str, Dts H (zs.map V.str) (zs.map PyData.str)
  | [] => .nil
  | z :: zs => .cons (.str z) (dts_strs zs)

/-- data of ints, texts, lists and tuples -/
structure Sh (n : Nat) (d : PyData) : Prop where
  lay : d.canLay0 = true
  deep : d.depth ≤ n
theorem sh_all {n : Nat} : ∀ {ds : List PyData}, (∀ d ∈ ds, Sh n d) → PyData.canLayAll0 ds = true ∧ PyData.depthAll ds ≤ n
  | [], _ => ⟨rfl, Nat.zero_le _⟩
  | d :: ds, h => by
    obtain ⟨h1, h2⟩ := sh_all (ds := ds) fun x hx => h x (List.mem_cons_of_mem _ hx)
    have i := h d List.mem_cons_self
    refine ⟨?_, ?_⟩
    · show (d.canLay0 && PyData.canLayAll0 ds) = true
      rw [i.lay, h1]
      rfl
    · show max d.depth (PyData.depthAll ds) ≤ n
      have := i.deep
      omega
theorem Sh.lst {n : Nat} {ds : List PyData} (h : ∀ d ∈ ds, Sh n d) : Sh (n + 1) (.list ds) := ⟨(sh_all h).1, Nat.succ_le_succ (sh_all h).2⟩
theorem Sh.tup {n : Nat} {ds : List PyData} (h : ∀ d ∈ ds, Sh n d) : Sh (n + 1) (.tuple ds) := ⟨(sh_all h).1, Nat.succ_le_succ (sh_all h).2⟩
theorem Sh.int (n : Nat) (i : Int) : Sh n (.int i) := ⟨rfl, Nat.zero_le _⟩
theorem Sh.str (n : Nat) {z : Str} (h : PyData.strOk z = true) : Sh n (.str z) := ⟨h, Nat.zero_le _⟩
theorem Sh.mono {m n : Nat} {d : PyData} (h : Sh m d) (le : m ≤ n) : Sh n d := ⟨h.lay, Nat.le_trans h.deep le⟩
theorem Sh.shaped {n : Nat} {d : PyData} (h : Sh n d) (le : n ≤ 64) : SeqAt.shaped d = true := by
  show (d.canLay0 && decide (d.depth ≤ 64)) = true
  rw [h.lay, decide_eq_true (Nat.le_trans h.deep le)]
  rfl
theorem Sh.refl {n : Nat} {d : PyData} (h : Sh n d) : PyData.eqv d d = true := SeqAt.eqv_refl d h.lay
/-- data of bounded text -/
structure Lim (L D : Nat) (d : PyData) : Prop where
  long : d.shown.length ≤ L
  deep : d.depth ≤ D
  show' : d.showable = true
  flat : d.hasDict = false
theorem Lim.fit {L D : Nat} {d : PyData} (h : Lim L D d) (h1 : L ≤ 1000000) (h2 : D ≤ 40) : Fit sizeLine d := ⟨Nat.le_trans h.long (Nat.le_trans h1 (by decide)), Nat.le_trans h.deep h2, h.show', h.flat⟩
theorem Lim.mono {L D L' D' : Nat} {d : PyData} (h : Lim L D d) (h1 : L ≤ L') (h2 : D ≤ D') : Lim L' D' d := ⟨Nat.le_trans h.long h1, Nat.le_trans h.deep h2, h.show', h.flat⟩
theorem lim_all {L D : Nat} : ∀ {ds : List PyData}, (∀ d ∈ ds, Lim L D d) → piled (PyData.shownAll ds) ≤ (L + 2) * ds.length ∧ PyData.depthAll ds ≤ D ∧ PyData.showableAll ds = true ∧ PyData.hasDictAll ds = false
  | [], _ => ⟨Nat.le_refl _, Nat.zero_le _, rfl, rfl⟩
  | d :: ds, h => by
    obtain ⟨h1, h2, h3, h4⟩ := lim_all (ds := ds) fun x hx => h x (List.mem_cons_of_mem _ hx)
    have i := h d List.mem_cons_self
    refine ⟨?_, ?_, ?_, ?_⟩
    · show piled (d.shown :: PyData.shownAll ds) ≤ (L + 2) * (ds.length + 1)
      rw [piled_cons, Nat.mul_succ]
      have := i.long
      omega
    · show max d.depth (PyData.depthAll ds) ≤ D
      have := i.deep
      omega
    · show (d.showable && PyData.showableAll ds) = true
      rw [i.show', h3]
      rfl
    · show (d.hasDict || PyData.hasDictAll ds) = false
      rw [i.flat, h4]
      rfl
theorem Lim.lst {L D m : Nat} {ds : List PyData} (h : ∀ d ∈ ds, Lim L D d) (hm : ds.length ≤ m) : Lim (3 + (L + 2) * m) (D + 1) (.list ds) := by
  obtain ⟨h1, h2, h3, h4⟩ := lim_all h
  have := Nat.mul_le_mul_left (L + 2) hm
  refine ⟨?_, Nat.succ_le_succ h2, h3, h4⟩
  show (listText (PyData.shownAll ds)).length ≤ _
  have := listText_len (PyData.shownAll ds)
  omega
theorem Lim.tup {L D m : Nat} {ds : List PyData} (h : ∀ d ∈ ds, Lim L D d) (hm : ds.length ≤ m) : Lim (3 + (L + 2) * m) (D + 1) (.tuple ds) := by
  obtain ⟨h1, h2, h3, h4⟩ := lim_all h
  have := Nat.mul_le_mul_left (L + 2) hm
  refine ⟨?_, Nat.succ_le_succ h2, h3, h4⟩
  show (tupleText (PyData.shownAll ds)).length ≤ _
  have := tupleText_len (PyData.shownAll ds)
  omega
theorem Lim.str {z : Str} (h : z.length ≤ 8) (ok : PyData.strOk z = true) : Lim 100 0 (.str z) := by
  refine ⟨?_, Nat.zero_le _, rfl, rfl⟩
  show (reprText z).length ≤ _
  have := StrLaws.reprText_len z fun c hc => Nat.lt_trans (str_codes ok c hc) (by decide)
  omega
theorem Lim.int {i : Nat} (h : i < 64) : Lim 100 0 (.int (i : Int)) := by
  refine ⟨int_shown i h, Nat.zero_le _, ?_, rfl⟩
  show decide (((i : Int)).natAbs.log2 < 1920) = true
  refine decide_eq_true ?_
  have : ((i : Int)).natAbs = i := by omega
  rw [this]
  exact Nat.lt_of_le_of_lt (Nat.log2_le_self i) (by omega)
/-! ### sorted texts -/
theorem rising_pair : ∀ {p : Str} {l : List Str}, risingS p l = true → (p :: l).Pairwise fun a b => ¬ b.cps.toList < a.cps.toList
  | p, [], _ => List.pairwise_singleton _ _
  | p, x :: r, h => by
    have h' : (!ltCps x.cps.toList p.cps.toList && risingS x r) = true := h
    rw [Bool.and_eq_true, ltCps_eq, Bool.not_eq_true', decide_eq_false_iff_not] at h'
    have ih := rising_pair h'.2
    refine List.pairwise_cons.mpr ⟨fun b hb => ?_, ih⟩
    rcases List.mem_cons.mp hb with rfl | hb
    · exact h'.1
    · have h2 := List.rel_of_pairwise_cons ih hb
      exact fun z => h2 (Decidable.byContradiction fun n => h'.1 (by
        exact List.lt_of_le_of_lt (List.not_lt.mp n) z))
theorem sortedS_pair {l : List Str} (h : sortedS l = true) : l.Pairwise fun a b => ¬ b.cps.toList < a.cps.toList := by
  cases l with
  | nil => exact .nil
  | cons x r => exact rising_pair h
theorem sorted_same {l m : List Str} (p : l.Perm m) (h1 : sortedS l = true) (h2 : sortedS m = true) : l = m :=
  List.Perm.eq_of_pairwise (fun a b _ _ x y => by
    have e : a.cps.toList = b.cps.toList := List.le_antisymm (List.not_lt.mp x) (List.not_lt.mp y)
    cases a
    cases b
    exact congrArg Str.mk (Array.ext' e)) (sortedS_pair h1) (sortedS_pair h2) p
/-! ### swaps -/
def swp (zs : List Str) (e : Pr) : List Str := (zs.set e.1 (zs.getD e.2 ⟨#[]⟩)).set e.2 (zs.getD e.1 ⟨#[]⟩)
theorem swp_len (zs : List Str) (e : Pr) : (swp zs e).length = zs.length := by
  unfold swp
  rw [List.length_set, List.length_set]
theorem swp_perm {zs : List Str} {e : Pr} (h1 : e.1 < zs.length) (h2 : e.2 < zs.length) : (swp zs e).Perm zs := by
  unfold swp
  rw [List.getD_eq_getElem?_getD, List.getD_eq_getElem?_getD, List.getElem?_eq_getElem h1, List.getElem?_eq_getElem h2]
  exact List.set_set_perm h1 h2
def swps (zs : List Str) (es : List Pr) : List Str := es.foldl swp zs
theorem swps_perm {n : Nat} : ∀ {es : List Pr} {zs : List Str}, zs.length = n → (∀ e ∈ es, e.1 < n ∧ e.2 < n) → (swps zs es).Perm zs
  | [], _, _, _ => List.Perm.refl _
  | e :: r, zs, hl, h => by
    obtain ⟨a, b⟩ := h e List.mem_cons_self
    exact (swps_perm (by rw [swp_len, hl]) fun f hf => h f (List.mem_cons_of_mem _ hf)).trans (swp_perm (by omega) (by omega))
/-! ### two ascending lists of pairs with the same entries -/
theorem pairs_same {l m : List Pr} (p : l.Perm m) (h1 : l.Pairwise fun e f => (e.1 : Int) * 64 + (e.2 : Int) ≤ (f.1 : Int) * 64 + (f.2 : Int)) (h2 : m.Pairwise fun e f => ltP e f = true) (small : ∀ e ∈ m, e.1 < 64 ∧ e.2 < 64) : l = m := by
  refine List.Perm.eq_of_pairwise (le := fun e f => (e.1 : Int) * 64 + (e.2 : Int) ≤ (f.1 : Int) * 64 + (f.2 : Int)) (fun a b ha hb x y => ?_) h1 (List.Pairwise.imp_of_mem (fun {a b} ha hb h => ?_) h2) p
  · have sa := small a (p.mem_iff.mp ha)
    have sb := small b hb
    exact Prod.ext (by omega) (by omega)
  · have sa := small a ha
    have sb := small b hb
    rw [ltP_iff] at h
    omega
end Os
/-! the cycles of a permutation -/
namespace Os
open PySem PySem.Spec PyProof.Rows L2 Evl
theorem few_below : ∀ (n : Nat) {l : List Nat}, l.Nodup → (∀ x ∈ l, x < n) → l.length ≤ n
  | 0, l, _, h => by
    cases l with
    | nil => exact Nat.le_refl _
    | cons x r => exact absurd (h x List.mem_cons_self) (Nat.not_lt_zero x)
  | n + 1, l, nd, h => by
    have h1 : ∀ x ∈ l.erase n, x < n := fun x hx => by
      have m := List.mem_of_mem_erase hx
      have := h x m
      have ne : x ≠ n := fun e => by
        rw [e] at hx
        exact List.Nodup.not_mem_erase nd hx
      omega
    have ih := few_below n (nd.erase n) h1
    rw [List.length_erase] at ih
    split at ih <;> omega
def itr (f : List Nat) : Nat → Nat → Nat
  | 0, x => x
  | k + 1, x => f.getD (itr f k x) 0
/-- f is a permutation of the places below n -/
structure IsPerm (f : List Nat) (n : Nat) : Prop where
  len : f.length = n
  lt : ∀ i, i < n → f.getD i 0 < n
  inj : ∀ i j, i < n → j < n → f.getD i 0 = f.getD j 0 → i = j
section
variable {f : List Nat} {n : Nat}
theorem itr_lt (p : IsPerm f n) : ∀ (k : Nat) {x : Nat}, x < n → itr f k x < n
  | 0, _, h => h
  | k + 1, _, h => p.lt _ (itr_lt p k h)
theorem itr_back (p : IsPerm f n) {x : Nat} (hx : x < n) : ∀ (i j : Nat), itr f i x = itr f (i + j) x → x = itr f j x
  | 0, j, e => by rw [Nat.zero_add] at e; exact e
  | i + 1, j, e => by
    rw [show i + 1 + j = (i + j) + 1 by omega] at e
    exact itr_back p hx i j (p.inj _ _ (itr_lt p i hx) (itr_lt p (i + j) hx) e)
theorem itr_returns (p : IsPerm f n) {x : Nat} (hx : x < n) : ∃ j, j < n ∧ itr f (j + 1) x = x := Decidable.byContradiction fun no => by
  have nd : ((List.range (n + 1)).map fun i => itr f i x).Nodup := by
    unfold List.Nodup
    rw [List.pairwise_map]
    refine List.Pairwise.imp_of_mem (fun {i j} hi hj lt e => ?_) List.pairwise_lt_range
    have hj' := List.mem_range.mp hj
    have b := itr_back p hx i (j - i) (by rw [show i + (j - i) = j by omega]; exact e)
    exact no ⟨j - i - 1, by omega, by rw [show j - i - 1 + 1 = j - i by omega]; exact b.symm⟩
  have := few_below n nd fun y hy => by
    obtain ⟨i, _, rfl⟩ := List.mem_map.mp hy
    exact itr_lt p i hx
  rw [List.length_map, List.length_range] at this
  omega
def per (f : List Nat) (n x : Nat) : Nat := ((List.range n).find? fun j => itr f (j + 1) x == x).getD 0 + 1
theorem per_ok (p : IsPerm f n) {x : Nat} (hx : x < n) : 1 ≤ per f n x ∧ per f n x ≤ n ∧ itr f (per f n x) x = x ∧ ∀ j, 1 ≤ j → j < per f n x → itr f j x ≠ x := by
  obtain ⟨j, hj, e⟩ := itr_returns p hx
  unfold per
  cases hf : (List.range n).find? fun j => itr f (j + 1) x == x with
  | none => exact absurd (List.find?_eq_none.mp hf j (List.mem_range.mpr hj)) (by rw [e]; simp)
  | some m =>
    obtain ⟨h1, h2, h3⟩ := List.find?_range_eq_some.mp hf
    have hm := List.mem_range.mp h2
    show 1 ≤ m + 1 ∧ m + 1 ≤ n ∧ itr f (m + 1) x = x ∧ _
    refine ⟨by omega, by omega, by simpa using h1, fun j j1 jm z => ?_⟩
    have jm' : j < m + 1 := jm
    have := h3 (j - 1) (by omega)
    rw [show j - 1 + 1 = j by omega, z] at this
    simp at this
/-- the first k places on x's way -/
def way (f : List Nat) (k x : Nat) : List Nat := (List.range k).map fun i => itr f i x
theorem way_succ (f : List Nat) (k x : Nat) : way f (k + 1) x = way f k x ++ [itr f k x] := by
  unfold way
  rw [List.range_succ, List.map_append]
  rfl
theorem way_len (f : List Nat) (k x : Nat) : (way f k x).length = k := by
  unfold way
  rw [List.length_map, List.length_range]
def ringOf (f : List Nat) (n x : Nat) : List Nat := way f (per f n x) x
def lead (f : List Nat) (n x : Nat) : Bool := decide (∀ y ∈ ringOf f n x, x ≤ y)
def cycles (f : List Nat) (n : Nat) : List (List Nat) := ((List.range n).filter (lead f n)).map (ringOf f n)
theorem ring_head (p : IsPerm f n) {x : Nat} (hx : x < n) : (ringOf f n x)[0]? = some x ∧ x ∈ ringOf f n x := by
  have h := (per_ok p hx).1
  have e : (ringOf f n x)[0]? = some x := by
    unfold ringOf way
    rw [List.getElem?_map, List.getElem?_range (by omega)]
    rfl
  exact ⟨e, List.mem_of_getElem? e⟩
theorem lead_min (p : IsPerm f n) {x m : Nat} (hx : x < n) (hm : m ∈ ringOf f n x) (le : ∀ y ∈ ringOf f n x, m ≤ y) : decide (x = m) = lead f n x := by
  unfold lead
  refine decide_eq_decide.mpr ⟨fun e => e ▸ le, fun h => ?_⟩
  have := h m hm
  have := le x (ring_head p hx).2
  omega
theorem ring_lt (p : IsPerm f n) {x y : Nat} (hx : x < n) (hy : y ∈ ringOf f n x) : y < n := by
  obtain ⟨i, _, rfl⟩ := List.mem_map.mp hy
  exact itr_lt p i hx
theorem ring_len (p : IsPerm f n) {x : Nat} (hx : x < n) : (ringOf f n x).length ≤ n := by
  unfold ringOf
  rw [way_len]
  exact (per_ok p hx).2.1
/-- place 0 leads the first cycle -/
theorem lead_zero : lead f n 0 = true := decide_eq_true fun _ _ => Nat.zero_le _
end
/-! ### where the texts went -/
def went (zs us : List Str) : List Nat := zs.map fun z => us.idxOf z
theorem went_perm {zs us : List Str} {n : Nat} (p : us.Perm zs) (nd : zs.Nodup) (hl : zs.length = n) : IsPerm (went zs us) n := by
  have atW : ∀ {i : Nat} (h : i < zs.length), (went zs us).getD i 0 = us.idxOf zs[i] := fun {i} h => by
    unfold went
    rw [List.getD_eq_getElem?_getD, List.getElem?_map, List.getElem?_eq_getElem h]
    rfl
  have inU : ∀ {i : Nat} (h : i < zs.length), us.idxOf zs[i] < us.length := fun {i} h => List.idxOf_lt_length_iff.mpr (p.mem_iff.mpr (List.getElem_mem h))
  refine ⟨by unfold went; rw [List.length_map, hl], fun i hi => ?_, fun i j hi hj e => ?_⟩
  · rw [atW (by omega)]
    have := inU (i := i) (by omega)
    rw [p.length_eq] at this
    omega
  · rw [atW (by omega), atW (by omega)] at e
    have e1 := List.getElem_idxOf (inU (i := i) (by omega))
    have e2 := List.getElem_idxOf (inU (i := j) (by omega))
    have e3 : zs[i]'(by omega) = zs[j]'(by omega) := by
      rw [← e1, ← e2]
      simp only [e]
    refine Decidable.byContradiction fun ne => ?_
    rcases Nat.lt_or_gt_of_ne ne with h | h
    · exact List.pairwise_iff_getElem.mp nd i j _ _ h e3
    · exact List.pairwise_iff_getElem.mp nd j i _ _ h e3.symm
end Os
namespace K03
open PySem PySem.Spec PyProof.Rows L2 Os Evl
abbrev sChkF : Stmt := topS 12
theorem scChkF : FnScope ["forest"] ["forest"] (defScope sChkF) := ⟨rfl, rfl, rfl, by decide +kernel, rfl, by decide +kernel, by decide +kernel⟩
abbrev sSame : Stmt := topS 22
theorem scSame : FnScope ["found", "due", "one", "two"] ["found", "due"] (defScope sSame) := ⟨rfl, rfl, rfl, by decide +kernel, rfl, by decide +kernel, by decide +kernel⟩

abbrev nats (l : List Nat) : List V := l.map fun x : Nat => V.int (x : Int)
theorem nats_ints (l : List Nat) : (l.map fun x : Nat => (x : Int)).map V.int = nats l := by
  rw [List.map_map]
  rfl
theorem hide_up {s : Addr} {H : Hp} : Ex (hide s H) H := hide_same
abbrev natsD (l : List Nat) : List PyData := l.map fun x : Nat => .int (x : Int)
theorem dts_nats {G : Hp} : ∀ c : List Nat, Dts G (nats c) (natsD c)
  | [] => .nil
  | x :: c => .cons (.int _) (dts_nats c)
theorem sh_nats (n : Nat) (c : List Nat) : Sh (n + 1) (.list (natsD c)) := .lst fun d hd => by
  obtain ⟨x, _, rfl⟩ := List.mem_map.mp hd
  exact .int n _
theorem eqD_of {K : PySem.W.Frag} {H : Hp} {x y : V} {d : PyData} {n : Nat} {Q : VK} (hx : Dt H x d) (hy : Dt H y d) (sh : Sh n d) (le : n ≤ 64) (q : Q (.bl true) H) : rEqD K x y H Q := by
  refine ⟨d, d, hx.dp, hy.dp, sh.shaped le, sh.shaped le, ?_⟩
  rw [sh.refl]
  exact q
theorem sh_prs (es : List Pr) : Sh 2 (.list (es.map Os.prD)) := .lst fun d hd => by
  obtain ⟨e, _, rfl⟩ := List.mem_map.mp hd
  refine .tup fun x hx => ?_
  rcases List.mem_cons.mp hx with rfl | hx
  · exact .int 0 _
  · rw [List.mem_singleton.mp hx]
    exact .int 0 _
section
variable {K : PySem.W.Frag} {σ : L2.St} {H : Hp} {ta : TE}
theorem ev_len' {p : Addr} {xs : List V} (ha : Ev ta σ H (.ref p)) (h : H p = some (.lst xs)) :
    Ev (tCB (fun xs H Q => ∃ p ys, xs = [V.ref p] ∧ (SqL K H p ys ∨ SqT K H p ys) ∧ Q (.int ys.length) H) (tCons ta tNil)) σ H (.int (xs.length : Int)) := ev_len ha (sq_of h)
end
section
variable {P : Program} {w : World} {K : PySem.W.Frag} {mg : Str → Option Value} {base : Heap}
def spChkF : Sp := fun vs H Q _ => ∃ (v : V) (n : Nat) (es : List Pr), vs = [v] ∧ GraphV H v n es ∧ IsForest n es ∧ ∀ H', Ex H H' → Q .non H'
theorem ok_chkF {f fF : Addr} {fd fdF : FuncData} {k : Nat} (F : Fun K "check_forest" "check_forest" sChkF f fd)
    (GF : FnOk P w K mg base CX0 k fF fdF ["thing"] spForest) (FF : Fun K "is_forest" "is_forest" sForest fF fdF) (bF : Binds K fdF ["thing"] []) (gF : mg "is_forest" = some (.ref fF)) : FnOk P w K mg base CX0 (k + 1) f fd ["forest"] spChkF := by
  refine F.ok scChkF (fun vs H Q E h => ?_) (fun cdv A outer s H vs Q E hr h => ?_)
  · obtain ⟨v, n, es, rfl, _⟩ := h
    rfl
  · obtain ⟨v, n, es, rfl, hg, ok, q⟩ := h
    refine ⟨_, (pss_one (ps_if (pt_not (pt_val (pe_call GF hr (by rfl) gF FF.kp bF .nil pass0 (pa_cons (pv 0) pa_nil)))) pss_never pss_nil)), ?_⟩
    refine s_when (b := !true) (et_not (et_B (ev_sp (ea_cons (ev_var rfl) ea_nil) fun H1 e1 Q q => ⟨_, n, es, rfl, hg.ex e1, ok, q⟩))) (fun h => nomatch h) fun _ H1 e1 => q H1 e1
/-- texts, numbers, and lists of such -/
def Plain : Nat → PyData → Prop
  | 0, _ => False
  | j + 1, d => (∃ i, d = .int i) ∨ (∃ z, d = .str z) ∨ ∃ ds, d = .list ds ∧ ds.length ≤ 1000 ∧ ∀ x ∈ ds, Plain j x
def spSame (j : Nat) : Sp := fun vs H Q _ => ∃ (v u : V) (d : PyData), vs = [v, u] ∧ Dt H v d ∧ Dt H u d ∧ Plain j d ∧ ∀ H', Ex H H' → Q (.bl true) H'
theorem Dts.at' {H : Hp} : ∀ {xs : List V} {ds : List PyData} {i : Nat} {x : V}, Dts H xs ds → xs[i]? = some x → ∃ d, ds[i]? = some d ∧ Dt H x d
  | _, _, _, _, .nil, h => by simp at h
  | _, _, 0, _, .cons h1 _, h => by
    simp at h
    subst h
    exact ⟨_, rfl, h1⟩
  | _, _, i + 1, _, .cons _ r, h => by
    have h' := Dts.at' (i := i) r (by simpa using h)
    simpa using h'
theorem kit_bool' (d : PyData) : kitB (tyName d) "bool" = some (isBlD d) := kit_bool d
theorem isiT_of {H : Hp} {v : V} {d : PyData} {tp : Addr} {Q : VK} (hd : Dt H v d) (ht : H tp = some (.tup [.ty "list", .ty "tuple"])) (q : Q (.bl (isListD d || isTupD d)) H) : rIsiT K [v, .ref tp] H Q := by
  refine ⟨v, tp, _, _, _, _, rfl, ht, .cons (.ty "list") (.cons (.ty "tuple") .nil), .base hd.ty, ?_, q⟩
  exact kitAny_cons (kit_ty (kit_list d)) (fun h => kitAny_cons (kit_ty (kit_tup d)) (fun h2 => by rw [h, h2]; rfl) (fun h2 => by rw [h2, Bool.or_true])) (fun h => by rw [h, Bool.true_or])
theorem ev_isiT {σ : L2.St} {H : Hp} {ta : TE} {v : V} {d : PyData} (h : Ev ta σ H v) (hd : Dt H v d) :
    Ev (tCB (rIsiT K) (tCons ta (tCons (tTup (tCons (tC (.ty "list")) (tCons (tC (.ty "tuple")) tNil))) tNil))) σ H (.bl (isListD d || isTupD d)) := fun H1 e1 Q q =>
  h H1 e1 _ fun H2 e2 => ⟨show 2 ≤ sizeLine by decide, fun tp htp => isiT_of (hd.same (same_ex ((e1.trans e2).trans (Ex.new htp)))) upd_same (q _ (e2.trans (Ex.new htp)))⟩
theorem rv_isN {H : Hp} {x : V} : RV (fun x y H Q => y = V.non ∧ Q (.bl (decide (x = .non))) H) x .non H (.bl (decide (x = .non))) := fun H1 _ _ q => ⟨rfl, q H1 (Ex.refl H1)⟩
theorem ok_same {f : Addr} {fd : FuncData} (F : Fun K "_law_same" "_law_same" sSame f fd) (bS : Binds K fd ["found", "due"] []) (gS : mg "_law_same" = some (.ref f)) (mIsi : mg "isinstance" = none) (mList : mg "list" = none) (mTuple : mg "tuple" = none) (mBool : mg "bool" = none) (mStr : mg "str" = none)
    (mLen : mg "len" = none) (mAll : mg "all" = none) (mZip : mg "zip" = none) : ∀ j, FnOk P w K mg base CX0 j f fd ["found", "due"] (spSame j)
  | 0 => ⟨fun vs H Q E h => by
      obtain ⟨_, _, _, rfl, _⟩ := h
      rfl, fun B out st H ar us vs Q E hr e0 hb rel h => by
      obtain ⟨_, _, _, _, _, _, h, _⟩ := h
      exact h.elim⟩
  | j + 1 => by
    have GS := ok_same F bS gS mIsi mList mTuple mBool mStr mLen mAll mZip j
    have FS := F
    refine F.ok scSame (fun vs H Q E h => ?_) (fun cdv A outer s H vs Q E hr h => ?_)
    · obtain ⟨v, u, d, rfl, _⟩ := h
      rfl
    · obtain ⟨v, u, d, rfl, hv, hu, pl, q⟩ := h
      refine ⟨_, (pss_cons (ps_if (pt_val (pe_callB call_isiT (by rfl) mIsi boot_isinstance (pa_cons (pv 1) (pa_cons (pe_tup (pa_cons (pe_bltn (v := .ty "list") (by rfl) mList boot_list rfl) (pa_cons (pe_bltn (v := .ty "tuple") (by rfl) mTuple boot_tuple rfl) pa_nil))) pa_nil)))) (pss_cons (ps_if (PW.pt (pw_or (pt_not (pt_val (pe_callB call_isiT (by rfl) mIsi boot_isinstance (pa_cons (pv 0) (pa_cons (pe_tup (pa_cons (pe_bltn (v := .ty "list") (by rfl) mList boot_list rfl) (pa_cons (pe_bltn (v := .ty "tuple") (by rfl) mTuple boot_tuple rfl) pa_nil))) pa_nil))))) (pw_or1 (pt_cmpR op_ne (pe_callB call_isi (by rfl) mIsi boot_isinstance (pa_cons (pv 0) (pa_cons (pe_bltn (v := .ty "list") (by rfl) mList boot_list rfl) pa_nil))) (pe_callB call_isi (by rfl) mIsi boot_isinstance (pa_cons (pv 1) (pa_cons (pe_bltn (v := .ty "list") (by rfl) mList boot_list rfl) pa_nil))) (nomark _))))) pss_never pss_nil)
      (pss_one (ps_ret (pe_and (pe_cmpR op_eq (pe_callB call_len_seq (by rfl) mLen boot_len (pa_cons (pv 0) pa_nil)) (pe_callB call_len_seq (by rfl) mLen boot_len (pa_cons (pv 1) pa_nil)) (nomark _)) (pe_one (pe_callB (cr_all rfl) (by rfl) mAll boot_all (pa_cons (pe_lc (own := [("one", 2), ("two", 3)]) (g := gTup K 2 (gCons (gName 2) (gCons (gName 3) gNil))) (tt := tYes) (te := tCall (spSame j) [] E0 (tCons (tVar 2) (tCons (tVar 3) tNil))) rfl scSame.nd (pi_zip (by rfl) mZip (pa_cons (pv 0) (pa_cons (pv 1) pa_nil))) (blkOk_by (N := ["found", "due", "one", "two"]) (sc := defScope sSame) (by decide +kernel)) (fun _ _ _ _ _ => pg_tup rfl (pgs_cons (pg_name (i := 2) scSame.nd rfl (Or.inl rfl)) (pgs_cons (pg_name (i := 3) scSame.nd rfl (Or.inl rfl)) pgs_nil))) (fun _ _ _ _ _ => pts_nil) (fun _ _ _ _ _ => (pe_call GS hr (by rfl) gS FS.kp bS .nil pass0 (pa_cons (pv 2) (pa_cons (pv 3) pa_nil))))) pa_nil))))))) pss_nil)
      (pss_cons (ps_if (PW.pt (pw_or (pt_cmpR op_isN (pv 1) pe_non (nomark _)) (pw_or1 (pt_cmpR op_isN (pv 0) pe_non (nomark _))))) pss_never pss_nil)
      (pss_cons (ps_if (PW.pt (pw_or (pt_cmpR op_ne (pe_callB call_isi (by rfl) mIsi boot_isinstance (pa_cons (pv 0) (pa_cons (pe_bltn (v := .ty "bool") (by rfl) mBool boot_bool rfl) pa_nil))) (pe_callB call_isi (by rfl) mIsi boot_isinstance (pa_cons (pv 1) (pa_cons (pe_bltn (v := .ty "bool") (by rfl) mBool boot_bool rfl) pa_nil))) (nomark _)) (pw_or1 (pt_cmpR op_ne (pe_callB call_isi (by rfl) mIsi boot_isinstance (pa_cons (pv 0) (pa_cons (pe_bltn (v := .ty "str") (by rfl) mStr boot_str rfl) pa_nil))) (pe_callB call_isi (by rfl) mIsi boot_isinstance (pa_cons (pv 1) (pa_cons (pe_bltn (v := .ty "str") (by rfl) mStr boot_str rfl) pa_nil))) (nomark _))))) pss_never pss_nil)
      (pss_one (ps_ret (pe_cmpR op_eq (pv 0) (pv 1) (nomark _))))))), ?_⟩
      rcases pl with ⟨i, rfl⟩ | ⟨z, rfl⟩ | ⟨ds, rfl, hl, pl⟩
      · cases hv
        cases hu
        refine q_when (b := false) (et_B (ev_isiT (ev_var rfl) (.int i))) (fun h => nomatch h) fun _ H1 e1 => ?_
        refine q_when (b := false) (et_is (et_or (a := false) (b := false) (et_test (ev_op (ev_var rfl) ev_c rv_isN)) fun _ => et_test (ev_op (ev_var rfl) ev_c rv_isN)) rfl) (fun h => nomatch h) fun _ H2 e2 => ?_
        refine q_when (b := false) (et_is (et_or (a := !decide (V.bl false = V.bl false)) (b := !decide (V.bl false = V.bl false)) (et_test (ev_op (ev_isi (ev_var rfl) (.int i) (kit_bool _)) (ev_isi (ev_var rfl) (.int i) (kit_bool _)) (rv_ne rfl))) fun _ => et_test (ev_op (ev_isi (ev_var rfl) (.int i) (kit_str _)) (ev_isi (ev_var rfl) (.int i) (kit_str _)) (rv_ne rfl))) (by rw [decide_eq_true rfl]; rfl)) (fun h => nomatch h) fun _ H3 e3 => ?_
        exact s_ret (v := .bl true) (ev_is (ev_op (ev_var rfl) (ev_var rfl) (rv_eq rfl)) (by rw [decide_eq_true rfl])) fun H4 e4 => q H4 (((e1.trans e2).trans e3).trans e4)
      · cases hv
        cases hu
        refine q_when (b := false) (et_B (ev_isiT (ev_var rfl) (.str z))) (fun h => nomatch h) fun _ H1 e1 => ?_
        refine q_when (b := false) (et_is (et_or (a := false) (b := false) (et_test (ev_op (ev_var rfl) ev_c rv_isN)) fun _ => et_test (ev_op (ev_var rfl) ev_c rv_isN)) rfl) (fun h => nomatch h) fun _ H2 e2 => ?_
        refine q_when (b := false) (et_is (et_or (a := !decide (V.bl false = V.bl false)) (b := !decide (V.bl true = V.bl true)) (et_test (ev_op (ev_isi (ev_var rfl) (.str z) (kit_bool _)) (ev_isi (ev_var rfl) (.str z) (kit_bool _)) (rv_ne rfl))) fun _ => et_test (ev_op (ev_isi (ev_var rfl) (.str z) (kit_str _)) (ev_isi (ev_var rfl) (.str z) (kit_str _)) (rv_ne rfl))) (by rw [decide_eq_true rfl, decide_eq_true rfl]; rfl)) (fun h => nomatch h) fun _ H3 e3 => ?_
        exact s_ret (v := .bl true) (ev_is (ev_op (ev_var rfl) (ev_var rfl) (rv_eq rfl)) (by rw [decide_eq_true rfl])) fun H4 e4 => q H4 (((e1.trans e2).trans e3).trans e4)
      · have hv0 := hv
        have hu0 := hu
        cases hv with
        | @lst a xs _ ha hx =>
        cases hu with
        | @lst b ys _ hb hy =>
        have lx := hx.length
        have ly := hy.length
        refine q_when (b := true) (et_B (ev_isiT (ev_var rfl) hu0)) (fun _ H1 e1 => ?_) (fun h => nomatch h)
        refine q_when (b := false) (et_is (et_or (a := !true) (b := !decide (V.bl true = V.bl true)) (et_not (et_B (ev_isiT (ev_var rfl) (hv0.same (same_ex e1))))) fun _ => et_test (ev_op (ev_isi (ev_var rfl) (hv0.same (same_ex e1)) (kit_list _)) (ev_isi (ev_var rfl) (hu0.same (same_ex e1)) (kit_list _)) (rv_ne rfl))) (by rw [decide_eq_true rfl]; rfl)) (fun h => nomatch h) fun _ H2 e2 => ?_
        have e12 := e1.trans e2
        refine s_ret (v := .bl true) (ev_is (ev_andV (a := true) (b := (ds.map fun _ => true).all id) (ev_is (ev_op (ev_len' (ev_var rfl) (e12 _ _ ha)) (ev_len' (ev_var rfl) (e12 _ _ hb)) (rv_eq rfl)) (by rw [lx, ly, decide_eq_true rfl])) fun _ => ev_all (bs := ds.map fun _ => true) ?_) ?_) fun H3 e3 => q H3 (e12.trans e3)
        · intro H0 e0 Q' q'
          have e20 := e12.trans e0
          refine ⟨.ref a, rfl, .ref b, rfl, a, b, xs, ys, rfl, sq_of (e20 _ _ ha), sq_of (e20 _ _ hb), fun D hD => ?_⟩
          refine lc_it (walk_zip (n := ds.length) (by omega)) (fun i Hh => Ex H0 Hh ∧ Hh D = some (.lst (List.replicate i (V.bl true)))) ⟨Ex.new hD, upd_same⟩ (fun i Hh _ p => ⟨sq_of (p.1 _ _ (e20 _ _ ha)), sq_of (p.1 _ _ (e20 _ _ hb))⟩) ?_ ?_
          · rintro i v Ha Hb hi ⟨p1, p2⟩ ⟨T, x, y, rfl, nT, rfl, hx', hy'⟩
            obtain ⟨d1, hd1, dt1⟩ := Dts.at' hx hx'
            obtain ⟨d2, hd2, dt2⟩ := Dts.at' hy hy'
            rw [hd1] at hd2
            cases hd2
            have eT : Ex Ha (upd Ha T (.tup [x, y])) := Ex.new nT
            have eA := (e20.trans p1).trans eT
            refine ⟨T, [x, y], rfl, st_of upd_same, rfl, x, [y], rfl, y, [], rfl, rfl, rfl, ?_⟩
            show tCall (spSame j) [] E0 (tCons (tVar 2) (tCons (tVar 3) tNil)) _ _ _
            refine ⟨x, rfl, y, rfl, x, y, d1, rfl, dt1.same (same_ex eA), dt2.same (same_ex eA), pl d1 (List.mem_of_getElem? hd1), fun H5 e5 => ⟨_, e5 _ _ (eT _ _ p2), sz_lt (by rw [List.length_replicate]; omega), ((p1.trans eT).trans e5).mut hD, ?_⟩⟩
            rw [List.replicate_succ']
            exact upd_same
          · rintro Hh ⟨p1, p2⟩
            refine q' D Hh hD p1 ?_
            rw [p2]
            refine congrArg (fun l => some (HO.lst l)) ?_
            refine List.ext_getElem (by simp) fun i h1 h2 => by simp
        · rw [List.all_eq_true.mpr (fun b hb => by
            obtain ⟨_, _, rfl⟩ := List.mem_map.mp hb
            rfl)]
          rfl
end
theorem plain_nats (j : Nat) {c : List Nat} (h : c.length ≤ 1000) : Plain (j + 2) (.list (natsD c)) := .inr (.inr ⟨_, rfl, by rw [List.length_map]; exact h, fun d hd => by
  obtain ⟨z, _, rfl⟩ := List.mem_map.mp hd
  exact .inl ⟨_, rfl⟩⟩)
theorem ev_same {K : PySem.W.Frag} {σ : L2.St} {H : Hp} {ta tb : TA} {xs ys : List V} {ds : List PyData} (h1 : EvA ta σ H xs) (h2 : EvA tb σ H ys) (d1 : Dts H xs ds) (d2 : Dts H ys ds) (pl : Plain 4 (.list ds)) (few : ds.length ≤ 1000) :
    Ev (tCall (spSame 4) [] E0 (tCons (tLst ta) (tCons (tLst tb) tNil))) σ H (.bl true) := fun H1 e1 Q q => h1 H1 e1 _ fun H2 e2 => ⟨sz_of (by rw [d1.length]; omega), fun p hp => by
  have x1 := Ex.new (o := .lst xs) hp
  refine h2 _ ((e1.trans e2).trans x1) _ fun H3 e3 => ⟨sz_of (by rw [d2.length]; omega), fun r hr => ?_⟩
  have x2 := Ex.new (o := .lst ys) hr
  have eA := ((e1.trans e2).trans x1).trans (e3.trans x2)
  exact ⟨.ref p, .ref r, .list ds, rfl, .lst (x2 _ _ (e3 _ _ upd_same)) (d1.same (same_ex eA)), .lst upd_same (d2.same (same_ex eA)), pl, fun H4 e4 => q H4 ((e2.trans x1).trans ((e3.trans x2).trans e4))⟩⟩
end K03
namespace K03
open PySem PySem.Spec PyProof.Rows L2 Os Evl
abbrev sChkP : Stmt := topS 13
theorem scChkP : FnScope ["forest", "position"] ["forest", "position"] (defScope sChkP) := ⟨rfl, rfl, rfl, by decide +kernel, rfl, by decide +kernel, by decide +kernel⟩
abbrev sLists : Stmt := topS 14
theorem scLists : FnScope ["forest", "n", "edges", "lists", "p", "q", "position"] ["forest"] (defScope sLists) := ⟨rfl, rfl, rfl, by decide +kernel, rfl, by decide +kernel, by decide +kernel⟩
abbrev sNb : Stmt := topS 15
theorem scNb : FnScope ["forest", "position"] ["forest", "position"] (defScope sNb) := ⟨rfl, rfl, rfl, by decide +kernel, rfl, by decide +kernel, by decide +kernel⟩
abbrev sDeg : Stmt := topS 16
theorem scDeg : FnScope ["forest", "row"] ["forest"] (defScope sDeg) := ⟨rfl, rfl, rfl, by decide +kernel, rfl, by decide +kernel, by decide +kernel⟩

/-- the other end, where j is one -/
def other (j : Nat) (e : Pr) : Option Nat := if e.1 = j then some e.2 else if e.2 = j then some e.1 else none
def adj (es : List Pr) (j : Nat) : List Nat := es.filterMap (other j)
theorem adj_snoc {es : List Pr} {i : Nat} {e : Pr} (h : es[i]? = some e) (lt : e.1 < e.2) (j : Nat) :
    adj (es.take (i + 1)) j = if j = e.2 then (if e.2 = e.1 then adj (es.take i) e.2 ++ [e.2] else adj (es.take i) e.2) ++ [e.1] else if j = e.1 then adj (es.take i) j ++ [e.2] else adj (es.take i) j := by
  unfold adj
  rw [List.take_add_one, h, List.filterMap_append]
  show _ ++ List.filterMap (other j) [e] = _
  unfold other
  by_cases h1 : j = e.2
  · rw [if_pos h1, if_neg (show ¬ e.2 = e.1 by omega)]
    subst h1
    simp [show ¬ e.1 = e.2 by omega]
  · rw [if_neg h1]
    by_cases h2 : j = e.1
    · rw [if_pos h2]
      subst h2
      simp
    · rw [if_neg h2]
      simp [show ¬ e.1 = j from fun z => h2 z.symm, show ¬ e.2 = j from fun z => h1 z.symm]
/-- n new lists of numbers -/
structure RwV (H0 G : Hp) (as : List Addr) (n : Nat) (f : Nat → List Nat) : Prop where
  len : as.length = n
  new : ∀ a ∈ as, H0 a = none
  at' : ∀ i a, as[i]? = some a → G a = some (.lst (nats (f i)))
  nd : as.Nodup
theorem RwV.ex {H0 G G' : Hp} {as : List Addr} {n : Nat} {f : Nat → List Nat} (h : RwV H0 G as n f) (e : Ex G G') : RwV H0 G' as n f := ⟨h.len, h.new, fun i a q => e _ _ (h.at' i a q), h.nd⟩
theorem RwV.weak {H0 H1 G : Hp} {as : List Addr} {n : Nat} {f : Nat → List Nat} (h : RwV H1 G as n f) (e : Ex H0 H1) : RwV H0 G as n f := ⟨h.len, fun a q => fresh_back e (h.new a q), h.at', h.nd⟩
theorem RwV.like {H0 G : Hp} {as : List Addr} {n : Nat} {f g : Nat → List Nat} (h : RwV H0 G as n f) (e : ∀ i, f i = g i) : RwV H0 G as n g := ⟨h.len, h.new, fun i a q => by rw [← e i]; exact h.at' i a q, h.nd⟩
theorem RwV.put {H0 G : Hp} {as : List Addr} {n p : Nat} {f : Nat → List Nat} {a : Addr} {l : List Nat} (h : RwV H0 G as n f) (ha : as[p]? = some a) : RwV H0 (upd G a (.lst (nats l))) as n (fun j => if j = p then l else f j) :=
  ⟨h.len, h.new, fun i b q => by
    by_cases e : i = p
    · subst e
      rw [ha] at q
      cases q
      rw [upd_same, if_pos rfl]
    · have ne : b ≠ a := fun z => by
        subst z
        obtain ⟨l1, e1⟩ := List.getElem?_eq_some_iff.mp q
        obtain ⟨l2, e2⟩ := List.getElem?_eq_some_iff.mp ha
        rcases Nat.lt_or_gt_of_ne e with lt | lt
        · exact List.pairwise_iff_getElem.mp h.nd i p l1 l2 lt (by rw [e1, e2])
        · exact List.pairwise_iff_getElem.mp h.nd p i l2 l1 lt (by rw [e1, e2])
      rw [upd_ne ne, if_neg e]
      exact h.at' i b q, h.nd⟩
theorem RwV.off {H0 G : Hp} {as : List Addr} {n : Nat} {f : Nat → List Nat} {p : Addr} {o u : HO} (h : RwV H0 G as n f) (hp : H0 p = some u) : RwV H0 (upd G p o) as n f := ⟨h.len, h.new, fun i a q => by
  rw [upd_ne fun e => by
    have := h.new a (List.mem_of_getElem? q)
    rw [e, hp] at this
    cases this]
  exact h.at' i a q, h.nd⟩
section
variable {P : Program} {w : World} {K : PySem.W.Frag} {mg : Str → Option Value} {base : Heap}
def spChkP : Sp := fun vs H Q _ => ∃ (v : V) (n p : Nat) (es : List Pr), vs = [v, .int (p : Int)] ∧ GraphV H v n es ∧ p < n ∧ ∀ H', Ex H H' → Q .non H'
def spLists : Sp := fun vs H Q _ => ∃ (v : V) (n : Nat) (es : List Pr), vs = [v] ∧ GraphV H v n es ∧ IsForest n es ∧
  ∀ H' L as, Ex H H' → H L = none → H' L = some (.lst (as.map V.ref)) → RwV H H' as n (adj es) → Q (.ref L) H'
def spNb : Sp := fun vs H Q _ => ∃ (v : V) (n p : Nat) (es : List Pr), vs = [v, .int (p : Int)] ∧ GraphV H v n es ∧ IsForest n es ∧ p < n ∧
  ∀ H' a, Ex H H' → H a = none → H' a = some (.lst (nats (adj es p))) → Q (.ref a) H'
def degs (n : Nat) (es : List Pr) : List Nat := (List.range n).map fun i => (adj es i).length
def spDeg : Sp := fun vs H Q _ => ∃ (v : V) (n : Nat) (es : List Pr), vs = [v] ∧ GraphV H v n es ∧ IsForest n es ∧
  ∀ H' a, Ex H H' → H a = none → H' a = some (.lst (nats (degs n es))) → Q (.ref a) H'
theorem ok_chkP {f fP : Addr} {fd fdP : FuncData} {k : Nat} (F : Fun K "check_position" "check_position" sChkP f fd)
    (GP : FnOk P w K mg base CX0 k fP fdP ["n", "thing"] spPos) (FP : Fun K "is_position" "is_position" sPos fP fdP) (bP : Binds K fdP ["n", "thing"] []) (gP : mg "is_position" = some (.ref fP)) : FnOk P w K mg base CX0 (k + 1) f fd ["forest", "position"] spChkP := by
  refine F.ok scChkP (fun vs H Q E h => ?_) (fun cdv A outer s H vs Q E hr h => ?_)
  · obtain ⟨v, n, p, es, rfl, _⟩ := h
    rfl
  · obtain ⟨v, n, p, es, rfl, hg, lt, q⟩ := h
    refine ⟨_, (pss_one (ps_if (pt_not (pt_val (pe_call GP hr (by rfl) gP FP.kp bP .nil pass0 (pa_cons (pe_ix ix_tup (pv 0) pe_int (fun _ _ => rfl)) (pa_cons (pv 1) pa_nil))))) pss_never pss_nil)), ?_⟩
    obtain ⟨g, a, xs, rfl, h2, h3, h4⟩ := hg
    refine s_when (b := !true) (et_not (et_B (ev_sp (ea_cons (ev_op (ev_var rfl) ev_c (rv_ixT (st_of h2) (atI_nat (j := 0) rfl))) (ea_cons (ev_var rfl) ea_nil)) fun H1 e1 Q q => ⟨(n : Int), .int (p : Int), .int (p : Int), rfl, .int _, fun H2 e2 => by
      rw [show posB (n : Int) (.int (p : Int)) = true by
        show (decide (0 ≤ (p : Int)) && decide ((p : Int) < (n : Int))) = true
        rw [decide_eq_true (by omega), decide_eq_true (by omega)]
        rfl]
      exact q H2 e2⟩))) (fun h => nomatch h) fun _ H1 e1 => q H1 e1
theorem ok_lists {f : Addr} {fd : FuncData} {k : Nat} (F : Fun K "neighbour_lists" "neighbour_lists" sLists f fd) (mRange : mg "range" = none) : FnOk P w K mg base CX0 (k + 1) f fd ["forest"] spLists := by
  refine F.ok scLists (fun vs H Q E h => ?_) (fun cdv A outer s H vs Q E hr h => ?_)
  · obtain ⟨v, n, es, rfl, _⟩ := h
    rfl
  · obtain ⟨v, n, es, rfl, hg, ok, q⟩ := h
    refine ⟨_, (pss_cons (ps_asg (pv 0) (pg_tup rfl (pgs_cons (pg_name (i := 1) scLists.nd rfl (Or.inl rfl)) (pgs_cons (pg_name (i := 2) scLists.nd rfl (Or.inl rfl)) pgs_nil))))
      (pss_cons (ps_setLc (i := 3) (own := [("position", 6)]) (g := gName 6) (tt := tYes) rfl scLists.nd rfl rfl (sw_true rfl rfl rfl (by decide +kernel)) (pi_range1 (by rfl) mRange (pa_cons (pv 1) pa_nil)) (blkOk_by (N := ["forest", "n", "edges", "lists", "p", "q", "position"]) (sc := defScope sLists) (by decide +kernel)) (fun _ _ _ _ _ => pg_name (i := 6) scLists.nd rfl (Or.inl rfl)) (fun _ _ _ _ _ => pts_nil) (fun _ _ _ _ _ => (pe_lst pa_nil)))
      (pss_cons (ps_for PassesOwn.never rfl (pi_list (pv 2)) (pg_tup rfl (pgs_cons (pg_name (i := 4) scLists.nd rfl (Or.inl rfl)) (pgs_cons (pg_name (i := 5) scLists.nd rfl (Or.inl rfl)) pgs_nil)))
      (pss_cons (ps_expr (pe_bm PySem.F.plainAttrs_list PySem.F.slot_list_append PySem.F.type_list_append mt_append (pe_ix ix_list (pv 3) (pv 4) (fun _ _ => rfl)) (pa_cons (pv 5) pa_nil)))
      (pss_one (ps_expr (pe_bm PySem.F.plainAttrs_list PySem.F.slot_list_append PySem.F.type_list_append mt_append (pe_ix ix_list (pv 3) (pv 5) (fun _ _ => rfl)) (pa_cons (pv 4) pa_nil))))))
      (pss_one (ps_ret (pv 3)))))), ?_⟩
    obtain ⟨g, a, xs, rfl, h2, h3, h4⟩ := hg
    have n40 := ok.n40
    refine ⟨.ref g, rfl, g, _, rfl, st_of h2, rfl, .int (n : Int), _, rfl, .ref a, [], rfl, rfl, ?_⟩
    refine ⟨.int (n : Int), rfl, (n : Int), rfl, by omega, by omega, fun D hD => ?_⟩
    have eD := Ex.new (o := .lst []) hD
    refine lc_range (lo := 0) (n := ((n : Int)).toNat) (fun i Hh => Ex H Hh ∧ ∃ as : List Addr, Hh D = some (.lst (as.map V.ref)) ∧ RwV (upd H D (.lst [])) Hh as i (fun _ => [])) ⟨eD, [], upd_same, rfl, (fun a h => nomatch h), (fun i a h => by simp at h), List.nodup_nil⟩ ?_ ?_
    · rintro i Hh hi' ⟨x1, as, hrs, rg⟩
      have lt : i < n := by omega
      refine ⟨rfl, ?_⟩
      dsimp only [tYes]
      rw [if_pos rfl]
      refine ⟨Nat.zero_le _, fun b hb => ?_⟩
      have xb := Ex.new (o := .lst []) hb
      have nb : b ≠ D := fun e => by
        rw [e, hrs] at hb
        cases hb
      have hb0 : upd H D (.lst []) b = none := by
        rw [upd_ne nb]
        exact fresh_back x1 hb
      have al : ∀ {j : Nat} {c : Addr}, as[j]? = some c → c ≠ b := fun h => ne_of_none (rg.at' _ _ h) hb
      refine ⟨as.map V.ref, xb _ _ hrs, sz_lt (by rw [List.length_map, rg.len]; omega), (x1.trans xb).mut hD, as ++ [b], ?_, ?_⟩
      · rw [upd_same, List.map_append]
        rfl
      · refine RwV.off (u := .lst []) ⟨by rw [List.length_append, rg.len]; rfl, fun c hc => ?_, fun j c hc => ?_, ?_⟩ upd_same
        · rcases List.mem_append.mp hc with hc | hc
          · exact rg.new c hc
          · rw [List.mem_singleton.mp hc]
            exact hb0
        · by_cases hj : j < as.length
          · rw [List.getElem?_append_left hj] at hc
            exact xb _ _ (rg.at' j c hc)
          · rw [List.getElem?_append_right (by omega)] at hc
            have : c = b := by
              have := List.mem_of_getElem? hc
              exact List.mem_singleton.mp this
            rw [this]
            exact upd_same
        · refine List.nodup_append.mpr ⟨rg.nd, List.pairwise_singleton _ _, fun c hc d hd => ?_⟩
          rw [List.mem_singleton.mp hd]
          obtain ⟨j, hj⟩ := List.mem_iff_getElem?.mp hc
          exact al hj
    · rintro Hh ⟨x1, as, hrs, rg⟩
      rw [Int.toNat_natCast] at rg
      dsimp only [gName]
      have asH : ∀ c ∈ as, H c = none := fun c hc => fresh_back eD (rg.new c hc)
      refine q_forL (xs := xs) (ev_var rfl) (sq_of (x1 _ _ h3)) (fun i σ' H' => Ex H H' ∧ ∃ (y4 y5 y6 : Option V), σ' = [some (.ref g), some (.int (n : Int)), some (.ref a), some (.ref D), y4, y5, y6] ∧ H' D = some (.lst (as.map V.ref)) ∧ RwV (upd H D (.lst [])) H' as n (adj (es.take i)))
        (fun H4 e4 => ⟨x1.trans e4, _, _, _, rfl, e4 _ _ hrs, rg.ex e4⟩) (fun i σ' H' _ h => sq_of (h.1 _ _ h3)) ?_ ?_
      · rintro i x σ' H4 hx ⟨e4, y4, y5, y6, rfl, hD4, rw4⟩
        obtain ⟨e, he, tp, rfl, htp⟩ := h4.get hx
        have ein := ok.edges.inn e (List.mem_of_getElem? he)
        have il : i < es.length := (List.getElem?_eq_some_iff.mp he).1
        have few := ok.few
        have adl : ∀ j, (adj (es.take i) j).length ≤ 60 := fun j => by
          unfold adj
          have h1 := List.length_filterMap_le (other j) (es.take i)
          have h2 := List.length_take_le i es
          omega
        obtain ⟨c1, hc1⟩ : ∃ c, as[e.1]? = some c := ⟨_, List.getElem?_eq_getElem (by rw [rw4.len]; omega)⟩
        obtain ⟨c2, hc2⟩ : ∃ c, as[e.2]? = some c := ⟨_, List.getElem?_eq_getElem (by rw [rw4.len]; omega)⟩
        have at' : ∀ {j : Nat} {c : Addr}, as[j]? = some c → (as.map V.ref)[j]? = some (.ref c) := fun h => by
          rw [List.getElem?_map, h]
          rfl
        refine ⟨tp, _, rfl, st_of (e4 _ _ htp), rfl, _, _, rfl, _, [], rfl, rfl, ?_⟩
        have nD : ∀ {c : Addr}, c ∈ as → D ≠ c := fun hc z => by
          have := rg.new _ hc
          rw [← z, upd_same] at this
          cases this
        refine q_app (v := .int (e.2 : Int)) (rw4.at' _ _ hc1) (ev_op (ev_var rfl) (ev_var rfl) (rv_ixL (sq_of hD4) (atI_nat (at' hc1)))) (ev_var rfl) (by rw [List.length_map]; have := adl e.1; omega) fun H5 e5 => ?_
        have m1 := List.mem_of_getElem? hc1
        have m2 := List.mem_of_getElem? hc2
        have e1 : nats (adj (es.take i) e.1) ++ [V.int (e.2 : Int)] = nats (adj (es.take i) e.1 ++ [e.2]) := by
          unfold nats
          rw [List.map_append]
          rfl
        rw [e1]
        have rw5 := (rw4.ex e5).put (l := adj (es.take i) e.1 ++ [e.2]) hc1
        have hD5 : upd H5 c1 (.lst (nats (adj (es.take i) e.1 ++ [e.2]))) D = some (.lst (as.map V.ref)) := by
          rw [upd_ne (nD m1)]
          exact e5 _ _ hD4
        have f2 := rw5.at' _ _ hc2
        rw [if_neg (show ¬ e.2 = e.1 by omega)] at f2
        refine s_app (v := .int (e.1 : Int)) f2 (ev_op (ev_var rfl) (ev_var rfl) (rv_ixL (sq_of hD5) (atI_nat (at' hc2)))) (ev_var rfl) (by rw [List.length_map]; have := adl e.2; omega) fun H6 e6 => ?_
        have e2 : nats (adj (es.take i) e.2) ++ [V.int (e.1 : Int)] = nats (adj (es.take i) e.2 ++ [e.1]) := by
          unfold nats
          rw [List.map_append]
          rfl
        rw [e2]
        have rw6 := (rw5.ex e6).put (l := adj (es.take i) e.2 ++ [e.1]) hc2
        refine ⟨((((e4.trans e5).mut (asH _ m1)).trans e6).mut (asH _ m2)), _, _, _, rfl, ?_, rw6.like fun j => ?_⟩
        · rw [upd_ne (nD m2)]
          exact e6 _ _ hD5
        · rw [adj_snoc he ein.1]
          by_cases j2 : j = e.2
          · rw [if_pos j2, if_pos j2, if_neg (show ¬ e.2 = e.1 by omega)]
          · rw [if_neg j2, if_neg j2]
            by_cases j1 : j = e.1
            · rw [if_pos j1, if_pos j1, j1]
            · rw [if_neg j1, if_neg j1]
      · rintro σ' H4 ⟨e4, y4, y5, y6, rfl, hD4, rw4⟩
        rw [h4.length, List.take_length] at rw4
        exact s_ret (v := .ref D) (ev_var rfl) fun H5 e5 => q H5 D as (e4.trans e5) hD (e5 _ _ hD4) ((rw4.ex e5).weak eD)
theorem ok_nb {f fF fP fL : Addr} {fd fdF fdP fdL : FuncData} {k : Nat} (F : Fun K "neighbours" "neighbours" sNb f fd)
    (GF : FnOk P w K mg base CX0 k fF fdF ["forest"] spChkF) (FF : Fun K "check_forest" "check_forest" sChkF fF fdF) (bF : Binds K fdF ["forest"] []) (gF : mg "check_forest" = some (.ref fF))
    (GP : FnOk P w K mg base CX0 k fP fdP ["forest", "position"] spChkP) (FP : Fun K "check_position" "check_position" sChkP fP fdP) (bP : Binds K fdP ["forest", "position"] []) (gP : mg "check_position" = some (.ref fP))
    (GL : FnOk P w K mg base CX0 k fL fdL ["forest"] spLists) (FL : Fun K "neighbour_lists" "neighbour_lists" sLists fL fdL) (bL : Binds K fdL ["forest"] []) (gL : mg "neighbour_lists" = some (.ref fL)) : FnOk P w K mg base CX0 (k + 1) f fd ["forest", "position"] spNb := by
  refine F.ok scNb (fun vs H Q E h => ?_) (fun cdv A outer s H vs Q E hr h => ?_)
  · obtain ⟨v, n, p, es, rfl, _⟩ := h
    rfl
  · obtain ⟨v, n, p, es, rfl, hg, ok, lt, q⟩ := h
    refine ⟨_, (pss_cons (ps_expr (pe_call GF hr (by rfl) gF FF.kp bF .nil pass0 (pa_cons (pv 0) pa_nil)))
      (pss_cons (ps_expr (pe_call GP hr (by rfl) gP FP.kp bP .nil pass0 (pa_cons (pv 0) (pa_cons (pv 1) pa_nil))))
      (pss_one (ps_ret (pe_ix ix_list (pe_call GL hr (by rfl) gL FL.kp bL .nil pass0 (pa_cons (pv 0) pa_nil)) (pv 1) (fun _ _ => rfl)))))), ?_⟩
    refine q_drop (v := .non) (ev_sp (ea_cons (ev_var rfl) ea_nil) fun H1 e1 Q q => ⟨_, n, es, rfl, hg.ex e1, ok, q⟩) fun H1 e1 => ?_
    refine q_drop (v := .non) (ev_sp (ea_cons (ev_var rfl) (ea_cons (ev_var rfl) ea_nil)) fun H2 e2 Q q => ⟨_, n, p, es, rfl, hg.ex (e1.trans e2), lt, q⟩) fun H2 e2 => ?_
    have e12 := e1.trans e2
    refine ⟨v, rfl, v, n, es, rfl, hg.ex e12, ok, fun H3 L as e3 hL h3 rw3 => ?_⟩
    obtain ⟨a, ha⟩ : ∃ c, as[p]? = some c := ⟨_, List.getElem?_eq_getElem (by rw [rw3.len]; exact lt)⟩
    exact ⟨.int (p : Int), rfl, L, _, (p : Int), .ref a, rfl, rfl, sq_of h3, atI_nat (by rw [List.getElem?_map, ha]; rfl), q H3 a (e12.trans e3) (fresh_back e12 (rw3.new a (List.mem_of_getElem? ha))) (rw3.at' _ _ ha)⟩
theorem ok_deg {f fF fL : Addr} {fd fdF fdL : FuncData} {k : Nat} (F : Fun K "degrees" "degrees" sDeg f fd)
    (GF : FnOk P w K mg base CX0 k fF fdF ["forest"] spChkF) (FF : Fun K "check_forest" "check_forest" sChkF fF fdF) (bF : Binds K fdF ["forest"] []) (gF : mg "check_forest" = some (.ref fF))
    (GL : FnOk P w K mg base CX0 k fL fdL ["forest"] spLists) (FL : Fun K "neighbour_lists" "neighbour_lists" sLists fL fdL) (bL : Binds K fdL ["forest"] []) (gL : mg "neighbour_lists" = some (.ref fL)) (mLen : mg "len" = none) : FnOk P w K mg base CX0 (k + 1) f fd ["forest"] spDeg := by
  refine F.ok scDeg (fun vs H Q E h => ?_) (fun cdv A outer s H vs Q E hr h => ?_)
  · obtain ⟨v, n, es, rfl, _⟩ := h
    rfl
  · obtain ⟨v, n, es, rfl, hg, ok, q⟩ := h
    refine ⟨_, (pss_cons (ps_expr (pe_call GF hr (by rfl) gF FF.kp bF .nil pass0 (pa_cons (pv 0) pa_nil)))
      (pss_one (ps_ret (pe_lc (own := [("row", 1)]) (g := gName 1) (tt := tYes) (te := tCB (rLenS K) (tCons (tVar 1) tNil)) rfl scDeg.nd (pi_list (pe_call GL hr (by rfl) gL FL.kp bL .nil pass0 (pa_cons (pv 0) pa_nil))) (blkOk_by (N := ["forest", "row"]) (sc := defScope sDeg) (by decide +kernel)) (fun _ _ _ _ _ => pg_name (i := 1) scDeg.nd rfl (Or.inl rfl)) (fun _ _ _ _ _ => pts_nil) (fun _ _ _ _ _ => (pe_callB call_len_seq (by rfl) mLen boot_len (pa_cons (pv 1) pa_nil))))))), ?_⟩
    refine q_drop (v := .non) (ev_sp (ea_cons (ev_var rfl) ea_nil) fun H1 e1 Q q => ⟨_, n, es, rfl, hg.ex e1, ok, q⟩) fun H1 e1 => ?_
    refine ⟨v, rfl, v, n, es, rfl, hg.ex e1, ok, fun H3 L as e3 hL h3 rw3 => ?_⟩
    have n40 := ok.n40
    have al : (as.map V.ref).length = n := by rw [List.length_map, rw3.len]
    refine el_lcL (K := K) (tl := tC (.ref L)) (j := 1) (t := tYes) (te := tCB (rLenS K) (tCons (tVar 1) tNil)) (vs := [1]) (fun _ => true) (fun i => .int ((adj es i).length : Int)) ev_c (sq_of h3) (by omega) (fun _ => rfl) (fun i c H2 _ _ => fun H3 e3 Q q => q H3 (Ex.refl H3)) (fun i x H4 e4 hx _ => ?_) H3 (Ex.refl H3) _ fun r H4 hr e4 h4 => q H4 r ((e1.trans e3).trans e4) (fresh_back (e1.trans e3) hr) ?_
    · rw [List.getElem?_map] at hx
      cases hai : as[i]? with
      | none => rw [hai] at hx; cases hx
      | some c =>
        rw [hai] at hx
        cases hx
        exact ev_is (ev_len' (ev_var rfl) (e4 _ _ (rw3.at' _ _ hai))) (congrArg V.int (by rw [List.length_map]))
    · rw [h4, al]
      refine congrArg (fun l => some (HO.lst l)) ?_
      unfold given degs nats
      rw [List.filter_eq_self.mpr (fun _ _ => rfl), List.map_map]
      rfl
end
end K03
namespace K03
open PySem PySem.Spec PyProof.Rows L2 Os Evl
abbrev sNear : Stmt := topS 23
theorem scNear : FnScope ["graph", "here", "size", "pairs", "other"] ["graph", "here"] (defScope sNear) := ⟨rfl, rfl, rfl, by decide +kernel, rfl, by decide +kernel, by decide +kernel⟩

theorem room65 {k : Nat} {A : Around} (r : Room k A) : A.units + 65 < cLine := by have := r.un; omega
theorem eqv_pr (e f : Pr) : PyData.eqv (Os.prD e) (Os.prD f) = decide (e = f) := by
  have h : PyData.eqv (Os.prD e) (Os.prD f) = ((e.1 : Int) == (f.1 : Int) && ((e.2 : Int) == (f.2 : Int) && true)) := by
    simp [Os.prD, PyData.eqv, PyData.eqvAll]
  rw [h, Bool.and_true]
  by_cases h1 : e.1 = f.1
  · by_cases h2 : e.2 = f.2
    · rw [decide_eq_true (Prod.ext h1 h2), h1, h2, beq_self_eq_true, beq_self_eq_true]
      rfl
    · rw [decide_eq_false (fun z => h2 (congrArg Prod.snd z)), show ((e.2 : Int) == (f.2 : Int)) = false from beq_eq_false_iff_ne.mpr (by omega), Bool.and_false]
  · rw [decide_eq_false (fun z => h1 (congrArg Prod.fst z)), show ((e.1 : Int) == (f.1 : Int)) = false from beq_eq_false_iff_ne.mpr (by omega), Bool.false_and]
theorem any_pr (es : List Pr) (f : Pr) : ((es.map Os.prD).any fun z => PyData.eqv z (Os.prD f)) = decide (f ∈ es) := by
  rw [List.any_map]
  by_cases h : f ∈ es
  · rw [decide_eq_true h, List.any_eq_true]
    exact ⟨f, h, by show PyData.eqv (Os.prD f) (Os.prD f) = true; rw [eqv_pr, decide_eq_true rfl]⟩
  · rw [decide_eq_false h, List.any_eq_false]
    intro e he z
    have z' : PyData.eqv (Os.prD e) (Os.prD f) = true := z
    rw [eqv_pr] at z'
    exact h (of_decide_eq_true z' ▸ he)
def nearB (es : List Pr) (h o : Nat) : Bool := decide ((min h o, max h o) ∈ es) && !decide (o = h)
theorem near_adj {n : Nat} {es : List Pr} (E : Edges n es) (h : Nat) : (List.range n).filter (nearB es h) = adj es h := by
  have p1 : ((List.range n).filter (nearB es h)).Pairwise (· < ·) := List.pairwise_lt_range.filter _
  have p2 : (adj es h).Pairwise (· < ·) := by
    unfold adj
    refine List.pairwise_filterMap.mpr (List.Pairwise.imp_of_mem (fun {e f} he hf lt b hb b' hb' => ?_) E.asc)
    have := E.inn e he
    have := E.inn f hf
    rw [ltP_iff] at lt
    unfold other at hb hb'
    by_cases a1 : e.1 = h
    · rw [if_pos a1] at hb
      cases hb
      by_cases c1 : f.1 = h
      · rw [if_pos c1] at hb'
        cases hb'
        omega
      · rw [if_neg c1] at hb'
        by_cases c2 : f.2 = h
        · rw [if_pos c2] at hb'
          cases hb'
          omega
        · rw [if_neg c2] at hb'
          cases hb'
    · rw [if_neg a1] at hb
      by_cases a2 : e.2 = h
      · rw [if_pos a2] at hb
        cases hb
        by_cases c1 : f.1 = h
        · rw [if_pos c1] at hb'
          cases hb'
          omega
        · rw [if_neg c1] at hb'
          by_cases c2 : f.2 = h
          · rw [if_pos c2] at hb'
            cases hb'
            omega
          · rw [if_neg c2] at hb'
            cases hb'
      · rw [if_neg a2] at hb
        cases hb
  refine List.Perm.eq_of_pairwise (le := (· < ·)) (fun a b _ _ x y => by omega) p1 p2 ((List.perm_ext_iff_of_nodup (p1.imp fun h => by omega) (p2.imp fun h => by omega)).mpr fun o => ?_)
  rw [List.mem_filter, List.mem_range]
  unfold nearB adj
  rw [Bool.and_eq_true, decide_eq_true_eq, Bool.not_eq_true', decide_eq_false_iff_not, List.mem_filterMap]
  constructor
  · rintro ⟨_, h1, h2⟩
    refine ⟨_, h1, ?_⟩
    unfold other
    by_cases lt : h < o
    · rw [if_pos (show min h o = h by omega)]
      exact congrArg some (show max h o = o by omega)
    · rw [if_neg (show ¬ min h o = h by omega), if_pos (show max h o = h by omega)]
      exact congrArg some (show min h o = o by omega)
  · rintro ⟨e, he, h1⟩
    have ein := E.inn e he
    unfold other at h1
    by_cases a1 : e.1 = h
    · rw [if_pos a1] at h1
      cases h1
      refine ⟨ein.2, ?_, by omega⟩
      rw [show (min h e.2, max h e.2) = e from Prod.ext (show min h e.2 = e.1 by omega) (show max h e.2 = e.2 by omega)]
      exact he
    · rw [if_neg a1] at h1
      by_cases a2 : e.2 = h
      · rw [if_pos a2] at h1
        cases h1
        refine ⟨by omega, ?_, by omega⟩
        rw [show (min h e.1, max h e.1) = e from Prod.ext (show min h e.1 = e.1 by omega) (show max h e.1 = e.2 by omega)]
        exact he
      · rw [if_neg a2] at h1
        cases h1
section
variable {P : Program} {w : World} {K : PySem.W.Frag} {mg : Str → Option Value} {base : Heap}
def spNear : Sp := fun vs H Q _ => ∃ (v : V) (n p : Nat) (es : List Pr), vs = [v, .int (p : Int)] ∧ GraphV H v n es ∧ IsForest n es ∧ p < n ∧
  ∀ H' a, Ex H H' → H a = none → H' a = some (.lst (nats (adj es p))) → Q (.ref a) H'
theorem ok_near {f : Addr} {fd : FuncData} {k : Nat} (F : Fun K "_law_near" "_law_near" sNear f fd) (mRange : mg "range" = none) (mMin : mg "min" = none) (mMax : mg "max" = none) : FnOk P w K mg base CX0 (k + 1) f fd ["graph", "here"] spNear := by
  refine F.ok scNear (fun vs H Q E h => ?_) (fun cdv A outer s H vs Q E hr h => ?_)
  · obtain ⟨v, n, p, es, rfl, _⟩ := h
    rfl
  · obtain ⟨v, n, p, es, rfl, hg, ok, lt, q⟩ := h
    have hu := room65 hr
    refine ⟨_, (pss_cons (ps_asg (pv 0) (pg_tup rfl (pgs_cons (pg_name (i := 2) scNear.nd rfl (Or.inl rfl)) (pgs_cons (pg_name (i := 3) scNear.nd rfl (Or.inr rfl)) pgs_nil))))
      (pss_one (ps_ret (pe_lc (own := [("other", 4)]) (g := gName 4) (tt := (tAnd (tTest (tOp (rInD K) (tTup (tCons (tCB (fun xs H Q => ∃ i j, xs = [V.int i, V.int j] ∧ Q (.int (if j < i then j else i)) H) (tCons (tVar 1) (tCons (tVar 4) tNil))) (tCons (tCB (fun xs H Q => ∃ i j, xs = [V.int i, V.int j] ∧ Q (.int (if j > i then j else i)) H) (tCons (tVar 1) (tCons (tVar 4) tNil))) tNil))) (tVar 3))) (tTest (tOp rNe (tVar 4) (tVar 1))))) (te := tVar 4) rfl scNear.nd (pi_range1 (by rfl) mRange (pa_cons (pv 2) pa_nil)) (blkOk_by (N := ["graph", "here", "size", "pairs", "other"]) (sc := defScope sNear) (by decide +kernel)) (fun _ _ _ _ _ => pg_name (i := 4) scNear.nd rfl (Or.inl rfl)) (fun _ _ _ _ _ => pts_one (PW.pt (pw_and (pt_cmpR (op_inD hu) (pe_tup (pa_cons (pe_callB (call_min2 rfl) (by rfl) mMin boot_min (pa_cons (pv 1) (pa_cons (pv 4) pa_nil))) (pa_cons (pe_callB (call_max2 rfl) (by rfl) mMax boot_max (pa_cons (pv 1) (pa_cons (pv 4) pa_nil))) pa_nil))) (pv 3) (by rfl)) (pw_and1 (pt_cmpR op_ne (pv 4) (pv 1) (nomark _)))))) (fun _ _ _ _ _ => pv 4))))), ?_⟩
    obtain ⟨g, a, xs, rfl, h2, h3, h4⟩ := hg
    have n40 := ok.n40
    refine ⟨.ref g, rfl, g, _, rfl, st_of h2, rfl, .int (n : Int), _, rfl, .ref a, [], rfl, rfl, ?_⟩
    dsimp only
    refine s_retL (xs := nats (adj es p)) ?_ fun r H4 hr0 e4 h4 => q H4 r e4 hr0 h4
    rw [← near_adj ok.edges p]
    refine el_lcR1 (n := (n : Int)) (nearB es p) (fun i => .int (i : Int)) (ea_cons (ev_var rfl) ea_nil) ⟨by omega, by omega⟩ (fun _ => rfl) (fun i H1 e1 hi => ?_) (fun i H1 e1 hi _ => ev_var rfl)
    refine et_and (a := decide ((min p i, max p i) ∈ es)) (b := !decide (i = p)) (fun H2 e2 Q' q' => ?_) fun _ => et_is (et_test (ev_op (ev_var rfl) (ev_var rfl) (rv_ne rfl))) (by
      refine congrArg (!·) (decide_eq_decide.mpr ⟨fun e => ?_, fun e => by rw [e]⟩)
      have := V.int.inj e
      omega)
    have m1 : (if (i : Int) < (p : Int) then (i : Int) else (p : Int)) = ((min p i : Nat) : Int) := by split <;> omega
    have m2 : (if (i : Int) > (p : Int) then (i : Int) else (p : Int)) = ((max p i : Nat) : Int) := by split <;> omega
    refine ⟨.int (p : Int), rfl, .int (i : Int), rfl, (p : Int), (i : Int), rfl, .int (p : Int), rfl, .int (i : Int), rfl, (p : Int), (i : Int), rfl, show 2 ≤ sizeLine by decide, fun t ht => ?_⟩
    rw [m1, m2]
    have et := Ex.new (o := .tup [.int ((min p i : Nat) : Int), .int ((max p i : Nat) : Int)]) ht
    have e12 := (e1.trans e2).trans et
    have shp : Sh 2 (Os.prD (min p i, max p i)) := .tup fun x hx => by
      rcases List.mem_cons.mp hx with rfl | hx
      · exact .int 1 _
      · rw [List.mem_singleton.mp hx]
        exact .int 1 _
    refine ⟨.ref a, rfl, Os.prD (min p i, max p i), es.map Os.prD, Dt.dp (PrV.dt ⟨t, rfl, upd_same⟩), Dt.dp (.lst (e12 _ _ h3) (h4.ex e12).dts), shp.shaped (by decide), (sh_prs es).shaped (by decide), ⟨_, rfl, ?_⟩⟩
    rw [any_pr]
    exact q' _ et
end
end K03
namespace K03
open PySem PySem.Spec PyProof.Rows L2 Os Evl
abbrev sRight : Stmt := topS 24
theorem scRight : FnScope ["graph", "size", "pairs", "handed", "due", "row", "counts", "found", "again", "told", "here"] ["graph"] (defScope sRight) := ⟨rfl, rfl, rfl, by decide +kernel, rfl, by decide +kernel, by decide +kernel⟩

theorem dts_get {G : Hp} : ∀ {xs : List V} {ds : List PyData}, xs.length = ds.length → (∀ (i : Nat) (x : V) (d : PyData), xs[i]? = some x → ds[i]? = some d → Dt G x d) → Dts G xs ds
  | [], [], _, _ => .nil
  | x :: xs, d :: ds, h, k => .cons (k 0 x d rfl rfl) (dts_get (by simpa using h) fun i y e h1 h2 => k (i + 1) y e h1 h2)
  | [], _ :: _, h, _ => by simp at h
  | _ :: _, [], h, _ => by simp at h
abbrev rowsD (n : Nat) (f : Nat → List Nat) : List PyData := (List.range n).map fun i => .list (natsD (f i))
theorem RwV.dts {H0 G : Hp} {as : List Addr} {n : Nat} {f : Nat → List Nat} (h : RwV H0 G as n f) : Dts G (as.map V.ref) (rowsD n f) := dts_get (by rw [List.length_map, List.length_map, List.length_range, h.len]) fun i x d h1 h2 => by
  rw [List.getElem?_map] at h1 h2
  cases ha : as[i]? with
  | none => rw [ha] at h1; cases h1
  | some a =>
    rw [ha] at h1
    cases h1
    have lt : i < n := by rw [← h.len]; exact (List.getElem?_eq_some_iff.mp ha).1
    rw [List.getElem?_range lt] at h2
    cases h2
    exact .lst (h.at' i a ha) (dts_nats _)
theorem sh_rows (n : Nat) (f : Nat → List Nat) : Sh 2 (.list (rowsD n f)) := .lst fun d hd => by
  obtain ⟨i, _, rfl⟩ := List.mem_map.mp hd
  exact sh_nats 0 _
theorem plain_rows {n : Nat} {f : Nat → List Nat} (hn : n ≤ 1000) (h : ∀ i, (f i).length ≤ 1000) : Plain 3 (.list (rowsD n f)) := .inr (.inr ⟨_, rfl, by rw [List.length_map, List.length_range]; exact hn, fun d hd => by
  obtain ⟨i, _, rfl⟩ := List.mem_map.mp hd
  exact plain_nats 0 (h i)⟩)
theorem RwV.keep {H0 G G' : Hp} {as : List Addr} {n : Nat} {f : Nat → List Nat} (h : RwV H0 G as n f) (k : ∀ b o, b ∈ as → G b = some o → G' b = some o) : RwV H0 G' as n f := ⟨h.len, h.new, fun i a q => k a _ (List.mem_of_getElem? q) (h.at' i a q), h.nd⟩
/-- a list of n calls, each of which makes a new list of numbers -/
theorem q_rows {K : PySem.W.Frag} {te : TE} {ta : TA} {tz : TS} {D : Ends} {σ : L2.St} {H : Hp} {i j n : Nat} {vs : List Nat} {f : Nat → List Nat} (hn : n ≤ 1000) (h : EvA ta σ H [.int (n : Int)]) (hw : ∀ x, wipe ((wipe σ vs).set j (some x)) vs = wipe σ vs)
    (he : ∀ l H1, Ex H H1 → l < n → ∀ Q : VK, (∀ H2 a, Ex H1 H2 → H1 a = none → H2 a = some (.lst (nats (f l))) → Q (.ref a) H2) → te ((wipe σ vs).set j (some (.int (l : Int)))) H1 Q)
    (k : ∀ L H' as, Ex H H' → H L = none → H' L = some (.lst (as.map V.ref)) → (∀ a ∈ as, a ≠ L) → RwV H H' as n f → tz D (σ.set i (some (.ref L))) H') :
    tSeq (tAsg (tLc (iRng1 ta) (gName j) tYes te vs) (gName i)) tz D σ H := by
  refine h H (Ex.refl H) _ fun H1 e1 => ⟨(n : Int), rfl, by omega, by omega, fun L hL => ?_⟩
  have hL0 := fresh_back e1 hL
  have eL : Ex H (upd H1 L (.lst [])) := e1.trans (Ex.new hL)
  refine lc_range (lo := 0) (n := (n : Int).toNat) (fun i Hh => Ex H1 Hh ∧ ∃ as : List Addr, Hh L = some (.lst (as.map V.ref)) ∧ RwV (upd H1 L (.lst [])) Hh as i f) ⟨Ex.new hL, [], upd_same, rfl, (fun a h => nomatch h), (fun i a h => by simp at h), List.nodup_nil⟩ ?_ ?_
  · rintro l Hh hl ⟨x1, as, hrs, rg⟩
    have lt : l < n := by omega
    have e0 : (0 : Int) + (l : Int) = (l : Int) := by omega
    rw [e0]
    refine ⟨hw _, ?_⟩
    dsimp only [tYes]
    rw [if_pos rfl]
    refine he l Hh (e1.trans x1) lt _ fun H2 b e2 hb h2 => ?_
    have nb : b ≠ L := fun e => by
      rw [e, hrs] at hb
      cases hb
    have hb0 : upd H1 L (.lst []) b = none := by
      rw [upd_ne nb]
      exact fresh_back x1 hb
    refine ⟨as.map V.ref, e2 _ _ hrs, sz_lt (by rw [List.length_map, rg.len]; omega), (x1.trans e2).mut hL, as ++ [b], ?_, ?_⟩
    · rw [upd_same, List.map_append]
      rfl
    · refine RwV.off (u := .lst []) ⟨by rw [List.length_append, rg.len]; rfl, fun c hc => ?_, fun j c hc => ?_, ?_⟩ upd_same
      · rcases List.mem_append.mp hc with hc | hc
        · exact rg.new c hc
        · rw [List.mem_singleton.mp hc]
          exact hb0
      · by_cases hj : j < as.length
        · rw [List.getElem?_append_left hj] at hc
          exact e2 _ _ (rg.at' j c hc)
        · have lj : j < (as ++ [b]).length := (List.getElem?_eq_some_iff.mp hc).1
          rw [List.length_append, List.length_singleton] at lj
          have jl : j = l := by rw [← rg.len]; omega
          rw [List.getElem?_append_right (by omega)] at hc
          rw [List.mem_singleton.mp (List.mem_of_getElem? hc), jl]
          exact h2
      · refine List.nodup_append.mpr ⟨rg.nd, List.pairwise_singleton _ _, fun c hc d hd => ?_⟩
        rw [List.mem_singleton.mp hd]
        obtain ⟨j, hj⟩ := List.mem_iff_getElem?.mp hc
        exact ne_of_none (rg.at' _ _ hj) hb
  · rintro Hh ⟨x1, as, hrs, rg⟩
    rw [Int.toNat_natCast] at rg
    refine k L Hh as (e1.trans x1) hL0 hrs (fun a ha e => ?_) (rg.weak eL)
    have := rg.new a ha
    rw [e, upd_same] at this
    cases this
theorem iteF {A B : Prop} (h : B) : if (!true) = true then A else B := by
  rw [if_neg (by decide)]
  exact h
theorem adj_len {n : Nat} {es : List Pr} (ok : IsForest n es) (i : Nat) : (adj es i).length ≤ 60 := by
  unfold adj
  have h1 := List.length_filterMap_le (other i) es
  have := ok.few
  omega
theorem degs_none (n : Nat) : degs n [] = List.replicate n 0 := by
  unfold degs
  exact List.ext_getElem (by simp) fun i h1 h2 => by simp [adj]
theorem none_forest {n : Nat} {es : List Pr} (ok : IsForest n es) : IsForest n [] := ⟨⟨(fun e h => nomatch h), .nil, (fun e h => nomatch h)⟩, ok.n1, ok.n40, Nat.zero_le _⟩
section
variable {P : Program} {w : World} {K : PySem.W.Frag} {mg : Str → Option Value} {base : Heap}
def spRight : Sp := fun vs H Q _ => ∃ (v : V) (n : Nat) (es : List Pr), vs = [v] ∧ GraphV H v n es ∧ IsForest n es ∧ ∀ H', Ex H H' → Q (.bl true) H'
theorem ok_right {f fN fB fE fD : Addr} {fd fdN fdB fdE fdD : FuncData} {k : Nat} (F : Fun K "_law_right" "_law_right" sRight f fd)
    (GN : FnOk P w K mg base CX0 k fN fdN ["graph", "here"] spNear) (FN : Fun K "_law_near" "_law_near" sNear fN fdN) (bN : Binds K fdN ["graph", "here"] []) (gN : mg "_law_near" = some (.ref fN))
    (GB : FnOk P w K mg base CX0 k fB fdB ["forest", "position"] spNb) (FB : Fun K "neighbours" "neighbours" sNb fB fdB) (bB : Binds K fdB ["forest", "position"] []) (kB : KBinds K fdB ["forest", "position"] ["position", "forest"] revG revV) (gB : mg "neighbours" = some (.ref fB))
    (GE : FnOk P w K mg base CX0 k fE fdE ["found", "due"] (spSame 4)) (FE : Fun K "_law_same" "_law_same" sSame fE fdE) (bE : Binds K fdE ["found", "due"] []) (gE : mg "_law_same" = some (.ref fE))
    (GD : FnOk P w K mg base CX0 k fD fdD ["forest"] spDeg) (FD : Fun K "degrees" "degrees" sDeg fD fdD) (bD : Binds K fdD ["forest"] []) (kD : KBinds K fdD ["forest"] ["forest"] revG revV) (gD : mg "degrees" = some (.ref fD))
    (mRange : mg "range" = none) (mList : mg "list" = none) (mLen : mg "len" = none) : FnOk P w K mg base CX0 (k + 1) f fd ["graph"] spRight := by
  refine F.ok scRight (fun vs H Q E h => ?_) (fun cdv A outer s H vs Q E hr h => ?_)
  · obtain ⟨v, n, es, rfl, _⟩ := h
    rfl
  · obtain ⟨v, n, es, rfl, hg, ok, q⟩ := h
    refine ⟨_, (pss_cons (ps_asg (pv 0) (pg_tup rfl (pgs_cons (pg_name (i := 1) scRight.nd rfl (Or.inl rfl)) (pgs_cons (pg_name (i := 2) scRight.nd rfl (Or.inl rfl)) pgs_nil))))
      (pss_cons (ps_set (i := 3) scRight.nd rfl (.inr rfl) (pe_tup (pa_cons (pv 1) (pa_cons (pe_callTy call_list_of (by rfl) mList boot_list (pa_cons (pv 2) pa_nil)) pa_nil))))
      (pss_cons (ps_setLc (i := 4) (own := [("here", 10)]) (g := gName 10) (tt := tYes) rfl scRight.nd rfl rfl (sw_true rfl rfl rfl (by decide +kernel)) (pi_range1 (by rfl) mRange (pa_cons (pv 1) pa_nil)) (blkOk_by (N := ["graph", "size", "pairs", "handed", "due", "row", "counts", "found", "again", "told", "here"]) (sc := defScope sRight) (by decide +kernel)) (fun _ _ _ _ _ => pg_name (i := 10) scRight.nd rfl (Or.inl rfl)) (fun _ _ _ _ _ => pts_nil) (fun _ _ _ _ _ => (pe_call GN hr (by rfl) gN FN.kp bN .nil pass0 (pa_cons (pv 0) (pa_cons (pv 10) pa_nil)))))
      (pss_cons (ps_setLc (i := 6) (own := [("row", 5)]) (g := gName 5) (tt := tYes) (te := tCB (rLenS K) (tCons (tVar 5) tNil)) rfl scRight.nd rfl rfl (sw_true rfl rfl rfl (by decide +kernel)) (pi_list (pv 4)) (blkOk_by (N := ["graph", "size", "pairs", "handed", "due", "row", "counts", "found", "again", "told", "here"]) (sc := defScope sRight) (by decide +kernel)) (fun _ _ _ _ _ => pg_name (i := 5) scRight.nd rfl (Or.inl rfl)) (fun _ _ _ _ _ => pts_nil) (fun _ _ _ _ _ => (pe_callB call_len_seq (by rfl) mLen boot_len (pa_cons (pv 5) pa_nil))))
      (pss_cons (ps_setLc (i := 7) (own := [("here", 10)]) (g := gName 10) (tt := tYes) rfl scRight.nd rfl rfl (sw_true rfl rfl rfl (by decide +kernel)) (pi_range1 (by rfl) mRange (pa_cons (pv 1) pa_nil)) (blkOk_by (N := ["graph", "size", "pairs", "handed", "due", "row", "counts", "found", "again", "told", "here"]) (sc := defScope sRight) (by decide +kernel)) (fun _ _ _ _ _ => pg_name (i := 10) scRight.nd rfl (Or.inl rfl)) (fun _ _ _ _ _ => pts_nil) (fun _ _ _ _ _ => (pe_call GB hr (by rfl) gB FB.kp bB .nil pass0 (pa_cons (pv 3) (pa_cons (pv 10) pa_nil)))))
      (pss_cons (ps_setLc (i := 8) (own := [("here", 10)]) (g := gName 10) (tt := tYes) rfl scRight.nd rfl rfl (sw_true rfl rfl rfl (by decide +kernel)) (pi_range1 (by rfl) mRange (pa_cons (pv 1) pa_nil)) (blkOk_by (N := ["graph", "size", "pairs", "handed", "due", "row", "counts", "found", "again", "told", "here"]) (sc := defScope sRight) (by decide +kernel)) (fun _ _ _ _ _ => pg_name (i := 10) scRight.nd rfl (Or.inl rfl)) (fun _ _ _ _ _ => pts_nil) (fun _ _ _ _ _ => (pe_callK0 GB hr (by rfl) gB FB.kp kB pass0 (pk_cons (pv 10) (pk_cons (pv 3) pk_nil)))))
      (pss_cons (ps_if (pt_not (pt_val (pe_call GE hr (by rfl) gE FE.kp bE .nil pass0 (pa_cons (pe_lst (pa_cons (pv 7) (pa_cons (pv 8) pa_nil))) (pa_cons (pe_lst (pa_cons (pv 4) (pa_cons (pv 4) pa_nil))) pa_nil))))) pss_never pss_nil)
      (pss_cons (ps_set (i := 9) scRight.nd rfl (.inl rfl) (pe_call GD hr (by rfl) gD FD.kp bD .nil pass0 (pa_cons (pv 3) pa_nil)))
      (pss_cons (ps_if (PW.pt (pw_or (pt_not (pt_val (pe_call GE hr (by rfl) gE FE.kp bE .nil pass0 (pa_cons (pe_lst (pa_cons (pv 9) (pa_cons (pe_callK0 GD hr (by rfl) gD FD.kp kD pass0 (pk_cons (pv 3) pk_nil)) pa_nil))) (pa_cons (pe_lst (pa_cons (pv 6) (pa_cons (pv 6) pa_nil))) pa_nil))))) (pw_or1 (pt_cmpR (op_neD hr.units) (pv 3) (pv 0) (nomark _))))) pss_never pss_nil)
      (pss_cons (ps_expr (pe_bm0 PySem.F.plainAttrs_list PySem.F.slot_list_clear PySem.F.type_list_clear mt_clear (pe_ix ix_tup (pv 3) pe_int (fun _ _ => rfl))))
      (pss_cons (ps_for PassesOwn.never rfl (pi_list (pv 7)) (pg_name (i := 5) scRight.nd rfl (Or.inl rfl))
      (pss_one (ps_expr (pe_bm PySem.F.plainAttrs_list PySem.F.slot_list_append PySem.F.type_list_append mt_append (pv 5) (pa_cons (pv 1) pa_nil)))))
      (pss_cons (ps_expr (pe_bm PySem.F.plainAttrs_list PySem.F.slot_list_append PySem.F.type_list_append mt_append (pv 9) (pa_cons pe_int pa_nil)))
      (pss_one (ps_ret (pe_and (pe_cmpR (op_eqD hr.units) (pv 8) (pv 4) (nomark _)) (pe_and (pe_cmpR (op_eqD hr.units) (pe_call GD hr (by rfl) gD FD.kp bD .nil pass0 (pa_cons (pe_tup (pa_cons (pv 1) (pa_cons (pv 2) pa_nil))) pa_nil)) (pv 6) (nomark _)) (pe_one (pe_cmpR (op_eqD hr.units) (pe_call GD hr (by rfl) gD FD.kp bD .nil pass0 (pa_cons (pv 3) pa_nil)) (pe_op op_rep (pe_lst (pa_cons pe_int pa_nil)) (pv 1)) (nomark _))))))))))))))))))), ?_⟩
    have hg0 := hg
    obtain ⟨g, a, xs, rfl, h2, h3, h4⟩ := hg
    have n40 := ok.n40
    have al := adj_len ok
    have xl := h4.length
    have few := ok.few
    refine ⟨.ref g, rfl, g, _, rfl, st_of h2, rfl, .int (n : Int), _, rfl, .ref a, [], rfl, rfl, ?_⟩
    -- handed
    refine ⟨.int (n : Int), rfl, .ref a, rfl, a, xs, rfl, .inl (sq_of h3), fun hl hhl => ⟨show 2 ≤ sizeLine by decide, fun hd hhd => ?_⟩⟩
    have v1 := Ex.new (o := .lst xs) hhl
    have v2 := Ex.new (o := .tup [.int (n : Int), .ref hl]) hhd
    have x0 := v1.trans v2
    have k1 : upd (upd H hl (.lst xs)) hd (.tup [.int (n : Int), .ref hl]) hl = some (.lst xs) := v2 _ _ upd_same
    have k2 : upd (upd H hl (.lst xs)) hd (.tup [.int (n : Int), .ref hl]) hd = some (.tup [.int (n : Int), .ref hl]) := upd_same
    have hd0 : H hd = none := fresh_back v1 hhd
    dsimp only [gName]
    generalize upd (upd H hl (.lst xs)) hd (.tup [.int (n : Int), .ref hl]) = H0 at *
    have hh : ∀ {G : Hp}, Ex H0 G → GraphV G (.ref hd) n es := fun e => ⟨hd, hl, xs, rfl, e _ _ k2, e _ _ k1, h4.ex (x0.trans e)⟩
    -- due
    refine q_rows (K := K) (n := n) (f := adj es) (by omega) (ea_cons (ev_var rfl) ea_nil) (fun _ => rfl) (fun l H1 e1 ll Q' q' => ⟨.ref g, rfl, .int (l : Int), rfl, .ref g, n, l, es, rfl, hg0.ex (x0.trans e1), ok, ll, q'⟩) fun du H1 das e1 hdu h1 nd1 rd => ?_
    -- counts
    refine q_asgL (xs := nats (degs n es)) ?_ fun co H2 hco e2 h2' => ?_
    · have e : nats (degs n es) = given (das.map V.ref).length (fun _ => true) (fun i => .int ((adj es i).length : Int)) := by
        rw [List.length_map, rd.len]
        unfold given degs nats
        rw [List.filter_eq_self.mpr (fun _ _ => rfl), List.map_map]
        rfl
      rw [e]
      refine el_lcL (fun _ => true) _ (ev_var rfl) (sq_of h1) (by rw [List.length_map, rd.len]; omega) (fun _ => rfl) (fun i c H2 _ _ => fun H3 e3 Q q => q H3 (Ex.refl H3)) (fun i x H4 e4 hx _ => ?_)
      rw [List.getElem?_map] at hx
      cases hai : das[i]? with
      | none => rw [hai] at hx; cases hx
      | some c =>
        rw [hai] at hx
        cases hx
        exact ev_is (ev_len' (ev_var rfl) (e4 _ _ (rd.at' _ _ hai))) (congrArg V.int (by rw [List.length_map]))
    -- found, again
    have x2 := e1.trans e2
    refine q_rows (K := K) (n := n) (f := adj es) (by omega) (ea_cons (ev_var rfl) ea_nil) (fun _ => rfl) (fun l H1 e1 ll Q' q' => ⟨.ref hd, rfl, .int (l : Int), rfl, .ref hd, n, l, es, rfl, hh (x2.trans e1), ok, ll, q'⟩) fun fo H3 fas e3 hfo h3' nd3 rf => ?_
    have x3 := x2.trans e3
    refine q_rows (K := K) (n := n) (f := adj es) (by omega) (ea_cons (ev_var rfl) ea_nil) (fun _ => rfl) (fun l H1 e1 ll Q' q' => ⟨.int (l : Int), rfl, .ref hd, rfl, .ref hd, n, l, es, rfl, hh (x3.trans e1), ok, ll, q'⟩) fun ag H4 aas e4 hag h4' nd4 ra => ?_
    have x4 := x3.trans e4
    refine q_when (b := !true) (et_not (et_B (ev_same (K := K) (ds := [.list (rowsD n (adj es)), .list (rowsD n (adj es))]) (ea_cons (ev_var rfl) (ea_cons (ev_var rfl) ea_nil)) (ea_cons (ev_var rfl) (ea_cons (ev_var rfl) ea_nil)) (.cons (.lst (e4 _ _ h3') (rf.ex e4).dts) (.cons (.lst h4' ra.dts) .nil))
      (.cons (.lst (e4 _ _ (e3 _ _ (e2 _ _ h1))) (rd.ex ((e2.trans e3).trans e4)).dts) (.cons (.lst (e4 _ _ (e3 _ _ (e2 _ _ h1))) (rd.ex ((e2.trans e3).trans e4)).dts) .nil))
      (.inr (.inr ⟨_, rfl, by show 2 ≤ 1000; decide, fun y hy => by
        have pl : Plain 3 (.list (rowsD n (adj es))) := plain_rows (by omega) fun i => by have := al i; omega
        rcases List.mem_cons.mp hy with rfl | hy
        · exact pl
        · rw [List.mem_singleton.mp hy]
          exact pl⟩)) (by show 2 ≤ 1000; decide)))) (fun h => nomatch h) fun _ H5 e5 => ?_
    have x5 := x4.trans e5
    -- told
    refine ⟨.ref hd, rfl, .ref hd, n, es, rfl, hh x5, ok, fun H6 to e6 hto h6 => ?_⟩
    have x6 := x5.trans e6
    -- the second comparison
    refine ⟨.ref to, rfl, .ref hd, rfl, .ref hd, n, es, rfl, hh x6, ok, fun H7 dg e7 hdg h7 => ?_⟩
    have x7 := x6.trans e7
    refine ⟨show 2 ≤ sizeLine by decide, fun p1 hp1 => ?_⟩
    have w1 := Ex.new (o := .lst [.ref to, .ref dg]) hp1
    refine ⟨.ref co, rfl, .ref co, rfl, show 2 ≤ sizeLine by decide, fun p2 hp2 => ?_⟩
    have w2 := Ex.new (o := .lst [.ref co, .ref co]) hp2
    have w12 := w1.trans w2
    have co7 := e7 _ _ (e6 _ _ (e5 _ _ (e4 _ _ (e3 _ _ h2'))))
    have natD : ∀ {G : Hp} {p : Addr}, G p = some (.lst (nats (degs n es))) → Dt G (.ref p) (.list (natsD (degs n es))) := fun h => .lst h (dts_nats _)
    have dl : (degs n es).length ≤ 1000 := by
      unfold degs
      rw [List.length_map, List.length_range]
      omega
    refine ⟨.ref p1, .ref p2, .list [.list (natsD (degs n es)), .list (natsD (degs n es))], rfl, .lst (w2 _ _ upd_same) (.cons (natD (w12 _ _ (e7 _ _ h6))) (.cons (natD (w12 _ _ h7)) .nil)), .lst upd_same (.cons (natD (w12 _ _ co7)) (.cons (natD (w12 _ _ co7)) .nil)),
      .inr (.inr ⟨_, rfl, by show 2 ≤ 1000; decide, fun y hy => by
        rcases List.mem_cons.mp hy with rfl | hy
        · exact plain_nats 1 dl
        · rw [List.mem_singleton.mp hy]
          exact plain_nats 1 dl⟩), fun H8 e8 => ⟨true, rfl, iteF ?_⟩⟩
    have x8 := (x7.trans w12).trans e8
    have shg : Sh 3 (.tuple [.int (n : Int), .list (es.map Os.prD)]) := .tup fun y hy => by
      rcases List.mem_cons.mp hy with rfl | hy
      · exact .int 2 _
      · rw [List.mem_singleton.mp hy]
        exact sh_prs es
    refine ⟨.ref hd, rfl, .ref g, rfl, .tuple [.int (n : Int), .list (es.map Os.prD)], .tuple [.int (n : Int), .list (es.map Os.prD)], (hh x8).dt.dp, (hg0.ex (x0.trans x8)).dt.dp, shg.shaped (by decide), shg.shaped (by decide), _, rfl, ?_⟩
    rw [shg.refl]
    refine iteF ?_
    -- what stands in H8
    have z4 := ((e5.trans e6).trans e7).trans (w12.trans e8)
    have z3 := e4.trans z4
    have z2 := e3.trans z3
    have z1 := e2.trans z2
    have z6 := e7.trans (w12.trans e8)
    have g_hl := x8 _ _ k1
    have g_hd := x8 _ _ k2
    have g_du := z1 _ _ h1
    have g_co := z2 _ _ h2'
    have g_fo := z3 _ _ h3'
    have g_ag := z4 _ _ h4'
    have g_to := z6 _ _ h6
    have r_du := rd.ex z1
    have r_fo := rf.ex z3
    have r_ag := ra.ex z4
    have xH : Ex H H8 := x0.trans x8
    have n_hl : ∀ {b : Addr} {o : HO}, H0 hl = some o → H0 b = none → b ≠ hl := fun h hb e => by
      rw [e, h] at hb
      cases hb
    -- handed[1].clear()
    refine ⟨.ref hd, rfl, hd, _, 1, .ref hl, rfl, rfl, st_of g_hd, atI_nat (j := 1) rfl, .inl ⟨rfl, _, sq_of g_hl⟩, hl, _, rfl, rfl, g_hl, ?_⟩
    have m1 : ∀ b o, H8 b = some o → b ≠ hl → upd H8 hl (.lst []) b = some o := fun b o h n1 => by
      rw [upd_ne n1]
      exact h
    have mhl : upd H8 hl (.lst []) hl = some (.lst []) := upd_same
    have mx : Ex H (upd H8 hl (.lst [])) := xH.mut hhl
    generalize upd H8 hl (.lst []) = G1 at m1 mhl mx ⊢
    -- old and new
    have o_du : H0 du = none := hdu
    have f_fo : H2 fo = none := hfo
    have n_fas : ∀ {b : Addr} {o : HO}, H2 b = some o → b ∉ fas := fun h hm => by
      have := rf.new _ hm
      rw [h] at this
      cases this
    have l_fas : ∀ {b : Addr}, b ∈ fas → ∃ l, H3 b = some (.lst l) := fun hm => by
      obtain ⟨j, hj⟩ := List.mem_iff_getElem?.mp hm
      exact ⟨_, rf.at' _ _ hj⟩
    have a_fas : ∀ {b : Addr}, H3 b = none → b ∉ fas := fun h hm => by
      obtain ⟨l, hl'⟩ := l_fas hm
      rw [h] at hl'
      cases hl'
    have fasH : ∀ b ∈ fas, H b = none := fun b hb => fresh_back ((x0.trans x2)) (rf.new b hb)
    have n_fo : ∀ a ∈ fas, a ≠ fo := nd3
    -- the loop over found
    refine q_forL (xs := fas.map V.ref) (ev_var rfl) (sq_of (m1 _ _ g_fo (n_hl k1 (fresh_back x2 hfo)))) (fun i σ' G => Ex H G ∧ i ≤ fas.length ∧ (∀ b o, G1 b = some o → b ∉ fas → G b = some o) ∧ (∀ b ∈ fas, ∃ l, G b = some (.lst l) ∧ l.length ≤ 1000 + i) ∧ ∃ y5 y10, σ' = [some (.ref g), some (.int (n : Int)), some (.ref a), some (.ref hd), some (.ref du), y5, some (.ref co), some (.ref fo), some (.ref ag), some (.ref to), y10])
      (fun G e => ⟨mx.trans e, Nat.zero_le _, fun b o h _ => e _ _ h, fun b hb => ?_, _, _, rfl⟩) (fun i σ' G _ h => sq_of (h.2.2.1 _ _ (m1 _ _ g_fo (n_hl k1 (fresh_back x2 hfo))) fun hm => n_fo _ hm rfl)) ?_ ?_
    · obtain ⟨j, hj⟩ := List.mem_iff_getElem?.mp hb
      exact ⟨_, e _ _ (m1 _ _ (r_fo.at' _ _ hj) (n_hl k1 (fresh_back x2 (rf.new _ hb)))), by rw [List.length_map]; have := al j; omega⟩
    · rintro i x σ' G hx ⟨t1, t2, t3, t4, y5, y10, rfl⟩
      rw [List.getElem?_map] at hx
      cases hai : fas[i]? with
      | none => rw [hai] at hx; cases hx
      | some c =>
        rw [hai] at hx
        cases hx
        have hc := List.mem_of_getElem? hai
        have il := (List.getElem?_eq_some_iff.mp hai).1
        have fl := rf.len
        obtain ⟨l, hl1, hl2⟩ := t4 c hc
        refine s_app (v := .int (n : Int)) hl1 (ev_var rfl) (ev_var rfl) (by omega) fun G' e' => ?_
        refine ⟨(t1.trans e').mut (fasH c hc), by omega, fun b o h hb => ?_, fun b hb => ?_, _, _, rfl⟩
        · rw [upd_ne (show b ≠ c from fun e => hb (by rw [e]; exact hc))]
          exact e' _ _ (t3 b o h hb)
        · by_cases e : b = c
          · subst e
            exact ⟨_, upd_same, by rw [List.length_append]; show l.length + 1 ≤ 1000 + (i + 1); omega⟩
          · obtain ⟨l', h1', h2''⟩ := t4 b hb
            exact ⟨l', by rw [upd_ne e]; exact e' _ _ h1', by omega⟩
    · rintro σ' G ⟨t1, _, t3, _, y5, y10, rfl⟩
      have keepG : ∀ b o, H8 b = some o → b ≠ hl → b ∉ fas → G b = some o := fun b o h n1 n2 => t3 b o (m1 b o h n1) n2
      have G_hl : G hl = some (.lst []) := t3 _ _ mhl (n_fas (x2 _ _ k1))
      have G_hd := keepG _ _ g_hd (fun e => by rw [e, k1] at k2; cases k2) (n_fas (x2 _ _ k2))
      have G_du := keepG _ _ g_du (n_hl k1 hdu) (n_fas (e2 _ _ h1))
      have G_co := keepG _ _ g_co (n_hl k1 (fresh_back e1 hco)) (n_fas h2')
      have ag3 : H0 ag = none := fresh_back x3 hag
      have G_ag := keepG _ _ g_ag (n_hl k1 ag3) (a_fas hag)
      have to5 : H3 to = none := fresh_back (e4.trans e5) hto
      have G_to := keepG _ _ g_to (n_hl k1 (fresh_back x5 hto)) (a_fas to5)
      have R_du : RwV H0 G das n (adj es) := r_du.keep fun b o hb h => keepG b o h (n_hl k1 (rd.new b hb)) (by
        obtain ⟨j, hj⟩ := List.mem_iff_getElem?.mp hb
        exact n_fas (e2 _ _ (rd.at' _ _ hj)))
      have R_ag : RwV H3 G aas n (adj es) := r_ag.keep fun b o hb h => keepG b o h (n_hl k1 (fresh_back x3 (ra.new b hb))) (a_fas (ra.new b hb))
      have du_das := nd1
      -- told.append(0)
      refine q_app (v := .int 0) G_to (ev_var rfl) ev_c (by rw [List.length_map]; omega) fun G' e' => ?_
      have n_to : ∀ {b : Addr} {o : HO}, H5 b = some o → b ≠ to := fun h => ne_of_none h hto
      have kt : ∀ {b : Addr} {o : HO}, G b = some o → b ≠ to → upd G' to (.lst (nats (degs n es) ++ [.int 0])) b = some o := fun h nb => by
        rw [upd_ne nb]
        exact e' _ _ h
      have Z_hl := kt G_hl (n_to (x5 _ _ k1))
      have Z_hd := kt G_hd (n_to (x5 _ _ k2))
      have Z_du := kt G_du (n_to (e5 _ _ (e4 _ _ (e3 _ _ (e2 _ _ h1)))))
      have Z_co := kt G_co (n_to (e5 _ _ (e4 _ _ (e3 _ _ h2'))))
      have Z_ag := kt G_ag (n_to (e5 _ _ h4'))
      have Z_rd : RwV H0 _ das n (adj es) := R_du.keep fun b o hb h => kt h (by
        obtain ⟨j, hj⟩ := List.mem_iff_getElem?.mp hb
        exact n_to (e5 _ _ (e4 _ _ (e3 _ _ (e2 _ _ (rd.at' _ _ hj))))))
      have Z_ra : RwV H3 _ aas n (adj es) := R_ag.keep fun b o hb h => kt h (by
        obtain ⟨j, hj⟩ := List.mem_iff_getElem?.mp hb
        exact n_to (e5 _ _ (ra.at' _ _ hj)))
      have ZH : Ex H (upd G' to (.lst (nats (degs n es) ++ [.int 0]))) := (t1.trans e').mut (fresh_back (x0.trans x5) hto)
      clear kt
      generalize upd G' to (.lst (nats (degs n es) ++ [.int 0])) = Z at *
      refine ⟨.ref ag, rfl, .ref du, rfl, eqD_of (.lst Z_ag Z_ra.dts) (.lst Z_du Z_rd.dts) (sh_rows n _) (by decide) ⟨true, rfl, ?_⟩⟩
      rw [if_pos rfl]
      refine ⟨.int (n : Int), rfl, .ref a, rfl, show 2 ≤ sizeLine by decide, fun tp htp => ?_⟩
      have u1 := Ex.new (o := .tup [.int (n : Int), .ref a]) htp
      refine ⟨.ref tp, n, es, rfl, ⟨tp, a, xs, rfl, upd_same, u1 _ _ (ZH _ _ h3), h4.ex (ZH.trans u1)⟩, ok, fun Z2 d2 u2 hd2 hz2 => ?_⟩
      refine ⟨.ref co, rfl, eqD_of (natD hz2) (natD (u2 _ _ (u1 _ _ Z_co))) (sh_nats 0 _) (by decide) ⟨true, rfl, ?_⟩⟩
      rw [if_pos rfl]
      have u12 := u1.trans u2
      refine ⟨.ref hd, rfl, .ref hd, n, [], rfl, ⟨hd, hl, [], rfl, u12 _ _ Z_hd, u12 _ _ Z_hl, .nil⟩, none_forest ok, fun Z3 d3 u3 hd3 hz3 => ?_⟩
      refine ⟨show 1 ≤ sizeLine by decide, fun l0 hl0 => ?_⟩
      have u4 := Ex.new (o := .lst [.int 0]) hl0
      refine ⟨.int (n : Int), rfl, l0, (n : Int), [.int 0], rfl, rfl, upd_same, by omega, by omega, sz_of (by rw [Int.toNat_natCast]; show 1 * n ≤ _; omega), fun rp hrp => ?_⟩
      have u5 := Ex.new (o := .lst (List.replicate ((n : Int)).toNat [V.int 0]).flatten) hrp
      have er : (List.replicate ((n : Int)).toNat [V.int 0]).flatten = nats (degs n []) := by
        rw [Int.toNat_natCast, degs_none]
        unfold nats
        rw [List.map_replicate]
        exact List.flatten_replicate_singleton
      have top : upd (upd Z3 l0 (.lst [.int 0])) rp (.lst (List.replicate ((n : Int)).toNat [V.int 0]).flatten) rp = some (.lst (nats (degs n []))) := by rw [upd_same, er]
      exact eqD_of (.lst (u5 _ _ (u4 _ _ hz3)) (dts_nats _)) (.lst top (dts_nats _)) (sh_nats 0 _) (by decide) (q _ ((ZH.trans u12).trans (u3.trans (u4.trans u5))))
end
end K03
namespace K03
open PySem PySem.Spec PyProof.Rows L2 Os Evl
abbrev sLaw : Stmt := topS 25
theorem scLaw : FnScope ["script", "k", "source", "turn"] ["script"] (defScope sLaw) := ⟨rfl, rfl, rfl, by decide +kernel, rfl, by decide +kernel, by decide +kernel⟩

theorem Drew.old {s : Addr} {B : Nat} {H0 H H' : Hp} (e : Ex H0 H) (ns : H0 s = none) (d : Drew s B H H') : Ex H0 H' := fun b o h =>
  d.get (ne_of_none h ns) (e b o h)
section
variable {P : Program} {w : World} {K : PySem.W.Frag} {mg : Str → Option Value} {base : Heap}
def spLaw (K : PySem.W.Frag) : Sp := fun vs H Q _ => ∃ (a : Addr) (ns : List Int), vs = [.ref a] ∧ SqL K H a (ns.map V.int) ∧ ns.length ≤ 63 ∧ ∀ H', Q (.bl true) H'
theorem ok_law {f fS fR fT : Addr} {fd fdS fdR fdT : FuncData} {k : Nat} (F : Fun K "law" "law" sLaw f fd)
    (GS : FnOk P w K mg base CX0 k fS fdS ["script", "k"] (spSource K)) (FS : Fun K "_law_source" "_law_source" sSource fS fdS) (bS : Binds K fdS ["script", "k"] []) (gS : mg "_law_source" = some (.ref fS))
    (GR : FnOk P w K mg base CX0 k fR fdR ["source", "most"] spGraph) (FR : Fun K "_law_graph" "_law_graph" sGraph fR fdR) (bR : Binds K fdR ["source", "most"] []) (gR : mg "_law_graph" = some (.ref fR))
    (GT : FnOk P w K mg base CX0 k fT fdT ["graph"] spRight) (FT : Fun K "_law_right" "_law_right" sRight fT fdT) (bT : Binds K fdT ["graph"] []) (gT : mg "_law_right" = some (.ref fT))
    (mRange : mg "range" = none) (mMax : mg "max" = none) (mMin : mg "min" = none) (mLen : mg "len" = none) : FnG P w K mg base (k + 1) f fd ["script"] (spLaw K) := by
  refine FnG.of (F.ok scLaw (fun vs H Q E h => ?_) (fun cdv A outer s0 H vs Q E hr h => ?_))
  · obtain ⟨a, ns, rfl, _⟩ := h
    rfl
  · obtain ⟨a, ns, rfl, hS, hlen, q⟩ := h
    refine ⟨_, (pss_cons (ps_for PassesOwn.never rfl (pi_range1 (by rfl) mRange (pa_cons (pe_callB (call_max2 rfl) (by rfl) mMax boot_max (pa_cons pe_int (pa_cons (pe_callB (call_min2 rfl) (by rfl) mMin boot_min (pa_cons pe_int (pa_cons (pe_callB call_len_seq (by rfl) mLen boot_len (pa_cons (pv 0) pa_nil)) pa_nil))) pa_nil))) pa_nil)) (pg_name (i := 1) scLaw.nd rfl (Or.inl rfl))
      (pss_cons (ps_set (i := 2) scLaw.nd rfl (.inl rfl) (pe_call GS hr (by rfl) gS FS.kp bS .nil pass0 (pa_cons (pv 0) (pa_cons (pv 1) pa_nil))))
      (pss_one (ps_for PassesOwn.never rfl (pi_range1 (by rfl) mRange (pa_cons pe_int pa_nil)) (pg_name (i := 3) scLaw.nd rfl (Or.inl rfl))
      (pss_one (ps_if (pt_not (pt_val (pe_call GT hr (by rfl) gT FT.kp bT .nil pass0 (pa_cons (pe_call GR hr (by rfl) gR FR.kp bR .nil pass0 (pa_cons (pv 2) (pa_cons (pe_ix ix_list (pe_lst (pa_cons pe_int (pa_cons pe_int pa_nil))) (pe_op op_mod (pv 3) pe_int) (fun _ _ => rfl)) pa_nil))) pa_nil)))) pss_never pss_nil))))))
      (pss_one (ps_ret pe_bl))), ?_⟩
    have hlen' : (ns.map V.int).length = ns.length := List.length_map ..
    refine q_forR1 (n := if (if ((ns.map V.int).length : Int) < 4 then ((ns.map V.int).length : Int) else 4) > 1 then (if ((ns.map V.int).length : Int) < 4 then ((ns.map V.int).length : Int) else 4) else 1)
      (ea_cons (ev_max ev_c (ev_min ev_c (ev_len (ev_var rfl) hS))) ea_nil) ⟨by split <;> (try split) <;> omega, by split <;> (try split) <;> omega⟩
      (fun i σ' H' => Ex H H' ∧ i ≤ 4 ∧ ∃ y1 y2 y3, σ' = [some (.ref a), y1, y2, y3]) (fun H1 e1 => ⟨e1, by omega, _, _, _, rfl⟩) ?_ ?_
    · rintro i σ' H1 hi ⟨e1, hi4, y1, y2, y3, rfl⟩
      have hi5 : i < 4 := by
        split at hi <;> (try split at hi) <;> omega
      -- source = _law_source(script, k)
      refine ⟨.ref a, rfl, .int (i : Int), rfl, a, ns, i, rfl, ex_l e1 hS, by omega, fun H2 s e2 ns1 src => ?_⟩
      refine s_forR1 (n := 6) (ea_cons ev_c ea_nil) ⟨by decide, by decide⟩
        (fun j σ' H' => Drew s (200 * j) H2 H' ∧ j ≤ 6 ∧ ∃ y3, σ' = [some (.ref a), some (.int (i : Int)), some (.ref s), y3])
        (fun H3 e3 => ⟨((Drew.refl src).ex e3).mono (by omega), by omega, _, rfl⟩) ?_ ?_
      · rintro j σ' H3 hj ⟨d3, hj6, z3, rfl⟩
        have hj6 : j < 6 := by omega
        obtain ⟨m, hm, m1, m40⟩ : ∃ m : Nat, ([.int 6, .int 40] : List V)[j % 2]? = some (.int (m : Int)) ∧ 1 ≤ m ∧ m ≤ 40 := by
          have h2 : j % 2 < 2 := Nat.mod_lt _ (by decide)
          match j % 2, h2 with
          | 0, _ => exact ⟨6, rfl, by decide, by decide⟩
          | 1, _ => exact ⟨40, rfl, by decide, by decide⟩
        have ej : ((j : Int) % 2) = ((j % 2 : Nat) : Int) := by omega
        refine ⟨.ref s, rfl, show 2 ≤ sizeLine by decide, fun p hp => ?_⟩
        have ep := Ex.new (o := .lst [.int 6, .int 40]) hp
        have dp := d3.ex ep
        refine ⟨.int (j : Int), rfl, (j : Int), 2, rfl, rfl, (show (0 : Int) < 2 by decide), p, _, (j : Int) % 2, .int (m : Int), rfl, rfl, sq_of upd_same, by rw [ej]; exact atI_nat hm, ?_⟩
        refine ⟨s, m, 200 * j, rfl, m1, m40, dp.src, by omega, fun H4 gv n es d4 hg ok => ⟨gv, n, es, rfl, hg.ex hide_up, ok, fun H5 e5 => ⟨true, rfl, iteF ?_⟩⟩⟩
        exact ⟨((dp.trans d4).ex e5).mono (by omega), by omega, _, rfl⟩
      · rintro σ' H3 ⟨d3, _, z3, rfl⟩
        exact ⟨Drew.old (e1.trans e2) (fresh_back e1 ns1) d3, by omega, _, _, _, rfl⟩
    · rintro σ' H1 ⟨e1, _, y1, y2, y3, rfl⟩
      exact s_ret (v := .bl true) ev_c fun H2 e2 => q H2
end
end K03
namespace K03
open PySem PySem.Spec PyProof.Rows L2 Os Evl
section
variable {l : PySem.W.OpenLaw} {w : World} {K : PySem.W.Frag} {h : Heap} {mg : Str → Option Value} {fa : Addr}
/-- a def that stands at the top -/
def Def (K : PySem.W.Frag) (x : Str) (st : Stmt) (f : Addr) : Prop :=
  PySem.W.nsIn K mainGlobals x = some (some (.ref f)) ∧ (∃ (oc kV dc pm cd ct : Value) (od an : Option Addr) (sl : Array (Option Value)), K.lookup f = some ⟨oc, od, .func (PySem.W.fnOf x x (defArgs st) (defBody st) (defScope st) .none kV dc pm an cd ct), sl⟩ ∧ PySem.W.codeIn K cd x = true) ∧ PySem.W.keepIn K (.ref f) = true
theorem Def.of {x : Str} {st : Stmt} {f : Addr} {oc kV dc pm cd ct : Value} {od an : Option Addr} {sl : Array (Option Value)} (a : PySem.W.nsIn K mainGlobals x = some (some (.ref f)))
    (lk : K.lookup f = some ⟨oc, od, .func (PySem.W.fnOf x x (defArgs st) (defBody st) (defScope st) .none kV dc pm an cd ct), sl⟩) (c : PySem.W.codeIn K cd x = true) (kp : PySem.W.keepIn K (.ref f) = true) : Def K x st f :=
  ⟨a, ⟨oc, kV, dc, pm, cd, ct, od, an, sl, lk, c⟩, kp⟩
theorem Def.fun_ {x : Str} {st : Stmt} {f : Addr} (d : Def K x st f) : ∃ fd, Fun K x x st f fd := by
  obtain ⟨_, ⟨oc, kV, dc, pm, cd, ct, od, an, sl, lk, c⟩, k⟩ := d
  exact ⟨_, fun_mk lk c k⟩
theorem all_mk (X : K.In h) (G : h.Ns mainGlobals mg) (hfa : mg "law" = some (.ref fa))
    {fInt fPos fEdge fAsc fCyc fForest fChkF fChkP fLists fNb fDeg fSource fPick fShuf fGraph fSame fNear fRight fLaw : Addr} {t_MOST_POSITIONS : Tok} (n_MOST_POSITIONS : PySem.W.nsIn K mainGlobals "MOST_POSITIONS" = some (some (.int 40 t_MOST_POSITIONS)))
    (dInt : Def K "is_integer" sInt fInt)
    (dPos : Def K "is_position" sPos fPos)
    (dEdge : Def K "is_edge" sEdge fEdge)
    (dAsc : Def K "_is_ascending" sAsc fAsc)
    (dCyc : Def K "_has_cycle" sCyc fCyc)
    (dForest : Def K "is_forest" sForest fForest)
    (dChkF : Def K "check_forest" sChkF fChkF)
    (dChkP : Def K "check_position" sChkP fChkP)
    (dLists : Def K "neighbour_lists" sLists fLists)
    (dNb : Def K "neighbours" sNb fNb)
    (dDeg : Def K "degrees" sDeg fDeg)
    (dSource : Def K "_law_source" sSource fSource)
    (dPick : Def K "_law_pick" sPick fPick)
    (dShuf : Def K "_law_shuffled" sShuf fShuf)
    (dGraph : Def K "_law_graph" sGraph fGraph)
    (dSame : Def K "_law_same" sSame fSame)
    (dNear : Def K "_law_near" sNear fNear)
    (dRight : Def K "_law_right" sRight fRight)
    (aLaw : PySem.W.nsIn K mainGlobals "law" = some (some (.ref fLaw))) {oc kV dc pm cd ct : Value} {od an : Option Addr} {sl : Array (Option Value)} (lLaw : K.lookup fLaw = some ⟨oc, od, .func (PySem.W.fnOf "law" "law" (defArgs sLaw) (defBody sLaw) (defScope sLaw) .none kV dc pm an cd ct), sl⟩) (cLaw : PySem.W.codeIn K cd "law" = true) (kLaw : PySem.W.keepIn K (.ref fLaw) = true)
    (z_isinstance : PySem.W.nsIn K mainGlobals "isinstance" = some none) (z_int : PySem.W.nsIn K mainGlobals "int" = some none) (z_bool : PySem.W.nsIn K mainGlobals "bool" = some none) (z_tuple : PySem.W.nsIn K mainGlobals "tuple" = some none) (z_len : PySem.W.nsIn K mainGlobals "len" = some none) (z_list : PySem.W.nsIn K mainGlobals "list" = some none) (z_all : PySem.W.nsIn K mainGlobals "all" = some none) (z_zip : PySem.W.nsIn K mainGlobals "zip" = some none) (z_range : PySem.W.nsIn K mainGlobals "range" = some none) (z_max : PySem.W.nsIn K mainGlobals "max" = some none) (z_abs : PySem.W.nsIn K mainGlobals "abs" = some none) (z_min : PySem.W.nsIn K mainGlobals "min" = some none) (z_sorted : PySem.W.nsIn K mainGlobals "sorted" = some none) (z_str : PySem.W.nsIn K mainGlobals "str" = some none) :
    ∃ fd : FuncData, (∀ (s : Shared) (v : Value), BindsTo s fd ⟨[v], []⟩ [("script", v)]) ∧ ∀ base : Heap, K.In base → base.Ns mainGlobals mg → FnG l.prog w K mg base 8 fa fd ["script"] (spLaw K) := by
  have e := hfa.symm.trans (PySem.W.mg_of X G aLaw)
  cases e
  have none' : ∀ {x : Str}, PySem.W.nsIn K mainGlobals x = some none → mg x = none := fun z => PySem.W.mg_none_of X G z
  have ref' : ∀ {x : Str} {f : Addr}, PySem.W.nsIn K mainGlobals x = some (some (.ref f)) → mg x = some (.ref f) := fun z => PySem.W.mg_of X G z
  obtain ⟨fdInt, FInt⟩ := dInt.fun_
  obtain ⟨fdPos, FPos⟩ := dPos.fun_
  obtain ⟨fdEdge, FEdge⟩ := dEdge.fun_
  obtain ⟨fdAsc, FAsc⟩ := dAsc.fun_
  obtain ⟨fdCyc, FCyc⟩ := dCyc.fun_
  obtain ⟨fdForest, FForest⟩ := dForest.fun_
  obtain ⟨fdChkF, FChkF⟩ := dChkF.fun_
  obtain ⟨fdChkP, FChkP⟩ := dChkP.fun_
  obtain ⟨fdLists, FLists⟩ := dLists.fun_
  obtain ⟨fdNb, FNb⟩ := dNb.fun_
  obtain ⟨fdDeg, FDeg⟩ := dDeg.fun_
  obtain ⟨fdSource, FSource⟩ := dSource.fun_
  obtain ⟨fdPick, FPick⟩ := dPick.fun_
  obtain ⟨fdShuf, FShuf⟩ := dShuf.fun_
  obtain ⟨fdGraph, FGraph⟩ := dGraph.fun_
  obtain ⟨fdSame, FSame⟩ := dSame.fun_
  obtain ⟨fdNear, FNear⟩ := dNear.fun_
  obtain ⟨fdRight, FRight⟩ := dRight.fun_
  have FLaw := fun_mk (st := sLaw) lLaw cLaw kLaw
  have bInt := FInt.binds (ps := ["thing"]) fun _ _ _ _ _ _ us hl => match us, hl with | [_], _ => rfl
  have bPos := FPos.binds (ps := ["n", "thing"]) fun _ _ _ _ _ _ us hl => match us, hl with | [_, _], _ => rfl
  have bEdge := FEdge.binds (ps := ["n", "thing"]) fun _ _ _ _ _ _ us hl => match us, hl with | [_, _], _ => rfl
  have bAsc := FAsc.binds (ps := ["edges"]) fun _ _ _ _ _ _ us hl => match us, hl with | [_], _ => rfl
  have bCyc := FCyc.binds (ps := ["n", "edges"]) fun _ _ _ _ _ _ us hl => match us, hl with | [_, _], _ => rfl
  have bForest := FForest.binds (ps := ["thing"]) fun _ _ _ _ _ _ us hl => match us, hl with | [_], _ => rfl
  have bChkF := FChkF.binds (ps := ["forest"]) fun _ _ _ _ _ _ us hl => match us, hl with | [_], _ => rfl
  have bChkP := FChkP.binds (ps := ["forest", "position"]) fun _ _ _ _ _ _ us hl => match us, hl with | [_, _], _ => rfl
  have bLists := FLists.binds (ps := ["forest"]) fun _ _ _ _ _ _ us hl => match us, hl with | [_], _ => rfl
  have bNb := FNb.binds (ps := ["forest", "position"]) fun _ _ _ _ _ _ us hl => match us, hl with | [_, _], _ => rfl
  have kNb := funRevK FNb (ps := ["forest", "position"]) (ks := ["position", "forest"]) (by decide) fun _ _ _ _ _ _ us hl => match us, hl with | [_, _], _ => rfl
  have bDeg := FDeg.binds (ps := ["forest"]) fun _ _ _ _ _ _ us hl => match us, hl with | [_], _ => rfl
  have kDeg := funRevK FDeg (ps := ["forest"]) (ks := ["forest"]) (by decide) fun _ _ _ _ _ _ us hl => match us, hl with | [_], _ => rfl
  have bSource := FSource.binds (ps := ["script", "k"]) fun _ _ _ _ _ _ us hl => match us, hl with | [_, _], _ => rfl
  have bPick := FPick.binds (ps := ["source", "count"]) fun _ _ _ _ _ _ us hl => match us, hl with | [_, _], _ => rfl
  have bShuf := FShuf.binds (ps := ["source", "row"]) fun _ _ _ _ _ _ us hl => match us, hl with | [_, _], _ => rfl
  have bGraph := FGraph.binds (ps := ["source", "most"]) fun _ _ _ _ _ _ us hl => match us, hl with | [_, _], _ => rfl
  have bSame := FSame.binds (ps := ["found", "due"]) fun _ _ _ _ _ _ us hl => match us, hl with | [_, _], _ => rfl
  have bNear := FNear.binds (ps := ["graph", "here"]) fun _ _ _ _ _ _ us hl => match us, hl with | [_, _], _ => rfl
  have bRight := FRight.binds (ps := ["graph"]) fun _ _ _ _ _ _ us hl => match us, hl with | [_], _ => rfl
  refine ⟨PySem.W.fnOf "law" "law" (defArgs sLaw) (defBody sLaw) (defScope sLaw) .none kV dc pm an cd ct, fun s v => .of_eq rfl, fun base _ _ => ?_⟩
  have GInt : FnOk l.prog w K mg base CX0 1 fInt fdInt ["thing"] spInt := ok_int FInt (none' z_isinstance) (none' z_int) (none' z_bool)
  have GPos : FnOk l.prog w K mg base CX0 2 fPos fdPos ["n", "thing"] spPos := ok_pos FPos (GInt.mono (by decide)) FInt bInt (ref' dInt.1)
  have GEdge : FnOk l.prog w K mg base CX0 3 fEdge fdEdge ["n", "thing"] spEdge := ok_edge FEdge (GPos.mono (by decide)) FPos bPos (ref' dPos.1) (none' z_isinstance) (none' z_tuple) (none' z_len)
  have GAsc : FnOk l.prog w K mg base CX0 1 fAsc fdAsc ["edges"] spAsc := ok_asc FAsc (none' z_all) (none' z_zip)
  have GCyc : FnOk l.prog w K mg base CX0 1 fCyc fdCyc ["n", "edges"] spCyc := ok_cyc FCyc (none' z_list) (none' z_range)
  have GForest : FnOk l.prog w K mg base CX0 4 fForest fdForest ["thing"] spForest := ok_forest FForest (GInt.mono (by decide)) FInt bInt (ref' dInt.1) (GEdge.mono (by decide)) FEdge bEdge (ref' dEdge.1) (GAsc.mono (by decide)) FAsc bAsc (ref' dAsc.1) (GCyc.mono (by decide)) FCyc bCyc (ref' dCyc.1) (none' z_isinstance) (none' z_tuple) (none' z_len) (none' z_list) (none' z_all) (PySem.W.mg_of X G n_MOST_POSITIONS)
  have GChkF : FnOk l.prog w K mg base CX0 5 fChkF fdChkF ["forest"] spChkF := ok_chkF FChkF (GForest.mono (by decide)) FForest bForest (ref' dForest.1)
  have GChkP : FnOk l.prog w K mg base CX0 3 fChkP fdChkP ["forest", "position"] spChkP := ok_chkP FChkP (GPos.mono (by decide)) FPos bPos (ref' dPos.1)
  have GLists : FnOk l.prog w K mg base CX0 1 fLists fdLists ["forest"] spLists := ok_lists FLists (none' z_range)
  have GNb : FnOk l.prog w K mg base CX0 6 fNb fdNb ["forest", "position"] spNb := ok_nb FNb (GChkF.mono (by decide)) FChkF bChkF (ref' dChkF.1) (GChkP.mono (by decide)) FChkP bChkP (ref' dChkP.1) (GLists.mono (by decide)) FLists bLists (ref' dLists.1)
  have GDeg : FnOk l.prog w K mg base CX0 6 fDeg fdDeg ["forest"] spDeg := ok_deg FDeg (GChkF.mono (by decide)) FChkF bChkF (ref' dChkF.1) (GLists.mono (by decide)) FLists bLists (ref' dLists.1) (none' z_len)
  have GSource : FnOk l.prog w K mg base CX0 1 fSource fdSource ["script", "k"] (spSource K) := ok_source FSource (none' z_len) (none' z_max) (none' z_abs)
  have GPick : FnOk l.prog w K mg base CX0 1 fPick fdPick ["source", "count"] spPick := ok_pick FPick
  have GShuf : FnOk l.prog w K mg base CX0 2 fShuf fdShuf ["source", "row"] spShuf := ok_shuf FShuf (GPick.mono (by decide)) FPick bPick (ref' dPick.1) (none' z_list) (none' z_len) (none' z_range)
  have GGraph : FnOk l.prog w K mg base CX0 3 fGraph fdGraph ["source", "most"] spGraph := ok_graph FGraph (GPick.mono (by decide)) FPick bPick (ref' dPick.1) (GShuf.mono (by decide)) FShuf bShuf (ref' dShuf.1) (none' z_range) (none' z_list) (none' z_max) (none' z_min) (none' z_sorted)
  have GSame : FnOk l.prog w K mg base CX0 4 fSame fdSame ["found", "due"] (spSame 4) := ok_same FSame bSame (ref' dSame.1) (none' z_isinstance) (none' z_list) (none' z_tuple) (none' z_bool) (none' z_str) (none' z_len) (none' z_all) (none' z_zip) 4
  have GNear : FnOk l.prog w K mg base CX0 1 fNear fdNear ["graph", "here"] spNear := ok_near FNear (none' z_range) (none' z_min) (none' z_max)
  have GRight : FnOk l.prog w K mg base CX0 7 fRight fdRight ["graph"] spRight := ok_right FRight (GNear.mono (by decide)) FNear bNear (ref' dNear.1) (GNb.mono (by decide)) FNb bNb kNb (ref' dNb.1) (GSame.mono (by decide)) FSame bSame (ref' dSame.1) (GDeg.mono (by decide)) FDeg bDeg kDeg (ref' dDeg.1) (none' z_range) (none' z_list) (none' z_len)
  exact ok_law FLaw (GSource.mono (by decide)) FSource bSource (ref' dSource.1) (GGraph.mono (by decide)) FGraph bGraph (ref' dGraph.1) (GRight.mono (by decide)) FRight bRight (ref' dRight.1) (none' z_range) (none' z_max) (none' z_min) (none' z_len)
end
end K03
open PySem PySem.W PyProof.Rows
set_option maxHeartbeats 0 in
theorem PySem.Challenge.cw_onceswapped_k03_neighbours_and_degrees_holds : PySem.Challenge.rw_onceswapped_k03_neighbours_and_degrees.Holds := by
  w_on; o_law; k_head; (case hw => w_witness2)
  k_fill
  refine Os.walk_ofG (l := PySem.Challenge.rw_onceswapped_k03_neighbours_and_degrees) (n := 63) (k := 8) (x := "script") (sp := fun w => K03.spLaw _) rfl (by decide) rfl ⟨rfl, by decide, by decide⟩ (fun w h Y => PySem.W.kIn_of Y) ?F (fun _ _ a ns hl _ hS => ⟨a, ns, rfl, hS, hl, fun _ => rfl⟩)
  case F =>
    intro w mg fa h KX G hmg
    refine' K03.all_mk KX G hmg ?nMOST_POSITIONS ?dInt ?dPos ?dEdge ?dAsc ?dCyc ?dForest ?dChkF ?dChkP ?dLists ?dNb ?dDeg ?dSource ?dPick ?dShuf ?dGraph ?dSame ?dNear ?dRight ?a13 ?l13 ?c13 ?k13 ?zisinstance ?zint ?zbool ?ztuple ?zlen ?zlist ?zall ?zzip ?zrange ?zmax ?zabs ?zmin ?zsorted ?zstr
    (case nMOST_POSITIONS => k_is)
    (case dInt => refine' K03.Def.of ?a ?l ?c ?k; (case a => k_is); (case l => k_is); (case c => k_is); (case k => k_is))
    (case dPos => refine' K03.Def.of ?a ?l ?c ?k; (case a => k_is); (case l => k_is); (case c => k_is); (case k => k_is))
    (case dEdge => refine' K03.Def.of ?a ?l ?c ?k; (case a => k_is); (case l => k_is); (case c => k_is); (case k => k_is))
    (case dAsc => refine' K03.Def.of ?a ?l ?c ?k; (case a => k_is); (case l => k_is); (case c => k_is); (case k => k_is))
    (case dCyc => refine' K03.Def.of ?a ?l ?c ?k; (case a => k_is); (case l => k_is); (case c => k_is); (case k => k_is))
    (case dForest => refine' K03.Def.of ?a ?l ?c ?k; (case a => k_is); (case l => k_is); (case c => k_is); (case k => k_is))
    (case dChkF => refine' K03.Def.of ?a ?l ?c ?k; (case a => k_is); (case l => k_is); (case c => k_is); (case k => k_is))
    (case dChkP => refine' K03.Def.of ?a ?l ?c ?k; (case a => k_is); (case l => k_is); (case c => k_is); (case k => k_is))
    (case dLists => refine' K03.Def.of ?a ?l ?c ?k; (case a => k_is); (case l => k_is); (case c => k_is); (case k => k_is))
    (case dNb => refine' K03.Def.of ?a ?l ?c ?k; (case a => k_is); (case l => k_is); (case c => k_is); (case k => k_is))
    (case dDeg => refine' K03.Def.of ?a ?l ?c ?k; (case a => k_is); (case l => k_is); (case c => k_is); (case k => k_is))
    (case dSource => refine' K03.Def.of ?a ?l ?c ?k; (case a => k_is); (case l => k_is); (case c => k_is); (case k => k_is))
    (case dPick => refine' K03.Def.of ?a ?l ?c ?k; (case a => k_is); (case l => k_is); (case c => k_is); (case k => k_is))
    (case dShuf => refine' K03.Def.of ?a ?l ?c ?k; (case a => k_is); (case l => k_is); (case c => k_is); (case k => k_is))
    (case dGraph => refine' K03.Def.of ?a ?l ?c ?k; (case a => k_is); (case l => k_is); (case c => k_is); (case k => k_is))
    (case dSame => refine' K03.Def.of ?a ?l ?c ?k; (case a => k_is); (case l => k_is); (case c => k_is); (case k => k_is))
    (case dNear => refine' K03.Def.of ?a ?l ?c ?k; (case a => k_is); (case l => k_is); (case c => k_is); (case k => k_is))
    (case dRight => refine' K03.Def.of ?a ?l ?c ?k; (case a => k_is); (case l => k_is); (case c => k_is); (case k => k_is))
    (case a13 => k_is); (case l13 => k_is); (case c13 => k_is); (case k13 => k_is)
    (case zisinstance => k_is); (case zint => k_is); (case zbool => k_is); (case ztuple => k_is); (case zlen => k_is); (case zlist => k_is); (case zall => k_is); (case zzip => k_is); (case zrange => k_is); (case zmax => k_is); (case zabs => k_is); (case zmin => k_is); (case zsorted => k_is); (case zstr => k_is)
