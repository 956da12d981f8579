import PyProof.Rows.All
import Wide.All
import OpenK.AllK
import Wide.FinOn
import HandS.ForMost
import HandS.Wide
import HandS.IsInst
import HandS.Strs
import PyProof.ReprRoads
import PyProof.StrBlock2
import HandS.Evl
import HandS.Walk
import PyProof.StrLawsRepr
import PyProof.Rows.StrCase
import HandS.Style
import PySem.Challenge.RW_onceswapped_k07_arrangements_recognized
set_option Elab.async false
set_option linter.all false
set_option maxRecDepth 100000
set_option maxHeartbeats 8000000
/-! guarded defs: a def's promise where no repr is under way (what repr of a list asks) -/
namespace Os
open PySem PySem.Spec PyProof.Rows L2

section
variable (P : Program) (w : World) (K : PySem.W.Frag) (mg : Str → Option Value) (base : Heap)
/-- the def at f keeps sp at every call that is made while no repr runs -/
structure FnG (k : Nat) (f : Addr) (fd : FuncData) (ps : List Str) (sp : Sp) : Prop where
  arity : ∀ vs H Q E, sp vs H Q E → vs.length = ps.length
  runs : ∀ (B : Around) (out : List Env) (st : Shared) (H : Hp) (ar : Args) (us : List Value) (vs : List V) (Q : VK) (E : XK),
    B.guards = some [] → Room k B → Env0 P w K mg base B out st H →
    BindsTo st fd ar (ps.zip us) → Vals vs us → sp vs H Q E →
    codeAny (model P w) B (.call (.ref f) ar) (CR CX0 out P w H st Q E) st
end

section
variable {P : Program} {w : World} {K : PySem.W.Frag} {mg : Str → Option Value} {base : Heap}

theorem FnG.of {k : Nat} {f : Addr} {fd : FuncData} {ps : List Str} {sp : Sp}
    (F : FnOk P w K mg base CX0 k f fd ps sp) : FnG P w K mg base k f fd ps sp :=
  ⟨F.len, fun B out st H ar us vs Q E _ => F.run B out st H ar us vs Q E⟩

theorem FnG.mono {j k : Nat} {f : Addr} {fd : FuncData} {ps : List Str} {sp : Sp} (F : FnG P w K mg base j f fd ps sp) (h : j ≤ k) : FnG P w K mg base k f fd ps sp :=
  ⟨F.arity, fun B out st H ar us vs Q E gd hr => F.runs B out st H ar us vs Q E gd (hr.mono h)⟩
/-- the rule for a def, the guards told to its body -/
theorem okG {x qual : Str} {st : Stmt} {f : Addr} {fd : FuncData} {N ps : List Str} {k : Nat} {sp : Sp}
    (F : Fun K x qual st f fd) (S : FnScope N ps (defScope st))
    (ar : ∀ vs H Q E, sp vs H Q E → vs.length = ps.length)
    (body : ∀ (cdv : Value) (B : Around) (out : List Env) (s : Shared) (H : Hp) (vs : List V) (Q : VK) (E : XK),
      B.guards = some [] → Room k (B.deeper (envOfC qual (defScope st) s.heap.objs.size f cdv)) → sp vs H Q E →
      ∃ t, PSs (cxOf CX0 P w K mg base N qual (defScope st) f cdv B out s H E).nox (defBody st) t ∧
        t { nx := fun _ H' => Q .non H', rt := Q } (start N vs) H) :
    FnG P w K mg base (k + 1) f fd ps sp := by
  obtain ⟨oc, od, kV, doc, pm, an, cd, ct, sl, efd, look, code⟩ := F.ex
  subst efd
  refine ⟨ar, ?_⟩
  intro B out s H args us vs Q E gd hr e0 hb rel hsp
  have hlen := ar _ _ _ _ hsp
  have inK : K.In s.heap := e0.mod.kin.keeps fun b o q => (e0.bs b o q).1
  have lim : s.heap.NoLimit :=
    e0.mod.nolimit.keeps fun b o q => (e0.bs b o q).1
  have kinds : ∀ y ∈ ps.zip us, (defScope st).names.lookup y.1 = some .local ∨
      ((defScope st).names.lookup y.1 = some .cell ∧ ((cellsFrom (s.heap.objs.size + 1) (defScope st).names []).lookup y.1).isSome = true) := by
    rintro ⟨n, v⟩ hy
    cases S.par n (List.of_mem_zip hy).1 with
    | inl q => exact .inl q
    | inr q => exact .inr ⟨q, PySem.W.cellsFrom_some _ _ _ (.inl q)⟩
  refine codeAny_call_function hr.depth (inK _ _ look) rfl S.co S.gen rfl (PySem.W.codeRec_of inK code) (hb _ _ _ _ ?_)
  refine wpAny_newFunctionEnv_cells S.kind kinds fun env ee s1 x => ?_
  cases ee
  refine ⟨lim.keeps x.toInCall.keep, codeAny_func ?_⟩
  obtain ⟨t, ht, hq⟩ := body cd B out s H vs Q E gd (hr.deeper _) hsp
  have I := inv_start (CX := CX0) (E := E) S hr.hd e0 hlen rel x
  refine wpAny_mono (ht.nox.run [] s1 (start N vs) H _ I hq) (fun fl s' hs => ?_) (fun _ _ z => z)
  cases fl with
  | ret u =>
    obtain ⟨v, sg, H', J, rv, q⟩ := hs
    exact ⟨v, H', J.os, J.bare, J.base, J.hok, rv, q⟩
  | next =>
    obtain ⟨sg, H', J, q⟩ := hs
    exact ⟨V.non, H', J.os, J.bare, J.base, J.hok, rfl, q⟩
  | brk => exact (hs.elim fun _ z => z.elim fun _ z => z.2).elim
  | cont => exact (hs.elim fun _ z => z.elim fun _ z => z.2).elim
end

section
variable {X : Cx} {k : Nat} {f : Addr} {fd : FuncData} {ps : List Str} {sp : Sp} {x : Str} {p pos : Pos} {e : Expr} {es : List Expr} {t : TA}
/-- a call of such a def -/
theorem pe_callG (F : FnG X.prog X.w X.K X.mg X.base k f fd ps sp) (gd : X.A.guards = some []) (hr : Room k X.A) (hg : Gl X x)
    (hm : X.mg x = some (.ref f)) (hk : PySem.W.keepIn X.K (.ref f) = true) (hb : Binds X.K fd ps [])
    (ha : PA X (e :: es) t) (hdb : (x == ("__debug__" : Str)) = false := by decide)
    (he : starEach (e :: es) X.env = (false, eval e X.env) :: starEach es X.env := by rfl)
    (hpl : (backTo pos (starEach es X.env)).any (·.1) = false := by rfl) :
    PE X (.Call (.Name x p) (e :: es) [] pos) (tCall sp [] E0 t) := by
  constructor
  intro pins s sg H Q I h
  refine wpAny_Call_Name_kw (ld_glob I hg hm ?_ hdb)
  refine PySem.W.callWith_K (h₀ := X.base) I.ok.mod.kin hk (thn (ha.run pos pins s sg H _ I h) ?_) he hpl
  rintro us s1 ⟨vs, H1, I1, r, q⟩
  refine ⟨I1.kIn, ?_⟩
  have r2 : Vals (vs ++ []) (us ++ []) := r.append .nil
  have hl : (us ++ []).length = ps.length := by
    rw [← r2.length]
    exact F.arity _ _ _ _ q
  refine wpAny_call (codeAny_mono (F.runs X.A X.stack s1 H1 ⟨us, []⟩ (us ++ []) (vs ++ []) Q E0 gd hr I1.env0 (hb s1 us I1.kIn hl) r2 q) ?_)
  intro rr s' hq
  match rr, hq with
  | .ok (.ret u), hq => exact I1.after hq
  | .ok .next, hq => exact hq.elim
  | .ok .brk, hq => exact hq.elim
  | .ok .cont, hq => exact hq.elim
  | .error _, hq => exact hq.elim
end

section
variable {P : Program} {w : World} {K : PySem.W.Frag} {mg mb : Str → Option Value} {k : Nat} {fa a : Addr} {fd : FuncData} {x : Str} {sp : Sp} {s1 : Shared} {vs : List Value} {ns : List Int}
/-- the heap that tracks at most the script -/
structure Bare (K : PySem.W.Frag) (a : Addr) (o : Obj) (h : Heap) (H : Hp) : Prop where
  only : Only H
  at' : ∀ b, H b ≠ none → b = a
  out : H a ≠ none → K.lookup a = none
theorem Bare.stay {o : Obj} {h : Heap} {H : Hp} (B : Bare K a o h H) (ho : h.get? a = some o) {b : Addr} {q : Obj} (e : h.get? b = some q) (no : b = a → q ≠ o) : H b = none :=
  Decidable.byContradiction fun z => by
    have eb := B.at' b z
    rw [eb, ho] at e
    exact no eb (Option.some.inj e).symm
theorem law_run (KX : K.In s1.heap) (hns : s1.heap.Ns mainGlobals mg) (hb : s1.heap.Ns builtinsNs mb)
    (hbb : ∀ x : Str, x ≠ "__name__" → mb x = bootBuiltins x) (hlim : s1.heap.NoLimit) (hg : s1.gens = #[])
    (ha : s1.heap.get? a = some { cls := .type "list", data := .seq vs.toArray }) {H : Hp} (B : Bare K a { cls := .type "list", data := .seq vs.toArray } s1.heap H)
    (ok : HOk P w H s1.heap) (hr : Room k callerA)
    (F : ∀ base : Heap, K.In base → base.Ns mainGlobals mg → FnG P w K mg base k fa fd [x] sp)
    (hbind : ∀ (s : Shared) (u : Value), BindsTo s fd ⟨[u], []⟩ [(x, u)])
    (hsp : sp [.ref a] H (fun v _ => v = .bl true) fun _ _ _ => False) :
    codeAny (model P w) callerA (.call (.ref fa) ⟨[.ref a], []⟩)
      (fun r s' => r = .ok (.ret (.bool true)) ∧ OldK s1.heap s'.heap ∧ s'.os = s1.os ∧ AllBare s'.gens) s1 := by
  have dictStays : ∀ {b : Addr} {m : Str → Option Value}, s1.heap.Ns b m → (hidT s1.heap H).Ns b m := by
    rintro b m ⟨o, es, ep, e, d, r⟩
    refine ⟨o, es, ep, hidT_get e (B.stay ha e fun _ z => ?_), d, r⟩
    subst z
    exact nomatch (show Data.seq vs.toArray _ = Data.dict es ep from d)
  have keptK : K.In (hidT s1.heap H) := fun b o e => hidT_get (KX b o e) <| Decidable.byContradiction fun z => by
    have eb := B.at' b z
    subst eb
    have := B.out z
    rw [e] at this
    cases this
  have M : Mod K mg (hidT s1.heap H) := by
    obtain ⟨mc, h1, h2⟩ := hlim
    exact ⟨keptK, dictStays hns, ⟨mb, dictStays hb, hbb⟩, ⟨mc, dictStays h1, h2⟩⟩
  have e0 : Env0 P w K mg (hidT s1.heap H) callerA [] s1 H := {
    frames := rfl, mod := M, bs := fun b o e => of_hidT e, bsz := Nat.le_of_eq (hidT_size _ _), funs := trivial,
    frf := fun b z => absurd (show b ∈ ([] : List Addr) from z) (by simp), hok := ok, bare := .of_eq hg }
  refine codeAny_mono ((F _ keptK (dictStays hns)).runs callerA [] s1 H ⟨[.ref a], []⟩ [.ref a] [.ref a] _ _ rfl hr e0 (hbind s1 (.ref a)) (.cons rfl .nil) hsp) ?_
  intro r s' hq
  match r, hq with
  | .error _, hq => exact hq.elim
  | .ok .next, hq => exact hq.elim
  | .ok .brk, hq => exact hq.elim
  | .ok .cont, hq => exact hq.elim
  | .ok (.ret u), ⟨v, H', os, bare, un, ok', r', q⟩ =>
    have q1 : v = .bl true := q
    subst q1
    have ru : u = Value.bool true := r'
    subst ru
    refine ⟨rfl, OldK.of_keep fun b o e => ?_, os, bare⟩
    rcases B.only b with z | ⟨ob, xs, z⟩
    · exact un.keep b o e z (fun y => absurd (show b ∈ ([] : List Addr) from y) (by simp)) (by simp)
    · have e1 := (ok b _ z).1
      have e2 := (ok' b _ (un.frzs b ob _ z)).1
      rw [e] at e1
      rw [e2, e1]
theorem law_callG (KX : K.In s1.heap) (hns : s1.heap.Ns mainGlobals mg) (hb : s1.heap.Ns builtinsNs mb)
    (hbb : ∀ x : Str, x ≠ "__name__" → mb x = bootBuiltins x) (hlim : s1.heap.NoLimit) (hg : s1.gens = #[])
    (ha : s1.heap.get? a = some { cls := .type "list", data := .seq vs.toArray }) (hi : IntsAre vs ns) (hl : ns.length ≤ sizeLine) (hr : Room k callerA)
    (F : ∀ base : Heap, K.In base → base.Ns mainGlobals mg → FnG P w K mg base k fa fd [x] sp)
    (hbind : ∀ (s : Shared) (u : Value), BindsTo s fd ⟨[u], []⟩ [(x, u)])
    (hsp : ∀ H : Hp, Only H → SqL K H a (ns.map V.int) → sp [.ref a] H (fun v _ => v = .bl true) fun _ _ _ => False) :
    codeAny (model P w) callerA (.call (.ref fa) ⟨[.ref a], []⟩)
      (fun r s' => r = .ok (.ret (.bool true)) ∧ OldK s1.heap s'.heap ∧ s'.os = s1.os ∧ AllBare s'.gens) s1 := by
  have rv : Vals (ns.map V.int) vs := vals_ints hi
  have hlen : vs.length = ns.length := hi.length
  by_cases hk : ∃ o, K.lookup a = some o
  · obtain ⟨o, hk⟩ := hk
    have e := KX a o hk
    rw [ha] at e
    have eo := Option.some.inj e
    subst eo
    have hO : Only (fun _ => none) := fun _ => .inl rfl
    refine law_run KX hns hb hbb hlim hg ha (H := fun _ => none) ⟨hO, fun b z => absurd rfl z, fun z => absurd rfl z⟩ (fun b u z => nomatch (show (none : Option HO) = some u from z)) hr F hbind (hsp _ hO ?_)
    exact .inr ⟨_, vs.toArray, _, hk, rfl, rfl, rfl, by rw [List.size_toArray, hlen]; exact hl, by simpa using rv⟩
  · have hk0 : K.lookup a = none := Option.eq_none_iff_forall_ne_some.mpr fun o q => hk ⟨o, q⟩
    let H1 : Hp := upd (fun _ => none) a (.frz { cls := .type "list", data := .seq vs.toArray } (.lst (ns.map V.int)))
    have at1 : ∀ b, H1 b ≠ none → b = a := fun b z => Decidable.byContradiction fun n => z (upd_ne n)
    have hO : Only H1 := fun b => by
      by_cases n : b = a
      · exact .inr ⟨_, _, by rw [n]; exact upd_same⟩
      · exact .inl (upd_ne n)
    refine law_run KX hns hb hbb hlim hg ha (H := H1) ⟨hO, at1, fun _ => hk0⟩ (fun b u z => ?_) hr F hbind (hsp _ hO (.inl (.inr ⟨_, upd_same⟩)))
    have eb := at1 b (by rw [z]; exact fun q => nomatch q)
    subst eb
    have z2 : some (HO.frz { cls := .type "list", data := .seq vs.toArray } (.lst (ns.map V.int))) = some u := upd_same.symm.trans z
    cases z2
    exact ⟨ha, by rw [List.length_map]; exact hl, vs, _, rv, ha⟩

/-- the goal that k_head leaves, from the law's guarded promise -/
theorem walk_ofG {l : PySem.W.OpenLaw} {n k : Nat} {q : Program} {loose : List Str} {XP : (Str → Option Value) → Heap → Prop} {YP : World → Heap → Prop}
    {d : DefRec} {K : Params → PySem.W.Frag} {sp : World → Sp} {x : Str}
    (hn : l.most = some n) (hn2 : n ≤ sizeLine) (hdf : d.params.defaults = []) (hr : Room k callerA)
    (hY : ∀ (w : World) (h : Heap), YP w h → (K w.params).In h)
    (F : ∀ (w : World) (mg : Str → Option Value) (fa : Addr) (h : Heap), (K w.params).In h → h.Ns mainGlobals mg → mg d.name = some (.ref fa) →
      ∃ fd : FuncData, (∀ (s : Shared) (u : Value), BindsTo s fd ⟨[u], []⟩ [(x, u)]) ∧
        ∀ base : Heap, (K w.params).In base → base.Ns mainGlobals mg → FnG l.prog w (K w.params) mg base k fa fd [x] (sp w))
    (hsp : ∀ (w : World) (H : Hp) (a : Addr) (ns : List Int), ns.length ≤ n → Only H → SqL (K w.params) H a (ns.map V.int) →
      sp w [.ref a] H (fun v _ => v = .bl true) fun _ _ _ => False) :
    PySem.W.WalkO q loose XP YP l.row.toRowW d [] (fun f vs => PySem.call f vs) :=
  Att.attach_call hn hdf fun w s₀ s₁ mg mb fa o pm cd doc a vs ns G Y ho hd hcd hmg hobj hints hlen hg =>
    have KX := hY w _ Y
    match F w mg fa _ KX G.T.g hmg with
    | ⟨_, hb, hF⟩ => law_callG KX G.T.g G.T.b G.T.builtins G.T.nolimit hg hobj hints (Nat.le_trans hlen hn2) hr hF hb
        (fun H hO hS => hsp w H a ns hlen hO hS)
end

/-! ### a call by keywords alone, in the opposite order of the parameters -/
def revG (us ws : List Value) : List Value := match us with
  | [] => ws.reverse
  | _ => []
def revV (us ws : List V) : List V := match us with
  | [] => ws.reverse
  | _ => []
theorem Vals.rev : ∀ {vs : List V} {us : List Value}, Vals vs us → Vals vs.reverse us.reverse
  | _, _, .nil => .nil
  | _, _, .cons r t => by
    rw [List.reverse_cons, List.reverse_cons]
    exact Vals.append (Vals.rev t) (.cons r .nil)
theorem revK {K : PySem.W.Frag} {fd : FuncData} {ps ks : List Str} (hp : ps ≠ []) (h : ∀ ws : List Value, ws.length = ps.length → bindArgs fd ⟨[], ks.zip ws⟩ = pure (ps.zip ws.reverse)) : KBinds K fd ps ks revG revV where
  to := fun s us ws _ hl => by
    cases us with
    | nil => exact .of_eq (h ws (by rw [← hl]; exact (List.length_reverse).symm))
    | cons u us =>
      have hl' : ([] : List Value).length = ps.length := hl
      exact absurd (List.length_eq_zero_iff.mp hl'.symm) hp
  rel := fun {vs us zs ws} r1 r2 => by
    cases r1 with
    | nil => exact Vals.rev r2
    | cons _ _ => exact .nil
theorem funRevK {K : PySem.W.Frag} {x qual : Str} {st : Stmt} {f : Addr} {fd : FuncData} {ps ks : List Str} (F : Fun K x qual st f fd) (hp : ps ≠ [])
    (h : ∀ (kV doc pm : Value) (an : Option Addr) (cdv ct : Value) (ws : List Value), ws.length = ps.length →
      bindArgs (PySem.W.fnOf x qual (defArgs st) (defBody st) (defScope st) .none kV doc pm an cdv ct) ⟨[], ks.zip ws⟩ = pure (ps.zip ws.reverse)) : KBinds K fd ps ks revG revV := by
  obtain ⟨oc, od, kV, doc, pm, an, cd, ct, sl, efd, look, code⟩ := F.ex
  subst efd
  exact revK hp (h kV doc pm an cd ct)
section
variable {X : Cx} {CX : CXT} {k : Nat} {f : Addr} {fd : FuncData} {ps ks : List Str} {sp : Sp} {E : XK} {x : Str} {p pos : Pos} {kws : List Keyword} {tk : TA} {g : List Value → List Value → List Value} {gV : List V → List V → List V}
theorem pe_callK0 (F : FnOk X.prog X.w X.K X.mg X.base CX k f fd ps sp) (hr : Room k X.A) (hg : Gl X x) (hm : X.mg x = some (.ref f)) (hk : PySem.W.keepIn X.K (.ref f) = true)
    (hb : KBinds X.K fd ps ks g gV) (hx : Passes CX X E) (hkw : PK X kws tk)
    (hall : (backToKw pos (keywordEach kws X.env)).all (·.1.isSome) = true := by rfl)
    (hks : (backToKw pos (keywordEach kws X.env)).filterMap (·.1) = ks := by rfl)
    (hdb : (x == ("__debug__" : Str)) = false := by decide)
    (hpl : ((backTo pos (starEach [] X.env)).any (·.1) || (backToKw pos (keywordEach kws X.env)).any (·.1.isNone)) = false := by rfl) :
    PE X (.Call (.Name x p) [] kws pos) (tCallK sp gV E tNil tk) := by
  constructor
  intro pins s sg H Q I h
  refine wpAny_Call_Name_kw (ld_glob I hg hm ?_ hdb)
  refine PySem.W.callWith_KW0 (h₀ := X.base) I.ok.mod.kin hk hall (thn (hkw.run pos pins s sg H _ I h) ?_) hpl
  rintro ws s2 ⟨zs, H2, I2, rz, q2⟩
  refine ⟨I2.kIn, ?_⟩
  rw [hks]
  exact run_fnk (us := []) (vs := []) F hr hb hx I2 .nil rz q2
end
end Os
/-! further rules by values: ** of great ints, repr of data, len(set(texts)), text * int, a call by keywords alone -/
namespace Os
open PySem PySem.Spec PyProof.Rows L2

/-! ### great powers -/
section
variable {X : Cx}
theorem op_powW : OpR X (binaryOp .Pow) (rI (fun i j => 0 ≤ j ∧ (Builtin.Int.intBits i : Int) * j ≤ 2 ^ 27) fun i j => .int (i ^ j.toNat)) :=
  opI fun _ _ _ _ _ _ _ hc q => pow_int hc.1 hc.2 q
end
theorem cube_ok {i : Int} {n : Nat} (h : i.natAbs < 2 ^ n) (h0 : 0 < n) (hn : n ≤ 1000000) : (0 : Int) ≤ 3 ∧ (Builtin.Int.intBits i : Int) * 3 ≤ 2 ^ 27 := by
  have hl := PySem.Flt.log2_lt_of h0 h
  have hb : Builtin.Int.intBits i ≤ i.natAbs.log2 + 1 := by
    unfold Builtin.Int.intBits
    split <;> omega
  omega

/-! ### text * int -/
section
variable {X : Cx}
def rMulS : R2 := fun x y H Q => ∃ (z : Str) (n : Int), x = .str z ∧ y = .int n ∧ MulOk z n ∧ Q (.str (Txt.mul z n)) H
theorem op_mulS : OpR X (binaryOp .Mult) rMulS := by
  intro pins s sg H x y v u Q I rx ry h
  obtain ⟨z, n, rfl, rfl, ok, q⟩ := h
  obtain ⟨t, rfl⟩ := rx
  obtain ⟨t', rfl⟩ := ry
  exact PySem.SB.mul ok fun t2 k => ⟨.str _, H, I.tok _, ⟨_, rfl⟩, q⟩
theorem mul_small {z : Str} {n : Int} (h0 : 0 ≤ n) (h1 : n ≤ 1000) (hz : z.length ≤ 1000) : MulOk z n := by
  refine ⟨?_, fun h _ => ?_, fun h _ => ?_⟩
  · rw [decide_eq_false (by omega), decide_eq_false (by omega)]
    rfl
  · have hn : 0 < n := by omega
    have : (1000 : Int) ≤ (2 ^ 63 - 1) / n := (Int.le_ediv_iff_mul_le hn).mpr (by omega)
    omega
  · have hm : z.length * n.toNat ≤ 1000 * 1000 := Nat.mul_le_mul hz (by omega)
    unfold Builtin.Str.tooLong
    have hl : (1000 * 1000 : Nat) ≤ sizeLine := by decide
    simp only [decide_eq_false_iff_not]
    omega
end

/-! ### data that stands in the tracked heap -/
mutual
inductive Dt (H : Hp) : V → PyData → Prop
  | non : Dt H .non .none
  | bl (b : Bool) : Dt H (.bl b) (.bool b)
  | int (i : Int) : Dt H (.int i) (.int i)
  | str (x : Str) : Dt H (.str x) (.str x)
  | lst {a : Addr} {xs : List V} {ds : List PyData} : H a = some (.lst xs) → Dts H xs ds → Dt H (.ref a) (.list ds)
  | tup {a : Addr} {xs : List V} {ds : List PyData} : H a = some (.tup xs) → Dts H xs ds → Dt H (.ref a) (.tuple ds)
inductive Dts (H : Hp) : List V → List PyData → Prop
  | nil : Dts H [] []
  | cons {v : V} {vs : List V} {d : PyData} {ds : List PyData} : Dt H v d → Dts H vs ds → Dts H (v :: vs) (d :: ds)
end
section
variable {H H' : Hp}
mutual
theorem Dt.same (e : Same H H') : ∀ {d : PyData} {v : V}, Dt H v d → Dt H' v d
  | _, _, .non => .non
  | _, _, .bl b => .bl b
  | _, _, .int i => .int i
  | _, _, .str x => .str x
  | _, _, .lst h t => .lst (e _ _ h) (Dts.same e t)
  | _, _, .tup h t => .tup (e _ _ h) (Dts.same e t)
theorem Dts.same (e : Same H H') : ∀ {ds : List PyData} {vs : List V}, Dts H vs ds → Dts H' vs ds
  | _, _, .nil => .nil
  | _, _, .cons h t => .cons (Dt.same e h) (Dts.same e t)
end
mutual
theorem Dt.dp {K : PySem.W.Frag} : ∀ {d : PyData} {v : V}, Dt H v d → Dp K H v d
  | _, _, .non => .non
  | _, _, .bl b => .bl b
  | _, _, .int i => .int i
  | _, _, .str x => .str x
  | _, _, .lst h t => .lst (.inl (.inl h)) (Dts.dp t)
  | _, _, .tup h t => .tup (.inl (.inl h)) (Dts.dp t)
theorem Dts.dp {K : PySem.W.Frag} : ∀ {ds : List PyData} {vs : List V}, Dts H vs ds → DpAll K H vs ds
  | _, _, .nil => .nil
  | _, _, .cons h t => .cons (Dt.dp h) (Dts.dp t)
end
theorem Dts.length : ∀ {ds : List PyData} {vs : List V}, Dts H vs ds → vs.length = ds.length
  | _, _, .nil => rfl
  | _, _, .cons _ t => congrArg (· + 1) (Dts.length t)
theorem Dts.get : ∀ {ds : List PyData} {vs : List V} {i : Nat} {v : V}, Dts H vs ds → vs[i]? = some v → ∃ d, ds[i]? = some d ∧ Dt H v d
  | _, _, _, _, .nil, e => by simp at e
  | _, _, 0, _, .cons h _, e => by simp at e; subst e; exact ⟨_, rfl, h⟩
  | _, _, i + 1, v, .cons _ t, e => by
    obtain ⟨d, h1, h2⟩ := Dts.get (i := i) (v := v) t (by simpa using e)
    exact ⟨d, by simpa using h1, h2⟩
end

/-! ### repr of such data -/
section
variable {X : Cx}
/-- how large data is when it is shown -/
structure Fit (n : Nat) (d : PyData) : Prop where
  long : d.shown.length ≤ n
  deep : d.depth ≤ 40
  show' : d.showable = true
  flat : d.hasDict = false
def rRepr : List V → Hp → VK → Prop := fun xs H Q => ∃ (x : V) (d : PyData), xs = [x] ∧ Dt H x d ∧ Fit sizeLine d ∧ Q (.str d.shown) H
theorem call_repr (gd : X.A.guards = some []) (hu : X.A.units + 64 < cLine) : CallR X (.builtin "repr") rRepr := by
  intro pins s sg H xs us Q I r h
  obtain ⟨x, d, e, hd, fit, q⟩ := h
  subst e
  obtain ⟨u, rfl, ru⟩ := Vals.one r
  have line : d.shown.length ≤ sizeLine := fit.long
  match d, x, hd with
  | _, _, .non =>
    cases ru
    exact PySem.P.repr_of_none ⟨.str _, H, I.tok _, ⟨_, rfl⟩, by simpa only [PyData.shown] using q⟩
  | _, _, .bl b =>
    cases ru
    exact PySem.P.repr_of_bool ⟨.str _, H, I.tok _, ⟨_, rfl⟩, by simpa only [PyData.shown] using q⟩
  | _, _, .int i =>
    obtain ⟨t, rfl⟩ := ru
    have hz : i.natAbs.log2 < 1920 := of_decide_eq_true (by simpa only [PyData.showable] using fit.show')
    exact PySem.P.repr_of_int hz ⟨.str _, H, I.tok _, ⟨_, rfl⟩, by simpa only [PyData.shown] using q⟩
  | _, _, .str z =>
    obtain ⟨t, rfl⟩ := ru
    exact PySem.P.repr_of_str ⟨.str _, H, I.tok _, ⟨_, rfl⟩, by simpa only [PyData.shown] using q⟩ (by simpa only [PyData.shown] using line)
  | _, _, .lst ha ht =>
    obtain ⟨as, rd⟩ := Dp.reads I _ _ u (Dt.dp (.lst ha ht)) ru
    cases ru
    refine PySem.repr_of_reads' rd fit.show' (PyData.noDict_hsm fit.flat) gd (by have := fit.deep; omega) (fun _ _ z => z) (fun h' u' tk k => ?_) line
    exact ⟨.str _, H, I.kept k, ⟨_, rfl⟩, q⟩
  | _, _, .tup ha ht =>
    obtain ⟨as, rd⟩ := Dp.reads I _ _ u (Dt.dp (.tup ha ht)) ru
    cases ru
    refine PySem.repr_of_reads' rd fit.show' (PyData.noDict_hsm fit.flat) gd (by have := fit.deep; omega) (fun _ _ z => z) (fun h' u' tk k => ?_) line
    exact ⟨.str _, H, I.kept k, ⟨_, rfl⟩, q⟩
end
end Os
/-! len(set(xs)), xs a list of texts of any number below 4000 -/
namespace Os
open PySem PySem.Spec PyProof.Rows L2

/-- the texts met so far, each once -/
def once : List Str → List Str
  | [] => []
  | x :: r => if x ∈ once r then once r else x :: once r
/-- the same from the left, over the first i of them -/
def met (xs : List Str) (i : Nat) : List Str := once (xs.take i).reverse
theorem met_zero (xs : List Str) : met xs 0 = [] := rfl
theorem met_succ {xs : List Str} {i : Nat} {x : Str} (h : xs[i]? = some x) : met xs (i + 1) = if x ∈ met xs i then met xs i else x :: met xs i := by
  unfold met
  rw [List.take_add_one, h]
  show once ((xs.take i ++ [x]).reverse) = _
  rw [List.reverse_append]
  rfl
theorem once_mem : ∀ {l : List Str} {x : Str}, x ∈ once l ↔ x ∈ l
  | [], _ => Iff.rfl
  | y :: r, x => by
    have ih := @once_mem r
    unfold once
    split
    · rename_i hy
      rw [ih, List.mem_cons]
      exact ⟨.inr, fun z => z.elim (fun e => by rw [e]; exact ih.mp hy) id⟩
    · rw [List.mem_cons, List.mem_cons, ih]
theorem once_le : ∀ l : List Str, (once l).length ≤ l.length
  | [] => Nat.le_refl _
  | y :: r => by
    have ih := once_le r
    unfold once
    split
    · exact Nat.le_succ_of_le ih
    · exact Nat.succ_le_succ ih
theorem once_nodup : ∀ l : List Str, (once l).length = l.length ↔ l.Nodup
  | [] => ⟨fun _ => .nil, fun _ => rfl⟩
  | y :: r => by
    have ih := once_nodup r
    have le := once_le r
    unfold once
    rw [List.nodup_cons]
    split
    · rename_i hy
      constructor
      · intro e
        rw [List.length_cons] at e
        omega
      · intro e
        exact absurd (once_mem.mp hy) e.1
    · rename_i hy
      rw [List.length_cons, List.length_cons]
      constructor
      · intro e
        exact ⟨fun z => hy (once_mem.mpr z), ih.mp (Nat.succ.inj e)⟩
      · intro e
        rw [ih.mpr e.2]
theorem met_le (xs : List Str) (i : Nat) : (met xs i).length ≤ i := by
  refine Nat.le_trans (once_le _) ?_
  rw [List.length_reverse, List.length_take]
  exact Nat.min_le_left _ _
theorem met_all (xs : List Str) : (met xs xs.length).length = xs.length ↔ xs.Nodup := by
  unfold met
  rw [List.take_length]
  have := once_nodup xs.reverse
  rw [List.length_reverse] at this
  rw [this]
  unfold List.Nodup
  rw [List.pairwise_reverse]
  exact ⟨fun h => h.imp fun a => a.symm, fun h => h.imp fun a => a.symm⟩

section
variable {prog : Program} {w : World} {A : Around} {R : Result → Shared → Prop} {I : Addr} {fp wr : List Addr} {G : Array GenState → Array GenState → Prop} {n : Nat} {P : Nat → Value → Prop} {St : Nat → Shared → Prop}
/-- what the set at S holds behind i turns -/
abbrev Holds (prog : Program) (w : World) (xs : List Str) (S : Addr) (i : Nat) (h : Heap) : Prop :=
  h.SetOf (PySem.strKind prog w) S (fun k => decide (k ∈ met xs i)) (met xs i).length
theorem set_fill (W : WalksS prog w A.in1 I fp wr G n P St) (S : Addr) (out : S ∉ fp) (xs : List Str)
    (ln : xs.length = n) (val : ∀ i v, P i v → ∃ x t, xs[i]? = some x ∧ v = .str x t) (room : n + 1 < scanBound) :
    ∀ (left i : Nat) (s : Shared), i + left = n → St i s → Holds prog w xs S i s.heap →
      (∀ s', Moved (S :: wr) G s s' → Holds prog w xs S n s'.heap → R (.ok (.ret .none)) s') →
      codeAny (model prog w) A (.builtin "set.update.loop" ⟨[.ref S, .ref I], []⟩) R s := by
  have noS : S ∉ wr := fun z => out (W.sub _ z)
  have more : ∀ b ∈ wr, b ∈ S :: wr := fun _ z => List.mem_cons_of_mem _ z
  have carried : ∀ {i : Nat} {s s' : Shared}, Moved wr G s s' → Holds prog w xs S i s.heap → Holds prog w xs S i s'.heap := by
    rintro i s s' mv ⟨o, es, ep, t, ho, rest⟩
    exact ⟨o, es, ep, t, mv.heap S _ noS ho, rest⟩
  intro left
  induction left with
  | zero =>
    intro i s e st hS fin
    have ein : i = n := e
    subst ein
    refine codeAny_builtin PyProof.Rows.F.entry_set_update_loop ?_
    rw [Around.under_plainId PyProof.Rows.F.plain_set_update_loop _]
    refine wpAny_bind (m := pyNext (.ref I)) (W.done s _ _ st fun s' mv => ?_)
    exact wpAny_pure (fin s' (mv.mono more) (carried mv hS))
  | succ left ih =>
    intro i s e st hS fin
    have lt : i < n := by omega
    refine codeAny_builtin PyProof.Rows.F.entry_set_update_loop ?_
    rw [Around.under_plainId PyProof.Rows.F.plain_set_update_loop _]
    refine wpAny_bind (m := pyNext (.ref I)) (W.item i s _ _ lt st fun v s' hP st' mv => ?_)
    obtain ⟨x, t, hx, ev⟩ := val i v hP
    subst ev
    have hS1 := carried mv hS
    show wpAny _ A.in1 (holding [Value.str x t] (setAdd S (.str x t)) >>= _) _ _ s'
    refine wpAny_bind (wpAny_holding ?_)
    unfold setAdd
    refine wpAny_holding (wpAny_bind ((PySem.strKind prog w).pyHash (k := x) (strKind_is _ _ _ _) ?_))
    have fits : (met xs i).length + 1 < scanBound := by
      have := met_le xs i
      omega
    refine wpAny_setAddHashed_of (knd := PySem.strKind prog w) (s := { s' with toks := s'.toks + 1 }) (strKind_is _ _ _ _) rfl hS1 fits fun h' same hS2 => ?_
    have hS3 : Holds prog w xs S (i + 1) h' := by
      refine PyProof.Rows.SetOf_congr hS2 (fun k => ?_) ?_
      · rw [met_succ hx]
        by_cases m : x ∈ met xs i
        · rw [if_pos m]
          by_cases ek : k = x
          · subst ek
            simp [m]
          · simp [ek]
        · rw [if_neg m]
          by_cases ek : k = x
          · subst ek
            simp
          · simp [ek]
      · rw [met_succ hx]
        by_cases m : x ∈ met xs i
        · simp [m]
        · simp [m]
    refine wpAny_pure ⟨plainId_quiet PyProof.Rows.F.plain_set_update_loop _, ih (i + 1) _ (by omega) (W.frame _ s' _ _ st' (Nat.le_succ _) fun b hb o q => ?_) hS3 fun s2 mv2 hS4 => ?_⟩
    · rw [same.2 b (fun z : b = S => out (by rw [← z]; exact hb))]
      exact q
    · refine fin s2 (Moved.trans W.gtrans ((mv.mono more).then_heap (Nat.le_succ _) fun b o hb q => ?_) mv2) hS4
      rw [same.2 b (fun z : b = S => hb (by rw [z]; exact List.mem_cons_self))]
      exact q
end

section
variable {prog : Program} {w : World} {A : Around} {E : Value → Shared → Prop} {s : Shared}
/-- a new set -/
abbrev freshSet (led : Bool) : Obj := { cls := .type "set", dict := none, data := .set #[] 0 (.fresh 0 0 led) }
/-- its __init__ over a list of texts -/
theorem init_set_strs {l : Addr} {items : Array Value} {xs : List Str} {led : Bool} {R : Result → Shared → Prop} (hh : A.handled = none)
    (hl : s.heap.IsList l items) (hi : PyProof.Rows.StrsAre items.toList xs) (room : xs.length + 1 < scanBound)
    (h : ∀ (h' : Heap) (tk : Nat), Holds prog w xs s.heap.objs.size xs.length h' →
      (∀ b o, b < s.heap.objs.size → s.heap.get? b = some o → h'.get? b = some o) → R (.ok (.ret .none)) { s with heap := h', toks := tk }) :
    wpAny (model prog w) A.in1 (Builtin.«set.__init__» ⟨[.ref s.heap.objs.size, .ref l], []⟩) (fun fin s' => match fin with
        | .done f => R (.ok f) s'
        | .again c => c.quiet = true ∧ codeAny (model prog w) A c R s')
      (fun e s' => R (.error e) s') { s with heap := s.heap.push (freshSet led) } := by
  obtain ⟨⟨_, od, _, osl⟩, hol, rfl, nl, rfl⟩ := hl
  have there : (s.heap.push (freshSet led)).get? l = some ⟨.type "list", od, .seq items nl, osl⟩ := Heap.get?_push_of_some _ hol
  have newAt : (s.heap.push (freshSet led)).get? s.heap.objs.size = some (freshSet led) := Heap.get?_push_size _ rfl
  have lst1 : (s.heap.push (freshSet led)).IsList l items := ⟨_, there, rfl, nl, rfl⟩
  have hT : Shared.TypeIs { s with heap := s.heap.push (freshSet led) } (.ref s.heap.objs.size) "set" := ⟨_, newAt, rfl⟩
  have subS := PySem.F.sub_list_set
  have subF := PySem.F.sub_list_frozenset
  have notD : (Value.type "list" == Value.type "dict") = false := by decide
  unfold Builtin.«set.__init__» noKeywords Builtin.Frozenset.updateFrom
  generalize hPI : pyIter = PI
  wp_walk
  subst hPI
  refine wpAny_pyIter_list lst1 ?_
  refine wpAny_bind (wpAny_runValue ?_)
  have lS : l < s.heap.objs.size := Heap.lt_size hol
  have hh2 : A.in1.in1.handled = none := by simp [hh]
  have apart : l ≠ (s.heap.push (freshSet led)).objs.size := by
    rw [Heap.size_push]
    exact Nat.ne_of_lt (Nat.lt_succ_of_lt lS)
  have outer : s.heap.objs.size ∉ [(s.heap.push (freshSet led)).objs.size, l] := by
    rw [Heap.size_push]
    intro z
    rcases List.mem_cons.mp z with z | z
    · exact absurd z (Nat.ne_of_lt (Nat.lt_succ_self _))
    · exact absurd (List.mem_singleton.mp z) (Nat.ne_of_gt lS)
  have hsz : xs.length = items.size := by rw [← StrsAre.len_eq hi, Array.length_toList]
  have vals : ∀ (i : Nat) (v : Value), items[i]? = some v → ∃ x t, xs[i]? = some x ∧ v = .str x t := fun i v hv => by
    rw [← Array.getElem?_toList] at hv
    obtain ⟨t, e⟩ := SS.strs_at hi i v hv
    have lt : i < xs.length := by
      rw [← StrsAre.len_eq hi]
      exact (List.getElem?_eq_some_iff.mp hv).1
    refine ⟨xs[i], t, List.getElem?_eq_getElem lt, ?_⟩
    rw [e, List.getD_eq_getElem?_getD, List.getElem?_eq_getElem lt]
    rfl
  refine set_fill ((Walks.list hh2 _ l apart items).toS) s.heap.objs.size outer xs hsz vals (by rw [← hsz]; exact room) items.size 0 _ (Nat.zero_add _)
    ?start ?first ?last
  case start => exact ⟨⟨_, Heap.get?_push_size _ rfl, rfl, rfl⟩, (lst1.push _)⟩
  case first =>
    refine PyProof.Rows.SetOf_congr ((PyProof.Rows.setObjOf_fresh (knd := PySem.strKind prog w) led).setOf (Heap.get?_push_of_some _ newAt) (by unfold scanBound; omega)) (fun k => ?_) rfl
    rw [met_zero]
    rfl
  case last =>
    intro s' mv hS
    obtain ⟨h', g', d', tk', os'⟩ := s'
    have e1 : g' = s.gens := mv.gens
    have e2 : d' = s.drawn := mv.drawn
    have e3 : os' = s.os := mv.os
    subst e1 e2 e3
    show wpAny _ _ _ _ _ _
    refine wpAny_pure ?_
    refine wpAny_pure (h h' tk' (by rw [hsz]; exact hS) fun b o hb q => ?_)
    refine mv.heap b o (fun z => ?_) (Heap.get?_push_of_some _ (Heap.get?_push_of_some _ q))
    rcases List.mem_cons.mp z with z | z
    · exact absurd z (Nat.ne_of_lt hb)
    · rw [List.mem_singleton, Heap.size_push] at z
      exact absurd z (Nat.ne_of_lt (Nat.lt_succ_of_lt hb))

/-- set(xs), xs a list of texts -/
theorem call_set_strs {l : Addr} {items : Array Value} {xs : List Str} {Q : Value → Shared → Prop} (hh : A.handled = none)
    (hl : s.heap.IsList l items) (hi : PyProof.Rows.StrsAre items.toList xs) (room : xs.length + 1 < scanBound)
    (h : ∀ (h' : Heap) (tk : Nat), Holds prog w xs s.heap.objs.size xs.length h' →
      (∀ b o, b < s.heap.objs.size → s.heap.get? b = some o → h'.get? b = some o) → Q (.ref s.heap.objs.size) { s with heap := h', toks := tk }) :
    wpAny (model prog w) A (call (.type "set") [.ref l]) Q E s := by
  obtain ⟨c, tl, mro⟩ := PySem.F.called_set.mro
  have made := PySem.F.called_set.made
  have sub := PySem.F.called_set.sub
  have noTy := PySem.F.called_set.notType
  have creates := PySem.F.called_set.canCreate
  have typeCall := PySem.F.typeCall_set_1 (.ref l)
  refine wpAny_call (codeAny_of_tree ?_)
  show wpAny _ _ (callAny (.type "set") _) _ _ _
  refine wpAny_pure ⟨Code.quiet_builtin _ (by decide +kernel), codeAny_builtin PySem.F.entry_type_call ?_⟩
  rw [Around.under_plain (weight_type_call_type "set" [.ref l] []) rfl]
  repeat (any_goals (first | assumption | wp_step))
  refine codeAny_mono (code_set_new_1 (.ref l) (E := E) (Q₁ := fun v s₁ => ∃ led : Bool, v = .ref s.heap.objs.size ∧ s₁ = { s with heap := s.heap.push (freshSet led) }) fun led => ⟨led, rfl, rfl⟩) ?_
  intro r s1 hr
  match r, hr with
  | .error _, hr => exact hr
  | .ok .next, hr => exact hr.elim
  | .ok .brk, hr => exact hr.elim
  | .ok .cont, hr => exact hr.elim
  | .ok (.ret v), ⟨led, ev, es⟩ =>
    subst ev es
    have newAt : (s.heap.push (freshSet led)).get? s.heap.objs.size = some (freshSet led) := Heap.get?_push_size _ rfl
    have hT : Shared.TypeIs { s with heap := s.heap.push (freshSet led) } (.ref s.heap.objs.size) "set" := ⟨_, newAt, rfl⟩
    have initLook := PySem.F.called_set.init.lookup
    have initBind := PySem.F.called_set.init.bind (.ref s.heap.objs.size)
    repeat (any_goals (first | assumption | wp_step))
    refine codeAny_mono (codeAny_call_builtin (R := wants (fun v s2 => v = .none ∧ ∃ h' tk, s2 = { s with heap := h', toks := tk } ∧ Holds prog w xs s.heap.objs.size xs.length h' ∧
      (∀ b o, b < s.heap.objs.size → s.heap.get? b = some o → h'.get? b = some o)) E) PySem.F.called_set.init.plain PySem.F.entry_set_init (check_set_init_1 hT (init_set_strs (by simp [hh]) hl hi room fun h' tk a b => ⟨rfl, h', tk, rfl, a, b⟩))) ?_
    intro r2 s2 hr2
    match r2, hr2 with
    | .error _, hr2 => exact hr2
    | .ok .next, hr2 => exact hr2.elim
    | .ok .brk, hr2 => exact hr2.elim
    | .ok .cont, hr2 => exact hr2.elim
    | .ok (.ret v2), ⟨ev2, h', tk, es2, a, b⟩ =>
      subst ev2 es2
      repeat (any_goals (first | assumption | wp_step))
      exact h _ _ a b
end

/-- len(set(xs)) -/
def tLenSetS (K : PySem.W.Frag) (ta : TE) : TE := fun σ H Q => ta σ H fun x H1 => ∃ (l : Addr) (xs : List Str), x = .ref l ∧ SqL K H1 l (xs.map V.str) ∧ xs.length ≤ 4000 ∧ Q (.int (met xs xs.length).length) H1
theorem pe_lenSetS {X : Cx} {a : Expr} {ta : TE} {p p2 q pos : Pos} (hg : Gl X "len") (hm : X.mg "len" = none) (hg2 : Gl X "set") (hm2 : X.mg "set" = none) (ha : PE X a ta) (hc : X.calm = true := by rfl)
    (na : starEach [a] X.env = (false, eval a X.env) :: starEach [] X.env := by rfl) : PE X (.Call (.Name "len" p) [.Call (.Name "set" p2) [a] [] q] [] pos) (tLenSetS X.K ta) := by
  constructor
  intro pins s sg H Q I h
  refine Call_ (ld_blt I hg hm boot_len ?_)
  refine PyProof.Rows.callWith_builtin1 (PyProof.Rows.args_cons ?_ rfl) rfl rfl
  refine Call_ (ld_blt I hg2 hm2 boot_set ?_)
  refine PyProof.Rows.callWith_type1 (PyProof.Rows.args_cons (thn (ha.run pins s sg H _ I h) ?_) na) na rfl
  rintro v s1 ⟨x, H1, I1, r1, l, xs, ex, hq, hl, q1⟩
  refine PyProof.Rows.args_nil ?_
  subst ex
  cases r1
  obtain ⟨its, r, pl, hz⟩ := I1.list hq
  refine call_set_strs (I1.ok.hd hc) pl.isList (by simpa using Vals.strs r) (by unfold scanBound; omega) fun h' tk hS hk => ?_
  refine PyProof.Rows.args_nil ?_
  obtain ⟨o, es, ep, t, ho, hex, hd, _, _, _, hf, hn⟩ := hS
  have I2 : Inv X pins sg H1 { s1 with heap := h', toks := tk } := I1.kept fun b o e => hk b o (Heap.lt_size e) e
  have small : (met xs xs.length).length ≤ 4000 := Nat.le_trans (met_le xs _) hl
  exact call_len_set ho hex hd hf (by rw [hn]; omega) ⟨.int (met xs xs.length).length, H1, I2.tok _, ⟨_, by rw [hn]⟩, q1⟩
end Os
namespace Os
open PySem PySem.Spec PyProof.Rows L2

/-! ### kinds of data -/
def tyName : PyData → String
  | .none => "NoneType"
  | .bool _ => "bool"
  | .int _ => "int"
  | .str _ => "str"
  | .list _ => "list"
  | .tuple _ => "tuple"
  | .dict _ => "dict"
def isStrD : PyData → Bool
  | .str _ => true
  | _ => false
def isListD : PyData → Bool
  | .list _ => true
  | _ => false
def isTupD : PyData → Bool
  | .tuple _ => true
  | _ => false
theorem kit_str (d : PyData) : kitB (tyName d) "str" = some (isStrD d) := by
  cases d <;> (simp only [tyName, isStrD, isListD, isTupD]; decide +kernel)
theorem kit_list (d : PyData) : kitB (tyName d) "list" = some (isListD d) := by
  cases d <;> (simp only [tyName, isStrD, isListD, isTupD]; decide +kernel)
theorem kit_tup (d : PyData) : kitB (tyName d) "tuple" = some (isTupD d) := by
  cases d <;> (simp only [tyName, isStrD, isListD, isTupD]; decide +kernel)
section
variable {H H' : Hp} {v : V} {d : PyData} {K : PySem.W.Frag}
theorem Dt.ty (h : Dt H v d) : TyOf K H v (.type (tyName d)) := by
  cases h with
  | non => exact .non
  | bl b => exact .bl b
  | int i => exact .int i
  | str x => exact .str x
  | lst ha _ => exact .lst ha
  | tup ha _ => exact .tup ha
theorem isi_of {T : String} {b : Bool} {Q : VK} (h : Dt H v d) (e : kitB (tyName d) T = some b) (q : Q (.bl b) H) : rIsi K [v, .ty T] H Q :=
  ⟨v, .ty T, _, _, b, rfl, .ty T, .base h.ty, kit_ty e, q⟩
theorem Dt.str_or (h : Dt H v d) : (∃ z, v = .str z ∧ d = .str z) ∨ isStrD d = false := by
  cases h with
  | str x => exact .inl ⟨x, rfl, rfl⟩
  | _ => exact .inr rfl
theorem Dt.list_or (h : Dt H v d) : (∃ a xs ds, v = .ref a ∧ H a = some (.lst xs) ∧ Dts H xs ds ∧ d = .list ds) ∨ isListD d = false := by
  cases h with
  | lst ha t => exact .inl ⟨_, _, _, rfl, ha, t, rfl⟩
  | _ => exact .inr rfl
theorem Dt.tup_or (h : Dt H v d) : (∃ a xs ds, v = .ref a ∧ H a = some (.tup xs) ∧ Dts H xs ds ∧ d = .tuple ds) ∨ isTupD d = false := by
  cases h with
  | tup ha t => exact .inl ⟨_, _, _, rfl, ha, t, rfl⟩
  | _ => exact .inr rfl
end
/-! ### heaps but for one address -/
/-- H without what stands at s -/
def hide (s : Addr) (H : Hp) : Hp := fun b => if b = s then none else H b
theorem hide_ne {s b : Addr} {H : Hp} (h : b ≠ s) : hide s H b = H b := if_neg h
theorem hide_at {s : Addr} {H : Hp} : hide s H s = none := if_pos rfl
theorem hide_of {s b : Addr} {H : Hp} {o : HO} (h : hide s H b = some o) : b ≠ s ∧ H b = some o := by
  unfold hide at h
  split at h
  · cases h
  · exact ⟨by assumption, h⟩
theorem hide_same {s : Addr} {H : Hp} : Same (hide s H) H := fun _ _ h => (hide_of h).2
theorem Same.hide {s : Addr} {H H' : Hp} (e : Same H H') : Same (Os.hide s H) (Os.hide s H') := fun b o h => by
  obtain ⟨h1, h2⟩ := hide_of h
  rw [hide_ne h1]
  exact e b o h2
theorem hide_upd {s : Addr} {H : Hp} {o : HO} : Os.hide s (upd H s o) = Os.hide s H := by
  funext b
  by_cases e : b = s
  · rw [e, hide_at, hide_at]
  · rw [hide_ne e, hide_ne e, upd_ne e]
theorem same_new {H : Hp} {p : Addr} {o : HO} (h : H p = none) : Same H (upd H p o) := fun b u e => by
  rw [upd_ne (ne_of_none e h)]
  exact e
/-- what H does not know may change -/
theorem same_mut {H H' : Hp} {p : Addr} {o : HO} (e : Same H H') (h : H p = none) : Same H (upd H' p o) := fun b u q => by
  rw [upd_ne (ne_of_none q h)]
  exact e b u q
theorem Same.none {H H' : Hp} (e : Same H H') {p : Addr} (h : H' p = Option.none) : H p = Option.none := e.free h
theorem hide_none {s p : Addr} {H : Hp} (h : H p = Option.none) : Os.hide s H p = Option.none := by
  unfold Os.hide
  split
  · rfl
  · exact h
end Os
namespace Os
open PySem PySem.Spec PyProof.Rows L2 Evl

/-! ### more of what evaluates to what -/
section
variable {K : PySem.W.Frag} {σ : L2.St} {H H' : Hp} {ta tb tc te : TE} {t : TT} {x y z v : V} {r r' : R2}
theorem same_ex (e : Ex H H') : Same H H' := e
theorem ev_isi {T : String} {b : Bool} {d : PyData} (h : Ev ta σ H v) (hd : Dt H v d) (e : kitB (tyName d) T = some b) :
    Ev (tCB (rIsi K) (tCons ta (tCons (tC (.ty T)) tNil))) σ H (.bl b) := fun H1 e1 Q q =>
  h H1 e1 _ fun H2 e2 => isi_of (hd.same (same_ex (e1.trans e2))) e (q H2 e2)
theorem ev_lenS {s : Str} (h : Ev ta σ H (.str s)) (hl : s.length ≤ 100000) :
    Ev (tCB (fun xs H Q => ∃ z, xs = [.str z] ∧ z.length ≤ sizeLine ∧ Q (.int z.length) H) (tCons ta tNil)) σ H (.int s.length) := fun H1 e1 Q q =>
  h H1 e1 _ fun H2 e2 => ⟨s, rfl, sz_of hl, q H2 e2⟩
theorem ev_chain {b c : Bool} (h1 : Ev ta σ H x) (h2 : Ev tb σ H y) (hr : RV r x y H (.bl b)) (h3 : b = true → ∃ z, Ev tc σ H z ∧ RV r' y z H (.bl c)) :
    Ev (tChain r r' ta tb tc) σ H (.bl (b && c)) := fun H1 e Q q =>
  h1 H1 e _ fun H2 e2 => h2 H2 (e.trans e2) _ fun H3 e3 => hr H3 ((e.trans e2).trans e3) _ fun H4 e4 => ⟨b, rfl, by
    cases b with
    | true =>
      obtain ⟨z, hz, hs⟩ := h3 rfl
      show tc σ H4 _
      exact hz H4 (((e.trans e2).trans e3).trans e4) _ fun H5 e5 => hs H5 ((((e.trans e2).trans e3).trans e4).trans e5) Q fun H6 e6 => q H6 ((((e2.trans e3).trans e4).trans e5).trans e6)
    | false =>
      show Q (.bl false) H4
      exact q H4 ((e2.trans e3).trans e4)⟩
theorem rv_leS {i j : Str} : RV (fun x y H Q => ∃ i j, x = .str i ∧ y = .str j ∧ Q (.bl (!decide (j.cps.toList < i.cps.toList))) H) (.str i) (.str j) H (.bl (!decide (j.cps.toList < i.cps.toList))) :=
  fun H1 _ _ q => ⟨i, j, rfl, rfl, q H1 (Ex.refl H1)⟩
theorem rv_notInSign {c : Nat} {s : Str} : RV (fun x y H Q => ∃ (c : Nat) (z : Str), x = .str ⟨#[c]⟩ ∧ y = .str z ∧ Q (.bl (!decide (c ∈ z.cps.toList))) H) (.str ⟨#[c]⟩) (.str s) H (.bl (!decide (c ∈ s.cps.toList))) :=
  fun H1 _ _ q => ⟨c, s, rfl, rfl, q H1 (Ex.refl H1)⟩
theorem ev_abs {i : Int} (h : Ev ta σ H (.int i)) : Ev (tCB (fun xs H Q => ∃ i, xs = [V.int i] ∧ Q (.int (if i < 0 then -i else i)) H) (tCons ta tNil)) σ H (.int (if i < 0 then -i else i)) := fun H1 e1 Q q =>
  h H1 e1 _ fun H2 e2 => ⟨i, rfl, q H2 e2⟩
theorem ev_max {i j : Int} (ha : Ev ta σ H (.int i)) (hb : Ev tb σ H (.int j)) : Ev (tCB (fun xs H Q => ∃ i j, xs = [V.int i, .int j] ∧ Q (.int (if j > i then j else i)) H) (tCons ta (tCons tb tNil))) σ H (.int (if j > i then j else i)) := fun H1 e1 Q q =>
  ha H1 e1 _ fun H2 e2 => hb H2 (e1.trans e2) _ fun H3 e3 => ⟨i, j, rfl, q H3 (e2.trans e3)⟩
theorem ev_min {i j : Int} (ha : Ev ta σ H (.int i)) (hb : Ev tb σ H (.int j)) : Ev (tCB (fun xs H Q => ∃ i j, xs = [V.int i, .int j] ∧ Q (.int (if j < i then j else i)) H) (tCons ta (tCons tb tNil))) σ H (.int (if j < i then j else i)) := fun H1 e1 Q q =>
  ha H1 e1 _ fun H2 e2 => hb H2 (e1.trans e2) _ fun H3 e3 => ⟨i, j, rfl, q H3 (e2.trans e3)⟩
theorem ev_all {bs : List Bool} (h : EvL ta σ H (bs.map V.bl)) : Ev (tCB (rAll K) (tCons ta tNil)) σ H (.bl (bs.all id)) := fun H1 e Q q =>
  h H1 e _ fun p H2 _ e2 hp => ⟨p, bs, rfl, sq_of hp, q H2 e2⟩
theorem ev_repr {d : PyData} (h : Ev ta σ H v) (hd : Dt H v d) (fit : Fit sizeLine d) : Ev (tCB rRepr (tCons ta tNil)) σ H (.str d.shown) := fun H1 e Q q =>
  h H1 e _ fun H2 e2 => ⟨v, d, rfl, hd.same (same_ex (e.trans e2)), fit, q H2 e2⟩
theorem ev_reprL {xs : List V} {ds : List PyData} (h : EvL ta σ H xs) (hd : Dts H xs ds) (fit : Fit sizeLine (.list ds)) : Ev (tCB rRepr (tCons ta tNil)) σ H (.str (PyData.list ds).shown) := fun H1 e Q q =>
  h H1 e _ fun p H2 _ e2 hp => ⟨.ref p, .list ds, rfl, .lst hp (hd.same (same_ex (e.trans e2))), fit, q H2 e2⟩
/-- two lists, the left a new one, the right a new one, of data -/
theorem ev_eqLL {xs ys : List V} {ds es : List PyData} (ha : EvL ta σ H xs) (hb : EvL tb σ H ys) (hx : Dts H xs ds) (hy : Dts H ys es) (s1 : SeqAt.shaped (.list ds) = true) (s2 : SeqAt.shaped (.list es) = true) :
    Ev (tOp (rEqD K) ta tb) σ H (.bl (PyData.eqv (.list ds) (.list es))) :=
  ev_opLL ha hb fun p q H1 hp hq e => fun H2 e2 Q k => ⟨.list ds, .list es, Dt.dp (.lst (e2 _ _ hp) (hx.same (same_ex (e.trans e2)))), Dt.dp (.lst (e2 _ _ hq) (hy.same (same_ex (e.trans e2)))), s1, s2, k H2 (Ex.refl H2)⟩
/-- a call of a def that makes nothing but a value -/
theorem ev_sp {sp : Sp} {dvs vs : List V} {E : XK} {ta : TA} (h : EvA ta σ H vs) (hs : ∀ H1, Ex H H1 → ∀ Q : VK, (∀ H2, Ex H1 H2 → Q z H2) → sp (vs ++ dvs) H1 Q E) : Ev (tCall sp dvs E ta) σ H z := fun H1 e Q q =>
  h H1 e _ fun H2 e2 => hs H2 (e.trans e2) Q fun H3 e3 => q H3 (e2.trans e3)
/-- a comprehension over a text -/
theorem el_lcS {s : Str} {j : Nat} {vs : List Nat} {tl : TE} (f : Nat → Bool) (v : Nat → V) (h : Ev tl σ H (.str s)) (hz : s.length ≤ 40000) (hw : ∀ x, wipe ((wipe σ vs).set j (some x)) vs = wipe σ vs)
    (ht : ∀ (i c : Nat) H1, Ex H H1 → s.cps.toList[i]? = some c → EvT t ((wipe σ vs).set j (some (.str ⟨#[c]⟩))) H1 (f i))
    (he : ∀ (i c : Nat) H1, Ex H H1 → s.cps.toList[i]? = some c → f i = true → Ev te ((wipe σ vs).set j (some (.str ⟨#[c]⟩))) H1 (v i)) :
    EvL (tLc (iStr tl) (gName j) t te vs) σ H (given s.length f v) := fun H0 e Q q => h H0 e _ fun H1 e1 => ⟨s, rfl, fun Dl hD =>
  lc_it (walk_str (z := s)) (Cw H1 f v Dl) ⟨hD, Ex.new hD, upd_same⟩ (fun _ _ _ _ => trivial) (fun i x Ha Hb hi p y => by
    obtain ⟨rfl, c, hc, rfl⟩ := y
    have hc' : s.cps.toList[i]? = some c := by rw [Array.getElem?_toList]; exact hc
    have hi2 : i < s.length := hi
    exact ⟨hw _, cw_turn p (by omega) (ht i c H1 (e.trans e1) hc') (fun hf => he i c H1 (e.trans e1) hc' hf)⟩)
    (fun Hc p => q Dl Hc (fresh_back e1 p.1) (e1.trans p.2.1) p.2.2)⟩
end

/-! ### what a comprehension gives, by the items -/
theorem given_map {α : Type} (xs : List α) (g : α → V) (v : Nat → V) (h : ∀ i x, xs[i]? = some x → v i = g x) : given xs.length (fun _ => true) v = xs.map g := by
  unfold given
  rw [List.filter_eq_self.mpr (fun _ _ => rfl)]
  refine List.ext_getElem? fun i => ?_
  rw [List.getElem?_map, List.getElem?_map]
  by_cases hi : i < xs.length
  · rw [List.getElem?_range hi, List.getElem?_eq_getElem hi]
    exact congrArg some (h i _ (List.getElem?_eq_getElem hi))
  · rw [List.getElem?_eq_none (by rw [List.length_range]; omega), List.getElem?_eq_none (by omega)]
    rfl
theorem given_part {α : Type} (g : α → V) (p : α → Bool) (f : Nat → Bool) (v : Nat → V) (xs : List α) (hf : ∀ i x, xs[i]? = some x → f i = p x) (hv : ∀ i x, xs[i]? = some x → v i = g x) :
    ∀ n, n ≤ xs.length → given n f v = ((xs.take n).filter p).map g
  | 0, _ => rfl
  | n + 1, hn => by
    have lt : n < xs.length := hn
    have e := List.getElem?_eq_getElem lt
    have ih := given_part g p f v xs hf hv n (Nat.le_of_lt lt)
    rw [List.take_add_one, e]
    show _ = ((xs.take n ++ [xs[n]]).filter p).map g
    rw [List.filter_append, List.map_append, ← ih]
    cases hp : p xs[n] with
    | true =>
      rw [given_yes (by rw [hf _ _ e]; exact hp), hv _ _ e, List.filter_cons, if_pos hp]
      rfl
    | false =>
      rw [given_no (by rw [hf _ _ e]; exact hp), List.filter_cons, if_neg (by rw [hp]; decide)]
      rw [List.filter_nil, List.map_nil, List.append_nil]
theorem given_filter {α : Type} (g : α → V) (p : α → Bool) (f : Nat → Bool) (v : Nat → V) (xs : List α) (hf : ∀ i x, xs[i]? = some x → f i = p x) (hv : ∀ i x, xs[i]? = some x → v i = g x) :
    given xs.length f v = (xs.filter p).map g := by
  rw [given_part g p f v xs hf hv _ (Nat.le_refl _), List.take_length]
theorem given_eq {n : Nat} {f g : Nat → Bool} {v u : Nat → V} (hf : ∀ i, i < n → f i = g i) (hv : ∀ i, i < n → v i = u i) : given n f v = given n g u := by
  unfold given
  rw [List.filter_congr (q := g) (fun i hi => hf i (List.mem_range.mp hi))]
  exact List.map_congr_left fun i hi => hv i (List.mem_range.mp (List.mem_filter.mp hi).1)
end Os
namespace K07
open PySem PySem.Spec PyProof.Rows L2 Os Evl
def topS (i : Nat) : Stmt := PySem.Challenge.pw_onceswapped_k07_arrangements_recognized.main.body.getD i (.Pass ⟨0, 0, 0, 0⟩)
abbrev sItem : Stmt := topS 2
abbrev sArr : Stmt := topS 3
abbrev sIsName : Stmt := topS 9
abbrev sIsRow : Stmt := topS 10
theorem scItem : FnScope ["thing", "letter"] ["thing"] (defScope sItem) := ⟨rfl, rfl, rfl, by decide +kernel, rfl, by decide +kernel, by decide +kernel⟩
theorem scArr : FnScope ["n", "thing", "entry"] ["n", "thing"] (defScope sArr) := ⟨rfl, rfl, rfl, by decide +kernel, rfl, by decide +kernel, by decide +kernel⟩
theorem scIsName : FnScope ["value", "sign"] ["value"] (defScope sIsName) := ⟨rfl, rfl, rfl, by decide +kernel, rfl, by decide +kernel, by decide +kernel⟩
theorem scIsRow : FnScope ["size", "value", "spot"] ["size", "value"] (defScope sIsRow) := ⟨rfl, rfl, rfl, by decide +kernel, rfl, by decide +kernel, by decide +kernel⟩

/-- a letter's code -/
def letterB (c : Nat) : Bool := decide (97 ≤ c) && decide (c ≤ 122)
def nameB (z : Str) : Bool := decide (1 ≤ z.length) && decide (z.length ≤ 8) && z.cps.toList.all letterB
def itemB : PyData → Bool
  | .str z => nameB z
  | _ => false
/-- the texts among them are not too long -/
def ShortS : PyData → Prop
  | .str z => z.length ≤ 1000 ∧ PyData.strOk z = true
  | _ => True

/-- the length test as the program does it -/
def itemLen : PyData → Bool
  | .str z => decide ((1 : Int) ≤ (z.length : Int)) && decide ((z.length : Int) ≤ 8)
  | _ => false
theorem lenB (z : Str) : (decide (1 ≤ z.length) && decide (z.length ≤ 8)) = itemLen (.str z) := by
  show _ = (decide ((1 : Int) ≤ (z.length : Int)) && decide ((z.length : Int) ≤ 8))
  rw [decide_eq_decide.mpr (show 1 ≤ z.length ↔ (1 : Int) ≤ (z.length : Int) by omega), decide_eq_decide.mpr (show z.length ≤ 8 ↔ (z.length : Int) ≤ 8 by omega)]

section
variable {P : Program} {w : World} {K : PySem.W.Frag} {mg : Str → Option Value} {base : Heap}
def spItem : Sp := fun vs H Q _ => ∃ v d, vs = [v] ∧ Dt H v d ∧ ShortS d ∧ ∀ H', Same H H' → Q (.bl (itemB d)) H'

theorem sign_le (c : Nat) : (!decide ((⟨#[c]⟩ : Str).cps.toList < ("a" : Str).cps.toList)) = decide (97 ≤ c) := by
  have e : ("a" : Str).cps.toList = [97] := by decide
  rw [e]
  show (!decide ([c] < [97])) = _
  by_cases h : c < 97
  · rw [decide_eq_true (show [c] < [97] from List.Lex.rel h), decide_eq_false (by omega)]
    rfl
  · rw [decide_eq_false (show ¬ [c] < [97] from fun z => by
      cases z with
      | rel z => exact h z
      | cons z => cases z), decide_eq_true (by omega)]
    rfl
theorem le_sign (c : Nat) : (!decide (("z" : Str).cps.toList < (⟨#[c]⟩ : Str).cps.toList)) = decide (c ≤ 122) := by
  have e : ("z" : Str).cps.toList = [122] := by decide
  rw [e]
  show (!decide ([122] < [c])) = _
  by_cases h : 122 < c
  · rw [decide_eq_true (show [122] < [c] from List.Lex.rel h), decide_eq_false (by omega)]
    rfl
  · rw [decide_eq_false (show ¬ [122] < [c] from fun z => by
      cases z with
      | rel z => exact h z
      | cons z => cases z), decide_eq_true (by omega)]
    rfl

theorem ok_item {f : Addr} {fd : FuncData} {k : Nat} (F : Fun K "is_item" "is_item" sItem f fd) (mI : mg "isinstance" = none) (mS : mg "str" = none) (mL : mg "len" = none) (mA : mg "all" = none)
    {t8 : Tok} (m8 : mg "MOST_LETTERS" = some (.int 8 t8)) : FnOk P w K mg base CX0 (k + 1) f fd ["thing"] spItem := by
  refine F.ok scItem (fun vs H Q E h => ?_) (fun cdv A outer s H vs Q E hr h => ?_)
  · obtain ⟨v, d, rfl, _⟩ := h
    rfl
  · obtain ⟨v, d, rfl, hd, hz, q⟩ := h
    refine ⟨_, pss_cons (ps_if (PW.pt (pw_or (pt_not (pt_val (pe_callB call_isi (by rfl) mI boot_isinstance (pa_cons (pv 0) (pa_cons (pe_bltn (v := .ty "str") (by rfl) mS boot_str rfl) pa_nil)))))
        (pw_or1 (pt_not (pt_chain op_le op_le pe_int (pe_callB call_len_str (by rfl) mL boot_len (pa_cons (pv 0) pa_nil)) (pe_glob (v := .int 8) (by rfl) m8 ⟨_, rfl⟩))))))
        (pss_one (ps_ret pe_bl)) pss_nil)
      (pss_one (ps_ret (pe_callB (cr_all rfl) (by rfl) mA boot_all (pa_cons
        (pe_lc (own := [("letter", 1)]) (g := gName 1) (tt := tYes) rfl scItem.nd (pi_str (pv 0)) (blkOk_by (N := ["thing", "letter"]) (sc := defScope sItem) (by decide +kernel))
          (fun _ _ _ _ _ => pg_name (i := 1) scItem.nd rfl (Or.inl rfl)) (fun _ _ _ _ _ => pts_nil)
          (fun _ _ _ _ _ => pe_chain op_le_str op_le_str pe_str (pv 1) pe_str)) pa_nil)))), ?_⟩
    have e0 : Ev (tVar 0) (start ["thing", "letter"] [v]) H v := ev_var rfl
    refine q_when (b := !isStrD d || !(itemLen d)) (et_or (et_not (et_B (ev_isi e0 hd (kit_str d)))) fun hs => et_not (et_test ?_)) ?_ ?_
    · rcases hd.str_or with ⟨z, rfl, rfl⟩ | hn
      · exact ev_chain ev_c (ev_lenS e0 (Nat.le_trans hz.1 (by decide))) rv_I0 fun _ => ⟨_, ev_c, rv_I0⟩
      · rw [hn] at hs
        cases hs
    · intro hb H1 e1
      have : itemB d = false := by
        rcases hd.str_or with ⟨z, rfl, rfl⟩ | hn
        · have hb' : (!itemLen (.str z)) = true := hb
          show (_ && _) = false
          rw [show (decide (1 ≤ z.length) && decide (z.length ≤ 8)) = itemLen (.str z) from lenB z, (Bool.not_eq_true' _).mp hb']
          rfl
        · cases d <;> first | rfl | cases hn
      rw [← this]
      exact q H1 e1
    · intro hb H1 e1
      rcases hd.str_or with ⟨z, rfl, rfl⟩ | hn
      · have hb' : itemLen (.str z) = true := by
          have hb2 : (!itemLen (.str z)) = false := hb
          exact (Bool.not_eq_false' _).mp hb2
        refine s_ret (v := .bl (itemB (.str z))) (ev_is (ev_all (bs := z.cps.toList.map letterB) ?_) ?_) fun H2 e2 => q H2 (e1.trans e2)
        · rw [List.map_map, ← given_map z.cps.toList (V.bl ∘ letterB) (fun i => .bl (letterB (z.cps.toList.getD i 0))) (fun i x e => by
            rw [List.getD_eq_getElem?_getD, e]
            rfl)]
          rw [Array.length_toList]
          refine el_lcS (f := fun _ => true) (v := _) (ev_var rfl) (Nat.le_trans hz.1 (by decide)) (fun _ => rfl) (fun i c H2 _ _ => fun H3 e3 Q q => q H3 (Ex.refl H3)) (fun i c H2 e2 hc _ => ?_)
          rw [List.getD_eq_getElem?_getD, hc]
          show Ev _ _ _ (.bl (letterB c))
          have e4 : letterB c = ((!decide ((⟨#[c]⟩ : Str).cps.toList < ("a" : Str).cps.toList)) && (!decide (("z" : Str).cps.toList < (⟨#[c]⟩ : Str).cps.toList))) := by
            rw [sign_le, le_sign]
            rfl
          rw [e4]
          exact ev_chain ev_c (ev_var rfl) rv_leS fun _ => ⟨_, ev_c, rv_leS⟩
        · show V.bl _ = V.bl (_ && _)
          rw [show (decide (1 ≤ z.length) && decide (z.length ≤ 8)) = itemLen (.str z) from lenB z, hb', List.all_map]
          rfl
      · have hb2 : (!isStrD d || !itemLen d) = false := hb
        rw [hn] at hb2
        cases hb2
end
end K07
namespace K07
open PySem PySem.Spec PyProof.Rows L2 Os Evl

/-- the texts among them -/
def strsOf : List PyData → List Str
  | [] => []
  | .str z :: r => z :: strsOf r
  | _ :: r => strsOf r
theorem all_strs {H : Hp} : ∀ {ds : List PyData} {xs : List V}, Dts H xs ds → ds.all itemB = true → xs = (strsOf ds).map V.str ∧ ds = (strsOf ds).map PyData.str
  | [], _, .nil, _ => ⟨rfl, rfl⟩
  | d :: ds, _, .cons h t, e => by
    rw [List.all_cons, Bool.and_eq_true] at e
    obtain ⟨h1, h2⟩ := all_strs t e.2
    cases h with
    | str z =>
      show V.str z :: _ = V.str z :: _ ∧ PyData.str z :: _ = PyData.str z :: _
      exact ⟨by rw [← h1], by rw [← h2]⟩
    | _ => cases e.1
def rowB (n : Int) : PyData → Bool
  | .list ds => decide ((ds.length : Int) = n) && ds.all itemB && decide (strsOf ds).Nodup
  | _ => false
def ShortL : PyData → Prop
  | .list ds => ds.length ≤ 1000 ∧ ∀ d ∈ ds, ShortS d
  | _ => True
section
variable {K : PySem.W.Frag} {σ : L2.St} {H : Hp} {ta : TE}
theorem ev_lenSet {l : Addr} {zs : List Str} (h : Ev ta σ H (.ref l)) (hs : SqL K H l (zs.map V.str)) (hl : zs.length ≤ 4000) : Ev (tLenSetS K ta) σ H (.int (met zs zs.length).length) := fun H1 e Q q =>
  h H1 e _ fun H2 e2 => ⟨l, zs, rfl, ex_l (e.trans e2) hs, hl, q H2 e2⟩
theorem ev_len' {p : Addr} {xs : List V} (ha : Ev ta σ H (.ref p)) (h : H p = some (.lst xs)) :
    Ev (tCB (fun xs H Q => ∃ p ys, xs = [V.ref p] ∧ (SqL K H p ys ∨ SqT K H p ys) ∧ Q (.int ys.length) H) (tCons ta tNil)) σ H (.int (xs.length : Int)) := ev_len ha (sq_of h)
end
section
variable {P : Program} {w : World} {K : PySem.W.Frag} {mg : Str → Option Value} {base : Heap}
def spArr : Sp := fun vs H Q _ => ∃ n v d, vs = [.int n, v] ∧ Dt H v d ∧ ShortL d ∧ ∀ H', Ex H H' → Q (.bl (rowB n d)) H'
theorem ok_arr {f fI : Addr} {fd fdI : FuncData} {k : Nat} (F : Fun K "is_arrangement" "is_arrangement" sArr f fd) (GI : FnOk P w K mg base CX0 k fI fdI ["thing"] spItem) (FI : Fun K "is_item" "is_item" sItem fI fdI) (bI : Binds K fdI ["thing"] [])
    (gI : mg "is_item" = some (.ref fI)) (mI : mg "isinstance" = none) (mS : mg "list" = none) (mL : mg "len" = none) (mA : mg "all" = none) (mT : mg "set" = none) : FnOk P w K mg base CX0 (k + 1) f fd ["n", "thing"] spArr := by
  refine F.ok scArr (fun vs H Q E h => ?_) (fun cdv A outer s H vs Q E hr h => ?_)
  · obtain ⟨n, v, d, rfl, _⟩ := h
    rfl
  · obtain ⟨n, v, d, rfl, hd, hz, q⟩ := h
    refine ⟨_, pss_cons (ps_if (PW.pt (pw_or (pt_not (pt_val (pe_callB call_isi (by rfl) mI boot_isinstance (pa_cons (pv 1) (pa_cons (pe_bltn (v := .ty "list") (by rfl) mS boot_list rfl) pa_nil)))))
        (pw_or1 (pt_cmpR op_ne (pe_callB call_len_seq (by rfl) mL boot_len (pa_cons (pv 1) pa_nil)) (pv 0) (nomark _)))))
        (pss_one (ps_ret pe_bl)) pss_nil)
      (pss_cons (ps_if (pt_not (pt_val (pe_callB (cr_all rfl) (by rfl) mA boot_all (pa_cons
        (pe_lc (own := [("entry", 2)]) (g := gName 2) (tt := tYes) rfl scArr.nd (pi_list (pv 1)) (blkOk_by (N := ["n", "thing", "entry"]) (sc := defScope sArr) (by decide +kernel))
          (fun _ _ _ _ _ => pg_name (i := 2) scArr.nd rfl (Or.inl rfl)) (fun _ _ _ _ _ => pts_nil)
          (fun _ _ _ _ _ => pe_call GI hr (by rfl) gI FI.kp bI .nil pass0 (pa_cons (pv 2) pa_nil))) pa_nil))))
        (pss_one (ps_ret pe_bl)) pss_nil)
      (pss_one (ps_ret (pe_cmpR op_eq (pe_lenSetS (by rfl) mL (by rfl) mT (pv 1)) (pv 0) (nomark _))))), ?_⟩
    have e0 : Ev (tVar 1) (start ["n", "thing", "entry"] [.int n, v]) H v := ev_var rfl
    have en : Ev (tVar 0) (start ["n", "thing", "entry"] [.int n, v]) H (.int n) := ev_var rfl
    rcases hd.list_or with ⟨a, xs, ds, rfl, ha, ht, rfl⟩ | hn
    · have hlen : xs.length = ds.length := ht.length
      refine q_when (b := !true || !decide (V.int xs.length = V.int n)) (et_or (et_not (et_B (ev_isi e0 hd (kit_list _)))) fun _ => et_test (ev_op (ev_len' e0 ha) en (rv_ne rfl))) ?_ ?_
      · intro hb H1 e1
        have : rowB n (.list ds) = false := by
          have hb2 : (!decide (V.int xs.length = V.int n)) = true := hb
          have hb3 := of_decide_eq_false ((Bool.not_eq_true' _).mp hb2)
          show (_ && _ && _) = false
          rw [decide_eq_false (show ¬ (ds.length : Int) = n from fun z => hb3 (by rw [hlen, z]))]
          rfl
        rw [← this]
        exact q H1 e1
      · intro hb H1 e1
        have hb2 : (!decide (V.int xs.length = V.int n)) = false := hb
        have hb3 := V.int.inj (of_decide_eq_true ((Bool.not_eq_false' _).mp hb2))
        have d1 := hd.same (same_ex e1)
        have items : ∀ i x, xs[i]? = some x → ∃ d, ds[i]? = some d ∧ Dt H1 x d ∧ ShortS d := fun i x e => by
          obtain ⟨d, h1, h2⟩ := ht.get e
          exact ⟨d, h1, h2.same (same_ex e1), hz.2 d (List.mem_of_getElem? h1)⟩
        refine q_when (b := !(ds.all itemB)) (et_not (et_B (ev_is (ev_all (bs := ds.map itemB) ?_) (by rw [List.all_map]; rfl)))) ?_ ?_
        · rw [List.map_map, ← given_map ds (V.bl ∘ itemB) (fun i => .bl (itemB (ds.getD i .none))) (fun i x e => by
            rw [List.getD_eq_getElem?_getD, e]
            rfl), ← hlen]
          refine el_lcL (f := fun _ => true) (v := _) (ev_var rfl) (sq_of (e1 _ _ ha)) (by rw [hlen]; exact Nat.le_trans hz.1 (by decide)) (fun _ => rfl) (fun i c H2 _ _ => fun H3 e3 Q q => q H3 (Ex.refl H3)) (fun i x H2 e2 hx _ => ?_)
          obtain ⟨d, h1, h2, h3⟩ := items i x hx
          rw [List.getD_eq_getElem?_getD, h1]
          exact ev_sp (ea_cons (ev_var rfl) ea_nil) fun H3 e3 Q q => ⟨x, d, rfl, h2.same (same_ex (e2.trans e3)), h3, fun H4 e4 => q H4 e4⟩
        · intro hb H2 e2
          have : rowB n (.list ds) = false := by
            show (_ && _ && _) = false
            rw [(Bool.not_eq_true' _).mp hb, Bool.and_false]
            rfl
          rw [← this]
          exact q H2 (e1.trans e2)
        · intro hb H2 e2
          have hall := (Bool.not_eq_false' _).mp hb
          obtain ⟨h1, h2⟩ := all_strs ht hall
          have hl2 : (strsOf ds).length = ds.length := by
            rw [← hlen, h1, List.length_map]
          refine s_ret (v := .bl (rowB n (.list ds))) (ev_is (ev_op (ev_lenSet (zs := strsOf ds) (ev_var rfl) (by rw [← h1]; exact sq_of (e2 _ _ (e1 _ _ ha))) (by rw [hl2]; exact Nat.le_trans hz.1 (by decide))) (ev_var rfl) (rv_eq rfl)) ?_) fun H3 e3 => q H3 ((e1.trans e2).trans e3)
          show V.bl _ = V.bl (_ && _ && _)
          rw [hall, decide_eq_true (show (ds.length : Int) = n by rw [← hlen]; exact hb3), Bool.true_and, Bool.true_and, ← hb3]
          refine congrArg V.bl (decide_eq_decide.mpr ?_)
          rw [← met_all, hl2, hlen]
          exact ⟨fun z => by have := V.int.inj z; omega, fun z => by rw [z]⟩
    · refine q_when (b := true) (et_is (et_or (b := true) (et_not (et_B (ev_isi e0 hd (kit_list _)))) fun hs => ?_) ?_) ?_ ?_
      · rw [hn] at hs
        cases hs
      · rw [hn]
        rfl
      · intro _ H1 e1
        have : rowB n d = false := by
          cases d <;> first | rfl | cases hn
        rw [← this]
        exact q H1 e1
      · intro hb
        cases hb
end
end K07
namespace K07
open PySem PySem.Spec PyProof.Rows L2 Os Evl

theorem canLay_strs : ∀ {zs : List Str}, (∀ z ∈ zs, PyData.strOk z = true) → PyData.canLayAll0 (zs.map PyData.str) = true
  | [], _ => rfl
  | z :: zs, h => by
    show (PyData.canLay0 (.str z) && PyData.canLayAll0 (zs.map PyData.str)) = true
    rw [canLay_strs fun y hy => h y (List.mem_cons_of_mem _ hy), Bool.and_true]
    exact h z List.mem_cons_self
theorem depth_strs : ∀ zs : List Str, PyData.depthAll (zs.map PyData.str) = 0
  | [] => rfl
  | z :: zs => by
    show max (PyData.depth (.str z)) (PyData.depthAll (zs.map PyData.str)) = 0
    rw [depth_strs zs]
    rfl
theorem shaped_strs {zs : List Str} (h : ∀ z ∈ zs, PyData.strOk z = true) : SeqAt.shaped (.list (zs.map PyData.str)) = true := by
  show (PyData.canLayAll0 (zs.map PyData.str) && decide (PyData.depthAll (zs.map PyData.str) + 1 ≤ 64)) = true
  rw [canLay_strs h, depth_strs]
  rfl
theorem dts_strs {H : Hp} : ∀ zs : List Str, Dts H (zs.map V.str) (zs.map PyData.str)
  | [] => .nil
  | z :: zs => .cons (.str z) (dts_strs zs)
theorem inV_strs (z : Str) : ∀ zs : List Str, inV (.str z) (zs.map V.str) = decide (z ∈ zs)
  | [] => rfl
  | y :: zs => by
    have ih := inV_strs z zs
    unfold inV at ih ⊢
    rw [List.map_cons, List.any_cons, ih]
    show ((y == z) || decide (z ∈ zs)) = decide (z ∈ y :: zs)
    by_cases h : y = z
    · subst h
      simp
    · have h2 : ¬ z = y := fun e => h e.symm
      simp [h, h2]
theorem flat_strs' : ∀ zs : List Str, (zs.map V.str).all flatV = true
  | [] => rfl
  | _ :: zs => flat_strs' zs
theorem Dts.take {H : Hp} : ∀ {ds : List PyData} {xs : List V} (i : Nat), Dts H xs ds → Dts H (xs.take i) (ds.take i)
  | _, _, 0, _ => .nil
  | _, _, _ + 1, .nil => .nil
  | _, _, i + 1, .cons h t => .cons h (Dts.take i t)
theorem strsOf_append : ∀ ds es : List PyData, strsOf (ds ++ es) = strsOf ds ++ strsOf es
  | [], _ => rfl
  | d :: ds, es => by
    have ih := strsOf_append ds es
    cases d with
    | str z =>
      show z :: strsOf (ds ++ es) = z :: (strsOf ds ++ strsOf es)
      rw [ih]
    | _ => exact ih
theorem cut_take (xs : List V) {i : Nat} (hi : i ≤ xs.length) : cutV xs none (some (i : Int)) = xs.take i := by
  unfold cutV
  rw [HT.sIx_none, HT.sIx_nat, Nat.min_eq_left hi, List.drop_zero, Nat.sub_zero]
def alphabet : Str := "abcdefghijklmnopqrstuvwxyz"
theorem in_alphabet (c : Nat) : decide (c ∈ alphabet.cps.toList) = letterB c := by
  have e : alphabet.cps.toList = List.range' 97 26 := by decide
  rw [e]
  unfold letterB
  by_cases h : 97 ≤ c ∧ c ≤ 122
  · rw [decide_eq_true (show c ∈ List.range' 97 26 from List.mem_range'.mpr ⟨c - 97, by omega, by omega⟩), decide_eq_true h.1, decide_eq_true h.2]
    rfl
  · rw [decide_eq_false (show ¬ c ∈ List.range' 97 26 from fun z => by
      obtain ⟨i, h1, h2⟩ := List.mem_range'.mp z
      exact h ⟨by omega, by omega⟩)]
    by_cases h1 : 97 ≤ c
    · rw [decide_eq_true h1, decide_eq_false (by omega)]
      rfl
    · rw [decide_eq_false h1]
      rfl
theorem sign_ok {z : Str} (h : PyData.strOk z = true) {c : Nat} (hc : c ∈ z.cps.toList) : PyData.strOk ⟨#[c]⟩ = true := by
  unfold PyData.strOk at h ⊢
  rw [← Array.all_toList, List.all_eq_true] at h
  have := h c hc
  simpa using this

section
variable {P : Program} {w : World} {K : PySem.W.Frag} {mg : Str → Option Value} {base : Heap}
theorem ok_isname {f : Addr} {fd : FuncData} {k : Nat} (F : Fun K "_law_is_name" "_law_is_name" sIsName f fd) (mI : mg "isinstance" = none) (mS : mg "str" = none) (mL : mg "len" = none) :
    FnOk P w K mg base CX0 (k + 1) f fd ["value"] spItem := by
  refine F.ok scIsName (fun vs H Q E h => ?_) (fun cdv A outer s H vs Q E hr h => ?_)
  · obtain ⟨v, d, rfl, _⟩ := h
    rfl
  · obtain ⟨v, d, rfl, hd, hz, q⟩ := h
    refine ⟨_, pss_cons (ps_if (PW.pt (pw_or (pt_not (pt_val (pe_callB call_isi (by rfl) mI boot_isinstance (pa_cons (pv 0) (pa_cons (pe_bltn (v := .ty "str") (by rfl) mS boot_str rfl) pa_nil)))))
        (pw_or1 (pt_not (pt_chain op_le op_le pe_int (pe_callB call_len_str (by rfl) mL boot_len (pa_cons (pv 0) pa_nil)) pe_int)))))
        (pss_one (ps_ret pe_bl)) pss_nil)
      (pss_one (ps_ret (pe_cmpR (op_eqD hr.units)
        (pe_lc (own := [("sign", 1)]) (g := gName 1) rfl scIsName.nd (pi_str (pv 0)) (blkOk_by (N := ["value", "sign"]) (sc := defScope sIsName) (by decide +kernel))
          (fun _ _ _ _ _ => pg_name (i := 1) scIsName.nd rfl (Or.inl rfl)) (fun _ _ _ _ _ => pts_one (pt_cmpR op_notIn_sign (pv 1) pe_str rfl))
          (fun _ _ _ _ _ => pv 1)) (pe_lst pa_nil) (nomark _)))), ?_⟩
    have e0 : Ev (tVar 0) (start ["value", "sign"] [v]) H v := ev_var rfl
    rcases hd.str_or with ⟨z, rfl, rfl⟩ | hn
    · refine q_when (b := !true || !(itemLen (.str z))) (et_or (et_not (et_B (ev_isi e0 hd (kit_str _)))) fun _ => et_not (et_test (ev_chain ev_c (ev_lenS e0 (Nat.le_trans hz.1 (by decide))) rv_I0 fun _ => ⟨_, ev_c, rv_I0⟩))) ?_ ?_
      · intro hb H1 e1
        have : itemB (.str z) = false := by
          have hb' : (!itemLen (.str z)) = true := hb
          show (_ && _) = false
          rw [show (decide (1 ≤ z.length) && decide (z.length ≤ 8)) = itemLen (.str z) from lenB z, (Bool.not_eq_true' _).mp hb']
          rfl
        rw [← this]
        exact q H1 e1
      · intro hb H1 e1
        have hb' : itemLen (.str z) = true := by
          have hb2 : (!itemLen (.str z)) = false := hb
          exact (Bool.not_eq_false' _).mp hb2
        have odd : ∀ y ∈ (z.cps.toList.filter fun c => !letterB c).map fun c => (⟨#[c]⟩ : Str), PyData.strOk y = true := fun y hy => by
          obtain ⟨c, hc, rfl⟩ := List.mem_map.mp hy
          exact sign_ok hz.2 (List.mem_filter.mp hc).1
        refine s_ret (v := .bl (itemB (.str z))) (ev_is (ev_eqLL (xs := ((z.cps.toList.filter fun c => !letterB c).map fun c => (⟨#[c]⟩ : Str)).map V.str)
          (ds := ((z.cps.toList.filter fun c => !letterB c).map fun c => (⟨#[c]⟩ : Str)).map PyData.str) (es := []) ?_ (el_lst ea_nil (Nat.zero_le _)) (dts_strs _) .nil (shaped_strs odd) rfl) ?_) fun H2 e2 => q H2 (e1.trans e2)
        · rw [List.map_map, ← given_filter (V.str ∘ fun c => (⟨#[c]⟩ : Str)) (fun c => !letterB c) (fun i => !letterB (z.cps.toList.getD i 0)) (fun i => .str ⟨#[z.cps.toList.getD i 0]⟩) z.cps.toList
            (fun i x e => by rw [List.getD_eq_getElem?_getD, e]; rfl) (fun i x e => by rw [List.getD_eq_getElem?_getD, e]; rfl)]
          rw [Array.length_toList]
          refine el_lcS _ _ (ev_var rfl) (Nat.le_trans hz.1 (by decide)) (fun _ => rfl) (fun i c H2 _ hc => ?_) (fun i c H2 e2 hc _ => ?_)
          · rw [List.getD_eq_getElem?_getD, hc]
            show EvT _ _ _ (!letterB c)
            rw [← in_alphabet]
            exact et_test (ev_op (ev_var rfl) ev_c rv_notInSign)
          · rw [List.getD_eq_getElem?_getD, hc]
            exact ev_var rfl
        · show V.bl _ = V.bl (_ && _)
          rw [show (decide (1 ≤ z.length) && decide (z.length ≤ 8)) = itemLen (.str z) from lenB z, hb', Bool.true_and]
          refine congrArg V.bl ?_
          show PyData.eqvAll _ [] = _
          cases hf : z.cps.toList.filter fun c => !letterB c with
          | nil =>
            have h1 : ∀ c ∈ z.cps.toList, letterB c = true := fun c hc => by
              have := List.filter_eq_nil_iff.mp hf c hc
              simpa using this
            rw [List.all_eq_true.mpr h1]
            rfl
          | cons c r =>
            have hm : c ∈ z.cps.toList.filter fun c => !letterB c := by rw [hf]; exact List.mem_cons_self
            obtain ⟨h1, h2⟩ := List.mem_filter.mp hm
            have h3 : z.cps.toList.all letterB = false := by
              rw [List.all_eq_false]
              exact ⟨c, h1, by simpa using h2⟩
            rw [h3]
            rfl
    · refine q_when (b := true) (et_is (et_or (b := true) (et_not (et_B (ev_isi e0 hd (kit_str _)))) fun hs => ?_) ?_) ?_ ?_
      · rw [hn] at hs
        cases hs
      · rw [hn]
        rfl
      · intro _ H1 e1
        have : itemB d = false := by
          cases d <;> first | rfl | cases hn
        rw [← this]
        exact q H1 e1
      · intro hb
        cases hb
end
end K07
namespace K07
open PySem PySem.Spec PyProof.Rows L2 Os Evl

section
variable {P : Program} {w : World} {K : PySem.W.Frag} {mg : Str → Option Value} {base : Heap}
def spRow : Sp := fun vs H Q _ => ∃ n v d, vs = [.int n, v] ∧ Dt H v d ∧ ShortL d ∧ ∀ H', Ex H H' → Q (.bl (rowB n d)) H'
theorem ok_isrow {f fN : Addr} {fd fdN : FuncData} {k : Nat} (F : Fun K "_law_is_row" "_law_is_row" sIsRow f fd) (GN : FnOk P w K mg base CX0 k fN fdN ["value"] spItem) (FN : Fun K "_law_is_name" "_law_is_name" sIsName fN fdN) (bN : Binds K fdN ["value"] [])
    (gN : mg "_law_is_name" = some (.ref fN)) (mI : mg "isinstance" = none) (mS : mg "list" = none) (mL : mg "len" = none) (mR : mg "range" = none) : FnOk P w K mg base CX0 (k + 1) f fd ["size", "value"] spRow := by
  refine F.ok scIsRow (fun vs H Q E h => ?_) (fun cdv A outer s H vs Q E hr h => ?_)
  · obtain ⟨n, v, d, rfl, _⟩ := h
    rfl
  · obtain ⟨n, v, d, rfl, hd, hz, q⟩ := h
    refine ⟨_, pss_cons (ps_if (PW.pt (pw_or (pt_not (pt_val (pe_callB call_isi (by rfl) mI boot_isinstance (pa_cons (pv 1) (pa_cons (pe_bltn (v := .ty "list") (by rfl) mS boot_list rfl) pa_nil)))))
        (pw_or1 (pt_cmpR op_ne (pe_callB call_len_seq (by rfl) mL boot_len (pa_cons (pv 1) pa_nil)) (pv 0) (nomark _)))))
        (pss_one (ps_ret pe_bl)) pss_nil)
      (pss_cons (ps_for PassesOwn.never rfl (pi_range1 (by rfl) mR (pa_cons (pv 0) pa_nil)) (pg_name (i := 2) scIsRow.nd rfl (Or.inl rfl))
        (pss_one (ps_if (PW.pt (pw_or (pt_not (pt_val (pe_call GN hr (by rfl) gN FN.kp bN .nil pass0 (pa_cons (pe_ix ix_list (pv 1) (pv 2) (fun _ _ => rfl)) pa_nil))))
          (pw_or1 (pt_cmpR op_in_seq (pe_ix ix_list (pv 1) (pv 2) (fun _ _ => rfl)) (pe_slice sl_list (pv 1) po_none (po_some (pv 2))) (by rfl)))))
          (pss_one (ps_ret pe_bl)) pss_nil)))
      (pss_one (ps_ret pe_bl))), ?_⟩
    have e0 : Ev (tVar 1) (start ["size", "value", "spot"] [.int n, v]) H v := ev_var rfl
    have en : Ev (tVar 0) (start ["size", "value", "spot"] [.int n, v]) H (.int n) := ev_var rfl
    rcases hd.list_or with ⟨a, xs, ds, rfl, ha, ht, rfl⟩ | hn
    · have hlen : xs.length = ds.length := ht.length
      refine q_when (b := !true || !decide (V.int xs.length = V.int n)) (et_or (et_not (et_B (ev_isi e0 hd (kit_list _)))) fun _ => et_test (ev_op (ev_len' e0 ha) en (rv_ne rfl))) ?_ ?_
      · intro hb H1 e1
        have : rowB n (.list ds) = false := by
          have hb2 : (!decide (V.int xs.length = V.int n)) = true := hb
          have hb3 := of_decide_eq_false ((Bool.not_eq_true' _).mp hb2)
          show (_ && _ && _) = false
          rw [decide_eq_false (show ¬ (ds.length : Int) = n from fun z => hb3 (by rw [hlen, z]))]
          rfl
        rw [← this]
        exact q H1 e1
      · intro hb H1 e1
        have hb2 : (!decide (V.int xs.length = V.int n)) = false := hb
        have hb3 : (ds.length : Int) = n := by
          rw [← hlen]
          exact V.int.inj (of_decide_eq_true ((Bool.not_eq_false' _).mp hb2))
        subst hb3
        have small := hz.1
        refine q_forR1 (n := (ds.length : Int)) (ea_cons (ev_var rfl) ea_nil) ⟨by omega, by omega⟩ (fun i σ' H' => Ex H H' ∧ (∃ y, σ' = [some (.int ds.length), some (.ref a), y]) ∧ (ds.take i).all itemB = true ∧ (strsOf (ds.take i)).Nodup)
          (fun H2 e2 => ⟨e1.trans e2, ⟨_, rfl⟩, rfl, .nil⟩) ?_ ?_
        · rintro i σ' H' hi ⟨e2, ⟨y, rfl⟩, hall, hnd⟩
          have hi' : i < ds.length := by omega
          obtain ⟨x, hx⟩ : ∃ x, xs[i]? = some x := ⟨_, List.getElem?_eq_getElem (by omega)⟩
          obtain ⟨d, hdi, hdt⟩ := ht.get hx
          have hmem : d ∈ ds := List.mem_of_getElem? hdi
          have htake : ds.take (i + 1) = ds.take i ++ [d] := by
            rw [List.take_add_one, hdi]
            rfl
          have a' : H' a = some (.lst xs) := e2 _ _ ha
          obtain ⟨t1, t2⟩ := all_strs (Dts.take i ht) hall
          have eix : Ev (tOp (rIxL K) (tVar 1) (tVar 2)) [some (.int ds.length), some (.ref a), some (.int (i : Int))] H' x := ev_op (ev_var rfl) (ev_var rfl) (rv_ixL (sq_of a') (atI_nat hx))
          have ename : EvT (tB (tCall spItem [] E0 (tCons (tOp (rIxL K) (tVar 1) (tVar 2)) tNil))) [some (.int ds.length), some (.ref a), some (.int (i : Int))] H' (itemB d) :=
            et_B (ev_sp (ea_cons eix ea_nil) fun H3 e3 Q q => ⟨_, d, rfl, hdt.same (same_ex (e2.trans e3)), hz.2 d hmem, fun H4 e4 => q H4 e4⟩)
          cases hb : itemB d with
          | false =>
            refine s_when (b := true) (et_is (et_or (b := true) (et_not ename) fun h => ?_) ?_) ?_ (fun h => nomatch h)
            · rw [hb] at h
              cases h
            · rw [hb]
              rfl
            · intro _ H3 e3
              have : rowB ds.length (.list ds) = false := by
                show (_ && _ && _) = false
                rw [show ds.all itemB = false from List.all_eq_false.mpr ⟨d, hmem, by rw [hb]; decide⟩, Bool.and_false]
                rfl
              rw [← this]
              exact q H3 (e2.trans e3)
          | true =>
            cases hdt with
            | str z =>
              have inb : EvT (tTest (tOp (rIn K false) (tOp (rIxL K) (tVar 1) (tVar 2)) (tSl (rSlL K) (tVar 1) tNoPart (tPart (tVar 2))))) [some (.int ds.length), some (.ref a), some (.int (i : Int))] H' (decide (z ∈ strsOf (ds.take i))) := by
                refine et_test (ev_is (v := V.bl (inV (.str z) (xs.take i))) (ev_opL (xs := xs.take i) eix (by rw [← cut_take xs (by omega)]; exact el_sl (ev_var rfl) eo_none (eo_some (ev_var rfl)) (sq_of a')) fun p H5 hp _ => ?_) ?_)
                · refine rv_isL (sq_of hp) ?_ (by rw [t1]; exact flat_strs' _)
                  rfl
                · rw [t1, inV_strs]
              refine s_when (b := !true || decide (z ∈ strsOf (ds.take i))) (et_or (et_is (et_not ename) (by rw [hb])) fun _ => inb) ?_ ?_
              · intro hm H3 e3
                have hm2 : z ∈ strsOf (ds.take i) := of_decide_eq_true hm
                have : rowB ds.length (.list ds) = false := by
                  show (_ && _ && _) = false
                  rw [decide_eq_false (show ¬ (strsOf ds).Nodup from fun nd => ?_), Bool.and_false]
                  have e5 : ds = ds.take i ++ (.str z :: ds.drop (i + 1)) := by
                    have e7 := List.drop_eq_getElem_cons hi'
                    rw [(List.getElem?_eq_some_iff.mp hdi).2] at e7
                    rw [← e7, List.take_append_drop]
                  rw [e5, strsOf_append] at nd
                  exact (List.nodup_append.mp nd).2.2 z hm2 z List.mem_cons_self rfl
                rw [← this]
                exact q H3 (e2.trans e3)
              · intro hm H3 e3
                have hm2 : ¬ z ∈ strsOf (ds.take i) := of_decide_eq_false hm
                refine ⟨e2.trans e3, ⟨_, rfl⟩, ?_, ?_⟩
                · rw [htake, List.all_append, hall]
                  show (true && (itemB (.str z) && true)) = true
                  rw [hb]
                  rfl
                · rw [htake, strsOf_append]
                  refine List.nodup_append.mpr ⟨hnd, List.nodup_cons.mpr ⟨by simp [strsOf], .nil⟩, fun x1 h1 x2 h2 e => ?_⟩
                  have e6 : x2 = z := List.mem_singleton.mp h2
                  rw [e, e6] at h1
                  exact hm2 h1
            | _ => cases hb
        · rintro σ' H' ⟨e2, ⟨y, rfl⟩, hall, hnd⟩
          have ei : ds.take (ds.length : Int).toNat = ds := by
            rw [Int.toNat_natCast, List.take_length]
          rw [ei] at hall hnd
          have : rowB ds.length (.list ds) = true := by
            show (_ && _ && _) = true
            rw [hall, decide_eq_true hnd, decide_eq_true rfl]
            rfl
          refine s_ret (v := .bl true) ev_c fun H3 e3 => ?_
          rw [← this]
          exact q H3 (e2.trans e3)
    · refine q_when (b := true) (et_is (et_or (b := true) (et_not (et_B (ev_isi e0 hd (kit_list _)))) fun hs => ?_) ?_) ?_ ?_
      · rw [hn] at hs
        cases hs
      · rw [hn]
        rfl
      · intro _ H1 e1
        have : rowB n d = false := by
          cases d <;> first | rfl | cases hn
        rw [← this]
        exact q H1 e1
      · intro hb
        cases hb
end
end K07
/-! the law's drawn numbers: what a source holds -/
namespace Os
open PySem PySem.Spec PyProof.Rows L2 Evl

/-- at s a source: the digits left, the seed, the number of mixed draws (at most B) -/
def Src (H : Hp) (s : Addr) (B : Nat) : Prop := ∃ x y z : Int, H s = some (.lst [.int x, .int y, .int z]) ∧ 0 ≤ x ∧ 0 ≤ y ∧ y < 2 ^ 140 ∧ 0 ≤ z ∧ z ≤ (B : Int)
theorem Src.mono {H : Hp} {s : Addr} {B C : Nat} (h : Src H s B) (le : B ≤ C) : Src H s C := by
  obtain ⟨x, y, z, h1, h2, h3, h4, h5, h6⟩ := h
  exact ⟨x, y, z, h1, h2, h3, h4, h5, by omega⟩
theorem Src.ex {H H' : Hp} {s : Addr} {B : Nat} (h : Src H s B) (e : Ex H H') : Src H' s B := by
  obtain ⟨x, y, z, h1, h2⟩ := h
  exact ⟨x, y, z, e _ _ h1, h2⟩
theorem Src.at {H : Hp} {s : Addr} {B : Nat} (h : Src H s B) : ∃ o, H s = some o := by
  obtain ⟨x, y, z, h1, _⟩ := h
  exact ⟨_, h1⟩
/-- all but the source stands as it was; the source has made at most n more mixed draws -/
structure Drew (s : Addr) (B : Nat) (H H' : Hp) : Prop where
  kept : Ex (hide s H) (hide s H')
  src : Src H' s B
theorem Drew.refl {s : Addr} {B : Nat} {H : Hp} (h : Src H s B) : Drew s B H H := ⟨Ex.refl _, h⟩
theorem Drew.trans {s : Addr} {B C : Nat} {H H1 H2 : Hp} (a : Drew s B H H1) (b : Drew s C H1 H2) : Drew s C H H2 := ⟨a.kept.trans b.kept, b.src⟩
theorem Drew.ex {s : Addr} {B : Nat} {H H1 H2 : Hp} (a : Drew s B H H1) (e : Ex H1 H2) : Drew s B H H2 := ⟨a.kept.trans (Same.hide (same_ex e)), a.src.ex e⟩
theorem Drew.get {s : Addr} {B : Nat} {H H' : Hp} (a : Drew s B H H') {b : Addr} {o : HO} (n : b ≠ s) (h : H b = some o) : H' b = some o := by
  have := a.kept b o (by rw [hide_ne n]; exact h)
  exact (hide_of this).2
theorem Drew.mono {s : Addr} {B C : Nat} {H H' : Hp} (a : Drew s B H H') (le : B ≤ C) : Drew s C H H' := ⟨a.kept, a.src.mono le⟩
/-- what is free behind was free before -/
theorem Drew.none {s : Addr} {B : Nat} {H H' : Hp} (a : Drew s B H H') (h0 : ∃ o, H s = some o) {p : Addr} (h : H' p = Option.none) : H p = Option.none := by
  obtain ⟨o, so⟩ := a.src.at
  have np : p ≠ s := fun e => by rw [e, so] at h; cases h
  cases q : H p with
  | none => rfl
  | some u =>
    rw [a.get np q] at h
    cases h
/-- a new object, or one that H did not know, is changed -/
theorem Drew.mut {s : Addr} {B : Nat} {H H' : Hp} (a : Drew s B H H') {p : Addr} {o : HO} (hs : ∃ u, H s = some u) (h : H p = Option.none) : Drew s B H (upd H' p o) := by
  obtain ⟨u, hu⟩ := hs
  have np : s ≠ p := ne_of_none hu h
  refine ⟨fun b v q => ?_, ?_⟩
  · obtain ⟨q1, q2⟩ := hide_of q
    rw [hide_ne q1, upd_ne (ne_of_none q2 h)]
    exact a.get q1 q2
  · obtain ⟨x, y, z, h1, h2⟩ := a.src
    exact ⟨x, y, z, by rw [upd_ne np]; exact h1, h2⟩

/-! ### data beside a source -/
theorem Dt.drew {s : Addr} {B : Nat} {H H' : Hp} {v : V} {d : PyData} (h : Dt (hide s H) v d) (a : Drew s B H H') : Dt (hide s H') v d := h.same (same_ex a.kept)
theorem Dt.seen {s : Addr} {H : Hp} {v : V} {d : PyData} (h : Dt (hide s H) v d) : Dt H v d := h.same hide_same
theorem Dts.seen {s : Addr} {H : Hp} {vs : List V} {ds : List PyData} (h : Dts (hide s H) vs ds) : Dts H vs ds := h.same hide_same

/-! ### the numbers -/
theorem mix_bound {y z : Int} (hy0 : 0 ≤ y) (hy : y < 2 ^ 140) (hz0 : 0 ≤ z) (hz : z < 2 ^ 80) (c : Int) (hc0 : 0 ≤ c) (hc : c < 2 ^ 30) : (y + c * z).natAbs < 2 ^ 141 := by
  have h1 : 0 ≤ c * z := Int.mul_nonneg hc0 hz0
  have h2 : c * z ≤ 2 ^ 30 * 2 ^ 80 := Int.mul_le_mul (by omega) (by omega) hz0 (by decide)
  have h3 : (2 : Int) ^ 30 * 2 ^ 80 ≤ 2 ^ 140 := by decide
  omega
theorem cube_nonneg {i : Int} (h : 0 ≤ i) : 0 ≤ i ^ (3 : Int).toNat := Int.pow_nonneg h
end Os
namespace K07
open PySem PySem.Spec PyProof.Rows L2 Os Evl
abbrev sSource : Stmt := topS 5
abbrev sPick : Stmt := topS 6
theorem scSource : FnScope ["script", "k", "cell"] ["script", "k"] (defScope sSource) := ⟨rfl, rfl, rfl, by decide +kernel, rfl, by decide +kernel, by decide +kernel⟩
theorem scPick : FnScope ["source", "count", "found", "mixed"] ["source", "count"] (defScope sPick) := ⟨rfl, rfl, rfl, by decide +kernel, rfl, by decide +kernel, by decide +kernel⟩
def cellOf (ns : List Int) (k : Nat) : Int := if (k : Int) < (ns.length : Int) then ns.getD k 0 else 0
section
variable {P : Program} {w : World} {K : PySem.W.Frag} {mg : Str → Option Value} {base : Heap}
def spSource (K : PySem.W.Frag) : Sp := fun vs H Q _ => ∃ (a : Addr) (ns : List Int) (k : Nat), vs = [.ref a, .int (k : Int)] ∧ SqL K H a (ns.map V.int) ∧ k ≤ 1000 ∧
  ∀ H' p, Ex H H' → H p = none → Src H' p 0 → Q (.ref p) H'
theorem ok_source {f : Addr} {fd : FuncData} {k : Nat} (F : Fun K "_law_source" "_law_source" sSource f fd) (mL : mg "len" = none) (mM : mg "max" = none) (mA : mg "abs" = none) :
    FnOk P w K mg base CX0 (k + 1) f fd ["script", "k"] (spSource K) := by
  refine F.ok scSource (fun vs H Q E h => ?_) (fun cdv A outer s H vs Q E hr h => ?_)
  · obtain ⟨a, ns, k, rfl, _⟩ := h
    rfl
  · obtain ⟨a, ns, k, rfl, hS, hk, q⟩ := h
    refine ⟨_, pss_cons (ps_set (i := 2) scSource.nd rfl (.inl rfl) (pe_ifExp (pt_cmpR op_lt (pv 1) (pe_callB call_len_seq (by rfl) mL boot_len (pa_cons (pv 0) pa_nil)) (nomark _)) (pe_ix ix_list (pv 0) (pv 1) (fun _ _ => rfl)) pe_int))
      (pss_one (ps_ret (pe_lst (pa_cons (pe_callB (call_max2 rfl) (by rfl) mM boot_max (pa_cons pe_int (pa_cons (pe_op op_sub (pe_callB call_abs (by rfl) mA boot_abs (pa_cons (pv 2) pa_nil)) (pe_op op_pow pe_int pe_int)) pa_nil)))
        (pa_cons (pe_op op_add (pe_op op_add (pe_op op_mul (pe_op op_mod (pe_callB call_abs (by rfl) mA boot_abs (pa_cons (pv 2) pa_nil)) (pe_op op_add (pe_op op_pow pe_int pe_int) pe_int)) pe_int) (pv 1)) pe_int)
        (pa_cons pe_int pa_nil)))))), ?_⟩
    refine q_asg (v := .int (cellOf ns k)) (ev_if (b := decide ((k : Int) < (ns.length : Int))) (et_test (ev_op (ev_var rfl) (ev_is (ev_len (ev_var rfl) hS) (by rw [List.length_map])) rv_I0)) (fun hb => ?_) (fun hb => ?_)) fun H1 e1 => ?_
    · have hb2 := of_decide_eq_true hb
      have e : cellOf ns k = ns.getD k 0 := if_pos hb2
      rw [e]
      refine ev_op (ev_var rfl) (ev_var rfl) (rv_ixL hS (atI_nat (j := k) ?_))
      rw [List.getElem?_map, List.getElem?_eq_getElem (by omega), List.getD_eq_getElem?_getD, List.getElem?_eq_getElem (by omega)]
      rfl
    · have hb2 := of_decide_eq_false hb
      have e : cellOf ns k = 0 := if_neg hb2
      rw [e]
      exact ev_c
    · have ec := ev_var (σ := (start ["script", "k", "cell"] [.ref a, .int (k : Int)]).set 2 (some (.int (cellOf ns k)))) (H := H1) (i := 2) (v := .int (cellOf ns k)) rfl
      generalize cellOf ns k = c at ec ⊢
      have e18 : (10 : Int) ^ (18 : Int).toNat = 1000000000000000000 := by decide
      have e36 : (10 : Int) ^ (36 : Int).toNat = 1000000000000000000000000000000000000 := by decide
      have pow : ∀ n : Int, 0 ≤ n → n ≤ 100 → CPow 10 n := fun n h1 h2 => ⟨h1, by omega, by decide⟩
      refine s_retL (el_lst (ea_cons (ev_max ev_c (ev_op (ev_abs ec) (ev_op ev_c ev_c (rv_I (pow 18 (by decide) (by decide)))) rv_I0))
        (ea_cons (ev_op (ev_op (ev_op (ev_op (ev_abs ec) (ev_op (ev_op ev_c ev_c (rv_I (pow 36 (by decide) (by decide)))) ev_c rv_I0) (rv_I (by rw [e36]; decide))) ev_c (rv_I (.inr (by decide)))) (ev_var rfl) rv_I0) ev_c rv_I0)
        (ea_cons ev_c ea_nil))) (show 3 ≤ 100000 by decide)) fun p H2 hp e2 h2 => q H2 p (e1.trans e2) (fresh_back e1 hp) ?_
      rw [e18, e36] at h2
      have ha : 0 ≤ (if c < 0 then -c else c) := by split <;> omega
      refine ⟨_, _, 0, h2, ?_, ?_, ?_, Int.le_refl _, Int.le_refl _⟩
      · split <;> omega
      · have := Int.emod_nonneg (if c < 0 then -c else c) (show (1000000000000000000000000000000000000 + 67 : Int) ≠ 0 by decide)
        omega
      · have := Int.emod_lt_of_pos (if c < 0 then -c else c) (show (0 : Int) < 1000000000000000000000000000000000000 + 67 by decide)
        omega

def spPick : Sp := fun vs H Q _ => ∃ (s : Addr) (n : Int) (B : Nat), vs = [.ref s, .int n] ∧ Src H s B ∧ B ≤ 1000000 ∧ 0 < n ∧ n ≤ 1000000 ∧
  ∀ H' r, Drew s (B + 1) H H' → 0 ≤ r → r < n → Q (.int r) H'
theorem ok_pick {f : Addr} {fd : FuncData} {k : Nat} (F : Fun K "_law_pick" "_law_pick" sPick f fd) : FnOk P w K mg base CX0 (k + 1) f fd ["source", "count"] spPick := by
  refine F.ok scPick (fun vs H Q E h => ?_) (fun cdv A outer s H vs Q E hr h => ?_)
  · obtain ⟨a, n, B, rfl, _⟩ := h
    rfl
  · obtain ⟨a, n, B, rfl, hS, hB, hn0, hn1, q⟩ := h
    refine ⟨_, pss_cons (ps_if (pt_cmpR op_gt (pe_ix ix_list (pv 0) pe_int (fun _ _ => rfl)) pe_int (nomark _))
        (pss_cons (ps_set (i := 2) scPick.nd rfl (.inl rfl) (pe_op op_mod (pe_ix ix_list (pv 0) pe_int (fun _ _ => rfl)) (pv 1)))
        (pss_cons (ps_asg (pe_op op_fdivW (pe_ix ix_list (pv 0) pe_int (fun _ _ => rfl)) (pv 1)) (pg_sub (pv 0) pe_int set_list))
        (pss_one (ps_ret (pv 2))))) pss_nil)
      (pss_cons (ps_asg (pe_op op_add (pe_ix ix_list (pv 0) pe_int (fun _ _ => rfl)) pe_int) (pg_sub (pv 0) pe_int set_list))
      (pss_cons (ps_set (i := 3) scPick.nd rfl (.inl rfl) (pe_op op_mod (pe_op op_powW (pe_op op_add (pe_ix ix_list (pv 0) pe_int (fun _ _ => rfl)) (pe_op op_mul pe_int (pe_ix ix_list (pv 0) pe_int (fun _ _ => rfl)))) pe_int) (pe_op op_add (pe_op op_pow pe_int pe_int) pe_int)))
      (pss_cons (ps_set (i := 3) scPick.nd rfl (.inl rfl) (pe_op op_mod (pe_op op_powW (pe_op op_add (pv 3) (pe_op op_mul pe_int (pe_ix ix_list (pv 0) pe_int (fun _ _ => rfl)))) pe_int) (pe_op op_add (pe_op op_pow pe_int pe_int) pe_int)))
      (pss_one (ps_ret (pe_op op_mod (pe_op op_fdivW (pv 3) pe_int) (pv 1))))))), ?_⟩
    obtain ⟨x, y, z, h1, hx, hy0, hy1, hz0, hz1⟩ := hS
    have at0 : ∀ {H' : Hp} {x' y' z' : Int}, H' a = some (.lst [.int x', .int y', .int z']) → ∀ {σ : L2.St}, σ[0]? = some (some (.ref a)) →
        Ev (tOp (rIxL K) (tVar 0) (tC (.int 0))) σ H' (.int x') ∧ Ev (tOp (rIxL K) (tVar 0) (tC (.int 1))) σ H' (.int y') ∧ Ev (tOp (rIxL K) (tVar 0) (tC (.int 2))) σ H' (.int z') := fun h σ e =>
      ⟨ev_op (ev_var e) ev_c (rv_ixL (sq_of h) (atI_nat (j := 0) rfl)), ev_op (ev_var e) ev_c (rv_ixL (sq_of h) (atI_nat (j := 1) rfl)), ev_op (ev_var e) ev_c (rv_ixL (sq_of h) (atI_nat (j := 2) rfl))⟩
    have upd_drew : ∀ {H1 : Hp} {x' z' : Int}, Ex H H1 → 0 ≤ x' → 0 ≤ z' → z' ≤ ((B + 1 : Nat) : Int) → Drew a (B + 1) H (upd H1 a (.lst [.int x', .int y, .int z'])) := fun e p1 p2 p3 =>
      ⟨by rw [hide_upd]; exact Same.hide (same_ex e), _, y, _, upd_same, p1, hy0, hy1, p2, p3⟩
    refine q_when (b := decide (0 < x)) (et_test (ev_op (at0 h1 rfl).1 ev_c rv_I0)) ?_ ?_
    · intro hb H1 e1
      refine q_asg (v := .int (x % n)) (ev_op (at0 (e1 _ _ h1) rfl).1 (ev_var rfl) (rv_I hn0)) fun H2 e2 => ?_
      refine q_setL (j := 0) (xs := [.int x, .int y, .int z]) (v := .int (x / n)) (e2 _ _ (e1 _ _ h1)) (ev_op (at0 (e2 _ _ (e1 _ _ h1)) rfl).1 (ev_var rfl) (rv_I (wide_div (b := 30) hn0 (by omega) (by decide) (by decide)))) (ev_var rfl) ev_c (show 0 < 3 by decide) fun H3 e3 => ?_
      refine s_ret (v := .int (x % n)) (ev_var rfl) fun H4 e4 => ?_
      exact q H4 _ ((upd_drew ((e1.trans e2).trans e3) (Int.ediv_nonneg hx (by omega)) hz0 (by omega)).ex e4) (Int.emod_nonneg x (by omega)) (Int.emod_lt_of_pos x hn0)
    · intro hb H1 e1
      refine q_setL (j := 2) (xs := [.int x, .int y, .int z]) (v := .int (z + 1)) (e1 _ _ h1) (ev_op (at0 (e1 _ _ h1) rfl).2.2 ev_c rv_I0) (ev_var rfl) ev_c (show 2 < 3 by decide) fun H2 e2 => ?_
      have d2 : Drew a (B + 1) H (upd H2 a (.lst [.int x, .int y, .int (z + 1)])) := upd_drew (e1.trans e2) hx (by omega) (by omega)
      have h3 : (upd H2 a (.lst [.int x, .int y, .int (z + 1)])) a = some (.lst [.int x, .int y, .int (z + 1)]) := upd_same
      have e38 : (10 : Int) ^ (38 : Int).toNat = 100000000000000000000000000000000000000 := by decide
      have e37 : (10 : Int) ^ (37 : Int).toNat = 10000000000000000000000000000000000000 := by decide
      have pow : ∀ n : Int, 0 ≤ n → n ≤ 100 → CPow 10 n := fun n h1 h2 => ⟨h1, by omega, by decide⟩
      show tSeq _ _ _ _ (upd H2 a (.lst [.int x, .int y, .int (z + 1)]))
      generalize (upd H2 a (.lst [.int x, .int y, .int (z + 1)])) = H3 at d2 h3
      have b1 : (y + 49979687 * (z + 1)).natAbs < 2 ^ 141 := mix_bound hy0 hy1 (by omega) (by omega) 49979687 (by decide) (by decide)
      refine q_asg (v := .int ((y + 49979687 * (z + 1)) ^ (3 : Int).toNat % ((10 : Int) ^ (38 : Int).toNat + 133))) (ev_op (ev_op (ev_op (at0 h3 rfl).2.1 (ev_op ev_c (at0 h3 rfl).2.2 (rv_I (.inl (by decide)))) rv_I0) ev_c (rv_I (cube_ok b1 (by decide) (by decide))))
        (ev_op (ev_op ev_c ev_c (rv_I (pow 38 (by decide) (by decide)))) ev_c rv_I0) (rv_I (by rw [e38]; decide))) fun H4 e4 => ?_
      have m1 := Int.emod_nonneg ((y + 49979687 * (z + 1)) ^ (3 : Int).toNat) (show ((10 : Int) ^ (38 : Int).toNat + 133) ≠ 0 by rw [e38]; decide)
      have m2 := Int.emod_lt_of_pos ((y + 49979687 * (z + 1)) ^ (3 : Int).toNat) (show 0 < ((10 : Int) ^ (38 : Int).toNat + 133) by rw [e38]; decide)
      generalize (y + 49979687 * (z + 1)) ^ (3 : Int).toNat % ((10 : Int) ^ (38 : Int).toNat + 133) = m at m1 m2
      rw [e38] at m2
      have b2 : (m + 32452843 * (z + 1)).natAbs < 2 ^ 141 := mix_bound m1 (by omega) (by omega) (by omega) 32452843 (by decide) (by decide)
      refine q_asg (v := .int ((m + 32452843 * (z + 1)) ^ (3 : Int).toNat % ((10 : Int) ^ (37 : Int).toNat + 43))) (ev_op (ev_op (ev_op (ev_var rfl) (ev_op ev_c (at0 (e4 _ _ h3) rfl).2.2 (rv_I (.inl (by decide)))) rv_I0) ev_c (rv_I (cube_ok b2 (by decide) (by decide))))
        (ev_op (ev_op ev_c ev_c (rv_I (pow 37 (by decide) (by decide)))) ev_c rv_I0) (rv_I (by rw [e37]; decide))) fun H5 e5 => ?_
      generalize (m + 32452843 * (z + 1)) ^ (3 : Int).toNat % ((10 : Int) ^ (37 : Int).toNat + 43) = u
      refine s_ret (v := .int (u / 131071 % n)) (ev_op (ev_op (ev_var rfl) ev_c (rv_I (wide_div (b := 30) (by decide) (by decide) (by decide) (by decide)))) (ev_var rfl) (rv_I hn0)) fun H6 e6 => ?_
      exact q H6 _ (((d2.ex e4).ex e5).ex e6) (Int.emod_nonneg _ (by omega)) (Int.emod_lt_of_pos _ hn0)
end
end K07
namespace K07
open PySem PySem.Spec PyProof.Rows L2 Os Evl
abbrev sShuf : Stmt := topS 7
theorem scShuf : FnScope ["source", "row", "left", "k"] ["source", "row"] (defScope sShuf) := ⟨rfl, rfl, rfl, by decide +kernel, rfl, by decide +kernel, by decide +kernel⟩
theorem perm_pop {α : Type} {l : List α} {k : Nat} {y : α} (acc : List α) (h : l[k]? = some y) : ((acc ++ [y]) ++ l.eraseIdx k).Perm (acc ++ l) := by
  obtain ⟨lt, e⟩ := List.getElem?_eq_some_iff.mp h
  rw [List.append_assoc]
  refine List.Perm.append_left acc ?_
  have e2 := List.drop_eq_getElem_cons lt
  rw [e] at e2
  rw [List.eraseIdx_eq_take_drop_succ]
  refine List.Perm.trans (l₂ := l.take k ++ y :: l.drop (k + 1)) (show (y :: (l.take k ++ l.drop (k + 1))).Perm _ from List.perm_middle.symm) ?_
  rw [← e2, List.take_append_drop]
section
variable {P : Program} {w : World} {K : PySem.W.Frag} {mg : Str → Option Value} {base : Heap}
def spShuf : Sp := fun vs H Q _ => ∃ (s a : Addr) (xs : List V) (B : Nat), vs = [.ref s, .ref a] ∧ Src H s B ∧ H a = some (.lst xs) ∧ a ≠ s ∧ xs.length ≤ 1000 ∧ B ≤ 900000 ∧
  ∀ H' p ys, Drew s (B + xs.length) H H' → H p = none → H' p = some (.lst ys) → ys.Perm xs → Q (.ref p) H'
theorem ok_shuf {f fP : Addr} {fd fdP : FuncData} {k : Nat} (F : Fun K "_law_shuffled" "_law_shuffled" sShuf f fd) (GP : FnOk P w K mg base CX0 k fP fdP ["source", "count"] spPick) (FP : Fun K "_law_pick" "_law_pick" sPick fP fdP) (bP : Binds K fdP ["source", "count"] [])
    (gP : mg "_law_pick" = some (.ref fP)) (mS : mg "list" = none) (mL : mg "len" = none) (mR : mg "range" = none) : FnOk P w K mg base CX0 (k + 1) f fd ["source", "row"] spShuf := by
  refine F.ok scShuf (fun vs H Q E h => ?_) (fun cdv A outer s H vs Q E hr h => ?_)
  · obtain ⟨s, a, xs, B, rfl, _⟩ := h
    rfl
  · obtain ⟨s, a, xs, B, rfl, hS, ha, nas, hl, hB, q⟩ := h
    refine ⟨_, pss_cons (ps_set (i := 2) scShuf.nd rfl (.inr rfl) (pe_callTy call_list_of (by rfl) mS boot_list (pa_cons (pv 1) pa_nil)))
      (pss_one (ps_ret (pe_lc (own := [("k", 3)]) (g := gName 3) (tt := tYes) (te := tBM K "list" rPopAt (tVar 2) (tCons (tCall spPick [] E0 (tCons (tVar 0) (tCons (tCB (rLenS K) (tCons (tVar 2) tNil)) tNil))) tNil)) rfl scShuf.nd (pi_range1 (by rfl) mR (pa_cons (pe_callB call_len_seq (by rfl) mL boot_len (pa_cons (pv 1) pa_nil)) pa_nil))
          (blkOk_by (N := ["source", "row", "left", "k"]) (sc := defScope sShuf) (by decide +kernel))
          (fun _ _ _ _ _ => pg_name (i := 3) scShuf.nd rfl (Or.inl rfl)) (fun _ _ _ _ _ => pts_nil)
          (fun _ _ _ _ _ => pe_bm PySem.F.plainAttrs_list PySem.F.slot_list_pop PySem.F.type_list_pop mt_popAt (pv 2)
            (pa_cons (pe_call GP hr (by rfl) gP FP.kp bP .nil pass0 (pa_cons (pv 0) (pa_cons (pe_callB call_len_seq (by rfl) mL boot_len (pa_cons (pv 2) pa_nil)) pa_nil))) pa_nil))))), ?_⟩
    -- left = list(row)
    refine ⟨.ref a, rfl, a, xs, rfl, .inl (sq_of ha), fun L hL => ?_⟩
    have e1 : Ex H (upd H L (.lst xs)) := Ex.new hL
    have src0 := hS.at
    -- range(len(row))
    refine ⟨.ref a, rfl, a, xs, rfl, .inl (sq_of (e1 _ _ ha)), (xs.length : Int), rfl, by omega, by omega, fun D hD => ?_⟩
    have nLD : D ≠ L := fun e => by
      rw [e, upd_same] at hD
      cases hD
    have hD0 : H D = none := fresh_back e1 hD
    refine lc_range (lo := 0) (n := (xs.length : Int).toNat) (fun i Hh => ∃ l acc, Hh L = some (.lst l) ∧ Hh D = some (.lst acc) ∧ (acc ++ l).Perm xs ∧ l.length + i = xs.length ∧ acc.length = i ∧ Drew s (B + i) H Hh) ?_ ?_ ?_
    · refine ⟨xs, [], ?_, upd_same, List.Perm.refl _, rfl, rfl, (((Drew.refl hS).ex e1).mut src0 hD0)⟩
      rw [upd_ne nLD.symm]
      exact upd_same
    · rintro i Hh hi ⟨l, acc, hl1, hD1, pm, len, len2, dr⟩
      have hi' : i < xs.length := by omega
      refine ⟨rfl, ?_⟩
      show tBM K "list" rPopAt (tVar 2) _ _ _ _
      refine ⟨.ref L, rfl, .inl ⟨rfl, _, sq_of hl1⟩, .ref s, rfl, .ref L, rfl, L, l, rfl, .inl (sq_of hl1), s, (l.length : Int), B + i, rfl, dr.src, by omega, by omega, by omega, fun H2 r dr2 r0 r1 => ?_⟩
      have nLs : L ≠ s := fun e => by
        obtain ⟨o, ho⟩ := src0
        rw [e, ho] at hL
        cases hL
      have nDs : D ≠ s := fun e => by
        obtain ⟨o, ho⟩ := src0
        rw [e, ho] at hD0
        cases hD0
      have hl2 : H2 L = some (.lst l) := dr2.get nLs hl1
      have hD2 : H2 D = some (.lst acc) := dr2.get nDs hD1
      have lt : r.toNat < l.length := by omega
      have er : r = (r.toNat : Int) := by omega
      refine ⟨L, l, r, r.toNat, l[r.toNat], rfl, rfl, hl2, by omega, by omega, (ixN_seq (by rw [er]; exact ixN_nat lt)).1, List.getElem?_eq_getElem lt, acc, ?_, ?_, ?_⟩
      · rw [upd_ne nLD]
        exact hD2
      · exact sz_lt (by omega)
      · refine ⟨l.eraseIdx r.toNat, acc ++ [l[r.toNat]], ?_, upd_same, (perm_pop acc (List.getElem?_eq_getElem lt)).trans pm, ?_, ?_, ?_⟩
        · rw [upd_ne nLD.symm]
          exact upd_same
        · rw [List.length_eraseIdx_of_lt lt]
          omega
        · rw [List.length_append, len2]
          rfl
        · exact ((dr.trans dr2).mut src0 hL).mut src0 hD0
    · rintro Hh ⟨l, acc, hl1, hD1, pm, len, len2, dr⟩
      have hn : l.length = 0 := by omega
      rw [List.length_eq_zero_iff.mp hn, List.append_nil] at pm
      exact q Hh D acc (by simpa using dr) hD0 hD1 pm
end
end K07
namespace K07
open PySem PySem.Spec PyProof.Rows L2 Os Evl
abbrev sNames : Stmt := topS 8
theorem scNames : FnScope ["source", "size", "letters", "style", "found", "k", "tail"] ["source", "size"] (defScope sNames) := ⟨rfl, rfl, rfl, by decide +kernel, rfl, by decide +kernel, by decide +kernel⟩
def tailOf (k : Nat) : Str := (⟨#[97 + k / 26]⟩ : Str) ++ (⟨#[97 + k % 26]⟩ : Str)
def nm (style k : Nat) : Str := match style with
  | 0 => tailOf k
  | 1 => ("abcdef" : Str) ++ tailOf k
  | _ => Txt.mul ⟨#[97 + k % 26]⟩ (1 + ((k / 26 : Nat) : Int))
def namesOf (style n : Nat) : List Str := (List.range n).map (nm style)
theorem names_ok : ∀ st, st < 3 → ((namesOf st 40).all fun z => nameB z && PyData.strOk z) = true ∧ (namesOf st 40).Nodup
  | 0, _ => by decide +kernel
  | 1, _ => by decide +kernel
  | 2, _ => by decide +kernel
theorem namesOf_take {st n : Nat} (h : n ≤ 40) : namesOf st n = (namesOf st 40).take n := by
  unfold namesOf
  rw [← List.map_take, List.take_range, Nat.min_eq_left h]
theorem names_all {st n : Nat} (hs : st < 3) (h : n ≤ 40) : (∀ z ∈ namesOf st n, nameB z = true ∧ PyData.strOk z = true) ∧ (namesOf st n).Nodup ∧ (namesOf st n).length = n := by
  obtain ⟨h1, h2⟩ := names_ok st hs
  refine ⟨fun z hz => ?_, ?_, ?_⟩
  · rw [namesOf_take h] at hz
    have := List.all_eq_true.mp h1 z (List.mem_of_mem_take hz)
    rwa [Bool.and_eq_true] at this
  · rw [namesOf_take h]
    exact h2.sublist (List.take_sublist _ _)
  · unfold namesOf
    rw [List.length_map, List.length_range]
theorem alph_at {k : Nat} (h : k < 26) : alphabet.cps.toList[k]? = some (97 + k) := by
  have e : alphabet.cps.toList = List.range' 97 26 := by decide
  rw [e, List.getElem?_range' h, Nat.one_mul]
/-- what a permutation of texts is -/
theorem perm_strs {zs : List Str} {ys : List V} (h : ys.Perm (zs.map V.str)) : ∃ us : List Str, ys = us.map V.str ∧ us.Perm zs := by
  have back : ∀ x ∈ ys, ∃ z, x = V.str z := fun x hx => by
    obtain ⟨z, _, e⟩ := List.mem_map.mp (h.mem_iff.mp hx)
    exact ⟨z, e.symm⟩
  let un : V → Str := fun v => match v with
    | .str z => z
    | _ => Str.empty
  refine ⟨ys.map un, ?_, ?_⟩
  · rw [List.map_map]
    have : ys.map (V.str ∘ un) = ys.map id := List.map_congr_left fun x hx => by
      obtain ⟨z, e⟩ := back x hx
      rw [e]
      rfl
    rw [this, List.map_id]
  · have := h.map un
    rw [List.map_map] at this
    have e : zs.map (un ∘ V.str) = zs := by
      have : zs.map (un ∘ V.str) = zs.map id := List.map_congr_left fun x _ => rfl
      rw [this, List.map_id]
    rwa [e] at this

section
variable {P : Program} {w : World} {K : PySem.W.Frag} {mg : Str → Option Value} {base : Heap}
def spNames : Sp := fun vs H Q _ => ∃ (s : Addr) (n B : Nat), vs = [.ref s, .int (n : Int)] ∧ Src H s B ∧ n ≤ 40 ∧ B ≤ 800000 ∧
  ∀ (H' : Hp) (p : Addr) (zs : List Str), Drew s (B + 1 + n) H H' → H p = none → H' p = some (.lst (zs.map V.str)) → zs.length = n → (∀ z ∈ zs, nameB z = true ∧ PyData.strOk z = true) → zs.Nodup → Q (.ref p) H'
theorem rv_addS {H : Hp} {i j : Str} (h : i.length + j.length ≤ 100000) : RV (fun x y H Q => ∃ i j, x = .str i ∧ y = .str j ∧ i.length + j.length ≤ sizeLine ∧ Q (.str (i ++ j)) H) (.str i) (.str j) H (.str (i ++ j)) :=
  fun H1 _ _ q => ⟨i, j, rfl, rfl, sz_of h, q H1 (Ex.refl H1)⟩
theorem rv_mulS {H : Hp} {z : Str} {n : Int} (h : MulOk z n) : RV rMulS (.str z) (.int n) H (.str (Txt.mul z n)) :=
  fun H1 _ _ q => ⟨z, n, rfl, rfl, h, q H1 (Ex.refl H1)⟩
theorem ok_names {f fP fS : Addr} {fd fdP fdS : FuncData} {k : Nat} (F : Fun K "_law_names" "_law_names" sNames f fd) (GP : FnOk P w K mg base CX0 k fP fdP ["source", "count"] spPick) (FP : Fun K "_law_pick" "_law_pick" sPick fP fdP) (bP : Binds K fdP ["source", "count"] [])
    (gP : mg "_law_pick" = some (.ref fP)) (GS : FnOk P w K mg base CX0 k fS fdS ["source", "row"] spShuf) (FS : Fun K "_law_shuffled" "_law_shuffled" sShuf fS fdS) (bS : Binds K fdS ["source", "row"] []) (gS : mg "_law_shuffled" = some (.ref fS)) (mR : mg "range" = none) :
    FnOk P w K mg base CX0 (k + 1) f fd ["source", "size"] spNames := by
  refine F.ok scNames (fun vs H Q E h => ?_) (fun cdv A outer s H vs Q E hr h => ?_)
  · obtain ⟨s, n, B, rfl, _⟩ := h
    rfl
  · obtain ⟨s, n, B, rfl, hS, hn, hB, q⟩ := h
    refine ⟨_, pss_cons (ps_set (i := 2) scNames.nd rfl (.inl rfl) pe_str)
      (pss_cons (ps_set (i := 3) scNames.nd rfl (.inl rfl) (pe_call GP hr (by rfl) gP FP.kp bP .nil pass0 (pa_cons (pv 0) (pa_cons pe_int pa_nil))))
      (pss_cons (ps_set (i := 4) scNames.nd rfl (.inl rfl) (pe_lst pa_nil))
      (pss_cons (ps_for PassesOwn.never rfl (pi_range1 (by rfl) mR (pa_cons (pv 1) pa_nil)) (pg_name (i := 5) scNames.nd rfl (Or.inl rfl))
        (pss_cons (ps_set (i := 6) scNames.nd rfl (.inl rfl) (pe_op op_add_str (pe_ix ix_str (pv 2) (pe_op op_fdiv (pv 5) pe_int) (fun _ _ => rfl)) (pe_ix ix_str (pv 2) (pe_op op_mod (pv 5) pe_int) (fun _ _ => rfl))))
        (pss_one (ps_expr (pe_bm PySem.F.plainAttrs_list PySem.F.slot_list_append PySem.F.type_list_append mt_append (pv 4) (pa_cons
          (pe_ix ix_list (pe_lst (pa_cons (pv 6) (pa_cons (pe_op op_add_str pe_str (pv 6)) (pa_cons (pe_op op_mulS (pe_ix ix_str (pv 2) (pe_op op_mod (pv 5) pe_int) (fun _ _ => rfl)) (pe_op op_add pe_int (pe_op op_fdiv (pv 5) pe_int))) pa_nil)))) (pv 3) (fun _ _ => rfl)) pa_nil))))))
      (pss_one (ps_ret (pe_call GS hr (by rfl) gS FS.kp bS .nil pass0 (pa_cons (pv 0) (pa_cons (pv 4) pa_nil)))))))), ?_⟩
    have src0 := hS.at
    refine q_asg (v := .str alphabet) ev_c fun H1 e1 => ?_
    -- style = _law_pick(source, 3)
    refine ⟨.ref s, rfl, s, 3, B, rfl, hS.ex e1, by omega, by decide, by decide, fun H2 st dr2 st0 st1 => ?_⟩
    obtain ⟨sty, rfl⟩ : ∃ sty : Nat, st = (sty : Int) := ⟨st.toNat, by omega⟩
    have hst : sty < 3 := by omega
    have D2 : Drew s (B + 1) H H2 := ((Drew.refl hS).ex e1).trans dr2
    refine q_asgL (xs := []) (el_lst ea_nil (Nat.zero_le _)) fun Fa H3 hFa e3 hF3 => ?_
    have hF0 : H Fa = none := D2.none src0 hFa
    have nFs : Fa ≠ s := fun e => by
      obtain ⟨o, ho⟩ := src0
      rw [e, ho] at hF0
      cases hF0
    refine q_forR1 (n := (n : Int)) (ea_cons (ev_var rfl) ea_nil) ⟨by omega, by omega⟩
      (fun i σ' H' => H' Fa = some (.lst ((namesOf sty i).map V.str)) ∧ Drew s (B + 1) H H' ∧ ∃ y5 y6, σ' = [some (.ref s), some (.int n), some (.str alphabet), some (.int (sty : Int)), some (.ref Fa), y5, y6])
      (fun H4 e4 => ⟨e4 _ _ hF3, (D2.ex e3).ex e4, _, _, rfl⟩) ?_ ?_
    · rintro i σ' H4 hi ⟨hF4, dr4, y5, y6, rfl⟩
      have hi' : i < 40 := by omega
      have small : ∀ c : Nat, ((⟨#[c]⟩ : Str)).length = 1 := fun _ => rfl
      have sL : alphabet.length ≤ 100000 := by decide
      have et : ∀ {σ : L2.St} {H' : Hp}, σ[2]? = some (some (.str alphabet)) → σ[5]? = some (some (.int (i : Int))) → Ev (tOp rIxS (tVar 2) (tOp (rI CDiv fun i j => .int (i / j)) (tVar 5) (tC (.int 26)))) σ H' (.str ⟨#[97 + i / 26]⟩) := fun h1 h2 =>
        ev_op (ev_var h1) (ev_is (ev_op (ev_var h2) ev_c (rv_I ⟨by decide, by decide⟩)) (show _ = V.int ((i / 26 : Nat) : Int) from congrArg V.int (by omega))) (rv_ixS sL (atI_nat (alph_at (by omega))))
      have em : ∀ {σ : L2.St} {H' : Hp}, σ[2]? = some (some (.str alphabet)) → σ[5]? = some (some (.int (i : Int))) → Ev (tOp rIxS (tVar 2) (tOp (rI (fun _ j => 0 < j) fun i j => .int (i % j)) (tVar 5) (tC (.int 26)))) σ H' (.str ⟨#[97 + i % 26]⟩) := fun h1 h2 =>
        ev_op (ev_var h1) (ev_is (ev_op (ev_var h2) ev_c (rv_I (by decide))) (show _ = V.int ((i % 26 : Nat) : Int) from congrArg V.int (by omega))) (rv_ixS sL (atI_nat (alph_at (by omega))))
      refine q_asg (v := .str (tailOf i)) (ev_op (et rfl rfl) (em rfl rfl) (rv_addS (by rw [small, small]; decide))) fun H5 e5 => ?_
      refine s_app (v := .str (nm sty i)) (e5 _ _ hF4) (ev_var rfl) (ev_opL1 (xs := [.str (tailOf i), .str (("abcdef" : Str) ++ tailOf i), .str (Txt.mul ⟨#[97 + i % 26]⟩ (1 + ((i / 26 : Nat) : Int)))]) (y := .int (sty : Int)) (el_lst (ea_cons (ev_var rfl) (ea_cons (ev_op ev_c (ev_var rfl) (rv_addS ?_))
        (ea_cons (ev_op (em rfl rfl) (ev_is (ev_op ev_c (ev_op (ev_var rfl) ev_c (rv_I ⟨by decide, by decide⟩)) rv_I0) (show _ = V.int (1 + ((i / 26 : Nat) : Int)) from congrArg V.int (by omega))) (rv_mulS (mul_small (by omega) (by omega) (by rw [small]; decide)))) ea_nil))) (show 3 ≤ 100000 by decide)) (fun _ _ => ev_var rfl) fun p H6 hp _ => rv_ixL (sq_of hp) (atI_nat ?_)) ?_ fun H6 e6 => ?_
      · unfold tailOf
        rw [strLen_append, small, small]
        decide
      · match sty, hst with
        | 0, _ => rfl
        | 1, _ => rfl
        | 2, _ => rfl
      · rw [List.length_map]
        unfold namesOf
        rw [List.length_map, List.length_range]
        omega
      · refine ⟨?_, ((dr4.ex e5).ex e6).mut src0 hF0, _, _, rfl⟩
        rw [upd_same]
        unfold namesOf
        rw [List.range_succ, List.map_append, List.map_append]
        rfl
    · rintro σ' H4 ⟨hF4, dr4, y5, y6, rfl⟩
      rw [Int.toNat_natCast] at hF4
      obtain ⟨a1, a2, a3⟩ := names_all hst hn
      have len : ((namesOf sty n).map V.str).length = n := by rw [List.length_map, a3]
      refine ⟨.ref s, rfl, .ref Fa, rfl, s, Fa, _, B + 1, rfl, dr4.src, hF4, nFs, by omega, by omega, fun H5 p ys dr5 hp hys pm => ?_⟩
      obtain ⟨us, rfl, pu⟩ := perm_strs pm
      rw [len] at dr5
      exact q H5 p us (dr4.trans dr5) (dr4.none src0 hp) hys (by rw [pu.length_eq, a3]) (fun z hz => a1 z (pu.mem_iff.mp hz)) (pu.nodup_iff.mpr a2)
end
end K07
/-! what evaluates to something of a kind: displays, sums and slices whose items are new objects themselves -/
namespace Os
open PySem PySem.Spec PyProof.Rows L2 Evl

/-- R is kept by more heap -/
def Up (R : Hp → V → Prop) : Prop := ∀ G G' v, Ex G G' → R G v → R G' v
section
variable (s : Addr) (R : Hp → V → Prop)
def EvR (te : TE) (σ : L2.St) (H : Hp) : Prop := ∀ H1, Ex H H1 → ∀ Q : VK, (∀ v H2, Ex H1 H2 → R (hide s H2) v → Q v H2) → te σ H1 Q
def EvAR (ta : TA) (σ : L2.St) (H : Hp) (n : Nat) : Prop := ∀ H1, Ex H H1 → ∀ Q : List V → Hp → Prop, (∀ vs H2, Ex H1 H2 → vs.length = n → (∀ v ∈ vs, R (hide s H2) v) → Q vs H2) → ta σ H1 Q
/-- a new list of lo to hi such items -/
def EvLR (te : TE) (σ : L2.St) (H : Hp) (lo hi : Nat) : Prop := ∀ H1, Ex H H1 → ∀ Q : VK,
  (∀ p xs H2, H1 p = none → Ex H1 H2 → H2 p = some (.lst xs) → lo ≤ xs.length → xs.length ≤ hi → (∀ x ∈ xs, R (hide s H2) x) → Q (.ref p) H2) → te σ H1 Q
/-- a list that stands at p, the same of its items -/
def LsR (H : Hp) (p : Addr) (lo hi : Nat) : Prop := p ≠ s ∧ ∃ xs, H p = some (.lst xs) ∧ lo ≤ xs.length ∧ xs.length ≤ hi ∧ ∀ x ∈ xs, R (hide s H) x
end
section
variable {K : PySem.W.Frag} {s : Addr} {R : Hp → V → Prop} {σ : L2.St} {H H' : Hp} {ta tb te : TE} {tl tr : TA} {n m lo hi lo' hi' : Nat} {v : V}
theorem hide_ex (e : Ex H H') : Ex (hide s H) (hide s H') := Same.hide (same_ex e)
theorem er_of (up : Up R) (h : Ev te σ H v) (r : R (hide s H) v) : EvR s R te σ H := fun H1 e Q q =>
  h H1 e _ fun H2 e2 => q v H2 e2 (up _ _ _ (hide_ex (e.trans e2)) r)
theorem er_mono (e : Ex H H') (h : EvR s R te σ H) : EvR s R te σ H' := fun H1 a Q q => h H1 (e.trans a) Q q
theorem ear_nil : EvAR s R tNil σ H 0 := fun H1 _ Q q => q [] H1 (Ex.refl _) rfl fun _ h => nomatch h
theorem ear_cons (up : Up R) (h : EvR s R te σ H) (hr : EvAR s R tr σ H n) : EvAR s R (tCons te tr) σ H (n + 1) := fun H1 e Q q =>
  h H1 e _ fun v H2 e2 r => hr H2 (e.trans e2) _ fun vs H3 e3 hn hv => q (v :: vs) H3 (e2.trans e3) (by rw [List.length_cons, hn]) fun x hx => by
    rcases List.mem_cons.mp hx with rfl | hx
    · exact up _ _ _ (hide_ex e3) r
    · exact hv x hx
theorem new_apart (hs : ∃ o, H s = some o) {p : Addr} (h : H p = none) : p ≠ s := fun e => by
  obtain ⟨o, ho⟩ := hs
  rw [e, ho] at h
  cases h
theorem elr_lst (up : Up R) (h : EvAR s R tl σ H n) (hn : n ≤ 1000) : EvLR s R (tLst tl) σ H n n := fun H1 e Q q =>
  h H1 e _ fun vs H2 e2 hl hv => ⟨by rw [hl]; exact sz_of (by omega), fun p hp => q p vs _ (fresh_back e2 hp) (e2.trans (Ex.new hp)) upd_same (by omega) (by omega) fun x hx => up _ _ _ (hide_ex (Ex.new hp)) (hv x hx)⟩
theorem elr_cat (up : Up R) (h1 : EvLR s R ta σ H lo hi) (h2 : EvLR s R tb σ H lo' hi') (hn : hi + hi' ≤ 10000) : EvLR s R (tOp rCat ta tb) σ H (lo + lo') (hi + hi') := fun H1 e Q q =>
  h1 H1 e _ fun p xs H2 hp e2 hx l1 l2 rx => h2 H2 (e.trans e2) _ fun p' ys H3 hp' e3 hy l3 l4 ry =>
    ⟨p, p', xs, ys, rfl, rfl, e3 _ _ hx, hy, sz_of (by omega), fun r hr => q r (xs ++ ys) _ (fresh_back (e2.trans e3) hr) ((e2.trans e3).trans (Ex.new hr)) upd_same (by rw [List.length_append]; omega) (by rw [List.length_append]; omega) fun x hx => by
      rcases List.mem_append.mp hx with z | z
      · exact up _ _ _ (hide_ex (e3.trans (Ex.new hr))) (rx x z)
      · exact up _ _ _ (hide_ex (Ex.new hr)) (ry x z)⟩
/-- the left one stands there already -/
theorem elr_catV (up : Up R) {p : Addr} (h1 : Ev ta σ H (.ref p)) (hp : LsR s R H p lo hi) (h2 : EvLR s R tb σ H lo' hi') (hn : hi + hi' ≤ 10000) : EvLR s R (tOp rCat ta tb) σ H (lo + lo') (hi + hi') := fun H1 e Q q => by
  obtain ⟨_, xs, hx, l1, l2, rx⟩ := hp
  exact h1 H1 e _ fun H2 e2 => h2 H2 (e.trans e2) _ fun p' ys H3 hp' e3 hy l3 l4 ry =>
    ⟨p, p', xs, ys, rfl, rfl, ((e.trans e2).trans e3) _ _ hx, hy, sz_of (by omega), fun r hr => q r (xs ++ ys) _ (fresh_back (e2.trans e3) hr) ((e2.trans e3).trans (Ex.new hr)) upd_same (by rw [List.length_append]; omega) (by rw [List.length_append]; omega) fun x hx => by
      rcases List.mem_append.mp hx with z | z
      · exact up _ _ _ (hide_ex (((e.trans e2).trans e3).trans (Ex.new hr))) (rx x z)
      · exact up _ _ _ (hide_ex (Ex.new hr)) (ry x z)⟩
/-- a list that is known whole -/
theorem elr_of (up : Up R) {xs : List V} (h : EvL te σ H xs) (l1 : lo ≤ xs.length) (l2 : xs.length ≤ hi) (r : ∀ x ∈ xs, R (hide s H) x) : EvLR s R te σ H lo hi := fun H1 e Q q =>
  h H1 e _ fun p H2 hp e2 h2 => q p xs H2 hp e2 h2 l1 l2 fun x hx => up _ _ _ (hide_ex (e.trans e2)) (r x hx)
/-- such a list as a value of another kind -/
theorem er_list {R' : Hp → V → Prop} (hs : ∃ o, H s = some o) (h : EvLR s R te σ H lo hi) (f : ∀ p xs G, G p = some (.lst xs) → lo ≤ xs.length → xs.length ≤ hi → (∀ x ∈ xs, R G x) → R' G (.ref p)) : EvR s R' te σ H := fun H1 e Q q =>
  h H1 e _ fun p xs H2 hp e2 h2 l1 l2 r => q (.ref p) H2 e2 (f p xs _ (by
    rw [hide_ne (new_apart (by obtain ⟨o, ho⟩ := hs; exact ⟨o, e _ _ ho⟩) hp)]
    exact h2) l1 l2 r)
theorem er_tup {R' : Hp → V → Prop} (up : Up R) (hs : ∃ o, H s = some o) (h : EvAR s R tl σ H n) (hn : n ≤ 1000) (f : ∀ p xs G, G p = some (.tup xs) → xs.length = n → (∀ x ∈ xs, R G x) → R' G (.ref p)) : EvR s R' (tTup tl) σ H := fun H1 e Q q =>
  h H1 e _ fun vs H2 e2 hl hv => ⟨by rw [hl]; exact sz_of (by omega), fun p hp => q (.ref p) _ (e2.trans (Ex.new hp)) (f p vs _ (by
    rw [hide_ne (new_apart (by obtain ⟨o, ho⟩ := hs; exact ⟨o, e2 _ _ (e _ _ ho)⟩) hp)]
    exact upd_same) hl fun x hx => up _ _ _ (hide_ex (Ex.new hp)) (hv x hx))⟩
theorem er_imp {R' : Hp → V → Prop} (h : EvR s R te σ H) (f : ∀ G v, R G v → R' G v) : EvR s R' te σ H := fun H1 e Q q => h H1 e Q fun v H2 e2 r => q v H2 e2 (f _ _ r)
/-- statements -/
theorem q_asgR {i : Nat} {D : Ends} {tz : TS} (h : EvR s R te σ H) (k : ∀ v H1, Ex H H1 → R (hide s H1) v → tz D (σ.set i (some v)) H1) : tSeq (tAsg te (gName i)) tz D σ H := h H (Ex.refl H) _ fun v H1 e r => k v H1 e r
theorem q_asgLR {i : Nat} {D : Ends} {tz : TS} (hs : ∃ o, H s = some o) (h : EvLR s R te σ H lo hi) (k : ∀ p H1, H p = none → Ex H H1 → LsR s R H1 p lo hi → tz D (σ.set i (some (.ref p))) H1) : tSeq (tAsg te (gName i)) tz D σ H :=
  h H (Ex.refl H) _ fun p xs H1 hp e h1 l1 l2 r => k p H1 hp e ⟨new_apart hs hp, xs, h1, l1, l2, r⟩
theorem LsR.drew {B : Nat} (up : Up R) {p : Addr} (h : LsR s R H p lo hi) (d : Drew s B H H') : LsR s R H' p lo hi := by
  obtain ⟨np, xs, hx, l1, l2, r⟩ := h
  exact ⟨np, xs, d.get np hx, l1, l2, fun x hx => up _ _ _ d.kept (r x hx)⟩
theorem LsR.ex (up : Up R) {p : Addr} (h : LsR s R H p lo hi) (e : Ex H H') : LsR s R H' p lo hi := by
  obtain ⟨np, xs, hx, l1, l2, r⟩ := h
  exact ⟨np, xs, e _ _ hx, l1, l2, fun x hx => up _ _ _ (hide_ex e) (r x hx)⟩
theorem LsR.pick {Kf : PySem.W.Frag} {p : Addr} {r : Int} {Q : VK} (h : LsR s R H p lo hi) (r0 : 0 ≤ r) (r1 : r < (lo : Int)) (q : ∀ x, R (hide s H) x → Q x H) : rIxL Kf (.ref p) (.int r) H Q := by
  obtain ⟨_, xs, hx, l1, l2, hr⟩ := h
  have lt : r.toNat < xs.length := by omega
  have e : r = (r.toNat : Int) := by omega
  rw [e]
  exact ⟨p, xs, _, xs[r.toNat], rfl, rfl, sq_of hx, atI_nat (List.getElem?_eq_getElem lt), q _ (hr _ (List.getElem_mem lt))⟩
end
end Os
namespace K07
open PySem PySem.Spec PyProof.Rows L2 Os Evl

/-- small data: what stands in the law's lists -/
structure It (d : PyData) : Prop where
  long : d.shown.length ≤ 5000
  deep : d.depth ≤ 3
  show' : d.showable = true
  flat : d.hasDict = false
  short : ShortS d
structure Good (d : PyData) : Prop where
  long : d.shown.length ≤ 1000000
  deep : d.depth ≤ 10
  show' : d.showable = true
  flat : d.hasDict = false
  short : ShortL d
theorem Good.fit {d : PyData} (h : Good d) : Fit sizeLine d := ⟨Nat.le_trans h.long (by decide), Nat.le_trans h.deep (by decide), h.show', h.flat⟩
theorem It.good {d : PyData} (h : It d) (hl : isListD d = false) : Good d :=
  ⟨Nat.le_trans h.long (by decide), Nat.le_trans h.deep (by decide), h.show', h.flat, by cases d <;> first | trivial | cases hl⟩
def Its (ds : List PyData) : Prop := ∀ d ∈ ds, It d
theorem its_all : ∀ {ds : List PyData}, Its ds → piled (PyData.shownAll ds) ≤ 5002 * ds.length ∧ PyData.depthAll ds ≤ 3 ∧ PyData.showableAll ds = true ∧ PyData.hasDictAll ds = false
  | [], _ => ⟨Nat.le_refl _, Nat.zero_le _, rfl, rfl⟩
  | d :: ds, h => by
    obtain ⟨h1, h2, h3, h4⟩ := its_all (ds := ds) fun x hx => h x (List.mem_cons_of_mem _ hx)
    have i := h d List.mem_cons_self
    refine ⟨?_, ?_, ?_, ?_⟩
    · show piled (d.shown :: PyData.shownAll ds) ≤ 5002 * (ds.length + 1)
      rw [piled_cons]
      have := i.long
      omega
    · show max d.depth (PyData.depthAll ds) ≤ 3
      have := i.deep
      omega
    · show (d.showable && PyData.showableAll ds) = true
      rw [i.show', h3]
      rfl
    · show (d.hasDict || PyData.hasDictAll ds) = false
      rw [i.flat, h4]
      rfl
theorem listText_len (ts : List Str) : (listText ts).length ≤ 2 + piled ts := by
  cases ts with
  | nil => decide
  | cons t ts =>
    unfold listText
    show (textFrom 1 ((("[" : Str) ++ ("" : Str)) ++ t) ts ++ ("]" : Str)).length ≤ _
    rw [strLen_append, textFrom_length_pos ts 1 _ (by decide), strLen_append, strLen_append, piled_cons]
    have e1 : ("[" : Str).length = 1 := by decide
    have e2 : ("" : Str).length = 0 := by decide
    have e3 : ("]" : Str).length = 1 := by decide
    omega
theorem tupleText_len (ts : List Str) : (tupleText ts).length ≤ 3 + piled ts := by
  unfold tupleText
  rw [strLen_append, strLen_append]
  have e1 : ("(" : Str).length = 1 := by decide
  have e2 : ((if ts.length == 1 then ",)" else ")" : String) : Str).length ≤ 2 := by split <;> decide
  cases ts with
  | nil => decide
  | cons t ts =>
    have := join_length_add (t :: ts) (fun h => nomatch h)
    omega
theorem good_list {ds : List PyData} (h : Its ds) (hl : ds.length ≤ 100) : Good (.list ds) := by
  obtain ⟨h1, h2, h3, h4⟩ := its_all h
  refine ⟨?_, ?_, h3, h4, by omega, fun d hd => (h d hd).short⟩
  · show (listText (PyData.shownAll ds)).length ≤ _
    have := listText_len (PyData.shownAll ds)
    omega
  · show PyData.depthAll ds + 1 ≤ 10
    omega
theorem good_tup {ds : List PyData} (h : Its ds) (hl : ds.length ≤ 100) : Good (.tuple ds) := by
  obtain ⟨h1, h2, h3, h4⟩ := its_all h
  refine ⟨?_, ?_, h3, h4, trivial⟩
  · show (tupleText (PyData.shownAll ds)).length ≤ _
    have := tupleText_len (PyData.shownAll ds)
    omega
  · show PyData.depthAll ds + 1 ≤ 10
    omega
theorem str_codes {z : Str} (h : PyData.strOk z = true) : ∀ c ∈ z.cps.toList, c < 1114112 := by
  unfold PyData.strOk at h
  rw [← Array.all_toList, List.all_eq_true] at h
  exact fun c hc => of_decide_eq_true (h c hc)
theorem str_of_codes {z : Str} (h : ∀ c ∈ z.cps.toList, c < 1114112) : PyData.strOk z = true := by
  unfold PyData.strOk
  rw [← Array.all_toList, List.all_eq_true]
  exact fun c hc => decide_eq_true (h c hc)
theorem it_str {z : Str} (h : z.length ≤ 490) (ok : PyData.strOk z = true) : It (.str z) := by
  refine ⟨?_, Nat.zero_le _, rfl, rfl, by omega, ok⟩
  show (reprText z).length ≤ _
  have := StrLaws.reprText_len z fun c hc => Nat.lt_trans (str_codes ok c hc) (by decide)
  omega
theorem int_shown : ∀ i, i < 64 → (PyData.int ((i : Nat) : Int)).shown.length ≤ 100 := by decide +kernel
theorem it_int {i : Nat} (h : i < 64) : It (.int (i : Int)) := by
  refine ⟨Nat.le_trans (int_shown i h) (by decide), Nat.zero_le _, ?_, rfl, trivial⟩
  show decide (((i : Int)).natAbs.log2 < 1920) = true
  refine decide_eq_true ?_
  have : ((i : Int)).natAbs = i := by omega
  rw [this]
  exact Nat.lt_of_le_of_lt (Nat.log2_le_self i) (by omega)
theorem it_none : It .none := ⟨by decide, Nat.zero_le _, rfl, rfl, trivial⟩
theorem it_bool (b : Bool) : It (.bool b) := ⟨by cases b <;> decide, Nat.zero_le _, rfl, rfl, trivial⟩
/-- lists and tuples of few short things are such data again -/
structure Tiny (d : PyData) : Prop where
  it : It d
  tiny : d.shown.length ≤ 100
  deep : d.depth ≤ 2
theorem tiny_all : ∀ {ds : List PyData}, (∀ d ∈ ds, Tiny d) → piled (PyData.shownAll ds) ≤ 102 * ds.length ∧ PyData.depthAll ds ≤ 2
  | [], _ => ⟨Nat.le_refl _, Nat.zero_le _⟩
  | d :: ds, h => by
    obtain ⟨h1, h2⟩ := tiny_all (ds := ds) fun x hx => h x (List.mem_cons_of_mem _ hx)
    have i := h d List.mem_cons_self
    constructor
    · show piled (d.shown :: PyData.shownAll ds) ≤ 102 * (ds.length + 1)
      rw [piled_cons]
      have := i.tiny
      omega
    · show max d.depth (PyData.depthAll ds) ≤ 2
      have := i.deep
      omega
theorem it_list {ds : List PyData} (h : ∀ d ∈ ds, Tiny d) (hl : ds.length ≤ 41) : It (.list ds) := by
  obtain ⟨_, _, h3, h4⟩ := its_all (ds := ds) fun d hd => (h d hd).it
  obtain ⟨h1, h2⟩ := tiny_all h
  refine ⟨?_, ?_, h3, h4, trivial⟩
  · show (listText (PyData.shownAll ds)).length ≤ _
    have := listText_len (PyData.shownAll ds)
    omega
  · show PyData.depthAll ds + 1 ≤ 3
    omega
theorem it_tup {ds : List PyData} (h : ∀ d ∈ ds, Tiny d) (hl : ds.length ≤ 41) : It (.tuple ds) := by
  obtain ⟨_, _, h3, h4⟩ := its_all (ds := ds) fun d hd => (h d hd).it
  obtain ⟨h1, h2⟩ := tiny_all h
  refine ⟨?_, ?_, h3, h4, trivial⟩
  · show (tupleText (PyData.shownAll ds)).length ≤ _
    have := tupleText_len (PyData.shownAll ds)
    omega
  · show PyData.depthAll ds + 1 ≤ 3
    omega
theorem tiny_str {z : Str} (h : z.length ≤ 9) (ok : PyData.strOk z = true) : Tiny (.str z) := by
  refine ⟨it_str (by omega) ok, ?_, Nat.zero_le _⟩
  show (reprText z).length ≤ _
  have := StrLaws.reprText_len z fun c hc => Nat.lt_trans (str_codes ok c hc) (by decide)
  omega

/-! ### the same of values in a heap -/
def ItV (G : Hp) (v : V) : Prop := ∃ d, Dt G v d ∧ It d
def TinyV (G : Hp) (v : V) : Prop := ∃ d, Dt G v d ∧ Tiny d
def GoodV (G : Hp) (v : V) : Prop := ∃ d, Dt G v d ∧ Good d
theorem itv_up : Up ItV := fun _ _ _ e ⟨d, h, i⟩ => ⟨d, h.same (same_ex e), i⟩
theorem tinyv_up : Up TinyV := fun _ _ _ e ⟨d, h, i⟩ => ⟨d, h.same (same_ex e), i⟩
theorem goodv_up : Up GoodV := fun _ _ _ e ⟨d, h, i⟩ => ⟨d, h.same (same_ex e), i⟩
theorem dts_of {G : Hp} {R : PyData → Prop} : ∀ {xs : List V}, (∀ x ∈ xs, ∃ d, Dt G x d ∧ R d) → ∃ ds, Dts G xs ds ∧ (∀ d ∈ ds, R d) ∧ ds.length = xs.length
  | [], _ => ⟨[], .nil, (fun _ h => nomatch h), rfl⟩
  | x :: xs, h => by
    obtain ⟨d, h1, h2⟩ := h x List.mem_cons_self
    obtain ⟨ds, h3, h4, h5⟩ := dts_of (xs := xs) fun y hy => h y (List.mem_cons_of_mem _ hy)
    refine ⟨d :: ds, .cons h1 h3, fun y hy => ?_, by rw [List.length_cons, h5, List.length_cons]⟩
    rcases List.mem_cons.mp hy with rfl | hy
    · exact h2
    · exact h4 y hy
theorem goodv_list {G : Hp} {p : Addr} {xs : List V} (h : G p = some (.lst xs)) (hl : xs.length ≤ 100) (hx : ∀ x ∈ xs, ItV G x) : GoodV G (.ref p) := by
  obtain ⟨ds, h1, h2, h3⟩ := dts_of hx
  exact ⟨.list ds, .lst h h1, good_list h2 (by omega)⟩
theorem goodv_tup {G : Hp} {p : Addr} {xs : List V} (h : G p = some (.tup xs)) (hl : xs.length ≤ 100) (hx : ∀ x ∈ xs, ItV G x) : GoodV G (.ref p) := by
  obtain ⟨ds, h1, h2, h3⟩ := dts_of hx
  exact ⟨.tuple ds, .tup h h1, good_tup h2 (by omega)⟩
theorem itv_list {G : Hp} {p : Addr} {xs : List V} (h : G p = some (.lst xs)) (hl : xs.length ≤ 41) (hx : ∀ x ∈ xs, TinyV G x) : ItV G (.ref p) := by
  obtain ⟨ds, h1, h2, h3⟩ := dts_of hx
  exact ⟨.list ds, .lst h h1, it_list h2 (by omega)⟩
theorem itv_tup {G : Hp} {p : Addr} {xs : List V} (h : G p = some (.tup xs)) (hl : xs.length ≤ 41) (hx : ∀ x ∈ xs, TinyV G x) : ItV G (.ref p) := by
  obtain ⟨ds, h1, h2, h3⟩ := dts_of hx
  exact ⟨.tuple ds, .tup h h1, it_tup h2 (by omega)⟩
theorem itv_str {G : Hp} {z : Str} (h : z.length ≤ 490) (ok : PyData.strOk z = true) : ItV G (.str z) := ⟨_, .str z, it_str h ok⟩
theorem goodv_str {G : Hp} {z : Str} (h : z.length ≤ 490) (ok : PyData.strOk z = true) : GoodV G (.str z) := ⟨_, .str z, (it_str h ok).good rfl⟩
theorem tinyv_str {G : Hp} {z : Str} (h : z.length ≤ 9) (ok : PyData.strOk z = true) : TinyV G (.str z) := ⟨_, .str z, tiny_str h ok⟩
end K07
namespace K07
open PySem PySem.Spec PyProof.Rows L2 Os Evl
abbrev sChanged : Stmt := topS 11
theorem scChanged : FnScope ["source", "row", "size", "at", "odd", "one", "some"] ["source", "row"] (defScope sChanged) := ⟨rfl, rfl, rfl, by decide +kernel, rfl, by decide +kernel, by decide +kernel⟩
theorem mem_cut {x : V} {xs : List V} {lo hi : Option Int} (h : x ∈ cutV xs lo hi) : x ∈ xs := List.mem_of_mem_drop (List.mem_of_mem_take h)
theorem mem_cutS {z : Str} {lo hi : Option Int} {c : Nat} (h : c ∈ (cutS z lo hi).cps.toList) : c ∈ z.cps.toList :=
  List.mem_of_mem_drop (List.mem_of_mem_take (show c ∈ (z.cps.toList.drop _).take _ from h))
theorem upper_ok {z : Str} (h : nameB z = true) : (Txt.upper z).length = z.length ∧ PyData.strOk (Txt.upper z) = true := by
  have hA : ∀ c ∈ z.cps.toList, c < 123 := fun c hc => by
    unfold nameB at h
    rw [Bool.and_eq_true] at h
    have := List.all_eq_true.mp h.2 c hc
    unfold letterB at this
    rw [Bool.and_eq_true] at this
    have := of_decide_eq_true this.2
    omega
  rw [PyProof.Rows.upper_ascii fun c hc => Nat.lt_trans (hA c hc) (by decide)]
  refine ⟨Array.size_map .., str_of_codes fun c hc => ?_⟩
  rw [Array.toList_map] at hc
  obtain ⟨d, hd, rfl⟩ := List.mem_map.mp hc
  have := hA d hd
  unfold PyProof.Rows.up1
  split <;> omega
theorem name_len {z : Str} (h : nameB z = true) : z.length ≤ 8 := by
  unfold nameB at h
  rw [Bool.and_eq_true, Bool.and_eq_true] at h
  exact of_decide_eq_true h.1.2
section
variable {K : PySem.W.Frag} {s : Addr} {R : Hp → V → Prop} {σ : L2.St} {H : Hp} {ta te : TE} {a : Addr} {xs : List V}
theorem el_rev (h : Ev te σ H (.ref a)) (hs : SqL K H a xs) : EvL (tRevL K te) σ H xs.reverse := fun H1 e Q q =>
  h H1 e _ fun H2 e2 => ⟨a, xs, rfl, ex_l (e.trans e2) hs, fun p hp => q p _ (fresh_back e2 hp) (e2.trans (Ex.new hp)) upd_same⟩
theorem er_tuple_of (hs : ∃ o, H s = some o) (h : Ev ta σ H (.ref a)) (ha : H a = some (.lst xs)) (f : ∀ p G, Ex (hide s H) G → G p = some (.tup xs) → R G (.ref p)) :
    EvR s R (tCB (fun xs H Q => ∃ p ys, xs = [V.ref p] ∧ ((SqL K H p ys ∧ ∀ l, H l = none → Q (.ref l) (upd H l (.tup ys))) ∨ (SqT K H p ys ∧ Q (.ref p) H))) (tCons ta tNil)) σ H := fun H1 e Q q =>
  h H1 e _ fun H2 e2 => ⟨a, xs, rfl, .inl ⟨sq_of ((e.trans e2) _ _ ha), fun p hp => q (.ref p) _ (e2.trans (Ex.new hp)) (f p _ (hide_ex ((e.trans e2).trans (Ex.new hp))) (by
    rw [hide_ne (new_apart (by obtain ⟨o, ho⟩ := hs; exact ⟨o, (e.trans e2) _ _ ho⟩) hp)]
    exact upd_same))⟩⟩
theorem ev_upper {z : Str} (h : Ev te σ H (.str z)) (hz : z.length ≤ 1000) : Ev (tM0 (fun x xs H Q => ∃ a, x = V.str a ∧ xs = [] ∧ a.length ≤ 5592405 ∧ Q (.str (Txt.upper a)) H) te) σ H (.str (Txt.upper z)) := fun H1 e Q q =>
  h H1 e _ fun H2 e2 => ⟨⟨_, rfl⟩, z, rfl, rfl, by omega, q H2 e2⟩
theorem ev_join {sep : Str} {zs : List Str} (h : Ev te σ H (.str sep)) (h2 : Ev ta σ H (.ref a)) (ha : H a = some (.lst (zs.map V.str))) (hz : (zs.map (·.length)).sum + zs.length * sep.length ≤ 100000) :
    Ev (tM1 (fun x xs H Q => ∃ a p, ∃ ys : List Str, x = V.str a ∧ xs = [.ref p] ∧ (SqL K H p (ys.map V.str) ∨ SqT K H p (ys.map V.str)) ∧ (ys.map (·.length)).sum + ys.length * a.length ≤ 16777216 ∧ Q (.str (Txt.join a ys)) H) te ta) σ H (.str (Txt.join sep zs)) := fun H1 e Q q =>
  h H1 e _ fun H2 e2 => ⟨⟨_, rfl⟩, h2 H2 (e.trans e2) _ fun H3 e3 => ⟨sep, a, zs, rfl, rfl, .inl (sq_of (((e.trans e2).trans e3) _ _ ha)), by omega, q H3 (e2.trans e3)⟩⟩
theorem ev_slS {z : Str} {tl th : TO} {lo hi : Option Int} (h : Ev te σ H (.str z)) (h1 : EvO tl σ H lo) (h2 : EvO th σ H hi) (hz : z.length ≤ 1000) : Ev (tSl rSlS te tl th) σ H (.str (cutS z lo hi)) := fun H1 e _ q =>
  h H1 e _ fun H2 e2 => h1 H2 (e.trans e2) _ fun H3 e3 => h2 H3 ((e.trans e2).trans e3) _ fun H4 e4 => ⟨z, rfl, sz_of (by omega), q H4 ((e2.trans e3).trans e4)⟩
end
theorem join_codes {sep : Str} : ∀ {zs : List Str} {c : Nat}, c ∈ (Str.join sep zs).cps.toList → c ∈ sep.cps.toList ∨ ∃ z ∈ zs, c ∈ z.cps.toList
  | [], c, h => by simp [Str.join, Str.empty] at h
  | [x], c, h => .inr ⟨x, List.mem_cons_self, h⟩
  | x :: y :: r, c, h => by
    have h : c ∈ (x ++ sep ++ Str.join sep (y :: r)).cps.toList := h
    rw [PyProof.Rows.cps_toList_append, PyProof.Rows.cps_toList_append] at h
    rcases List.mem_append.mp h with h | h
    · rcases List.mem_append.mp h with h | h
      · exact .inr ⟨x, List.mem_cons_self, h⟩
      · exact .inl h
    · rcases join_codes h with h | ⟨z, h1, h2⟩
      · exact .inl h
      · exact .inr ⟨z, List.mem_cons_of_mem _ h1, h2⟩
theorem sum_le {zs : List Str} (h : ∀ z ∈ zs, z.length ≤ 8) : (zs.map (·.length)).sum ≤ 8 * zs.length := by
  induction zs with
  | nil => exact Nat.le_refl _
  | cons z r ih =>
    rw [List.map_cons, List.sum_cons, List.length_cons]
    have := ih fun y hy => h y (List.mem_cons_of_mem _ hy)
    have := h z List.mem_cons_self
    omega
theorem joined_ok {zs : List Str} (hl : zs.length ≤ 40) (h : ∀ z ∈ zs, nameB z = true ∧ PyData.strOk z = true) : (Txt.join (" " : Str) zs).length ≤ 490 ∧ PyData.strOk (Txt.join (" " : Str) zs) = true := by
  have e : Txt.join (" " : Str) zs = Str.join (" " : Str) zs := StrLaws.glued_eq_join _ _
  rw [e]
  have h1 := StrLaws.join_length_le (" " : Str) zs
  have h2 := sum_le (zs := zs) fun z hz => name_len (h z hz).1
  have h3 : (" " : Str).length = 1 := by decide
  refine ⟨by rw [h3] at h1; omega, str_of_codes fun c hc => ?_⟩
  rcases join_codes hc with hc | ⟨z, hz, hc⟩
  · have e2 : (" " : Str).cps.toList = [32] := by decide
    rw [e2, List.mem_singleton] at hc
    omega
  · exact str_codes (h z hz).2 c hc
section
variable {P : Program} {w : World} {K : PySem.W.Frag} {mg : Str → Option Value} {base : Heap}
def spChanged : Sp := fun vs H Q _ => ∃ (s a : Addr) (zs : List Str) (B : Nat), vs = [.ref s, .ref a] ∧ Src H s B ∧ H a = some (.lst (zs.map V.str)) ∧ a ≠ s ∧ 1 ≤ zs.length ∧ zs.length ≤ 40 ∧ (∀ z ∈ zs, nameB z = true ∧ PyData.strOk z = true) ∧ B ≤ 700000 ∧
  ∀ (H' : Hp) (v : V), Drew s (B + 4) H H' → GoodV (hide s H') v → Q v H'
theorem ok_changed {f fP : Addr} {fd fdP : FuncData} {k : Nat} (F : Fun K "_law_changed" "_law_changed" sChanged f fd) (GP : FnOk P w K mg base CX0 k fP fdP ["source", "count"] spPick) (FP : Fun K "_law_pick" "_law_pick" sPick fP fdP) (bP : Binds K fdP ["source", "count"] [])
    (gP : mg "_law_pick" = some (.ref fP)) (mLen : mg "len" = none) (mTup : mg "tuple" = none) : FnOk P w K mg base CX0 (k + 1) f fd ["source", "row"] spChanged := by
  refine F.ok scChanged (fun vs H Q E h => ?_) (fun cdv A outer s H vs Q E hr h => ?_)
  · obtain ⟨s, a, zs, B, rfl, _⟩ := h
    rfl
  · obtain ⟨s, a, zs, B, rfl, hS, ha, nas, l1, l2, hz, hB, q⟩ := h
    refine ⟨_, (pss_cons (ps_set (i := 2) scChanged.nd rfl (.inl rfl) (pe_callB call_len_seq (by rfl) mLen boot_len (pa_cons (pv 1) pa_nil)))
      (pss_cons (ps_set (i := 3) scChanged.nd rfl (.inl rfl) (pe_call GP hr (by rfl) gP FP.kp bP .nil pass0 (pa_cons (pv 0) (pa_cons (pv 2) pa_nil))))
      (pss_cons (ps_set (i := 4) scChanged.nd rfl (.inl rfl) (pe_lst (pa_cons pe_str (pa_cons pe_str (pa_cons pe_str (pa_cons pe_str (pa_cons pe_str (pa_cons pe_str (pa_cons pe_str (pa_cons pe_str (pa_cons pe_str (pa_cons pe_str (pa_cons pe_str (pa_cons pe_str (pa_cons pe_str (pa_cons pe_str (pa_cons pe_non (pa_cons pe_int (pa_cons pe_bl pa_nil)))))))))))))))))))
      (pss_cons (ps_set (i := 4) scChanged.nd rfl (.inl rfl) (pe_op op_cat (pv 4) (pe_lst (pa_cons (pe_lst (pa_cons pe_str pa_nil)) (pa_cons (pe_tup (pa_cons pe_str pa_nil)) (pa_cons (pe_lst pa_nil) (pa_cons (pe_ix ix_list (pv 1) pe_int (fun _ _ => rfl)) (pa_cons (pe_op op_add_str (pe_ix ix_list (pv 1) (pv 3) (fun _ _ => rfl)) pe_str) (pa_cons (pe_slice sl_str (pe_ix ix_list (pv 1) (pv 3) (fun _ _ => rfl)) po_none (po_some (pe_un un_neg pe_int))) (pa_cons (pe_upper (pe_ix ix_list (pv 1) (pv 3) (fun _ _ => rfl))) (pa_cons (pe_op op_mulS pe_str pe_int) (pa_cons pe_str (pa_cons pe_str pa_nil)))))))))))))
      (pss_cons (ps_set (i := 5) scChanged.nd rfl (.inl rfl) (pe_ix ix_list (pv 4) (pe_call GP hr (by rfl) gP FP.kp bP .nil pass0 (pa_cons (pv 0) (pa_cons pe_int pa_nil))) (fun _ _ => rfl)))
      (pss_cons (ps_set (i := 6) scChanged.nd rfl (.inl rfl) (pe_lst (pa_cons (pe_op op_cat (pe_op op_cat (pe_slice sl_list (pv 1) po_none (po_some (pv 3))) (pe_lst (pa_cons (pv 5) pa_nil))) (pe_slice sl_list (pv 1) (po_some (pe_op op_add (pv 3) pe_int)) po_none)) (pa_cons (pe_op op_cat (pe_op op_cat (pe_slice sl_list (pv 1) po_none (po_some (pv 3))) (pe_lst (pa_cons (pv 5) pa_nil))) (pe_slice sl_list (pv 1) (po_some (pv 3)) po_none)) (pa_cons (pe_op op_cat (pv 1) (pe_lst (pa_cons (pv 5) pa_nil))) (pa_cons (pe_op op_cat (pe_slice sl_list (pv 1) po_none (po_some (pv 3))) (pe_slice sl_list (pv 1) (po_some (pe_op op_add (pv 3) pe_int)) po_none)) pa_nil))))))
      (pss_cons (ps_set (i := 6) scChanged.nd rfl (.inl rfl) (pe_op op_cat (pv 6) (pe_lst (pa_cons (pe_op op_cat (pv 1) (pe_slice sl_list (pv 1) po_none (po_some pe_int))) (pa_cons (pe_callTy call_tuple_of (by rfl) mTup boot_tuple (pa_cons (pv 1) pa_nil)) (pa_cons (pe_join pe_str (pv 1)) (pa_cons (pe_revL (pv 1)) (pa_cons (pe_lst (pa_cons (pv 1) pa_nil)) (pa_cons pe_non (pa_cons pe_bl (pa_cons (pv 2) (pa_cons (pe_ix ix_list (pv 1) pe_int (fun _ _ => rfl)) (pa_cons (pe_lst pa_nil) pa_nil)))))))))))))
      (pss_one (ps_ret (pe_ix ix_list (pv 6) (pe_ifExp (pt_cmpR op_gt (pe_call GP hr (by rfl) gP FP.kp bP .nil pass0 (pa_cons (pv 0) (pa_cons pe_int pa_nil))) pe_int (nomark _)) (pe_ix ix_list (pe_lst (pa_cons pe_int (pa_cons pe_int (pa_cons pe_int (pa_cons pe_int (pa_cons pe_int (pa_cons pe_int pa_nil))))))) (pe_call GP hr (by rfl) gP FP.kp bP .nil pass0 (pa_cons (pv 0) (pa_cons pe_int pa_nil))) (fun _ _ => rfl)) (pe_call GP hr (by rfl) gP FP.kp bP .nil pass0 (pa_cons (pv 0) (pa_cons pe_int pa_nil)))) (fun _ _ => rfl))))))))))), ?_⟩
    have src0 := hS.at
    have inTiny : ∀ G x, x ∈ zs.map V.str → TinyV G x := fun G x hx => by
      obtain ⟨z, h, rfl⟩ := List.mem_map.mp hx
      exact tinyv_str (Nat.le_trans (name_len (hz z h).1) (by decide)) (hz z h).2
    have inIt : ∀ G x, x ∈ zs.map V.str → ItV G x := fun G x hx => by
      obtain ⟨d, h1, h2⟩ := inTiny G x hx
      exact ⟨d, h1, h2.it⟩
    -- size, at
    refine q_asg (v := .int (zs.length : Int)) (ev_is (ev_len' (ev_var rfl) ha) (by rw [List.length_map])) fun H1 e1 => ?_
    refine ⟨.ref s, rfl, .int (zs.length : Int), rfl, s, (zs.length : Int), B, rfl, hS.ex e1, by omega, by omega, by omega, fun H2 r d2 r0 r1 => ?_⟩
    obtain ⟨t, rfl⟩ : ∃ t : Nat, r = (t : Int) := ⟨r.toNat, by omega⟩
    have D2 : Drew s (B + 1) H H2 := ((Drew.refl hS).ex e1).trans d2
    have ha2 : H2 a = some (.lst (zs.map V.str)) := D2.get nas ha
    have s2 := D2.src.at
    have row2 : LsR s ItV H2 a 0 40 := ⟨nas, _, ha2, Nat.zero_le _, by rw [List.length_map]; exact l2, inIt _⟩
    obtain ⟨zt, htz⟩ : ∃ z, zs[t]? = some z := ⟨_, List.getElem?_eq_getElem (by omega)⟩
    obtain ⟨z0, h0z⟩ : ∃ z, zs[0]? = some z := ⟨_, List.getElem?_eq_getElem (by omega)⟩
    have hzt := hz zt (List.mem_of_getElem? htz)
    have okt := hzt.2
    have ok0 := (hz z0 (List.mem_of_getElem? h0z)).2
    have lt := name_len hzt.1
    have l0 := name_len (hz z0 (List.mem_of_getElem? h0z)).1
    have at0 : (zs.map V.str)[0]? = some (.str z0) := by rw [List.getElem?_map, h0z]; rfl
    have att : (zs.map V.str)[t]? = some (.str zt) := by rw [List.getElem?_map, htz]; rfl
    have lena : ("a" : Str).length = 1 := by decide
    have lensp : (" " : Str).length = 1 := by decide
    have ok_a : PyData.strOk (zt ++ ("a" : Str)) = true := str_of_codes fun c hc => by
      rw [PyProof.Rows.cps_toList_append] at hc
      rcases List.mem_append.mp hc with h | h
      · exact str_codes okt c h
      · have e : ("a" : Str).cps.toList = [97] := by decide
        rw [e, List.mem_singleton] at h
        omega
    -- odd
    refine q_asgLR s2 (lo := 17) (hi := 17) (R := ItV) (elr_lst itv_up (ear_cons itv_up (er_of itv_up ev_c (itv_str (by decide +kernel) (by decide +kernel))) (ear_cons itv_up (er_of itv_up ev_c (itv_str (by decide +kernel) (by decide +kernel))) (ear_cons itv_up (er_of itv_up ev_c (itv_str (by decide +kernel) (by decide +kernel))) (ear_cons itv_up (er_of itv_up ev_c (itv_str (by decide +kernel) (by decide +kernel))) (ear_cons itv_up (er_of itv_up ev_c (itv_str (by decide +kernel) (by decide +kernel))) (ear_cons itv_up (er_of itv_up ev_c (itv_str (by decide +kernel) (by decide +kernel))) (ear_cons itv_up (er_of itv_up ev_c (itv_str (by decide +kernel) (by decide +kernel))) (ear_cons itv_up (er_of itv_up ev_c (itv_str (by decide +kernel) (by decide +kernel))) (ear_cons itv_up (er_of itv_up ev_c (itv_str (by decide +kernel) (by decide +kernel))) (ear_cons itv_up (er_of itv_up ev_c (itv_str (by decide +kernel) (by decide +kernel))) (ear_cons itv_up (er_of itv_up ev_c (itv_str (by decide +kernel) (by decide +kernel))) (ear_cons itv_up (er_of itv_up ev_c (itv_str (by decide +kernel) (by decide +kernel))) (ear_cons itv_up (er_of itv_up ev_c (itv_str (by decide +kernel) (by decide +kernel))) (ear_cons itv_up (er_of itv_up ev_c (itv_str (by decide +kernel) (by decide +kernel))) (ear_cons itv_up (er_of itv_up ev_c ⟨_, .non, it_none⟩) (ear_cons itv_up (er_of itv_up ev_c ⟨_, .int 0, it_int (i := 0) (by decide)⟩) (ear_cons itv_up (er_of itv_up ev_c ⟨_, .bl true, it_bool true⟩) ear_nil))))))))))))))))) (by decide)) fun p3 H3 hp3 e3 L3 => ?_
    have ha3 := e3 _ _ ha2
    have s3 := (D2.src.ex e3).at
    have erow3 : Ev (tOp (rIxL K) (tVar 1) (tVar 3)) _ H3 (.str zt) := ev_op (σ := [some (.ref s), some (.ref a), some (.int (zs.length : Int)), some (.int (t : Int)), some (.ref p3), none, none]) (ev_var rfl) (ev_var rfl) (rv_ixL (sq_of ha3) (atI_nat att))
    refine q_asgLR s3 (lo := 17 + 10) (hi := 17 + 10) (R := ItV) (elr_catV itv_up (ev_var rfl) L3 (elr_lst itv_up (ear_cons itv_up (er_list s3 (elr_lst tinyv_up (ear_cons tinyv_up (er_of tinyv_up ev_c (tinyv_str (by decide +kernel) (by decide +kernel))) ear_nil) (by decide)) (fun p xs G h _ l r => itv_list h (by omega) r)) (ear_cons itv_up (er_tup tinyv_up s3 (ear_cons tinyv_up (er_of tinyv_up ev_c (tinyv_str (by decide +kernel) (by decide +kernel))) ear_nil) (by decide) (fun p xs G h l r => itv_tup h (by omega) r)) (ear_cons itv_up (er_list (R := TinyV) s3 (elr_lst tinyv_up ear_nil (by decide)) (fun p xs G h _ l r => itv_list h (by omega) r)) (ear_cons itv_up (er_of itv_up (ev_op (ev_var rfl) ev_c (rv_ixL (sq_of ha3) (atI_nat (j := 0) at0))) (itv_str (by omega) ok0)) (ear_cons itv_up (er_of itv_up (ev_op erow3 ev_c (rv_addS (by rw [lena]; omega))) (itv_str (by rw [strLen_append, lena]; omega) ok_a)) (ear_cons itv_up (er_of itv_up (ev_slS erow3 eo_none (eo_some (ev_un ev_c ru_neg)) (by omega)) (itv_str (Nat.le_trans (cutS_length _ _ _) (by omega)) (str_of_codes fun c hc => str_codes okt c (mem_cutS hc)))) (ear_cons itv_up (er_of itv_up (ev_upper erow3 (by omega)) (itv_str (by rw [(upper_ok hzt.1).1]; omega) (upper_ok hzt.1).2)) (ear_cons itv_up (er_of itv_up (ev_op ev_c ev_c (rv_mulS (mul_small (by decide) (by decide) (by decide)))) (itv_str (by decide +kernel) (by decide +kernel))) (ear_cons itv_up (er_of itv_up ev_c (itv_str (by decide +kernel) (by decide +kernel))) (ear_cons itv_up (er_of itv_up ev_c (itv_str (by decide +kernel) (by decide +kernel))) ear_nil)))))))))) (by decide)) (by decide)) fun p4 H4 hp4 e4 L4 => ?_
    have D4 : Drew s (B + 1) H H4 := (D2.ex e3).ex e4
    -- one
    refine ⟨.ref p4, rfl, .ref s, rfl, s, 27, B + 1, rfl, D4.src, by omega, by decide, by decide, fun H5 r5 d5 r50 r51 => ?_⟩
    have D5 := D4.trans d5
    refine (L4.drew itv_up d5).pick r50 r51 fun v5 it5 => ?_
    have ha5 : H5 a = some (.lst (zs.map V.str)) := D5.get nas ha
    have s5 := D5.src.at
    have row5 : LsR s ItV H5 a 0 40 := ⟨nas, _, ha5, Nat.zero_le _, by rw [List.length_map]; exact l2, inIt _⟩
    refine q_asgLR s5 (lo := 4) (hi := 4) (R := GoodV) (elr_lst goodv_up (ear_cons goodv_up (er_list s5 (elr_cat itv_up (elr_cat itv_up (elr_of itv_up (el_sl (ev_var rfl) eo_none (eo_some (ev_var rfl)) (sq_of ha5)) (Nat.zero_le _) (Nat.le_trans (cutV_length _ _ _) (by rw [List.length_map]; exact l2)) (fun x hx => inIt _ x (mem_cut hx))) (elr_lst itv_up (ear_cons itv_up (er_of itv_up (ev_var rfl) it5) ear_nil) (by decide)) (by decide)) (elr_of itv_up (el_sl (ev_var rfl) (eo_some (ev_op (ev_var rfl) ev_c rv_I0)) eo_none (sq_of ha5)) (Nat.zero_le _) (Nat.le_trans (cutV_length _ _ _) (by rw [List.length_map]; exact l2)) (fun x hx => inIt _ x (mem_cut hx))) (by decide)) (fun p xs G h _ l r => goodv_list h (by omega) r)) (ear_cons goodv_up (er_list s5 (elr_cat itv_up (elr_cat itv_up (elr_of itv_up (el_sl (ev_var rfl) eo_none (eo_some (ev_var rfl)) (sq_of ha5)) (Nat.zero_le _) (Nat.le_trans (cutV_length _ _ _) (by rw [List.length_map]; exact l2)) (fun x hx => inIt _ x (mem_cut hx))) (elr_lst itv_up (ear_cons itv_up (er_of itv_up (ev_var rfl) it5) ear_nil) (by decide)) (by decide)) (elr_of itv_up (el_sl (ev_var rfl) (eo_some (ev_var rfl)) eo_none (sq_of ha5)) (Nat.zero_le _) (Nat.le_trans (cutV_length _ _ _) (by rw [List.length_map]; exact l2)) (fun x hx => inIt _ x (mem_cut hx))) (by decide)) (fun p xs G h _ l r => goodv_list h (by omega) r)) (ear_cons goodv_up (er_list s5 (elr_catV itv_up (ev_var rfl) row5 (elr_lst itv_up (ear_cons itv_up (er_of itv_up (ev_var rfl) it5) ear_nil) (by decide)) (by decide)) (fun p xs G h _ l r => goodv_list h (by omega) r)) (ear_cons goodv_up (er_list s5 (elr_cat itv_up (elr_of itv_up (el_sl (ev_var rfl) eo_none (eo_some (ev_var rfl)) (sq_of ha5)) (Nat.zero_le _) (Nat.le_trans (cutV_length _ _ _) (by rw [List.length_map]; exact l2)) (fun x hx => inIt _ x (mem_cut hx))) (elr_of itv_up (el_sl (ev_var rfl) (eo_some (ev_op (ev_var rfl) ev_c rv_I0)) eo_none (sq_of ha5)) (Nat.zero_le _) (Nat.le_trans (cutV_length _ _ _) (by rw [List.length_map]; exact l2)) (fun x hx => inIt _ x (mem_cut hx))) (by decide)) (fun p xs G h _ l r => goodv_list h (by omega) r)) ear_nil)))) (by decide)) fun p6 H6 hp6 e6 L6 => ?_
    have ha6 := e6 _ _ ha5
    have s6 := (D5.src.ex e6).at
    have row6 := row5.ex itv_up e6
    have rowIt : ItV (hide s H6) (.ref a) := itv_list (by rw [hide_ne nas]; exact ha6) (by rw [List.length_map]; omega) (inTiny _)
    have joined : GoodV (hide s H6) (.str (Txt.join (" " : Str) zs)) := goodv_str (joined_ok l2 hz).1 (joined_ok l2 hz).2
    refine q_asgLR s6 (lo := 4 + 10) (hi := 4 + 10) (R := GoodV) (elr_catV goodv_up (ev_var rfl) L6 (elr_lst goodv_up (ear_cons goodv_up (er_list s6 (elr_catV itv_up (ev_var rfl) row6 (elr_of itv_up (el_sl (ev_var rfl) eo_none (eo_some ev_c) (sq_of ha6)) (Nat.zero_le _) (Nat.le_trans (cutV_length _ _ _) (by rw [List.length_map]; exact l2)) (fun x hx => inIt _ x (mem_cut hx))) (by decide)) (fun p xs G h _ l r => goodv_list h (by omega) r)) (ear_cons goodv_up (er_tuple_of s6 (ev_var rfl) ha6 (fun p G e h => goodv_tup h (by rw [List.length_map]; omega) (fun x hx => inIt G x hx))) (ear_cons goodv_up (er_of goodv_up (ev_join ev_c (ev_var rfl) ha6 (by have := sum_le (zs := zs) fun z h => name_len (hz z h).1; rw [lensp]; omega)) joined) (ear_cons goodv_up (er_list s6 (elr_of (lo := 0) (hi := 40) itv_up (el_rev (ev_var rfl) (sq_of ha6)) (Nat.zero_le _) (by rw [List.length_reverse, List.length_map]; exact l2) (fun x hx => inIt _ x (List.mem_reverse.mp hx))) (fun p xs G h _ l r => goodv_list h (by omega) r)) (ear_cons goodv_up (er_list s6 (elr_lst itv_up (ear_cons itv_up (er_of itv_up (ev_var rfl) rowIt) ear_nil) (by decide)) (fun p xs G h _ l r => goodv_list h (by omega) r)) (ear_cons goodv_up (er_of goodv_up ev_c ⟨_, .non, it_none.good rfl⟩) (ear_cons goodv_up (er_of goodv_up ev_c ⟨_, .bl true, (it_bool true).good rfl⟩) (ear_cons goodv_up (er_of goodv_up (ev_var rfl) ⟨_, .int _, (it_int (i := zs.length) (by omega)).good rfl⟩) (ear_cons goodv_up (er_of goodv_up (ev_op (ev_var rfl) ev_c (rv_ixL (sq_of ha6) (atI_nat (j := 0) at0))) (goodv_str (by omega) ok0)) (ear_cons goodv_up (er_list (R := ItV) s6 (elr_lst itv_up ear_nil (by decide)) (fun p xs G h _ l r => goodv_list h (by omega) r)) ear_nil)))))))))) (by decide)) (by decide)) fun p7 H7 hp7 e7 L7 => ?_
    have D7 : Drew s (B + 2) H H7 := (D5.ex e6).ex e7
    -- the end
    have fin : ∀ H8 (j : Int), Drew s (B + 4) H7 H8 → 0 ≤ j → j < 14 → rIxL K (.ref p7) (.int j) H8 Q := fun H8 j d8 j0 j1 =>
      (L7.drew goodv_up d8).pick j0 (show j < ((4 + 10 : Nat) : Int) from j1) fun v8 g8 => q H8 v8 (D7.trans d8) g8
    refine ⟨.ref p7, rfl, .ref s, rfl, s, 3, B + 2, rfl, D7.src, by omega, by decide, by decide, fun H8 r8 d8 r80 r81 => ?_⟩
    refine ⟨r8, 0, rfl, rfl, _, rfl, ite2 (fun _ => ?_) (fun _ => ?_)⟩
    · refine ⟨by decide, fun p9 hp9 => ?_⟩
      have n9 : p9 ≠ s := new_apart d8.src.at hp9
      have d9 := d8.ex (Ex.new (o := .lst [.int 0, .int 0, .int 0, .int 1, .int 2, .int 3]) hp9)
      refine ⟨.ref s, rfl, s, 6, B + 2 + 1, rfl, d9.src, by omega, by decide, by decide, fun H10 r10 d10 r100 r101 => ?_⟩
      have h10 := d10.get n9 (show upd H8 p9 (.lst [.int 0, .int 0, .int 0, .int 1, .int 2, .int 3]) p9 = _ from upd_same)
      obtain ⟨t10, rfl⟩ : ∃ t : Nat, r10 = (t : Int) := ⟨r10.toNat, by omega⟩
      have small : ∀ j < 6, ∃ y : Int, ([.int 0, .int 0, .int 0, .int 1, .int 2, .int 3] : List V)[j]? = some (.int y) ∧ 0 ≤ y ∧ y < 14 := fun j hj =>
        match j, hj with
        | 0, _ => ⟨0, rfl, by decide, by decide⟩
        | 1, _ => ⟨0, rfl, by decide, by decide⟩
        | 2, _ => ⟨0, rfl, by decide, by decide⟩
        | 3, _ => ⟨1, rfl, by decide, by decide⟩
        | 4, _ => ⟨2, rfl, by decide, by decide⟩
        | 5, _ => ⟨3, rfl, by decide, by decide⟩
      obtain ⟨y, hy, y0, y1⟩ := small t10 (by omega)
      exact ⟨p9, _, _, .int y, rfl, rfl, sq_of h10, atI_nat hy, fin H10 y ((d9.trans d10).mono (by omega)) y0 y1⟩
    · refine ⟨.ref s, rfl, s, 14, B + 2 + 1, rfl, d8.src, by omega, by decide, by decide, fun H10 r10 d10 r100 r101 => ?_⟩
      exact fin H10 r10 ((d8.trans d10).mono (by omega)) r100 r101
end
end K07
namespace K07
open PySem PySem.Spec PyProof.Rows L2 Os Evl
abbrev sRight : Stmt := topS 12
abbrev sLaw : Stmt := topS 13
theorem scRight : FnScope ["size", "value", "kept", "due", "found"] ["size", "value"] (defScope sRight) := ⟨rfl, rfl, rfl, by decide +kernel, rfl, by decide +kernel, by decide +kernel⟩
theorem scLaw : FnScope ["script", "k", "source", "turn", "size", "row", "other", "change", "value"] ["script"] (defScope sLaw) := ⟨rfl, rfl, rfl, by decide +kernel, rfl, by decide +kernel, by decide +kernel⟩
theorem ev_callK {sp : Sp} {gV : List V → List V → List V} {E : XK} {tk : TA} {zs : List V} {σ : L2.St} {H : Hp} {z : V} (h : EvA tk σ H zs) (hs : ∀ H1, Ex H H1 → ∀ Q : VK, (∀ H2, Ex H1 H2 → Q z H2) → sp (gV [] zs) H1 Q E) : Ev (tCallK sp gV E tNil tk) σ H z := fun H1 e Q q =>
  h H1 e _ fun H2 e2 => hs H2 (e.trans e2) Q fun H3 e3 => q H3 (e2.trans e3)
theorem bools_fit : ∀ b : Bool, Fit sizeLine (.list [.bool b, .bool b])
  | true => ⟨by decide +kernel, by decide, by decide, by decide⟩
  | false => ⟨by decide +kernel, by decide, by decide, by decide⟩
section
variable {P : Program} {w : World} {K : PySem.W.Frag} {mg : Str → Option Value} {base : Heap}
def spRight : Sp := fun vs H Q _ => ∃ n v d, vs = [.int n, v] ∧ Dt H v d ∧ Good d ∧ ∀ H', Ex H H' → Q (.bl true) H'
theorem ok_right {f fR fA : Addr} {fd fdR fdA : FuncData} {k : Nat} (F : Fun K "_law_right" "_law_right" sRight f fd)
    (GR : FnOk P w K mg base CX0 k fR fdR ["size", "value"] spRow) (FR : Fun K "_law_is_row" "_law_is_row" sIsRow fR fdR) (bR : Binds K fdR ["size", "value"] []) (gR : mg "_law_is_row" = some (.ref fR))
    (GA : FnOk P w K mg base CX0 k fA fdA ["n", "thing"] spArr) (FA : Fun K "is_arrangement" "is_arrangement" sArr fA fdA) (bA : Binds K fdA ["n", "thing"] []) (kA : KBinds K fdA ["n", "thing"] ["thing", "n"] revG revV) (gA : mg "is_arrangement" = some (.ref fA))
    (mRepr : mg "repr" = none) : FnG P w K mg base (k + 1) f fd ["size", "value"] spRight := by
  refine okG F scRight (fun vs H Q E h => ?_) (fun cdv A outer s H vs Q E gd hr h => ?_)
  · obtain ⟨n, v, d, rfl, _⟩ := h
    rfl
  · obtain ⟨n, v, d, rfl, hd, good, q⟩ := h
    refine ⟨_, (pss_cons (ps_set (i := 2) scRight.nd rfl (.inl rfl) (pe_callB (call_repr gd hr.units) (by rfl) mRepr boot_repr (pa_cons (pv 1) pa_nil)))
      (pss_cons (ps_set (i := 3) scRight.nd rfl (.inl rfl) (pe_call GR hr (by rfl) gR FR.kp bR .nil pass0 (pa_cons (pv 0) (pa_cons (pv 1) pa_nil))))
      (pss_cons (ps_set (i := 4) scRight.nd rfl (.inl rfl) (pe_lst (pa_cons (pe_call GA hr (by rfl) gA FA.kp bA .nil pass0 (pa_cons (pv 0) (pa_cons (pv 1) pa_nil))) (pa_cons (pe_callK0 GA hr (by rfl) gA FA.kp kA pass0 (pk_cons (pv 1) (pk_cons (pv 0) pk_nil))) pa_nil))))
      (pss_one (ps_ret (pe_and (pe_cmpR op_eq (pe_callB (call_repr gd hr.units) (by rfl) mRepr boot_repr (pa_cons (pv 4) pa_nil)) (pe_callB (call_repr gd hr.units) (by rfl) mRepr boot_repr (pa_cons (pe_lst (pa_cons (pv 3) (pa_cons (pv 3) pa_nil))) pa_nil)) (nomark _)) (pe_one (pe_cmpR op_eq (pe_callB (call_repr gd hr.units) (by rfl) mRepr boot_repr (pa_cons (pv 1) pa_nil)) (pv 2) (nomark _))))))))), ?_⟩
    refine q_asg (v := .str d.shown) (ev_repr (ev_var rfl) hd good.fit) fun H1 e1 => ?_
    refine q_asg (v := .bl (rowB n d)) (ev_sp (ea_cons (ev_var rfl) (ea_cons (ev_var rfl) ea_nil)) fun H2 e2 Q q => ⟨n, v, d, rfl, hd.same (same_ex (e1.trans e2)), good.short, fun H3 e3 => q H3 e3⟩) fun H2 e2 => ?_
    have e12 := e1.trans e2
    refine q_asgL (xs := [.bl (rowB n d), .bl (rowB n d)]) (el_lst (ea_cons (ev_sp (ea_cons (ev_var rfl) (ea_cons (ev_var rfl) ea_nil)) fun H3 e3 Q q => ⟨n, v, d, rfl, hd.same (same_ex (e12.trans e3)), good.short, fun H4 e4 => q H4 e4⟩)
      (ea_cons (ev_callK (ea_cons (ev_var rfl) (ea_cons (ev_var rfl) ea_nil)) fun H3 e3 Q q => ⟨n, v, d, rfl, hd.same (same_ex (e12.trans e3)), good.short, fun H4 e4 => q H4 e4⟩) ea_nil)) (show 2 ≤ 100000 by decide)) fun p H3 hp e3 h3 => ?_
    have e13 := e12.trans e3
    have two : Dts H3 [.bl (rowB n d), .bl (rowB n d)] [.bool (rowB n d), .bool (rowB n d)] := .cons (.bl _) (.cons (.bl _) .nil)
    refine s_ret (v := .bl true) (ev_is (ev_andV (a := true) (b := true) (ev_is (ev_op (ev_repr (ev_var rfl) (.lst h3 two) (bools_fit _)) (ev_reprL (el_lst (ea_cons (ev_var rfl) (ea_cons (ev_var rfl) ea_nil)) (show 2 ≤ 100000 by decide)) two (bools_fit _)) (rv_eq rfl)) (by rw [decide_eq_true rfl]))
      (fun _ => ev_is (ev_op (ev_repr (ev_var rfl) (hd.same (same_ex e13)) good.fit) (ev_var rfl) (rv_eq rfl)) (by rw [decide_eq_true rfl]))) rfl) fun H4 e4 => q H4 (e13.trans e4)
end
end K07
namespace K07
open PySem PySem.Spec PyProof.Rows L2 Os Evl
section
variable {P : Program} {w : World} {K : PySem.W.Frag} {mg : Str → Option Value} {base : Heap}
theorem ev_rgt {n : Int} {v : V} {d : PyData} {σ : L2.St} {H : Hp} {t1 t2 : TE} (h1 : Ev t1 σ H (.int n)) (h2 : Ev t2 σ H v) (hd : Dt H v d) (good : Good d) : EvT (tNot (tB (tCall spRight [] E0 (tCons t1 (tCons t2 tNil))))) σ H false :=
  et_is (a := !true) (et_not (et_B (ev_sp (ea_cons h1 (ea_cons h2 ea_nil)) fun H3 e3 Q q => ⟨n, v, d, rfl, hd.same (same_ex e3), good, fun H4 e4 => q H4 e4⟩))) rfl
theorem row_good {zs : List Str} (hl : zs.length ≤ 40) (hz : ∀ z ∈ zs, nameB z = true ∧ PyData.strOk z = true) : Good (.list (zs.map PyData.str)) :=
  good_list (fun d hd => by
    obtain ⟨z, h, rfl⟩ := List.mem_map.mp hd
    exact it_str (Nat.le_trans (name_len (hz z h).1) (by decide)) (hz z h).2) (by rw [List.length_map]; omega)
theorem strsOf_map : ∀ zs : List Str, strsOf (zs.map PyData.str) = zs
  | [] => rfl
  | z :: zs => by
    show z :: strsOf (zs.map PyData.str) = z :: zs
    rw [strsOf_map zs]
theorem row_is {zs : List Str} (hz : ∀ z ∈ zs, nameB z = true ∧ PyData.strOk z = true) (nd : zs.Nodup) : rowB (zs.length : Int) (.list (zs.map PyData.str)) = true := by
  show (_ && _ && _) = true
  rw [List.length_map, decide_eq_true rfl, strsOf_map, decide_eq_true nd, List.all_map, show zs.all (itemB ∘ PyData.str) = true from List.all_eq_true.mpr (fun z h => (hz z h).1)]
  rfl
/-- what a drawn-from heap keeps of one ahead of the source's making -/
theorem Drew.old {s : Addr} {B : Nat} {H0 H H' : Hp} (e : Ex H0 H) (ns : H0 s = none) (d : Drew s B H H') : Ex H0 H' := fun b o h =>
  d.get (ne_of_none h ns) (e b o h)
def spLaw (K : PySem.W.Frag) : Sp := fun vs H Q _ => ∃ (a : Addr) (ns : List Int), vs = [.ref a] ∧ SqL K H a (ns.map V.int) ∧ ns.length ≤ 63 ∧ ∀ H', Q (.bl true) H'
theorem ok_law {f fS fP fN fR fT fC : Addr} {fd fdS fdP fdN fdR fdT fdC : FuncData} {k : Nat} (F : Fun K "law" "law" sLaw f fd)
    (GS : FnOk P w K mg base CX0 k fS fdS ["script", "k"] (spSource K)) (FS : Fun K "_law_source" "_law_source" sSource fS fdS) (bS : Binds K fdS ["script", "k"] []) (gS : mg "_law_source" = some (.ref fS))
    (GP : FnOk P w K mg base CX0 k fP fdP ["source", "count"] spPick) (FP : Fun K "_law_pick" "_law_pick" sPick fP fdP) (bP : Binds K fdP ["source", "count"] []) (gP : mg "_law_pick" = some (.ref fP))
    (GN : FnOk P w K mg base CX0 k fN fdN ["source", "size"] spNames) (FN : Fun K "_law_names" "_law_names" sNames fN fdN) (bN : Binds K fdN ["source", "size"] []) (gN : mg "_law_names" = some (.ref fN))
    (GR : FnOk P w K mg base CX0 k fR fdR ["size", "value"] spRow) (FR : Fun K "_law_is_row" "_law_is_row" sIsRow fR fdR) (bR : Binds K fdR ["size", "value"] []) (gR : mg "_law_is_row" = some (.ref fR))
    (GT : FnG P w K mg base k fT fdT ["size", "value"] spRight) (FT : Fun K "_law_right" "_law_right" sRight fT fdT) (bT : Binds K fdT ["size", "value"] []) (gT : mg "_law_right" = some (.ref fT))
    (GC : FnOk P w K mg base CX0 k fC fdC ["source", "row"] spChanged) (FC : Fun K "_law_changed" "_law_changed" sChanged fC fdC) (bC : Binds K fdC ["source", "row"] []) (gC : mg "_law_changed" = some (.ref fC))
    (mRange : mg "range" = none) (mMax : mg "max" = none) (mMin : mg "min" = none) (mLen : mg "len" = none) : FnG P w K mg base (k + 1) f fd ["script"] (spLaw K) := by
  refine okG F scLaw (fun vs H Q E h => ?_) (fun cdv A outer s0 H vs Q E gd hr h => ?_)
  · obtain ⟨a, ns, rfl, _⟩ := h
    rfl
  · obtain ⟨a, ns, rfl, hS, hlen, q⟩ := h
    refine ⟨_, (pss_cons (ps_for PassesOwn.never rfl (pi_range1 (by rfl) mRange (pa_cons (pe_callB (call_max2 rfl) (by rfl) mMax boot_max (pa_cons pe_int (pa_cons (pe_callB (call_min2 rfl) (by rfl) mMin boot_min (pa_cons pe_int (pa_cons (pe_callB call_len_seq (by rfl) mLen boot_len (pa_cons (pv 0) pa_nil)) pa_nil))) pa_nil))) pa_nil)) (pg_name (i := 1) scLaw.nd rfl (Or.inl rfl))
      (pss_cons (ps_set (i := 2) scLaw.nd rfl (.inl rfl) (pe_call GS hr (by rfl) gS FS.kp bS .nil pass0 (pa_cons (pv 0) (pa_cons (pv 1) pa_nil))))
      (pss_one (ps_for PassesOwn.never rfl (pi_range1 (by rfl) mRange (pa_cons pe_int pa_nil)) (pg_name (i := 3) scLaw.nd rfl (Or.inl rfl))
      (pss_cons (ps_set (i := 4) scLaw.nd rfl (.inl rfl) (pe_ix ix_list (pe_lst (pa_cons (pe_op op_add pe_int (pe_call GP hr (by rfl) gP FP.kp bP .nil pass0 (pa_cons (pv 2) (pa_cons pe_int pa_nil)))) (pa_cons (pe_op op_add pe_int (pe_call GP hr (by rfl) gP FP.kp bP .nil pass0 (pa_cons (pv 2) (pa_cons pe_int pa_nil)))) (pa_cons (pe_op op_add pe_int (pe_call GP hr (by rfl) gP FP.kp bP .nil pass0 (pa_cons (pv 2) (pa_cons pe_int pa_nil)))) (pa_cons pe_int pa_nil))))) (pv 3) (fun _ _ => rfl)))
      (pss_cons (ps_set (i := 5) scLaw.nd rfl (.inl rfl) (pe_call GN hr (by rfl) gN FN.kp bN .nil pass0 (pa_cons (pv 2) (pa_cons (pv 4) pa_nil))))
      (pss_cons (ps_if (PW.pt (pw_or (pt_not (pt_val (pe_call GR hr (by rfl) gR FR.kp bR .nil pass0 (pa_cons (pv 4) (pa_cons (pv 5) pa_nil))))) (pw_or1 (pt_not (pt_val (pe_callG GT gd hr (by rfl) gT FT.kp bT (pa_cons (pv 4) (pa_cons (pv 5) pa_nil)))))))) (pss_one (ps_ret pe_bl)) pss_nil)
      (pss_cons (ps_for PassesOwn.never rfl (pi_list (pe_lst (pa_cons pe_int (pa_cons (pe_callB (call_max2 rfl) (by rfl) mMax boot_max (pa_cons pe_int (pa_cons (pe_op op_sub (pv 4) pe_int) pa_nil))) (pa_cons (pe_callB (call_min2 rfl) (by rfl) mMin boot_min (pa_cons pe_int (pa_cons (pe_op op_add (pv 4) pe_int) pa_nil))) (pa_cons pe_int pa_nil)))))) (pg_name (i := 6) scLaw.nd rfl (Or.inl rfl))
      (pss_one (ps_if (pt_not (pt_val (pe_callG GT gd hr (by rfl) gT FT.kp bT (pa_cons (pv 6) (pa_cons (pv 5) pa_nil))))) (pss_one (ps_ret pe_bl)) pss_nil)))
      (pss_one (ps_for PassesOwn.never rfl (pi_range1 (by rfl) mRange (pa_cons pe_int pa_nil)) (pg_name (i := 7) scLaw.nd rfl (Or.inl rfl))
      (pss_cons (ps_set (i := 8) scLaw.nd rfl (.inl rfl) (pe_call GC hr (by rfl) gC FC.kp bC .nil pass0 (pa_cons (pv 2) (pa_cons (pv 5) pa_nil))))
      (pss_one (ps_if (PW.pt (pw_or (pt_not (pt_val (pe_callG GT gd hr (by rfl) gT FT.kp bT (pa_cons (pv 4) (pa_cons (pv 8) pa_nil))))) (pw_or1 (pt_not (pt_val (pe_callG GT gd hr (by rfl) gT FT.kp bT (pa_cons (pe_op op_add pe_int (pe_call GP hr (by rfl) gP FP.kp bP .nil pass0 (pa_cons (pv 2) (pa_cons pe_int pa_nil)))) (pa_cons (pv 8) pa_nil)))))))) (pss_one (ps_ret pe_bl)) pss_nil)))))))))))))
      (pss_one (ps_ret pe_bl))), ?_⟩
    have hlen' : (ns.map V.int).length = ns.length := List.length_map ..
    refine q_forR1 (n := if (if ((ns.map V.int).length : Int) < 4 then ((ns.map V.int).length : Int) else 4) > 1 then (if ((ns.map V.int).length : Int) < 4 then ((ns.map V.int).length : Int) else 4) else 1)
      (ea_cons (ev_max ev_c (ev_min ev_c (ev_len (ev_var rfl) hS))) ea_nil) ⟨by split <;> (try split) <;> omega, by split <;> (try split) <;> omega⟩
      (fun i σ' H' => Ex H H' ∧ i ≤ 4 ∧ ∃ y1 y2 y3 y4 y5 y6 y7 y8, σ' = [some (.ref a), y1, y2, y3, y4, y5, y6, y7, y8]) (fun H1 e1 => ⟨e1, by omega, _, _, _, _, _, _, _, _, rfl⟩) ?_ ?_
    · rintro i σ' H1 hi ⟨e1, hi4, y1, y2, y3, y4, y5, y6, y7, y8, rfl⟩
      have hi5 : i < 4 := by
        split at hi <;> (try split at hi) <;> omega
      -- source = _law_source(script, k)
      refine ⟨.ref a, rfl, .int (i : Int), rfl, a, ns, i, rfl, ex_l e1 hS, by omega, fun H2 s e2 ns1 src => ?_⟩
      refine s_forR1 (n := 4) (ea_cons ev_c ea_nil) ⟨by decide, by decide⟩
        (fun j σ' H' => Drew s (200 * j) H2 H' ∧ j ≤ 4 ∧ ∃ y3 y4 y5 y6 y7 y8, σ' = [some (.ref a), some (.int (i : Int)), some (.ref s), y3, y4, y5, y6, y7, y8])
        (fun H3 e3 => ⟨((Drew.refl src).ex e3).mono (by omega), by omega, _, _, _, _, _, _, rfl⟩) ?_ ?_
      · rintro j σ' H3 hj ⟨d3, hj4, z3, z4, z5, z6, z7, z8, rfl⟩
        have hj5 : j < 4 := by omega
        -- size
        refine ⟨.ref s, rfl, s, 5, 200 * j, rfl, d3.src, by omega, by decide, by decide, fun H4 r1 d4 r10 r11 => ⟨1, r1, rfl, rfl, .ref s, rfl, s, 40, 200 * j + 1, rfl, d4.src, by omega, by decide, by decide, fun H5 r2 d5 r20 r21 =>
          ⟨1, r2, rfl, rfl, .ref s, rfl, s, 2, 200 * j + 1 + 1, rfl, d5.src, by omega, by decide, by decide, fun H6 r3 d6 r30 r31 => ⟨26, r3, rfl, rfl, (show 4 ≤ sizeLine by decide), fun p6 hp6 => ?_⟩⟩⟩⟩
        obtain ⟨n, hn, n1, n40⟩ : ∃ n : Nat, ([.int (1 + r1), .int (1 + r2), .int (26 + r3), .int 40] : List V)[j]? = some (.int (n : Int)) ∧ 1 ≤ n ∧ n ≤ 40 := by
          match j, hj5 with
          | 0, _ => exact ⟨(1 + r1).toNat, congrArg (fun z => some (V.int z)) (by omega), by omega, by omega⟩
          | 1, _ => exact ⟨(1 + r2).toNat, congrArg (fun z => some (V.int z)) (by omega), by omega, by omega⟩
          | 2, _ => exact ⟨(26 + r3).toNat, congrArg (fun z => some (V.int z)) (by omega), by omega, by omega⟩
          | 3, _ => exact ⟨40, rfl, by omega, by omega⟩
        refine ⟨.int (j : Int), rfl, p6, _, (j : Int), .int (n : Int), rfl, rfl, sq_of upd_same, atI_nat hn, ?_⟩
        have D7 : Drew s (200 * j + 3) H2 (upd H6 p6 (.lst [.int (1 + r1), .int (1 + r2), .int (26 + r3), .int 40])) := (((d3.trans d4).trans d5).trans d6).ex (Ex.new hp6)
        show tSeq _ _ _ _ (upd H6 p6 (.lst [.int (1 + r1), .int (1 + r2), .int (26 + r3), .int 40]))
        generalize upd H6 p6 (.lst [.int (1 + r1), .int (1 + r2), .int (26 + r3), .int 40]) = H7 at D7
        -- row
        refine ⟨.ref s, rfl, .int (n : Int), rfl, s, n, 200 * j + 3, rfl, D7.src, n40, by omega, fun H8 pr zs d8 hpr hzs len names nd => ?_⟩
        have npr : pr ≠ s := new_apart D7.src.at hpr
        subst len
        have D8 := D7.trans d8
        have good := row_good n40 names
        have rowDt : ∀ {G : Hp}, G pr = some (.lst (zs.map V.str)) → Dt G (.ref pr) (.list (zs.map PyData.str)) := fun h => .lst h (dts_strs zs)
        refine q_when (b := false) (et_is (et_or (a := !true) (b := false) (et_not (et_B (ev_is (ev_sp (z := .bl true) (ea_cons (ev_var rfl) (ea_cons (ev_var rfl) ea_nil)) fun H9 e9 Q q => ⟨(zs.length : Int), .ref pr, _, rfl, rowDt (e9 _ _ hzs), good.short, fun H10 e10 => by rw [row_is names nd]; exact q H10 e10⟩) rfl)))
          (fun _ => ev_rgt (ev_var rfl) (ev_var rfl) (rowDt hzs) good)) rfl) (fun h => nomatch h) fun _ H9 e9 => ?_
        have hzs9 := e9 _ _ hzs
        -- for other in ..
        refine q_forNLn (j := 6) (xs := [.int 1, .int (if (zs.length : Int) - 1 > 1 then (zs.length : Int) - 1 else 1), .int (if (zs.length : Int) + 1 < 40 then (zs.length : Int) + 1 else 40), .int 40]) (el_lst (ea_cons ev_c (ea_cons (ev_max ev_c (ev_op (ev_var rfl) ev_c rv_I0)) (ea_cons (ev_min ev_c (ev_op (ev_var rfl) ev_c rv_I0)) (ea_cons ev_c ea_nil)))) (show 4 ≤ 100000 by decide))
          (fun p i σ' H' => Ex H9 H' ∧ H' p = some (.lst [.int 1, .int (if (zs.length : Int) - 1 > 1 then (zs.length : Int) - 1 else 1), .int (if (zs.length : Int) + 1 < 40 then (zs.length : Int) + 1 else 40), .int 40]) ∧ ∃ y6 y7 y8, σ' = [some (.ref a), some (.int _), some (.ref s), some (.int (j : Int)), some (.int (zs.length : Int)), some (.ref pr), y6, y7, y8])
          (fun p H10 _ e10 h10 => ⟨e10, h10, _, _, _, rfl⟩) (fun p i σ' H' _ h => ?_) (fun p i x σ' H' hx h => ?_) (fun p σ' H10 h => ?_)
        · exact sq_of h.2.1
        · obtain ⟨e10, h10, y6, y7, y8, rfl⟩ := h
          obtain ⟨m, rfl⟩ : ∃ m : Int, x = .int m := by
            match i, hx with
            | 0, hx => exact ⟨_, (Option.some.inj hx).symm⟩
            | 1, hx => exact ⟨_, (Option.some.inj hx).symm⟩
            | 2, hx => exact ⟨_, (Option.some.inj hx).symm⟩
            | 3, hx => exact ⟨_, (Option.some.inj hx).symm⟩
            | _ + 4, hx => exact nomatch hx
          refine s_when (b := false) (ev_rgt (ev_var rfl) (ev_var rfl) (rowDt (e10 _ _ hzs9)) good) (fun h => nomatch h) fun _ H11 e11 => ?_
          exact ⟨e10.trans e11, e11 _ _ h10, _, _, _, rfl⟩
        · obtain ⟨e10, _, w6, w7, w8, rfl⟩ := h
          have D10 : Drew s (200 * j + 50) H2 H10 := ((D8.ex e9).ex e10).mono (by omega)
          have hzs10 := e10 _ _ hzs9
          refine s_forR1 (n := 10) (ea_cons ev_c ea_nil) ⟨by decide, by decide⟩
            (fun i σ' H' => Drew s (200 * j + 50 + 5 * i) H10 H' ∧ ∃ y6 y7 y8, σ' = [some (.ref a), some (.int _), some (.ref s), some (.int (j : Int)), some (.int (zs.length : Int)), some (.ref pr), y6, y7, y8])
            (fun H11 e11 => ⟨(Drew.refl D10.src).ex e11, _, _, _, rfl⟩) ?_ ?_
          · rintro i σ' H11 hi11 ⟨d11, y6, y7, y8, rfl⟩
            have hi10 : i < 10 := by omega
            refine ⟨.ref s, rfl, .ref pr, rfl, s, pr, zs, 200 * j + 50 + 5 * i, rfl, d11.src, d11.get npr hzs10, npr, n1, n40, names, by omega, fun H12 v d12 gv => ?_⟩
            obtain ⟨d, hd, gd'⟩ := gv
            refine ⟨.int (zs.length : Int), rfl, v, rfl, (zs.length : Int), v, d, rfl, hd.seen, gd', fun H13 e13 => ⟨true, rfl, iteF ?_⟩⟩
            have d13 := d12.ex e13
            refine ⟨.ref s, rfl, s, 40, 200 * j + 50 + 5 * i + 4, rfl, d13.src, by omega, by decide, by decide, fun H14 r14 d14 _ _ => ⟨1, r14, rfl, rfl, v, rfl, 1 + r14, v, d, rfl, ((hd.same (same_ex (hide_ex e13))).drew d14).seen, gd', fun H15 e15 => ⟨true, rfl, iteF ?_⟩⟩⟩
            exact ⟨((((d11.trans d12).ex e13).trans d14).ex e15).mono (by omega), _, _, _, rfl⟩
          · rintro σ' H11 ⟨d11, y6, y7, y8, rfl⟩
            exact ⟨(D10.trans d11).mono (by omega), by omega, _, _, _, _, _, _, rfl⟩
      · rintro σ' H3 ⟨d3, _, z3, z4, z5, z6, z7, z8, rfl⟩
        exact ⟨Drew.old (e1.trans e2) (fresh_back e1 ns1) d3, by omega, _, _, _, _, _, _, _, _, rfl⟩
    · rintro σ' H1 ⟨e1, _, y1, y2, y3, y4, y5, y6, y7, y8, rfl⟩
      exact s_ret (v := .bl true) ev_c fun H2 e2 => q H2
end

section
variable {l : PySem.W.OpenLaw} {w : World} {K : PySem.W.Frag} {h : Heap} {mg : Str → Option Value} {fa : Addr}
/-- a def that stands at the top -/
def Def (K : PySem.W.Frag) (x : Str) (st : Stmt) (f : Addr) : Prop :=
  PySem.W.nsIn K mainGlobals x = some (some (.ref f)) ∧ (∃ (oc kV dc pm cd ct : Value) (od an : Option Addr) (sl : Array (Option Value)), K.lookup f = some ⟨oc, od, .func (PySem.W.fnOf x x (defArgs st) (defBody st) (defScope st) .none kV dc pm an cd ct), sl⟩ ∧ PySem.W.codeIn K cd x = true) ∧ PySem.W.keepIn K (.ref f) = true
theorem Def.of {x : Str} {st : Stmt} {f : Addr} {oc kV dc pm cd ct : Value} {od an : Option Addr} {sl : Array (Option Value)} (a : PySem.W.nsIn K mainGlobals x = some (some (.ref f)))
    (lk : K.lookup f = some ⟨oc, od, .func (PySem.W.fnOf x x (defArgs st) (defBody st) (defScope st) .none kV dc pm an cd ct), sl⟩) (c : PySem.W.codeIn K cd x = true) (kp : PySem.W.keepIn K (.ref f) = true) : Def K x st f :=
  ⟨a, ⟨oc, kV, dc, pm, cd, ct, od, an, sl, lk, c⟩, kp⟩
theorem Def.fun_ {x : Str} {st : Stmt} {f : Addr} (d : Def K x st f) : ∃ fd, Fun K x x st f fd := by
  obtain ⟨_, ⟨oc, kV, dc, pm, cd, ct, od, an, sl, lk, c⟩, k⟩ := d
  exact ⟨_, fun_mk lk c k⟩
theorem all_mk (X : K.In h) (G : h.Ns mainGlobals mg) (hfa : mg "law" = some (.ref fa))
    {f2 f3 f5 f6 f7 f8 f9 f10 f11 f12 f13 : Addr} {t8 : Tok} (n8 : PySem.W.nsIn K mainGlobals "MOST_LETTERS" = some (some (.int 8 t8)))
    (d2 : Def K "is_item" sItem f2) (d3 : Def K "is_arrangement" sArr f3) (d5 : Def K "_law_source" sSource f5) (d6 : Def K "_law_pick" sPick f6) (d7 : Def K "_law_shuffled" sShuf f7) (d8 : Def K "_law_names" sNames f8)
    (d9 : Def K "_law_is_name" sIsName f9) (d10 : Def K "_law_is_row" sIsRow f10) (d11 : Def K "_law_changed" sChanged f11) (d12 : Def K "_law_right" sRight f12)
    (a13 : PySem.W.nsIn K mainGlobals "law" = some (some (.ref f13))) {oc kV dc pm cd ct : Value} {od an : Option Addr} {sl : Array (Option Value)} (l13 : K.lookup f13 = some ⟨oc, od, .func (PySem.W.fnOf "law" "law" (defArgs sLaw) (defBody sLaw) (defScope sLaw) .none kV dc pm an cd ct), sl⟩) (c13 : PySem.W.codeIn K cd "law" = true) (k13 : PySem.W.keepIn K (.ref f13) = true)
    (z1 : PySem.W.nsIn K mainGlobals "len" = some none) (z2 : PySem.W.nsIn K mainGlobals "isinstance" = some none) (z3 : PySem.W.nsIn K mainGlobals "str" = some none) (z4 : PySem.W.nsIn K mainGlobals "all" = some none) (z5 : PySem.W.nsIn K mainGlobals "list" = some none) (z6 : PySem.W.nsIn K mainGlobals "set" = some none)
    (z7 : PySem.W.nsIn K mainGlobals "max" = some none) (z8 : PySem.W.nsIn K mainGlobals "abs" = some none) (z9 : PySem.W.nsIn K mainGlobals "range" = some none) (z10 : PySem.W.nsIn K mainGlobals "tuple" = some none) (z11 : PySem.W.nsIn K mainGlobals "repr" = some none) (z12 : PySem.W.nsIn K mainGlobals "min" = some none) :
    ∃ fd : FuncData, (∀ (s : Shared) (v : Value), BindsTo s fd ⟨[v], []⟩ [("script", v)]) ∧ ∀ base : Heap, K.In base → base.Ns mainGlobals mg → FnG l.prog w K mg base 9 fa fd ["script"] (spLaw K) := by
  have e := hfa.symm.trans (PySem.W.mg_of X G a13)
  cases e
  have none' : ∀ {x : Str}, PySem.W.nsIn K mainGlobals x = some none → mg x = none := fun z => PySem.W.mg_none_of X G z
  have ref' : ∀ {x : Str} {f : Addr}, PySem.W.nsIn K mainGlobals x = some (some (.ref f)) → mg x = some (.ref f) := fun z => PySem.W.mg_of X G z
  obtain ⟨fd2, F2⟩ := d2.fun_
  obtain ⟨fd3, F3⟩ := d3.fun_
  obtain ⟨fd5, F5⟩ := d5.fun_
  obtain ⟨fd6, F6⟩ := d6.fun_
  obtain ⟨fd7, F7⟩ := d7.fun_
  obtain ⟨fd8, F8⟩ := d8.fun_
  obtain ⟨fd9, F9⟩ := d9.fun_
  obtain ⟨fd10, F10⟩ := d10.fun_
  obtain ⟨fd11, F11⟩ := d11.fun_
  obtain ⟨fd12, F12⟩ := d12.fun_
  have F13 := fun_mk (st := sLaw) l13 c13 k13
  have b2 := F2.binds (ps := ["thing"]) fun _ _ _ _ _ _ us hl => match us, hl with | [_], _ => rfl
  have b3 := F3.binds (ps := ["n", "thing"]) fun _ _ _ _ _ _ us hl => match us, hl with | [_, _], _ => rfl
  have k3 := funRevK F3 (ps := ["n", "thing"]) (ks := ["thing", "n"]) (by decide) fun _ _ _ _ _ _ us hl => match us, hl with | [_, _], _ => rfl
  have b5 := F5.binds (ps := ["script", "k"]) fun _ _ _ _ _ _ us hl => match us, hl with | [_, _], _ => rfl
  have b6 := F6.binds (ps := ["source", "count"]) fun _ _ _ _ _ _ us hl => match us, hl with | [_, _], _ => rfl
  have b7 := F7.binds (ps := ["source", "row"]) fun _ _ _ _ _ _ us hl => match us, hl with | [_, _], _ => rfl
  have b8 := F8.binds (ps := ["source", "size"]) fun _ _ _ _ _ _ us hl => match us, hl with | [_, _], _ => rfl
  have b9 := F9.binds (ps := ["value"]) fun _ _ _ _ _ _ us hl => match us, hl with | [_], _ => rfl
  have b10 := F10.binds (ps := ["size", "value"]) fun _ _ _ _ _ _ us hl => match us, hl with | [_, _], _ => rfl
  have b11 := F11.binds (ps := ["source", "row"]) fun _ _ _ _ _ _ us hl => match us, hl with | [_, _], _ => rfl
  have b12 := F12.binds (ps := ["size", "value"]) fun _ _ _ _ _ _ us hl => match us, hl with | [_, _], _ => rfl
  refine ⟨PySem.W.fnOf "law" "law" (defArgs sLaw) (defBody sLaw) (defScope sLaw) .none kV dc pm an cd ct, fun s v => .of_eq rfl, fun base _ _ => ?_⟩
  have G2 : FnOk l.prog w K mg base CX0 1 f2 fd2 ["thing"] spItem := ok_item F2 (none' z2) (none' z3) (none' z1) (none' z4) (PySem.W.mg_of X G n8)
  have G3 : FnOk l.prog w K mg base CX0 2 f3 fd3 ["n", "thing"] spArr := ok_arr F3 G2 F2 b2 (ref' d2.1) (none' z2) (none' z5) (none' z1) (none' z4) (none' z6)
  have G9 : FnOk l.prog w K mg base CX0 1 f9 fd9 ["value"] spItem := ok_isname F9 (none' z2) (none' z3) (none' z1)
  have G10 : FnOk l.prog w K mg base CX0 2 f10 fd10 ["size", "value"] spRow := ok_isrow F10 G9 F9 b9 (ref' d9.1) (none' z2) (none' z5) (none' z1) (none' z9)
  have G5 : FnOk l.prog w K mg base CX0 1 f5 fd5 ["script", "k"] (spSource K) := ok_source F5 (none' z1) (none' z7) (none' z8)
  have G6 : FnOk l.prog w K mg base CX0 1 f6 fd6 ["source", "count"] spPick := ok_pick F6
  have G7 : FnOk l.prog w K mg base CX0 2 f7 fd7 ["source", "row"] spShuf := ok_shuf F7 G6 F6 b6 (ref' d6.1) (none' z5) (none' z1) (none' z9)
  have G8 : FnOk l.prog w K mg base CX0 3 f8 fd8 ["source", "size"] spNames := ok_names F8 (G6.mono (by decide)) F6 b6 (ref' d6.1) G7 F7 b7 (ref' d7.1) (none' z9)
  have G11 : FnOk l.prog w K mg base CX0 2 f11 fd11 ["source", "row"] spChanged := ok_changed F11 G6 F6 b6 (ref' d6.1) (none' z1) (none' z10)
  have G12 : FnG l.prog w K mg base 3 f12 fd12 ["size", "value"] spRight := ok_right F12 G10 F10 b10 (ref' d10.1) G3 F3 b3 k3 (ref' d3.1) (none' z11)
  exact ok_law F13 (G5.mono (by decide)) F5 b5 (ref' d5.1) (G6.mono (by decide)) F6 b6 (ref' d6.1) (G8.mono (by decide)) F8 b8 (ref' d8.1) (G10.mono (by decide)) F10 b10 (ref' d10.1) (G12.mono (by decide)) F12 b12 (ref' d12.1) (G11.mono (by decide)) F11 b11 (ref' d11.1) (none' z9) (none' z7) (none' z12) (none' z1)
end
end K07
open PySem PySem.W PyProof.Rows
set_option maxHeartbeats 0 in
theorem PySem.Challenge.cw_onceswapped_k07_arrangements_recognized_holds : PySem.Challenge.rw_onceswapped_k07_arrangements_recognized.Holds := by
  w_on; o_law; k_head; (case hw => w_witness2)
  k_fill
  refine Os.walk_ofG (l := PySem.Challenge.rw_onceswapped_k07_arrangements_recognized) (n := 63) (k := 9) (x := "script") (sp := fun w => K07.spLaw _) rfl (by decide) rfl ⟨rfl, by decide, by decide⟩ (fun w h Y => PySem.W.kIn_of Y) ?F (fun _ _ a ns hl _ hS => ⟨a, ns, rfl, hS, hl, fun _ => rfl⟩)
  case F =>
    intro w mg fa h KX G hmg
    refine' K07.all_mk KX G hmg ?n8 ?d2 ?d3 ?d5 ?d6 ?d7 ?d8 ?d9 ?d10 ?d11 ?d12 ?a13 ?l13 ?c13 ?k13 ?z1 ?z2 ?z3 ?z4 ?z5 ?z6 ?z7 ?z8 ?z9 ?z10 ?z11 ?z12
    (case n8 => k_is)
    (case d2 => refine' K07.Def.of ?a ?l ?c ?k; (case a => k_is); (case l => k_is); (case c => k_is); (case k => k_is))
    (case d3 => refine' K07.Def.of ?a ?l ?c ?k; (case a => k_is); (case l => k_is); (case c => k_is); (case k => k_is))
    (case d5 => refine' K07.Def.of ?a ?l ?c ?k; (case a => k_is); (case l => k_is); (case c => k_is); (case k => k_is))
    (case d6 => refine' K07.Def.of ?a ?l ?c ?k; (case a => k_is); (case l => k_is); (case c => k_is); (case k => k_is))
    (case d7 => refine' K07.Def.of ?a ?l ?c ?k; (case a => k_is); (case l => k_is); (case c => k_is); (case k => k_is))
    (case d8 => refine' K07.Def.of ?a ?l ?c ?k; (case a => k_is); (case l => k_is); (case c => k_is); (case k => k_is))
    (case d9 => refine' K07.Def.of ?a ?l ?c ?k; (case a => k_is); (case l => k_is); (case c => k_is); (case k => k_is))
    (case d10 => refine' K07.Def.of ?a ?l ?c ?k; (case a => k_is); (case l => k_is); (case c => k_is); (case k => k_is))
    (case d11 => refine' K07.Def.of ?a ?l ?c ?k; (case a => k_is); (case l => k_is); (case c => k_is); (case k => k_is))
    (case d12 => refine' K07.Def.of ?a ?l ?c ?k; (case a => k_is); (case l => k_is); (case c => k_is); (case k => k_is))
    (case a13 => k_is); (case l13 => k_is); (case c13 => k_is); (case k13 => k_is)
    (case z1 => k_is); (case z2 => k_is); (case z3 => k_is); (case z4 => k_is); (case z5 => k_is); (case z6 => k_is); (case z7 => k_is); (case z8 => k_is); (case z9 => k_is); (case z10 => k_is); (case z11 => k_is); (case z12 => k_is)
