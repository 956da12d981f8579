import PyProof.Rows.All
import Wide.All
import OpenK.AllK
import Wide.FinOn
import HandS.ForMost
import HandS.Wide
import HandS.IsInst
import HandS.Strs
import PyProof.ReprRoads
import PyProof.StrBlock2
import HandS.Evl
import HandS.Walk
import HandS.Conv
import HandS.Style
import HandS.TupSets
import PyProof.P3Eq
import PyProof.StrLawsRepr
import PyProof.Rows.StrCase
import PyProof.Rows.TmSorted
import HandS.Zip
import HandS.SortInts
import HandS.Deep
import HandS.List
import KE.DataMinMax
import KE.DataFind
import PyProof.ListStr
import PySem.Challenge.RW_onceswapped_k14_least_order_of_turns
set_option Elab.async false
set_option linter.all false
set_option maxRecDepth 100000
set_option maxHeartbeats 8000000
/-! guarded defs: a def's promise where no repr is under way (what repr of a list asks) -/
namespace Os
open PySem PySem.Spec PyProof.Rows L2

section
variable (P : Program) (w : World) (K : PySem.W.Frag) (mg : Str → Option Value) (base : Heap)
/-- the def at f keeps sp at every call that is made while no repr runs -/
structure FnG (k : Nat) (f : Addr) (fd : FuncData) (ps : List Str) (sp : Sp) : Prop where
  arity : ∀ vs H Q E, sp vs H Q E → vs.length = ps.length
  runs : ∀ (B : Around) (out : List Env) (st : Shared) (H : Hp) (ar : Args) (us : List Value) (vs : List V) (Q : VK) (E : XK),
    B.guards = some [] → Room k B → Env0 P w K mg base B out st H →
    BindsTo st fd ar (ps.zip us) → Vals vs us → sp vs H Q E →
    codeAny (model P w) B (.call (.ref f) ar) (CR CX0 out P w H st Q E) st
end

section
variable {P : Program} {w : World} {K : PySem.W.Frag} {mg : Str → Option Value} {base : Heap}

theorem FnG.of {k : Nat} {f : Addr} {fd : FuncData} {ps : List Str} {sp : Sp}
    (F : FnOk P w K mg base CX0 k f fd ps sp) : FnG P w K mg base k f fd ps sp :=
  ⟨F.len, fun B out st H ar us vs Q E _ => F.run B out st H ar us vs Q E⟩

theorem FnG.mono {j k : Nat} {f : Addr} {fd : FuncData} {ps : List Str} {sp : Sp} (F : FnG P w K mg base j f fd ps sp) (h : j ≤ k) : FnG P w K mg base k f fd ps sp :=
  ⟨F.arity, fun B out st H ar us vs Q E gd hr => F.runs B out st H ar us vs Q E gd (hr.mono h)⟩
/-- the rule for a def, the guards told to its body -/
theorem okG {x qual : Str} {st : Stmt} {f : Addr} {fd : FuncData} {N ps : List Str} {k : Nat} {sp : Sp}
    (F : Fun K x qual st f fd) (S : FnScope N ps (defScope st))
    (ar : ∀ vs H Q E, sp vs H Q E → vs.length = ps.length)
    (body : ∀ (cdv : Value) (B : Around) (out : List Env) (s : Shared) (H : Hp) (vs : List V) (Q : VK) (E : XK),
      B.guards = some [] → Room k (B.deeper (envOfC qual (defScope st) s.heap.objs.size f cdv)) → sp vs H Q E →
      ∃ t, PSs (cxOf CX0 P w K mg base N qual (defScope st) f cdv B out s H E).nox (defBody st) t ∧
        t { nx := fun _ H' => Q .non H', rt := Q } (start N vs) H) :
    FnG P w K mg base (k + 1) f fd ps sp := by
  obtain ⟨oc, od, kV, doc, pm, an, cd, ct, sl, efd, look, code⟩ := F.ex
  subst efd
  refine ⟨ar, ?_⟩
  intro B out s H args us vs Q E gd hr e0 hb rel hsp
  have hlen := ar _ _ _ _ hsp
  have inK : K.In s.heap := e0.mod.kin.keeps fun b o q => (e0.bs b o q).1
  have lim : s.heap.NoLimit :=
    e0.mod.nolimit.keeps fun b o q => (e0.bs b o q).1
  have kinds : ∀ y ∈ ps.zip us, (defScope st).names.lookup y.1 = some .local ∨
      ((defScope st).names.lookup y.1 = some .cell ∧ ((cellsFrom (s.heap.objs.size + 1) (defScope st).names []).lookup y.1).isSome = true) := by
    rintro ⟨n, v⟩ hy
    cases S.par n (List.of_mem_zip hy).1 with
    | inl q => exact .inl q
    | inr q => exact .inr ⟨q, PySem.W.cellsFrom_some _ _ _ (.inl q)⟩
  refine codeAny_call_function hr.depth (inK _ _ look) rfl S.co S.gen rfl (PySem.W.codeRec_of inK code) (hb _ _ _ _ ?_)
  refine wpAny_newFunctionEnv_cells S.kind kinds fun env ee s1 x => ?_
  cases ee
  refine ⟨lim.keeps x.toInCall.keep, codeAny_func ?_⟩
  obtain ⟨t, ht, hq⟩ := body cd B out s H vs Q E gd (hr.deeper _) hsp
  have I := inv_start (CX := CX0) (E := E) S hr.hd e0 hlen rel x
  refine wpAny_mono (ht.nox.run [] s1 (start N vs) H _ I hq) (fun fl s' hs => ?_) (fun _ _ z => z)
  cases fl with
  | ret u =>
    obtain ⟨v, sg, H', J, rv, q⟩ := hs
    exact ⟨v, H', J.os, J.bare, J.base, J.hok, rv, q⟩
  | next =>
    obtain ⟨sg, H', J, q⟩ := hs
    exact ⟨V.non, H', J.os, J.bare, J.base, J.hok, rfl, q⟩
  | brk => exact (hs.elim fun _ z => z.elim fun _ z => z.2).elim
  | cont => exact (hs.elim fun _ z => z.elim fun _ z => z.2).elim
end

section
variable {X : Cx} {k : Nat} {f : Addr} {fd : FuncData} {ps : List Str} {sp : Sp} {x : Str} {p pos : Pos} {e : Expr} {es : List Expr} {t : TA}
/-- a call of such a def -/
theorem pe_callG (F : FnG X.prog X.w X.K X.mg X.base k f fd ps sp) (gd : X.A.guards = some []) (hr : Room k X.A) (hg : Gl X x)
    (hm : X.mg x = some (.ref f)) (hk : PySem.W.keepIn X.K (.ref f) = true) (hb : Binds X.K fd ps [])
    (ha : PA X (e :: es) t) (hdb : (x == ("__debug__" : Str)) = false := by decide)
    (he : starEach (e :: es) X.env = (false, eval e X.env) :: starEach es X.env := by rfl)
    (hpl : (backTo pos (starEach es X.env)).any (·.1) = false := by rfl) :
    PE X (.Call (.Name x p) (e :: es) [] pos) (tCall sp [] E0 t) := by
  constructor
  intro pins s sg H Q I h
  refine wpAny_Call_Name_kw (ld_glob I hg hm ?_ hdb)
  refine PySem.W.callWith_K (h₀ := X.base) I.ok.mod.kin hk (thn (ha.run pos pins s sg H _ I h) ?_) he hpl
  rintro us s1 ⟨vs, H1, I1, r, q⟩
  refine ⟨I1.kIn, ?_⟩
  have r2 : Vals (vs ++ []) (us ++ []) := r.append .nil
  have hl : (us ++ []).length = ps.length := by
    rw [← r2.length]
    exact F.arity _ _ _ _ q
  refine wpAny_call (codeAny_mono (F.runs X.A X.stack s1 H1 ⟨us, []⟩ (us ++ []) (vs ++ []) Q E0 gd hr I1.env0 (hb s1 us I1.kIn hl) r2 q) ?_)
  intro rr s' hq
  match rr, hq with
  | .ok (.ret u), hq => exact I1.after hq
  | .ok .next, hq => exact hq.elim
  | .ok .brk, hq => exact hq.elim
  | .ok .cont, hq => exact hq.elim
  | .error _, hq => exact hq.elim
end

section
variable {P : Program} {w : World} {K : PySem.W.Frag} {mg mb : Str → Option Value} {k : Nat} {fa a : Addr} {fd : FuncData} {x : Str} {sp : Sp} {s1 : Shared} {vs : List Value} {ns : List Int}
/-- the heap that tracks at most the script -/
structure Bare (K : PySem.W.Frag) (a : Addr) (o : Obj) (h : Heap) (H : Hp) : Prop where
  only : Only H
  at' : ∀ b, H b ≠ none → b = a
  out : H a ≠ none → K.lookup a = none
theorem Bare.stay {o : Obj} {h : Heap} {H : Hp} (B : Bare K a o h H) (ho : h.get? a = some o) {b : Addr} {q : Obj} (e : h.get? b = some q) (no : b = a → q ≠ o) : H b = none :=
  Decidable.byContradiction fun z => by
    have eb := B.at' b z
    rw [eb, ho] at e
    exact no eb (Option.some.inj e).symm
theorem law_run (KX : K.In s1.heap) (hns : s1.heap.Ns mainGlobals mg) (hb : s1.heap.Ns builtinsNs mb)
    (hbb : ∀ x : Str, x ≠ "__name__" → mb x = bootBuiltins x) (hlim : s1.heap.NoLimit) (hg : s1.gens = #[])
    (ha : s1.heap.get? a = some { cls := .type "list", data := .seq vs.toArray }) {H : Hp} (B : Bare K a { cls := .type "list", data := .seq vs.toArray } s1.heap H)
    (ok : HOk P w H s1.heap) (hr : Room k callerA)
    (F : ∀ base : Heap, K.In base → base.Ns mainGlobals mg → FnG P w K mg base k fa fd [x] sp)
    (hbind : ∀ (s : Shared) (u : Value), BindsTo s fd ⟨[u], []⟩ [(x, u)])
    (hsp : sp [.ref a] H (fun v _ => v = .bl true) fun _ _ _ => False) :
    codeAny (model P w) callerA (.call (.ref fa) ⟨[.ref a], []⟩)
      (fun r s' => r = .ok (.ret (.bool true)) ∧ OldK s1.heap s'.heap ∧ s'.os = s1.os ∧ AllBare s'.gens) s1 := by
  have dictStays : ∀ {b : Addr} {m : Str → Option Value}, s1.heap.Ns b m → (hidT s1.heap H).Ns b m := by
    rintro b m ⟨o, es, ep, e, d, r⟩
    refine ⟨o, es, ep, hidT_get e (B.stay ha e fun _ z => ?_), d, r⟩
    subst z
    exact nomatch (show Data.seq vs.toArray _ = Data.dict es ep from d)
  have keptK : K.In (hidT s1.heap H) := fun b o e => hidT_get (KX b o e) <| Decidable.byContradiction fun z => by
    have eb := B.at' b z
    subst eb
    have := B.out z
    rw [e] at this
    cases this
  have M : Mod K mg (hidT s1.heap H) := by
    obtain ⟨mc, h1, h2⟩ := hlim
    exact ⟨keptK, dictStays hns, ⟨mb, dictStays hb, hbb⟩, ⟨mc, dictStays h1, h2⟩⟩
  have e0 : Env0 P w K mg (hidT s1.heap H) callerA [] s1 H := {
    frames := rfl, mod := M, bs := fun b o e => of_hidT e, bsz := Nat.le_of_eq (hidT_size _ _), funs := trivial,
    frf := fun b z => absurd (show b ∈ ([] : List Addr) from z) (by simp), hok := ok, bare := .of_eq hg }
  refine codeAny_mono ((F _ keptK (dictStays hns)).runs callerA [] s1 H ⟨[.ref a], []⟩ [.ref a] [.ref a] _ _ rfl hr e0 (hbind s1 (.ref a)) (.cons rfl .nil) hsp) ?_
  intro r s' hq
  match r, hq with
  | .error _, hq => exact hq.elim
  | .ok .next, hq => exact hq.elim
  | .ok .brk, hq => exact hq.elim
  | .ok .cont, hq => exact hq.elim
  | .ok (.ret u), ⟨v, H', os, bare, un, ok', r', q⟩ =>
    have q1 : v = .bl true := q
    subst q1
    have ru : u = Value.bool true := r'
    subst ru
    refine ⟨rfl, OldK.of_keep fun b o e => ?_, os, bare⟩
    rcases B.only b with z | ⟨ob, xs, z⟩
    · exact un.keep b o e z (fun y => absurd (show b ∈ ([] : List Addr) from y) (by simp)) (by simp)
    · have e1 := (ok b _ z).1
      have e2 := (ok' b _ (un.frzs b ob _ z)).1
      rw [e] at e1
      rw [e2, e1]
theorem law_callG (KX : K.In s1.heap) (hns : s1.heap.Ns mainGlobals mg) (hb : s1.heap.Ns builtinsNs mb)
    (hbb : ∀ x : Str, x ≠ "__name__" → mb x = bootBuiltins x) (hlim : s1.heap.NoLimit) (hg : s1.gens = #[])
    (ha : s1.heap.get? a = some { cls := .type "list", data := .seq vs.toArray }) (hi : IntsAre vs ns) (hl : ns.length ≤ sizeLine) (hr : Room k callerA)
    (F : ∀ base : Heap, K.In base → base.Ns mainGlobals mg → FnG P w K mg base k fa fd [x] sp)
    (hbind : ∀ (s : Shared) (u : Value), BindsTo s fd ⟨[u], []⟩ [(x, u)])
    (hsp : ∀ H : Hp, Only H → SqL K H a (ns.map V.int) → sp [.ref a] H (fun v _ => v = .bl true) fun _ _ _ => False) :
    codeAny (model P w) callerA (.call (.ref fa) ⟨[.ref a], []⟩)
      (fun r s' => r = .ok (.ret (.bool true)) ∧ OldK s1.heap s'.heap ∧ s'.os = s1.os ∧ AllBare s'.gens) s1 := by
  have rv : Vals (ns.map V.int) vs := vals_ints hi
  have hlen : vs.length = ns.length := hi.length
  by_cases hk : ∃ o, K.lookup a = some o
  · obtain ⟨o, hk⟩ := hk
    have e := KX a o hk
    rw [ha] at e
    have eo := Option.some.inj e
    subst eo
    have hO : Only (fun _ => none) := fun _ => .inl rfl
    refine law_run KX hns hb hbb hlim hg ha (H := fun _ => none) ⟨hO, fun b z => absurd rfl z, fun z => absurd rfl z⟩ (fun b u z => nomatch (show (none : Option HO) = some u from z)) hr F hbind (hsp _ hO ?_)
    exact .inr ⟨_, vs.toArray, _, hk, rfl, rfl, rfl, by rw [List.size_toArray, hlen]; exact hl, by simpa using rv⟩
  · have hk0 : K.lookup a = none := Option.eq_none_iff_forall_ne_some.mpr fun o q => hk ⟨o, q⟩
    let H1 : Hp := upd (fun _ => none) a (.frz { cls := .type "list", data := .seq vs.toArray } (.lst (ns.map V.int)))
    have at1 : ∀ b, H1 b ≠ none → b = a := fun b z => Decidable.byContradiction fun n => z (upd_ne n)
    have hO : Only H1 := fun b => by
      by_cases n : b = a
      · exact .inr ⟨_, _, by rw [n]; exact upd_same⟩
      · exact .inl (upd_ne n)
    refine law_run KX hns hb hbb hlim hg ha (H := H1) ⟨hO, at1, fun _ => hk0⟩ (fun b u z => ?_) hr F hbind (hsp _ hO (.inl (.inr ⟨_, upd_same⟩)))
    have eb := at1 b (by rw [z]; exact fun q => nomatch q)
    subst eb
    have z2 : some (HO.frz { cls := .type "list", data := .seq vs.toArray } (.lst (ns.map V.int))) = some u := upd_same.symm.trans z
    cases z2
    exact ⟨ha, by rw [List.length_map]; exact hl, vs, _, rv, ha⟩

/-- the goal that k_head leaves, from the law's guarded promise -/
theorem walk_ofG {l : PySem.W.OpenLaw} {n k : Nat} {q : Program} {loose : List Str} {XP : (Str → Option Value) → Heap → Prop} {YP : World → Heap → Prop}
    {d : DefRec} {K : Params → PySem.W.Frag} {sp : World → Sp} {x : Str}
    (hn : l.most = some n) (hn2 : n ≤ sizeLine) (hdf : d.params.defaults = []) (hr : Room k callerA)
    (hY : ∀ (w : World) (h : Heap), YP w h → (K w.params).In h)
    (F : ∀ (w : World) (mg : Str → Option Value) (fa : Addr) (h : Heap), (K w.params).In h → h.Ns mainGlobals mg → mg d.name = some (.ref fa) →
      ∃ fd : FuncData, (∀ (s : Shared) (u : Value), BindsTo s fd ⟨[u], []⟩ [(x, u)]) ∧
        ∀ base : Heap, (K w.params).In base → base.Ns mainGlobals mg → FnG l.prog w (K w.params) mg base k fa fd [x] (sp w))
    (hsp : ∀ (w : World) (H : Hp) (a : Addr) (ns : List Int), ns.length ≤ n → Only H → SqL (K w.params) H a (ns.map V.int) →
      sp w [.ref a] H (fun v _ => v = .bl true) fun _ _ _ => False) :
    PySem.W.WalkO q loose XP YP l.row.toRowW d [] (fun f vs => PySem.call f vs) :=
  Att.attach_call hn hdf fun w s₀ s₁ mg mb fa o pm cd doc a vs ns G Y ho hd hcd hmg hobj hints hlen hg =>
    have KX := hY w _ Y
    match F w mg fa _ KX G.T.g hmg with
    | ⟨_, hb, hF⟩ => law_callG KX G.T.g G.T.b G.T.builtins G.T.nolimit hg hobj hints (Nat.le_trans hlen hn2) hr hF hb
        (fun H hO hS => hsp w H a ns hlen hO hS)
end

/-! ### a call by keywords alone, in the opposite order of the parameters -/
def revG (us ws : List Value) : List Value := match us with
  | [] => ws.reverse
  | _ => []
def revV (us ws : List V) : List V := match us with
  | [] => ws.reverse
  | _ => []
theorem Vals.rev : ∀ {vs : List V} {us : List Value}, Vals vs us → Vals vs.reverse us.reverse
  | _, _, .nil => .nil
  | _, _, .cons r t => by
    rw [List.reverse_cons, List.reverse_cons]
    exact Vals.append (Vals.rev t) (.cons r .nil)
theorem revK {K : PySem.W.Frag} {fd : FuncData} {ps ks : List Str} (hp : ps ≠ []) (h : ∀ ws : List Value, ws.length = ps.length → bindArgs fd ⟨[], ks.zip ws⟩ = pure (ps.zip ws.reverse)) : KBinds K fd ps ks revG revV where
  to := fun s us ws _ hl => by
    cases us with
    | nil => exact .of_eq (h ws (by rw [← hl]; exact (List.length_reverse).symm))
    | cons u us =>
      have hl' : ([] : List Value).length = ps.length := hl
      exact absurd (List.length_eq_zero_iff.mp hl'.symm) hp
  rel := fun {vs us zs ws} r1 r2 => by
    cases r1 with
    | nil => exact Vals.rev r2
    | cons _ _ => exact .nil
theorem funRevK {K : PySem.W.Frag} {x qual : Str} {st : Stmt} {f : Addr} {fd : FuncData} {ps ks : List Str} (F : Fun K x qual st f fd) (hp : ps ≠ [])
    (h : ∀ (kV doc pm : Value) (an : Option Addr) (cdv ct : Value) (ws : List Value), ws.length = ps.length →
      bindArgs (PySem.W.fnOf x qual (defArgs st) (defBody st) (defScope st) .none kV doc pm an cdv ct) ⟨[], ks.zip ws⟩ = pure (ps.zip ws.reverse)) : KBinds K fd ps ks revG revV := by
  obtain ⟨oc, od, kV, doc, pm, an, cd, ct, sl, efd, look, code⟩ := F.ex
  subst efd
  exact revK hp (h kV doc pm an cd ct)
section
variable {X : Cx} {CX : CXT} {k : Nat} {f : Addr} {fd : FuncData} {ps ks : List Str} {sp : Sp} {E : XK} {x : Str} {p pos : Pos} {kws : List Keyword} {tk : TA} {g : List Value → List Value → List Value} {gV : List V → List V → List V}
theorem pe_callK0 (F : FnOk X.prog X.w X.K X.mg X.base CX k f fd ps sp) (hr : Room k X.A) (hg : Gl X x) (hm : X.mg x = some (.ref f)) (hk : PySem.W.keepIn X.K (.ref f) = true)
    (hb : KBinds X.K fd ps ks g gV) (hx : Passes CX X E) (hkw : PK X kws tk)
    (hall : (backToKw pos (keywordEach kws X.env)).all (·.1.isSome) = true := by rfl)
    (hks : (backToKw pos (keywordEach kws X.env)).filterMap (·.1) = ks := by rfl)
    (hdb : (x == ("__debug__" : Str)) = false := by decide)
    (hpl : ((backTo pos (starEach [] X.env)).any (·.1) || (backToKw pos (keywordEach kws X.env)).any (·.1.isNone)) = false := by rfl) :
    PE X (.Call (.Name x p) [] kws pos) (tCallK sp gV E tNil tk) := by
  constructor
  intro pins s sg H Q I h
  refine wpAny_Call_Name_kw (ld_glob I hg hm ?_ hdb)
  refine PySem.W.callWith_KW0 (h₀ := X.base) I.ok.mod.kin hk hall (thn (hkw.run pos pins s sg H _ I h) ?_) hpl
  rintro ws s2 ⟨zs, H2, I2, rz, q2⟩
  refine ⟨I2.kIn, ?_⟩
  rw [hks]
  exact run_fnk (us := []) (vs := []) F hr hb hx I2 .nil rz q2
end
end Os
/-! further rules by values: ** of great ints, repr of data, len(set(texts)), text * int, a call by keywords alone -/
namespace Os
open PySem PySem.Spec PyProof.Rows L2

/-! ### great powers -/
section
variable {X : Cx}
theorem op_powW : OpR X (binaryOp .Pow) (rI (fun i j => 0 ≤ j ∧ (Builtin.Int.intBits i : Int) * j ≤ 2 ^ 27) fun i j => .int (i ^ j.toNat)) :=
  opI fun _ _ _ _ _ _ _ hc q => pow_int hc.1 hc.2 q
end
theorem cube_ok {i : Int} {n : Nat} (h : i.natAbs < 2 ^ n) (h0 : 0 < n) (hn : n ≤ 1000000) : (0 : Int) ≤ 3 ∧ (Builtin.Int.intBits i : Int) * 3 ≤ 2 ^ 27 := by
  have hl := PySem.Flt.log2_lt_of h0 h
  have hb : Builtin.Int.intBits i ≤ i.natAbs.log2 + 1 := by
    unfold Builtin.Int.intBits
    split <;> omega
  omega

/-! ### text * int -/
section
variable {X : Cx}
def rMulS : R2 := fun x y H Q => ∃ (z : Str) (n : Int), x = .str z ∧ y = .int n ∧ MulOk z n ∧ Q (.str (Txt.mul z n)) H
theorem op_mulS : OpR X (binaryOp .Mult) rMulS := by
  intro pins s sg H x y v u Q I rx ry h
  obtain ⟨z, n, rfl, rfl, ok, q⟩ := h
  obtain ⟨t, rfl⟩ := rx
  obtain ⟨t', rfl⟩ := ry
  exact PySem.SB.mul ok fun t2 k => ⟨.str _, H, I.tok _, ⟨_, rfl⟩, q⟩
theorem mul_small {z : Str} {n : Int} (h0 : 0 ≤ n) (h1 : n ≤ 1000) (hz : z.length ≤ 1000) : MulOk z n := by
  refine ⟨?_, fun h _ => ?_, fun h _ => ?_⟩
  · rw [decide_eq_false (by omega), decide_eq_false (by omega)]
    rfl
  · have hn : 0 < n := by omega
    have : (1000 : Int) ≤ (2 ^ 63 - 1) / n := (Int.le_ediv_iff_mul_le hn).mpr (by omega)
    omega
  · have hm : z.length * n.toNat ≤ 1000 * 1000 := Nat.mul_le_mul hz (by omega)
    unfold Builtin.Str.tooLong
    have hl : (1000 * 1000 : Nat) ≤ sizeLine := by decide
    simp only [decide_eq_false_iff_not]
    omega
end

/-! ### data that stands in the tracked heap -/
mutual
inductive Dt (H : Hp) : V → PyData → Prop
  | non : Dt H .non .none
  | bl (b : Bool) : Dt H (.bl b) (.bool b)
  | int (i : Int) : Dt H (.int i) (.int i)
  | str (x : Str) : Dt H (.str x) (.str x)
  | lst {a : Addr} {xs : List V} {ds : List PyData} : H a = some (.lst xs) → Dts H xs ds → Dt H (.ref a) (.list ds)
  | tup {a : Addr} {xs : List V} {ds : List PyData} : H a = some (.tup xs) → Dts H xs ds → Dt H (.ref a) (.tuple ds)
inductive Dts (H : Hp) : List V → List PyData → Prop
  | nil : Dts H [] []
  | cons {v : V} {vs : List V} {d : PyData} {ds : List PyData} : Dt H v d → Dts H vs ds → Dts H (v :: vs) (d :: ds)
end
section
variable {H H' : Hp}
mutual
theorem Dt.same (e : Same H H') : ∀ {d : PyData} {v : V}, Dt H v d → Dt H' v d
  | _, _, .non => .non
  | _, _, .bl b => .bl b
  | _, _, .int i => .int i
  | _, _, .str x => .str x
  | _, _, .lst h t => .lst (e _ _ h) (Dts.same e t)
  | _, _, .tup h t => .tup (e _ _ h) (Dts.same e t)
theorem Dts.same (e : Same H H') : ∀ {ds : List PyData} {vs : List V}, Dts H vs ds → Dts H' vs ds
  | _, _, .nil => .nil
  | _, _, .cons h t => .cons (Dt.same e h) (Dts.same e t)
end
mutual
theorem Dt.dp {K : PySem.W.Frag} : ∀ {d : PyData} {v : V}, Dt H v d → Dp K H v d
  | _, _, .non => .non
  | _, _, .bl b => .bl b
  | _, _, .int i => .int i
  | _, _, .str x => .str x
  | _, _, .lst h t => .lst (.inl (.inl h)) (Dts.dp t)
  | _, _, .tup h t => .tup (.inl (.inl h)) (Dts.dp t)
theorem Dts.dp {K : PySem.W.Frag} : ∀ {ds : List PyData} {vs : List V}, Dts H vs ds → DpAll K H vs ds
  | _, _, .nil => .nil
  | _, _, .cons h t => .cons (Dt.dp h) (Dts.dp t)
end
theorem Dts.length : ∀ {ds : List PyData} {vs : List V}, Dts H vs ds → vs.length = ds.length
  | _, _, .nil => rfl
  | _, _, .cons _ t => congrArg (· + 1) (Dts.length t)
theorem Dts.get : ∀ {ds : List PyData} {vs : List V} {i : Nat} {v : V}, Dts H vs ds → vs[i]? = some v → ∃ d, ds[i]? = some d ∧ Dt H v d
  | _, _, _, _, .nil, e => by simp at e
  | _, _, 0, _, .cons h _, e => by simp at e; subst e; exact ⟨_, rfl, h⟩
  | _, _, i + 1, v, .cons _ t, e => by
    obtain ⟨d, h1, h2⟩ := Dts.get (i := i) (v := v) t (by simpa using e)
    exact ⟨d, by simpa using h1, h2⟩
end

/-! ### repr of such data -/
section
variable {X : Cx}
/-- how large data is when it is shown -/
structure Fit (n : Nat) (d : PyData) : Prop where
  long : d.shown.length ≤ n
  deep : d.depth ≤ 40
  show' : d.showable = true
  flat : d.hasDict = false
def rRepr : List V → Hp → VK → Prop := fun xs H Q => ∃ (x : V) (d : PyData), xs = [x] ∧ Dt H x d ∧ Fit sizeLine d ∧ Q (.str d.shown) H
theorem call_repr (gd : X.A.guards = some []) (hu : X.A.units + 64 < cLine) : CallR X (.builtin "repr") rRepr := by
  intro pins s sg H xs us Q I r h
  obtain ⟨x, d, e, hd, fit, q⟩ := h
  subst e
  obtain ⟨u, rfl, ru⟩ := Vals.one r
  have line : d.shown.length ≤ sizeLine := fit.long
  match d, x, hd with
  | _, _, .non =>
    cases ru
    exact PySem.P.repr_of_none ⟨.str _, H, I.tok _, ⟨_, rfl⟩, by simpa only [PyData.shown] using q⟩
  | _, _, .bl b =>
    cases ru
    exact PySem.P.repr_of_bool ⟨.str _, H, I.tok _, ⟨_, rfl⟩, by simpa only [PyData.shown] using q⟩
  | _, _, .int i =>
    obtain ⟨t, rfl⟩ := ru
    have hz : i.natAbs.log2 < 1920 := of_decide_eq_true (by simpa only [PyData.showable] using fit.show')
    exact PySem.P.repr_of_int hz ⟨.str _, H, I.tok _, ⟨_, rfl⟩, by simpa only [PyData.shown] using q⟩
  | _, _, .str z =>
    obtain ⟨t, rfl⟩ := ru
    exact PySem.P.repr_of_str ⟨.str _, H, I.tok _, ⟨_, rfl⟩, by simpa only [PyData.shown] using q⟩ (by simpa only [PyData.shown] using line)
  | _, _, .lst ha ht =>
    obtain ⟨as, rd⟩ := Dp.reads I _ _ u (Dt.dp (.lst ha ht)) ru
    cases ru
    refine PySem.repr_of_reads' rd fit.show' (PyData.noDict_hsm fit.flat) gd (by have := fit.deep; omega) (fun _ _ z => z) (fun h' u' tk k => ?_) line
    exact ⟨.str _, H, I.kept k, ⟨_, rfl⟩, q⟩
  | _, _, .tup ha ht =>
    obtain ⟨as, rd⟩ := Dp.reads I _ _ u (Dt.dp (.tup ha ht)) ru
    cases ru
    refine PySem.repr_of_reads' rd fit.show' (PyData.noDict_hsm fit.flat) gd (by have := fit.deep; omega) (fun _ _ z => z) (fun h' u' tk k => ?_) line
    exact ⟨.str _, H, I.kept k, ⟨_, rfl⟩, q⟩
end
end Os
/-! len(set(xs)), xs a list of texts of any number below 4000 -/
namespace Os
open PySem PySem.Spec PyProof.Rows L2

/-- the texts met so far, each once -/
def once : List Str → List Str
  | [] => []
  | x :: r => if x ∈ once r then once r else x :: once r
/-- the same from the left, over the first i of them -/
def met (xs : List Str) (i : Nat) : List Str := once (xs.take i).reverse
theorem met_zero (xs : List Str) : met xs 0 = [] := rfl
theorem met_succ {xs : List Str} {i : Nat} {x : Str} (h : xs[i]? = some x) : met xs (i + 1) = if x ∈ met xs i then met xs i else x :: met xs i := by
  unfold met
  rw [List.take_add_one, h]
  show once ((xs.take i ++ [x]).reverse) = _
  rw [List.reverse_append]
  rfl
theorem once_mem : ∀ {l : List Str} {x : Str}, x ∈ once l ↔ x ∈ l
  | [], _ => Iff.rfl
  | y :: r, x => by
    have ih := @once_mem r
    unfold once
    split
    · rename_i hy
      rw [ih, List.mem_cons]
      exact ⟨.inr, fun z => z.elim (fun e => by rw [e]; exact ih.mp hy) id⟩
    · rw [List.mem_cons, List.mem_cons, ih]
theorem once_le : ∀ l : List Str, (once l).length ≤ l.length
  | [] => Nat.le_refl _
  | y :: r => by
    have ih := once_le r
    unfold once
    split
    · exact Nat.le_succ_of_le ih
    · exact Nat.succ_le_succ ih
theorem once_nodup : ∀ l : List Str, (once l).length = l.length ↔ l.Nodup
  | [] => ⟨fun _ => .nil, fun _ => rfl⟩
  | y :: r => by
    have ih := once_nodup r
    have le := once_le r
    unfold once
    rw [List.nodup_cons]
    split
    · rename_i hy
      constructor
      · intro e
        rw [List.length_cons] at e
        omega
      · intro e
        exact absurd (once_mem.mp hy) e.1
    · rename_i hy
      rw [List.length_cons, List.length_cons]
      constructor
      · intro e
        exact ⟨fun z => hy (once_mem.mpr z), ih.mp (Nat.succ.inj e)⟩
      · intro e
        rw [ih.mpr e.2]
theorem met_le (xs : List Str) (i : Nat) : (met xs i).length ≤ i := by
  refine Nat.le_trans (once_le _) ?_
  rw [List.length_reverse, List.length_take]
  exact Nat.min_le_left _ _
theorem met_all (xs : List Str) : (met xs xs.length).length = xs.length ↔ xs.Nodup := by
  unfold met
  rw [List.take_length]
  have := once_nodup xs.reverse
  rw [List.length_reverse] at this
  rw [this]
  unfold List.Nodup
  rw [List.pairwise_reverse]
  exact ⟨fun h => h.imp fun a => a.symm, fun h => h.imp fun a => a.symm⟩

section
variable {prog : Program} {w : World} {A : Around} {R : Result → Shared → Prop} {I : Addr} {fp wr : List Addr} {G : Array GenState → Array GenState → Prop} {n : Nat} {P : Nat → Value → Prop} {St : Nat → Shared → Prop}
/-- what the set at S holds behind i turns -/
abbrev Holds (prog : Program) (w : World) (xs : List Str) (S : Addr) (i : Nat) (h : Heap) : Prop :=
  h.SetOf (PySem.strKind prog w) S (fun k => decide (k ∈ met xs i)) (met xs i).length
theorem set_fill (W : WalksS prog w A.in1 I fp wr G n P St) (S : Addr) (out : S ∉ fp) (xs : List Str)
    (ln : xs.length = n) (val : ∀ i v, P i v → ∃ x t, xs[i]? = some x ∧ v = .str x t) (room : n + 1 < scanBound) :
    ∀ (left i : Nat) (s : Shared), i + left = n → St i s → Holds prog w xs S i s.heap →
      (∀ s', Moved (S :: wr) G s s' → Holds prog w xs S n s'.heap → R (.ok (.ret .none)) s') →
      codeAny (model prog w) A (.builtin "set.update.loop" ⟨[.ref S, .ref I], []⟩) R s := by
  have noS : S ∉ wr := fun z => out (W.sub _ z)
  have more : ∀ b ∈ wr, b ∈ S :: wr := fun _ z => List.mem_cons_of_mem _ z
  have carried : ∀ {i : Nat} {s s' : Shared}, Moved wr G s s' → Holds prog w xs S i s.heap → Holds prog w xs S i s'.heap := by
    rintro i s s' mv ⟨o, es, ep, t, ho, rest⟩
    exact ⟨o, es, ep, t, mv.heap S _ noS ho, rest⟩
  intro left
  induction left with
  | zero =>
    intro i s e st hS fin
    have ein : i = n := e
    subst ein
    refine codeAny_builtin PyProof.Rows.F.entry_set_update_loop ?_
    rw [Around.under_plainId PyProof.Rows.F.plain_set_update_loop _]
    refine wpAny_bind (m := pyNext (.ref I)) (W.done s _ _ st fun s' mv => ?_)
    exact wpAny_pure (fin s' (mv.mono more) (carried mv hS))
  | succ left ih =>
    intro i s e st hS fin
    have lt : i < n := by omega
    refine codeAny_builtin PyProof.Rows.F.entry_set_update_loop ?_
    rw [Around.under_plainId PyProof.Rows.F.plain_set_update_loop _]
    refine wpAny_bind (m := pyNext (.ref I)) (W.item i s _ _ lt st fun v s' hP st' mv => ?_)
    obtain ⟨x, t, hx, ev⟩ := val i v hP
    subst ev
    have hS1 := carried mv hS
    show wpAny _ A.in1 (holding [Value.str x t] (setAdd S (.str x t)) >>= _) _ _ s'
    refine wpAny_bind (wpAny_holding ?_)
    unfold setAdd
    refine wpAny_holding (wpAny_bind ((PySem.strKind prog w).pyHash (k := x) (strKind_is _ _ _ _) ?_))
    have fits : (met xs i).length + 1 < scanBound := by
      have := met_le xs i
      omega
    refine wpAny_setAddHashed_of (knd := PySem.strKind prog w) (s := { s' with toks := s'.toks + 1 }) (strKind_is _ _ _ _) rfl hS1 fits fun h' same hS2 => ?_
    have hS3 : Holds prog w xs S (i + 1) h' := by
      refine PyProof.Rows.SetOf_congr hS2 (fun k => ?_) ?_
      · rw [met_succ hx]
        by_cases m : x ∈ met xs i
        · rw [if_pos m]
          by_cases ek : k = x
          · subst ek
            simp [m]
          · simp [ek]
        · rw [if_neg m]
          by_cases ek : k = x
          · subst ek
            simp
          · simp [ek]
      · rw [met_succ hx]
        by_cases m : x ∈ met xs i
        · simp [m]
        · simp [m]
    refine wpAny_pure ⟨plainId_quiet PyProof.Rows.F.plain_set_update_loop _, ih (i + 1) _ (by omega) (W.frame _ s' _ _ st' (Nat.le_succ _) fun b hb o q => ?_) hS3 fun s2 mv2 hS4 => ?_⟩
    · rw [same.2 b (fun z : b = S => out (by rw [← z]; exact hb))]
      exact q
    · refine fin s2 (Moved.trans W.gtrans ((mv.mono more).then_heap (Nat.le_succ _) fun b o hb q => ?_) mv2) hS4
      rw [same.2 b (fun z : b = S => hb (by rw [z]; exact List.mem_cons_self))]
      exact q
end

section
variable {prog : Program} {w : World} {A : Around} {E : Value → Shared → Prop} {s : Shared}
/-- a new set -/
abbrev freshSet (led : Bool) : Obj := { cls := .type "set", dict := none, data := .set #[] 0 (.fresh 0 0 led) }
/-- its __init__ over a list of texts -/
theorem init_set_strs {l : Addr} {items : Array Value} {xs : List Str} {led : Bool} {R : Result → Shared → Prop} (hh : A.handled = none)
    (hl : s.heap.IsList l items) (hi : PyProof.Rows.StrsAre items.toList xs) (room : xs.length + 1 < scanBound)
    (h : ∀ (h' : Heap) (tk : Nat), Holds prog w xs s.heap.objs.size xs.length h' →
      (∀ b o, b < s.heap.objs.size → s.heap.get? b = some o → h'.get? b = some o) → R (.ok (.ret .none)) { s with heap := h', toks := tk }) :
    wpAny (model prog w) A.in1 (Builtin.«set.__init__» ⟨[.ref s.heap.objs.size, .ref l], []⟩) (fun fin s' => match fin with
        | .done f => R (.ok f) s'
        | .again c => c.quiet = true ∧ codeAny (model prog w) A c R s')
      (fun e s' => R (.error e) s') { s with heap := s.heap.push (freshSet led) } := by
  obtain ⟨⟨_, od, _, osl⟩, hol, rfl, nl, rfl⟩ := hl
  have there : (s.heap.push (freshSet led)).get? l = some ⟨.type "list", od, .seq items nl, osl⟩ := Heap.get?_push_of_some _ hol
  have newAt : (s.heap.push (freshSet led)).get? s.heap.objs.size = some (freshSet led) := Heap.get?_push_size _ rfl
  have lst1 : (s.heap.push (freshSet led)).IsList l items := ⟨_, there, rfl, nl, rfl⟩
  have hT : Shared.TypeIs { s with heap := s.heap.push (freshSet led) } (.ref s.heap.objs.size) "set" := ⟨_, newAt, rfl⟩
  have subS := PySem.F.sub_list_set
  have subF := PySem.F.sub_list_frozenset
  have notD : (Value.type "list" == Value.type "dict") = false := by decide
  unfold Builtin.«set.__init__» noKeywords Builtin.Frozenset.updateFrom
  generalize hPI : pyIter = PI
  wp_walk
  subst hPI
  refine wpAny_pyIter_list lst1 ?_
  refine wpAny_bind (wpAny_runValue ?_)
  have lS : l < s.heap.objs.size := Heap.lt_size hol
  have hh2 : A.in1.in1.handled = none := by simp [hh]
  have apart : l ≠ (s.heap.push (freshSet led)).objs.size := by
    rw [Heap.size_push]
    exact Nat.ne_of_lt (Nat.lt_succ_of_lt lS)
  have outer : s.heap.objs.size ∉ [(s.heap.push (freshSet led)).objs.size, l] := by
    rw [Heap.size_push]
    intro z
    rcases List.mem_cons.mp z with z | z
    · exact absurd z (Nat.ne_of_lt (Nat.lt_succ_self _))
    · exact absurd (List.mem_singleton.mp z) (Nat.ne_of_gt lS)
  have hsz : xs.length = items.size := by rw [← StrsAre.len_eq hi, Array.length_toList]
  have vals : ∀ (i : Nat) (v : Value), items[i]? = some v → ∃ x t, xs[i]? = some x ∧ v = .str x t := fun i v hv => by
    rw [← Array.getElem?_toList] at hv
    obtain ⟨t, e⟩ := SS.strs_at hi i v hv
    have lt : i < xs.length := by
      rw [← StrsAre.len_eq hi]
      exact (List.getElem?_eq_some_iff.mp hv).1
    refine ⟨xs[i], t, List.getElem?_eq_getElem lt, ?_⟩
    rw [e, List.getD_eq_getElem?_getD, List.getElem?_eq_getElem lt]
    rfl
  refine set_fill ((Walks.list hh2 _ l apart items).toS) s.heap.objs.size outer xs hsz vals (by rw [← hsz]; exact room) items.size 0 _ (Nat.zero_add _)
    ?start ?first ?last
  case start => exact ⟨⟨_, Heap.get?_push_size _ rfl, rfl, rfl⟩, (lst1.push _)⟩
  case first =>
    refine PyProof.Rows.SetOf_congr ((PyProof.Rows.setObjOf_fresh (knd := PySem.strKind prog w) led).setOf (Heap.get?_push_of_some _ newAt) (by unfold scanBound; omega)) (fun k => ?_) rfl
    rw [met_zero]
    rfl
  case last =>
    intro s' mv hS
    obtain ⟨h', g', d', tk', os'⟩ := s'
    have e1 : g' = s.gens := mv.gens
    have e2 : d' = s.drawn := mv.drawn
    have e3 : os' = s.os := mv.os
    subst e1 e2 e3
    show wpAny _ _ _ _ _ _
    refine wpAny_pure ?_
    refine wpAny_pure (h h' tk' (by rw [hsz]; exact hS) fun b o hb q => ?_)
    refine mv.heap b o (fun z => ?_) (Heap.get?_push_of_some _ (Heap.get?_push_of_some _ q))
    rcases List.mem_cons.mp z with z | z
    · exact absurd z (Nat.ne_of_lt hb)
    · rw [List.mem_singleton, Heap.size_push] at z
      exact absurd z (Nat.ne_of_lt (Nat.lt_succ_of_lt hb))

/-- set(xs), xs a list of texts -/
theorem call_set_strs {l : Addr} {items : Array Value} {xs : List Str} {Q : Value → Shared → Prop} (hh : A.handled = none)
    (hl : s.heap.IsList l items) (hi : PyProof.Rows.StrsAre items.toList xs) (room : xs.length + 1 < scanBound)
    (h : ∀ (h' : Heap) (tk : Nat), Holds prog w xs s.heap.objs.size xs.length h' →
      (∀ b o, b < s.heap.objs.size → s.heap.get? b = some o → h'.get? b = some o) → Q (.ref s.heap.objs.size) { s with heap := h', toks := tk }) :
    wpAny (model prog w) A (call (.type "set") [.ref l]) Q E s := by
  obtain ⟨c, tl, mro⟩ := PySem.F.called_set.mro
  have made := PySem.F.called_set.made
  have sub := PySem.F.called_set.sub
  have noTy := PySem.F.called_set.notType
  have creates := PySem.F.called_set.canCreate
  have typeCall := PySem.F.typeCall_set_1 (.ref l)
  refine wpAny_call (codeAny_of_tree ?_)
  show wpAny _ _ (callAny (.type "set") _) _ _ _
  refine wpAny_pure ⟨Code.quiet_builtin _ (by decide +kernel), codeAny_builtin PySem.F.entry_type_call ?_⟩
  rw [Around.under_plain (weight_type_call_type "set" [.ref l] []) rfl]
  repeat (any_goals (first | assumption | wp_step))
  refine codeAny_mono (code_set_new_1 (.ref l) (E := E) (Q₁ := fun v s₁ => ∃ led : Bool, v = .ref s.heap.objs.size ∧ s₁ = { s with heap := s.heap.push (freshSet led) }) fun led => ⟨led, rfl, rfl⟩) ?_
  intro r s1 hr
  match r, hr with
  | .error _, hr => exact hr
  | .ok .next, hr => exact hr.elim
  | .ok .brk, hr => exact hr.elim
  | .ok .cont, hr => exact hr.elim
  | .ok (.ret v), ⟨led, ev, es⟩ =>
    subst ev es
    have newAt : (s.heap.push (freshSet led)).get? s.heap.objs.size = some (freshSet led) := Heap.get?_push_size _ rfl
    have hT : Shared.TypeIs { s with heap := s.heap.push (freshSet led) } (.ref s.heap.objs.size) "set" := ⟨_, newAt, rfl⟩
    have initLook := PySem.F.called_set.init.lookup
    have initBind := PySem.F.called_set.init.bind (.ref s.heap.objs.size)
    repeat (any_goals (first | assumption | wp_step))
    refine codeAny_mono (codeAny_call_builtin (R := wants (fun v s2 => v = .none ∧ ∃ h' tk, s2 = { s with heap := h', toks := tk } ∧ Holds prog w xs s.heap.objs.size xs.length h' ∧
      (∀ b o, b < s.heap.objs.size → s.heap.get? b = some o → h'.get? b = some o)) E) PySem.F.called_set.init.plain PySem.F.entry_set_init (check_set_init_1 hT (init_set_strs (by simp [hh]) hl hi room fun h' tk a b => ⟨rfl, h', tk, rfl, a, b⟩))) ?_
    intro r2 s2 hr2
    match r2, hr2 with
    | .error _, hr2 => exact hr2
    | .ok .next, hr2 => exact hr2.elim
    | .ok .brk, hr2 => exact hr2.elim
    | .ok .cont, hr2 => exact hr2.elim
    | .ok (.ret v2), ⟨ev2, h', tk, es2, a, b⟩ =>
      subst ev2 es2
      repeat (any_goals (first | assumption | wp_step))
      exact h _ _ a b
end

/-- len(set(xs)) -/
def tLenSetS (K : PySem.W.Frag) (ta : TE) : TE := fun σ H Q => ta σ H fun x H1 => ∃ (l : Addr) (xs : List Str), x = .ref l ∧ SqL K H1 l (xs.map V.str) ∧ xs.length ≤ 4000 ∧ Q (.int (met xs xs.length).length) H1
theorem pe_lenSetS {X : Cx} {a : Expr} {ta : TE} {p p2 q pos : Pos} (hg : Gl X "len") (hm : X.mg "len" = none) (hg2 : Gl X "set") (hm2 : X.mg "set" = none) (ha : PE X a ta) (hc : X.calm = true := by rfl)
    (na : starEach [a] X.env = (false, eval a X.env) :: starEach [] X.env := by rfl) : PE X (.Call (.Name "len" p) [.Call (.Name "set" p2) [a] [] q] [] pos) (tLenSetS X.K ta) := by
  constructor
  intro pins s sg H Q I h
  refine Call_ (ld_blt I hg hm boot_len ?_)
  refine PyProof.Rows.callWith_builtin1 (PyProof.Rows.args_cons ?_ rfl) rfl rfl
  refine Call_ (ld_blt I hg2 hm2 boot_set ?_)
  refine PyProof.Rows.callWith_type1 (PyProof.Rows.args_cons (thn (ha.run pins s sg H _ I h) ?_) na) na rfl
  rintro v s1 ⟨x, H1, I1, r1, l, xs, ex, hq, hl, q1⟩
  refine PyProof.Rows.args_nil ?_
  subst ex
  cases r1
  obtain ⟨its, r, pl, hz⟩ := I1.list hq
  refine call_set_strs (I1.ok.hd hc) pl.isList (by simpa using Vals.strs r) (by unfold scanBound; omega) fun h' tk hS hk => ?_
  refine PyProof.Rows.args_nil ?_
  obtain ⟨o, es, ep, t, ho, hex, hd, _, _, _, hf, hn⟩ := hS
  have I2 : Inv X pins sg H1 { s1 with heap := h', toks := tk } := I1.kept fun b o e => hk b o (Heap.lt_size e) e
  have small : (met xs xs.length).length ≤ 4000 := Nat.le_trans (met_le xs _) hl
  exact call_len_set ho hex hd hf (by rw [hn]; omega) ⟨.int (met xs xs.length).length, H1, I2.tok _, ⟨_, by rw [hn]⟩, q1⟩
end Os
namespace Os
open PySem PySem.Spec PyProof.Rows L2

/-! ### kinds of data -/
def tyName : PyData → String
  | .none => "NoneType"
  | .bool _ => "bool"
  | .int _ => "int"
  | .str _ => "str"
  | .list _ => "list"
  | .tuple _ => "tuple"
  | .dict _ => "dict"
def isStrD : PyData → Bool
  | .str _ => true
  | _ => false
def isListD : PyData → Bool
  | .list _ => true
  | _ => false
def isTupD : PyData → Bool
  | .tuple _ => true
  | _ => false
theorem kit_str (d : PyData) : kitB (tyName d) "str" = some (isStrD d) := by
  cases d <;> (simp only [tyName, isStrD, isListD, isTupD]; decide +kernel)
theorem kit_list (d : PyData) : kitB (tyName d) "list" = some (isListD d) := by
  cases d <;> (simp only [tyName, isStrD, isListD, isTupD]; decide +kernel)
theorem kit_tup (d : PyData) : kitB (tyName d) "tuple" = some (isTupD d) := by
  cases d <;> (simp only [tyName, isStrD, isListD, isTupD]; decide +kernel)
section
variable {H H' : Hp} {v : V} {d : PyData} {K : PySem.W.Frag}
theorem Dt.ty (h : Dt H v d) : TyOf K H v (.type (tyName d)) := by
  cases h with
  | non => exact .non
  | bl b => exact .bl b
  | int i => exact .int i
  | str x => exact .str x
  | lst ha _ => exact .lst ha
  | tup ha _ => exact .tup ha
theorem isi_of {T : String} {b : Bool} {Q : VK} (h : Dt H v d) (e : kitB (tyName d) T = some b) (q : Q (.bl b) H) : rIsi K [v, .ty T] H Q :=
  ⟨v, .ty T, _, _, b, rfl, .ty T, .base h.ty, kit_ty e, q⟩
theorem Dt.str_or (h : Dt H v d) : (∃ z, v = .str z ∧ d = .str z) ∨ isStrD d = false := by
  cases h with
  | str x => exact .inl ⟨x, rfl, rfl⟩
  | _ => exact .inr rfl
theorem Dt.list_or (h : Dt H v d) : (∃ a xs ds, v = .ref a ∧ H a = some (.lst xs) ∧ Dts H xs ds ∧ d = .list ds) ∨ isListD d = false := by
  cases h with
  | lst ha t => exact .inl ⟨_, _, _, rfl, ha, t, rfl⟩
  | _ => exact .inr rfl
theorem Dt.tup_or (h : Dt H v d) : (∃ a xs ds, v = .ref a ∧ H a = some (.tup xs) ∧ Dts H xs ds ∧ d = .tuple ds) ∨ isTupD d = false := by
  cases h with
  | tup ha t => exact .inl ⟨_, _, _, rfl, ha, t, rfl⟩
  | _ => exact .inr rfl
end
/-! ### heaps but for one address -/
/-- H without what stands at s -/
def hide (s : Addr) (H : Hp) : Hp := fun b => if b = s then none else H b
theorem hide_ne {s b : Addr} {H : Hp} (h : b ≠ s) : hide s H b = H b := if_neg h
theorem hide_at {s : Addr} {H : Hp} : hide s H s = none := if_pos rfl
theorem hide_of {s b : Addr} {H : Hp} {o : HO} (h : hide s H b = some o) : b ≠ s ∧ H b = some o := by
  unfold hide at h
  split at h
  · cases h
  · exact ⟨by assumption, h⟩
theorem hide_same {s : Addr} {H : Hp} : Same (hide s H) H := fun _ _ h => (hide_of h).2
theorem Same.hide {s : Addr} {H H' : Hp} (e : Same H H') : Same (Os.hide s H) (Os.hide s H') := fun b o h => by
  obtain ⟨h1, h2⟩ := hide_of h
  rw [hide_ne h1]
  exact e b o h2
theorem hide_upd {s : Addr} {H : Hp} {o : HO} : Os.hide s (upd H s o) = Os.hide s H := by
  funext b
  by_cases e : b = s
  · rw [e, hide_at, hide_at]
  · rw [hide_ne e, hide_ne e, upd_ne e]
theorem same_new {H : Hp} {p : Addr} {o : HO} (h : H p = none) : Same H (upd H p o) := fun b u e => by
  rw [upd_ne (ne_of_none e h)]
  exact e
/-- what H does not know may change -/
theorem same_mut {H H' : Hp} {p : Addr} {o : HO} (e : Same H H') (h : H p = none) : Same H (upd H' p o) := fun b u q => by
  rw [upd_ne (ne_of_none q h)]
  exact e b u q
theorem Same.none {H H' : Hp} (e : Same H H') {p : Addr} (h : H' p = Option.none) : H p = Option.none := e.free h
theorem hide_none {s p : Addr} {H : Hp} (h : H p = Option.none) : Os.hide s H p = Option.none := by
  unfold Os.hide
  split
  · rfl
  · exact h
end Os
namespace Os
open PySem PySem.Spec PyProof.Rows L2 Evl

/-! ### more of what evaluates to what -/
section
variable {K : PySem.W.Frag} {σ : L2.St} {H H' : Hp} {ta tb tc te : TE} {t : TT} {x y z v : V} {r r' : R2}
theorem same_ex (e : Ex H H') : Same H H' := e
theorem ev_isi {T : String} {b : Bool} {d : PyData} (h : Ev ta σ H v) (hd : Dt H v d) (e : kitB (tyName d) T = some b) :
    Ev (tCB (rIsi K) (tCons ta (tCons (tC (.ty T)) tNil))) σ H (.bl b) := fun H1 e1 Q q =>
  h H1 e1 _ fun H2 e2 => isi_of (hd.same (same_ex (e1.trans e2))) e (q H2 e2)
theorem ev_lenS {s : Str} (h : Ev ta σ H (.str s)) (hl : s.length ≤ 100000) :
    Ev (tCB (fun xs H Q => ∃ z, xs = [.str z] ∧ z.length ≤ sizeLine ∧ Q (.int z.length) H) (tCons ta tNil)) σ H (.int s.length) := fun H1 e1 Q q =>
  h H1 e1 _ fun H2 e2 => ⟨s, rfl, sz_of hl, q H2 e2⟩
theorem ev_chain {b c : Bool} (h1 : Ev ta σ H x) (h2 : Ev tb σ H y) (hr : RV r x y H (.bl b)) (h3 : b = true → ∃ z, Ev tc σ H z ∧ RV r' y z H (.bl c)) :
    Ev (tChain r r' ta tb tc) σ H (.bl (b && c)) := fun H1 e Q q =>
  h1 H1 e _ fun H2 e2 => h2 H2 (e.trans e2) _ fun H3 e3 => hr H3 ((e.trans e2).trans e3) _ fun H4 e4 => ⟨b, rfl, by
    cases b with
    | true =>
      obtain ⟨z, hz, hs⟩ := h3 rfl
      show tc σ H4 _
      exact hz H4 (((e.trans e2).trans e3).trans e4) _ fun H5 e5 => hs H5 ((((e.trans e2).trans e3).trans e4).trans e5) Q fun H6 e6 => q H6 ((((e2.trans e3).trans e4).trans e5).trans e6)
    | false =>
      show Q (.bl false) H4
      exact q H4 ((e2.trans e3).trans e4)⟩
theorem rv_leS {i j : Str} : RV (fun x y H Q => ∃ i j, x = .str i ∧ y = .str j ∧ Q (.bl (!decide (j.cps.toList < i.cps.toList))) H) (.str i) (.str j) H (.bl (!decide (j.cps.toList < i.cps.toList))) :=
  fun H1 _ _ q => ⟨i, j, rfl, rfl, q H1 (Ex.refl H1)⟩
theorem rv_notInSign {c : Nat} {s : Str} : RV (fun x y H Q => ∃ (c : Nat) (z : Str), x = .str ⟨#[c]⟩ ∧ y = .str z ∧ Q (.bl (!decide (c ∈ z.cps.toList))) H) (.str ⟨#[c]⟩) (.str s) H (.bl (!decide (c ∈ s.cps.toList))) :=
  fun H1 _ _ q => ⟨c, s, rfl, rfl, q H1 (Ex.refl H1)⟩
theorem ev_abs {i : Int} (h : Ev ta σ H (.int i)) : Ev (tCB (fun xs H Q => ∃ i, xs = [V.int i] ∧ Q (.int (if i < 0 then -i else i)) H) (tCons ta tNil)) σ H (.int (if i < 0 then -i else i)) := fun H1 e1 Q q =>
  h H1 e1 _ fun H2 e2 => ⟨i, rfl, q H2 e2⟩
theorem ev_max {i j : Int} (ha : Ev ta σ H (.int i)) (hb : Ev tb σ H (.int j)) : Ev (tCB (fun xs H Q => ∃ i j, xs = [V.int i, .int j] ∧ Q (.int (if j > i then j else i)) H) (tCons ta (tCons tb tNil))) σ H (.int (if j > i then j else i)) := fun H1 e1 Q q =>
  ha H1 e1 _ fun H2 e2 => hb H2 (e1.trans e2) _ fun H3 e3 => ⟨i, j, rfl, q H3 (e2.trans e3)⟩
theorem ev_min {i j : Int} (ha : Ev ta σ H (.int i)) (hb : Ev tb σ H (.int j)) : Ev (tCB (fun xs H Q => ∃ i j, xs = [V.int i, .int j] ∧ Q (.int (if j < i then j else i)) H) (tCons ta (tCons tb tNil))) σ H (.int (if j < i then j else i)) := fun H1 e1 Q q =>
  ha H1 e1 _ fun H2 e2 => hb H2 (e1.trans e2) _ fun H3 e3 => ⟨i, j, rfl, q H3 (e2.trans e3)⟩
theorem ev_all {bs : List Bool} (h : EvL ta σ H (bs.map V.bl)) : Ev (tCB (rAll K) (tCons ta tNil)) σ H (.bl (bs.all id)) := fun H1 e Q q =>
  h H1 e _ fun p H2 _ e2 hp => ⟨p, bs, rfl, sq_of hp, q H2 e2⟩
theorem ev_repr {d : PyData} (h : Ev ta σ H v) (hd : Dt H v d) (fit : Fit sizeLine d) : Ev (tCB rRepr (tCons ta tNil)) σ H (.str d.shown) := fun H1 e Q q =>
  h H1 e _ fun H2 e2 => ⟨v, d, rfl, hd.same (same_ex (e.trans e2)), fit, q H2 e2⟩
theorem ev_reprL {xs : List V} {ds : List PyData} (h : EvL ta σ H xs) (hd : Dts H xs ds) (fit : Fit sizeLine (.list ds)) : Ev (tCB rRepr (tCons ta tNil)) σ H (.str (PyData.list ds).shown) := fun H1 e Q q =>
  h H1 e _ fun p H2 _ e2 hp => ⟨.ref p, .list ds, rfl, .lst hp (hd.same (same_ex (e.trans e2))), fit, q H2 e2⟩
/-- two lists, the left a new one, the right a new one, of data -/
theorem ev_eqLL {xs ys : List V} {ds es : List PyData} (ha : EvL ta σ H xs) (hb : EvL tb σ H ys) (hx : Dts H xs ds) (hy : Dts H ys es) (s1 : SeqAt.shaped (.list ds) = true) (s2 : SeqAt.shaped (.list es) = true) :
    Ev (tOp (rEqD K) ta tb) σ H (.bl (PyData.eqv (.list ds) (.list es))) :=
  ev_opLL ha hb fun p q H1 hp hq e => fun H2 e2 Q k => ⟨.list ds, .list es, Dt.dp (.lst (e2 _ _ hp) (hx.same (same_ex (e.trans e2)))), Dt.dp (.lst (e2 _ _ hq) (hy.same (same_ex (e.trans e2)))), s1, s2, k H2 (Ex.refl H2)⟩
/-- a call of a def that makes nothing but a value -/
theorem ev_sp {sp : Sp} {dvs vs : List V} {E : XK} {ta : TA} (h : EvA ta σ H vs) (hs : ∀ H1, Ex H H1 → ∀ Q : VK, (∀ H2, Ex H1 H2 → Q z H2) → sp (vs ++ dvs) H1 Q E) : Ev (tCall sp dvs E ta) σ H z := fun H1 e Q q =>
  h H1 e _ fun H2 e2 => hs H2 (e.trans e2) Q fun H3 e3 => q H3 (e2.trans e3)
/-- a comprehension over a text -/
theorem el_lcS {s : Str} {j : Nat} {vs : List Nat} {tl : TE} (f : Nat → Bool) (v : Nat → V) (h : Ev tl σ H (.str s)) (hz : s.length ≤ 40000) (hw : ∀ x, wipe ((wipe σ vs).set j (some x)) vs = wipe σ vs)
    (ht : ∀ (i c : Nat) H1, Ex H H1 → s.cps.toList[i]? = some c → EvT t ((wipe σ vs).set j (some (.str ⟨#[c]⟩))) H1 (f i))
    (he : ∀ (i c : Nat) H1, Ex H H1 → s.cps.toList[i]? = some c → f i = true → Ev te ((wipe σ vs).set j (some (.str ⟨#[c]⟩))) H1 (v i)) :
    EvL (tLc (iStr tl) (gName j) t te vs) σ H (given s.length f v) := fun H0 e Q q => h H0 e _ fun H1 e1 => ⟨s, rfl, fun Dl hD =>
  lc_it (walk_str (z := s)) (Cw H1 f v Dl) ⟨hD, Ex.new hD, upd_same⟩ (fun _ _ _ _ => trivial) (fun i x Ha Hb hi p y => by
    obtain ⟨rfl, c, hc, rfl⟩ := y
    have hc' : s.cps.toList[i]? = some c := by rw [Array.getElem?_toList]; exact hc
    have hi2 : i < s.length := hi
    exact ⟨hw _, cw_turn p (by omega) (ht i c H1 (e.trans e1) hc') (fun hf => he i c H1 (e.trans e1) hc' hf)⟩)
    (fun Hc p => q Dl Hc (fresh_back e1 p.1) (e1.trans p.2.1) p.2.2)⟩
end

/-! ### what a comprehension gives, by the items -/
theorem given_map {α : Type} (xs : List α) (g : α → V) (v : Nat → V) (h : ∀ i x, xs[i]? = some x → v i = g x) : given xs.length (fun _ => true) v = xs.map g := by
  unfold given
  rw [List.filter_eq_self.mpr (fun _ _ => rfl)]
  refine List.ext_getElem? fun i => ?_
  rw [List.getElem?_map, List.getElem?_map]
  by_cases hi : i < xs.length
  · rw [List.getElem?_range hi, List.getElem?_eq_getElem hi]
    exact congrArg some (h i _ (List.getElem?_eq_getElem hi))
  · rw [List.getElem?_eq_none (by rw [List.length_range]; omega), List.getElem?_eq_none (by omega)]
    rfl
theorem given_part {α : Type} (g : α → V) (p : α → Bool) (f : Nat → Bool) (v : Nat → V) (xs : List α) (hf : ∀ i x, xs[i]? = some x → f i = p x) (hv : ∀ i x, xs[i]? = some x → v i = g x) :
    ∀ n, n ≤ xs.length → given n f v = ((xs.take n).filter p).map g
  | 0, _ => rfl
  | n + 1, hn => by
    have lt : n < xs.length := hn
    have e := List.getElem?_eq_getElem lt
    have ih := given_part g p f v xs hf hv n (Nat.le_of_lt lt)
    rw [List.take_add_one, e]
    show _ = ((xs.take n ++ [xs[n]]).filter p).map g
    rw [List.filter_append, List.map_append, ← ih]
    cases hp : p xs[n] with
    | true =>
      rw [given_yes (by rw [hf _ _ e]; exact hp), hv _ _ e, List.filter_cons, if_pos hp]
      rfl
    | false =>
      rw [given_no (by rw [hf _ _ e]; exact hp), List.filter_cons, if_neg (by rw [hp]; decide)]
      rw [List.filter_nil, List.map_nil, List.append_nil]
theorem given_filter {α : Type} (g : α → V) (p : α → Bool) (f : Nat → Bool) (v : Nat → V) (xs : List α) (hf : ∀ i x, xs[i]? = some x → f i = p x) (hv : ∀ i x, xs[i]? = some x → v i = g x) :
    given xs.length f v = (xs.filter p).map g := by
  rw [given_part g p f v xs hf hv _ (Nat.le_refl _), List.take_length]
theorem given_eq {n : Nat} {f g : Nat → Bool} {v u : Nat → V} (hf : ∀ i, i < n → f i = g i) (hv : ∀ i, i < n → v i = u i) : given n f v = given n g u := by
  unfold given
  rw [List.filter_congr (q := g) (fun i hi => hf i (List.mem_range.mp hi))]
  exact List.map_congr_left fun i hi => hv i (List.mem_range.mp (List.mem_filter.mp hi).1)
end Os
/-! forests: the mathematics, and pairs of ints in the heap -/
namespace Os
open PySem PySem.Spec PyProof.Rows L2 Evl

abbrev Pr := Nat × Nat
/-! ### labels that are merged: the program's search for a cycle -/
def merge (t : List Nat) (e : Pr) : List Nat := t.map fun x => if x = t.getD e.2 0 then t.getD e.1 0 else x
def cycB : List Pr → List Nat → Bool
  | [], _ => false
  | e :: r, t => if t.getD e.1 0 = t.getD e.2 0 then true else cycB r (merge t e)
/-- each edge has a side that all other edges respect -/
def Bridges (es : List Pr) : Prop := ∀ e ∈ es, ∃ S : Nat → Bool, S e.1 ≠ S e.2 ∧ ∀ f ∈ es, f ≠ e → S f.1 = S f.2
theorem merge_length (t : List Nat) (e : Pr) : (merge t e).length = t.length := List.length_map ..
theorem getD_map {f : Nat → Nat} {t : List Nat} {i : Nat} (h : i < t.length) : (t.map f).getD i 0 = f (t.getD i 0) := by
  rw [List.getD_eq_getElem?_getD, List.getD_eq_getElem?_getD, List.getElem?_map, List.getElem?_eq_getElem h]
  rfl
/-- labels are equal only where every respected side is -/
def Fine (t : List Nat) (done : List Pr) : Prop := ∀ x y, x < t.length → y < t.length → t.getD x 0 = t.getD y 0 → ∀ S : Nat → Bool, (∀ f ∈ done, S f.1 = S f.2) → S x = S y
theorem fine_start (n : Nat) : Fine (List.range n) [] := fun x y hx hy e S _ => by
  rw [List.length_range] at hx hy
  rw [List.getD_eq_getElem?_getD, List.getD_eq_getElem?_getD, List.getElem?_range hx, List.getElem?_range hy] at e
  have e2 : x = y := e
  rw [e2]
theorem fine_merge {t : List Nat} {done : List Pr} {e : Pr} (h : Fine t done) (h1 : e.1 < t.length) (h2 : e.2 < t.length) : Fine (merge t e) (done ++ [e]) := fun x y hx hy q S hS => by
  rw [merge_length] at hx hy
  unfold merge at q
  rw [getD_map hx, getD_map hy] at q
  have hd : ∀ f ∈ done, S f.1 = S f.2 := fun f hf => hS f (List.mem_append_left _ hf)
  have he : S e.1 = S e.2 := hS e (by simp)
  by_cases a : t.getD x 0 = t.getD e.2 0
  · have sx := h x e.2 hx h2 a S hd
    by_cases b : t.getD y 0 = t.getD e.2 0
    · rw [sx, h y e.2 hy h2 b S hd]
    · rw [if_pos a, if_neg b] at q
      rw [sx, ← he, h e.1 y h1 hy q S hd]
  · by_cases b : t.getD y 0 = t.getD e.2 0
    · rw [if_neg a, if_pos b] at q
      rw [h x e.1 hx h1 q S hd, he, h y e.2 hy h2 b S hd]
    · rw [if_neg a, if_neg b] at q
      exact h x y hx hy q S hd
theorem cyc_none {es : List Pr} (br : Bridges es) (nd : es.Nodup) : ∀ (r done : List Pr) (t : List Nat), es = done ++ r → (∀ e ∈ r, e.1 < t.length ∧ e.2 < t.length) → Fine t done → cycB r t = false
  | [], _, _, _, _, _ => rfl
  | e :: r, done, t, he, hb, hf => by
    obtain ⟨b1, b2⟩ := hb e List.mem_cons_self
    obtain ⟨S, s1, s2⟩ := br e (by rw [he]; simp)
    have ne : ¬ t.getD e.1 0 = t.getD e.2 0 := fun q => s1 (hf e.1 e.2 b1 b2 q S fun f hf' => s2 f (by rw [he]; exact List.mem_append_left _ hf') fun z => by
      rw [he] at nd
      exact (List.nodup_append.mp nd).2.2 f hf' e List.mem_cons_self z)
    unfold cycB
    rw [if_neg ne]
    refine cyc_none br nd r (done ++ [e]) (merge t e) (by rw [he, List.append_assoc]; rfl) (fun f hf' => ?_) (fine_merge hf b1 b2)
    rw [merge_length]
    exact hb f (List.mem_cons_of_mem _ hf')
/-! ### order of pairs -/
def ltP (e f : Pr) : Bool := decide (e.1 < f.1) || (decide (e.1 = f.1) && decide (e.2 < f.2))
def ascB : List Pr → Bool
  | e :: f :: r => ltP e f && ascB (f :: r)
  | _ => true
/-- a forest's edges -/
structure Edges (n : Nat) (es : List Pr) : Prop where
  inn : ∀ e ∈ es, e.1 < e.2 ∧ e.2 < n
  asc : es.Pairwise fun e f => ltP e f = true
  br : Bridges es
theorem ltP_irr (e : Pr) : ltP e e = false := by
  unfold ltP
  rw [decide_eq_false (Nat.lt_irrefl _), decide_eq_false (Nat.lt_irrefl _), Bool.and_false]
  rfl
theorem ltP_iff {e f : Pr} : ltP e f = true ↔ e.1 < f.1 ∨ (e.1 = f.1 ∧ e.2 < f.2) := by
  unfold ltP
  simp only [Bool.or_eq_true, Bool.and_eq_true, decide_eq_true_eq]
theorem ltP_trans {e f g : Pr} (h1 : ltP e f = true) (h2 : ltP f g = true) : ltP e g = true := by
  rw [ltP_iff] at *
  omega
theorem Edges.nodup {n : Nat} {es : List Pr} (h : Edges n es) : es.Nodup := h.asc.imp fun {a b} q e => by
  rw [e, ltP_irr] at q
  cases q
theorem asc_of : ∀ {es : List Pr}, es.Pairwise (fun e f => ltP e f = true) → ascB es = true
  | [], _ => rfl
  | [_], _ => rfl
  | e :: f :: r, h => by
    obtain ⟨h1, h2⟩ := List.pairwise_cons.mp h
    show (ltP e f && ascB (f :: r)) = true
    rw [h1 f List.mem_cons_self, asc_of h2]
    rfl
theorem Edges.no_cyc {n : Nat} {es : List Pr} (h : Edges n es) : cycB es (List.range n) = false :=
  cyc_none h.br h.nodup es [] _ rfl (fun e he => by
    rw [List.length_range]
    have := h.inn e he
    omega) (fine_start n)

/-! ### pairs in the heap -/
/-- v is a tuple of the two ints -/
def PrV (G : Hp) (v : V) (e : Pr) : Prop := ∃ t, v = .ref t ∧ G t = some (.tup [.int (e.1 : Int), .int (e.2 : Int)])
inductive PrsV (G : Hp) : List V → List Pr → Prop
  | nil : PrsV G [] []
  | cons {v : V} {vs : List V} {e : Pr} {es : List Pr} : PrV G v e → PrsV G vs es → PrsV G (v :: vs) (e :: es)
theorem PrV.ex {G G' : Hp} (h : Ex G G') {v : V} {e : Pr} (p : PrV G v e) : PrV G' v e := by
  obtain ⟨t, e1, e2⟩ := p
  exact ⟨t, e1, h _ _ e2⟩
theorem PrsV.ex {G G' : Hp} (h : Ex G G') : ∀ {vs : List V} {es : List Pr}, PrsV G vs es → PrsV G' vs es
  | _, _, .nil => .nil
  | _, _, .cons p r => .cons (p.ex h) (PrsV.ex h r)
theorem PrsV.length {G : Hp} : ∀ {vs : List V} {es : List Pr}, PrsV G vs es → vs.length = es.length
  | _, _, .nil => rfl
  | _, _, .cons _ r => congrArg (· + 1) (PrsV.length r)
theorem PrsV.get {G : Hp} : ∀ {vs : List V} {es : List Pr} {i : Nat} {v : V}, PrsV G vs es → vs[i]? = some v → ∃ e, es[i]? = some e ∧ PrV G v e
  | _, _, _, _, .nil, h => by simp at h
  | _, _, 0, _, .cons p _, h => by simp at h; subst h; exact ⟨_, rfl, p⟩
  | _, _, i + 1, v, .cons _ r, h => by
    obtain ⟨e, h1, h2⟩ := PrsV.get (i := i) (v := v) r (by simpa using h)
    exact ⟨e, by simpa using h1, h2⟩
theorem PrsV.get' {G : Hp} : ∀ {vs : List V} {es : List Pr} {i : Nat} {e : Pr}, PrsV G vs es → es[i]? = some e → ∃ v, vs[i]? = some v ∧ PrV G v e
  | _, _, _, _, .nil, h => by simp at h
  | _, _, 0, _, .cons p _, h => by simp at h; subst h; exact ⟨_, rfl, p⟩
  | _, _, i + 1, e, .cons _ r, h => by
    obtain ⟨v, h1, h2⟩ := PrsV.get' (i := i) (e := e) r (by simpa using h)
    exact ⟨v, by simpa using h1, h2⟩
theorem PrsV.append {G : Hp} : ∀ {vs us : List V} {es fs : List Pr}, PrsV G vs es → PrsV G us fs → PrsV G (vs ++ us) (es ++ fs)
  | _, _, _, _, .nil, r => r
  | _, _, _, _, .cons p q, r => .cons p (PrsV.append q r)
theorem PrsV.drop {G : Hp} : ∀ {vs : List V} {es : List Pr} (i : Nat), PrsV G vs es → PrsV G (vs.drop i) (es.drop i)
  | _, _, 0, h => h
  | _, _, _ + 1, .nil => .nil
  | _, _, i + 1, .cons _ r => PrsV.drop i r
theorem PrsV.take {G : Hp} : ∀ {vs : List V} {es : List Pr} (i : Nat), PrsV G vs es → PrsV G (vs.take i) (es.take i)
  | _, _, 0, _ => .nil
  | _, _, _ + 1, .nil => .nil
  | _, _, i + 1, .cons p r => .cons p (PrsV.take i r)
theorem PrsV.reverse {G : Hp} : ∀ {vs : List V} {es : List Pr}, PrsV G vs es → PrsV G vs.reverse es.reverse
  | _, _, .nil => .nil
  | _, _, .cons p r => by
    rw [List.reverse_cons, List.reverse_cons]
    exact PrsV.append (PrsV.reverse r) (.cons p .nil)
theorem PrsV.perm {G : Hp} {vs us : List V} (h : vs.Perm us) : ∀ {es : List Pr}, PrsV G us es → ∃ fs, PrsV G vs fs ∧ fs.Perm es := by
  induction h with
  | nil => exact fun h => ⟨_, h, List.Perm.refl _⟩
  | cons x _ ih =>
    intro es h
    cases h with
    | cons p r =>
      obtain ⟨fs, h1, h2⟩ := ih r
      exact ⟨_, .cons p h1, h2.cons _⟩
  | swap x y l =>
    intro es h
    cases h with
    | cons p r =>
      cases r with
      | cons q r => exact ⟨_, .cons q (.cons p r), List.Perm.swap _ _ _⟩
  | trans _ _ ih1 ih2 =>
    intro es h
    obtain ⟨fs, h1, h2⟩ := ih2 h
    obtain ⟨gs, h3, h4⟩ := ih1 h1
    exact ⟨gs, h3, h4.trans h2⟩
def prD (e : Pr) : PyData := .tuple [.int (e.1 : Int), .int (e.2 : Int)]
theorem PrV.dt {G : Hp} {v : V} {e : Pr} (p : PrV G v e) : Dt G v (prD e) := by
  obtain ⟨t, rfl, h⟩ := p
  exact .tup h (.cons (.int _) (.cons (.int _) .nil))
theorem PrsV.dts {G : Hp} : ∀ {vs : List V} {es : List Pr}, PrsV G vs es → Dts G vs (es.map prD)
  | _, _, .nil => .nil
  | _, _, .cons p r => .cons p.dt (PrsV.dts r)
end Os
namespace K14
open PySem PySem.Spec PyProof.Rows L2 Os Evl
def topS (i : Nat) : Stmt := PySem.Challenge.pw_onceswapped_k14_least_order_of_turns.main.body.getD i (.Pass ⟨0, 0, 0, 0⟩)
abbrev sInt : Stmt := topS 6
theorem scInt : FnScope ["thing"] ["thing"] (defScope sInt) := ⟨rfl, rfl, rfl, by decide +kernel, rfl, by decide +kernel, by decide +kernel⟩
abbrev sPos : Stmt := topS 7
theorem scPos : FnScope ["n", "thing"] ["n", "thing"] (defScope sPos) := ⟨rfl, rfl, rfl, by decide +kernel, rfl, by decide +kernel, by decide +kernel⟩
abbrev sEdge : Stmt := topS 8
theorem scEdge : FnScope ["n", "thing", "p", "q"] ["n", "thing"] (defScope sEdge) := ⟨rfl, rfl, rfl, by decide +kernel, rfl, by decide +kernel, by decide +kernel⟩
abbrev sForest : Stmt := topS 9
theorem scForest : FnScope ["thing", "n", "edges", "edge"] ["thing"] (defScope sForest) := ⟨rfl, rfl, rfl, by decide +kernel, rfl, by decide +kernel, by decide +kernel⟩
abbrev sAsc : Stmt := topS 10
theorem scAsc : FnScope ["edges", "edge", "following"] ["edges"] (defScope sAsc) := ⟨rfl, rfl, rfl, by decide +kernel, rfl, by decide +kernel, by decide +kernel⟩
abbrev sCyc : Stmt := topS 11
theorem scCyc : FnScope ["n", "edges", "tree_of", "p", "q", "kept", "joined", "tree"] ["n", "edges"] (defScope sCyc) := ⟨rfl, rfl, rfl, by decide +kernel, rfl, by decide +kernel, by decide +kernel⟩

section
variable {P : Program} {w : World} {K : PySem.W.Frag} {mg : Str → Option Value} {base : Heap}
def intB : PyData → Bool
  | .int _ => true
  | _ => false
def numB : PyData → Bool
  | .int _ => true
  | .bool _ => true
  | _ => false
def isBlD : PyData → Bool
  | .bool _ => true
  | _ => false
theorem kit_int (d : PyData) : kitB (tyName d) "int" = some (numB d) := by
  cases d <;> (simp only [tyName, numB]; decide +kernel)
theorem kit_bool (d : PyData) : kitB (tyName d) "bool" = some (isBlD d) := by
  cases d <;> (simp only [tyName, isBlD]; decide +kernel)
def spInt : Sp := fun vs H Q _ => ∃ v d, vs = [v] ∧ Dt H v d ∧ ∀ H', Ex H H' → Q (.bl (intB d)) H'
theorem ok_int {f : Addr} {fd : FuncData} {k : Nat} (F : Fun K "is_integer" "is_integer" sInt f fd) (mIsi : mg "isinstance" = none) (mInt : mg "int" = none) (mBool : mg "bool" = none) : FnOk P w K mg base CX0 (k + 1) f fd ["thing"] spInt := by
  refine F.ok scInt (fun vs H Q E h => ?_) (fun cdv A outer s H vs Q E hr h => ?_)
  · obtain ⟨v, d, rfl, _⟩ := h
    rfl
  · obtain ⟨v, d, rfl, hd, q⟩ := h
    refine ⟨_, (pss_one (ps_ret (pe_and (pe_callB call_isi (by rfl) mIsi boot_isinstance (pa_cons (pv 0) (pa_cons (pe_bltn (v := .ty "int") (by rfl) mInt boot_int rfl) pa_nil))) (pe_one (pe_not (pe_callB call_isi (by rfl) mIsi boot_isinstance (pa_cons (pv 0) (pa_cons (pe_bltn (v := .ty "bool") (by rfl) mBool boot_bool rfl) pa_nil)))))))), ?_⟩
    refine s_ret (v := .bl (intB d)) (ev_is (ev_andV (ev_isi (ev_var rfl) hd (kit_int d)) fun _ => ev_notV (ev_isi (ev_var rfl) hd (kit_bool d))) (by cases d <;> rfl)) fun H1 e1 => q H1 e1
def posB (n : Int) : PyData → Bool
  | .int i => decide (0 ≤ i) && decide (i < n)
  | _ => false
def spPos : Sp := fun vs H Q _ => ∃ n v d, vs = [.int n, v] ∧ Dt H v d ∧ ∀ H', Ex H H' → Q (.bl (posB n d)) H'
theorem ok_pos {f fI : Addr} {fd fdI : FuncData} {k : Nat} (F : Fun K "is_position" "is_position" sPos f fd) (GI : FnOk P w K mg base CX0 k fI fdI ["thing"] spInt) (FI : Fun K "is_integer" "is_integer" sInt fI fdI) (bI : Binds K fdI ["thing"] []) (gI : mg "is_integer" = some (.ref fI)) :
    FnOk P w K mg base CX0 (k + 1) f fd ["n", "thing"] spPos := by
  refine F.ok scPos (fun vs H Q E h => ?_) (fun cdv A outer s H vs Q E hr h => ?_)
  · obtain ⟨n, v, d, rfl, _⟩ := h
    rfl
  · obtain ⟨n, v, d, rfl, hd, q⟩ := h
    refine ⟨_, (pss_one (ps_ret (pe_and (pe_call GI hr (by rfl) gI FI.kp bI .nil pass0 (pa_cons (pv 1) pa_nil)) (pe_one (pe_chain op_le op_lt pe_int (pv 1) (pv 0)))))), ?_⟩
    have e1 : Ev (tCall spInt [] E0 (tCons (tVar 1) tNil)) (start ["n", "thing"] [.int n, v]) H (.bl (intB d)) := ev_sp (ea_cons (ev_var rfl) ea_nil) fun H2 e2 Q q => ⟨v, d, rfl, hd.same (same_ex e2), fun H3 e3 => q H3 e3⟩
    cases hd with
    | int i => exact s_ret (v := .bl (posB n (.int i))) (ev_is (ev_andV (a := true) e1 fun _ => ev_chain ev_c (ev_var rfl) rv_I0 fun _ => ⟨_, ev_var rfl, rv_I0⟩) rfl) fun H2 e2 => q H2 e2
    | _ => exact s_ret (v := .bl false) (ev_andV (b := false) e1 fun h => nomatch h) fun H2 e2 => q H2 e2
def edgeB (n : Int) : PyData → Bool
  | .tuple [.int p, .int q] => posB n (.int p) && (posB n (.int q) && decide (p < q))
  | _ => false
def spEdge : Sp := fun vs H Q _ => ∃ n v d, vs = [.int n, v] ∧ Dt H v d ∧ ∀ H', Ex H H' → Q (.bl (edgeB n d)) H'
theorem edgeB_tup (n : Int) (d1 d2 : PyData) : edgeB n (.tuple [d1, d2]) = (posB n d1 && (posB n d2 && (match d1, d2 with | .int p, .int q => decide (p < q) | _, _ => false))) := by
  cases d1 <;> cases d2 <;> simp [edgeB, posB]
theorem edgeB_len (n : Int) : ∀ {ds : List PyData}, ds.length ≠ 2 → edgeB n (.tuple ds) = false
  | [], _ => rfl
  | [d], _ => by cases d <;> rfl
  | [_, _], h => absurd rfl h
  | d :: e :: _ :: _, _ => by cases d <;> cases e <;> rfl
theorem ev_lenT {K : PySem.W.Frag} {σ : L2.St} {H : Hp} {ta : TE} {p : Addr} {xs : List V} (ha : Ev ta σ H (.ref p)) (h : H p = some (.tup xs)) :
    Ev (tCB (fun xs H Q => ∃ p ys, xs = [V.ref p] ∧ (SqL K H p ys ∨ SqT K H p ys) ∧ Q (.int ys.length) H) (tCons ta tNil)) σ H (.int (xs.length : Int)) := fun H1 e Q q =>
  ha H1 e _ fun H2 e2 => ⟨p, xs, rfl, .inr (st_of ((e.trans e2) _ _ h)), q H2 e2⟩
theorem ok_edge {f fP : Addr} {fd fdP : FuncData} {k : Nat} (F : Fun K "is_edge" "is_edge" sEdge f fd) (GP : FnOk P w K mg base CX0 k fP fdP ["n", "thing"] spPos) (FP : Fun K "is_position" "is_position" sPos fP fdP) (bP : Binds K fdP ["n", "thing"] []) (gP : mg "is_position" = some (.ref fP))
    (mIsi : mg "isinstance" = none) (mTup : mg "tuple" = none) (mLen : mg "len" = none) : FnOk P w K mg base CX0 (k + 1) f fd ["n", "thing"] spEdge := by
  refine F.ok scEdge (fun vs H Q E h => ?_) (fun cdv A outer s H vs Q E hr h => ?_)
  · obtain ⟨n, v, d, rfl, _⟩ := h
    rfl
  · obtain ⟨n, v, d, rfl, hd, q⟩ := h
    refine ⟨_, (pss_cons (ps_if (PW.pt (pw_or (pt_not (pt_val (pe_callB call_isi (by rfl) mIsi boot_isinstance (pa_cons (pv 1) (pa_cons (pe_bltn (v := .ty "tuple") (by rfl) mTup boot_tuple rfl) pa_nil))))) (pw_or1 (pt_cmpR op_ne (pe_callB call_len_seq (by rfl) mLen boot_len (pa_cons (pv 1) pa_nil)) pe_int (nomark _))))) (pss_one (ps_ret pe_bl)) pss_nil)
      (pss_cons (ps_asg (pv 1) (pg_tup rfl (pgs_cons (pg_name (i := 2) scEdge.nd rfl (Or.inl rfl)) (pgs_cons (pg_name (i := 3) scEdge.nd rfl (Or.inl rfl)) pgs_nil))))
      (pss_one (ps_ret (pe_and (pe_call GP hr (by rfl) gP FP.kp bP .nil pass0 (pa_cons (pv 0) (pa_cons (pv 2) pa_nil))) (pe_and (pe_call GP hr (by rfl) gP FP.kp bP .nil pass0 (pa_cons (pv 0) (pa_cons (pv 3) pa_nil))) (pe_one (pe_cmpR op_lt (pv 2) (pv 3) (nomark _))))))))), ?_⟩
    have e0 : Ev (tVar 1) (start ["n", "thing", "p", "q"] [.int n, v]) H v := ev_var rfl
    rcases hd.tup_or with ⟨a, xs, ds, rfl, ha, ht, rfl⟩ | hn
    · have hlen : xs.length = ds.length := ht.length
      refine q_when (b := !true || !decide (V.int xs.length = V.int 2)) (et_or (et_not (et_B (ev_isi e0 hd (kit_tup _)))) fun _ => et_test (ev_op (ev_lenT e0 ha) ev_c (rv_ne rfl))) ?_ ?_
      · intro hb H1 e1
        have hb2 : (!decide (V.int xs.length = V.int 2)) = true := hb
        have hb3 := of_decide_eq_false ((Bool.not_eq_true' _).mp hb2)
        have e2 := edgeB_len n (ds := ds) fun z => hb3 (by rw [hlen, z]; rfl)
        refine s_ret (v := .bl false) ev_c fun H2 e3 => ?_
        rw [← e2]
        exact q H2 (e1.trans e3)
      · intro hb H1 e1
        have hb2 : (!decide (V.int xs.length = V.int 2)) = false := hb
        have hb3 := V.int.inj (of_decide_eq_true ((Bool.not_eq_false' _).mp hb2))
        have t1 := ht.same (same_ex e1)
        have ha1 := e1 _ _ ha
        match xs, ds, t1, hb3, ha1 with
        | [x, y], [d1, d2], .cons h1 (.cons h2 .nil), _, ha1 =>
          refine ⟨.ref a, rfl, a, [x, y], rfl, st_of ha1, rfl, x, [y], rfl, y, [], rfl, rfl, ?_⟩
          have ep : ∀ {i : Nat} {z : V} {d : PyData} {σ : L2.St}, σ[0]? = some (some (.int n)) → σ[i]? = some (some z) → Dt H1 z d → Ev (tCall spPos [] E0 (tCons (tVar 0) (tCons (tVar i) tNil))) σ H1 (.bl (posB n d)) := fun g1 g2 g3 =>
            ev_sp (ea_cons (ev_var g1) (ea_cons (ev_var g2) ea_nil)) fun H2 e2 Q q => ⟨n, _, _, rfl, g3.same (same_ex e2), fun H3 e3 => q H3 e3⟩
          dsimp only
          refine s_ret (v := .bl (edgeB n (.tuple [d1, d2]))) ?_ fun H2 e2 => q H2 (e1.trans e2)
          rw [edgeB_tup]
          refine ev_andV (ep rfl rfl h1) fun p1 => ev_andV (ep rfl rfl h2) fun p2 => ?_
          cases h1 with
          | int i =>
            cases h2 with
            | int j => exact ev_op (ev_var rfl) (ev_var rfl) rv_I0
            | _ => cases p2
          | _ => cases p1
    · refine q_when (b := true) (et_is (et_or (b := true) (et_not (et_B (ev_isi e0 hd (kit_tup _)))) fun hs => ?_) ?_) ?_ ?_
      · rw [hn] at hs
        cases hs
      · rw [hn]
        rfl
      · intro _ H1 e1
        have : edgeB n d = false := by
          cases d <;> first | rfl | cases hn
        refine s_ret (v := .bl false) ev_c fun H2 e3 => ?_
        rw [← this]
        exact q H2 (e1.trans e3)
      · intro hb
        cases hb
end
end K14
namespace K14
open PySem PySem.Spec PyProof.Rows L2 Os Evl
def ascL : List Pr → List Bool
  | e :: f :: r => Os.ltP e f :: ascL (f :: r)
  | _ => []
theorem ascL_len : ∀ es : List Pr, (ascL es).length = es.length - 1
  | [] => rfl
  | [_] => rfl
  | e :: f :: r => by
    show (ascL (f :: r)).length + 1 = r.length + 2 - 1
    rw [ascL_len (f :: r)]
    show (r.length + 1 - 1) + 1 = _
    omega
theorem ascL_at : ∀ {es : List Pr} {i : Nat} {e f : Pr}, es[i]? = some e → es[i + 1]? = some f → (ascL es)[i]? = some (Os.ltP e f)
  | [], _, _, _, h, _ => by simp at h
  | [_], _, _, _, _, h => by simp at h
  | a :: b :: r, 0, e, f, h1, h2 => by
    cases h1
    cases h2
    rfl
  | a :: b :: r, i + 1, e, f, h1, h2 => ascL_at (es := b :: r) (i := i) h1 h2
theorem ascL_all : ∀ es : List Pr, (ascL es).all id = ascB es
  | [] => rfl
  | [_] => rfl
  | e :: f :: r => by
    show (Os.ltP e f && (ascL (f :: r)).all id) = (Os.ltP e f && ascB (f :: r))
    rw [ascL_all (f :: r)]
theorem lex_pr (e f : Pr) : HT.lexLt [(e.1 : Int), (e.2 : Int)] [(f.1 : Int), (f.2 : Int)] = Os.ltP e f := by
  show (if (e.1 : Int) = (f.1 : Int) then (if (e.2 : Int) = (f.2 : Int) then false else decide ((e.2 : Int) < (f.2 : Int))) else decide ((e.1 : Int) < (f.1 : Int))) = Os.ltP e f
  unfold Os.ltP
  by_cases h1 : e.1 = f.1
  · rw [if_pos (by omega), decide_eq_true h1, decide_eq_false (show ¬ e.1 < f.1 by omega)]
    by_cases h2 : e.2 = f.2
    · rw [if_pos (by omega), decide_eq_false (show ¬ e.2 < f.2 by omega)]
      rfl
    · rw [if_neg (by omega), decide_eq_decide.mpr (show (e.2 : Int) < (f.2 : Int) ↔ e.2 < f.2 by omega)]
      cases decide (e.2 < f.2) <;> rfl
  · rw [if_neg (by omega), decide_eq_false h1, decide_eq_decide.mpr (show (e.1 : Int) < (f.1 : Int) ↔ e.1 < f.1 by omega)]
    cases decide (e.1 < f.1) <;> rfl
theorem cut_drop1 (xs : List V) : cutV xs (some 1) none = xs.drop 1 := by
  unfold cutV
  rw [HT.sIx_none, show HT.sIx xs.length 0 (some 1) = min 1 xs.length from HT.sIx_nat xs.length 0 1]
  cases xs with
  | nil => rfl
  | cons x r =>
    rw [show min 1 (x :: r).length = 1 by rw [List.length_cons]; omega]
    show List.take ((x :: r).length - 1) r = r
    rw [List.length_cons, Nat.add_sub_cancel, List.take_length]
section
variable {K : PySem.W.Frag} {σ : L2.St} {H : Hp} {ta tb : TE} {tz : TS} {D : Ends} {x y : V}
/-- i, j = a, b by a tuple -/
theorem q_asgPair {i j n : Nat} (ha : Ev ta σ H x) (hb : Ev tb σ H y) (hn : n = 2) (k : ∀ H1, Ex H H1 → tz D ((σ.set i (some x)).set j (some y)) H1) : tSeq (tAsg (tTup (tCons ta (tCons tb tNil))) (gTup K n (gCons (gName i) (gCons (gName j) gNil)))) tz D σ H :=
  ha H (Ex.refl H) _ fun H2 e2 => hb H2 e2 _ fun H3 e3 => ⟨(show 2 ≤ sizeLine by decide), fun p hp => ⟨p, [x, y], rfl, st_of upd_same, hn.symm, x, [y], rfl, y, [], rfl, rfl, k _ ((e2.trans e3).trans (Ex.new hp))⟩⟩
end
section
variable {P : Program} {w : World} {K : PySem.W.Frag} {mg : Str → Option Value} {base : Heap}
def spAsc : Sp := fun vs H Q _ => ∃ (a : Addr) (xs : List V) (es : List Pr), vs = [.ref a] ∧ H a = some (.lst xs) ∧ PrsV H xs es ∧ es.length ≤ 1000 ∧ ∀ H', Ex H H' → Q (.bl (ascB es)) H'
theorem ok_asc {f : Addr} {fd : FuncData} {k : Nat} (F : Fun K "_is_ascending" "_is_ascending" sAsc f fd) (mAll : mg "all" = none) (mZip : mg "zip" = none) : FnOk P w K mg base CX0 (k + 1) f fd ["edges"] spAsc := by
  refine F.ok scAsc (fun vs H Q E h => ?_) (fun cdv A outer s H vs Q E hr h => ?_)
  · obtain ⟨a, xs, es, rfl, _⟩ := h
    rfl
  · obtain ⟨a, xs, es, rfl, ha, hp, hl, q⟩ := h
    refine ⟨_, (pss_one (ps_ret (pe_callB (cr_all rfl) (by rfl) mAll boot_all (pa_cons (pe_lc (own := [("edge", 1), ("following", 2)]) (g := gTup K 2 (gCons (gName 1) (gCons (gName 2) gNil))) (tt := tYes) (te := tOp (rLtT K) (tVar 1) (tVar 2)) rfl scAsc.nd (pi_zip (by rfl) mZip (pa_cons (pv 0) (pa_cons (pe_slice sl_list (pv 0) (po_some pe_int) po_none) pa_nil))) (blkOk_by (N := ["edges", "edge", "following"]) (sc := defScope sAsc) (by decide +kernel)) (fun _ _ _ _ _ => pg_tup rfl (pgs_cons (pg_name (i := 1) scAsc.nd rfl (Or.inl rfl)) (pgs_cons (pg_name (i := 2) scAsc.nd rfl (Or.inl rfl)) pgs_nil))) (fun _ _ _ _ _ => pts_nil) (fun _ _ _ _ _ => pe_cmpR (op_ltT hr.units0) (pv 1) (pv 2) (nomark _))) pa_nil)))), ?_⟩
    have hlen := hp.length
    refine s_ret (v := .bl (ascB es)) (ev_is (ev_all (bs := ascL es) ?_) (by rw [ascL_all])) fun H1 e1 => q H1 e1
    intro H0 e0 Q' q'
    refine ⟨.ref a, rfl, .ref a, rfl, 1, rfl, a, xs, rfl, sq_of (e0 _ _ ha), fun c nc => ?_⟩
    rw [cut_drop1]
    have e1 : Ex H0 (upd H0 c (.lst (xs.drop 1))) := Ex.new nc
    refine ⟨a, c, xs, xs.drop 1, rfl, sq_of (e1 _ _ (e0 _ _ ha)), sq_of upd_same, fun D hD => ?_⟩
    have hD0 : H0 D = none := fresh_back e1 hD
    refine lc_it (walk_zip (n := es.length - 1) (by rw [List.length_drop]; omega)) (fun i Hh => Ex (upd H0 c (.lst (xs.drop 1))) Hh ∧ Hh D = some (.lst (((ascL es).take i).map V.bl))) ⟨Ex.new hD, upd_same⟩ (fun i Hh _ p => ⟨sq_of (p.1 _ _ (e1 _ _ (e0 _ _ ha))), sq_of (p.1 _ _ upd_same)⟩) ?_ ?_
    · rintro i v Ha Hb hi ⟨p1, p2⟩ ⟨T, x, y, rfl, nT, rfl, hx, hy⟩
      have hx' : xs[i]? = some x := hx
      have hy' : (xs.drop 1)[i]? = some y := hy
      rw [List.getElem?_drop, Nat.add_comm 1 i] at hy'
      obtain ⟨e, he, t1, rfl, ht1⟩ := hp.get hx'
      obtain ⟨g, hg, t2, rfl, ht2⟩ := hp.get hy'
      have eT : Ex Ha (upd Ha T (.tup [.ref t1, .ref t2])) := Ex.new nT
      have eA : Ex H (upd Ha T (.tup [.ref t1, .ref t2])) := ((e0.trans e1).trans p1).trans eT
      refine ⟨T, [.ref t1, .ref t2], rfl, st_of upd_same, rfl, .ref t1, [.ref t2], rfl, .ref t2, [], rfl, rfl, rfl, ?_⟩
      show tOp (rLtT K) (tVar 1) (tVar 2) _ _ _
      refine ⟨.ref t1, rfl, .ref t2, rfl, t1, t2, [(e.1 : Int), (e.2 : Int)], [(g.1 : Int), (g.2 : Int)], rfl, rfl, st_of (eA _ _ ht1), st_of (eA _ _ ht2), ((ascL es).take i).map V.bl, eT _ _ p2, sz_lt (by rw [List.length_map, List.length_take]; omega), Ex.mut (p1.trans eT) hD, ?_⟩
      rw [lex_pr, List.take_add_one, ascL_at he hg, List.map_append]
      exact upd_same
    · rintro Hh ⟨p1, p2⟩
      rw [List.take_of_length_le (by rw [ascL_len]; omega)] at p2
      exact q' D Hh hD0 (e1.trans p1) p2
def spCyc : Sp := fun vs H Q _ => ∃ (n : Nat) (a : Addr) (xs : List V) (es : List Pr), vs = [.int (n : Int), .ref a] ∧ H a = some (.lst xs) ∧ PrsV H xs es ∧ n ≤ 1000 ∧ (∀ e ∈ es, e.1 < n ∧ e.2 < n) ∧ ∀ H', Ex H H' → Q (.bl (cycB es (List.range n))) H'
theorem ok_cyc {f : Addr} {fd : FuncData} {k : Nat} (F : Fun K "_has_cycle" "_has_cycle" sCyc f fd) (mList : mg "list" = none) (mRange : mg "range" = none) : FnOk P w K mg base CX0 (k + 1) f fd ["n", "edges"] spCyc := by
  refine F.ok scCyc (fun vs H Q E h => ?_) (fun cdv A outer s H vs Q E hr h => ?_)
  · obtain ⟨n, a, xs, es, rfl, _⟩ := h
    rfl
  · obtain ⟨n, a, xs, es, rfl, ha, hp, hn, hb, q⟩ := h
    refine ⟨_, (pss_cons (ps_set (i := 2) scCyc.nd rfl (.inl rfl) (pe_listRg rfl (by rfl) mList (prg_1 (by rfl) mRange (pv 0))))
      (pss_cons (ps_for PassesOwn.never rfl (pi_list (pv 1)) (pg_tup rfl (pgs_cons (pg_name (i := 3) scCyc.nd rfl (Or.inl rfl)) (pgs_cons (pg_name (i := 4) scCyc.nd rfl (Or.inl rfl)) pgs_nil)))
      (pss_cons (ps_asg (pe_tup (pa_cons (pe_ix ix_list (pv 2) (pv 3) (fun _ _ => rfl)) (pa_cons (pe_ix ix_list (pv 2) (pv 4) (fun _ _ => rfl)) pa_nil))) (pg_tup rfl (pgs_cons (pg_name (i := 5) scCyc.nd rfl (Or.inr rfl)) (pgs_cons (pg_name (i := 6) scCyc.nd rfl (Or.inr rfl)) pgs_nil))))
      (pss_cons (ps_if (pt_cmpR op_eq (pv 5) (pv 6) (nomark _)) (pss_one (ps_ret pe_bl)) pss_nil)
      (pss_one (ps_setLc (i := 2) (own := [("tree", 7)]) (g := gName 7) (tt := tYes) rfl scCyc.nd rfl rfl (sw_true rfl rfl rfl (by decide +kernel)) (pi_list (pv 2)) (blkOk_by (N := ["n", "edges", "tree_of", "p", "q", "kept", "joined", "tree"]) (sc := defScope sCyc) (by decide +kernel)) (fun _ _ _ _ _ => pg_name (i := 7) scCyc.nd rfl (Or.inl rfl)) (fun _ _ _ _ _ => pts_nil) (fun _ _ _ _ _ => pe_ifExp (pt_cmpR op_eq (pv 7) (pv 6) (nomark _)) (pv 5) (pv 7)))))))
      (pss_one (ps_ret pe_bl)))), ?_⟩
    have hlen := hp.length
    refine ⟨.int (n : Int), rfl, (n : Int), rfl, RgOk.of_le (by omega) (by omega) (by omega) (by omega), fun L hL => ?_⟩
    have e1 : Ex H (upd H L (.lst (rgV 0 (n : Int)))) := Ex.new hL
    have rg : rgV 0 (n : Int) = (List.range n).map fun x : Nat => V.int (x : Int) := by
      unfold rgV
      rw [show ((n : Int) - 0).toNat = n by omega]
      exact List.map_congr_left fun i _ => congrArg V.int (by omega)
    have hb' : ∀ e ∈ es, e.1 < n ∧ e.2 < n := hb
    refine q_forL (xs := xs) (ev_var rfl) (sq_of (e1 _ _ ha)) (fun i σ' H' => Ex H H' ∧ ∃ (t : List Nat) (M : Addr) (y3 y4 y5 y6 y7 : Option V), σ' = [some (.int (n : Int)), some (.ref a), some (.ref M), y3, y4, y5, y6, y7] ∧ H' M = some (.lst (t.map fun x : Nat => V.int (x : Int))) ∧ t.length = n ∧ cycB (es.drop i) t = cycB es (List.range n))
      (fun H2 e2 => ⟨e1.trans e2, List.range n, L, _, _, _, _, _, rfl, e2 _ _ (by rw [← rg]; exact upd_same), List.length_range, rfl⟩) (fun i σ' H' _ h => sq_of (h.1 _ _ ha)) ?_ ?_
    · rintro i x σ' H2 hx ⟨e2, t, M, y3, y4, y5, y6, y7, rfl, hM, tl, cy⟩
      obtain ⟨e, he, tp, rfl, htp⟩ := hp.get hx
      obtain ⟨b1, b2⟩ := hb e (List.mem_of_getElem? he)
      refine ⟨tp, _, rfl, st_of (e2 _ _ htp), rfl, _, _, rfl, _, [], rfl, rfl, ?_⟩
      have at' : ∀ {j : Nat}, j < n → (t.map fun x : Nat => V.int (x : Int))[j]? = some (.int ((t.getD j 0 : Nat) : Int)) := fun {j} hj => by
        rw [List.getElem?_map, List.getD_eq_getElem?_getD, List.getElem?_eq_getElem (by omega)]
        rfl
      refine q_asgPair (x := .int ((t.getD e.1 0 : Nat) : Int)) (y := .int ((t.getD e.2 0 : Nat) : Int)) (ev_op (ev_var rfl) (ev_var rfl) (rv_ixL (sq_of hM) (atI_nat (at' b1)))) (ev_op (ev_var rfl) (ev_var rfl) (rv_ixL (sq_of hM) (atI_nat (at' b2)))) rfl fun H3 e3 => ?_
      have hd : es.drop i = e :: es.drop (i + 1) := by
        have lt := (List.getElem?_eq_some_iff.mp he).1
        rw [List.drop_eq_getElem_cons lt, (List.getElem?_eq_some_iff.mp he).2]
      rw [hd] at cy
      refine q_when (b := decide (V.int ((t.getD e.1 0 : Nat) : Int) = V.int ((t.getD e.2 0 : Nat) : Int))) (et_test (ev_op (ev_var rfl) (ev_var rfl) (rv_eq rfl))) (fun hq H4 e4 => ?_) (fun hq H4 e4 => ?_)
      · have eq : t.getD e.1 0 = t.getD e.2 0 := by
          have := V.int.inj (of_decide_eq_true hq)
          omega
        have c1 : cycB (e :: es.drop (i + 1)) t = true := if_pos eq
        rw [c1] at cy
        refine s_ret (v := .bl true) ev_c fun H5 e5 => ?_
        rw [cy]
        exact q H5 (((e2.trans e3).trans e4).trans e5)
      · have ne : ¬ t.getD e.1 0 = t.getD e.2 0 := fun z => of_decide_eq_false hq (by rw [z])
        have c1 : cycB (e :: es.drop (i + 1)) t = cycB (es.drop (i + 1)) (merge t e) := if_neg ne
        rw [c1] at cy
        have hM4 := e4 _ _ (e3 _ _ hM)
        refine s_asgL (xs := (merge t e).map fun x : Nat => V.int (x : Int)) ?_ fun M' H5 hM' e5 h5 => ?_
        · unfold merge
          rw [List.map_map, ← given_map t ((fun x : Nat => V.int (x : Int)) ∘ fun x => if x = t.getD e.2 0 then t.getD e.1 0 else x) (fun i => .int ((if t.getD i 0 = t.getD e.2 0 then t.getD e.1 0 else t.getD i 0 : Nat) : Int)) (fun i x e => by
            rw [List.getD_eq_getElem?_getD, e]
            rfl)]
          rw [show t.length = (t.map fun x : Nat => V.int (x : Int)).length by rw [List.length_map]]
          refine el_lcL (f := fun _ => true) (v := _) (ev_var rfl) (sq_of hM4) (by rw [List.length_map]; omega) (fun _ => rfl) (fun i c H2 _ _ => fun H3 e3 Q q => q H3 (Ex.refl H3)) (fun i x H6 e6 hx' _ => ?_)
          rw [List.getElem?_map] at hx'
          cases hti : t[i]? with
          | none => rw [hti] at hx'; cases hx'
          | some z =>
            rw [hti] at hx'
            cases hx'
            have ez : t.getD i 0 = z := by rw [List.getD_eq_getElem?_getD, hti]; rfl
            rw [ez]
            refine ev_if (b := decide (V.int (z : Int) = V.int ((t.getD e.2 0 : Nat) : Int))) (et_test (ev_op (ev_var rfl) (ev_var rfl) (rv_eq rfl))) (fun hb => ?_) (fun hb => ?_)
            · have : z = t.getD e.2 0 := by
                have := V.int.inj (of_decide_eq_true hb)
                omega
              rw [if_pos this]
              exact ev_var rfl
            · have : ¬ z = t.getD e.2 0 := fun y => of_decide_eq_false hb (by rw [y])
              rw [if_neg this]
              exact ev_var rfl
        · exact ⟨((e2.trans e3).trans e4).trans e5, merge t e, M', _, _, _, _, _, rfl, h5, by rw [merge_length, tl], cy⟩
    · rintro σ' H2 ⟨e2, t, M, y3, y4, y5, y6, y7, rfl, hM, tl, cy⟩
      rw [hlen, List.drop_length] at cy
      refine s_ret (v := .bl false) ev_c fun H3 e3 => ?_
      rw [show false = cycB es (List.range n) from cy]
      exact q H3 (e2.trans e3)
end
end K14
namespace K14
open PySem PySem.Spec PyProof.Rows L2 Os Evl
/-- a pair of a size and a list of edges -/
def GraphV (G : Hp) (v : V) (n : Nat) (es : List Pr) : Prop := ∃ (g a : Addr) (xs : List V), v = .ref g ∧ G g = some (.tup [.int (n : Int), .ref a]) ∧ G a = some (.lst xs) ∧ PrsV G xs es
theorem GraphV.ex {G G' : Hp} {v : V} {n : Nat} {es : List Pr} (h : GraphV G v n es) (e : Ex G G') : GraphV G' v n es := by
  obtain ⟨g, a, xs, h1, h2, h3, h4⟩ := h
  exact ⟨g, a, xs, h1, e _ _ h2, e _ _ h3, h4.ex e⟩
theorem GraphV.dt {G : Hp} {v : V} {n : Nat} {es : List Pr} (h : GraphV G v n es) : Dt G v (.tuple [.int (n : Int), .list (es.map Os.prD)]) := by
  obtain ⟨g, a, xs, rfl, h2, h3, h4⟩ := h
  exact .tup h2 (.cons (.int _) (.cons (.lst h3 h4.dts) .nil))
/-- a forest, no larger than the document's -/
structure IsForest (n : Nat) (es : List Pr) : Prop where
  edges : Edges n es
  n1 : 1 ≤ n
  n40 : n ≤ 40
  few : es.length ≤ 60
theorem edge_ok {n : Nat} {es : List Pr} (h : IsForest n es) {e : Pr} (he : e ∈ es) : edgeB (n : Int) (Os.prD e) = true := by
  obtain ⟨h1, h2⟩ := h.edges.inn e he
  show (decide (0 ≤ (e.1 : Int)) && decide ((e.1 : Int) < (n : Int)) && (decide (0 ≤ (e.2 : Int)) && decide ((e.2 : Int) < (n : Int)) && decide ((e.1 : Int) < (e.2 : Int)))) = true
  rw [decide_eq_true (show 0 ≤ (e.1 : Int) by omega), decide_eq_true (show (e.1 : Int) < (n : Int) by omega), decide_eq_true (show 0 ≤ (e.2 : Int) by omega), decide_eq_true (show (e.2 : Int) < (n : Int) by omega), decide_eq_true (show (e.1 : Int) < (e.2 : Int) by omega)]
  rfl
section
variable {P : Program} {w : World} {K : PySem.W.Frag} {mg : Str → Option Value} {base : Heap}
def spForest : Sp := fun vs H Q _ => ∃ (v : V) (n : Nat) (es : List Pr), vs = [v] ∧ GraphV H v n es ∧ IsForest n es ∧ ∀ H', Ex H H' → Q (.bl true) H'
theorem ok_forest {f fI fE fA fC : Addr} {fd fdI fdE fdA fdC : FuncData} {k : Nat} (F : Fun K "is_forest" "is_forest" sForest f fd)
    (GI : FnOk P w K mg base CX0 k fI fdI ["thing"] spInt) (FI : Fun K "is_integer" "is_integer" sInt fI fdI) (bI : Binds K fdI ["thing"] []) (gI : mg "is_integer" = some (.ref fI))
    (GE : FnOk P w K mg base CX0 k fE fdE ["n", "thing"] spEdge) (FE : Fun K "is_edge" "is_edge" sEdge fE fdE) (bE : Binds K fdE ["n", "thing"] []) (gE : mg "is_edge" = some (.ref fE))
    (GA : FnOk P w K mg base CX0 k fA fdA ["edges"] spAsc) (FA : Fun K "_is_ascending" "_is_ascending" sAsc fA fdA) (bA : Binds K fdA ["edges"] []) (gA : mg "_is_ascending" = some (.ref fA))
    (GC : FnOk P w K mg base CX0 k fC fdC ["n", "edges"] spCyc) (FC : Fun K "_has_cycle" "_has_cycle" sCyc fC fdC) (bC : Binds K fdC ["n", "edges"] []) (gC : mg "_has_cycle" = some (.ref fC))
    (mIsi : mg "isinstance" = none) (mTup : mg "tuple" = none) (mLen : mg "len" = none) (mList : mg "list" = none) (mAll : mg "all" = none) {t40 : Tok} (m40 : mg "MOST_POSITIONS" = some (.int 40 t40)) : FnOk P w K mg base CX0 (k + 1) f fd ["thing"] spForest := by
  refine F.ok scForest (fun vs H Q E h => ?_) (fun cdv A outer s H vs Q E hr h => ?_)
  · obtain ⟨v, n, es, rfl, _⟩ := h
    rfl
  · obtain ⟨v, n, es, rfl, hg, ok, q⟩ := h
    refine ⟨_, (pss_cons (ps_if (PW.pt (pw_or (pt_not (pt_val (pe_callB call_isi (by rfl) mIsi boot_isinstance (pa_cons (pv 0) (pa_cons (pe_bltn (v := .ty "tuple") (by rfl) mTup boot_tuple rfl) pa_nil))))) (pw_or1 (pt_cmpR op_ne (pe_callB call_len_seq (by rfl) mLen boot_len (pa_cons (pv 0) pa_nil)) pe_int (nomark _))))) (pss_one (ps_ret pe_bl)) pss_nil)
      (pss_cons (ps_asg (pv 0) (pg_tup rfl (pgs_cons (pg_name (i := 1) scForest.nd rfl (Or.inr rfl)) (pgs_cons (pg_name (i := 2) scForest.nd rfl (Or.inl rfl)) pgs_nil))))
      (pss_cons (ps_if (PW.pt (pw_or (pt_not (pt_val (pe_call GI hr (by rfl) gI FI.kp bI .nil pass0 (pa_cons (pv 1) pa_nil)))) (pw_or1 (pt_not (pt_chain op_le op_le pe_int (pv 1) (pe_glob (v := .int 40) (by rfl) m40 ⟨_, rfl⟩)))))) (pss_one (ps_ret pe_bl)) pss_nil)
      (pss_cons (ps_if (PW.pt (pw_or (pt_not (pt_val (pe_callB call_isi (by rfl) mIsi boot_isinstance (pa_cons (pv 2) (pa_cons (pe_bltn (v := .ty "list") (by rfl) mList boot_list rfl) pa_nil))))) (pw_or1 (pt_not (pt_val (pe_callB (cr_all rfl) (by rfl) mAll boot_all (pa_cons (pe_lc (own := [("edge", 3)]) (g := gName 3) (tt := tYes) rfl scForest.nd (pi_list (pv 2)) (blkOk_by (N := ["thing", "n", "edges", "edge"]) (sc := defScope sForest) (by decide +kernel)) (fun _ _ _ _ _ => pg_name (i := 3) scForest.nd rfl (Or.inl rfl)) (fun _ _ _ _ _ => pts_nil) (fun _ _ _ _ _ => (pe_call GE hr (by rfl) gE FE.kp bE .nil pass0 (pa_cons (pv 1) (pa_cons (pv 3) pa_nil))))) pa_nil))))))) (pss_one (ps_ret pe_bl)) pss_nil)
      (pss_one (ps_ret (pe_and (pe_call GA hr (by rfl) gA FA.kp bA .nil pass0 (pa_cons (pv 2) pa_nil)) (pe_one (pe_not (pe_call GC hr (by rfl) gC FC.kp bC .nil pass0 (pa_cons (pv 1) (pa_cons (pv 2) pa_nil)))))))))))), ?_⟩
    have hd := hg.dt
    obtain ⟨g, a, xs, rfl, h2, h3, h4⟩ := hg
    have hlen := h4.length
    refine q_when (b := false) (et_is (et_or (a := !true) (b := false) (et_not (et_B (ev_isi (ev_var rfl) hd (kit_tup _)))) fun _ => et_test (ev_is (ev_op (ev_lenT (ev_var rfl) h2) ev_c (rv_ne rfl)) rfl)) rfl) (fun h => nomatch h) fun _ H1 e1 => ?_
    refine ⟨.ref g, rfl, g, _, rfl, st_of (e1 _ _ h2), rfl, .int (n : Int), _, rfl, .ref a, [], rfl, rfl, ?_⟩
    have eint : ∀ {σ : L2.St} {H2 : Hp}, σ[1]? = some (some (.int (n : Int))) → Ev (tCall spInt [] E0 (tCons (tVar 1) tNil)) σ H2 (.bl true) := fun g1 =>
      ev_sp (ea_cons (ev_var g1) ea_nil) fun H3 e3 Q q => ⟨_, .int (n : Int), rfl, .int _, fun H4 e4 => q H4 e4⟩
    have n1 := ok.n1
    have n40 := ok.n40
    refine q_when (b := false) (et_is (et_or (a := !true) (b := !(decide ((1 : Int) ≤ (n : Int)) && decide ((n : Int) ≤ 40))) (et_not (et_B (eint rfl))) fun _ => et_not (et_test (ev_chain ev_c (ev_var rfl) rv_I0 fun _ => ⟨_, ev_c, rv_I0⟩)))
      (by rw [decide_eq_true (show (1 : Int) ≤ (n : Int) by omega), decide_eq_true (show (n : Int) ≤ 40 by omega)]; rfl)) (fun h => nomatch h) fun _ H2 e2 => ?_
    have e12 := e1.trans e2
    have hl2 : Dt H2 (.ref a) (.list (es.map Os.prD)) := .lst (e12 _ _ h3) (h4.ex e12).dts
    refine q_when (b := false) (et_is (et_or (a := !true) (b := !true) (et_not (et_B (ev_isi (ev_var rfl) hl2 (kit_list _)))) fun _ => et_not (et_B (ev_is (ev_all (bs := es.map fun _ => true) ?_) ?_))) rfl) (fun h => nomatch h) fun _ H3 e3 => ?_
    · rw [List.map_map, ← given_map es (V.bl ∘ fun _ => true) (fun _ => .bl true) (fun _ _ _ => rfl), ← hlen]
      refine el_lcL (f := fun _ => true) (v := _) (ev_var rfl) (sq_of (e12 _ _ h3)) (by rw [hlen]; have := ok.few; omega) (fun _ => rfl) (fun i c H2 _ _ => fun H3 e3 Q q => q H3 (Ex.refl H3)) (fun i x H4 e4 hx _ => ?_)
      obtain ⟨e, he, pe⟩ := h4.get hx
      refine ev_sp (ea_cons (ev_var rfl) (ea_cons (ev_var rfl) ea_nil)) fun H5 e5 Q q => ⟨(n : Int), x, Os.prD e, rfl, (pe.ex ((e12.trans e4).trans e5)).dt, fun H6 e6 => ?_⟩
      rw [edge_ok ok (List.mem_of_getElem? he)]
      exact q H6 e6
    · rw [List.all_eq_true.mpr (fun b hb => by
        obtain ⟨_, _, rfl⟩ := List.mem_map.mp hb
        rfl)]
    · have e13 := e12.trans e3
      refine s_ret (v := .bl true) (ev_is (ev_andV (a := true) (b := !false) (ev_sp (ea_cons (ev_var rfl) ea_nil) fun H4 e4 Q q => ⟨a, xs, es, rfl, e4 _ _ (e13 _ _ h3), (h4.ex e13).ex e4, by have := ok.few; omega, fun H5 e5 => by rw [asc_of ok.edges.asc]; exact q H5 e5⟩)
        fun _ => ev_notV (ev_sp (ea_cons (ev_var rfl) (ea_cons (ev_var rfl) ea_nil)) fun H4 e4 Q q => ⟨n, a, xs, es, rfl, e4 _ _ (e13 _ _ h3), (h4.ex e13).ex e4, by omega, (fun e he => by have := ok.edges.inn e he; omega), fun H5 e5 => by rw [ok.edges.no_cyc]; exact q H5 e5⟩)) rfl) fun H4 e4 => q H4 (e13.trans e4)
end
end K14
/-! the law's drawn numbers: what a source holds -/
namespace Os
open PySem PySem.Spec PyProof.Rows L2 Evl

/-- at s a source: the digits left, the seed, the number of mixed draws (at most B) -/
def Src (H : Hp) (s : Addr) (B : Nat) : Prop := ∃ x y z : Int, H s = some (.lst [.int x, .int y, .int z]) ∧ 0 ≤ x ∧ 0 ≤ y ∧ y < 2 ^ 140 ∧ 0 ≤ z ∧ z ≤ (B : Int)
theorem Src.mono {H : Hp} {s : Addr} {B C : Nat} (h : Src H s B) (le : B ≤ C) : Src H s C := by
  obtain ⟨x, y, z, h1, h2, h3, h4, h5, h6⟩ := h
  exact ⟨x, y, z, h1, h2, h3, h4, h5, by omega⟩
theorem Src.ex {H H' : Hp} {s : Addr} {B : Nat} (h : Src H s B) (e : Ex H H') : Src H' s B := by
  obtain ⟨x, y, z, h1, h2⟩ := h
  exact ⟨x, y, z, e _ _ h1, h2⟩
theorem Src.at {H : Hp} {s : Addr} {B : Nat} (h : Src H s B) : ∃ o, H s = some o := by
  obtain ⟨x, y, z, h1, _⟩ := h
  exact ⟨_, h1⟩
/-- all but the source stands as it was; the source has made at most n more mixed draws -/
structure Drew (s : Addr) (B : Nat) (H H' : Hp) : Prop where
  kept : Ex (hide s H) (hide s H')
  src : Src H' s B
theorem Drew.refl {s : Addr} {B : Nat} {H : Hp} (h : Src H s B) : Drew s B H H := ⟨Ex.refl _, h⟩
theorem Drew.trans {s : Addr} {B C : Nat} {H H1 H2 : Hp} (a : Drew s B H H1) (b : Drew s C H1 H2) : Drew s C H H2 := ⟨a.kept.trans b.kept, b.src⟩
theorem Drew.ex {s : Addr} {B : Nat} {H H1 H2 : Hp} (a : Drew s B H H1) (e : Ex H1 H2) : Drew s B H H2 := ⟨a.kept.trans (Same.hide (same_ex e)), a.src.ex e⟩
theorem Drew.get {s : Addr} {B : Nat} {H H' : Hp} (a : Drew s B H H') {b : Addr} {o : HO} (n : b ≠ s) (h : H b = some o) : H' b = some o := by
  have := a.kept b o (by rw [hide_ne n]; exact h)
  exact (hide_of this).2
theorem Drew.mono {s : Addr} {B C : Nat} {H H' : Hp} (a : Drew s B H H') (le : B ≤ C) : Drew s C H H' := ⟨a.kept, a.src.mono le⟩
/-- what is free behind was free before -/
theorem Drew.none {s : Addr} {B : Nat} {H H' : Hp} (a : Drew s B H H') (h0 : ∃ o, H s = some o) {p : Addr} (h : H' p = Option.none) : H p = Option.none := by
  obtain ⟨o, so⟩ := a.src.at
  have np : p ≠ s := fun e => by rw [e, so] at h; cases h
  cases q : H p with
  | none => rfl
  | some u =>
    rw [a.get np q] at h
    cases h
/-- a new object, or one that H did not know, is changed -/
theorem Drew.mut {s : Addr} {B : Nat} {H H' : Hp} (a : Drew s B H H') {p : Addr} {o : HO} (hs : ∃ u, H s = some u) (h : H p = Option.none) : Drew s B H (upd H' p o) := by
  obtain ⟨u, hu⟩ := hs
  have np : s ≠ p := ne_of_none hu h
  refine ⟨fun b v q => ?_, ?_⟩
  · obtain ⟨q1, q2⟩ := hide_of q
    rw [hide_ne q1, upd_ne (ne_of_none q2 h)]
    exact a.get q1 q2
  · obtain ⟨x, y, z, h1, h2⟩ := a.src
    exact ⟨x, y, z, by rw [upd_ne np]; exact h1, h2⟩

/-! ### data beside a source -/
theorem Dt.drew {s : Addr} {B : Nat} {H H' : Hp} {v : V} {d : PyData} (h : Dt (hide s H) v d) (a : Drew s B H H') : Dt (hide s H') v d := h.same (same_ex a.kept)
theorem Dt.seen {s : Addr} {H : Hp} {v : V} {d : PyData} (h : Dt (hide s H) v d) : Dt H v d := h.same hide_same
theorem Dts.seen {s : Addr} {H : Hp} {vs : List V} {ds : List PyData} (h : Dts (hide s H) vs ds) : Dts H vs ds := h.same hide_same

/-! ### the numbers -/
theorem mix_bound {y z : Int} (hy0 : 0 ≤ y) (hy : y < 2 ^ 140) (hz0 : 0 ≤ z) (hz : z < 2 ^ 80) (c : Int) (hc0 : 0 ≤ c) (hc : c < 2 ^ 30) : (y + c * z).natAbs < 2 ^ 141 := by
  have h1 : 0 ≤ c * z := Int.mul_nonneg hc0 hz0
  have h2 : c * z ≤ 2 ^ 30 * 2 ^ 80 := Int.mul_le_mul (by omega) (by omega) hz0 (by decide)
  have h3 : (2 : Int) ^ 30 * 2 ^ 80 ≤ 2 ^ 140 := by decide
  omega
theorem cube_nonneg {i : Int} (h : 0 ≤ i) : 0 ≤ i ^ (3 : Int).toNat := Int.pow_nonneg h
end Os
namespace K14
open PySem PySem.Spec PyProof.Rows L2 Os Evl
abbrev sSource : Stmt := topS 21
theorem scSource : FnScope ["script", "k", "cell"] ["script", "k"] (defScope sSource) := ⟨rfl, rfl, rfl, by decide +kernel, rfl, by decide +kernel, by decide +kernel⟩
abbrev sPick : Stmt := topS 22
theorem scPick : FnScope ["source", "wide", "digit", "mixed"] ["source", "wide"] (defScope sPick) := ⟨rfl, rfl, rfl, by decide +kernel, rfl, by decide +kernel, by decide +kernel⟩
def cellOf (ns : List Int) (k : Nat) : Int := if (k : Int) < (ns.length : Int) then ns.getD k 0 else 0
section
variable {P : Program} {w : World} {K : PySem.W.Frag} {mg : Str → Option Value} {base : Heap}
def spSource (K : PySem.W.Frag) : Sp := fun vs H Q _ => ∃ (a : Addr) (ns : List Int) (k : Nat), vs = [.ref a, .int (k : Int)] ∧ SqL K H a (ns.map V.int) ∧ k ≤ 1000 ∧
  ∀ H' p, Ex H H' → H p = none → Src H' p 0 → Q (.ref p) H'
theorem ok_source {f : Addr} {fd : FuncData} {k : Nat} (F : Fun K "_law_source" "_law_source" sSource f fd) (mL : mg "len" = none) (mM : mg "max" = none) (mA : mg "abs" = none) :
    FnOk P w K mg base CX0 (k + 1) f fd ["script", "k"] (spSource K) := by
  refine F.ok scSource (fun vs H Q E h => ?_) (fun cdv A outer s H vs Q E hr h => ?_)
  · obtain ⟨a, ns, k, rfl, _⟩ := h
    rfl
  · obtain ⟨a, ns, k, rfl, hS, hk, q⟩ := h
    refine ⟨_, (pss_cons (ps_set (i := 2) scSource.nd rfl (.inl rfl) pe_int)
      (pss_cut (ps_if (pt_cmpR op_lt (pv 1) (pe_callB call_len_seq (by rfl) mL boot_len (pa_cons (pv 0) pa_nil)) (nomark _)) (pss_one (ps_set (i := 2) scSource.nd rfl (.inl rfl) (pe_ix ix_list (pv 0) (pv 1) (fun _ _ => rfl)))) pss_nil)
      (pss_one (ps_ret (pe_lst (pa_cons (pe_callB (call_max2 rfl) (by rfl) mM boot_max (pa_cons pe_int (pa_cons (pe_op op_sub (pe_callB call_abs (by rfl) mA boot_abs (pa_cons (pv 2) pa_nil)) (pe_op op_pow pe_int pe_int)) pa_nil))) (pa_cons (pe_op op_mod (pe_op op_add (pe_op op_add (pe_op op_mul (pv 2) pe_int) (pe_op op_mul pe_int (pv 1))) pe_int) pe_int) (pa_cons pe_int pa_nil)))))))), ?_⟩
    refine q_asg (v := .int 0) ev_c fun H0 e0 => ?_
    refine ⟨fun σ H' => Ex H H' ∧ ∃ c : Int, σ = [some (.ref a), some (.int (k : Int)), some (.int c)], ?_, ?_⟩
    · refine s_when (b := decide ((k : Int) < (ns.length : Int))) (et_test (ev_op (ev_var rfl) (ev_is (ev_len (ev_var rfl) (ex_l e0 hS)) (by rw [List.length_map])) rv_I0)) (fun hb H1 e1 => ?_) (fun hb H1 e1 => ⟨e0.trans e1, _, rfl⟩)
      have hb2 := of_decide_eq_true hb
      refine s_asg (v := .int (ns.getD k 0)) (ev_op (ev_var rfl) (ev_var rfl) (rv_ixL (ex_l (e0.trans e1) hS) (atI_nat (j := k) ?_))) fun H2 e2 => ⟨(e0.trans e1).trans e2, _, rfl⟩
      rw [List.getElem?_map, List.getElem?_eq_getElem (by omega), List.getD_eq_getElem?_getD, List.getElem?_eq_getElem (by omega)]
      rfl
    · rintro σ' H1 ⟨e1, c, rfl⟩
      have ec := ev_var (σ := [some (.ref a), some (.int (k : Int)), some (.int c)]) (H := H1) (i := 2) (v := .int c) rfl
      have pow : ∀ n : Int, 0 ≤ n → n ≤ 100 → CPow 10 n := fun n h1 h2 => ⟨h1, by omega, by decide⟩
      have e18 : (10 : Int) ^ (18 : Int).toNat = 1000000000000000000 := by decide
      refine s_retL (el_lst (ea_cons (ev_max ev_c (ev_op (ev_abs ec) (ev_op ev_c ev_c (rv_I (pow 18 (by decide) (by decide)))) rv_I0))
        (ea_cons (ev_op (ev_op (ev_op (ev_op ec ev_c (rv_I (.inr (by decide)))) (ev_op ev_c (ev_var rfl) (rv_I (.inl (by decide)))) rv_I0) ev_c rv_I0) ev_c (rv_I (by decide)))
        (ea_cons ev_c ea_nil))) (show 3 ≤ 100000 by decide)) fun p H2 hp e2 h2 => q H2 p (e1.trans e2) (fresh_back e1 hp) ?_
      rw [e18] at h2
      refine ⟨_, _, 0, h2, ?_, ?_, ?_, Int.le_refl _, Int.le_refl _⟩
      · split <;> omega
      · exact Int.emod_nonneg _ (by decide)
      · have := Int.emod_lt_of_pos (c * 67 + 7919 * (k : Int) + 13) (show (0 : Int) < 2305843009213693951 by decide)
        exact Int.lt_trans this (by decide)

def spPick : Sp := fun vs H Q _ => ∃ (s : Addr) (n : Int) (B : Nat), vs = [.ref s, .int n] ∧ Src H s B ∧ B ≤ 1000000 ∧ 0 < n ∧ n ≤ 1000000 ∧
  ∀ H' r, Drew s (B + 1) H H' → 0 ≤ r → r < n → Q (.int r) H'
theorem ok_pick {f : Addr} {fd : FuncData} {k : Nat} (F : Fun K "_law_pick" "_law_pick" sPick f fd) : FnOk P w K mg base CX0 (k + 1) f fd ["source", "wide"] spPick := by
  refine F.ok scPick (fun vs H Q E h => ?_) (fun cdv A outer s H vs Q E hr h => ?_)
  · obtain ⟨a, n, B, rfl, _⟩ := h
    rfl
  · obtain ⟨a, n, B, rfl, hS, hB, hn0, hn1, q⟩ := h
    refine ⟨_, (pss_cons (ps_if (pt_cmpR op_gt (pe_ix ix_list (pv 0) pe_int (fun _ _ => rfl)) pe_int (nomark _)) (pss_cons (ps_set (i := 2) scPick.nd rfl (.inl rfl) (pe_op op_mod (pe_ix ix_list (pv 0) pe_int (fun _ _ => rfl)) (pv 1)))
      (pss_cons (ps_asg (pe_op op_fdivW (pe_ix ix_list (pv 0) pe_int (fun _ _ => rfl)) (pv 1)) (pg_sub (pv 0) pe_int set_list))
      (pss_one (ps_ret (pv 2))))) pss_nil)
      (pss_cons (ps_asg (pe_op op_add (pe_ix ix_list (pv 0) pe_int (fun _ _ => rfl)) pe_int) (pg_sub (pv 0) pe_int set_list))
      (pss_cons (ps_set (i := 3) scPick.nd rfl (.inl rfl) (pe_op op_mod (pe_op op_add (pe_ix ix_list (pv 0) pe_int (fun _ _ => rfl)) (pe_op op_mul pe_int (pe_ix ix_list (pv 0) pe_int (fun _ _ => rfl)))) pe_int))
      (pss_cons (ps_set (i := 3) scPick.nd rfl (.inl rfl) (pe_op op_mod (pe_op op_add (pe_op op_add (pe_op op_mul (pv 3) (pv 3)) (pe_op op_mul (pe_op op_mul pe_int (pe_ix ix_list (pv 0) pe_int (fun _ _ => rfl))) (pv 3))) pe_int) pe_int))
      (pss_cons (ps_set (i := 3) scPick.nd rfl (.inl rfl) (pe_op op_mod (pe_op op_add (pe_op op_add (pe_op op_powW (pv 3) pe_int) (pe_ix ix_list (pv 0) pe_int (fun _ _ => rfl))) (pe_ix ix_list (pv 0) pe_int (fun _ _ => rfl))) pe_int))
      (pss_one (ps_ret (pe_op op_mod (pe_op op_fdivW (pv 3) pe_int) (pv 1))))))))), ?_⟩
    obtain ⟨x, y, z, h1, hx, hy0, hy1, hz0, hz1⟩ := hS
    have at0 : ∀ {H' : Hp} {x' y' z' : Int}, H' a = some (.lst [.int x', .int y', .int z']) → ∀ {σ : L2.St}, σ[0]? = some (some (.ref a)) →
        Ev (tOp (rIxL K) (tVar 0) (tC (.int 0))) σ H' (.int x') ∧ Ev (tOp (rIxL K) (tVar 0) (tC (.int 1))) σ H' (.int y') ∧ Ev (tOp (rIxL K) (tVar 0) (tC (.int 2))) σ H' (.int z') := fun h σ e =>
      ⟨ev_op (ev_var e) ev_c (rv_ixL (sq_of h) (atI_nat (j := 0) rfl)), ev_op (ev_var e) ev_c (rv_ixL (sq_of h) (atI_nat (j := 1) rfl)), ev_op (ev_var e) ev_c (rv_ixL (sq_of h) (atI_nat (j := 2) rfl))⟩
    have upd_drew : ∀ {H1 : Hp} {x' z' : Int}, Ex H H1 → 0 ≤ x' → 0 ≤ z' → z' ≤ ((B + 1 : Nat) : Int) → Drew a (B + 1) H (upd H1 a (.lst [.int x', .int y, .int z'])) := fun e p1 p2 p3 =>
      ⟨by rw [hide_upd]; exact Same.hide (same_ex e), _, y, _, upd_same, p1, hy0, hy1, p2, p3⟩
    refine q_when (b := decide (0 < x)) (et_test (ev_op (at0 h1 rfl).1 ev_c rv_I0)) ?_ ?_
    · intro hb H1 e1
      refine q_asg (v := .int (x % n)) (ev_op (at0 (e1 _ _ h1) rfl).1 (ev_var rfl) (rv_I hn0)) fun H2 e2 => ?_
      refine q_setL (j := 0) (xs := [.int x, .int y, .int z]) (v := .int (x / n)) (e2 _ _ (e1 _ _ h1)) (ev_op (at0 (e2 _ _ (e1 _ _ h1)) rfl).1 (ev_var rfl) (rv_I (wide_div (b := 30) hn0 (by omega) (by decide) (by decide)))) (ev_var rfl) ev_c (show 0 < 3 by decide) fun H3 e3 => ?_
      refine s_ret (v := .int (x % n)) (ev_var rfl) fun H4 e4 => ?_
      exact q H4 _ ((upd_drew ((e1.trans e2).trans e3) (Int.ediv_nonneg hx (by omega)) hz0 (by omega)).ex e4) (Int.emod_nonneg x (by omega)) (Int.emod_lt_of_pos x hn0)
    · intro hb H1 e1
      refine q_setL (j := 2) (xs := [.int x, .int y, .int z]) (v := .int (z + 1)) (e1 _ _ h1) (ev_op (at0 (e1 _ _ h1) rfl).2.2 ev_c rv_I0) (ev_var rfl) ev_c (show 2 < 3 by decide) fun H2 e2 => ?_
      have d2 : Drew a (B + 1) H (upd H2 a (.lst [.int x, .int y, .int (z + 1)])) := upd_drew (e1.trans e2) hx (by omega) (by omega)
      have h3 : (upd H2 a (.lst [.int x, .int y, .int (z + 1)])) a = some (.lst [.int x, .int y, .int (z + 1)]) := upd_same
      show tSeq _ _ _ _ (upd H2 a (.lst [.int x, .int y, .int (z + 1)]))
      generalize (upd H2 a (.lst [.int x, .int y, .int (z + 1)])) = H3 at d2 h3
      have bnd : ∀ i : Int, 0 ≤ i % 2305843009213693951 ∧ i % 2305843009213693951 < 2305843009213693951 := fun i => ⟨Int.emod_nonneg i (by decide), Int.emod_lt_of_pos i (by decide)⟩
      refine q_asg (v := .int ((y + 104729 * (z + 1)) % 2305843009213693951)) (ev_op (ev_op (at0 h3 rfl).2.1 (ev_op ev_c (at0 h3 rfl).2.2 (rv_I (.inl (by decide)))) rv_I0) ev_c (rv_I (by decide))) fun H4 e4 => ?_
      obtain ⟨m1, m2⟩ := bnd (y + 104729 * (z + 1))
      generalize (y + 104729 * (z + 1)) % 2305843009213693951 = m at m1 m2
      have mW : -(2 ^ 64 : Int) < m ∧ m < 2 ^ 64 := by omega
      refine q_asg (v := .int ((m * m + 65537 * (z + 1) * m + 31) % 2305843009213693951)) (ev_op (ev_op (ev_op (ev_op (ev_var rfl) (ev_var rfl) (rv_I (.inl mW))) (ev_op (ev_op ev_c (at0 (e4 _ _ h3) rfl).2.2 (rv_I (.inl (by decide)))) (ev_var rfl) (rv_I (.inr mW))) rv_I0) ev_c rv_I0) ev_c (rv_I (by decide))) fun H5 e5 => ?_
      obtain ⟨m3, m4⟩ := bnd (m * m + 65537 * (z + 1) * m + 31)
      generalize (m * m + 65537 * (z + 1) * m + 31) % 2305843009213693951 = m' at m3 m4
      have h5 := e5 _ _ (e4 _ _ h3)
      refine q_asg (v := .int ((m' ^ (3 : Int).toNat + y + (z + 1)) % 2305843009213693951)) (ev_op (ev_op (ev_op (ev_op (ev_var rfl) ev_c (rv_I (cube_ok (n := 62) (by omega) (by decide) (by decide)))) (at0 h5 rfl).2.1 rv_I0) (at0 h5 rfl).2.2 rv_I0) ev_c (rv_I (by decide))) fun H6 e6 => ?_
      generalize (m' ^ (3 : Int).toNat + y + (z + 1)) % 2305843009213693951 = u
      refine s_ret (v := .int (u / 4099 % n)) (ev_op (ev_op (ev_var rfl) ev_c (rv_I (wide_div (b := 30) (by decide) (by decide) (by decide) (by decide)))) (ev_var rfl) (rv_I hn0)) fun H7 e7 => ?_
      exact q H7 _ ((((d2.ex e4).ex e5).ex e6).ex e7) (Int.emod_nonneg _ (by omega)) (Int.emod_lt_of_pos _ hn0)
end
end K14
namespace K14
open PySem PySem.Spec PyProof.Rows L2 Os Evl
abbrev sShuf : Stmt := topS 23
theorem scShuf : FnScope ["source", "values", "left", "k"] ["source", "values"] (defScope sShuf) := ⟨rfl, rfl, rfl, by decide +kernel, rfl, by decide +kernel, by decide +kernel⟩
theorem perm_pop {α : Type} {l : List α} {k : Nat} {y : α} (acc : List α) (h : l[k]? = some y) : ((acc ++ [y]) ++ l.eraseIdx k).Perm (acc ++ l) := by
  obtain ⟨lt, e⟩ := List.getElem?_eq_some_iff.mp h
  rw [List.append_assoc]
  refine List.Perm.append_left acc ?_
  have e2 := List.drop_eq_getElem_cons lt
  rw [e] at e2
  rw [List.eraseIdx_eq_take_drop_succ]
  refine List.Perm.trans (l₂ := l.take k ++ y :: l.drop (k + 1)) (show (y :: (l.take k ++ l.drop (k + 1))).Perm _ from List.perm_middle.symm) ?_
  rw [← e2, List.take_append_drop]
section
variable {P : Program} {w : World} {K : PySem.W.Frag} {mg : Str → Option Value} {base : Heap}
def spShuf : Sp := fun vs H Q _ => ∃ (s a : Addr) (xs : List V) (B : Nat), vs = [.ref s, .ref a] ∧ Src H s B ∧ H a = some (.lst xs) ∧ a ≠ s ∧ xs.length ≤ 1000 ∧ B ≤ 900000 ∧
  ∀ H' p ys, Drew s (B + xs.length) H H' → H p = none → H' p = some (.lst ys) → ys.Perm xs → Q (.ref p) H'
theorem ok_shuf {f fP : Addr} {fd fdP : FuncData} {k : Nat} (F : Fun K "_law_shuffle" "_law_shuffle" sShuf f fd) (GP : FnOk P w K mg base CX0 k fP fdP ["source", "wide"] spPick) (FP : Fun K "_law_pick" "_law_pick" sPick fP fdP) (bP : Binds K fdP ["source", "wide"] [])
    (gP : mg "_law_pick" = some (.ref fP)) (mS : mg "list" = none) (mL : mg "len" = none) (mR : mg "range" = none) : FnOk P w K mg base CX0 (k + 1) f fd ["source", "values"] spShuf := by
  refine F.ok scShuf (fun vs H Q E h => ?_) (fun cdv A outer s H vs Q E hr h => ?_)
  · obtain ⟨s, a, xs, B, rfl, _⟩ := h
    rfl
  · obtain ⟨s, a, xs, B, rfl, hS, ha, nas, hl, hB, q⟩ := h
    refine ⟨_, pss_cons (ps_set (i := 2) scShuf.nd rfl (.inr rfl) (pe_callTy call_list_of (by rfl) mS boot_list (pa_cons (pv 1) pa_nil)))
      (pss_one (ps_ret (pe_lc (own := [("k", 3)]) (g := gName 3) (tt := tYes) (te := tBM K "list" rPopAt (tVar 2) (tCons (tCall spPick [] E0 (tCons (tVar 0) (tCons (tCB (rLenS K) (tCons (tVar 2) tNil)) tNil))) tNil)) rfl scShuf.nd (pi_range1 (by rfl) mR (pa_cons (pe_callB call_len_seq (by rfl) mL boot_len (pa_cons (pv 1) pa_nil)) pa_nil))
          (blkOk_by (N := ["source", "values", "left", "k"]) (sc := defScope sShuf) (by decide +kernel))
          (fun _ _ _ _ _ => pg_name (i := 3) scShuf.nd rfl (Or.inl rfl)) (fun _ _ _ _ _ => pts_nil)
          (fun _ _ _ _ _ => pe_bm PySem.F.plainAttrs_list PySem.F.slot_list_pop PySem.F.type_list_pop mt_popAt (pv 2)
            (pa_cons (pe_call GP hr (by rfl) gP FP.kp bP .nil pass0 (pa_cons (pv 0) (pa_cons (pe_callB call_len_seq (by rfl) mL boot_len (pa_cons (pv 2) pa_nil)) pa_nil))) pa_nil))))), ?_⟩
    -- left = list(row)
    refine ⟨.ref a, rfl, a, xs, rfl, .inl (sq_of ha), fun L hL => ?_⟩
    have e1 : Ex H (upd H L (.lst xs)) := Ex.new hL
    have src0 := hS.at
    -- range(len(row))
    refine ⟨.ref a, rfl, a, xs, rfl, .inl (sq_of (e1 _ _ ha)), (xs.length : Int), rfl, by omega, by omega, fun D hD => ?_⟩
    have nLD : D ≠ L := fun e => by
      rw [e, upd_same] at hD
      cases hD
    have hD0 : H D = none := fresh_back e1 hD
    refine lc_range (lo := 0) (n := (xs.length : Int).toNat) (fun i Hh => ∃ l acc, Hh L = some (.lst l) ∧ Hh D = some (.lst acc) ∧ (acc ++ l).Perm xs ∧ l.length + i = xs.length ∧ acc.length = i ∧ Drew s (B + i) H Hh) ?_ ?_ ?_
    · refine ⟨xs, [], ?_, upd_same, List.Perm.refl _, rfl, rfl, (((Drew.refl hS).ex e1).mut src0 hD0)⟩
      rw [upd_ne nLD.symm]
      exact upd_same
    · rintro i Hh hi ⟨l, acc, hl1, hD1, pm, len, len2, dr⟩
      have hi' : i < xs.length := by omega
      refine ⟨rfl, ?_⟩
      show tBM K "list" rPopAt (tVar 2) _ _ _ _
      refine ⟨.ref L, rfl, .inl ⟨rfl, _, sq_of hl1⟩, .ref s, rfl, .ref L, rfl, L, l, rfl, .inl (sq_of hl1), s, (l.length : Int), B + i, rfl, dr.src, by omega, by omega, by omega, fun H2 r dr2 r0 r1 => ?_⟩
      have nLs : L ≠ s := fun e => by
        obtain ⟨o, ho⟩ := src0
        rw [e, ho] at hL
        cases hL
      have nDs : D ≠ s := fun e => by
        obtain ⟨o, ho⟩ := src0
        rw [e, ho] at hD0
        cases hD0
      have hl2 : H2 L = some (.lst l) := dr2.get nLs hl1
      have hD2 : H2 D = some (.lst acc) := dr2.get nDs hD1
      have lt : r.toNat < l.length := by omega
      have er : r = (r.toNat : Int) := by omega
      refine ⟨L, l, r, r.toNat, l[r.toNat], rfl, rfl, hl2, by omega, by omega, (ixN_seq (by rw [er]; exact ixN_nat lt)).1, List.getElem?_eq_getElem lt, acc, ?_, ?_, ?_⟩
      · rw [upd_ne nLD]
        exact hD2
      · exact sz_lt (by omega)
      · refine ⟨l.eraseIdx r.toNat, acc ++ [l[r.toNat]], ?_, upd_same, (perm_pop acc (List.getElem?_eq_getElem lt)).trans pm, ?_, ?_, ?_⟩
        · rw [upd_ne nLD.symm]
          exact upd_same
        · rw [List.length_eraseIdx_of_lt lt]
          omega
        · rw [List.length_append, len2]
          rfl
        · exact ((dr.trans dr2).mut src0 hL).mut src0 hD0
    · rintro Hh ⟨l, acc, hl1, hD1, pm, len, len2, dr⟩
      have hn : l.length = 0 := by omega
      rw [List.length_eq_zero_iff.mp hn, List.append_nil] at pm
      exact q Hh D acc (by simpa using dr) hD0 hD1 pm
end
end K14
/-! the drawn forests: each later label is tied to an earlier one at most once -/
namespace Os
open PySem PySem.Spec PyProof.Rows L2 Evl
theorem snd_inj : ∀ {ks : List Pr}, ks.Pairwise (fun p q => p.2 < q.2) → ∀ {p q : Pr}, p ∈ ks → q ∈ ks → p.2 = q.2 → p = q
  | x :: r, h, p, q, hp, hq, e => by
    obtain ⟨h1, h2⟩ := List.pairwise_cons.mp h
    rcases List.mem_cons.mp hp with ep | hp
    · rcases List.mem_cons.mp hq with eq | hq
      · rw [ep, eq]
      · have := h1 q hq
        rw [ep] at e
        omega
    · rcases List.mem_cons.mp hq with eq | hq
      · have := h1 p hp
        rw [eq] at e
        omega
      · exact snd_inj h2 hp hq e
def edgeOf (lab : List Nat) (p : Pr) : Pr := (min (lab.getD p.1 0) (lab.getD p.2 0), max (lab.getD p.1 0) (lab.getD p.2 0))
/-- the places that hang below those of T -/
def below : List Pr → (Nat → Bool) → Nat → Bool
  | [], T => T
  | p :: r, T => below r fun x => T x || (decide (x = p.2) && T p.1)
theorem below_out : ∀ {ks : List Pr} {T : Nat → Bool} {x : Nat}, (∀ p ∈ ks, p.2 ≠ x) → below ks T x = T x
  | [], _, _, _ => rfl
  | p :: r, T, x, h => by
    show below r _ x = T x
    rw [below_out fun q hq => h q (List.mem_cons_of_mem _ hq), decide_eq_false fun e => h p List.mem_cons_self e.symm, Bool.false_and, Bool.or_false]
theorem below_tie : ∀ {ks : List Pr} {T : Nat → Bool} {a k : Nat}, (∀ p ∈ ks, p.1 < p.2) → ks.Pairwise (fun p q => p.2 < q.2) → (a, k) ∈ ks → below ks T k = (T k || below ks T a)
  | p :: r, T, a, k, hl, inc, hm => by
    obtain ⟨i1, i2⟩ := List.pairwise_cons.mp inc
    rcases List.mem_cons.mp hm with e | hm
    · subst e
      have lt : a < k := hl _ List.mem_cons_self
      show below r _ k = (T k || below r _ a)
      rw [below_out (x := k) fun q hq e => by have := i1 q hq; omega, below_out (x := a) fun q hq e => by have := i1 q hq; omega]
      rw [decide_eq_true rfl, decide_eq_false (show ¬ a = k by omega), Bool.true_and, Bool.false_and, Bool.or_false]
    · have gt : p.2 < k := i1 _ hm
      show below r _ k = (T k || below r _ a)
      rw [below_tie (fun q hq => hl q (List.mem_cons_of_mem _ hq)) i2 hm, decide_eq_false (show ¬ k = p.2 by omega), Bool.false_and, Bool.or_false]
theorem below_up : ∀ {ks : List Pr} {T : Nat → Bool} {x : Nat}, T x = true → below ks T x = true
  | [], _, _, h => h
  | p :: r, T, x, h => below_up (ks := r) (by rw [h]; rfl)
theorem below_ge : ∀ {ks : List Pr} {T : Nat → Bool} {c : Nat}, (∀ p ∈ ks, p.1 < p.2) → (∀ x, T x = true → c ≤ x) → ∀ x, below ks T x = true → c ≤ x
  | [], _, _, _, h => h
  | p :: r, T, c, hl, h => below_ge (ks := r) (fun q hq => hl q (List.mem_cons_of_mem _ hq)) fun x hx => by
    rw [Bool.or_eq_true, Bool.and_eq_true] at hx
    rcases hx with hx | ⟨h1, h2⟩
    · exact h x hx
    · have e := of_decide_eq_true h1
      have := h p.1 h2
      have := hl p List.mem_cons_self
      omega
theorem perm_nats {l : List Nat} {ys : List V} (h : ys.Perm (l.map fun x : Nat => V.int (x : Int))) : ∃ us : List Nat, ys = us.map (fun x : Nat => V.int (x : Int)) ∧ us.Perm l := by
  have back : ∀ x ∈ ys, ∃ z : Nat, x = V.int (z : Int) := fun x hx => by
    obtain ⟨z, _, e⟩ := List.mem_map.mp (h.mem_iff.mp hx)
    exact ⟨z, e.symm⟩
  let un : V → Nat := fun v => match v with
    | .int z => z.toNat
    | _ => 0
  refine ⟨ys.map un, ?_, ?_⟩
  · rw [List.map_map]
    have : ys.map ((fun x : Nat => V.int (x : Int)) ∘ un) = ys.map id := List.map_congr_left fun x hx => by
      obtain ⟨z, e⟩ := back x hx
      rw [e]
      rfl
    rw [this, List.map_id]
  · have := h.map un
    rw [List.map_map] at this
    have e : l.map (un ∘ fun x : Nat => V.int (x : Int)) = l := by
      have : l.map (un ∘ fun x : Nat => V.int (x : Int)) = l.map id := List.map_congr_left fun x _ => rfl
      rw [this, List.map_id]
    rwa [e] at this
section
variable {lab : List Nat} {n : Nat}
theorem lab_len (pm : lab.Perm (List.range n)) : lab.length = n := by rw [pm.length_eq, List.length_range]
theorem lab_lt (pm : lab.Perm (List.range n)) {i : Nat} (h : i < n) : lab.getD i 0 < n := by
  rw [List.getD_eq_getElem?_getD, List.getElem?_eq_getElem (by rw [lab_len pm]; exact h)]
  exact List.mem_range.mp (pm.mem_iff.mp (List.getElem_mem _))
theorem lab_inj (pm : lab.Perm (List.range n)) {i j : Nat} (hi : i < n) (hj : j < n) (e : lab.getD i 0 = lab.getD j 0) : i = j := by
  have nd : lab.Nodup := pm.nodup_iff.mpr List.nodup_range
  have li : i < lab.length := by rw [lab_len pm]; exact hi
  have lj : j < lab.length := by rw [lab_len pm]; exact hj
  rw [List.getD_eq_getElem?_getD, List.getD_eq_getElem?_getD, List.getElem?_eq_getElem li, List.getElem?_eq_getElem lj] at e
  have e' : lab[i] = lab[j] := e
  refine Decidable.byContradiction fun ne => ?_
  rcases Nat.lt_or_gt_of_ne ne with h | h
  · exact List.pairwise_iff_getElem.mp nd i j li lj h e'
  · exact List.pairwise_iff_getElem.mp nd j i lj li h e'.symm
/-- a property of places, said of labels -/
def onLab (lab : List Nat) (n : Nat) (T : Nat → Bool) (x : Nat) : Bool := (List.range n).any fun i => decide (lab.getD i 0 = x) && T i
theorem onLab_at (pm : lab.Perm (List.range n)) (T : Nat → Bool) {i : Nat} (hi : i < n) : onLab lab n T (lab.getD i 0) = T i := by
  unfold onLab
  cases h : T i with
  | true => exact List.any_eq_true.mpr ⟨i, List.mem_range.mpr hi, by rw [decide_eq_true rfl, h]; rfl⟩
  | false =>
    refine List.any_eq_false.mpr fun j hj z => ?_
    rw [Bool.and_eq_true] at z
    have e := lab_inj pm (List.mem_range.mp hj) hi (of_decide_eq_true z.1)
    rw [e, h] at z
    cases z.2
theorem minmax (S : Nat → Bool) (u v : Nat) : (S (min u v) = S (max u v)) ↔ S u = S v := by
  by_cases h : u ≤ v
  · rw [Nat.min_eq_left h, Nat.max_eq_right h]
  · rw [Nat.min_eq_right (by omega), Nat.max_eq_left (by omega)]
    exact ⟨Eq.symm, Eq.symm⟩
theorem drawn_edges {ks : List Pr} (pm : lab.Perm (List.range n)) (hl : ∀ p ∈ ks, p.1 < p.2 ∧ p.2 < n) (inc : ks.Pairwise fun p q => p.2 < q.2) :
    (∀ e ∈ ks.map (edgeOf lab), e.1 < e.2 ∧ e.2 < n) ∧ (ks.map (edgeOf lab)).Nodup ∧ Bridges (ks.map (edgeOf lab)) := by
  refine ⟨fun e he => ?_, ?_, fun e he => ?_⟩
  · obtain ⟨p, hp, rfl⟩ := List.mem_map.mp he
    obtain ⟨h1, h2⟩ := hl p hp
    have a := lab_lt pm (show p.1 < n by omega)
    have b := lab_lt pm h2
    have ne : lab.getD p.1 0 ≠ lab.getD p.2 0 := fun z => by
      have := lab_inj pm (show p.1 < n by omega) h2 z
      omega
    show min _ _ < max _ _ ∧ max _ _ < n
    omega
  · unfold List.Nodup
    rw [List.pairwise_map]
    refine List.Pairwise.imp_of_mem (fun {p q} hp hq lt e => ?_) inc
    obtain ⟨h1, h2⟩ := hl p hp
    obtain ⟨h3, h4⟩ := hl q hq
    have e1 : min (lab.getD p.1 0) (lab.getD p.2 0) = min (lab.getD q.1 0) (lab.getD q.2 0) := congrArg Prod.fst e
    have e2 : max (lab.getD p.1 0) (lab.getD p.2 0) = max (lab.getD q.1 0) (lab.getD q.2 0) := congrArg Prod.snd e
    have or : (lab.getD p.1 0 = lab.getD q.1 0 ∧ lab.getD p.2 0 = lab.getD q.2 0) ∨ (lab.getD p.1 0 = lab.getD q.2 0 ∧ lab.getD p.2 0 = lab.getD q.1 0) := by omega
    rcases or with ⟨_, z⟩ | ⟨z1, z2⟩
    · have := lab_inj pm h2 h4 z
      omega
    · have := lab_inj pm (by omega) h4 z1
      have := lab_inj pm h2 (by omega) z2
      omega
  · obtain ⟨p, hp, rfl⟩ := List.mem_map.mp he
    obtain ⟨h1, h2⟩ := hl p hp
    have hl1 : ∀ q ∈ ks, q.1 < q.2 := fun q hq => (hl q hq).1
    refine ⟨onLab lab n (below ks fun x => decide (x = p.2)), ?_, fun f hf ne => ?_⟩
    · intro z
      have z2 := (minmax _ _ _).mp z
      rw [onLab_at pm _ (show p.1 < n by omega), onLab_at pm _ h2, below_up (x := p.2) (decide_eq_true rfl)] at z2
      have := below_ge (c := p.2) hl1 (fun x hx => by have := of_decide_eq_true hx; omega) p.1 z2
      omega
    · obtain ⟨q, hq, rfl⟩ := List.mem_map.mp hf
      obtain ⟨h3, h4⟩ := hl q hq
      refine (minmax _ _ _).mpr ?_
      rw [onLab_at pm _ (show q.1 < n by omega), onLab_at pm _ h4]
      have nk : q.2 ≠ p.2 := fun z => by
        have : p = q := snd_inj inc hp hq z.symm
        rw [this] at ne
        exact ne rfl
      have t := below_tie (T := fun x => decide (x = p.2)) hl1 inc (show (q.1, q.2) ∈ ks from hq)
      rw [decide_eq_false nk, Bool.false_or] at t
      exact t.symm
end
/-! ### sorted -/
theorem Bridges.perm {es fs : List Pr} (h : Bridges es) (pm : fs.Perm es) : Bridges fs := fun e he => by
  obtain ⟨S, h1, h2⟩ := h e (pm.mem_iff.mp he)
  exact ⟨S, h1, fun f hf => h2 f (pm.mem_iff.mp hf)⟩
theorem asc_strict {es : List Pr} (nd : es.Nodup) (small : ∀ e ∈ es, e.1 < 64 ∧ e.2 < 64) (h : es.Pairwise fun e f => (e.1 : Int) * 64 + (e.2 : Int) ≤ (f.1 : Int) * 64 + (f.2 : Int)) : es.Pairwise fun e f => ltP e f = true := by
  have h2 := h.and nd
  refine List.Pairwise.imp_of_mem (fun {e f} he hf z => ?_) h2
  obtain ⟨a1, a2⟩ := small e he
  obtain ⟨b1, b2⟩ := small f hf
  rw [ltP_iff]
  by_cases q : e.1 = f.1
  · by_cases q2 : e.2 = f.2
    · exact absurd (Prod.ext q q2) z.2
    · have := z.1
      omega
  · have := z.1
    omega
end Os
/-! what evaluates to something of a kind: displays, sums and slices whose items are new objects themselves -/
namespace Os
open PySem PySem.Spec PyProof.Rows L2 Evl

/-- R is kept by more heap -/
def Up (R : Hp → V → Prop) : Prop := ∀ G G' v, Ex G G' → R G v → R G' v
section
variable (s : Addr) (R : Hp → V → Prop)
def EvR (te : TE) (σ : L2.St) (H : Hp) : Prop := ∀ H1, Ex H H1 → ∀ Q : VK, (∀ v H2, Ex H1 H2 → R (hide s H2) v → Q v H2) → te σ H1 Q
def EvAR (ta : TA) (σ : L2.St) (H : Hp) (n : Nat) : Prop := ∀ H1, Ex H H1 → ∀ Q : List V → Hp → Prop, (∀ vs H2, Ex H1 H2 → vs.length = n → (∀ v ∈ vs, R (hide s H2) v) → Q vs H2) → ta σ H1 Q
/-- a new list of lo to hi such items -/
def EvLR (te : TE) (σ : L2.St) (H : Hp) (lo hi : Nat) : Prop := ∀ H1, Ex H H1 → ∀ Q : VK,
  (∀ p xs H2, H1 p = none → Ex H1 H2 → H2 p = some (.lst xs) → lo ≤ xs.length → xs.length ≤ hi → (∀ x ∈ xs, R (hide s H2) x) → Q (.ref p) H2) → te σ H1 Q
/-- a list that stands at p, the same of its items -/
def LsR (H : Hp) (p : Addr) (lo hi : Nat) : Prop := p ≠ s ∧ ∃ xs, H p = some (.lst xs) ∧ lo ≤ xs.length ∧ xs.length ≤ hi ∧ ∀ x ∈ xs, R (hide s H) x
end
section
variable {K : PySem.W.Frag} {s : Addr} {R : Hp → V → Prop} {σ : L2.St} {H H' : Hp} {ta tb te : TE} {tl tr : TA} {n m lo hi lo' hi' : Nat} {v : V}
theorem hide_ex (e : Ex H H') : Ex (hide s H) (hide s H') := Same.hide (same_ex e)
theorem er_of (up : Up R) (h : Ev te σ H v) (r : R (hide s H) v) : EvR s R te σ H := fun H1 e Q q =>
  h H1 e _ fun H2 e2 => q v H2 e2 (up _ _ _ (hide_ex (e.trans e2)) r)
theorem er_mono (e : Ex H H') (h : EvR s R te σ H) : EvR s R te σ H' := fun H1 a Q q => h H1 (e.trans a) Q q
theorem ear_nil : EvAR s R tNil σ H 0 := fun H1 _ Q q => q [] H1 (Ex.refl _) rfl fun _ h => nomatch h
theorem ear_cons (up : Up R) (h : EvR s R te σ H) (hr : EvAR s R tr σ H n) : EvAR s R (tCons te tr) σ H (n + 1) := fun H1 e Q q =>
  h H1 e _ fun v H2 e2 r => hr H2 (e.trans e2) _ fun vs H3 e3 hn hv => q (v :: vs) H3 (e2.trans e3) (by rw [List.length_cons, hn]) fun x hx => by
    rcases List.mem_cons.mp hx with rfl | hx
    · exact up _ _ _ (hide_ex e3) r
    · exact hv x hx
theorem new_apart (hs : ∃ o, H s = some o) {p : Addr} (h : H p = none) : p ≠ s := fun e => by
  obtain ⟨o, ho⟩ := hs
  rw [e, ho] at h
  cases h
theorem elr_lst (up : Up R) (h : EvAR s R tl σ H n) (hn : n ≤ 1000) : EvLR s R (tLst tl) σ H n n := fun H1 e Q q =>
  h H1 e _ fun vs H2 e2 hl hv => ⟨by rw [hl]; exact sz_of (by omega), fun p hp => q p vs _ (fresh_back e2 hp) (e2.trans (Ex.new hp)) upd_same (by omega) (by omega) fun x hx => up _ _ _ (hide_ex (Ex.new hp)) (hv x hx)⟩
theorem elr_cat (up : Up R) (h1 : EvLR s R ta σ H lo hi) (h2 : EvLR s R tb σ H lo' hi') (hn : hi + hi' ≤ 10000) : EvLR s R (tOp rCat ta tb) σ H (lo + lo') (hi + hi') := fun H1 e Q q =>
  h1 H1 e _ fun p xs H2 hp e2 hx l1 l2 rx => h2 H2 (e.trans e2) _ fun p' ys H3 hp' e3 hy l3 l4 ry =>
    ⟨p, p', xs, ys, rfl, rfl, e3 _ _ hx, hy, sz_of (by omega), fun r hr => q r (xs ++ ys) _ (fresh_back (e2.trans e3) hr) ((e2.trans e3).trans (Ex.new hr)) upd_same (by rw [List.length_append]; omega) (by rw [List.length_append]; omega) fun x hx => by
      rcases List.mem_append.mp hx with z | z
      · exact up _ _ _ (hide_ex (e3.trans (Ex.new hr))) (rx x z)
      · exact up _ _ _ (hide_ex (Ex.new hr)) (ry x z)⟩
/-- the left one stands there already -/
theorem elr_catV (up : Up R) {p : Addr} (h1 : Ev ta σ H (.ref p)) (hp : LsR s R H p lo hi) (h2 : EvLR s R tb σ H lo' hi') (hn : hi + hi' ≤ 10000) : EvLR s R (tOp rCat ta tb) σ H (lo + lo') (hi + hi') := fun H1 e Q q => by
  obtain ⟨_, xs, hx, l1, l2, rx⟩ := hp
  exact h1 H1 e _ fun H2 e2 => h2 H2 (e.trans e2) _ fun p' ys H3 hp' e3 hy l3 l4 ry =>
    ⟨p, p', xs, ys, rfl, rfl, ((e.trans e2).trans e3) _ _ hx, hy, sz_of (by omega), fun r hr => q r (xs ++ ys) _ (fresh_back (e2.trans e3) hr) ((e2.trans e3).trans (Ex.new hr)) upd_same (by rw [List.length_append]; omega) (by rw [List.length_append]; omega) fun x hx => by
      rcases List.mem_append.mp hx with z | z
      · exact up _ _ _ (hide_ex (((e.trans e2).trans e3).trans (Ex.new hr))) (rx x z)
      · exact up _ _ _ (hide_ex (Ex.new hr)) (ry x z)⟩
/-- a list that is known whole -/
theorem elr_of (up : Up R) {xs : List V} (h : EvL te σ H xs) (l1 : lo ≤ xs.length) (l2 : xs.length ≤ hi) (r : ∀ x ∈ xs, R (hide s H) x) : EvLR s R te σ H lo hi := fun H1 e Q q =>
  h H1 e _ fun p H2 hp e2 h2 => q p xs H2 hp e2 h2 l1 l2 fun x hx => up _ _ _ (hide_ex (e.trans e2)) (r x hx)
/-- such a list as a value of another kind -/
theorem er_list {R' : Hp → V → Prop} (hs : ∃ o, H s = some o) (h : EvLR s R te σ H lo hi) (f : ∀ p xs G, G p = some (.lst xs) → lo ≤ xs.length → xs.length ≤ hi → (∀ x ∈ xs, R G x) → R' G (.ref p)) : EvR s R' te σ H := fun H1 e Q q =>
  h H1 e _ fun p xs H2 hp e2 h2 l1 l2 r => q (.ref p) H2 e2 (f p xs _ (by
    rw [hide_ne (new_apart (by obtain ⟨o, ho⟩ := hs; exact ⟨o, e _ _ ho⟩) hp)]
    exact h2) l1 l2 r)
theorem er_tup {R' : Hp → V → Prop} (up : Up R) (hs : ∃ o, H s = some o) (h : EvAR s R tl σ H n) (hn : n ≤ 1000) (f : ∀ p xs G, G p = some (.tup xs) → xs.length = n → (∀ x ∈ xs, R G x) → R' G (.ref p)) : EvR s R' (tTup tl) σ H := fun H1 e Q q =>
  h H1 e _ fun vs H2 e2 hl hv => ⟨by rw [hl]; exact sz_of (by omega), fun p hp => q (.ref p) _ (e2.trans (Ex.new hp)) (f p vs _ (by
    rw [hide_ne (new_apart (by obtain ⟨o, ho⟩ := hs; exact ⟨o, e2 _ _ (e _ _ ho)⟩) hp)]
    exact upd_same) hl fun x hx => up _ _ _ (hide_ex (Ex.new hp)) (hv x hx))⟩
theorem er_imp {R' : Hp → V → Prop} (h : EvR s R te σ H) (f : ∀ G v, R G v → R' G v) : EvR s R' te σ H := fun H1 e Q q => h H1 e Q fun v H2 e2 r => q v H2 e2 (f _ _ r)
/-- statements -/
theorem q_asgR {i : Nat} {D : Ends} {tz : TS} (h : EvR s R te σ H) (k : ∀ v H1, Ex H H1 → R (hide s H1) v → tz D (σ.set i (some v)) H1) : tSeq (tAsg te (gName i)) tz D σ H := h H (Ex.refl H) _ fun v H1 e r => k v H1 e r
theorem q_asgLR {i : Nat} {D : Ends} {tz : TS} (hs : ∃ o, H s = some o) (h : EvLR s R te σ H lo hi) (k : ∀ p H1, H p = none → Ex H H1 → LsR s R H1 p lo hi → tz D (σ.set i (some (.ref p))) H1) : tSeq (tAsg te (gName i)) tz D σ H :=
  h H (Ex.refl H) _ fun p xs H1 hp e h1 l1 l2 r => k p H1 hp e ⟨new_apart hs hp, xs, h1, l1, l2, r⟩
theorem LsR.drew {B : Nat} (up : Up R) {p : Addr} (h : LsR s R H p lo hi) (d : Drew s B H H') : LsR s R H' p lo hi := by
  obtain ⟨np, xs, hx, l1, l2, r⟩ := h
  exact ⟨np, xs, d.get np hx, l1, l2, fun x hx => up _ _ _ d.kept (r x hx)⟩
theorem LsR.ex (up : Up R) {p : Addr} (h : LsR s R H p lo hi) (e : Ex H H') : LsR s R H' p lo hi := by
  obtain ⟨np, xs, hx, l1, l2, r⟩ := h
  exact ⟨np, xs, e _ _ hx, l1, l2, fun x hx => up _ _ _ (hide_ex e) (r x hx)⟩
theorem LsR.pick {Kf : PySem.W.Frag} {p : Addr} {r : Int} {Q : VK} (h : LsR s R H p lo hi) (r0 : 0 ≤ r) (r1 : r < (lo : Int)) (q : ∀ x, R (hide s H) x → Q x H) : rIxL Kf (.ref p) (.int r) H Q := by
  obtain ⟨_, xs, hx, l1, l2, hr⟩ := h
  have lt : r.toNat < xs.length := by omega
  have e : r = (r.toNat : Int) := by omega
  rw [e]
  exact ⟨p, xs, _, xs[r.toNat], rfl, rfl, sq_of hx, atI_nat (List.getElem?_eq_getElem lt), q _ (hr _ (List.getElem_mem lt))⟩
end
end Os
namespace K14
open PySem PySem.Spec PyProof.Rows L2 Os Evl
abbrev sGraph : Stmt := topS 24
theorem scGraph : FnScope ["source", "most", "size", "names", "style", "gaps", "pairs", "k", "parent"] ["source", "most"] (defScope sGraph) := ⟨rfl, rfl, rfl, by decide +kernel, rfl, by decide +kernel, by decide +kernel⟩
theorem PrsV.put {s p : Addr} {G : Hp} {xs' zs vs : List V} {es : List Pr} (h : PrsV (hide s G) vs es) (np : p ≠ s) (hp : G p = some (.lst xs')) : PrsV (hide s (upd G p (.lst zs))) vs es := by
  induction h with
  | nil => exact .nil
  | cons x _ ih =>
    obtain ⟨t, rfl, ht⟩ := x
    obtain ⟨n1, h1⟩ := hide_of ht
    refine .cons ⟨t, rfl, ?_⟩ ih
    rw [hide_ne n1, upd_ne fun e => by
      rw [e, hp] at h1
      cases h1]
    exact h1
theorem PrsV.mem {G : Hp} : ∀ {vs : List V} {es : List Pr} {e : Pr}, PrsV G vs es → e ∈ es → ∃ v ∈ vs, PrV G v e
  | _, _, _, .cons p r, h => by
    rcases List.mem_cons.mp h with rfl | h
    · exact ⟨_, List.mem_cons_self, p⟩
    · obtain ⟨v, h1, h2⟩ := PrsV.mem r h
      exact ⟨v, List.mem_cons_of_mem _ h1, h2⟩
theorem PrsV.pairwise {G : Hp} {R : V → V → Prop} {S : Pr → Pr → Prop} : ∀ {vs : List V} {es : List Pr}, PrsV G vs es → vs.Pairwise R → (∀ v u e f, R v u → PrV G v e → PrV G u f → S e f) → es.Pairwise S
  | _, _, .nil, _, _ => .nil
  | _, _, .cons p r, h, k => by
    obtain ⟨h1, h2⟩ := List.pairwise_cons.mp h
    refine List.pairwise_cons.mpr ⟨fun f hf => ?_, PrsV.pairwise r h2 k⟩
    obtain ⟨u, hu, pu⟩ := PrsV.mem r hf
    exact k _ _ _ _ (h1 u hu) p pu
theorem drawn_if {s : Addr} {C : Nat} {t : TT} {tu tw : TS} {D : Ends} {σ : L2.St} {H : Hp} (h : ∀ Q : Bool → Hp → Prop, (∀ H1, Drew s C H H1 → Q true H1) → (∀ H1, Drew s C H H1 → Q false H1) → t σ H Q) (k1 : ∀ H1, Drew s C H H1 → tu D σ H1) (k2 : ∀ H1, Drew s C H H1 → tw D σ H1) : tIfS t tu tw D σ H :=
  h _ (fun H1 d => k1 H1 d) (fun H1 d => k2 H1 d)
section
variable {P : Program} {w : World} {K : PySem.W.Frag} {mg : Str → Option Value} {base : Heap}
def spGraph : Sp := fun vs H Q _ => ∃ (s : Addr) (m B : Nat), vs = [.ref s, .int (m : Int)] ∧ 1 ≤ m ∧ m ≤ 40 ∧ Src H s B ∧ B ≤ 800000 ∧
  ∀ (H' : Hp) (v : V) (n : Nat) (es : List Pr), Drew s (B + 200) H H' → GraphV (hide s H') v n es → IsForest n es → n ≤ m → es.length < n → Q v H'
theorem ok_graph {f fP fS : Addr} {fd fdP fdS : FuncData} {k : Nat} (F : Fun K "_law_graph" "_law_graph" sGraph f fd) (GP : FnOk P w K mg base CX0 k fP fdP ["source", "wide"] spPick) (FP : Fun K "_law_pick" "_law_pick" sPick fP fdP) (bP : Binds K fdP ["source", "wide"] [])
    (gP : mg "_law_pick" = some (.ref fP)) (GS : FnOk P w K mg base CX0 k fS fdS ["source", "values"] spShuf) (FS : Fun K "_law_shuffle" "_law_shuffle" sShuf fS fdS) (bS : Binds K fdS ["source", "values"] []) (gS : mg "_law_shuffle" = some (.ref fS))
    (mRange : mg "range" = none) (mList : mg "list" = none) (mMax : mg "max" = none) (mMin : mg "min" = none) (mSorted : mg "sorted" = none) :
    FnOk P w K mg base CX0 (k + 1) f fd ["source", "most"] spGraph := by
  refine F.ok scGraph (fun vs H Q E h => ?_) (fun cdv A outer s H vs Q E hr h => ?_)
  · obtain ⟨s, m, B, rfl, _⟩ := h
    rfl
  · obtain ⟨s, m, B, rfl, hm1, hm40, hS, hB, q⟩ := h
    refine ⟨_, (pss_cons (ps_set (i := 2) scGraph.nd rfl (.inl rfl) (pe_ix ix_list (pe_lst (pa_cons (pe_op op_add pe_int (pe_call GP hr (by rfl) gP FP.kp bP .nil pass0 (pa_cons (pv 0) (pa_cons (pv 1) pa_nil)))) (pa_cons (pv 1) (pa_cons (pe_op op_add pe_int (pe_call GP hr (by rfl) gP FP.kp bP .nil pass0 (pa_cons (pv 0) (pa_cons (pe_callB (call_min2 rfl) (by rfl) mMin boot_min (pa_cons (pv 1) (pa_cons pe_int pa_nil))) pa_nil)))) pa_nil)))) (pe_call GP hr (by rfl) gP FP.kp bP .nil pass0 (pa_cons (pv 0) (pa_cons pe_int pa_nil))) (fun _ _ => rfl)))
      (pss_cons (ps_set (i := 3) scGraph.nd rfl (.inl rfl) (pe_call GS hr (by rfl) gS FS.kp bS .nil pass0 (pa_cons (pv 0) (pa_cons (pe_listRg rfl (by rfl) mList (prg_1 (by rfl) mRange (pv 2))) pa_nil))))
      (pss_cons (ps_set (i := 4) scGraph.nd rfl (.inl rfl) (pe_call GP hr (by rfl) gP FP.kp bP .nil pass0 (pa_cons (pv 0) (pa_cons pe_int pa_nil))))
      (pss_cons (ps_set (i := 5) scGraph.nd rfl (.inl rfl) (pe_ix ix_list (pe_lst (pa_cons pe_int (pa_cons pe_int (pa_cons pe_int pa_nil)))) (pe_call GP hr (by rfl) gP FP.kp bP .nil pass0 (pa_cons (pv 0) (pa_cons pe_int pa_nil))) (fun _ _ => rfl)))
      (pss_cons (ps_set (i := 6) scGraph.nd rfl (.inl rfl) (pe_lst pa_nil))
      (pss_cons (ps_for PassesOwn.never rfl (pi_range2 (by rfl) mRange (pa_cons pe_int (pa_cons (pv 2) pa_nil))) (pg_name (i := 7) scGraph.nd rfl (Or.inl rfl))
      (pss_cons (ps_set (i := 8) scGraph.nd rfl (.inl rfl) (pe_ix ix_list (pv 3) (pe_ix ix_list (pe_lst (pa_cons (pe_op op_sub (pv 7) pe_int) (pa_cons pe_int (pa_cons (pe_call GP hr (by rfl) gP FP.kp bP .nil pass0 (pa_cons (pv 0) (pa_cons (pv 7) pa_nil))) (pa_cons (pe_callB (call_max2 rfl) (by rfl) mMax boot_max (pa_cons pe_int (pa_cons (pe_op op_sub (pe_op op_sub (pv 7) pe_int) (pe_call GP hr (by rfl) gP FP.kp bP .nil pass0 (pa_cons (pv 0) (pa_cons pe_int pa_nil)))) pa_nil))) pa_nil))))) (pv 4) (fun _ _ => rfl)) (fun _ _ => rfl)))
      (pss_one (ps_if (PW.pt (pw_or (pt_cmpR op_eq (pv 5) pe_int (nomark _)) (pw_or1 (pt_cmpR op_gt (pe_call GP hr (by rfl) gP FP.kp bP .nil pass0 (pa_cons (pv 0) (pa_cons (pv 5) pa_nil))) pe_int (nomark _))))) (pss_one (ps_expr (pe_bm PySem.F.plainAttrs_list PySem.F.slot_list_append PySem.F.type_list_append mt_append (pv 6) (pa_cons (pe_tup (pa_cons (pe_callB (call_min2 rfl) (by rfl) mMin boot_min (pa_cons (pe_ix ix_list (pv 3) (pv 7) (fun _ _ => rfl)) (pa_cons (pv 8) pa_nil))) (pa_cons (pe_callB (call_max2 rfl) (by rfl) mMax boot_max (pa_cons (pe_ix ix_list (pv 3) (pv 7) (fun _ _ => rfl)) (pa_cons (pv 8) pa_nil))) pa_nil))) pa_nil)))) pss_nil))))
      (pss_one (ps_ret (pe_tup (pa_cons (pv 2) (pa_cons (pe_callB (cr_sortT (d := 2) (B := 64) (by decide)) (by rfl) mSorted boot_sorted (pa_cons (pv 6) pa_nil)) pa_nil))))))))))), ?_⟩
    have src0 := hS.at
    have rgn : ∀ n : Nat, rgV 0 (n : Int) = (List.range n).map fun x : Nat => V.int (x : Int) := fun n => by
      unfold rgV
      rw [show ((n : Int) - 0).toNat = n by omega]
      exact List.map_congr_left fun i _ => congrArg V.int (by omega)
    -- size
    refine ⟨.ref s, rfl, .int (m : Int), rfl, s, (m : Int), B, rfl, hS, by omega, by omega, by omega, fun H1 r1 d1 r10 r11 => ⟨1, r1, rfl, rfl, .int (m : Int), rfl, ?_⟩⟩
    refine ⟨.ref s, rfl, .int (m : Int), rfl, (m : Int), 6, rfl, s, if (6 : Int) < (m : Int) then 6 else (m : Int), B + 1, rfl, d1.src, by omega, by split <;> omega, by split <;> omega, fun H2 r2 d2 r20 r21 => ⟨1, r2, rfl, rfl, show 3 ≤ sizeLine by decide, fun p1 hp1 => ?_⟩⟩
    have D3 := d1.trans d2
    have r21' : r2 < 40 := by split at r21 <;> omega
    have D4 := D3.ex (Ex.new (o := .lst [.int (1 + r1), .int (m : Int), .int (1 + r2)]) hp1)
    have np1 : p1 ≠ s := new_apart D3.src.at hp1
    refine ⟨.ref s, rfl, s, 3, B + 2, rfl, D4.src, by omega, by decide, by decide, fun H4 r4 d4 r40 r41 => ?_⟩
    have r22 : r2 < (m : Int) := by split at r21 <;> omega
    obtain ⟨n, hn, n1, n40, nm⟩ : ∃ n : Nat, ([.int (1 + r1), .int (m : Int), .int (1 + r2)] : List V)[r4.toNat]? = some (.int (n : Int)) ∧ 1 ≤ n ∧ n ≤ 40 ∧ n ≤ m := by
      obtain ⟨a1, rfl⟩ : ∃ a : Nat, r1 = (a : Int) := ⟨r1.toNat, by omega⟩
      obtain ⟨a2, rfl⟩ : ∃ a : Nat, r2 = (a : Int) := ⟨r2.toNat, by omega⟩
      have h4 : r4.toNat < 3 := by omega
      match r4.toNat, h4 with
      | 0, _ => exact ⟨1 + a1, rfl, by omega, by omega, by omega⟩
      | 1, _ => exact ⟨m, rfl, by omega, by omega, by omega⟩
      | 2, _ => exact ⟨1 + a2, rfl, by omega, by omega, by omega⟩
    obtain ⟨t4, rfl⟩ : ∃ a : Nat, r4 = (a : Int) := ⟨r4.toNat, by omega⟩
    refine ⟨p1, _, (t4 : Int), .int (n : Int), rfl, rfl, sq_of (d4.get np1 upd_same), atI_nat hn, ?_⟩
    have D7 := D4.trans d4
    -- names
    refine ⟨.ref s, rfl, .int (n : Int), rfl, (n : Int), rfl, RgOk.of_le (by omega) (by omega) (by omega) (by omega), fun L hL => ?_⟩
    have D8 := D7.ex (Ex.new (o := .lst (rgV 0 (n : Int))) hL)
    refine ⟨s, L, rgV 0 (n : Int), B + 3, rfl, D8.src, upd_same, new_apart D7.src.at hL, by rw [rgn, List.length_map, List.length_range]; omega, by omega, fun H7 La ys d7 hLa hys pm => ?_⟩
    rw [rgn, List.length_map, List.length_range] at d7
    rw [rgn] at pm D8 hLa
    obtain ⟨lab, rfl, pl⟩ := perm_nats pm
    have D9 := D8.trans d7
    have nLa : La ≠ s := fun e => by
      obtain ⟨o, ho⟩ := D8.src.at
      rw [e, ho] at hLa
      cases hLa
    -- style, gaps
    refine ⟨.ref s, rfl, s, 4, B + 3 + n, rfl, D9.src, by omega, by decide, by decide, fun H5 r5 d5 r50 r51 => ?_⟩
    refine ⟨show 3 ≤ sizeLine by decide, fun pg hpg => ?_⟩
    have D10 := (D9.trans d5).ex (Ex.new (o := .lst [.int 1, .int 12, .int 3]) hpg)
    have npg : pg ≠ s := new_apart (D9.trans d5).src.at hpg
    refine ⟨.ref s, rfl, s, 3, B + 4 + n, rfl, D10.src.mono (by omega), by omega, by decide, by decide, fun H6 r6 d6 r60 r61 => ?_⟩
    obtain ⟨gp, hgp, g1, g40⟩ : ∃ g : Nat, ([.int 1, .int 12, .int 3] : List V)[r6.toNat]? = some (.int (g : Int)) ∧ 1 ≤ g ∧ g ≤ 40 := by
      have h4 : r6.toNat < 3 := by omega
      match r6.toNat, h4 with
      | 0, _ => exact ⟨1, rfl, by omega, by omega⟩
      | 1, _ => exact ⟨12, rfl, by omega, by omega⟩
      | 2, _ => exact ⟨3, rfl, by omega, by omega⟩
    obtain ⟨t6, rfl⟩ : ∃ a : Nat, r6 = (a : Int) := ⟨r6.toNat, by omega⟩
    refine ⟨pg, _, (t6 : Int), .int (gp : Int), rfl, rfl, sq_of (d6.get npg upd_same), atI_nat hgp, ?_⟩
    have D11 := D10.trans d6
    have hysA : H6 La = some (.lst (lab.map fun x : Nat => V.int (x : Int))) := ((d5.ex (Ex.new (o := .lst [.int 1, .int 12, .int 3]) hpg)).trans d6).get nLa hys
    refine q_asgL (xs := []) (el_lst ea_nil (Nat.zero_le _)) fun Pa H8 hPa e8 hP8 => ?_
    have nPs : Pa ≠ s := new_apart D11.src.at hPa
    have nPL : La ≠ Pa := ne_of_none hysA hPa
    have D12 := D11.ex e8
    have hPH : H Pa = none := D11.none src0 hPa
    have ll := lab_len pl
    have labAt : ∀ {j : Nat}, j < n → (lab.map fun x : Nat => V.int (x : Int))[j]? = some (.int ((lab.getD j 0 : Nat) : Int)) := fun {j} hj => by
      rw [List.getElem?_map, List.getD_eq_getElem?_getD, List.getElem?_eq_getElem (by omega)]
      rfl
    refine q_forR2 (lo := 1) (n := (n : Int)) (ea_cons ev_c (ea_cons (ev_var rfl) ea_nil)) ⟨by omega, by omega, by omega, by omega⟩
      (fun i σ' H' => ∃ (ks : List Pr) (xs : List V) (y8 y9 : Option V), σ' = [some (.ref s), some (.int (m : Int)), some (.int (n : Int)), some (.ref La), some (.int r5), some (.int (gp : Int)), some (.ref Pa), y8, y9] ∧ H' La = some (.lst (lab.map fun x : Nat => V.int (x : Int))) ∧
        H' Pa = some (.lst xs) ∧ PrsV (hide s H') xs (ks.map (edgeOf lab)) ∧ (∀ p ∈ ks, p.1 < p.2 ∧ p.2 < 1 + i ∧ p.2 < n) ∧ (ks.Pairwise fun p q => p.2 < q.2) ∧ ks.length ≤ i ∧ i ≤ 40 ∧ Drew s (B + 6 + n + 3 * i) H H')
      (fun H9 e9 => ⟨[], [], _, _, rfl, e9 _ _ (e8 _ _ hysA), e9 _ _ hP8, .nil, (fun p hp => nomatch hp), .nil, Nat.le_refl _, Nat.zero_le _, (D12.ex e9).mono (by omega)⟩) ?_ ?_
    · rintro i σ' H9 hi ⟨ks, xs, y8, y9, rfl, hLa9, hPa9, prs, kin, inc, kl, i40, dr⟩
      have hk : (1 : Int) + (i : Int) = ((1 + i : Nat) : Int) := by omega
      rw [hk]
      have lt_n : 1 + i < n := by omega
      -- parent
      refine ⟨.ref La, rfl, .int ((1 + i : Nat) : Int), rfl, ((1 + i : Nat) : Int), 1, rfl, rfl, ?_⟩
      refine ⟨.ref s, rfl, .int ((1 + i : Nat) : Int), rfl, s, ((1 + i : Nat) : Int), B + 6 + n + 3 * i, rfl, dr.src, by omega, by omega, by omega, fun Ha ra da ra0 ra1 => ?_⟩
      refine ⟨.int ((1 + i : Nat) : Int), rfl, ((1 + i : Nat) : Int), 1, rfl, rfl, .ref s, rfl, s, 3, _, rfl, da.src, by omega, by decide, by decide, fun Hb rb db rb0 rb1 => ?_⟩
      refine ⟨_, rb, rfl, rfl, 0, _, rfl, show 4 ≤ sizeLine by decide, fun p4 hp4 => ?_⟩
      obtain ⟨ah, hah, ahlt⟩ : ∃ a : Nat, ([.int (((1 + i : Nat) : Int) - 1), .int 0, .int ra, .int (if ((1 + i : Nat) : Int) - 1 - rb > 0 then ((1 + i : Nat) : Int) - 1 - rb else 0)] : List V)[r5.toNat]? = some (.int (a : Int)) ∧ a < 1 + i := by
        have h4 : r5.toNat < 4 := by omega
        match r5.toNat, h4 with
        | 0, _ => exact ⟨i, congrArg some (congrArg V.int (show ((1 + i : Nat) : Int) - 1 = (i : Int) by omega)), by omega⟩
        | 1, _ => exact ⟨0, rfl, by omega⟩
        | 2, _ => exact ⟨ra.toNat, congrArg some (congrArg V.int (show ra = (ra.toNat : Int) by omega)), by omega⟩
        | 3, _ =>
          by_cases hc : ((1 + i : Nat) : Int) - 1 - rb > 0
          · refine ⟨(((1 + i : Nat) : Int) - 1 - rb).toNat, ?_, by omega⟩
            rw [if_pos hc]
            exact congrArg some (congrArg V.int (by omega))
          · refine ⟨0, ?_, by omega⟩
            rw [if_neg hc]
            rfl
      have e4 : Ex Hb _ := Ex.new (o := .lst [.int (((1 + i : Nat) : Int) - 1), .int 0, .int ra, .int (if ((1 + i : Nat) : Int) - 1 - rb > 0 then ((1 + i : Nat) : Int) - 1 - rb else 0)]) hp4
      have da' := (da.trans db).ex e4
      have hLa' := da'.get nLa hLa9
      refine ⟨.int r5, rfl, p4, _, r5, .int (ah : Int), rfl, rfl, sq_of upd_same, by rw [show r5 = (r5.toNat : Int) by omega]; exact atI_nat hah, ?_⟩
      refine ⟨La, _, (ah : Int), .int ((lab.getD ah 0 : Nat) : Int), rfl, rfl, sq_of hLa', atI_nat (labAt (by omega)), ?_⟩
      dsimp only [gName]
      refine drawn_if (s := s) (C := B + 6 + n + 3 * (i + 1)) (fun Q' q1 q2 => ?_) (fun Hc dc => ?_) (fun Hc dc => ?_)
      · refine ⟨.int (gp : Int), rfl, rfl, _, rfl, ite2 (fun _ => q1 _ (Drew.refl (da'.src.mono (by omega)))) (fun _ => ?_)⟩
        refine ⟨.ref s, rfl, .int (gp : Int), rfl, s, (gp : Int), _, rfl, da'.src, by omega, by omega, by omega, fun Hd rd dd rd0 rd1 => ⟨rd, 0, rfl, rfl, ?_⟩⟩
        refine ⟨_, rfl, ?_⟩
        cases hz : decide ((0 : Int) < rd) with
        | true => exact q1 _ (dd.mono (by omega))
        | false => exact q2 _ (dd.mono (by omega))
      · have dF := da'.trans dc
        have hLa10 := dF.get nLa hLa9
        have hPa10 := dF.get nPs hPa9
        have e1 : edgeOf lab (ah, 1 + i) = (min (lab.getD ah 0) (lab.getD (1 + i) 0), max (lab.getD ah 0) (lab.getD (1 + i) 0)) := rfl
        have m1 : (V.int (if ((lab.getD ah 0 : Nat) : Int) < ((lab.getD (1 + i) 0 : Nat) : Int) then ((lab.getD ah 0 : Nat) : Int) else ((lab.getD (1 + i) 0 : Nat) : Int))) = V.int (((edgeOf lab (ah, 1 + i)).1 : Nat) : Int) := by
          rw [e1]
          refine congrArg V.int ?_
          show _ = ((min (lab.getD ah 0) (lab.getD (1 + i) 0) : Nat) : Int)
          split <;> omega
        have m2 : (V.int (if ((lab.getD ah 0 : Nat) : Int) > ((lab.getD (1 + i) 0 : Nat) : Int) then ((lab.getD ah 0 : Nat) : Int) else ((lab.getD (1 + i) 0 : Nat) : Int))) = V.int (((edgeOf lab (ah, 1 + i)).2 : Nat) : Int) := by
          rw [e1]
          refine congrArg V.int ?_
          show _ = ((max (lab.getD ah 0) (lab.getD (1 + i) 0) : Nat) : Int)
          split <;> omega
        have exA : ∀ {σ : L2.St} {j c : Nat}, σ[3]? = some (some (.ref La)) → σ[c]? = some (some (.int (j : Int))) → j < n → Ev (tOp (rIxL K) (tVar 3) (tVar c)) σ Hc (.int ((lab.getD j 0 : Nat) : Int)) := fun {σ j c} g6 g7 hj => ev_op (ev_var g6) (ev_var g7) (rv_ixL (sq_of hLa10) (atI_nat (labAt hj)))
        refine s_appU (ys := [.int (((edgeOf lab (ah, 1 + i)).1 : Nat) : Int), .int (((edgeOf lab (ah, 1 + i)).2 : Nat) : Int)]) hPa10 (ev_var rfl) (eu_tup (ea_cons (ev_is (ev_min (exA rfl rfl (by omega)) (ev_var rfl)) m1) (ea_cons (ev_is (ev_max (exA rfl rfl (by omega)) (ev_var rfl)) m2) ea_nil)) (by show 2 ≤ 100000; decide)) (by have := prs.length; rw [List.length_map] at this; omega) fun pt Hd hpt ed hptd => ?_
        have npt : pt ≠ s := new_apart dF.src.at hpt
        have dG := dF.ex ed
        have nptPa : Pa ≠ pt := ne_of_none hPa10 hpt
        refine ⟨ks ++ [(ah, 1 + i)], xs ++ [.ref pt], _, _, rfl, ?_, upd_same, ?_, ?_, ?_, ?_, by omega, ?_⟩
        · rw [upd_ne nPL]
          exact ed _ _ hLa10
        · rw [List.map_append]
          have p1 : PrsV (hide s Hd) (xs ++ [.ref pt]) (ks.map (edgeOf lab) ++ [edgeOf lab (ah, 1 + i)]) := (prs.ex dG.kept).append (.cons ⟨pt, rfl, by rw [hide_ne npt]; exact hptd⟩ .nil)
          exact PrsV.put p1 nPs (ed _ _ hPa10)
        · intro p hp
          rcases List.mem_append.mp hp with hp | hp
          · have := kin p hp
            omega
          · rw [List.mem_singleton.mp hp]
            exact ⟨ahlt, by show 1 + i < 1 + (i + 1); omega, lt_n⟩
        · refine List.pairwise_append.mpr ⟨inc, List.pairwise_singleton _ _, fun p hp q hq => ?_⟩
          rw [List.mem_singleton.mp hq]
          exact (kin p hp).2.1
        · rw [List.length_append]
          show ks.length + 1 ≤ i + 1
          omega
        · exact (dr.trans dG).mut src0 hPH
      · have dF := da'.trans dc
        exact ⟨ks, xs, _, _, rfl, dF.get nLa hLa9, dF.get nPs hPa9, prs.ex dF.kept, fun p hp => by have := kin p hp; omega, inc, by omega, by omega, dr.trans dF⟩
    · rintro σ' H9 ⟨ks, xs, y8, y9, rfl, hLa9, hPa9, prs, kin, inc, kl, i40, dr⟩
      obtain ⟨g1, g2, g3⟩ := drawn_edges pl (fun p hp => ⟨(kin p hp).1, (kin p hp).2.2⟩) inc
      have xl := prs.length
      rw [List.length_map] at xl
      have small : ∀ e ∈ ks.map (edgeOf lab), e.1 < 64 ∧ e.2 < 64 := fun e he => by have := g1 e he; omega
      refine ⟨.int (n : Int), rfl, .ref Pa, rfl, Pa, xs, rfl, sq_of hPa9, by omega, fun x hx => ?_, fun ys p pm pw hp => ⟨show 2 ≤ sizeLine by decide, fun t ht => ?_⟩⟩
      · obtain ⟨j, hj⟩ := List.mem_iff_getElem?.mp hx
        obtain ⟨e, he, tt, rfl, htt⟩ := prs.get hj
        have se := small e (List.mem_of_getElem? he)
        exact ⟨[(e.1 : Int), (e.2 : Int)], ⟨tt, rfl, st_of (hide_of htt).2⟩, rfl, fun m hm => by
          rcases List.mem_cons.mp hm with rfl | hm
          · omega
          · rw [List.mem_singleton.mp hm]
            omega⟩
      · obtain ⟨fs, pf, pmf⟩ := prs.perm pm
        have sf : fs.Pairwise fun e f => (e.1 : Int) * 64 + (e.2 : Int) ≤ (f.1 : Int) * 64 + (f.2 : Int) := PrsV.pairwise pf pw fun v u e f r pv pu => by
          obtain ⟨tv, rfl, hv⟩ := pv
          obtain ⟨tu, rfl, hu⟩ := pu
          have := r [(e.1 : Int), (e.2 : Int)] [(f.1 : Int), (f.2 : Int)] ⟨tv, rfl, st_of (hide_of hv).2⟩ ⟨tu, rfl, st_of (hide_of hu).2⟩
          rwa [code_pair, code_pair] at this
        have np : p ≠ s := new_apart dr.src.at hp
        have dS := dr.ex (Ex.new (o := .lst ys) hp)
        have nt : t ≠ s := new_apart dS.src.at ht
        have eT := Ex.new (o := .tup [.int (n : Int), .ref p]) ht
        have dT := dS.ex eT
        refine q _ (.ref t) n fs (dT.mono (by omega)) ⟨t, p, ys, rfl, by rw [hide_ne nt]; exact upd_same, by rw [hide_ne np]; exact eT _ _ upd_same, (pf.ex (hide_ex (Ex.new hp))).ex (hide_ex eT)⟩ ⟨⟨fun e he => g1 e (pmf.mem_iff.mp he), asc_strict (pmf.nodup_iff.mpr g2) (fun e he => small e (pmf.mem_iff.mp he)) sf, g3.perm pmf⟩, n1, n40, by rw [pmf.length_eq, List.length_map]; omega⟩ nm (by rw [pmf.length_eq, List.length_map]; omega)
end
end K14
/-! data of bounded text and depth; sorted texts; permutations -/
namespace Os
open PySem PySem.Spec PyProof.Rows L2 Evl
theorem listText_len (ts : List Str) : (listText ts).length ≤ 2 + piled ts := by
  cases ts with
  | nil => decide
  | cons t ts =>
    unfold listText
    show (textFrom 1 ((("[" : Str) ++ ("" : Str)) ++ t) ts ++ ("]" : Str)).length ≤ _
    rw [strLen_append, textFrom_length_pos ts 1 _ (by decide), strLen_append, strLen_append, piled_cons]
    have e1 : ("[" : Str).length = 1 := by decide
    have e2 : ("" : Str).length = 0 := by decide
    have e3 : ("]" : Str).length = 1 := by decide
    omega
theorem tupleText_len (ts : List Str) : (tupleText ts).length ≤ 3 + piled ts := by
  unfold tupleText
  rw [strLen_append, strLen_append]
  have e1 : ("(" : Str).length = 1 := by decide
  have e2 : ((if ts.length == 1 then ",)" else ")" : String) : Str).length ≤ 2 := by split <;> decide
  cases ts with
  | nil => decide
  | cons t ts =>
    have := join_length_add (t :: ts) (fun h => nomatch h)
    omega
theorem str_codes {z : Str} (h : PyData.strOk z = true) : ∀ c ∈ z.cps.toList, c < 1114112 := by
  unfold PyData.strOk at h
  rw [← Array.all_toList, List.all_eq_true] at h
  exact fun c hc => of_decide_eq_true (h c hc)
theorem str_of_codes {z : Str} (h : ∀ c ∈ z.cps.toList, c < 1114112) : PyData.strOk z = true := by
  unfold PyData.strOk
  rw [← Array.all_toList, List.all_eq_true]
  exact fun c hc => decide_eq_true (h c hc)
theorem int_shown : ∀ i, i < 64 → (PyData.int ((i : Nat) : Int)).shown.length ≤ 100 := by decide +kernel
theorem dts_strs {H : Hp} : ∀ zs : List Str, Dts H (zs.map V.str) (zs.map PyData.str)
  | [] => .nil
  | z :: zs => .cons (.str z) (dts_strs zs)

/-- data of ints, texts, lists and tuples -/
structure Sh (n : Nat) (d : PyData) : Prop where
  lay : d.canLay0 = true
  deep : d.depth ≤ n
theorem sh_all {n : Nat} : ∀ {ds : List PyData}, (∀ d ∈ ds, Sh n d) → PyData.canLayAll0 ds = true ∧ PyData.depthAll ds ≤ n
  | [], _ => ⟨rfl, Nat.zero_le _⟩
  | d :: ds, h => by
    obtain ⟨h1, h2⟩ := sh_all (ds := ds) fun x hx => h x (List.mem_cons_of_mem _ hx)
    have i := h d List.mem_cons_self
    refine ⟨?_, ?_⟩
    · show (d.canLay0 && PyData.canLayAll0 ds) = true
      rw [i.lay, h1]
      rfl
    · show max d.depth (PyData.depthAll ds) ≤ n
      have := i.deep
      omega
theorem Sh.lst {n : Nat} {ds : List PyData} (h : ∀ d ∈ ds, Sh n d) : Sh (n + 1) (.list ds) := ⟨(sh_all h).1, Nat.succ_le_succ (sh_all h).2⟩
theorem Sh.tup {n : Nat} {ds : List PyData} (h : ∀ d ∈ ds, Sh n d) : Sh (n + 1) (.tuple ds) := ⟨(sh_all h).1, Nat.succ_le_succ (sh_all h).2⟩
theorem Sh.int (n : Nat) (i : Int) : Sh n (.int i) := ⟨rfl, Nat.zero_le _⟩
theorem Sh.str (n : Nat) {z : Str} (h : PyData.strOk z = true) : Sh n (.str z) := ⟨h, Nat.zero_le _⟩
theorem Sh.mono {m n : Nat} {d : PyData} (h : Sh m d) (le : m ≤ n) : Sh n d := ⟨h.lay, Nat.le_trans h.deep le⟩
theorem Sh.shaped {n : Nat} {d : PyData} (h : Sh n d) (le : n ≤ 64) : SeqAt.shaped d = true := by
  show (d.canLay0 && decide (d.depth ≤ 64)) = true
  rw [h.lay, decide_eq_true (Nat.le_trans h.deep le)]
  rfl
theorem Sh.refl {n : Nat} {d : PyData} (h : Sh n d) : PyData.eqv d d = true := SeqAt.eqv_refl d h.lay
/-- data of bounded text -/
structure Lim (L D : Nat) (d : PyData) : Prop where
  long : d.shown.length ≤ L
  deep : d.depth ≤ D
  show' : d.showable = true
  flat : d.hasDict = false
theorem Lim.fit {L D : Nat} {d : PyData} (h : Lim L D d) (h1 : L ≤ 1000000) (h2 : D ≤ 40) : Fit sizeLine d := ⟨Nat.le_trans h.long (Nat.le_trans h1 (by decide)), Nat.le_trans h.deep h2, h.show', h.flat⟩
theorem Lim.mono {L D L' D' : Nat} {d : PyData} (h : Lim L D d) (h1 : L ≤ L') (h2 : D ≤ D') : Lim L' D' d := ⟨Nat.le_trans h.long h1, Nat.le_trans h.deep h2, h.show', h.flat⟩
theorem lim_all {L D : Nat} : ∀ {ds : List PyData}, (∀ d ∈ ds, Lim L D d) → piled (PyData.shownAll ds) ≤ (L + 2) * ds.length ∧ PyData.depthAll ds ≤ D ∧ PyData.showableAll ds = true ∧ PyData.hasDictAll ds = false
  | [], _ => ⟨Nat.le_refl _, Nat.zero_le _, rfl, rfl⟩
  | d :: ds, h => by
    obtain ⟨h1, h2, h3, h4⟩ := lim_all (ds := ds) fun x hx => h x (List.mem_cons_of_mem _ hx)
    have i := h d List.mem_cons_self
    refine ⟨?_, ?_, ?_, ?_⟩
    · show piled (d.shown :: PyData.shownAll ds) ≤ (L + 2) * (ds.length + 1)
      rw [piled_cons, Nat.mul_succ]
      have := i.long
      omega
    · show max d.depth (PyData.depthAll ds) ≤ D
      have := i.deep
      omega
    · show (d.showable && PyData.showableAll ds) = true
      rw [i.show', h3]
      rfl
    · show (d.hasDict || PyData.hasDictAll ds) = false
      rw [i.flat, h4]
      rfl
theorem Lim.lst {L D m : Nat} {ds : List PyData} (h : ∀ d ∈ ds, Lim L D d) (hm : ds.length ≤ m) : Lim (3 + (L + 2) * m) (D + 1) (.list ds) := by
  obtain ⟨h1, h2, h3, h4⟩ := lim_all h
  have := Nat.mul_le_mul_left (L + 2) hm
  refine ⟨?_, Nat.succ_le_succ h2, h3, h4⟩
  show (listText (PyData.shownAll ds)).length ≤ _
  have := listText_len (PyData.shownAll ds)
  omega
theorem Lim.tup {L D m : Nat} {ds : List PyData} (h : ∀ d ∈ ds, Lim L D d) (hm : ds.length ≤ m) : Lim (3 + (L + 2) * m) (D + 1) (.tuple ds) := by
  obtain ⟨h1, h2, h3, h4⟩ := lim_all h
  have := Nat.mul_le_mul_left (L + 2) hm
  refine ⟨?_, Nat.succ_le_succ h2, h3, h4⟩
  show (tupleText (PyData.shownAll ds)).length ≤ _
  have := tupleText_len (PyData.shownAll ds)
  omega
theorem Lim.str {z : Str} (h : z.length ≤ 8) (ok : PyData.strOk z = true) : Lim 100 0 (.str z) := by
  refine ⟨?_, Nat.zero_le _, rfl, rfl⟩
  show (reprText z).length ≤ _
  have := StrLaws.reprText_len z fun c hc => Nat.lt_trans (str_codes ok c hc) (by decide)
  omega
theorem Lim.int {i : Nat} (h : i < 64) : Lim 100 0 (.int (i : Int)) := by
  refine ⟨int_shown i h, Nat.zero_le _, ?_, rfl⟩
  show decide (((i : Int)).natAbs.log2 < 1920) = true
  refine decide_eq_true ?_
  have : ((i : Int)).natAbs = i := by omega
  rw [this]
  exact Nat.lt_of_le_of_lt (Nat.log2_le_self i) (by omega)
/-! ### sorted texts -/
theorem rising_pair : ∀ {p : Str} {l : List Str}, risingS p l = true → (p :: l).Pairwise fun a b => ¬ b.cps.toList < a.cps.toList
  | p, [], _ => List.pairwise_singleton _ _
  | p, x :: r, h => by
    have h' : (!ltCps x.cps.toList p.cps.toList && risingS x r) = true := h
    rw [Bool.and_eq_true, ltCps_eq, Bool.not_eq_true', decide_eq_false_iff_not] at h'
    have ih := rising_pair h'.2
    refine List.pairwise_cons.mpr ⟨fun b hb => ?_, ih⟩
    rcases List.mem_cons.mp hb with rfl | hb
    · exact h'.1
    · have h2 := List.rel_of_pairwise_cons ih hb
      exact fun z => h2 (Decidable.byContradiction fun n => h'.1 (by
        exact List.lt_of_le_of_lt (List.not_lt.mp n) z))
theorem sortedS_pair {l : List Str} (h : sortedS l = true) : l.Pairwise fun a b => ¬ b.cps.toList < a.cps.toList := by
  cases l with
  | nil => exact .nil
  | cons x r => exact rising_pair h
theorem sorted_same {l m : List Str} (p : l.Perm m) (h1 : sortedS l = true) (h2 : sortedS m = true) : l = m :=
  List.Perm.eq_of_pairwise (fun a b _ _ x y => by
    have e : a.cps.toList = b.cps.toList := List.le_antisymm (List.not_lt.mp x) (List.not_lt.mp y)
    cases a
    cases b
    exact congrArg Str.mk (Array.ext' e)) (sortedS_pair h1) (sortedS_pair h2) p
/-! ### swaps -/
def swp (zs : List Str) (e : Pr) : List Str := (zs.set e.1 (zs.getD e.2 ⟨#[]⟩)).set e.2 (zs.getD e.1 ⟨#[]⟩)
theorem swp_len (zs : List Str) (e : Pr) : (swp zs e).length = zs.length := by
  unfold swp
  rw [List.length_set, List.length_set]
theorem swp_perm {zs : List Str} {e : Pr} (h1 : e.1 < zs.length) (h2 : e.2 < zs.length) : (swp zs e).Perm zs := by
  unfold swp
  rw [List.getD_eq_getElem?_getD, List.getD_eq_getElem?_getD, List.getElem?_eq_getElem h1, List.getElem?_eq_getElem h2]
  exact List.set_set_perm h1 h2
def swps (zs : List Str) (es : List Pr) : List Str := es.foldl swp zs
theorem swps_perm {n : Nat} : ∀ {es : List Pr} {zs : List Str}, zs.length = n → (∀ e ∈ es, e.1 < n ∧ e.2 < n) → (swps zs es).Perm zs
  | [], _, _, _ => List.Perm.refl _
  | e :: r, zs, hl, h => by
    obtain ⟨a, b⟩ := h e List.mem_cons_self
    exact (swps_perm (by rw [swp_len, hl]) fun f hf => h f (List.mem_cons_of_mem _ hf)).trans (swp_perm (by omega) (by omega))
/-! ### two ascending lists of pairs with the same entries -/
theorem pairs_same {l m : List Pr} (p : l.Perm m) (h1 : l.Pairwise fun e f => (e.1 : Int) * 64 + (e.2 : Int) ≤ (f.1 : Int) * 64 + (f.2 : Int)) (h2 : m.Pairwise fun e f => ltP e f = true) (small : ∀ e ∈ m, e.1 < 64 ∧ e.2 < 64) : l = m := by
  refine List.Perm.eq_of_pairwise (le := fun e f => (e.1 : Int) * 64 + (e.2 : Int) ≤ (f.1 : Int) * 64 + (f.2 : Int)) (fun a b ha hb x y => ?_) h1 (List.Pairwise.imp_of_mem (fun {a b} ha hb h => ?_) h2) p
  · have sa := small a (p.mem_iff.mp ha)
    have sb := small b hb
    exact Prod.ext (by omega) (by omega)
  · have sa := small a ha
    have sb := small b hb
    rw [ltP_iff] at h
    omega
end Os
/-! the cycles of a permutation -/
namespace Os
open PySem PySem.Spec PyProof.Rows L2 Evl
theorem few_below : ∀ (n : Nat) {l : List Nat}, l.Nodup → (∀ x ∈ l, x < n) → l.length ≤ n
  | 0, l, _, h => by
    cases l with
    | nil => exact Nat.le_refl _
    | cons x r => exact absurd (h x List.mem_cons_self) (Nat.not_lt_zero x)
  | n + 1, l, nd, h => by
    have h1 : ∀ x ∈ l.erase n, x < n := fun x hx => by
      have m := List.mem_of_mem_erase hx
      have := h x m
      have ne : x ≠ n := fun e => by
        rw [e] at hx
        exact List.Nodup.not_mem_erase nd hx
      omega
    have ih := few_below n (nd.erase n) h1
    rw [List.length_erase] at ih
    split at ih <;> omega
def itr (f : List Nat) : Nat → Nat → Nat
  | 0, x => x
  | k + 1, x => f.getD (itr f k x) 0
/-- f is a permutation of the places below n -/
structure IsPerm (f : List Nat) (n : Nat) : Prop where
  len : f.length = n
  lt : ∀ i, i < n → f.getD i 0 < n
  inj : ∀ i j, i < n → j < n → f.getD i 0 = f.getD j 0 → i = j
section
variable {f : List Nat} {n : Nat}
theorem itr_lt (p : IsPerm f n) : ∀ (k : Nat) {x : Nat}, x < n → itr f k x < n
  | 0, _, h => h
  | k + 1, _, h => p.lt _ (itr_lt p k h)
theorem itr_back (p : IsPerm f n) {x : Nat} (hx : x < n) : ∀ (i j : Nat), itr f i x = itr f (i + j) x → x = itr f j x
  | 0, j, e => by rw [Nat.zero_add] at e; exact e
  | i + 1, j, e => by
    rw [show i + 1 + j = (i + j) + 1 by omega] at e
    exact itr_back p hx i j (p.inj _ _ (itr_lt p i hx) (itr_lt p (i + j) hx) e)
theorem itr_returns (p : IsPerm f n) {x : Nat} (hx : x < n) : ∃ j, j < n ∧ itr f (j + 1) x = x := Decidable.byContradiction fun no => by
  have nd : ((List.range (n + 1)).map fun i => itr f i x).Nodup := by
    unfold List.Nodup
    rw [List.pairwise_map]
    refine List.Pairwise.imp_of_mem (fun {i j} hi hj lt e => ?_) List.pairwise_lt_range
    have hj' := List.mem_range.mp hj
    have b := itr_back p hx i (j - i) (by rw [show i + (j - i) = j by omega]; exact e)
    exact no ⟨j - i - 1, by omega, by rw [show j - i - 1 + 1 = j - i by omega]; exact b.symm⟩
  have := few_below n nd fun y hy => by
    obtain ⟨i, _, rfl⟩ := List.mem_map.mp hy
    exact itr_lt p i hx
  rw [List.length_map, List.length_range] at this
  omega
def per (f : List Nat) (n x : Nat) : Nat := ((List.range n).find? fun j => itr f (j + 1) x == x).getD 0 + 1
theorem per_ok (p : IsPerm f n) {x : Nat} (hx : x < n) : 1 ≤ per f n x ∧ per f n x ≤ n ∧ itr f (per f n x) x = x ∧ ∀ j, 1 ≤ j → j < per f n x → itr f j x ≠ x := by
  obtain ⟨j, hj, e⟩ := itr_returns p hx
  unfold per
  cases hf : (List.range n).find? fun j => itr f (j + 1) x == x with
  | none => exact absurd (List.find?_eq_none.mp hf j (List.mem_range.mpr hj)) (by rw [e]; simp)
  | some m =>
    obtain ⟨h1, h2, h3⟩ := List.find?_range_eq_some.mp hf
    have hm := List.mem_range.mp h2
    show 1 ≤ m + 1 ∧ m + 1 ≤ n ∧ itr f (m + 1) x = x ∧ _
    refine ⟨by omega, by omega, by simpa using h1, fun j j1 jm z => ?_⟩
    have jm' : j < m + 1 := jm
    have := h3 (j - 1) (by omega)
    rw [show j - 1 + 1 = j by omega, z] at this
    simp at this
/-- the first k places on x's way -/
def way (f : List Nat) (k x : Nat) : List Nat := (List.range k).map fun i => itr f i x
theorem way_succ (f : List Nat) (k x : Nat) : way f (k + 1) x = way f k x ++ [itr f k x] := by
  unfold way
  rw [List.range_succ, List.map_append]
  rfl
theorem way_len (f : List Nat) (k x : Nat) : (way f k x).length = k := by
  unfold way
  rw [List.length_map, List.length_range]
def ringOf (f : List Nat) (n x : Nat) : List Nat := way f (per f n x) x
def lead (f : List Nat) (n x : Nat) : Bool := decide (∀ y ∈ ringOf f n x, x ≤ y)
def cycles (f : List Nat) (n : Nat) : List (List Nat) := ((List.range n).filter (lead f n)).map (ringOf f n)
theorem ring_head (p : IsPerm f n) {x : Nat} (hx : x < n) : (ringOf f n x)[0]? = some x ∧ x ∈ ringOf f n x := by
  have h := (per_ok p hx).1
  have e : (ringOf f n x)[0]? = some x := by
    unfold ringOf way
    rw [List.getElem?_map, List.getElem?_range (by omega)]
    rfl
  exact ⟨e, List.mem_of_getElem? e⟩
theorem lead_min (p : IsPerm f n) {x m : Nat} (hx : x < n) (hm : m ∈ ringOf f n x) (le : ∀ y ∈ ringOf f n x, m ≤ y) : decide (x = m) = lead f n x := by
  unfold lead
  refine decide_eq_decide.mpr ⟨fun e => e ▸ le, fun h => ?_⟩
  have := h m hm
  have := le x (ring_head p hx).2
  omega
theorem ring_lt (p : IsPerm f n) {x y : Nat} (hx : x < n) (hy : y ∈ ringOf f n x) : y < n := by
  obtain ⟨i, _, rfl⟩ := List.mem_map.mp hy
  exact itr_lt p i hx
theorem ring_len (p : IsPerm f n) {x : Nat} (hx : x < n) : (ringOf f n x).length ≤ n := by
  unfold ringOf
  rw [way_len]
  exact (per_ok p hx).2.1
/-- place 0 leads the first cycle -/
theorem lead_zero : lead f n 0 = true := decide_eq_true fun _ _ => Nat.zero_le _
end
/-! ### where the texts went -/
def went (zs us : List Str) : List Nat := zs.map fun z => us.idxOf z
theorem went_perm {zs us : List Str} {n : Nat} (p : us.Perm zs) (nd : zs.Nodup) (hl : zs.length = n) : IsPerm (went zs us) n := by
  have atW : ∀ {i : Nat} (h : i < zs.length), (went zs us).getD i 0 = us.idxOf zs[i] := fun {i} h => by
    unfold went
    rw [List.getD_eq_getElem?_getD, List.getElem?_map, List.getElem?_eq_getElem h]
    rfl
  have inU : ∀ {i : Nat} (h : i < zs.length), us.idxOf zs[i] < us.length := fun {i} h => List.idxOf_lt_length_iff.mpr (p.mem_iff.mpr (List.getElem_mem h))
  refine ⟨by unfold went; rw [List.length_map, hl], fun i hi => ?_, fun i j hi hj e => ?_⟩
  · rw [atW (by omega)]
    have := inU (i := i) (by omega)
    rw [p.length_eq] at this
    omega
  · rw [atW (by omega), atW (by omega)] at e
    have e1 := List.getElem_idxOf (inU (i := i) (by omega))
    have e2 := List.getElem_idxOf (inU (i := j) (by omega))
    have e3 : zs[i]'(by omega) = zs[j]'(by omega) := by
      rw [← e1, ← e2]
      simp only [e]
    refine Decidable.byContradiction fun ne => ?_
    rcases Nat.lt_or_gt_of_ne ne with h | h
    · exact List.pairwise_iff_getElem.mp nd i j _ _ h e3
    · exact List.pairwise_iff_getElem.mp nd j i _ _ h e3.symm
end Os
namespace K14
open PySem PySem.Spec PyProof.Rows L2 Os Evl
abbrev sChkF : Stmt := topS 12
theorem scChkF : FnScope ["forest"] ["forest"] (defScope sChkF) := ⟨rfl, rfl, rfl, by decide +kernel, rfl, by decide +kernel, by decide +kernel⟩
abbrev sSame : Stmt := topS 29
theorem scSame : FnScope ["found", "due", "one", "two"] ["found", "due"] (defScope sSame) := ⟨rfl, rfl, rfl, by decide +kernel, rfl, by decide +kernel, by decide +kernel⟩

abbrev nats (l : List Nat) : List V := l.map fun x : Nat => V.int (x : Int)
theorem nats_ints (l : List Nat) : (l.map fun x : Nat => (x : Int)).map V.int = nats l := by
  rw [List.map_map]
  rfl
theorem hide_up {s : Addr} {H : Hp} : Ex (hide s H) H := hide_same
abbrev natsD (l : List Nat) : List PyData := l.map fun x : Nat => .int (x : Int)
theorem dts_nats {G : Hp} : ∀ c : List Nat, Dts G (nats c) (natsD c)
  | [] => .nil
  | x :: c => .cons (.int _) (dts_nats c)
theorem sh_nats (n : Nat) (c : List Nat) : Sh (n + 1) (.list (natsD c)) := .lst fun d hd => by
  obtain ⟨x, _, rfl⟩ := List.mem_map.mp hd
  exact .int n _
theorem eqD_of {K : PySem.W.Frag} {H : Hp} {x y : V} {d : PyData} {n : Nat} {Q : VK} (hx : Dt H x d) (hy : Dt H y d) (sh : Sh n d) (le : n ≤ 64) (q : Q (.bl true) H) : rEqD K x y H Q := by
  refine ⟨d, d, hx.dp, hy.dp, sh.shaped le, sh.shaped le, ?_⟩
  rw [sh.refl]
  exact q
theorem sh_prs (es : List Pr) : Sh 2 (.list (es.map Os.prD)) := .lst fun d hd => by
  obtain ⟨e, _, rfl⟩ := List.mem_map.mp hd
  refine .tup fun x hx => ?_
  rcases List.mem_cons.mp hx with rfl | hx
  · exact .int 0 _
  · rw [List.mem_singleton.mp hx]
    exact .int 0 _
section
variable {K : PySem.W.Frag} {σ : L2.St} {H : Hp} {ta : TE}
theorem ev_len' {p : Addr} {xs : List V} (ha : Ev ta σ H (.ref p)) (h : H p = some (.lst xs)) :
    Ev (tCB (fun xs H Q => ∃ p ys, xs = [V.ref p] ∧ (SqL K H p ys ∨ SqT K H p ys) ∧ Q (.int ys.length) H) (tCons ta tNil)) σ H (.int (xs.length : Int)) := ev_len ha (sq_of h)
end
section
variable {P : Program} {w : World} {K : PySem.W.Frag} {mg : Str → Option Value} {base : Heap}
def spChkF : Sp := fun vs H Q _ => ∃ (v : V) (n : Nat) (es : List Pr), vs = [v] ∧ GraphV H v n es ∧ IsForest n es ∧ ∀ H', Ex H H' → Q .non H'
theorem ok_chkF {f fF : Addr} {fd fdF : FuncData} {k : Nat} (F : Fun K "check_forest" "check_forest" sChkF f fd)
    (GF : FnOk P w K mg base CX0 k fF fdF ["thing"] spForest) (FF : Fun K "is_forest" "is_forest" sForest fF fdF) (bF : Binds K fdF ["thing"] []) (gF : mg "is_forest" = some (.ref fF)) : FnOk P w K mg base CX0 (k + 1) f fd ["forest"] spChkF := by
  refine F.ok scChkF (fun vs H Q E h => ?_) (fun cdv A outer s H vs Q E hr h => ?_)
  · obtain ⟨v, n, es, rfl, _⟩ := h
    rfl
  · obtain ⟨v, n, es, rfl, hg, ok, q⟩ := h
    refine ⟨_, (pss_one (ps_if (pt_not (pt_val (pe_call GF hr (by rfl) gF FF.kp bF .nil pass0 (pa_cons (pv 0) pa_nil)))) pss_never pss_nil)), ?_⟩
    refine s_when (b := !true) (et_not (et_B (ev_sp (ea_cons (ev_var rfl) ea_nil) fun H1 e1 Q q => ⟨_, n, es, rfl, hg.ex e1, ok, q⟩))) (fun h => nomatch h) fun _ H1 e1 => q H1 e1
theorem walk_zipT {K : PySem.W.Frag} {a b : Addr} {xs ys : List V} {n : Nat} (hn : n = min xs.length ys.length) : Walk (RZ.ItzT K a b) n (fun H => SqT K H a xs ∧ SqT K H b ys) (YPair (fun i => xs[i]?) (fun i => ys[i]?)) := by
  subst hn
  refine ⟨fun i _ hi q => ?_, fun _ q => ⟨xs, ys, q.1, q.2, by omega⟩, fun i H v H' _ q y => ?_⟩
  · have h1 : i < xs.length := by omega
    have h2 : i < ys.length := by omega
    exact ⟨xs, ys, xs[i], ys[i], q.1, q.2, by simp [h1], by simp [h2]⟩
  · obtain ⟨T, x, z, h1, h2, h3, h4, h5⟩ := y
    exact ⟨T, x, z, h1, h2, h3, h4 xs q.1, h5 ys q.2⟩
/-- texts, numbers, and lists of such -/
def Plain : Nat → PyData → Prop
  | 0, _ => False
  | j + 1, d => (∃ i, d = .int i) ∨ (∃ z, d = .str z) ∨ (∃ ds, d = .list ds ∧ ds.length ≤ 1000 ∧ ∀ x ∈ ds, Plain j x) ∨ ∃ ds, d = .tuple ds ∧ ds.length ≤ 1000 ∧ ∀ x ∈ ds, Plain j x
def spSame (j : Nat) : Sp := fun vs H Q _ => ∃ (v u : V) (d : PyData), vs = [v, u] ∧ Dt H v d ∧ Dt H u d ∧ Plain j d ∧ ∀ H', Ex H H' → Q (.bl true) H'
theorem Dts.at' {H : Hp} : ∀ {xs : List V} {ds : List PyData} {i : Nat} {x : V}, Dts H xs ds → xs[i]? = some x → ∃ d, ds[i]? = some d ∧ Dt H x d
  | _, _, _, _, .nil, h => by simp at h
  | _, _, 0, _, .cons h1 _, h => by
    simp at h
    subst h
    exact ⟨_, rfl, h1⟩
  | _, _, i + 1, _, .cons _ r, h => by
    have h' := Dts.at' (i := i) r (by simpa using h)
    simpa using h'
theorem kit_bool' (d : PyData) : kitB (tyName d) "bool" = some (isBlD d) := kit_bool d
theorem isiT_of {H : Hp} {v : V} {d : PyData} {tp : Addr} {Q : VK} (hd : Dt H v d) (ht : H tp = some (.tup [.ty "list", .ty "tuple"])) (q : Q (.bl (isListD d || isTupD d)) H) : rIsiT K [v, .ref tp] H Q := by
  refine ⟨v, tp, _, _, _, _, rfl, ht, .cons (.ty "list") (.cons (.ty "tuple") .nil), .base hd.ty, ?_, q⟩
  exact kitAny_cons (kit_ty (kit_list d)) (fun h => kitAny_cons (kit_ty (kit_tup d)) (fun h2 => by rw [h, h2]; rfl) (fun h2 => by rw [h2, Bool.or_true])) (fun h => by rw [h, Bool.true_or])
theorem ev_isiT {σ : L2.St} {H : Hp} {ta : TE} {v : V} {d : PyData} (h : Ev ta σ H v) (hd : Dt H v d) :
    Ev (tCB (rIsiT K) (tCons ta (tCons (tTup (tCons (tC (.ty "list")) (tCons (tC (.ty "tuple")) tNil))) tNil))) σ H (.bl (isListD d || isTupD d)) := fun H1 e1 Q q =>
  h H1 e1 _ fun H2 e2 => ⟨show 2 ≤ sizeLine by decide, fun tp htp => isiT_of (hd.same (same_ex ((e1.trans e2).trans (Ex.new htp)))) upd_same (q _ (e2.trans (Ex.new htp)))⟩
theorem rv_isN {H : Hp} {x : V} : RV (fun x y H Q => y = V.non ∧ Q (.bl (decide (x = .non))) H) x .non H (.bl (decide (x = .non))) := fun H1 _ _ q => ⟨rfl, q H1 (Ex.refl H1)⟩
theorem ok_same {f : Addr} {fd : FuncData} (F : Fun K "_law_same" "_law_same" sSame f fd) (bS : Binds K fd ["found", "due"] []) (gS : mg "_law_same" = some (.ref f)) (mIsi : mg "isinstance" = none) (mList : mg "list" = none) (mTuple : mg "tuple" = none) (mBool : mg "bool" = none) (mStr : mg "str" = none)
    (mLen : mg "len" = none) (mAll : mg "all" = none) (mZip : mg "zip" = none) : ∀ j, FnOk P w K mg base CX0 j f fd ["found", "due"] (spSame j)
  | 0 => ⟨fun vs H Q E h => by
      obtain ⟨_, _, _, rfl, _⟩ := h
      rfl, fun B out st H ar us vs Q E hr e0 hb rel h => by
      obtain ⟨_, _, _, _, _, _, h, _⟩ := h
      exact h.elim⟩
  | j + 1 => by
    have GS := ok_same F bS gS mIsi mList mTuple mBool mStr mLen mAll mZip j
    have FS := F
    refine F.ok scSame (fun vs H Q E h => ?_) (fun cdv A outer s H vs Q E hr h => ?_)
    · obtain ⟨v, u, d, rfl, _⟩ := h
      rfl
    · obtain ⟨v, u, d, rfl, hv, hu, pl, q⟩ := h
      refine ⟨_, (pss_cons (ps_if (pt_val (pe_callB call_isiT (by rfl) mIsi boot_isinstance (pa_cons (pv 1) (pa_cons (pe_tup (pa_cons (pe_bltn (v := .ty "list") (by rfl) mList boot_list rfl) (pa_cons (pe_bltn (v := .ty "tuple") (by rfl) mTuple boot_tuple rfl) pa_nil))) pa_nil)))) (pss_cons (ps_if (PW.pt (pw_or (pt_cmpR op_ne (pe_callB call_isi (by rfl) mIsi boot_isinstance (pa_cons (pv 0) (pa_cons (pe_bltn (v := .ty "list") (by rfl) mList boot_list rfl) pa_nil))) (pe_callB call_isi (by rfl) mIsi boot_isinstance (pa_cons (pv 1) (pa_cons (pe_bltn (v := .ty "list") (by rfl) mList boot_list rfl) pa_nil))) (nomark _)) (pw_or1 (pt_cmpR op_ne (pe_callB call_isi (by rfl) mIsi boot_isinstance (pa_cons (pv 0) (pa_cons (pe_bltn (v := .ty "tuple") (by rfl) mTuple boot_tuple rfl) pa_nil))) (pe_callB call_isi (by rfl) mIsi boot_isinstance (pa_cons (pv 1) (pa_cons (pe_bltn (v := .ty "tuple") (by rfl) mTuple boot_tuple rfl) pa_nil))) (nomark _))))) pss_never pss_nil)
      (pss_one (ps_ret (pe_and (pe_cmpR op_eq (pe_callB call_len_seq (by rfl) mLen boot_len (pa_cons (pv 0) pa_nil)) (pe_callB call_len_seq (by rfl) mLen boot_len (pa_cons (pv 1) pa_nil)) (nomark _)) (pe_one (pe_callB (cr_all rfl) (by rfl) mAll boot_all (pa_cons (pe_lc (own := [("one", 2), ("two", 3)]) (g := gTup K 2 (gCons (gName 2) (gCons (gName 3) gNil))) (tt := tYes) (te := tCall (spSame j) [] E0 (tCons (tVar 2) (tCons (tVar 3) tNil))) rfl scSame.nd (RZ.pi_zipA (by rfl) mZip (pa_cons (pv 0) (pa_cons (pv 1) pa_nil))) (blkOk_by (N := ["found", "due", "one", "two"]) (sc := defScope sSame) (by decide +kernel)) (fun _ _ _ _ _ => pg_tup rfl (pgs_cons (pg_name (i := 2) scSame.nd rfl (Or.inl rfl)) (pgs_cons (pg_name (i := 3) scSame.nd rfl (Or.inl rfl)) pgs_nil))) (fun _ _ _ _ _ => pts_nil) (fun _ _ _ _ _ => (pe_call GS hr (by rfl) gS FS.kp bS .nil pass0 (pa_cons (pv 2) (pa_cons (pv 3) pa_nil))))) pa_nil))))))) pss_nil)
      (pss_cons (ps_if (PW.pt (pw_or (pt_cmpR op_isN (pv 1) pe_non (nomark _)) (pw_or1 (pt_cmpR op_isN (pv 0) pe_non (nomark _))))) pss_never pss_nil)
      (pss_cons (ps_if (PW.pt (pw_or (pt_cmpR op_ne (pe_callB call_isi (by rfl) mIsi boot_isinstance (pa_cons (pv 0) (pa_cons (pe_bltn (v := .ty "bool") (by rfl) mBool boot_bool rfl) pa_nil))) (pe_callB call_isi (by rfl) mIsi boot_isinstance (pa_cons (pv 1) (pa_cons (pe_bltn (v := .ty "bool") (by rfl) mBool boot_bool rfl) pa_nil))) (nomark _)) (pw_or1 (pt_cmpR op_ne (pe_callB call_isi (by rfl) mIsi boot_isinstance (pa_cons (pv 0) (pa_cons (pe_bltn (v := .ty "str") (by rfl) mStr boot_str rfl) pa_nil))) (pe_callB call_isi (by rfl) mIsi boot_isinstance (pa_cons (pv 1) (pa_cons (pe_bltn (v := .ty "str") (by rfl) mStr boot_str rfl) pa_nil))) (nomark _))))) pss_never pss_nil)
      (pss_one (ps_ret (pe_cmpR op_eq (pv 0) (pv 1) (nomark _))))))), ?_⟩
      rcases pl with ⟨i, rfl⟩ | ⟨z, rfl⟩ | ⟨ds, rfl, hl, pl⟩ | ⟨ds, rfl, hl, pl⟩
      · cases hv
        cases hu
        refine q_when (b := false) (et_B (ev_isiT (ev_var rfl) (.int i))) (fun h => nomatch h) fun _ H1 e1 => ?_
        refine q_when (b := false) (et_is (et_or (a := false) (b := false) (et_test (ev_op (ev_var rfl) ev_c rv_isN)) fun _ => et_test (ev_op (ev_var rfl) ev_c rv_isN)) rfl) (fun h => nomatch h) fun _ H2 e2 => ?_
        refine q_when (b := false) (et_is (et_or (a := !decide (V.bl false = V.bl false)) (b := !decide (V.bl false = V.bl false)) (et_test (ev_op (ev_isi (ev_var rfl) (.int i) (kit_bool _)) (ev_isi (ev_var rfl) (.int i) (kit_bool _)) (rv_ne rfl))) fun _ => et_test (ev_op (ev_isi (ev_var rfl) (.int i) (kit_str _)) (ev_isi (ev_var rfl) (.int i) (kit_str _)) (rv_ne rfl))) (by rw [decide_eq_true rfl]; rfl)) (fun h => nomatch h) fun _ H3 e3 => ?_
        exact s_ret (v := .bl true) (ev_is (ev_op (ev_var rfl) (ev_var rfl) (rv_eq rfl)) (by rw [decide_eq_true rfl])) fun H4 e4 => q H4 (((e1.trans e2).trans e3).trans e4)
      · cases hv
        cases hu
        refine q_when (b := false) (et_B (ev_isiT (ev_var rfl) (.str z))) (fun h => nomatch h) fun _ H1 e1 => ?_
        refine q_when (b := false) (et_is (et_or (a := false) (b := false) (et_test (ev_op (ev_var rfl) ev_c rv_isN)) fun _ => et_test (ev_op (ev_var rfl) ev_c rv_isN)) rfl) (fun h => nomatch h) fun _ H2 e2 => ?_
        refine q_when (b := false) (et_is (et_or (a := !decide (V.bl false = V.bl false)) (b := !decide (V.bl true = V.bl true)) (et_test (ev_op (ev_isi (ev_var rfl) (.str z) (kit_bool _)) (ev_isi (ev_var rfl) (.str z) (kit_bool _)) (rv_ne rfl))) fun _ => et_test (ev_op (ev_isi (ev_var rfl) (.str z) (kit_str _)) (ev_isi (ev_var rfl) (.str z) (kit_str _)) (rv_ne rfl))) (by rw [decide_eq_true rfl, decide_eq_true rfl]; rfl)) (fun h => nomatch h) fun _ H3 e3 => ?_
        exact s_ret (v := .bl true) (ev_is (ev_op (ev_var rfl) (ev_var rfl) (rv_eq rfl)) (by rw [decide_eq_true rfl])) fun H4 e4 => q H4 (((e1.trans e2).trans e3).trans e4)
      · have hv0 := hv
        have hu0 := hu
        cases hv with
        | @lst a xs _ ha hx =>
        cases hu with
        | @lst b ys _ hb hy =>
        have lx := hx.length
        have ly := hy.length
        refine q_when (b := true) (et_B (ev_isiT (ev_var rfl) hu0)) (fun _ H1 e1 => ?_) (fun h => nomatch h)
        refine q_when (b := false) (et_is (et_or (a := !decide (V.bl true = V.bl true)) (b := !decide (V.bl false = V.bl false)) (et_test (ev_op (ev_isi (ev_var rfl) (hv0.same (same_ex e1)) (kit_list _)) (ev_isi (ev_var rfl) (hu0.same (same_ex e1)) (kit_list _)) (rv_ne rfl))) fun _ => et_test (ev_op (ev_isi (ev_var rfl) (hv0.same (same_ex e1)) (kit_tup _)) (ev_isi (ev_var rfl) (hu0.same (same_ex e1)) (kit_tup _)) (rv_ne rfl))) (by rw [decide_eq_true rfl, decide_eq_true rfl]; rfl)) (fun h => nomatch h) fun _ H2 e2 => ?_
        have e12 := e1.trans e2
        refine s_ret (v := .bl true) (ev_is (ev_andV (a := true) (b := (ds.map fun _ => true).all id) (ev_is (ev_op (ev_len' (ev_var rfl) (e12 _ _ ha)) (ev_len' (ev_var rfl) (e12 _ _ hb)) (rv_eq rfl)) (by rw [lx, ly, decide_eq_true rfl])) fun _ => ev_all (bs := ds.map fun _ => true) ?_) ?_) fun H3 e3 => q H3 (e12.trans e3)
        · intro H0 e0 Q' q'
          have e20 := e12.trans e0
          refine ⟨.ref a, rfl, .ref b, rfl, a, b, xs, ys, rfl, .inl ⟨sq_of (e20 _ _ ha), sq_of (e20 _ _ hb), fun D hD => ?_⟩⟩
          refine lc_it (walk_zip (n := ds.length) (by omega)) (fun i Hh => Ex H0 Hh ∧ Hh D = some (.lst (List.replicate i (V.bl true)))) ⟨Ex.new hD, upd_same⟩ (fun i Hh _ p => ⟨sq_of (p.1 _ _ (e20 _ _ ha)), sq_of (p.1 _ _ (e20 _ _ hb))⟩) ?_ ?_
          · rintro i v Ha Hb hi ⟨p1, p2⟩ ⟨T, x, y, rfl, nT, rfl, hx', hy'⟩
            obtain ⟨d1, hd1, dt1⟩ := Dts.at' hx hx'
            obtain ⟨d2, hd2, dt2⟩ := Dts.at' hy hy'
            rw [hd1] at hd2
            cases hd2
            have eT : Ex Ha (upd Ha T (.tup [x, y])) := Ex.new nT
            have eA := (e20.trans p1).trans eT
            refine ⟨T, [x, y], rfl, st_of upd_same, rfl, x, [y], rfl, y, [], rfl, rfl, rfl, ?_⟩
            show tCall (spSame j) [] E0 (tCons (tVar 2) (tCons (tVar 3) tNil)) _ _ _
            refine ⟨x, rfl, y, rfl, x, y, d1, rfl, dt1.same (same_ex eA), dt2.same (same_ex eA), pl d1 (List.mem_of_getElem? hd1), fun H5 e5 => ⟨_, e5 _ _ (eT _ _ p2), sz_lt (by rw [List.length_replicate]; omega), ((p1.trans eT).trans e5).mut hD, ?_⟩⟩
            rw [List.replicate_succ']
            exact upd_same
          · rintro Hh ⟨p1, p2⟩
            refine q' D Hh hD p1 ?_
            rw [p2]
            refine congrArg (fun l => some (HO.lst l)) ?_
            refine List.ext_getElem (by simp) fun i h1 h2 => by simp
        · rw [List.all_eq_true.mpr (fun b hb => by
            obtain ⟨_, _, rfl⟩ := List.mem_map.mp hb
            rfl)]
          rfl
      · have hv0 := hv
        have hu0 := hu
        cases hv with
        | @tup a xs _ ha hx =>
        cases hu with
        | @tup b ys _ hb hy =>
        have lx := hx.length
        have ly := hy.length
        refine q_when (b := true) (et_B (ev_isiT (ev_var rfl) hu0)) (fun _ H1 e1 => ?_) (fun h => nomatch h)
        refine q_when (b := false) (et_is (et_or (a := !decide (V.bl false = V.bl false)) (b := !decide (V.bl true = V.bl true)) (et_test (ev_op (ev_isi (ev_var rfl) (hv0.same (same_ex e1)) (kit_list _)) (ev_isi (ev_var rfl) (hu0.same (same_ex e1)) (kit_list _)) (rv_ne rfl))) fun _ => et_test (ev_op (ev_isi (ev_var rfl) (hv0.same (same_ex e1)) (kit_tup _)) (ev_isi (ev_var rfl) (hu0.same (same_ex e1)) (kit_tup _)) (rv_ne rfl))) (by rw [decide_eq_true rfl, decide_eq_true rfl]; rfl)) (fun h => nomatch h) fun _ H2 e2 => ?_
        have e12 := e1.trans e2
        refine s_ret (v := .bl true) (ev_is (ev_andV (a := true) (b := (ds.map fun _ => true).all id) (ev_is (ev_op (ev_lenT (ev_var rfl) (e12 _ _ ha)) (ev_lenT (ev_var rfl) (e12 _ _ hb)) (rv_eq rfl)) (by rw [lx, ly, decide_eq_true rfl])) fun _ => ev_all (bs := ds.map fun _ => true) ?_) ?_) fun H3 e3 => q H3 (e12.trans e3)
        · intro H0 e0 Q' q'
          have e20 := e12.trans e0
          refine ⟨.ref a, rfl, .ref b, rfl, a, b, xs, ys, rfl, .inr ⟨st_of (e20 _ _ ha), st_of (e20 _ _ hb), fun D hD => ?_⟩⟩
          refine lc_it (walk_zipT (n := ds.length) (by omega)) (fun i Hh => Ex H0 Hh ∧ Hh D = some (.lst (List.replicate i (V.bl true)))) ⟨Ex.new hD, upd_same⟩ (fun i Hh _ p => ⟨st_of (p.1 _ _ (e20 _ _ ha)), st_of (p.1 _ _ (e20 _ _ hb))⟩) ?_ ?_
          · rintro i v Ha Hb hi ⟨p1, p2⟩ ⟨T, x, y, rfl, nT, rfl, hx', hy'⟩
            obtain ⟨d1, hd1, dt1⟩ := Dts.at' hx hx'
            obtain ⟨d2, hd2, dt2⟩ := Dts.at' hy hy'
            rw [hd1] at hd2
            cases hd2
            have eT : Ex Ha (upd Ha T (.tup [x, y])) := Ex.new nT
            have eA := (e20.trans p1).trans eT
            refine ⟨T, [x, y], rfl, st_of upd_same, rfl, x, [y], rfl, y, [], rfl, rfl, rfl, ?_⟩
            show tCall (spSame j) [] E0 (tCons (tVar 2) (tCons (tVar 3) tNil)) _ _ _
            refine ⟨x, rfl, y, rfl, x, y, d1, rfl, dt1.same (same_ex eA), dt2.same (same_ex eA), pl d1 (List.mem_of_getElem? hd1), fun H5 e5 => ⟨_, e5 _ _ (eT _ _ p2), sz_lt (by rw [List.length_replicate]; omega), ((p1.trans eT).trans e5).mut hD, ?_⟩⟩
            rw [List.replicate_succ']
            exact upd_same
          · rintro Hh ⟨p1, p2⟩
            refine q' D Hh hD p1 ?_
            rw [p2]
            refine congrArg (fun l => some (HO.lst l)) ?_
            refine List.ext_getElem (by simp) fun i h1 h2 => by simp
        · rw [List.all_eq_true.mpr (fun b hb => by
            obtain ⟨_, _, rfl⟩ := List.mem_map.mp hb
            rfl)]
          rfl
end
theorem plain_nats (j : Nat) {c : List Nat} (h : c.length ≤ 1000) : Plain (j + 2) (.list (natsD c)) := .inr (.inr (.inl ⟨_, rfl, by rw [List.length_map]; exact h, fun d hd => by
  obtain ⟨z, _, rfl⟩ := List.mem_map.mp hd
  exact .inl ⟨_, rfl⟩⟩))
theorem ev_same {K : PySem.W.Frag} {σ : L2.St} {H : Hp} {ta tb : TA} {xs ys : List V} {ds : List PyData} (h1 : EvA ta σ H xs) (h2 : EvA tb σ H ys) (d1 : Dts H xs ds) (d2 : Dts H ys ds) (pl : Plain 4 (.list ds)) (few : ds.length ≤ 1000) :
    Ev (tCall (spSame 4) [] E0 (tCons (tLst ta) (tCons (tLst tb) tNil))) σ H (.bl true) := fun H1 e1 Q q => h1 H1 e1 _ fun H2 e2 => ⟨sz_of (by rw [d1.length]; omega), fun p hp => by
  have x1 := Ex.new (o := .lst xs) hp
  refine h2 _ ((e1.trans e2).trans x1) _ fun H3 e3 => ⟨sz_of (by rw [d2.length]; omega), fun r hr => ?_⟩
  have x2 := Ex.new (o := .lst ys) hr
  have eA := ((e1.trans e2).trans x1).trans (e3.trans x2)
  exact ⟨.ref p, .ref r, .list ds, rfl, .lst (x2 _ _ (e3 _ _ upd_same)) (d1.same (same_ex eA)), .lst upd_same (d2.same (same_ex eA)), pl, fun H4 e4 => q H4 ((e2.trans x1).trans ((e3.trans x2).trans e4))⟩⟩
def OrdV (G : Hp) (v : V) (os : List Pr) : Prop := ∃ (a : Addr) (xs : List V), v = .ref a ∧ G a = some (.lst xs) ∧ PrsV G xs os
theorem OrdV.ex {G G' : Hp} {v : V} {os : List Pr} (h : OrdV G v os) (e : Ex G G') : OrdV G' v os := by
  obtain ⟨a, xs, h1, h2, h3⟩ := h
  exact ⟨a, xs, h1, e _ _ h2, h3.ex e⟩
end K14
namespace K14
open PySem PySem.Spec PyProof.Rows L2 Os Evl
abbrev sLists : Stmt := topS 13
theorem scLists : FnScope ["forest", "n", "edges", "lists", "p", "q", "position"] ["forest"] (defScope sLists) := ⟨rfl, rfl, rfl, by decide +kernel, rfl, by decide +kernel, by decide +kernel⟩
abbrev sPo : Stmt := topS 27
theorem scPo : FnScope ["size", "sequence", "found", "low", "high", "k"] ["size", "sequence"] (defScope sPo) := ⟨rfl, rfl, rfl, by decide +kernel, rfl, by decide +kernel, by decide +kernel⟩
/-- the other end, where j is one -/
def other (j : Nat) (e : Pr) : Option Nat := if e.1 = j then some e.2 else if e.2 = j then some e.1 else none
def adj (es : List Pr) (j : Nat) : List Nat := es.filterMap (other j)
theorem adj_snoc {es : List Pr} {i : Nat} {e : Pr} (h : es[i]? = some e) (lt : e.1 < e.2) (j : Nat) :
    adj (es.take (i + 1)) j = if j = e.2 then (if e.2 = e.1 then adj (es.take i) e.2 ++ [e.2] else adj (es.take i) e.2) ++ [e.1] else if j = e.1 then adj (es.take i) j ++ [e.2] else adj (es.take i) j := by
  unfold adj
  rw [List.take_add_one, h, List.filterMap_append]
  show _ ++ List.filterMap (other j) [e] = _
  unfold other
  by_cases h1 : j = e.2
  · rw [if_pos h1, if_neg (show ¬ e.2 = e.1 by omega)]
    subst h1
    simp [show ¬ e.1 = e.2 by omega]
  · rw [if_neg h1]
    by_cases h2 : j = e.1
    · rw [if_pos h2]
      subst h2
      simp
    · rw [if_neg h2]
      simp [show ¬ e.1 = j from fun z => h2 z.symm, show ¬ e.2 = j from fun z => h1 z.symm]
/-- n new lists of numbers -/
structure RwV (H0 G : Hp) (as : List Addr) (n : Nat) (f : Nat → List Nat) : Prop where
  len : as.length = n
  new : ∀ a ∈ as, H0 a = none
  at' : ∀ i a, as[i]? = some a → G a = some (.lst (nats (f i)))
  nd : as.Nodup
theorem RwV.ex {H0 G G' : Hp} {as : List Addr} {n : Nat} {f : Nat → List Nat} (h : RwV H0 G as n f) (e : Ex G G') : RwV H0 G' as n f := ⟨h.len, h.new, fun i a q => e _ _ (h.at' i a q), h.nd⟩
theorem RwV.weak {H0 H1 G : Hp} {as : List Addr} {n : Nat} {f : Nat → List Nat} (h : RwV H1 G as n f) (e : Ex H0 H1) : RwV H0 G as n f := ⟨h.len, fun a q => fresh_back e (h.new a q), h.at', h.nd⟩
theorem RwV.like {H0 G : Hp} {as : List Addr} {n : Nat} {f g : Nat → List Nat} (h : RwV H0 G as n f) (e : ∀ i, f i = g i) : RwV H0 G as n g := ⟨h.len, h.new, fun i a q => by rw [← e i]; exact h.at' i a q, h.nd⟩
theorem RwV.put {H0 G : Hp} {as : List Addr} {n p : Nat} {f : Nat → List Nat} {a : Addr} {l : List Nat} (h : RwV H0 G as n f) (ha : as[p]? = some a) : RwV H0 (upd G a (.lst (nats l))) as n (fun j => if j = p then l else f j) :=
  ⟨h.len, h.new, fun i b q => by
    by_cases e : i = p
    · subst e
      rw [ha] at q
      cases q
      rw [upd_same, if_pos rfl]
    · have ne : b ≠ a := fun z => by
        subst z
        obtain ⟨l1, e1⟩ := List.getElem?_eq_some_iff.mp q
        obtain ⟨l2, e2⟩ := List.getElem?_eq_some_iff.mp ha
        rcases Nat.lt_or_gt_of_ne e with lt | lt
        · exact List.pairwise_iff_getElem.mp h.nd i p l1 l2 lt (by rw [e1, e2])
        · exact List.pairwise_iff_getElem.mp h.nd p i l2 l1 lt (by rw [e1, e2])
      rw [upd_ne ne, if_neg e]
      exact h.at' i b q, h.nd⟩
theorem RwV.off {H0 G : Hp} {as : List Addr} {n : Nat} {f : Nat → List Nat} {p : Addr} {o u : HO} (h : RwV H0 G as n f) (hp : H0 p = some u) : RwV H0 (upd G p o) as n f := ⟨h.len, h.new, fun i a q => by
  rw [upd_ne fun e => by
    have := h.new a (List.mem_of_getElem? q)
    rw [e, hp] at this
    cases this]
  exact h.at' i a q, h.nd⟩
section
variable {P : Program} {w : World} {K : PySem.W.Frag} {mg : Str → Option Value} {base : Heap}
def spLists : Sp := fun vs H Q _ => ∃ (v : V) (n : Nat) (es : List Pr), vs = [v] ∧ GraphV H v n es ∧ IsForest n es ∧
  ∀ H' L as, Ex H H' → H L = none → H' L = some (.lst (as.map V.ref)) → RwV H H' as n (adj es) → Q (.ref L) H'
def spPo : Sp := fun vs H Q _ => ∃ (o : V) (n : Nat) (es os : List Pr), vs = [.int (n : Int), o] ∧ IsForest n es ∧ OrdV H o os ∧ os.Perm es ∧
  ∀ H' L as, Ex H H' → H L = none → H' L = some (.lst (as.map V.ref)) → RwV H H' as n (adj os) → Q (.ref L) H'
theorem ok_lists {f : Addr} {fd : FuncData} {k : Nat} (F : Fun K "neighbour_lists" "neighbour_lists" sLists f fd) (mRange : mg "range" = none) : FnOk P w K mg base CX0 (k + 1) f fd ["forest"] spLists := by
  refine F.ok scLists (fun vs H Q E h => ?_) (fun cdv A outer s H vs Q E hr h => ?_)
  · obtain ⟨v, n, es, rfl, _⟩ := h
    rfl
  · obtain ⟨v, n, es, rfl, hg, ok, q⟩ := h
    refine ⟨_, (pss_cons (ps_asg (pv 0) (pg_tup rfl (pgs_cons (pg_name (i := 1) scLists.nd rfl (Or.inl rfl)) (pgs_cons (pg_name (i := 2) scLists.nd rfl (Or.inl rfl)) pgs_nil))))
      (pss_cons (ps_setLc (i := 3) (own := [("position", 6)]) (g := gName 6) (tt := tYes) rfl scLists.nd rfl rfl (sw_true rfl rfl rfl (by decide +kernel)) (pi_range1 (by rfl) mRange (pa_cons (pv 1) pa_nil)) (blkOk_by (N := ["forest", "n", "edges", "lists", "p", "q", "position"]) (sc := defScope sLists) (by decide +kernel)) (fun _ _ _ _ _ => pg_name (i := 6) scLists.nd rfl (Or.inl rfl)) (fun _ _ _ _ _ => pts_nil) (fun _ _ _ _ _ => (pe_lst pa_nil)))
      (pss_cons (ps_for PassesOwn.never rfl (pi_list (pv 2)) (pg_tup rfl (pgs_cons (pg_name (i := 4) scLists.nd rfl (Or.inl rfl)) (pgs_cons (pg_name (i := 5) scLists.nd rfl (Or.inl rfl)) pgs_nil)))
      (pss_cons (ps_expr (pe_bm PySem.F.plainAttrs_list PySem.F.slot_list_append PySem.F.type_list_append mt_append (pe_ix ix_list (pv 3) (pv 4) (fun _ _ => rfl)) (pa_cons (pv 5) pa_nil)))
      (pss_one (ps_expr (pe_bm PySem.F.plainAttrs_list PySem.F.slot_list_append PySem.F.type_list_append mt_append (pe_ix ix_list (pv 3) (pv 5) (fun _ _ => rfl)) (pa_cons (pv 4) pa_nil))))))
      (pss_one (ps_ret (pv 3)))))), ?_⟩
    obtain ⟨g, a, xs, rfl, h2, h3, h4⟩ := hg
    have n40 := ok.n40
    have ein := ok.edges.inn
    have few := ok.few
    refine ⟨.ref g, rfl, g, _, rfl, st_of h2, rfl, .int (n : Int), _, rfl, .ref a, [], rfl, rfl, ?_⟩
    refine ⟨.int (n : Int), rfl, (n : Int), rfl, by omega, by omega, fun D hD => ?_⟩
    have eD := Ex.new (o := .lst []) hD
    refine lc_range (lo := 0) (n := ((n : Int)).toNat) (fun i Hh => Ex H Hh ∧ ∃ as : List Addr, Hh D = some (.lst (as.map V.ref)) ∧ RwV (upd H D (.lst [])) Hh as i (fun _ => [])) ⟨eD, [], upd_same, rfl, (fun a h => nomatch h), (fun i a h => by simp at h), List.nodup_nil⟩ ?_ ?_
    · rintro i Hh hi' ⟨x1, as, hrs, rg⟩
      have lt : i < n := by omega
      refine ⟨rfl, ?_⟩
      dsimp only [tYes]
      rw [if_pos rfl]
      refine ⟨Nat.zero_le _, fun b hb => ?_⟩
      have xb := Ex.new (o := .lst []) hb
      have nb : b ≠ D := fun e => by
        rw [e, hrs] at hb
        cases hb
      have hb0 : upd H D (.lst []) b = none := by
        rw [upd_ne nb]
        exact fresh_back x1 hb
      have al : ∀ {j : Nat} {c : Addr}, as[j]? = some c → c ≠ b := fun h => ne_of_none (rg.at' _ _ h) hb
      refine ⟨as.map V.ref, xb _ _ hrs, sz_lt (by rw [List.length_map, rg.len]; omega), (x1.trans xb).mut hD, as ++ [b], ?_, ?_⟩
      · rw [upd_same, List.map_append]
        rfl
      · refine RwV.off (u := .lst []) ⟨by rw [List.length_append, rg.len]; rfl, fun c hc => ?_, fun j c hc => ?_, ?_⟩ upd_same
        · rcases List.mem_append.mp hc with hc | hc
          · exact rg.new c hc
          · rw [List.mem_singleton.mp hc]
            exact hb0
        · by_cases hj : j < as.length
          · rw [List.getElem?_append_left hj] at hc
            exact xb _ _ (rg.at' j c hc)
          · rw [List.getElem?_append_right (by omega)] at hc
            have : c = b := by
              have := List.mem_of_getElem? hc
              exact List.mem_singleton.mp this
            rw [this]
            exact upd_same
        · refine List.nodup_append.mpr ⟨rg.nd, List.pairwise_singleton _ _, fun c hc d hd => ?_⟩
          rw [List.mem_singleton.mp hd]
          obtain ⟨j, hj⟩ := List.mem_iff_getElem?.mp hc
          exact al hj
    · rintro Hh ⟨x1, as, hrs, rg⟩
      rw [Int.toNat_natCast] at rg
      dsimp only [gName]
      have asH : ∀ c ∈ as, H c = none := fun c hc => fresh_back eD (rg.new c hc)
      refine q_forL (xs := xs) (ev_var rfl) (sq_of (x1 _ _ h3)) (fun i σ' H' => Ex H H' ∧ ∃ (y4 y5 y6 : Option V), σ' = [some (.ref g), some (.int (n : Int)), some (.ref a), some (.ref D), y4, y5, y6] ∧ H' D = some (.lst (as.map V.ref)) ∧ RwV (upd H D (.lst [])) H' as n (adj (es.take i)))
        (fun H4 e4 => ⟨x1.trans e4, _, _, _, rfl, e4 _ _ hrs, rg.ex e4⟩) (fun i σ' H' _ h => sq_of (h.1 _ _ h3)) ?_ ?_
      · rintro i x σ' H4 hx ⟨e4, y4, y5, y6, rfl, hD4, rw4⟩
        obtain ⟨e, he, tp, rfl, htp⟩ := h4.get hx
        have ein := ein e (List.mem_of_getElem? he)
        have il : i < es.length := (List.getElem?_eq_some_iff.mp he).1
        have adl : ∀ j, (adj (es.take i) j).length ≤ 60 := fun j => by
          unfold adj
          have h1 := List.length_filterMap_le (other j) (es.take i)
          have h2 := List.length_take_le i es
          omega
        obtain ⟨c1, hc1⟩ : ∃ c, as[e.1]? = some c := ⟨_, List.getElem?_eq_getElem (by rw [rw4.len]; omega)⟩
        obtain ⟨c2, hc2⟩ : ∃ c, as[e.2]? = some c := ⟨_, List.getElem?_eq_getElem (by rw [rw4.len]; omega)⟩
        have at' : ∀ {j : Nat} {c : Addr}, as[j]? = some c → (as.map V.ref)[j]? = some (.ref c) := fun h => by
          rw [List.getElem?_map, h]
          rfl
        refine ⟨tp, _, rfl, st_of (e4 _ _ htp), rfl, _, _, rfl, _, [], rfl, rfl, ?_⟩
        have nD : ∀ {c : Addr}, c ∈ as → D ≠ c := fun hc z => by
          have := rg.new _ hc
          rw [← z, upd_same] at this
          cases this
        refine q_app (v := .int (e.2 : Int)) (rw4.at' _ _ hc1) (ev_op (ev_var rfl) (ev_var rfl) (rv_ixL (sq_of hD4) (atI_nat (at' hc1)))) (ev_var rfl) (by rw [List.length_map]; have := adl e.1; omega) fun H5 e5 => ?_
        have m1 := List.mem_of_getElem? hc1
        have m2 := List.mem_of_getElem? hc2
        have e1 : nats (adj (es.take i) e.1) ++ [V.int (e.2 : Int)] = nats (adj (es.take i) e.1 ++ [e.2]) := by
          unfold nats
          rw [List.map_append]
          rfl
        rw [e1]
        have rw5 := (rw4.ex e5).put (l := adj (es.take i) e.1 ++ [e.2]) hc1
        have hD5 : upd H5 c1 (.lst (nats (adj (es.take i) e.1 ++ [e.2]))) D = some (.lst (as.map V.ref)) := by
          rw [upd_ne (nD m1)]
          exact e5 _ _ hD4
        have f2 := rw5.at' _ _ hc2
        rw [if_neg (show ¬ e.2 = e.1 by omega)] at f2
        refine s_app (v := .int (e.1 : Int)) f2 (ev_op (ev_var rfl) (ev_var rfl) (rv_ixL (sq_of hD5) (atI_nat (at' hc2)))) (ev_var rfl) (by rw [List.length_map]; have := adl e.2; omega) fun H6 e6 => ?_
        have e2 : nats (adj (es.take i) e.2) ++ [V.int (e.1 : Int)] = nats (adj (es.take i) e.2 ++ [e.1]) := by
          unfold nats
          rw [List.map_append]
          rfl
        rw [e2]
        have rw6 := (rw5.ex e6).put (l := adj (es.take i) e.2 ++ [e.1]) hc2
        refine ⟨((((e4.trans e5).mut (asH _ m1)).trans e6).mut (asH _ m2)), _, _, _, rfl, ?_, rw6.like fun j => ?_⟩
        · rw [upd_ne (nD m2)]
          exact e6 _ _ hD5
        · rw [adj_snoc he ein.1]
          by_cases j2 : j = e.2
          · rw [if_pos j2, if_pos j2, if_neg (show ¬ e.2 = e.1 by omega)]
          · rw [if_neg j2, if_neg j2]
            by_cases j1 : j = e.1
            · rw [if_pos j1, if_pos j1, j1]
            · rw [if_neg j1, if_neg j1]
      · rintro σ' H4 ⟨e4, y4, y5, y6, rfl, hD4, rw4⟩
        rw [h4.length, List.take_length] at rw4
        exact s_ret (v := .ref D) (ev_var rfl) fun H5 e5 => q H5 D as (e4.trans e5) hD (e5 _ _ hD4) ((rw4.ex e5).weak eD)
theorem ok_po {f : Addr} {fd : FuncData} {k : Nat} (F : Fun K "_law_perms_of" "_law_perms_of" sPo f fd) (mRange : mg "range" = none) : FnOk P w K mg base CX0 (k + 1) f fd ["size", "sequence"] spPo := by
  refine F.ok scPo (fun vs H Q E h => ?_) (fun cdv A outer s H vs Q E hr h => ?_)
  · obtain ⟨o, n, es, os, rfl, _⟩ := h
    rfl
  · obtain ⟨o, n, es, os, rfl, ok, ho, pm, q⟩ := h
    refine ⟨_, (pss_cons (ps_setLc (i := 2) (own := [("k", 5)]) (g := gName 5) (tt := tYes) rfl scPo.nd rfl rfl (sw_true rfl rfl rfl (by decide +kernel)) (pi_range1 (by rfl) mRange (pa_cons (pv 0) pa_nil)) (blkOk_by (N := ["size", "sequence", "found", "low", "high", "k"]) (sc := defScope sPo) (by decide +kernel)) (fun _ _ _ _ _ => pg_name (i := 5) scPo.nd rfl (Or.inl rfl)) (fun _ _ _ _ _ => pts_nil) (fun _ _ _ _ _ => (pe_lst pa_nil)))
      (pss_cons (ps_for PassesOwn.never rfl (pi_list (pv 1)) (pg_tup rfl (pgs_cons (pg_name (i := 3) scPo.nd rfl (Or.inl rfl)) (pgs_cons (pg_name (i := 4) scPo.nd rfl (Or.inl rfl)) pgs_nil)))
      (pss_cons (ps_expr (pe_bm PySem.F.plainAttrs_list PySem.F.slot_list_append PySem.F.type_list_append mt_append (pe_ix ix_list (pv 2) (pv 3) (fun _ _ => rfl)) (pa_cons (pv 4) pa_nil)))
      (pss_one (ps_expr (pe_bm PySem.F.plainAttrs_list PySem.F.slot_list_append PySem.F.type_list_append mt_append (pe_ix ix_list (pv 2) (pv 4) (fun _ _ => rfl)) (pa_cons (pv 3) pa_nil))))))
      (pss_one (ps_ret (pv 2))))), ?_⟩
    obtain ⟨a, xs, rfl, h3, h4⟩ := ho
    have n40 := ok.n40
    have ein : ∀ e ∈ os, e.1 < e.2 ∧ e.2 < n := fun e he => ok.edges.inn e (pm.mem_iff.mp he)
    have few : os.length ≤ 60 := by rw [pm.length_eq]; exact ok.few
    refine ⟨.int (n : Int), rfl, (n : Int), rfl, by omega, by omega, fun D hD => ?_⟩
    have eD := Ex.new (o := .lst []) hD
    refine lc_range (lo := 0) (n := ((n : Int)).toNat) (fun i Hh => Ex H Hh ∧ ∃ as : List Addr, Hh D = some (.lst (as.map V.ref)) ∧ RwV (upd H D (.lst [])) Hh as i (fun _ => [])) ⟨eD, [], upd_same, rfl, (fun a h => nomatch h), (fun i a h => by simp at h), List.nodup_nil⟩ ?_ ?_
    · rintro i Hh hi' ⟨x1, as, hrs, rg⟩
      have lt : i < n := by omega
      refine ⟨rfl, ?_⟩
      dsimp only [tYes]
      rw [if_pos rfl]
      refine ⟨Nat.zero_le _, fun b hb => ?_⟩
      have xb := Ex.new (o := .lst []) hb
      have nb : b ≠ D := fun e => by
        rw [e, hrs] at hb
        cases hb
      have hb0 : upd H D (.lst []) b = none := by
        rw [upd_ne nb]
        exact fresh_back x1 hb
      have al : ∀ {j : Nat} {c : Addr}, as[j]? = some c → c ≠ b := fun h => ne_of_none (rg.at' _ _ h) hb
      refine ⟨as.map V.ref, xb _ _ hrs, sz_lt (by rw [List.length_map, rg.len]; omega), (x1.trans xb).mut hD, as ++ [b], ?_, ?_⟩
      · rw [upd_same, List.map_append]
        rfl
      · refine RwV.off (u := .lst []) ⟨by rw [List.length_append, rg.len]; rfl, fun c hc => ?_, fun j c hc => ?_, ?_⟩ upd_same
        · rcases List.mem_append.mp hc with hc | hc
          · exact rg.new c hc
          · rw [List.mem_singleton.mp hc]
            exact hb0
        · by_cases hj : j < as.length
          · rw [List.getElem?_append_left hj] at hc
            exact xb _ _ (rg.at' j c hc)
          · rw [List.getElem?_append_right (by omega)] at hc
            have : c = b := by
              have := List.mem_of_getElem? hc
              exact List.mem_singleton.mp this
            rw [this]
            exact upd_same
        · refine List.nodup_append.mpr ⟨rg.nd, List.pairwise_singleton _ _, fun c hc d hd => ?_⟩
          rw [List.mem_singleton.mp hd]
          obtain ⟨j, hj⟩ := List.mem_iff_getElem?.mp hc
          exact al hj
    · rintro Hh ⟨x1, as, hrs, rg⟩
      rw [Int.toNat_natCast] at rg
      dsimp only [gName]
      have asH : ∀ c ∈ as, H c = none := fun c hc => fresh_back eD (rg.new c hc)
      refine q_forL (xs := xs) (ev_var rfl) (sq_of (x1 _ _ h3)) (fun i σ' H' => Ex H H' ∧ ∃ (y4 y5 y6 : Option V), σ' = [some (.int (n : Int)), some (.ref a), some (.ref D), y4, y5, y6] ∧ H' D = some (.lst (as.map V.ref)) ∧ RwV (upd H D (.lst [])) H' as n (adj (os.take i)))
        (fun H4 e4 => ⟨x1.trans e4, _, _, _, rfl, e4 _ _ hrs, rg.ex e4⟩) (fun i σ' H' _ h => sq_of (h.1 _ _ h3)) ?_ ?_
      · rintro i x σ' H4 hx ⟨e4, y4, y5, y6, rfl, hD4, rw4⟩
        obtain ⟨e, he, tp, rfl, htp⟩ := h4.get hx
        have ein := ein e (List.mem_of_getElem? he)
        have il : i < os.length := (List.getElem?_eq_some_iff.mp he).1
        have adl : ∀ j, (adj (os.take i) j).length ≤ 60 := fun j => by
          unfold adj
          have h1 := List.length_filterMap_le (other j) (os.take i)
          have h2 := List.length_take_le i os
          omega
        obtain ⟨c1, hc1⟩ : ∃ c, as[e.1]? = some c := ⟨_, List.getElem?_eq_getElem (by rw [rw4.len]; omega)⟩
        obtain ⟨c2, hc2⟩ : ∃ c, as[e.2]? = some c := ⟨_, List.getElem?_eq_getElem (by rw [rw4.len]; omega)⟩
        have at' : ∀ {j : Nat} {c : Addr}, as[j]? = some c → (as.map V.ref)[j]? = some (.ref c) := fun h => by
          rw [List.getElem?_map, h]
          rfl
        refine ⟨tp, _, rfl, st_of (e4 _ _ htp), rfl, _, _, rfl, _, [], rfl, rfl, ?_⟩
        have nD : ∀ {c : Addr}, c ∈ as → D ≠ c := fun hc z => by
          have := rg.new _ hc
          rw [← z, upd_same] at this
          cases this
        refine q_app (v := .int (e.2 : Int)) (rw4.at' _ _ hc1) (ev_op (ev_var rfl) (ev_var rfl) (rv_ixL (sq_of hD4) (atI_nat (at' hc1)))) (ev_var rfl) (by rw [List.length_map]; have := adl e.1; omega) fun H5 e5 => ?_
        have m1 := List.mem_of_getElem? hc1
        have m2 := List.mem_of_getElem? hc2
        have e1 : nats (adj (os.take i) e.1) ++ [V.int (e.2 : Int)] = nats (adj (os.take i) e.1 ++ [e.2]) := by
          unfold nats
          rw [List.map_append]
          rfl
        rw [e1]
        have rw5 := (rw4.ex e5).put (l := adj (os.take i) e.1 ++ [e.2]) hc1
        have hD5 : upd H5 c1 (.lst (nats (adj (os.take i) e.1 ++ [e.2]))) D = some (.lst (as.map V.ref)) := by
          rw [upd_ne (nD m1)]
          exact e5 _ _ hD4
        have f2 := rw5.at' _ _ hc2
        rw [if_neg (show ¬ e.2 = e.1 by omega)] at f2
        refine s_app (v := .int (e.1 : Int)) f2 (ev_op (ev_var rfl) (ev_var rfl) (rv_ixL (sq_of hD5) (atI_nat (at' hc2)))) (ev_var rfl) (by rw [List.length_map]; have := adl e.2; omega) fun H6 e6 => ?_
        have e2 : nats (adj (os.take i) e.2) ++ [V.int (e.1 : Int)] = nats (adj (os.take i) e.2 ++ [e.1]) := by
          unfold nats
          rw [List.map_append]
          rfl
        rw [e2]
        have rw6 := (rw5.ex e6).put (l := adj (os.take i) e.2 ++ [e.1]) hc2
        refine ⟨((((e4.trans e5).mut (asH _ m1)).trans e6).mut (asH _ m2)), _, _, _, rfl, ?_, rw6.like fun j => ?_⟩
        · rw [upd_ne (nD m2)]
          exact e6 _ _ hD5
        · rw [adj_snoc he ein.1]
          by_cases j2 : j = e.2
          · rw [if_pos j2, if_pos j2, if_neg (show ¬ e.2 = e.1 by omega)]
          · rw [if_neg j2, if_neg j2]
            by_cases j1 : j = e.1
            · rw [if_pos j1, if_pos j1, j1]
            · rw [if_neg j1, if_neg j1]
      · rintro σ' H4 ⟨e4, y4, y5, y6, rfl, hD4, rw4⟩
        rw [h4.length, List.take_length] at rw4
        exact s_ret (v := .ref D) (ev_var rfl) fun H5 e5 => q H5 D as (e4.trans e5) hD (e5 _ _ hD4) ((rw4.ex e5).weak eD)
end
end K14
namespace K14
open PySem PySem.Spec PyProof.Rows L2 Os Evl
abbrev sIsTurn : Stmt := topS 15
theorem scIsTurn : FnScope ["n", "nearby", "thing", "entry"] ["n", "nearby", "thing"] (defScope sIsTurn) := ⟨rfl, rfl, rfl, by decide +kernel, rfl, by decide +kernel, by decide +kernel⟩
abbrev sIsTurns : Stmt := topS 16
theorem scIsTurns : FnScope ["forest", "thing", "n", "nearby", "turn"] ["forest", "thing"] (defScope sIsTurns) := ⟨rfl, rfl, rfl, by decide +kernel, rfl, by decide +kernel, by decide +kernel⟩
theorem adj_asc {n : Nat} {es : List Pr} (E : Edges n es) (h : Nat) : (adj es h).Pairwise (· < ·) := by
  unfold adj
  refine List.pairwise_filterMap.mpr (List.Pairwise.imp_of_mem (fun {e f} he hf lt b hb b' hb' => ?_) E.asc)
  have := E.inn e he
  have := E.inn f hf
  rw [ltP_iff] at lt
  unfold other at hb hb'
  by_cases a1 : e.1 = h
  · rw [if_pos a1] at hb
    cases hb
    by_cases c1 : f.1 = h
    · rw [if_pos c1] at hb'
      cases hb'
      omega
    · rw [if_neg c1] at hb'
      by_cases c2 : f.2 = h
      · rw [if_pos c2] at hb'
        cases hb'
        omega
      · rw [if_neg c2] at hb'
        cases hb'
  · rw [if_neg a1] at hb
    by_cases a2 : e.2 = h
    · rw [if_pos a2] at hb
      cases hb
      by_cases c1 : f.1 = h
      · rw [if_pos c1] at hb'
        cases hb'
        omega
      · rw [if_neg c1] at hb'
        by_cases c2 : f.2 = h
        · rw [if_pos c2] at hb'
          cases hb'
          omega
        · rw [if_neg c2] at hb'
          cases hb'
    · rw [if_neg a2] at hb
      cases hb
def intD : PyData → Int
  | .int i => i
  | _ => 0
def turnB (n : Int) (near : List Nat) : PyData → Bool
  | .list ds => ds.all (posB n) && (ds.map intD).isPerm (near.map fun x : Nat => (x : Int))
  | _ => false
def turnsB (n : Nat) (es : List Pr) : PyData → Bool
  | .list ds => decide (ds.length = n) && (List.range n).all fun i => turnB (n : Int) (adj es i) (ds.getD i .none)
  | _ => false
def intsD (l : List Int) : List PyData := l.map .int
theorem dts_ints {G : Hp} : ∀ c : List Int, Dts G (c.map V.int) (intsD c)
  | [] => .nil
  | x :: c => .cons (.int _) (dts_ints c)
theorem sh_ints (n : Nat) (c : List Int) : Sh (n + 1) (.list (intsD c)) := .lst fun d hd => by
  obtain ⟨x, _, rfl⟩ := List.mem_map.mp hd
  exact .int n _
theorem eqv_ints : ∀ a b : List Int, PyData.eqvAll (intsD a) (intsD b) = decide (a = b)
  | [], [] => rfl
  | [], _ :: _ => rfl
  | _ :: _, [] => rfl
  | x :: a, y :: b => by
    show (PyData.eqv (.int x) (.int y) && PyData.eqvAll (intsD a) (intsD b)) = _
    rw [eqv_ints a b, show PyData.eqv (.int x) (.int y) = (x == y) from rfl]
    by_cases h1 : x = y
    · subst h1
      rw [beq_self_eq_true, Bool.true_and]
      exact decide_eq_decide.mpr ⟨fun h => by rw [h], fun h => (List.cons.inj h).2⟩
    · rw [beq_eq_false_iff_ne.mpr h1, Bool.false_and, decide_eq_false fun z => h1 (List.cons.inj z).1]
theorem natsD_ints (l : List Nat) : natsD l = intsD (l.map fun x : Nat => (x : Int)) := by
  unfold natsD intsD
  rw [List.map_map]
  rfl
theorem all_ints {H : Hp} {n : Int} : ∀ {xs : List V} {ds : List PyData}, Dts H xs ds → ds.all (posB n) = true → xs = (ds.map intD).map V.int
  | _, _, .nil, _ => rfl
  | _, _, .cons h t, p => by
    rw [List.all_cons, Bool.and_eq_true] at p
    have e := all_ints t p.2
    cases h with
    | int i => rw [e]; rfl
    | _ => cases p.1
theorem sorted_is {ns' ns near : List Int} (pm : ns'.Perm ns) (h1 : ns'.Pairwise (· ≤ ·)) (h2 : near.Pairwise (· ≤ ·)) : decide (ns' = near) = ns.isPerm near := by
  by_cases h : ns.Perm near
  · rw [List.isPerm_iff.mpr h]
    exact decide_eq_true (List.Perm.eq_of_pairwise (le := (· ≤ ·)) (fun a b _ _ x y => by omega) h1 h2 (pm.trans h))
  · have : ns.isPerm near = false := by
      cases e : ns.isPerm near with
      | false => rfl
      | true => exact absurd (List.isPerm_iff.mp e) h
    rw [this]
    exact decide_eq_false fun z => h (pm.symm.trans (by rw [z]))
/-- lists are no longer than a thousand -/
def Short : PyData → Prop
  | .list ds => ds.length ≤ 1000
  | _ => True
def Short2 : PyData → Prop
  | .list ds => ds.length ≤ 1000 ∧ ∀ d ∈ ds, Short d
  | _ => True
theorem Dt.list_or {H : Hp} {v : V} {d : PyData} (h : Dt H v d) : (∃ a xs ds, v = .ref a ∧ H a = some (.lst xs) ∧ Dts H xs ds ∧ d = .list ds) ∨ isListD d = false := by
  cases h with
  | lst h1 h2 => exact .inl ⟨_, _, _, rfl, h1, h2, rfl⟩
  | _ => exact .inr rfl
section
variable {P : Program} {w : World} {K : PySem.W.Frag} {mg : Str → Option Value} {base : Heap}
def spIsTurn : Sp := fun vs H Q _ => ∃ (n : Int) (b : Addr) (near : List Nat) (v : V) (d : PyData), vs = [.int n, .ref b, v] ∧ H b = some (.lst (nats near)) ∧ near.Pairwise (· < ·) ∧ Dt H v d ∧ Short d ∧ ∀ H', Ex H H' → Q (.bl (turnB n near d)) H'
def spIsTurns : Sp := fun vs H Q _ => ∃ (v t : V) (n : Nat) (es : List Pr) (d : PyData), vs = [v, t] ∧ GraphV H v n es ∧ IsForest n es ∧ Dt H t d ∧ Short2 d ∧ ∀ H', Ex H H' → Q (.bl (turnsB n es d)) H'
theorem ok_isturn {f fP : Addr} {fd fdP : FuncData} {k : Nat} (F : Fun K "_is_turn" "_is_turn" sIsTurn f fd)
    (GP : FnOk P w K mg base CX0 k fP fdP ["n", "thing"] spPos) (FP : Fun K "is_position" "is_position" sPos fP fdP) (bP : Binds K fdP ["n", "thing"] []) (gP : mg "is_position" = some (.ref fP))
    (mIsi : mg "isinstance" = none) (mList : mg "list" = none) (mAll : mg "all" = none) (mSorted : mg "sorted" = none) : FnOk P w K mg base CX0 (k + 1) f fd ["n", "nearby", "thing"] spIsTurn := by
  refine F.ok scIsTurn (fun vs H Q E h => ?_) (fun cdv A outer s H vs Q E hr h => ?_)
  · obtain ⟨n, b, near, v, d, rfl, _⟩ := h
    rfl
  · obtain ⟨n, b, near, v, d, rfl, hb, asc, hd, sh, q⟩ := h
    refine ⟨_, (pss_cons (ps_if (PW.pt (pw_or (pt_not (pt_val (pe_callB call_isi (by rfl) mIsi boot_isinstance (pa_cons (pv 2) (pa_cons (pe_bltn (v := .ty "list") (by rfl) mList boot_list rfl) pa_nil))))) (pw_or1 (pt_not (pt_val (pe_callB (cr_all rfl) (by rfl) mAll boot_all (pa_cons (pe_lc (own := [("entry", 3)]) (g := gName 3) (tt := tYes) rfl scIsTurn.nd (pi_list (pv 2)) (blkOk_by (N := ["n", "nearby", "thing", "entry"]) (sc := defScope sIsTurn) (by decide +kernel)) (fun _ _ _ _ _ => pg_name (i := 3) scIsTurn.nd rfl (Or.inl rfl)) (fun _ _ _ _ _ => pts_nil) (fun _ _ _ _ _ => (pe_call GP hr (by rfl) gP FP.kp bP .nil pass0 (pa_cons (pv 0) (pa_cons (pv 3) pa_nil))))) pa_nil))))))) (pss_one (ps_ret pe_bl)) pss_nil)
      (pss_one (ps_ret (pe_cmpR (op_eqD hr.units) (pe_callB cr_sortedI (by rfl) mSorted boot_sorted (pa_cons (pv 2) pa_nil)) (pv 1) (nomark _))))), ?_⟩
    have e0 : Ev (tVar 2) (start ["n", "nearby", "thing", "entry"] [.int n, .ref b, v]) H v := ev_var rfl
    rcases hd.list_or with ⟨a, xs, ds, rfl, ha, ht, rfl⟩ | hn
    · have hlen := ht.length
      have hl : ds.length ≤ 1000 := sh
      refine q_when (b := !true || !(ds.all (posB n))) (et_or (et_not (et_B (ev_isi e0 hd (kit_list _)))) fun _ => et_not (et_B (ev_is (ev_all (bs := ds.map (posB n)) ?_) (by rw [List.all_map]; rfl)))) (fun hb0 H1 e1 => ?_) (fun hb0 H1 e1 => ?_)
      · rw [List.map_map, ← given_map ds (V.bl ∘ posB n) (fun i => .bl (posB n (ds.getD i .none))) (fun i x e => by
          rw [List.getD_eq_getElem?_getD, e]
          rfl), ← hlen]
        refine el_lcL (f := fun _ => true) (v := _) (ev_var rfl) (sq_of ha) (by omega) (fun _ => rfl) (fun i c H2 _ _ => fun H3 e3 Q q => q H3 (Ex.refl H3)) (fun i x H4 e4 hx _ => ?_)
        obtain ⟨d1, hd1, dt1⟩ := ht.get hx
        rw [List.getD_eq_getElem?_getD, hd1]
        exact ev_sp (ea_cons (ev_var rfl) (ea_cons (ev_var rfl) ea_nil)) fun H5 e5 Q q => ⟨n, x, d1, rfl, dt1.same (same_ex (e4.trans e5)), fun H6 e6 => q H6 e6⟩
      · have hb1 : ds.all (posB n) = false := by simpa using hb0
        refine s_ret (v := .bl false) ev_c fun H2 e2 => ?_
        have : turnB n near (.list ds) = false := by
          show (ds.all (posB n) && _) = false
          rw [hb1, Bool.false_and]
        rw [← this]
        exact q H2 (e1.trans e2)
      · have hb1 : ds.all (posB n) = true := by simpa using hb0
        have ex := all_ints ht hb1
        refine ⟨.ref a, rfl, a, ds.map intD, rfl, sq_of (by rw [← ex]; exact e1 _ _ ha), fun ns' p pm pw hp => ?_⟩
        have x1 := Ex.new (o := .lst (ns'.map V.int)) hp
        refine ⟨.ref b, rfl, .list (intsD ns'), .list (natsD near), Dt.dp (.lst upd_same (dts_ints _)), Dt.dp (.lst (x1 _ _ (e1 _ _ hb)) (dts_nats _)), (sh_ints 0 ns').shaped (by decide), (sh_nats 0 near).shaped (by decide), ?_⟩
        have ee : PyData.eqv (.list (intsD ns')) (.list (natsD near)) = turnB n near (.list ds) := by
          show PyData.eqvAll (intsD ns') (natsD near) = (ds.all (posB n) && _)
          rw [natsD_ints, eqv_ints, hb1, Bool.true_and]
          exact sorted_is pm pw (List.pairwise_map.mpr (asc.imp fun {x y} h => by show (x : Int) ≤ (y : Int); omega))
        rw [ee]
        exact q _ (e1.trans x1)
    · refine q_when (b := true) (et_is (et_or (b := true) (et_not (et_B (ev_isi e0 hd (kit_list _)))) fun hs => ?_) ?_) (fun _ H1 e1 => ?_) (fun h => nomatch h)
      · rw [hn] at hs
        cases hs
      · rw [hn]
        rfl
      · have : turnB n near d = false := by
          cases d <;> first | rfl | cases hn
        refine s_ret (v := .bl false) ev_c fun H2 e2 => ?_
        rw [← this]
        exact q H2 (e1.trans e2)
theorem ok_isturns {f fF fL fT : Addr} {fd fdF fdL fdT : FuncData} {k : Nat} (F : Fun K "is_turns" "is_turns" sIsTurns f fd)
    (GF : FnOk P w K mg base CX0 k fF fdF ["forest"] spChkF) (FF : Fun K "check_forest" "check_forest" sChkF fF fdF) (bF : Binds K fdF ["forest"] []) (gF : mg "check_forest" = some (.ref fF))
    (GL : FnOk P w K mg base CX0 k fL fdL ["forest"] spLists) (FL : Fun K "neighbour_lists" "neighbour_lists" sLists fL fdL) (bL : Binds K fdL ["forest"] []) (gL : mg "neighbour_lists" = some (.ref fL))
    (GT : FnOk P w K mg base CX0 k fT fdT ["n", "nearby", "thing"] spIsTurn) (FT : Fun K "_is_turn" "_is_turn" sIsTurn fT fdT) (bT : Binds K fdT ["n", "nearby", "thing"] []) (gT : mg "_is_turn" = some (.ref fT))
    (mIsi : mg "isinstance" = none) (mList : mg "list" = none) (mAll : mg "all" = none) (mLen : mg "len" = none) (mZip : mg "zip" = none) : FnOk P w K mg base CX0 (k + 1) f fd ["forest", "thing"] spIsTurns := by
  refine F.ok scIsTurns (fun vs H Q E h => ?_) (fun cdv A outer s H vs Q E hr h => ?_)
  · obtain ⟨v, t, n, es, d, rfl, _⟩ := h
    rfl
  · obtain ⟨v, t, n, es, d, rfl, hg, ok, hd, sh, q⟩ := h
    refine ⟨_, (pss_cons (ps_expr (pe_call GF hr (by rfl) gF FF.kp bF .nil pass0 (pa_cons (pv 0) pa_nil)))
      (pss_cons (ps_set (i := 2) scIsTurns.nd rfl (.inr rfl) (pe_ix ix_tup (pv 0) pe_int (fun _ _ => rfl)))
      (pss_cons (ps_if (PW.pt (pw_or (pt_not (pt_val (pe_callB call_isi (by rfl) mIsi boot_isinstance (pa_cons (pv 1) (pa_cons (pe_bltn (v := .ty "list") (by rfl) mList boot_list rfl) pa_nil))))) (pw_or1 (pt_cmpR op_ne (pe_callB call_len_seq (by rfl) mLen boot_len (pa_cons (pv 1) pa_nil)) (pv 2) (nomark _))))) (pss_one (ps_ret pe_bl)) pss_nil)
      (pss_one (ps_ret (pe_callB (cr_all rfl) (by rfl) mAll boot_all (pa_cons (pe_lc (own := [("nearby", 3), ("turn", 4)]) (g := gTup K 2 (gCons (gName 3) (gCons (gName 4) gNil))) (tt := tYes) (te := tCall spIsTurn [] E0 (tCons (tVar 2) (tCons (tVar 3) (tCons (tVar 4) tNil)))) rfl scIsTurns.nd (pi_zip (by rfl) mZip (pa_cons (pe_call GL hr (by rfl) gL FL.kp bL .nil pass0 (pa_cons (pv 0) pa_nil)) (pa_cons (pv 1) pa_nil))) (blkOk_by (N := ["forest", "thing", "n", "nearby", "turn"]) (sc := defScope sIsTurns) (by decide +kernel)) (fun _ _ _ _ _ => pg_tup rfl (pgs_cons (pg_name (i := 3) scIsTurns.nd rfl (Or.inl rfl)) (pgs_cons (pg_name (i := 4) scIsTurns.nd rfl (Or.inl rfl)) pgs_nil))) (fun _ _ _ _ _ => pts_nil) (fun _ _ _ _ _ => (pe_call GT hr (by rfl) gT FT.kp bT .nil pass0 (pa_cons (pv 2) (pa_cons (pv 3) (pa_cons (pv 4) pa_nil)))))) pa_nil))))))), ?_⟩
    refine q_drop (v := .non) (ev_sp (ea_cons (ev_var rfl) ea_nil) fun H1 e1 Q q => ⟨_, n, es, rfl, hg.ex e1, ok, q⟩) fun H1 e1 => ?_
    have hg1 := hg.ex e1
    have hg0 := hg1
    obtain ⟨g, a, ys, rfl, h2, h3, h4⟩ := hg1
    have n40 := ok.n40
    refine q_asg (v := .int (n : Int)) (ev_op (ev_var rfl) ev_c (rv_ixT (st_of h2) (atI_nat (j := 0) rfl))) fun H2 e2 => ?_
    have e12 := e1.trans e2
    have hd2 := hd.same (same_ex e12)
    rcases hd2.list_or with ⟨b, xs, ds, rfl, hb, ht, rfl⟩ | hn
    · have hlen := ht.length
      obtain ⟨hl, hsh⟩ : ds.length ≤ 1000 ∧ ∀ d ∈ ds, Short d := sh
      refine q_when (b := !true || !decide (V.int (xs.length : Int) = V.int (n : Int))) (et_or (et_not (et_B (ev_isi (ev_var rfl) hd2 (kit_list _)))) fun _ => et_test (ev_op (ev_len' (ev_var rfl) hb) (ev_var rfl) (rv_ne rfl))) (fun hb0 H3 e3 => ?_) (fun hb0 H3 e3 => ?_)
      · have hb1 : (!decide (V.int (xs.length : Int) = V.int (n : Int))) = true := hb0
        have hb2 := of_decide_eq_false ((Bool.not_eq_true' _).mp hb1)
        have : turnsB n es (.list ds) = false := by
          show (decide (ds.length = n) && _) = false
          rw [decide_eq_false fun z => hb2 (by rw [hlen, z]), Bool.false_and]
        refine s_ret (v := .bl false) ev_c fun H4 e4 => ?_
        rw [← this]
        exact q H4 ((e12.trans e3).trans e4)
      · have hb1 : (!decide (V.int (xs.length : Int) = V.int (n : Int))) = false := hb0
        have hb2 := V.int.inj (of_decide_eq_true ((Bool.not_eq_false' _).mp hb1))
        have dl : ds.length = n := by omega
        have e13 := e12.trans e3
        refine s_ret (v := .bl (turnsB n es (.list ds))) (ev_is (ev_all (bs := (List.range n).map fun i => turnB (n : Int) (adj es i) (ds.getD i .none)) ?_) ?_) fun H4 e4 => q H4 (e13.trans e4)
        · intro H0 e0 Q' q'
          have e20 := (e2.trans e3).trans e0
          refine ⟨.ref g, rfl, .ref g, n, es, rfl, hg0.ex e20, ok, fun H5 L as e5 hL h5 rw5 => ?_⟩
          refine ⟨.ref b, rfl, L, b, as.map V.ref, xs, rfl, sq_of h5, sq_of (e5 _ _ (e0 _ _ (e3 _ _ hb))), fun D hD => ?_⟩
          have ht5 := ht.same (same_ex ((e3.trans e0).trans e5))
          have hb5 := e5 _ _ (e0 _ _ (e3 _ _ hb))
          have al : (as.map V.ref).length = n := by rw [List.length_map, rw5.len]
          refine lc_it (walk_zip (n := n) (by omega)) (fun i Hh => Ex H5 Hh ∧ Hh D = some (.lst (((List.range i).map fun i => turnB (n : Int) (adj es i) (ds.getD i .none)).map V.bl))) ⟨Ex.new hD, upd_same⟩ (fun i Hh _ p => ⟨sq_of (p.1 _ _ h5), sq_of (p.1 _ _ hb5)⟩) ?_ ?_
          · rintro i y Ha Hb hi ⟨p1, p2⟩ ⟨T, y1, y2, rfl, nT, rfl, hy1, hy2⟩
            have hy1' : (as.map V.ref)[i]? = some y1 := hy1
            rw [List.getElem?_map] at hy1'
            cases hai : as[i]? with
            | none => rw [hai] at hy1'; cases hy1'
            | some c =>
              rw [hai] at hy1'
              cases hy1'
              obtain ⟨d2, hd2, dt2⟩ := ht5.get hy2
              have eT : Ex Ha (upd Ha T (.tup [.ref c, y2])) := Ex.new nT
              have eA := p1.trans eT
              refine ⟨T, [.ref c, y2], rfl, st_of upd_same, rfl, .ref c, [y2], rfl, y2, [], rfl, rfl, rfl, ?_⟩
              show tCall spIsTurn [] E0 (tCons (tVar 2) (tCons (tVar 3) (tCons (tVar 4) tNil))) _ _ _
              refine ⟨.int (n : Int), rfl, .ref c, rfl, y2, rfl, (n : Int), c, adj es i, y2, d2, rfl, eA _ _ (rw5.at' _ _ hai), adj_asc ok.edges i, dt2.same (same_ex eA), hsh d2 (List.mem_of_getElem? hd2), fun H6 e6 => ⟨_, e6 _ _ (eT _ _ p2), sz_lt (by rw [List.length_map, List.length_map, List.length_range]; omega), (eA.trans e6).mut hD, ?_⟩⟩
              rw [List.range_succ, List.map_append, List.map_append]
              show _ = some (HO.lst (_ ++ [V.bl (turnB (n : Int) (adj es i) (ds.getD i .none))]))
              rw [List.getD_eq_getElem?_getD, hd2]
              exact upd_same
          · rintro Hh ⟨p1, p2⟩
            exact q' D Hh (fresh_back e5 hD) (e5.trans p1) p2
        · show _ = V.bl (decide (ds.length = n) && _)
          rw [decide_eq_true dl, Bool.true_and, List.all_map]
          rfl
    · refine q_when (b := true) (et_is (et_or (b := true) (et_not (et_B (ev_isi (ev_var rfl) hd2 (kit_list _)))) fun hs => ?_) ?_) (fun _ H3 e3 => ?_) (fun h => nomatch h)
      · rw [hn] at hs
        cases hs
      · rw [hn]
        rfl
      · have : turnsB n es d = false := by
          cases d <;> first | rfl | cases hn
        refine s_ret (v := .bl false) ev_c fun H4 e4 => ?_
        rw [← this]
        exact q H4 ((e12.trans e3).trans e4)
end
end K14
/-! min of a list of pairs, remove of a pair -/
namespace Os
open PySem PySem.Spec PyProof.Rows L2 Evl

theorem prs_lay : ∀ es : List Pr, PyData.canLayAll0 (es.map Os.prD) = true
  | [] => by simp [PyData.canLayAll0]
  | e :: es => by simp [PyData.canLayAll0, PyData.canLay0, Os.prD, prs_lay es]
theorem pr_lay (e : Pr) : (Os.prD e).canLay0 = true := by simp [Os.prD, PyData.canLay0, PyData.canLayAll0]
theorem pr_depth (e : Pr) : (Os.prD e).depth = 1 := by simp [Os.prD, PyData.depth, PyData.depthAll]
theorem prs_depth : ∀ es : List Pr, PyData.depthAll (es.map Os.prD) ≤ 1
  | [] => by simp [PyData.depthAll]
  | e :: es => by
    have h1 := prs_depth es
    have h2 := pr_depth e
    simp only [List.map_cons, PyData.depthAll]
    omega
theorem lt_pr (e f : Pr) : PySem.W.dataLt (Os.prD e) (Os.prD f) = ltP e f := by
  show PyProof.Rows.lexLt itemOrd [.inl 1, .inl (e.1 : Int), .inl 1, .inl (e.2 : Int), .inl 0] [.inl 1, .inl (f.1 : Int), .inl 1, .inl (f.2 : Int), .inl 0] = ltP e f
  have hb : ∀ a b : Nat, itemOrd.blt (.inl (a : Int)) (.inl (b : Int)) = decide (a < b) := fun a b => decide_eq_decide.mpr (show (a : Int) < (b : Int) ↔ a < b by omega)
  have hn : ∀ {a b : Nat}, a ≠ b → (Sum.inl (a : Int) : Int ⊕ List Nat) ≠ .inl (b : Int) := fun h z => h (by have := Sum.inl.inj z; omega)
  rw [lex_self]
  unfold ltP
  by_cases h1 : e.1 = f.1
  · rw [h1, lex_self, lex_self, decide_eq_false (Nat.lt_irrefl _), decide_eq_true rfl, Bool.false_or, Bool.true_and]
    by_cases h2 : e.2 = f.2
    · rw [h2, lex_irrefl, decide_eq_false (Nat.lt_irrefl _)]
    · rw [lex_diff (O := itemOrd) (hn h2)]
      exact hb _ _
  · rw [lex_diff (O := itemOrd) (hn h1), decide_eq_false h1, Bool.false_and, Bool.or_false]
    exact hb _ _
/-- the least of e and es, the first of equal ones -/
def minP (e : Pr) (es : List Pr) : Pr := es.foldl (fun a y => if ltP y a = true then y else a) e
theorem minD_pr : ∀ (es : List Pr) (e : Pr), PySem.W.minD (Os.prD e) (es.map Os.prD) = Os.prD (minP e es)
  | [], _ => rfl
  | y :: es, e => by
    show PySem.W.minD (if PySem.W.dataLt (Os.prD y) (Os.prD e) = true then Os.prD y else Os.prD e) (es.map Os.prD) = Os.prD (minP (if ltP y e = true then y else e) es)
    rw [lt_pr]
    by_cases h : ltP y e = true
    · rw [if_pos h, if_pos h]
      exact minD_pr es y
    · rw [if_neg h, if_neg h]
      exact minD_pr es e
theorem minP_least : ∀ (es : List Pr) (e : Pr), ∀ f ∈ e :: es, ltP f (minP e es) = false
  | [], e, f, hf => by
    rw [List.mem_singleton.mp hf]
    show ltP e e = false
    rw [← Bool.not_eq_true, ltP_iff]
    omega
  | y :: es, e, f, hf => by
    show ltP f (minP (if ltP y e = true then y else e) es) = false
    by_cases h : ltP y e = true
    · rw [if_pos h]
      have ih := minP_least es y
      have iy := ih y List.mem_cons_self
      rcases List.mem_cons.mp hf with rfl | hf
      · rw [ltP_iff] at h
        rw [← Bool.not_eq_true, ltP_iff] at iy ⊢
        omega
      · exact ih f hf
    · rw [if_neg h]
      have ih := minP_least es e
      have ie := ih e List.mem_cons_self
      rcases List.mem_cons.mp hf with rfl | hf
      · exact ie
      · rcases List.mem_cons.mp hf with rfl | hf
        · rw [ltP_iff] at h
          rw [← Bool.not_eq_true, ltP_iff] at ie ⊢
          omega
        · exact ih f (List.mem_cons_of_mem _ hf)
theorem prD_inj {e f : Pr} (h : Os.prD e = Os.prD f) : e = f := by
  unfold Os.prD at h
  injection h with h
  injection h with h1 h
  injection h with h2 _
  injection h1 with h1
  injection h2 with h2
  exact Prod.ext (by omega) (by omega)
theorem alike_pr (e f : Pr) : PySem.W.alike (Os.prD e) (Os.prD f) = true := by simp [Os.prD, PySem.W.alike, PySem.W.alikeAll]
section
variable {X : Cx}
def rMinP (K : PySem.W.Frag) : List V → Hp → VK → Prop := fun vs H Q => ∃ (a : Addr) (xs : List V) (es : List Pr), vs = [V.ref a] ∧ H a = some (.lst xs) ∧ PrsV H xs es ∧ es ≠ [] ∧
  ∀ (i : Nat) (v : V) (e : Pr), xs[i]? = some v → es[i]? = some e → (∀ f ∈ es, ltP f e = false) → Q v H
theorem cr_minP (hc : X.calm = true) (hu : X.A.units + 64 < cLine) : CallR X (.builtin "min") (rMinP X.K) := by
  intro pins s σ H vs us Q I r h
  obtain ⟨a, xs, es, rfl, ha, hp, ne, q⟩ := h
  obtain ⟨its, rv, hl, _⟩ := I.list (sq_of ha)
  rw [Vals.ref1 r]
  cases es with
  | nil => exact absurd rfl ne
  | cons e es =>
    obtain ⟨as, rd⟩ := Dp.readsAll I ((e :: es).map Os.prD) xs its hp.dts.dp rv
    refine PySem.W.min_list_data (x := Os.prD e) (xs := es.map Os.prD) (I.ok.hd hc) hl.isList rd ⟨fun x hx y hy => ?_, fun x hx => ?_⟩ (by have : PyData.depthAll (Os.prD e :: es.map Os.prD) ≤ 1 := prs_depth (e :: es); omega) fun i v h' tk bs hv rdm hk => ?_
    · have hx' : x ∈ (e :: es).map Os.prD := hx
      have hy' : y ∈ (e :: es).map Os.prD := hy
      obtain ⟨x1, _, rfl⟩ := List.mem_map.mp hx'
      obtain ⟨y1, _, rfl⟩ := List.mem_map.mp hy'
      exact alike_pr x1 y1
    · have hx' : x ∈ (e :: es).map Os.prD := hx
      obtain ⟨x1, _, rfl⟩ := List.mem_map.mp hx'
      exact fun z => nomatch z
    · have hv' : its[i]? = some v := by simpa using hv
      have il : i < xs.length := by
        rw [rv.length]
        exact (List.getElem?_eq_some_iff.mp hv').1
      have hx : xs[i]? = some xs[i] := List.getElem?_eq_getElem il
      generalize xs[i] = x at hx
      obtain ⟨u, hu1, ru⟩ := rv.get hx
      rw [hv'] at hu1
      cases hu1
      obtain ⟨e', he', pe⟩ := hp.get hx
      obtain ⟨bs', rd'⟩ := Dp.reads I (Os.prD e') x v pe.dt.dp ru
      have r1 := SeqAt.readOf_eq (pr_lay e') (PySem.W.reads_keeps hk rd')
      rw [minD_pr] at rdm
      have r2 := SeqAt.readOf_eq (pr_lay _) rdm
      have ee : e' = minP e es := prD_inj (r1.symm.trans r2)
      subst ee
      exact ⟨x, H, I.kept hk, ru, q i x _ hx he' (minP_least es e)⟩
/-- l.remove(x) of a list of pairs -/
def rRemP : V → List V → Hp → VK → Prop := fun x vs H Q => ∃ (l : Addr) (xs : List V) (es : List Pr) (v : V) (e : Pr) (j : Nat), x = .ref l ∧ vs = [v] ∧ H l = some (.lst xs) ∧ PrsV H xs es ∧ PrV H v e ∧ es[j]? = some e ∧ (∀ m, m < j → es[m]? ≠ some e) ∧
  Q .non (upd H l (.lst (xs.eraseIdx j)))
theorem eqv_prs (e f : Pr) : PyData.eqv (Os.prD e) (Os.prD f) = decide (e = f) := by
  have h : PyData.eqv (Os.prD e) (Os.prD f) = ((e.1 : Int) == (f.1 : Int) && ((e.2 : Int) == (f.2 : Int) && true)) := by
    simp [Os.prD, PyData.eqv, PyData.eqvAll]
  rw [h, Bool.and_true]
  by_cases h1 : e.1 = f.1
  · by_cases h2 : e.2 = f.2
    · rw [decide_eq_true (Prod.ext h1 h2), h1, h2, beq_self_eq_true, beq_self_eq_true]
      rfl
    · rw [decide_eq_false (fun z => h2 (congrArg Prod.snd z)), show ((e.2 : Int) == (f.2 : Int)) = false from beq_eq_false_iff_ne.mpr (by omega), Bool.and_false]
  · rw [decide_eq_false (fun z => h1 (congrArg Prod.fst z)), show ((e.1 : Int) == (f.1 : Int)) = false from beq_eq_false_iff_ne.mpr (by omega), Bool.false_and]
theorem mt_remP (hu : X.A.units + 64 < cLine) : MtR X "list.remove" rRemP := by
  intro pins s σ H x xs v us Q I rx rxs h
  obtain ⟨l, zs, es, y, e, j, rfl, rfl, hH, hp, hy, hj, hno, q⟩ := h
  cases rx
  obtain ⟨u, rfl, ru⟩ := rxs.one
  obtain ⟨z, its, n, r, hl, e0⟩ := I.lstM hH
  obtain ⟨bs, r1⟩ := Dp.reads I (Os.prD e) y u hy.dt.dp ru
  obtain ⟨as, h4⟩ := Dp.readsAll I (es.map Os.prD) zs its hp.dts.dp r
  have hxs := prs_lay es
  have hle := hp.length
  have hmap : its.map (SeqAt.readOf s.heap) = es.map Os.prD := SeqAt.readsAll_map (es.map Os.prD) its as hxs h4
  have jl : j < es.length := (List.getElem?_eq_some_iff.mp hj).1
  have hjs : j < its.toArray.size := by rw [List.size_toArray]; omega
  have at_ : ∀ (m : Nat) (hm : m < its.toArray.size) (f : Pr), es[m]? = some f → SeqAt.readOf s.heap its.toArray[m] = Os.prD f := by
    intro m hm f hf
    have hml : m < its.length := by simpa using hm
    have e1 : (its.map (SeqAt.readOf s.heap))[m]? = (es.map Os.prD)[m]? := by rw [hmap]
    rw [List.getElem?_map, List.getElem?_map, List.getElem?_eq_getElem hml, hf] at e1
    have e2 := Option.some.inj e1
    simpa using e2
  have dp := prs_depth es
  have de := pr_depth e
  refine call_meets PySem.F.slot_list_remove ⟨_, e0, rfl⟩ PySem.F.entry_list_remove (PySem.F.args_list_remove_2 _ _)
    (SeqAt.list_removeAt l its.toArray n none #[] u (fun w => PyData.eqv (SeqAt.readOf s.heap w) (Os.prD e)) j hjs ?_ ?_ (by rw [List.size_toArray, ← hl]; exact z)) ⟨e0, SeqAt.items_eqAt (vs := its.toArray) (show ReadsAll s.heap its.toArray.toList (es.map Os.prD) as from h4) r1 hxs (pr_lay e) (by omega), ?_⟩
  · show PyData.eqv (SeqAt.readOf s.heap its.toArray[j]) (Os.prD e) = true
    rw [at_ j hjs e hj, eqv_prs, decide_eq_true rfl]
  · intro m hm hmj
    have hf : es[m]? = some es[m] := List.getElem?_eq_getElem (by omega)
    show PyData.eqv (SeqAt.readOf s.heap its.toArray[m]) (Os.prD e) = false
    rw [at_ m hm _ hf, eqv_prs]
    refine decide_eq_false fun w => hno m hmj ?_
    rw [hf, w]
  · refine ⟨.non, _, I.lset (its' := its.eraseIdx j) hH e0 ?_ (r.eraseIdx j) ?_, rfl, q⟩
    · show its.toArray.eraseIdxIfInBounds j = (its.eraseIdx j).toArray
      rw [List.eraseIdxIfInBounds_toArray]
    · have := len_erase zs j
      omega
/-- list(x), x a text -/
def signsV (z : Str) : List V := z.cps.toList.map fun c => V.str ⟨#[c]⟩
def rListStr : List V → Hp → VK → Prop := fun vs H Q => ∃ z : Str, vs = [V.str z] ∧ z.length ≤ sizeLine ∧ ∀ l, H l = none → Q (.ref l) (upd H l (.lst (signsV z)))
theorem vals_at : ∀ {xs : List V} {us : List Value}, xs.length = us.length → (∀ (i : Nat) (x : V) (u : Value), xs[i]? = some x → us[i]? = some u → RelV x u) → Vals xs us
  | [], [], _, _ => .nil
  | x :: xs, u :: us, hl, h => .cons (h 0 x u rfl rfl) (vals_at (by simpa using hl) fun i y v h1 h2 => h (i + 1) y v (by simpa using h1) (by simpa using h2))
  | [], _ :: _, hl, _ => by simp at hl
  | _ :: _, [], hl, _ => by simp at hl
theorem call_listS (hc : X.calm = true) : CallR X (.type "list") rListStr := by
  intro pins s σ H vs us Q I r h
  obtain ⟨z, rfl, hz, q⟩ := h
  obtain ⟨u, rfl, t, rfl⟩ := vals1 r
  refine call_list_str (I.ok.hd hc) z t (fun h' tk acc' c' hk hS hacc => ?_) (hn := hz)
  have hsz : acc'.size = z.cps.size := hacc.1
  have hl : (signsV z).length = acc'.toList.length := by
    unfold signsV
    rw [List.length_map, Array.length_toList, Array.length_toList, hsz]
  refine ⟨.ref s.heap.objs.size, upd H s.heap.objs.size (.lst (signsV z)), I.laid (t' := tk) hk (Nat.le_refl _) ⟨?_, acc'.toList, c', vals_at hl fun i x v h1 h2 => ?_, by simpa using hS⟩, rfl, q _ (I.hok.fresh (Nat.le_refl _))⟩
  · unfold signsV
    rw [List.length_map, Array.length_toList]
    exact hz
  · obtain ⟨c, tk', hc', rfl⟩ := hacc.2 i v (by simpa using h2)
    unfold signsV at h1
    rw [List.getElem?_map, Array.getElem?_toList, hc'] at h1
    cases h1
    exact ⟨_, rfl⟩
end
end Os
/-! one more edge: a cycle exactly where its ends are joined already -/
namespace Os
open PySem PySem.Spec PyProof.Rows L2 Evl
def Resp (S : Nat → Bool) (es : List Pr) : Prop := ∀ f ∈ es, S f.1 = S f.2
def Conn (es : List Pr) (x y : Nat) : Prop := ∀ S : Nat → Bool, Resp S es → S x = S y
theorem bridges_add {es : List Pr} {e : Pr} {S : Nat → Bool} (h : Bridges es) (r : Resp S es) (s : S e.1 ≠ S e.2) : Bridges (es ++ [e]) := fun f hf => by
  rcases List.mem_append.mp hf with hf | hf
  · obtain ⟨T, t1, t2⟩ := h f hf
    by_cases q : T e.1 = T e.2
    · exact ⟨T, t1, fun g hg ne => by
        rcases List.mem_append.mp hg with hg | hg
        · exact t2 g hg ne
        · rw [List.mem_singleton.mp hg]
          exact q⟩
    · refine ⟨fun x => T x != S x, fun z => t1 ?_, fun g hg ne => ?_⟩
      · have rf := r f hf
        revert z
        show (T f.1 != S f.1) = (T f.2 != S f.2) → _
        rw [rf]
        cases T f.1 <;> cases T f.2 <;> cases S f.2 <;> simp
      · show (T g.1 != S g.1) = (T g.2 != S g.2)
        rcases List.mem_append.mp hg with hg | hg
        · rw [t2 g hg ne, r g hg]
        · rw [List.mem_singleton.mp hg]
          revert q s
          cases T e.1 <;> cases T e.2 <;> cases S e.1 <;> cases S e.2 <;> simp
  · rw [List.mem_singleton.mp hf]
    exact ⟨S, s, fun g hg ne => by
      rcases List.mem_append.mp hg with hg | hg
      · exact r g hg
      · exact absurd (List.mem_singleton.mp hg) ne⟩
theorem cyc_bridges : ∀ {r done : List Pr} {t : List Nat}, Bridges done → (∀ f ∈ done ++ r, f.1 < t.length ∧ f.2 < t.length) → (∀ f ∈ done, t.getD f.1 0 = t.getD f.2 0) → cycB r t = false → Bridges (done ++ r)
  | [], done, _, h, _, _, _ => by rw [List.append_nil]; exact h
  | e :: r, done, t, h, hb, hl, c => by
    unfold cycB at c
    split at c
    · cases c
    · rename_i ne
      obtain ⟨b1, b2⟩ := hb e (by simp)
      have h2 : Bridges (done ++ [e]) := bridges_add (S := fun x => decide (t.getD x 0 = t.getD e.1 0)) h (fun f hf => by
        show decide _ = decide _
        rw [hl f hf]) (by
        show decide _ ≠ decide _
        rw [decide_eq_true rfl, decide_eq_false (fun z => ne z.symm)]
        decide)
      have := cyc_bridges (r := r) (done := done ++ [e]) (t := merge t e) h2 (fun f hf => by
        rw [merge_length]
        exact hb f (by simpa using hf)) (fun f hf => ?_) c
      · rw [List.append_assoc] at this
        exact this
      · rcases List.mem_append.mp hf with hf | hf
        · obtain ⟨f1, f2⟩ := hb f (by simp [hf])
          unfold merge
          rw [getD_map f1, getD_map f2, hl f hf]
        · rw [List.mem_singleton.mp hf]
          unfold merge
          rw [getD_map b1, getD_map b2, if_neg ne, if_pos rfl]
/-- edges that a graph of n places may have, each once -/
structure Simple (n : Nat) (es : List Pr) : Prop where
  inn : ∀ e ∈ es, e.1 < e.2 ∧ e.2 < n
  asc : es.Pairwise fun e f => ltP e f = true
theorem Simple.nodup {n : Nat} {es : List Pr} (h : Simple n es) : es.Nodup := h.asc.imp fun {a b} q e => by
  rw [e, ltP_irr] at q
  cases q
theorem Simple.cyc {n : Nat} {es : List Pr} (h : Simple n es) : cycB es (List.range n) = false ↔ Bridges es := by
  constructor
  · intro c
    have := cyc_bridges (r := es) (done := []) (t := List.range n) (fun e he => nomatch he) (fun f hf => by
      have := h.inn f hf
      rw [List.length_range]
      omega) (fun f hf => nomatch hf) c
    exact this
  · intro b
    exact Edges.no_cyc ⟨h.inn, h.asc, b⟩
theorem Edges.simple {n : Nat} {es : List Pr} (h : Edges n es) : Simple n es := ⟨h.inn, h.asc⟩
theorem Simple.edges {n : Nat} {es : List Pr} (h : Simple n es) (b : Bridges es) : Edges n es := ⟨h.inn, h.asc, b⟩
theorem Simple.filter {n : Nat} {es : List Pr} (h : Simple n es) (p : Pr → Bool) : Simple n (es.filter p) := ⟨fun e he => h.inn e (List.mem_filter.mp he).1, h.asc.filter p⟩
theorem Bridges.filter {es : List Pr} (h : Bridges es) (p : Pr → Bool) : Bridges (es.filter p) := fun e he => by
  obtain ⟨S, h1, h2⟩ := h e (List.mem_filter.mp he).1
  exact ⟨S, h1, fun f hf => h2 f (List.mem_filter.mp hf).1⟩
/-- what can be reached from a place -/
structure Reach (es : List Pr) (x : Nat) (R : List Nat) : Prop where
  start : x ∈ R
  closed : ∀ f ∈ es, f.1 ∈ R ↔ f.2 ∈ R
  conn : ∀ v ∈ R, Conn es x v
theorem add_one {n : Nat} {es fs : List Pr} {e : Pr} {R : List Nat} (b : Bridges es) (nm : e ∉ es) (s : Simple n fs) (pm : fs.Perm (es ++ [e])) (rc : Reach es e.1 R) : (!cycB fs (List.range n)) = !decide (e.2 ∈ R) := by
  by_cases h : e.2 ∈ R
  · rw [decide_eq_true h]
    cases c : cycB fs (List.range n) with
    | true => rfl
    | false =>
      have bf := (s.cyc.mp c).perm pm.symm
      obtain ⟨S, h1, h2⟩ := bf e (by simp)
      exact absurd (rc.conn _ h S fun f hf => h2 f (by simp [hf]) fun z => nm (z ▸ hf)) h1
  · rw [decide_eq_false h]
    have : Bridges fs := (bridges_add (S := fun x => decide (x ∈ R)) b (fun f hf => decide_eq_decide.mpr (rc.closed f hf)) (by
      show decide _ ≠ decide _
      rw [decide_eq_true rc.start, decide_eq_false h]
      decide)).perm pm
    rw [s.cyc.mpr this]
end Os
/-! where an order takes the items: rings, and their neighbours in the order of the swaps -/
namespace Os
open PySem PySem.Spec PyProof.Rows L2 Evl
/-! ### joined places -/
theorem Conn.refl (es : List Pr) (x : Nat) : Conn es x x := fun _ _ => rfl
theorem Conn.symm {es : List Pr} {x y : Nat} (h : Conn es x y) : Conn es y x := fun S hS => (h S hS).symm
theorem Conn.trans {es : List Pr} {x y z : Nat} (h : Conn es x y) (k : Conn es y z) : Conn es x z := fun S hS => (h S hS).trans (k S hS)
theorem Conn.edge {es : List Pr} {e : Pr} (h : e ∈ es) : Conn es e.1 e.2 := fun S hS => hS e h
theorem Conn.more {es : List Pr} {e : Pr} {x y : Nat} (h : Conn es x y) : Conn (es ++ [e]) x y := fun S hS => h S fun f hf => hS f (List.mem_append_left _ hf)
theorem conn_add {es : List Pr} {e : Pr} {p x : Nat} : Conn (es ++ [e]) p x ↔ Conn es p x ∨ (Conn es p e.1 ∧ Conn es e.2 x) ∨ (Conn es p e.2 ∧ Conn es e.1 x) := by
  constructor
  · intro h
    classical
    let T : Nat → Prop := fun y => Conn es p y ∨ (Conn es p e.1 ∧ Conn es e.2 y) ∨ (Conn es p e.2 ∧ Conn es e.1 y)
    have inv : ∀ {y z : Nat}, Conn es y z → T y → T z := fun c t => by
      rcases t with t | ⟨t, u⟩ | ⟨t, u⟩
      · exact .inl (t.trans c)
      · exact .inr (.inl ⟨t, u.trans c⟩)
      · exact .inr (.inr ⟨t, u.trans c⟩)
    have ab : T e.1 ↔ T e.2 := by
      constructor
      · rintro (t | ⟨t, u⟩ | ⟨t, u⟩)
        · exact .inr (.inl ⟨t, .refl _ _⟩)
        · exact .inr (.inl ⟨t, .refl _ _⟩)
        · exact .inl t
      · rintro (t | ⟨t, u⟩ | ⟨t, u⟩)
        · exact .inr (.inr ⟨t, .refl _ _⟩)
        · exact .inl t
        · exact .inr (.inr ⟨t, .refl _ _⟩)
    have := h (fun y => decide (T y)) fun f hf => by
      rcases List.mem_append.mp hf with hf | hf
      · exact decide_eq_decide.mpr ⟨inv (.edge hf), inv (Conn.edge hf).symm⟩
      · rw [List.mem_singleton.mp hf]
        exact decide_eq_decide.mpr ab
    have tp : decide (T p) = true := decide_eq_true (.inl (.refl _ _))
    have tx : decide (T x) = true := this.symm.trans tp
    exact of_decide_eq_true tx
  · have ce : Conn (es ++ [e]) e.1 e.2 := .edge (by simp)
    rintro (h | ⟨h, k⟩ | ⟨h, k⟩)
    · exact h.more
    · exact (h.more.trans ce).trans k.more
    · exact (h.more.trans ce.symm).trans k.more
theorem conn_none {p x : Nat} : Conn [] p x ↔ x = p := by
  constructor
  · intro h
    have := h (fun y => decide (y = p)) fun f hf => nomatch hf
    have tp : decide (p = p) = true := decide_eq_true rfl
    exact of_decide_eq_true (this.symm.trans tp)
  · rintro rfl
    exact .refl _ _
/-! ### where the item of a place ends -/
def sw (e : Pr) (x : Nat) : Nat := if x = e.1 then e.2 else if x = e.2 then e.1 else x
def mvs (os : List Pr) (p : Nat) : Nat := os.foldl (fun x e => sw e x) p
theorem mvs_snoc (os : List Pr) (e : Pr) (p : Nat) : mvs (os ++ [e]) p = sw e (mvs os p) := by
  unfold mvs
  rw [List.foldl_append]
  rfl
theorem sw_ne {e : Pr} {x : Nat} (h1 : x ≠ e.1) (h2 : x ≠ e.2) : sw e x = x := by
  unfold sw
  rw [if_neg h1, if_neg h2]
theorem sw_one (e : Pr) : sw e e.1 = e.2 := if_pos rfl
theorem sw_two (e : Pr) : sw e e.2 = e.1 := by
  unfold sw
  by_cases h : e.2 = e.1
  · rw [if_pos h, h]
  · rw [if_neg h, if_pos rfl]
/-- f leads from x through l to y -/
def Ch (f : Nat → Nat) : Nat → List Nat → Nat → Prop
  | x, [], y => f x = y
  | x, a :: l, y => f x = a ∧ Ch f a l y
theorem Ch.app {f : Nat → Nat} : ∀ {l m : List Nat} {x a y : Nat}, Ch f x (l ++ a :: m) y ↔ Ch f x l a ∧ Ch f a m y
  | [], _, _, _, _ => Iff.rfl
  | b :: l, m, x, a, y => by
    show f x = b ∧ Ch f b (l ++ a :: m) y ↔ (f x = b ∧ Ch f b l a) ∧ Ch f a m y
    rw [Ch.app (l := l)]
    exact ⟨fun ⟨h, k, j⟩ => ⟨⟨h, k⟩, j⟩, fun ⟨⟨h, k⟩, j⟩ => ⟨h, k, j⟩⟩
theorem Ch.turn {f : Nat → Nat} {l m : List Nat} {x a : Nat} (h : Ch f x (l ++ a :: m) x) : Ch f a (m ++ x :: l) a := by
  obtain ⟨h1, h2⟩ := Ch.app.mp h
  exact Ch.app.mpr ⟨h2, h1⟩
theorem Ch.sw {os : List Pr} {e : Pr} : ∀ {l : List Nat} {x y : Nat}, Ch (mvs os) x l y → e.1 ∉ l → e.2 ∉ l → Ch (mvs (os ++ [e])) x l (Os.sw e y)
  | [], x, y, h, _, _ => by
    show mvs (os ++ [e]) x = _
    rw [mvs_snoc, show mvs os x = y from h]
  | a :: l, x, y, ⟨h1, h2⟩, n1, n2 => by
    refine ⟨?_, Ch.sw h2 (fun z => n1 (List.mem_cons_of_mem _ z)) fun z => n2 (List.mem_cons_of_mem _ z)⟩
    rw [mvs_snoc, h1, sw_ne (fun z => n1 (z ▸ List.mem_cons_self)) fun z => n2 (z ▸ List.mem_cons_self)]
/-! ### rings -/
/-- the turn of a place: its neighbours in the order of the swaps -/
def turnOf (p : Nat) (os : List Pr) : List Nat := os.filterMap fun e => if e.1 = p then some e.2 else if e.2 = p then some e.1 else none
theorem turn_conn {os : List Pr} {p x : Nat} (h : x ∈ turnOf p os) : Conn os p x := by
  obtain ⟨e, he, h⟩ := List.mem_filterMap.mp h
  split at h
  · rename_i h1
    cases h
    rw [← h1]
    exact .edge he
  · split at h
    · rename_i h1
      cases h
      rw [← h1]
      exact (Conn.edge he).symm
    · cases h
theorem turn_snoc (os : List Pr) (e : Pr) (p : Nat) : turnOf p (os ++ [e]) = turnOf p os ++ (if e.1 = p then [e.2] else if e.2 = p then [e.1] else []) := by
  unfold turnOf
  rw [List.filterMap_append]
  congr 1
  by_cases h1 : e.1 = p
  · simp [h1]
  · by_cases h2 : e.2 = p
    · simp [h1, h2]
    · simp [h1, h2]
/-- l is the ring of p, read behind p -/
structure RingAt (os : List Pr) (p : Nat) (l : List Nat) : Prop where
  runs : Ch (mvs os) p l p
  nd : (p :: l).Nodup
  all : ∀ x, x ∈ p :: l ↔ Conn os p x
  turn : (l.filter fun x => decide (x ∈ turnOf p os)) = turnOf p os
theorem ring_none (p : Nat) : RingAt [] p [] := ⟨rfl, List.pairwise_singleton _ _, fun x => by rw [conn_none]; simp, rfl⟩
theorem filter_none {l : List Nat} {q : Nat → Bool} (h : ∀ x ∈ l, q x = false) : l.filter q = [] := List.filter_eq_nil_iff.mpr fun x hx => by rw [h x hx]; decide
theorem filter_like {l : List Nat} {q r : Nat → Bool} (h : ∀ x ∈ l, q x = r x) : l.filter q = l.filter r := List.filter_congr h
/-- every place has its ring under every order of edges that join ever new trees -/
theorem rings_at : ∀ {os : List Pr}, (∀ pre e post, os = pre ++ e :: post → e.1 ≠ e.2 ∧ ¬ Conn pre e.1 e.2) → ∀ p, ∃ l, RingAt os p l := by
  intro os
  generalize hn : os.length = n
  induction n generalizing os with
  | zero =>
    intro _ p
    rw [List.length_eq_zero_iff.mp hn]
    exact ⟨[], ring_none p⟩
  | succ n ih =>
    intro h p
    have ne : os ≠ [] := fun z => by rw [z] at hn; cases hn
    obtain ⟨pre, e, rfl⟩ : ∃ pre e, os = pre ++ [e] := ⟨os.dropLast, os.getLast ne, (List.dropLast_concat_getLast ne).symm⟩
    obtain ⟨ab, nc⟩ := h pre e [] rfl
    have ih := ih (os := pre) (by rw [List.length_append] at hn; simpa using hn) fun p1 f p2 q => h p1 f (p2 ++ [e]) (by rw [q, List.append_assoc]; rfl)
    -- both ends, in either order
    have both : ∀ a b, (a = e.1 ∧ b = e.2 ∨ a = e.2 ∧ b = e.1) → ∀ p, Conn pre p a → ∃ l, RingAt (pre ++ [e]) p l := by
      intro a b hab p pa
      have nab : ¬ Conn pre a b := by
        rcases hab with ⟨rfl, rfl⟩ | ⟨rfl, rfl⟩
        · exact nc
        · exact fun z => nc z.symm
      have swa : sw e a = b := by
        rcases hab with ⟨rfl, rfl⟩ | ⟨rfl, rfl⟩
        · exact sw_one e
        · exact sw_two e
      have swb : sw e b = a := by
        rcases hab with ⟨rfl, rfl⟩ | ⟨rfl, rfl⟩
        · exact sw_two e
        · exact sw_one e
      have cadd : ∀ {x : Nat}, Conn (pre ++ [e]) p x ↔ Conn pre p x ∨ Conn pre b x := fun {x} => by
        rw [conn_add]
        rcases hab with ⟨rfl, rfl⟩ | ⟨rfl, rfl⟩
        · constructor
          · rintro (z | ⟨_, z⟩ | ⟨z, _⟩)
            · exact .inl z
            · exact .inr z
            · exact absurd (pa.symm.trans z) nc
          · rintro (z | z)
            · exact .inl z
            · exact .inr (.inl ⟨pa, z⟩)
        · constructor
          · rintro (z | ⟨z, _⟩ | ⟨_, z⟩)
            · exact .inl z
            · exact absurd (z.symm.trans pa) nc
            · exact .inr z
          · rintro (z | z)
            · exact .inl z
            · exact .inr (.inr ⟨pa, z⟩)
      have tsn : ∀ q, turnOf q (pre ++ [e]) = turnOf q pre ++ (if q = a then [b] else if q = b then [a] else []) := fun q => by
        rw [turn_snoc]
        congr 1
        rcases hab with ⟨rfl, rfl⟩ | ⟨rfl, rfl⟩
        · simp only [eq_comm (a := q)]
        · simp only [eq_comm (a := q)]
          by_cases h1 : e.1 = q
          · have h2 : ¬ e.2 = q := fun z => ab (h1.trans z.symm)
            rw [if_pos h1, if_neg h2, if_pos h1]
          · rw [if_neg h1]
            by_cases h2 : e.2 = q
            · rw [if_pos h2, if_pos h2]
            · rw [if_neg h2, if_neg h2, if_neg h1]
      obtain ⟨v, rv⟩ := ih b
      have vb : ∀ x ∈ b :: v, Conn pre b x := fun x hx => (rv.all x).mp hx
      have apart : ∀ {x : Nat}, Conn pre b x → ¬ Conn pre a x := fun hb ha => nab (ha.trans hb.symm)
      have ea : ∀ {l : List Nat}, a ∉ l → b ∉ l → e.1 ∉ l ∧ e.2 ∉ l := fun n1 n2 => by
        rcases hab with ⟨rfl, rfl⟩ | ⟨rfl, rfl⟩
        · exact ⟨n1, n2⟩
        · exact ⟨n2, n1⟩
      have av : a ∉ v := fun z => apart (vb a (List.mem_cons_of_mem _ z)) (.refl _ _)
      have bv : b ∉ v := fun z => (List.nodup_cons.mp rv.nd).1 z
      have chv : Ch (mvs (pre ++ [e])) b v a := by
        have := rv.runs.sw (ea av bv).1 (ea av bv).2
        rwa [swb] at this
      by_cases pe : p = a
      · subst pe
        obtain ⟨u, ru⟩ := ih p
        have ub : ∀ x ∈ p :: u, Conn pre p x := fun x hx => (ru.all x).mp hx
        have au : p ∉ u := (List.nodup_cons.mp ru.nd).1
        have bu : b ∉ u := fun z => nab (ub b (List.mem_cons_of_mem _ z))
        have chu : Ch (mvs (pre ++ [e])) p u b := by
          have := ru.runs.sw (ea au bu).1 (ea au bu).2
          rwa [swa] at this
        refine ⟨u ++ b :: v, Ch.app.mpr ⟨chu, chv⟩, ?_, fun x => ?_, ?_⟩
        · rw [← List.cons_append]
          exact List.nodup_append.mpr ⟨ru.nd, rv.nd, fun x hx y hy z => apart (vb y hy) (z ▸ ub x hx)⟩
        · rw [cadd, ← ru.all, ← rv.all, ← List.cons_append, List.mem_append]
        · rw [tsn, if_pos rfl, List.filter_append, List.filter_cons]
          rw [if_pos (by simp)]
          rw [filter_none (l := v) fun x hx => by
            refine decide_eq_false fun z => ?_
            rcases List.mem_append.mp z with z | z
            · exact apart (vb x (List.mem_cons_of_mem _ hx)) (turn_conn z)
            · rw [List.mem_singleton.mp z] at hx
              exact bv hx]
          have : u.filter (fun x => decide (x ∈ turnOf p pre ++ [b])) = turnOf p pre := (filter_like (r := fun x => decide (x ∈ turnOf p pre)) fun x hx => decide_eq_decide.mpr ⟨fun z => by
            rcases List.mem_append.mp z with z | z
            · exact z
            · rw [List.mem_singleton.mp z] at hx
              exact absurd hx bu, fun z => List.mem_append_left _ z⟩).trans ru.turn
          rw [this]
      · obtain ⟨l, rl⟩ := ih p
        have lb : ∀ x ∈ p :: l, Conn pre p x := fun x hx => (rl.all x).mp hx
        have al : a ∈ l := by
          rcases List.mem_cons.mp ((rl.all a).mpr pa) with z | z
          · exact absurd z.symm pe
          · exact z
        obtain ⟨l1, l2, rfl⟩ := List.append_of_mem al
        have pb : p ≠ b := fun z => nab (pa.symm.trans (z ▸ .refl _ _))
        have bl : b ∉ p :: (l1 ++ a :: l2) := fun z => apart (.refl _ _) (pa.symm.trans (lb b z))
        have nd0 := rl.nd
        have pm1 : (p :: (l1 ++ a :: l2)).Perm (a :: (l2 ++ p :: l1)) := by
          have h1 : (p :: l1 ++ a :: l2).Perm (a :: l2 ++ p :: l1) := List.perm_append_comm
          exact h1
        have nd1 : (a :: (l2 ++ p :: l1)).Nodup := pm1.nodup_iff.mp nd0
        have au : a ∉ l2 ++ p :: l1 := (List.nodup_cons.mp nd1).1
        have bu : b ∉ l2 ++ p :: l1 := fun z => bl (pm1.mem_iff.mpr (List.mem_cons_of_mem _ z))
        have chu : Ch (mvs (pre ++ [e])) a (l2 ++ p :: l1) b := by
          have := rl.runs.turn.sw (ea au bu).1 (ea au bu).2
          rwa [swa] at this
        have pm2 : (p :: ((l1 ++ b :: v) ++ a :: l2)).Perm ((p :: (l1 ++ a :: l2)) ++ b :: v) := by
          refine List.Perm.cons p ?_
          show ((l1 ++ b :: v) ++ a :: l2).Perm ((l1 ++ a :: l2) ++ (b :: v))
          rw [List.append_assoc, List.append_assoc]
          exact List.Perm.append_left l1 List.perm_append_comm
        have whole : Ch (mvs (pre ++ [e])) a (l2 ++ p :: (l1 ++ b :: v)) a := by
          have := Ch.app.mpr ⟨chu, chv⟩
          rwa [List.append_assoc, List.cons_append] at this
        refine ⟨(l1 ++ b :: v) ++ a :: l2, whole.turn, ?_, fun x => ?_, ?_⟩
        · refine pm2.nodup_iff.mpr (List.nodup_append.mpr ⟨nd0, rv.nd, fun x hx y hy z => apart (vb y hy) (z ▸ pa.symm.trans (lb x hx))⟩)
        · rw [pm2.mem_iff, List.mem_append, rl.all, rv.all, cadd]
        · have hn : (b :: v).filter (fun x => decide (x ∈ turnOf p pre)) = [] := filter_none fun x hx => decide_eq_false fun z => apart (vb x hx) (pa.symm.trans (turn_conn z))
          rw [tsn, if_neg pe, if_neg pb, List.append_nil, List.filter_append, List.filter_append, hn, List.append_nil, ← List.filter_append]
          exact rl.turn
    by_cases p1 : Conn pre p e.1
    · exact both e.1 e.2 (.inl ⟨rfl, rfl⟩) p p1
    · by_cases p2 : Conn pre p e.2
      · exact both e.2 e.1 (.inr ⟨rfl, rfl⟩) p p2
      · obtain ⟨l, rl⟩ := ih p
        have n1 : e.1 ∉ p :: l := fun z => p1 ((rl.all _).mp z)
        have n2 : e.2 ∉ p :: l := fun z => p2 ((rl.all _).mp z)
        refine ⟨l, ?_, rl.nd, fun x => ?_, ?_⟩
        · have := rl.runs.sw (fun z => n1 (List.mem_cons_of_mem _ z)) (fun z => n2 (List.mem_cons_of_mem _ z))
          rwa [sw_ne (fun z => n1 (z ▸ List.mem_cons_self)) (fun z => n2 (z ▸ List.mem_cons_self))] at this
        · rw [rl.all, conn_add]
          exact ⟨.inl, fun z => z.elim id fun z => z.elim (fun z => absurd z.1 p1) fun z => absurd z.1 p2⟩
        · have t : turnOf p (pre ++ [e]) = turnOf p pre := by
            rw [turn_snoc, if_neg (show ¬ e.1 = p from fun z => n1 (by rw [z]; exact List.mem_cons_self)), if_neg (show ¬ e.2 = p from fun z => n2 (by rw [z]; exact List.mem_cons_self)), List.append_nil]
          rw [t]
          exact rl.turn
end Os
/-! an order's rings, as the program and the law read them -/
namespace Os
open PySem PySem.Spec PyProof.Rows L2 Evl
/-- an order of a forest's edges joins ever new trees -/
theorem order_ok {n : Nat} {es os : List Pr} (E : Edges n es) (pm : os.Perm es) : ∀ pre e post, os = pre ++ e :: post → e.1 ≠ e.2 ∧ ¬ Conn pre e.1 e.2 := by
  intro pre e post h
  have me : e ∈ es := pm.mem_iff.mp (by rw [h]; simp)
  have nd : os.Nodup := pm.nodup_iff.mpr E.nodup
  have := E.inn e me
  refine ⟨by omega, fun c => ?_⟩
  obtain ⟨S, s1, s2⟩ := E.br e me
  refine s1 (c S fun f hf => s2 f (pm.mem_iff.mp (by rw [h]; simp [hf])) fun z => ?_)
  rw [h] at nd
  exact (List.nodup_append.mp nd).2.2 f hf e List.mem_cons_self z
theorem order_rings {n : Nat} {es os : List Pr} (E : Edges n es) (pm : os.Perm es) (p : Nat) : ∃ l, RingAt os p l := rings_at (order_ok E pm) p
theorem conn_perm {es os : List Pr} (pm : os.Perm es) {x y : Nat} : Conn os x y ↔ Conn es x y := ⟨fun h S hS => h S fun f hf => hS f (pm.mem_iff.mp hf), fun h S hS => h S fun f hf => hS f (pm.mem_iff.mpr hf)⟩
/-! ### the items -/
theorem swp_at {zs : List Str} {e : Pr} {p : Nat} (h1 : e.1 < zs.length) (h2 : e.2 < zs.length) (ne : e.1 ≠ e.2) (hp : p < zs.length) : (swp zs e)[sw e p]? = zs[p]? := by
  unfold swp sw
  by_cases c1 : p = e.1
  · rw [if_pos c1, List.getElem?_set_self (by rw [List.length_set]; exact h2), List.getD_eq_getElem?_getD, c1, List.getElem?_eq_getElem h1]
    rfl
  · rw [if_neg c1]
    by_cases c2 : p = e.2
    · rw [if_pos c2, List.getElem?_set_ne (fun z => ne z.symm), List.getElem?_set_self h1, List.getD_eq_getElem?_getD, c2, List.getElem?_eq_getElem h2]
      rfl
    · rw [if_neg c2, List.getElem?_set_ne (fun z => c2 z.symm), List.getElem?_set_ne (fun z => c1 z.symm)]
theorem sw_lt {e : Pr} {n p : Nat} (h1 : e.1 < n) (h2 : e.2 < n) (hp : p < n) : sw e p < n := by
  unfold sw
  split
  · exact h2
  · split
    · exact h1
    · exact hp
theorem mvs_lt {n : Nat} : ∀ {os : List Pr} {p : Nat}, (∀ e ∈ os, e.1 < n ∧ e.2 < n) → p < n → mvs os p < n
  | [], _, _, h => h
  | e :: r, p, h, hp => by
    obtain ⟨a, b⟩ := h e List.mem_cons_self
    exact mvs_lt (os := r) (fun f hf => h f (List.mem_cons_of_mem _ hf)) (sw_lt a b hp)
theorem swps_at {n : Nat} : ∀ {os : List Pr} {zs : List Str} {p : Nat}, zs.length = n → (∀ e ∈ os, e.1 < e.2 ∧ e.2 < n) → p < n → (swps zs os)[mvs os p]? = zs[p]?
  | [], _, _, _, _, _ => rfl
  | e :: r, zs, p, hl, h, hp => by
    obtain ⟨a, b⟩ := h e List.mem_cons_self
    show (swps (swp zs e) r)[mvs r (sw e p)]? = _
    rw [swps_at (n := n) (by rw [swp_len, hl]) (fun f hf => h f (List.mem_cons_of_mem _ hf)) (sw_lt (by omega) b hp), swp_at (by omega) (by omega) (by omega) (by omega)]
theorem idx_nodup {us : List Str} {i : Nat} {z : Str} (nd : us.Nodup) (h : us[i]? = some z) : us.idxOf z = i := by
  obtain ⟨lt, e⟩ := List.getElem?_eq_some_iff.mp h
  have m : z ∈ us := List.mem_of_getElem? h
  have lt2 := List.idxOf_lt_length_iff.mpr m
  have e2 := List.getElem_idxOf lt2
  refine Decidable.byContradiction fun ne => ?_
  rcases Nat.lt_or_gt_of_ne ne with c | c
  · exact List.pairwise_iff_getElem.mp nd _ _ lt2 lt c (e2.trans e.symm)
  · exact List.pairwise_iff_getElem.mp nd _ _ lt lt2 c (e.trans e2.symm)
theorem went_at {n : Nat} {os : List Pr} {zs : List Str} {p : Nat} (hl : zs.length = n) (nd : zs.Nodup) (h : ∀ e ∈ os, e.1 < e.2 ∧ e.2 < n) (hp : p < n) : (went zs (swps zs os)).getD p 0 = mvs os p := by
  have pm : (swps zs os).Perm zs := swps_perm hl fun e he => by have := h e he; omega
  unfold went
  rw [List.getD_eq_getElem?_getD, List.getElem?_map, List.getElem?_eq_getElem (by omega)]
  show (swps zs os).idxOf zs[p] = _
  refine idx_nodup (pm.nodup_iff.mpr nd) ?_
  rw [swps_at hl h hp, List.getElem?_eq_getElem]
theorem went_ok {n : Nat} {os : List Pr} {zs : List Str} (hl : zs.length = n) (nd : zs.Nodup) (h : ∀ e ∈ os, e.1 < e.2 ∧ e.2 < n) : IsPerm (went zs (swps zs os)) n := went_perm (swps_perm hl fun e he => by have := h e he; omega) nd hl
/-! ### the rings as they are read -/
theorem ch_itr {f : List Nat} {g : Nat → Nat} {n : Nat} (p : IsPerm f n) (fg : ∀ x, x < n → f.getD x 0 = g x) {x : Nat} (hx : x < n) : ∀ {l : List Nat} {k y z : Nat}, itr f k x = y → Ch g y l z → (∀ i, i < l.length → l[i]? = some (itr f (k + 1 + i) x)) ∧ itr f (k + 1 + l.length) x = z
  | [], k, y, z, e, c => by
    refine ⟨fun i h => absurd h (Nat.not_lt_zero i), ?_⟩
    show f.getD (itr f k x) 0 = z
    rw [fg _ (itr_lt p k hx), e]
    exact c
  | a :: l, k, y, z, e, ⟨c1, c2⟩ => by
    have e2 : itr f (k + 1) x = a := by
      show f.getD (itr f k x) 0 = a
      rw [fg _ (itr_lt p k hx), e, c1]
    obtain ⟨h1, h2⟩ := ch_itr p fg hx e2 c2
    refine ⟨fun i h => ?_, ?_⟩
    · cases i with
      | zero => exact congrArg some e2.symm
      | succ i =>
        rw [List.getElem?_cons_succ, h1 i (by simpa using h), show k + 1 + 1 + i = k + 1 + (i + 1) by omega]
    · rw [List.length_cons, show k + 1 + (l.length + 1) = k + 1 + 1 + l.length by omega]
      exact h2
theorem ring_of {f : List Nat} {n : Nat} {os : List Pr} {x : Nat} {l : List Nat} (p : IsPerm f n) (fg : ∀ x, x < n → f.getD x 0 = mvs os x) (hx : x < n) (r : RingAt os x l) : ringOf f n x = x :: l := by
  obtain ⟨h1, h2⟩ := ch_itr p fg hx (k := 0) rfl r.runs
  obtain ⟨p1, p2, p3, p4⟩ := per_ok p hx
  have at' : ∀ i, i ≤ l.length → (x :: l)[i]? = some (itr f i x) := fun i hi => by
    cases i with
    | zero => rfl
    | succ i =>
      rw [List.getElem?_cons_succ, h1 i (by omega), show 0 + 1 + i = i + 1 by omega]
  have e : per f n x = l.length + 1 := by
    rcases Nat.lt_trichotomy (per f n x) (l.length + 1) with c | c | c
    · have a0 := at' 0 (Nat.zero_le _)
      have a1 := at' (per f n x) (by omega)
      rw [p3] at a1
      obtain ⟨l0, e0⟩ := List.getElem?_eq_some_iff.mp a0
      obtain ⟨l1, e1⟩ := List.getElem?_eq_some_iff.mp a1
      exact absurd (e0.trans e1.symm) (List.pairwise_iff_getElem.mp r.nd 0 _ l0 l1 (by omega))
    · exact c
    · exact absurd (by rw [show l.length + 1 = 0 + 1 + l.length by omega]; exact h2) (p4 (l.length + 1) (by omega) c)
  unfold ringOf way
  rw [e]
  refine List.ext_getElem? fun i => ?_
  by_cases hi : i ≤ l.length
  · rw [at' i hi, List.getElem?_map, List.getElem?_range (by omega)]
    rfl
  · rw [List.getElem?_eq_none (by rw [List.length_map, List.length_range]; omega), List.getElem?_eq_none (by rw [List.length_cons]; omega)]
end Os
/-! orders reversed, exchanged, and without the last edge -/
namespace Os
open PySem PySem.Spec PyProof.Rows L2 Evl
theorem sw_sw (e : Pr) (x : Nat) : sw e (sw e x) = x := by
  by_cases h1 : x = e.1
  · rw [h1, sw_one, sw_two]
  · by_cases h2 : x = e.2
    · rw [h2, sw_two, sw_one]
    · rw [sw_ne h1 h2, sw_ne h1 h2]
theorem mvs_app (os ps : List Pr) (p : Nat) : mvs (os ++ ps) p = mvs ps (mvs os p) := by
  unfold mvs
  rw [List.foldl_append]
/-- the reversed order takes the items back -/
theorem mvs_back : ∀ (os : List Pr) (p : Nat), mvs os.reverse (mvs os p) = p
  | [], _ => rfl
  | e :: r, p => by
    rw [List.reverse_cons, mvs_app]
    show sw e (mvs r.reverse (mvs r (sw e p))) = p
    rw [mvs_back r, sw_sw]
theorem mvs_back' (os : List Pr) (p : Nat) : mvs os (mvs os.reverse p) = p := by
  have := mvs_back os.reverse p
  rwa [List.reverse_reverse] at this
theorem swps_app (zs : List Str) (os ps : List Pr) : swps zs (os ++ ps) = swps (swps zs os) ps := by
  unfold swps
  rw [List.foldl_append]
theorem swps_len {zs : List Str} : ∀ {os : List Pr}, (swps zs os).length = zs.length := by
  intro os
  induction os generalizing zs with
  | nil => rfl
  | cons e r ih =>
    show (swps (swp zs e) r).length = _
    rw [ih, swp_len]
theorem swp_swp {zs : List Str} {e : Pr} (h1 : e.1 < zs.length) (h2 : e.2 < zs.length) (ne : e.1 ≠ e.2) : swp (swp zs e) e = zs := by
  refine List.ext_getElem? fun i => ?_
  by_cases hi : i < zs.length
  · have a := swp_at (zs := swp zs e) (e := e) (p := sw e i) (by rw [swp_len]; exact h1) (by rw [swp_len]; exact h2) ne (by rw [swp_len]; exact sw_lt h1 h2 hi)
    rw [sw_sw] at a
    rw [a, swp_at h1 h2 ne hi]
  · rw [List.getElem?_eq_none (by rw [swp_len, swp_len]; omega), List.getElem?_eq_none (by omega)]
/-- the reversed order gives the arrangement back -/
theorem swps_back {n : Nat} : ∀ {os : List Pr} {zs : List Str}, zs.length = n → (∀ e ∈ os, e.1 < e.2 ∧ e.2 < n) → swps (swps zs os) os.reverse = zs
  | [], _, _, _ => rfl
  | e :: r, zs, hl, h => by
    obtain ⟨a, b⟩ := h e List.mem_cons_self
    rw [List.reverse_cons, swps_app]
    show swp (swps (swps (swp zs e) r) r.reverse) e = zs
    rw [swps_back (n := n) (by rw [swp_len, hl]) fun f hf => h f (List.mem_cons_of_mem _ hf), swp_swp (by omega) (by omega) (by omega)]
/-- two swaps without a common place may be exchanged -/
theorem sw_comm {e f : Pr} (h1 : e.1 ≠ f.1) (h2 : e.1 ≠ f.2) (h3 : e.2 ≠ f.1) (h4 : e.2 ≠ f.2) (x : Nat) : sw e (sw f x) = sw f (sw e x) := by
  by_cases a1 : x = e.1
  · rw [a1, sw_one, sw_ne h1 h2, sw_one, sw_ne h3 h4]
  · by_cases a2 : x = e.2
    · rw [a2, sw_two, sw_ne h3 h4, sw_two, sw_ne h1 h2]
    · rw [sw_ne a1 a2]
      by_cases b1 : x = f.1
      · rw [b1, sw_one, sw_ne (fun z => h2 z.symm) (fun z => h4 z.symm)]
      · by_cases b2 : x = f.2
        · rw [b2, sw_two, sw_ne (fun z => h1 z.symm) (fun z => h3 z.symm)]
        · rw [sw_ne b1 b2, sw_ne a1 a2]
/-- two with exactly one common place never: the item there ends elsewhere -/
theorem sw_apart {e f : Pr} (ne : e.1 ≠ e.2) (nf : f.1 ≠ f.2) (d : ¬ ((e.1 = f.1 ∧ e.2 = f.2) ∨ (e.1 = f.2 ∧ e.2 = f.1))) (c : e.1 = f.1 ∨ e.1 = f.2 ∨ e.2 = f.1 ∨ e.2 = f.2) : ∃ x, (x = e.1 ∨ x = e.2) ∧ sw e (sw f x) ≠ sw f (sw e x) := by
  rcases c with c | c | c | c
  · refine ⟨e.1, .inl rfl, ?_⟩
    have h : e.2 ≠ f.2 := fun z => d (.inl ⟨c, z⟩)
    rw [sw_one, c, sw_one, sw_ne (fun z => nf (c ▸ z).symm) (fun z => h z.symm), sw_ne (fun z => ne (c.trans z.symm)) h]
    exact fun z => h z.symm
  · refine ⟨e.1, .inl rfl, ?_⟩
    have h : e.2 ≠ f.1 := fun z => d (.inr ⟨c, z⟩)
    rw [sw_one, c, sw_two, sw_ne (fun z => nf (by rw [z, c])) (fun z => h z.symm), sw_ne h (fun z => ne (c.trans z.symm))]
    exact fun z => h z.symm
  · refine ⟨e.2, .inr rfl, ?_⟩
    have h : e.1 ≠ f.2 := fun z => d (.inr ⟨z, c⟩)
    rw [sw_two, c, sw_one, sw_ne (fun z => h z.symm) (fun z => nf (by rw [z, c])), sw_ne (fun z => ne (z.trans c.symm)) h]
    exact fun z => h z.symm
  · refine ⟨e.2, .inr rfl, ?_⟩
    have h : e.1 ≠ f.1 := fun z => d (.inl ⟨z, c⟩)
    rw [sw_two, c, sw_two, sw_ne (fun z => h z.symm) (fun z => nf (by rw [z, c])), sw_ne h (fun z => ne (z.trans c.symm))]
    exact fun z => h z.symm
/-! ### a place has one ring -/
theorem Ch.one {f : Nat → Nat} : ∀ {l m : List Nat} {x y : Nat}, Ch f x l y → Ch f x m y → y ∉ l → y ∉ m → l = m
  | [], [], _, _, _, _, _, _ => rfl
  | [], b :: m, x, y, h, ⟨k, _⟩, _, n => absurd (by rw [← (show f x = y from h), k]; exact List.mem_cons_self) n
  | a :: l, [], x, y, ⟨h, _⟩, k, n, _ => absurd (by rw [← (show f x = y from k), h]; exact List.mem_cons_self) n
  | a :: l, b :: m, x, y, ⟨h1, h2⟩, ⟨k1, k2⟩, n1, n2 => by
    have e : a = b := h1.symm.trans k1
    subst e
    rw [Ch.one h2 k2 (fun z => n1 (List.mem_cons_of_mem _ z)) fun z => n2 (List.mem_cons_of_mem _ z)]
theorem RingAt.one {os : List Pr} {p : Nat} {l m : List Nat} (h : RingAt os p l) (k : RingAt os p m) : l = m :=
  Ch.one h.runs k.runs (List.nodup_cons.mp h.nd).1 (List.nodup_cons.mp k.nd).1
/-- the last edge joins two rings -/
theorem last_joins {pre : List Pr} {e : Pr} {u v w : List Nat} (nc : ¬ Conn pre e.1 e.2) (ru : RingAt pre e.1 u) (rv : RingAt pre e.2 v) (rw' : RingAt (pre ++ [e]) e.1 w) : w = u ++ e.2 :: v := by
  have au : e.1 ∉ u := (List.nodup_cons.mp ru.nd).1
  have bv : e.2 ∉ v := (List.nodup_cons.mp rv.nd).1
  have bu : e.2 ∉ u := fun z => nc ((ru.all _).mp (List.mem_cons_of_mem _ z))
  have av : e.1 ∉ v := fun z => nc ((rv.all _).mp (List.mem_cons_of_mem _ z)).symm
  have c1 := ru.runs.sw au bu
  have c2 := rv.runs.sw av bv
  rw [sw_one] at c1
  rw [sw_two] at c2
  exact Ch.one rw'.runs (Ch.app.mpr ⟨c1, c2⟩) (List.nodup_cons.mp rw'.nd).1 fun z => by
    rcases List.mem_append.mp z with z | z
    · exact au z
    · rcases List.mem_cons.mp z with z | z
      · exact nc (z ▸ .refl _ _)
      · exact av z
end Os
/-! no two edges of an order cross on its rings -/
namespace Os
open PySem PySem.Spec PyProof.Rows L2 Evl
/-- of two pairs of places the first begins, then the second, then the first ends, then the second -/
def Cr (i1 i2 j1 j2 : Nat) : Prop := min i1 i2 < min j1 j2 ∧ min j1 j2 < max i1 i2 ∧ max i1 i2 < max j1 j2
theorem cr_turn {k n i1 i2 j1 j2 : Nat} (h1 : i1 < k + n) (h2 : i2 < k + n) (h3 : j1 < k + n) (h4 : j2 < k + n) (a : ¬ Cr i1 i2 j1 j2) (b : ¬ Cr j1 j2 i1 i2) :
    ¬ Cr (if i1 < k then i1 + n else i1 - k) (if i2 < k then i2 + n else i2 - k) (if j1 < k then j1 + n else j1 - k) (if j2 < k then j2 + n else j2 - k) := by
  unfold Cr at *
  split <;> split <;> split <;> split <;> omega
/-- no two edges that lie on m cross there -/
def NoCr (m : List Nat) (es : List Pr) : Prop := ∀ e ∈ es, ∀ f ∈ es, e.1 ∈ m → e.2 ∈ m → f.1 ∈ m → f.2 ∈ m → ¬ Cr (m.idxOf e.1) (m.idxOf e.2) (m.idxOf f.1) (m.idxOf f.2)
theorem idx_turn {U V : List Nat} {x : Nat} (nd : (U ++ V).Nodup) (h : x ∈ U ++ V) : (V ++ U).idxOf x = if (U ++ V).idxOf x < U.length then (U ++ V).idxOf x + V.length else (U ++ V).idxOf x - U.length := by
  rw [List.idxOf_append, List.idxOf_append]
  by_cases hu : x ∈ U
  · have hv : x ∉ V := fun z => (List.nodup_append.mp nd).2.2 x hu x z rfl
    rw [if_pos hu, if_neg hv, if_pos (List.idxOf_lt_length_iff.mpr hu)]
  · have hv : x ∈ V := (List.mem_append.mp h).resolve_left hu
    rw [if_neg hu, if_pos hv, if_neg (by omega)]
    omega
theorem NoCr.turn {U V : List Nat} {es : List Pr} (nd : (U ++ V).Nodup) (h : NoCr (U ++ V) es) : NoCr (V ++ U) es := fun e he f hf m1 m2 m3 m4 => by
  have sw' : ∀ {x : Nat}, x ∈ V ++ U → x ∈ U ++ V := fun z => (List.mem_append.mp z).elim (fun z => List.mem_append_right _ z) fun z => List.mem_append_left _ z
  have lt : ∀ {x : Nat}, x ∈ U ++ V → (U ++ V).idxOf x < U.length + V.length := fun z => by
    have := List.idxOf_lt_length_iff.mpr z
    rwa [List.length_append] at this
  rw [idx_turn nd (sw' m1), idx_turn nd (sw' m2), idx_turn nd (sw' m3), idx_turn nd (sw' m4)]
  exact cr_turn (lt (sw' m1)) (lt (sw' m2)) (lt (sw' m3)) (lt (sw' m4)) (h e he f hf (sw' m1) (sw' m2) (sw' m3) (sw' m4)) (h f hf e he (sw' m3) (sw' m4) (sw' m1) (sw' m2))
theorem no_cross : ∀ {os : List Pr}, (∀ pre e post, os = pre ++ e :: post → e.1 ≠ e.2 ∧ ¬ Conn pre e.1 e.2) → ∀ {p : Nat} {l : List Nat}, RingAt os p l → NoCr (p :: l) os := by
  intro os
  generalize hn : os.length = n
  induction n generalizing os with
  | zero =>
    intro _ p l _ e he
    rw [List.length_eq_zero_iff.mp hn] at he
    cases he
  | succ n ih =>
    intro h p l r
    have ne : os ≠ [] := fun z => by rw [z] at hn; cases hn
    obtain ⟨pre, e, rfl⟩ : ∃ pre e, os = pre ++ [e] := ⟨os.dropLast, os.getLast ne, (List.dropLast_concat_getLast ne).symm⟩
    obtain ⟨ab, nc⟩ := h pre e [] rfl
    have hpre : ∀ p1 f p2, pre = p1 ++ f :: p2 → f.1 ≠ f.2 ∧ ¬ Conn p1 f.1 f.2 := fun p1 f p2 q => h p1 f (p2 ++ [e]) (by rw [q, List.append_assoc]; rfl)
    have ih : ∀ {p : Nat} {l : List Nat}, RingAt pre p l → NoCr (p :: l) pre := ih (os := pre) (by rw [List.length_append] at hn; simpa using hn) hpre
    by_cases c : Conn (pre ++ [e]) p e.1
    · -- the joined ring
      obtain ⟨u, ru⟩ := rings_at hpre e.1
      obtain ⟨v, rv⟩ := rings_at hpre e.2
      obtain ⟨w, rw'⟩ := rings_at h e.1
      have ew := last_joins nc ru rv rw'
      subst ew
      have sep : ∀ {x : Nat}, x ∈ e.1 :: u → x ∉ e.2 :: v := fun hx hy => nc (((ru.all _).mp hx).trans ((rv.all _).mp hy).symm)
      have same : ∀ f ∈ pre, f.1 ∈ (e.1 :: u) ++ (e.2 :: v) → (f.1 ∈ e.1 :: u ∧ f.2 ∈ e.1 :: u) ∨ (f.1 ∈ e.2 :: v ∧ f.2 ∈ e.2 :: v) := fun f hf m => by
        rcases List.mem_append.mp m with m | m
        · exact .inl ⟨m, (ru.all _).mpr (((ru.all _).mp m).trans (.edge hf))⟩
        · exact .inr ⟨m, (rv.all _).mpr (((rv.all _).mp m).trans (.edge hf))⟩
      have i1 : ∀ {x : Nat}, x ∈ e.1 :: u → ((e.1 :: u) ++ (e.2 :: v)).idxOf x = (e.1 :: u).idxOf x ∧ (e.1 :: u).idxOf x < u.length + 1 := fun hx => ⟨by rw [List.idxOf_append, if_pos hx], List.idxOf_lt_length_iff.mpr hx⟩
      have i2 : ∀ {x : Nat}, x ∈ e.2 :: v → ((e.1 :: u) ++ (e.2 :: v)).idxOf x = (e.2 :: v).idxOf x + (u.length + 1) := fun hx => by
        rw [List.idxOf_append, if_neg fun z => sep z hx]
        rfl
      have ia : ((e.1 :: u) ++ (e.2 :: v)).idxOf e.1 = 0 := by
        rw [(i1 List.mem_cons_self).1, List.idxOf_cons_self]
      have ib : ((e.1 :: u) ++ (e.2 :: v)).idxOf e.2 = u.length + 1 := by
        rw [i2 List.mem_cons_self, List.idxOf_cons_self, Nat.zero_add]
      have joined : NoCr ((e.1 :: u) ++ (e.2 :: v)) (pre ++ [e]) := fun f hf g hg m1 m2 m3 m4 => by
        rcases List.mem_append.mp hf with hf | hf
        · rcases List.mem_append.mp hg with hg | hg
          · rcases same f hf m1 with ⟨f1, f2⟩ | ⟨f1, f2⟩
            · rcases same g hg m3 with ⟨g1, g2⟩ | ⟨g1, g2⟩
              · rw [(i1 f1).1, (i1 f2).1, (i1 g1).1, (i1 g2).1]
                exact ih ru f hf g hg f1 f2 g1 g2
              · rw [(i1 f1).1, (i1 f2).1, i2 g1, i2 g2]
                have := (i1 f1).2
                have := (i1 f2).2
                unfold Cr
                omega
            · rcases same g hg m3 with ⟨g1, g2⟩ | ⟨g1, g2⟩
              · rw [i2 f1, i2 f2, (i1 g1).1, (i1 g2).1]
                have := (i1 g1).2
                have := (i1 g2).2
                unfold Cr
                omega
              · rw [i2 f1, i2 f2, i2 g1, i2 g2]
                have := ih rv f hf g hg f1 f2 g1 g2
                unfold Cr at *
                omega
          · have eg := List.mem_singleton.mp hg
            subst eg
            rw [ia, ib]
            unfold Cr
            omega
        · have ef := List.mem_singleton.mp hf
          subst ef
          rcases List.mem_append.mp hg with hg | hg
          · rw [ia, ib]
            rcases same g hg m3 with ⟨g1, g2⟩ | ⟨g1, g2⟩
            · rw [(i1 g1).1, (i1 g2).1]
              have := (i1 g1).2
              have := (i1 g2).2
              unfold Cr
              omega
            · rw [i2 g1, i2 g2]
              unfold Cr
              omega
          · have eg := List.mem_singleton.mp hg
            rw [eg]
            unfold Cr
            omega
      have m1 := (r.all e.1).mpr c
      by_cases pe : p = e.1
      · subst pe
        rw [r.one rw']
        exact joined
      · have al : e.1 ∈ l := (List.mem_cons.mp m1).resolve_left fun z => pe z.symm
        obtain ⟨l1, l2, rfl⟩ := List.append_of_mem al
        have nd2 : (e.1 :: l2 ++ p :: l1).Nodup := by
          have h1 : (p :: l1 ++ e.1 :: l2).Perm (e.1 :: l2 ++ p :: l1) := List.perm_append_comm
          exact h1.nodup_iff.mp r.nd
        have ew : u ++ e.2 :: v = l2 ++ p :: l1 := Ch.one rw'.runs r.runs.turn (List.nodup_cons.mp rw'.nd).1 (List.nodup_cons.mp nd2).1
        have j2 : NoCr (e.1 :: l2 ++ p :: l1) (pre ++ [e]) := by
          have : (e.1 :: u) ++ (e.2 :: v) = e.1 :: l2 ++ p :: l1 := by
            rw [List.cons_append, ew, List.cons_append]
          rw [← this]
          exact joined
        exact NoCr.turn nd2 j2
    · have c2 : ¬ Conn (pre ++ [e]) p e.2 := fun z => c (z.trans (Conn.edge (show e ∈ pre ++ [e] by simp)).symm)
      have n1 : e.1 ∉ p :: l := fun z => c ((r.all _).mp z)
      have n2 : e.2 ∉ p :: l := fun z => c2 ((r.all _).mp z)
      obtain ⟨l', r'⟩ := rings_at hpre p
      have d1 : ¬ Conn pre p e.1 := fun z => c z.more
      have d2 : ¬ Conn pre p e.2 := fun z => c2 z.more
      have k1 : e.1 ∉ p :: l' := fun z => d1 ((r'.all _).mp z)
      have k2 : e.2 ∉ p :: l' := fun z => d2 ((r'.all _).mp z)
      have ch : Ch (mvs (pre ++ [e])) p l' p := by
        have := r'.runs.sw (fun z => k1 (List.mem_cons_of_mem _ z)) (fun z => k2 (List.mem_cons_of_mem _ z))
        rwa [sw_ne (fun z => k1 (z ▸ List.mem_cons_self)) (fun z => k2 (z ▸ List.mem_cons_self))] at this
      have el : l = l' := Ch.one r.runs ch (List.nodup_cons.mp r.nd).1 (List.nodup_cons.mp r'.nd).1
      subst el
      intro f hf g hg m1 m2 m3 m4
      have inp : ∀ f ∈ pre ++ [e], f.1 ∈ p :: l → f ∈ pre := fun f hf m => by
        rcases List.mem_append.mp hf with hf | hf
        · exact hf
        · rw [List.mem_singleton.mp hf] at m
          exact absurd m n1
      exact ih r' f (inp f hf m1) g (inp g hg m3) m1 m2 m3 m4
end Os
/-! where an item ends, from the turns alone -/
namespace Os
open PySem PySem.Spec PyProof.Rows L2 Evl
/-- an item that came from y (or began) at x ends at z, if tn are the turns -/
inductive Goes (tn : Nat → List Nat) : Option Nat → Nat → Nat → Prop
  | stay {x : Nat} : tn x = [] → Goes tn none x x
  | stop {x y : Nat} {A : List Nat} : tn x = A ++ [y] → Goes tn (some y) x x
  | first {x b z : Nat} {B : List Nat} : tn x = b :: B → Goes tn (some x) b z → Goes tn none x z
  | next {x y b z : Nat} {A B : List Nat} : tn x = A ++ y :: b :: B → Goes tn (some x) b z → Goes tn (some y) x z
theorem Goes.snoc {os : List Pr} {e : Pr} (ab : e.1 ≠ e.2) {s : Option Nat} {x z : Nat} (h : Goes (fun p => turnOf p os) s x z) : Goes (fun p => turnOf p (os ++ [e])) s x (sw e z) := by
  have tA : turnOf e.1 (os ++ [e]) = turnOf e.1 os ++ [e.2] := by rw [turn_snoc, if_pos rfl]
  have tB : turnOf e.2 (os ++ [e]) = turnOf e.2 os ++ [e.1] := by rw [turn_snoc, if_neg ab, if_pos rfl]
  have tO : ∀ {x : Nat}, x ≠ e.1 → x ≠ e.2 → turnOf x (os ++ [e]) = turnOf x os := fun h1 h2 => by
    rw [turn_snoc, if_neg (fun z => h1 z.symm), if_neg (fun z => h2 z.symm), List.append_nil]
  have more : ∀ x, ∃ E, turnOf x (os ++ [e]) = turnOf x os ++ E := fun x => ⟨_, turn_snoc os e x⟩
  induction h with
  | @stay x h =>
    have h : turnOf x os = [] := h
    by_cases h1 : x = e.1
    · subst h1
      rw [sw_one]
      exact .first (B := []) (by show turnOf _ _ = _; rw [tA, h]; rfl) (.stop (A := turnOf e.2 os) tB)
    · by_cases h2 : x = e.2
      · subst h2
        rw [sw_two]
        exact .first (B := []) (by show turnOf _ _ = _; rw [tB, h]; rfl) (.stop (A := turnOf e.1 os) tA)
      · rw [sw_ne h1 h2]
        exact .stay (by show turnOf _ _ = _; rw [tO h1 h2, h])
  | @stop x y A h =>
    have h : turnOf x os = A ++ [y] := h
    by_cases h1 : x = e.1
    · subst h1
      rw [sw_one]
      exact .next (A := A) (B := []) (by show turnOf _ _ = _; rw [tA, h, List.append_assoc]; rfl) (.stop (A := turnOf e.2 os) tB)
    · by_cases h2 : x = e.2
      · subst h2
        rw [sw_two]
        exact .next (A := A) (B := []) (by show turnOf _ _ = _; rw [tB, h, List.append_assoc]; rfl) (.stop (A := turnOf e.1 os) tA)
      · rw [sw_ne h1 h2]
        exact .stop (A := A) (by show turnOf _ _ = _; rw [tO h1 h2, h])
  | @first x b z B h _ ih =>
    obtain ⟨E, hE⟩ := more x
    exact .first (B := B ++ E) (by show turnOf _ _ = _; rw [hE, show turnOf x os = b :: B from h]; rfl) ih
  | @next x y b z A B h _ ih =>
    obtain ⟨E, hE⟩ := more x
    exact .next (A := A) (B := B ++ E) (by show turnOf _ _ = _; rw [hE, show turnOf x os = A ++ y :: b :: B from h, List.append_assoc]; rfl) ih
/-- the item of a place ends where its way by the turns ends -/
theorem goes_mvs : ∀ {os : List Pr}, (∀ e ∈ os, e.1 ≠ e.2) → ∀ p, Goes (fun p => turnOf p os) none p (mvs os p) := by
  intro os
  generalize hn : os.length = n
  induction n generalizing os with
  | zero =>
    intro _ p
    rw [List.length_eq_zero_iff.mp hn]
    exact .stay rfl
  | succ n ih =>
    intro h p
    have ne : os ≠ [] := fun z => by rw [z] at hn; cases hn
    obtain ⟨pre, e, rfl⟩ : ∃ pre e, os = pre ++ [e] := ⟨os.dropLast, os.getLast ne, (List.dropLast_concat_getLast ne).symm⟩
    rw [mvs_snoc]
    exact (ih (os := pre) (by rw [List.length_append] at hn; simpa using hn) (fun f hf => h f (List.mem_append_left _ hf)) p).snoc (h e (by simp))
theorem split_one {α : Type} {A A' : List α} {y : α} {R R' : List α} (nd : (A ++ y :: R).Nodup) (h : A ++ y :: R = A' ++ y :: R') : R = R' := by
  induction A generalizing A' with
  | nil =>
    cases A' with
    | nil => exact (List.cons.inj h).2
    | cons a A' =>
      obtain ⟨e1, e2⟩ := List.cons.inj (show y :: R = a :: (A' ++ y :: R') from h)
      have nd' : (y :: R).Nodup := nd
      exact absurd (by rw [e2]; simp) (List.nodup_cons.mp nd').1
  | cons a A ih =>
    cases A' with
    | nil =>
      obtain ⟨e1, e2⟩ := List.cons.inj (show a :: (A ++ y :: R) = y :: R' from h)
      have nd' : (a :: (A ++ y :: R)).Nodup := nd
      exact absurd (by rw [e1]; simp) (List.nodup_cons.mp nd').1
    | cons a' A' =>
      have nd' : (a :: (A ++ y :: R)).Nodup := nd
      exact ih (List.nodup_cons.mp nd').2 (List.cons.inj (show a :: (A ++ y :: R) = a' :: (A' ++ y :: R') from h)).2
/-- the way is the only one -/
theorem Goes.one {tn : Nat → List Nat} (nd : ∀ x, (tn x).Nodup) {s : Option Nat} {x z w : Nat} (h : Goes tn s x z) (k : Goes tn s x w) : z = w := by
  induction h with
  | stay h =>
    cases k with
    | stay _ => rfl
    | first k _ => rw [h] at k; cases k
  | @stop x y A h =>
    cases k with
    | stop _ => rfl
    | @next _ _ b _ A' B k _ =>
      have n0 := nd x
      rw [h] at n0 k
      cases split_one n0 k
  | @first x b z B h _ ih =>
    cases k with
    | stay k => rw [k] at h; cases h
    | first k k2 =>
      rw [h] at k
      cases k
      exact ih k2
  | @next x y b z A B h _ ih =>
    have n0 := nd x
    rw [h] at n0
    cases k with
    | @stop _ _ A' k =>
      rw [h] at k
      cases split_one n0 k
    | @next _ _ b' _ A' B' k k2 =>
      rw [h] at k
      cases split_one n0 k
      exact ih k2
end Os
/-! an outcome belongs to its turns -/
namespace Os
open PySem PySem.Spec PyProof.Rows L2 Evl
theorem turn_perm {os es : List Pr} (pm : os.Perm es) (p : Nat) : (turnOf p os).Perm (turnOf p es) := pm.filterMap _
theorem turn_rev (os : List Pr) (p : Nat) : turnOf p os.reverse = (turnOf p os).reverse := by
  unfold turnOf
  rw [List.filterMap_reverse]
theorem RingAt.nodup {os : List Pr} {p : Nat} {l : List Nat} (r : RingAt os p l) : (turnOf p os).Nodup := by
  rw [← r.turn]
  exact (List.nodup_cons.mp r.nd).2.filter _
theorem turn_nodup {n : Nat} {es os : List Pr} (E : Edges n es) (pm : os.Perm es) (p : Nat) : (turnOf p os).Nodup := by
  obtain ⟨l, r⟩ := order_rings E pm p
  exact r.nodup
theorem order_ne {n : Nat} {es os : List Pr} (E : Edges n es) (pm : os.Perm es) : ∀ e ∈ os, e.1 ≠ e.2 := fun e he => by
  have := E.inn e (pm.mem_iff.mp he)
  omega
/-- two orders move the items alike exactly if they have the same turns -/
theorem same_turns {n : Nat} {es os os' : List Pr} (E : Edges n es) (pm : os.Perm es) (pm' : os'.Perm es) : (∀ p, mvs os p = mvs os' p) ↔ ∀ p, turnOf p os = turnOf p os' := by
  constructor
  · intro h p
    have hf : mvs os = mvs os' := funext h
    obtain ⟨l, r⟩ := order_rings E pm p
    obtain ⟨l', r'⟩ := order_rings E pm' p
    have c := r.runs
    rw [hf] at c
    have e : l = l' := Ch.one c r'.runs (List.nodup_cons.mp r.nd).1 (List.nodup_cons.mp r'.nd).1
    rw [← r.turn, ← r'.turn, e]
    exact filter_like fun x _ => decide_eq_decide.mpr ((turn_perm (pm.trans pm'.symm) p).mem_iff)
  · intro h p
    have g := goes_mvs (order_ne E pm) p
    have g' := goes_mvs (order_ne E pm') p
    rw [← (funext h : (fun p => turnOf p os) = fun p => turnOf p os')] at g'
    exact Goes.one (fun x => turn_nodup E pm x) g g'
/-- two orders give the same arrangement exactly if they move the items alike -/
theorem same_swps {n : Nat} {os os' : List Pr} {zs : List Str} (hl : zs.length = n) (nd : zs.Nodup) (h : ∀ e ∈ os, e.1 < e.2 ∧ e.2 < n) (h' : ∀ e ∈ os', e.1 < e.2 ∧ e.2 < n) : swps zs os = swps zs os' ↔ ∀ p, p < n → mvs os p = mvs os' p := by
  constructor
  · intro e p hp
    rw [← went_at hl nd h hp, ← went_at hl nd h' hp, e]
  · intro e
    refine List.ext_getElem? fun i => ?_
    by_cases hi : i < n
    · have b := mvs_back' os i
      have lt : mvs os.reverse i < n := mvs_lt (fun f hf => by have := h f (List.mem_reverse.mp hf); omega) hi
      have a1 := swps_at (os := os) hl h lt
      have a2 := swps_at (os := os') hl h' lt
      rw [b] at a1
      rw [← e _ lt, b] at a2
      rw [a1, a2]
    · rw [List.getElem?_eq_none (by rw [swps_len]; omega), List.getElem?_eq_none (by rw [swps_len]; omega)]
/-- places beyond the forest's stay -/
theorem mvs_out {n : Nat} : ∀ {os : List Pr} {p : Nat}, (∀ e ∈ os, e.1 < n ∧ e.2 < n) → n ≤ p → mvs os p = p
  | [], _, _, _ => rfl
  | e :: r, p, h, hp => by
    obtain ⟨a, b⟩ := h e List.mem_cons_self
    show mvs r (sw e p) = p
    rw [sw_ne (by omega) (by omega), mvs_out (os := r) (fun f hf => h f (List.mem_cons_of_mem _ hf)) hp]
/-- an order produces the arrangement of another one exactly if it has the same turns -/
theorem same_outcome {n : Nat} {es os os' : List Pr} {zs : List Str} (E : Edges n es) (pm : os.Perm es) (pm' : os'.Perm es) (hl : zs.length = n) (nd : zs.Nodup) : swps zs os = swps zs os' ↔ ∀ p, turnOf p os = turnOf p os' := by
  have h : ∀ e ∈ os, e.1 < e.2 ∧ e.2 < n := fun e he => E.inn e (pm.mem_iff.mp he)
  have h' : ∀ e ∈ os', e.1 < e.2 ∧ e.2 < n := fun e he => E.inn e (pm'.mem_iff.mp he)
  rw [same_swps hl nd h h', ← same_turns E pm pm']
  constructor
  · intro k p
    by_cases hp : p < n
    · exact k p hp
    · rw [mvs_out (n := n) (fun e he => by have := h e he; omega) (by omega), mvs_out (n := n) (fun e he => by have := h' e he; omega) (by omega)]
  · exact fun k p _ => k p
end Os
/-! every choice of turns belongs to an order -/
namespace Os
open PySem PySem.Spec PyProof.Rows L2 Evl
def Ends2 (e : Pr) (a b : Nat) : Prop := (e.1 = a ∧ e.2 = b) ∨ (e.1 = b ∧ e.2 = a)
theorem Ends2.symm {e : Pr} {a b : Nat} (h : Ends2 e a b) : Ends2 e b a := h.elim .inr .inl
theorem mem_turn {es : List Pr} {a b : Nat} : b ∈ turnOf a es → ∃ e ∈ es, Ends2 e a b := fun h => by
  obtain ⟨e, he, h⟩ := List.mem_filterMap.mp h
  split at h
  · rename_i h1
    cases h
    exact ⟨e, he, .inl ⟨h1, rfl⟩⟩
  · split at h
    · rename_i h1
      cases h
      exact ⟨e, he, .inr ⟨rfl, h1⟩⟩
    · cases h
theorem turn_mem {es : List Pr} {e : Pr} (he : e ∈ es) (ne : e.1 ≠ e.2) {a b : Nat} (h : Ends2 e a b) : b ∈ turnOf a es := by
  refine List.mem_filterMap.mpr ⟨e, he, ?_⟩
  rcases h with ⟨h1, h2⟩ | ⟨h1, h2⟩
  · rw [if_pos h1, h2]
  · rw [if_neg (fun z => ne (z.trans h2.symm)), if_pos h2, h1]
theorem ends_one {n : Nat} {es : List Pr} (E : Edges n es) {e f : Pr} (he : e ∈ es) (hf : f ∈ es) {a b : Nat} (h : Ends2 e a b) (k : Ends2 f a b) : e = f := by
  have := E.inn e he
  have := E.inn f hf
  rcases h with ⟨h1, h2⟩ | ⟨h1, h2⟩ <;> rcases k with ⟨k1, k2⟩ | ⟨k1, k2⟩
  · exact Prod.ext (h1.trans k1.symm) (h2.trans k2.symm)
  · omega
  · omega
  · exact Prod.ext (h1.trans k1.symm) (h2.trans k2.symm)
/-- an edge that is last at both its ends -/
theorem last_both {n : Nat} {es : List Pr} (E : Edges n es) {last : Nat → Nat} (hl : ∀ a b, b ∈ turnOf a es → last a ∈ turnOf a es) : ∀ (m a : Nat) (e : Pr) (S : Nat → Bool), e ∈ es → Ends2 e a (last a) → S (last a) = true → S a = false → (∀ f ∈ es, f ≠ e → S f.1 = S f.2) → ((List.range n).filter S).length ≤ m →
    ∃ f ∈ es, ∃ c, Ends2 f c (last c) ∧ last (last c) = c := by
  intro m
  induction m with
  | zero =>
    intro a e S he en sb sa _ hm
    have hb : last a < n := by
      have := E.inn e he
      rcases en with ⟨_, h⟩ | ⟨h, _⟩ <;> omega
    have : last a ∈ (List.range n).filter S := List.mem_filter.mpr ⟨List.mem_range.mpr hb, sb⟩
    have := List.length_pos_of_mem this
    omega
  | succ m ih =>
    intro a e S he en sb sa rs hm
    have ein := E.inn e he
    by_cases q : last (last a) = a
    · exact ⟨e, he, a, en, q⟩
    · have hba : a ∈ turnOf (last a) es := turn_mem he (by omega) en.symm
      obtain ⟨g, hg, gn⟩ := mem_turn (hl _ _ hba)
      have ge : g ≠ e := fun z => by
        subst z
        rcases en with ⟨h1, h2⟩ | ⟨h1, h2⟩ <;> rcases gn with ⟨k1, k2⟩ | ⟨k1, k2⟩
        · omega
        · exact q (k1.symm.trans h1)
        · exact q (k2.symm.trans h2)
        · omega
      obtain ⟨T, t1, t2⟩ := E.br g hg
      have tbc : T (last a) ≠ T (last (last a)) := fun z => t1 (by
        rcases gn with ⟨k1, k2⟩ | ⟨k1, k2⟩
        · rw [k1, k2, z]
        · rw [k1, k2, z])
      have sc : S (last (last a)) = true := by
        have := rs g hg ge
        rcases gn with ⟨k1, k2⟩ | ⟨k1, k2⟩
        · rw [k1, k2] at this
          rw [← this, sb]
        · rw [k1, k2] at this
          rw [this, sb]
      refine ih (last a) g (fun x => S x && (T x == T (last (last a)))) hg gn ?_ ?_ (fun f hf fg => ?_) ?_
      · show (S _ && (T _ == T _)) = true
        rw [sc, beq_self_eq_true]
        rfl
      · show (S _ && (T _ == T _)) = false
        rw [beq_eq_false_iff_ne.mpr tbc, Bool.and_false]
      · show (S _ && (T _ == T _)) = (S _ && (T _ == T _))
        by_cases fe : f = e
        · subst fe
          rcases en with ⟨h1, h2⟩ | ⟨h1, h2⟩
          · rw [h1, h2, sa, beq_eq_false_iff_ne.mpr tbc, Bool.false_and, Bool.and_false]
          · rw [h1, h2, sa, beq_eq_false_iff_ne.mpr tbc, Bool.false_and, Bool.and_false]
        · rw [rs f hf fe, t2 f hf fg]
      · have hb : last a < n := by
          rcases en with ⟨_, h⟩ | ⟨h, _⟩ <;> omega
        have e1 : (List.range n).filter (fun x => S x && (T x == T (last (last a)))) = ((List.range n).filter S).filter fun x => T x == T (last (last a)) := by
          rw [List.filter_filter]
          exact List.filter_congr fun x _ => Bool.and_comm _ _
        have lt : (((List.range n).filter S).filter fun x => T x == T (last (last a))).length < ((List.range n).filter S).length := by
          refine Nat.lt_of_le_of_ne (List.length_filter_le _ _) fun z => ?_
          have := List.length_filter_eq_length_iff.mp z (last a) (List.mem_filter.mpr ⟨List.mem_range.mpr hb, sb⟩)
          exact tbc (eq_of_beq this)
        rw [e1]
        omega
theorem Bridges.sub {es fs : List Pr} (h : Bridges es) (s : ∀ e ∈ fs, e ∈ es) : Bridges fs := fun e he => by
  obtain ⟨S, h1, h2⟩ := h e (s e he)
  exact ⟨S, h1, fun f hf => h2 f (s f hf)⟩
theorem Edges.erase {n : Nat} {es : List Pr} (E : Edges n es) (f : Pr) : Edges n (es.erase f) :=
  ⟨fun e he => E.inn e (List.mem_of_mem_erase he), E.asc.sublist List.erase_sublist, E.br.sub fun e he => List.mem_of_mem_erase he⟩
def lastOf (tn : Nat → List Nat) (a : Nat) : Nat := (tn a).getLast?.getD 0
theorem last_split {l : List Nat} (h : l ≠ []) : l = l.dropLast ++ [l.getLast?.getD 0] := by
  rw [List.getLast?_eq_some_getLast h]
  exact (List.dropLast_concat_getLast h).symm
/-- every choice of turns belongs to an order -/
theorem turns_order : ∀ {n : Nat} {es : List Pr}, Edges n es → ∀ tn : Nat → List Nat, (∀ p, (tn p).Perm (turnOf p es)) → ∃ os, os.Perm es ∧ ∀ p, turnOf p os = tn p := by
  intro n es
  generalize hk : es.length = k
  induction k generalizing es with
  | zero =>
    intro _ tn h
    have e0 := List.length_eq_zero_iff.mp hk
    subst e0
    exact ⟨[], List.Perm.refl _, fun p => (List.perm_nil.mp (h p)).symm⟩
  | succ k ih =>
    intro E tn h
    have hl : ∀ a b, b ∈ turnOf a es → lastOf tn a ∈ turnOf a es := fun a b hb => by
      have hb' := (h a).mem_iff.mpr hb
      have ne : tn a ≠ [] := fun z => by rw [z] at hb'; cases hb'
      refine (h a).mem_iff.mp ?_
      have := last_split ne
      rw [this]
      exact List.mem_append_right _ (List.mem_singleton.mpr rfl)
    obtain ⟨e0, r, e1⟩ : ∃ e r, es = e :: r := by
      cases es with
      | nil => cases hk
      | cons e r => exact ⟨e, r, rfl⟩
    have m0 : e0 ∈ es := by rw [e1]; exact List.mem_cons_self
    have i0 := E.inn e0 m0
    have t0 : e0.2 ∈ turnOf e0.1 es := turn_mem m0 (by omega) (.inl ⟨rfl, rfl⟩)
    obtain ⟨g, hg, gn⟩ := mem_turn (hl _ _ t0)
    have gi := E.inn g hg
    obtain ⟨S, s1, s2⟩ := E.br g hg
    have sab : S e0.1 ≠ S (lastOf tn e0.1) := fun z => s1 (by
      rcases gn with ⟨k1, k2⟩ | ⟨k1, k2⟩
      · rw [k1, k2, z]
      · rw [k1, k2, z])
    obtain ⟨f, hf, c, fn, fl⟩ : ∃ f ∈ es, ∃ c, Ends2 f c (lastOf tn c) ∧ lastOf tn (lastOf tn c) = c := by
      refine last_both E hl _ e0.1 g (fun x => S x == S (lastOf tn e0.1)) hg gn (beq_self_eq_true _) (beq_eq_false_iff_ne.mpr sab) (fun f hf ne => ?_) (Nat.le_refl _)
      show (S _ == S _) = (S _ == S _)
      rw [s2 f hf ne]
    have fi := E.inn f hf
    have pmf : es.Perm (es.erase f ++ [f]) := (List.perm_cons_erase hf).trans (List.perm_append_comm (l₁ := [f]))
    have cd : c ≠ lastOf tn c := fun z => by
      rcases fn with ⟨k1, k2⟩ | ⟨k1, k2⟩ <;> omega
    have tsn : ∀ (os : List Pr) (p : Nat), turnOf p (os ++ [f]) = turnOf p os ++ (if p = c then [lastOf tn c] else if p = lastOf tn c then [c] else []) := fun os p => by
      rw [turn_snoc]
      congr 1
      rcases fn with ⟨k1, k2⟩ | ⟨k1, k2⟩
      · rw [k1, k2]
        simp only [eq_comm (a := p)]
      · rw [k1, k2]
        simp only [eq_comm (a := p)]
        by_cases h1 : c = p
        · rw [if_neg (fun z => cd (h1.trans z.symm)), if_pos h1, if_pos h1]
        · rw [if_neg h1, if_neg h1]
    have nonempty : ∀ {a : Nat}, a = c ∨ a = lastOf tn c → tn a ≠ [] := fun ha z => by
      have hm : ∀ {x y : Nat}, Ends2 f x y → tn x ≠ [] := fun en z => by
        have := (h _).mem_iff.mpr (turn_mem hf (by omega) en)
        rw [z] at this
        cases this
      rcases ha with rfl | rfl
      · exact hm fn z
      · exact hm fn.symm z
    obtain ⟨os, po, ho⟩ := ih (es := es.erase f) (by rw [List.length_erase_of_mem hf]; omega) (E.erase f) (fun p => if p = c ∨ p = lastOf tn c then (tn p).dropLast else tn p) fun p => by
      have hp := (h p).trans (turn_perm pmf p)
      rw [tsn] at hp
      show (if p = c ∨ p = lastOf tn c then (tn p).dropLast else tn p).Perm _
      by_cases pc : p = c
      · rw [if_pos (.inl pc)]
        rw [if_pos pc, last_split (nonempty (.inl pc))] at hp
        have el : (tn p).getLast?.getD 0 = lastOf tn c := by rw [pc]; rfl
        rw [el] at hp
        exact (List.perm_append_right_iff _).mp hp
      · by_cases pd : p = lastOf tn c
        · rw [if_pos (.inr pd)]
          rw [if_neg pc, if_pos pd, last_split (nonempty (.inr pd))] at hp
          have el : (tn p).getLast?.getD 0 = c := by rw [pd]; exact fl
          rw [el] at hp
          exact (List.perm_append_right_iff _).mp hp
        · rw [if_neg (fun z => z.elim pc pd)]
          rw [if_neg pc, if_neg pd, List.append_nil] at hp
          exact hp
    refine ⟨os ++ [f], (po.append_right [f]).trans pmf.symm, fun p => ?_⟩
    rw [tsn, ho]
    by_cases pc : p = c
    · rw [if_pos (.inl pc), if_pos pc]
      have el : lastOf tn c = (tn p).getLast?.getD 0 := by rw [pc]; rfl
      rw [el]
      exact (last_split (nonempty (.inl pc))).symm
    · by_cases pd : p = lastOf tn c
      · rw [if_pos (.inr pd), if_neg pc, if_pos pd]
        have el : c = (tn p).getLast?.getD 0 := by rw [pd]; exact fl.symm
        conv => lhs; rw [el]
        exact (last_split (nonempty (.inr pd))).symm
      · rw [if_neg (fun z => z.elim pc pd), if_neg pc, if_neg pd, List.append_nil]
end Os
/-! an order taken edge by edge from its turns -/
namespace Os
/-- what is done, what waits, and what is left of the turns -/
structure Greedy (es : List Pr) (tn : Nat → List Nat) (done ws : List Pr) (r : Nat → List Nat) : Prop where
  pm : (done ++ ws).Perm es
  tn : ∀ p, turnOf p done ++ r p = tn p
  ex : ∃ os, os.Perm ws ∧ ∀ p, turnOf p os = r p
section
variable {n : Nat} {es done ws : List Pr} {tn r : Nat → List Nat}
theorem Greedy.start (E : Edges n es) (h : ∀ p, (tn p).Perm (turnOf p es)) : Greedy es tn [] es tn :=
  ⟨List.Perm.refl _, fun p => rfl, turns_order E tn h⟩
theorem Greedy.fin (g : Greedy es tn done [] r) : done.Perm es ∧ ∀ p, turnOf p done = tn p := by
  obtain ⟨os, h1, h2⟩ := g.ex
  have e : os = [] := h1.eq_nil
  subst e
  refine ⟨by simpa using g.pm, fun p => ?_⟩
  have := g.tn p
  rw [← h2 p] at this
  simpa [turnOf] using this
theorem Greedy.inn (g : Greedy es tn done ws r) {e : Pr} (h : e ∈ ws) : e ∈ es := g.pm.mem_iff.mp (List.mem_append_right _ h)
theorem Greedy.some (E : Edges n es) (g : Greedy es tn done ws r) (ne : ws ≠ []) : ∃ e ∈ ws, (r e.1).head? = some e.2 ∧ (r e.2).head? = some e.1 := by
  obtain ⟨os, h1, h2⟩ := g.ex
  cases os with
  | nil => exact absurd h1.symm.eq_nil ne
  | cons e os =>
    have he := h1.mem_iff.mp List.mem_cons_self
    have := E.inn e (g.inn he)
    refine ⟨e, he, ?_, ?_⟩
    · rw [← h2]
      unfold turnOf
      rw [List.filterMap_cons, if_pos rfl]
      rfl
    · rw [← h2]
      unfold turnOf
      rw [List.filterMap_cons, if_neg (show ¬ e.1 = e.2 by omega), if_pos rfl]
      rfl
theorem Greedy.full (E : Edges n es) (g : Greedy es tn done ws r) {e : Pr} (he : e ∈ ws) : r e.1 ≠ [] ∧ r e.2 ≠ [] := by
  obtain ⟨os, h1, h2⟩ := g.ex
  have ne : e.1 ≠ e.2 := by have := E.inn e (g.inn he); omega
  have a := turn_mem (h1.mem_iff.mpr he) ne (a := e.1) (b := e.2) (.inl ⟨rfl, rfl⟩)
  have b := turn_mem (h1.mem_iff.mpr he) ne (a := e.2) (b := e.1) (.inr ⟨rfl, rfl⟩)
  rw [h2] at a b
  exact ⟨fun z => (by rw [z] at a; cases a), fun z => (by rw [z] at b; cases b)⟩
/-- an edge whose one end comes first at the other is one that waits -/
theorem Greedy.waits (E : Edges n es) (g : Greedy es tn done ws r) {e : Pr} (he : e ∈ es) (h : (r e.1).head? = .some e.2) : e ∈ ws := by
  obtain ⟨os, h1, h2⟩ := g.ex
  have m : e.2 ∈ turnOf e.1 os := by rw [h2]; exact List.mem_of_head? h
  obtain ⟨f, hf, k⟩ := mem_turn m
  have hf' := h1.mem_iff.mp hf
  have := ends_one E he (g.inn hf') (.inl ⟨rfl, rfl⟩) k
  rw [this]
  exact hf'
theorem head_split {α : Type} {A B : List α} {x : α} {R : List α} (h : A ++ x :: B = x :: R) (hx : A ≠ [] → x ∈ A) : A = [] ∨ x ∈ A := by
  cases A with
  | nil => exact .inl rfl
  | cons a A => exact .inr (hx (by simp))
theorem Greedy.step (E : Edges n es) (g : Greedy es tn done ws r) {e : Pr} {A B : List Nat} {ws' : List Pr} (h1 : r e.1 = e.2 :: A) (h2 : r e.2 = e.1 :: B) (hp : (e :: ws').Perm ws) :
    Greedy es tn (done ++ [e]) ws' (fun p => if p = e.2 then B else if p = e.1 then A else r p) := by
  have he : e ∈ ws := hp.mem_iff.mp List.mem_cons_self
  have hes := g.inn he
  have inn := E.inn e hes
  obtain ⟨os, o1, o2⟩ := g.ex
  obtain ⟨pre, post, rfl⟩ := List.append_of_mem (o1.mem_iff.mpr he)
  have nd : (pre ++ e :: post).Nodup := by
    refine o1.nodup_iff.mpr ?_
    have := g.pm.nodup_iff.mpr E.nodup
    exact (List.nodup_append.mp this).2.1
  have epre : e ∉ pre := fun z => (List.nodup_append.mp nd).2.2 e z e List.mem_cons_self rfl
  have sub : ∀ f ∈ pre, f ∈ es := fun f hf => g.inn (o1.mem_iff.mp (List.mem_append_left _ hf))
  have app : ∀ p, turnOf p (pre ++ e :: post) = turnOf p pre ++ ((if e.1 = p then [e.2] else if e.2 = p then [e.1] else []) ++ turnOf p post) := fun p => by
    rw [show pre ++ e :: post = (pre ++ [e]) ++ post by simp]
    have a2 : turnOf p ((pre ++ [e]) ++ post) = turnOf p (pre ++ [e]) ++ turnOf p post := by
      unfold turnOf
      rw [List.filterMap_append]
    rw [a2, turn_snoc, List.append_assoc]
  have nil1 : ∀ {a b : Nat} {R : List Nat}, Ends2 e a b → turnOf a pre ++ b :: turnOf a post = b :: R → turnOf a pre = [] := fun {a b R} k q => by
    cases hc : turnOf a pre with
    | nil => rfl
    | cons c C =>
      rw [hc] at q
      have cb : c = b := (List.cons.inj q).1
      have m : b ∈ turnOf a pre := by rw [hc, cb]; exact List.mem_cons_self
      obtain ⟨f, hf, kf⟩ := mem_turn m
      have := ends_one E hes (sub f hf) k kf
      exact absurd (this ▸ hf) epre
  have t1 := app e.1
  rw [o2, h1, if_pos rfl] at t1
  have t2 := app e.2
  rw [o2, h2, if_neg (show ¬ e.1 = e.2 by omega), if_pos rfl] at t2
  have n1 := nil1 (a := e.1) (b := e.2) (.inl ⟨rfl, rfl⟩) t1.symm
  have n2 := nil1 (a := e.2) (b := e.1) (.inr ⟨rfl, rfl⟩) t2.symm
  rw [n1] at t1
  rw [n2] at t2
  have a1 : turnOf e.1 post = A := (List.cons.inj t1).2.symm
  have b1 : turnOf e.2 post = B := (List.cons.inj t2).2.symm
  have pm' : (pre ++ post).Perm ws' := by
    have x1 : (e :: (pre ++ post)).Perm (pre ++ e :: post) := List.perm_middle.symm
    exact List.Perm.cons_inv ((x1.trans o1).trans hp.symm)
  have two : ∀ p, turnOf p (pre ++ post) = turnOf p pre ++ turnOf p post := fun p => by
    unfold turnOf
    rw [List.filterMap_append]
  refine ⟨?_, fun p => ?_, pre ++ post, pm', fun p => ?_⟩
  · rw [List.append_assoc]
    exact (List.Perm.append_left done hp).trans g.pm
  · have gt := g.tn p
    rw [turn_snoc, List.append_assoc, ← gt]
    congr 1
    by_cases c2 : p = e.2
    · subst c2
      rw [if_neg (show ¬ e.1 = e.2 by omega), if_pos rfl, if_pos rfl, h2]
      rfl
    · by_cases c1 : p = e.1
      · subst c1
        rw [if_pos rfl, if_neg c2, if_pos rfl, h1]
        rfl
      · rw [if_neg (fun z => c1 z.symm), if_neg (fun z => c2 z.symm), if_neg c2, if_neg c1]
        rfl
  · rw [two]
    by_cases c2 : p = e.2
    · subst c2
      rw [if_pos rfl, n2, b1]
      rfl
    · by_cases c1 : p = e.1
      · subst c1
        rw [if_neg c2, if_pos rfl, n1, a1]
        rfl
      · rw [if_neg c2, if_neg c1, ← o2, app, if_neg (fun z => c1 z.symm), if_neg (fun z => c2 z.symm)]
        rfl
end
end Os
/-! the least order of turns -/
namespace Os
def ltL : List Pr → List Pr → Bool
  | [], [] => false
  | [], _ :: _ => true
  | _ :: _, [] => false
  | x :: a, y :: b => if x = y then ltL a b else ltP x y
theorem ltP_self (e : Pr) : ltP e e = false := by
  rw [← Bool.not_eq_true, ltP_iff]
  omega
theorem ltP_tot {e f : Pr} (h : ltP f e = false) (ne : e ≠ f) : ltP e f = true := by
  rw [← Bool.not_eq_true, ltP_iff] at h
  rw [ltP_iff]
  have : e.1 ≠ f.1 ∨ e.2 ≠ f.2 := by
    rcases Decidable.em (e.1 = f.1) with a | a
    · exact .inr fun b => ne (Prod.ext a b)
    · exact .inl a
  omega
theorem ltP_asym {e f : Pr} (h : ltP e f = true) : ltP f e = false := by
  rw [ltP_iff] at h
  rw [← Bool.not_eq_true, ltP_iff]
  omega
theorem ltP_ne {e f : Pr} (h : ltP e f = true) : e ≠ f := fun z => by
  rw [z, ltP_self] at h
  cases h
theorem ltL_irr : ∀ a : List Pr, ltL a a = false
  | [] => rfl
  | x :: a => by
    unfold ltL
    rw [if_pos rfl]
    exact ltL_irr a
theorem ltL_one : ∀ {a b : List Pr}, ltL a b = false → ltL b a = false → a = b
  | [], [], _, _ => rfl
  | [], _ :: _, h, _ => by cases h
  | _ :: _, [], _, h => by cases h
  | x :: a, y :: b, h, k => by
    unfold ltL at h k
    by_cases e : x = y
    · subst e
      rw [if_pos rfl] at h k
      rw [ltL_one h k]
    · rw [if_neg e] at h
      rw [if_neg (Ne.symm e)] at k
      have := ltP_tot h (Ne.symm e)
      rw [this] at k
      cases k
theorem ltL_pre : ∀ (p a b : List Pr), ltL (p ++ a) (p ++ b) = ltL a b
  | [], _, _ => rfl
  | x :: p, a, b => by
    show (if x = x then ltL (p ++ a) (p ++ b) else ltP x x) = _
    rw [if_pos rfl]
    exact ltL_pre p a b
/-- an order with these turns, and none is less -/
structure LeastO (es : List Pr) (tn : Nat → List Nat) (os : List Pr) : Prop where
  pm : os.Perm es
  trn : ∀ p, turnOf p os = tn p
  least : ∀ o : List Pr, o.Perm es → (∀ p, turnOf p o = tn p) → ltL o os = false
theorem LeastO.one {es o1 o2 : List Pr} {tn : Nat → List Nat} (a : LeastO es tn o1) (b : LeastO es tn o2) : o1 = o2 := ltL_one (b.least o1 a.pm a.trn) (a.least o2 b.pm b.trn)
/-- every order with these turns goes on from what is done, or is greater at some place of it -/
def Led (es : List Pr) (tn : Nat → List Nat) (done : List Pr) : Prop := ∀ o : List Pr, o.Perm es → (∀ p, turnOf p o = tn p) → (∃ rest, o = done ++ rest) ∨ ∃ pre x y d r, done = pre ++ x :: d ∧ o = pre ++ y :: r ∧ ltP x y = true
section
variable {n : Nat} {es done ws : List Pr} {tn r : Nat → List Nat}
theorem Led.start : Led es tn [] := fun o _ _ => .inl ⟨o, rfl⟩
theorem turn_app (p : Nat) (a b : List Pr) : turnOf p (a ++ b) = turnOf p a ++ turnOf p b := by
  unfold turnOf
  rw [List.filterMap_append]
theorem Led.step (E : Edges n es) (g : Greedy es tn done ws r) (l : Led es tn done) {e : Pr} (he : e ∈ ws) (least : ∀ f ∈ ws, (r f.1).head? = some f.2 → (r f.2).head? = some f.1 → ltP f e = false) : Led es tn (done ++ [e]) := fun o po to => by
  rcases l o po to with ⟨rest, rfl⟩ | ⟨pre, x, y, d, r', rfl, rfl, h⟩
  · have pr : rest.Perm ws := (List.perm_append_left_iff done).mp (po.trans g.pm.symm)
    cases rest with
    | nil => rw [pr.symm.eq_nil] at he; cases he
    | cons f rest =>
      have tr : ∀ p, turnOf p (f :: rest) = r p := fun p => by
        have a := to p
        rw [turn_app, ← g.tn p] at a
        exact List.append_cancel_left a
      have hf := pr.mem_iff.mp List.mem_cons_self
      have := E.inn f (g.inn hf)
      have h1 : (r f.1).head? = some f.2 := by
        rw [← tr]
        unfold turnOf
        rw [List.filterMap_cons, if_pos rfl]
        rfl
      have h2 : (r f.2).head? = some f.1 := by
        rw [← tr]
        unfold turnOf
        rw [List.filterMap_cons, if_neg (show ¬ f.1 = f.2 by omega), if_pos rfl]
        rfl
      have lf := least f hf h1 h2
      by_cases ef : e = f
      · subst ef
        exact .inl ⟨rest, by rw [List.append_assoc]; rfl⟩
      · exact .inr ⟨done, e, f, [], rest, rfl, rfl, ltP_tot lf ef⟩
  · exact .inr ⟨pre, x, y, d ++ [e], r', by rw [List.append_assoc]; rfl, rfl, h⟩
theorem Led.fin (l : Led es tn done) (pm : done.Perm es) (tn' : ∀ p, turnOf p done = tn p) : LeastO es tn done := ⟨pm, tn', fun o po to => by
  rcases l o po to with ⟨rest, rfl⟩ | ⟨pre, x, y, d, r', rfl, rfl, h⟩
  · have := po.length_eq.trans pm.length_eq.symm
    rw [List.length_append] at this
    have e : rest = [] := List.length_eq_zero_iff.mp (by omega)
    rw [e, List.append_nil]
    exact ltL_irr done
  · rw [ltL_pre]
    show (if y = x then _ else ltP y x) = false
    rw [if_neg (Ne.symm (ltP_ne h))]
    exact ltP_asym h⟩
end
/-! ### all sequences -/
def seqsOf (es : List Pr) : Nat → List (List Pr)
  | 0 => [[]]
  | k + 1 => (seqsOf es k).flatMap fun l => (es.filter fun e => decide (e ∉ l)).map fun e => l ++ [e]
theorem seqs_in {es : List Pr} : ∀ {k : Nat} {l : List Pr}, l ∈ seqsOf es k → l.length = k ∧ ∃ rest, (l ++ rest).Perm es
  | 0, l, h => by
    rw [List.mem_singleton.mp h]
    exact ⟨rfl, es, List.Perm.refl _⟩
  | k + 1, l, h => by
    obtain ⟨l0, h0, h1⟩ := List.mem_flatMap.mp h
    obtain ⟨e, he, rfl⟩ := List.mem_map.mp h1
    obtain ⟨e1, e2⟩ := List.mem_filter.mp he
    have e2 := of_decide_eq_true e2
    obtain ⟨hl, rest, pm⟩ := seqs_in h0
    refine ⟨by rw [List.length_append, hl]; rfl, ?_⟩
    have er : e ∈ rest := (List.mem_append.mp (pm.mem_iff.mpr e1)).resolve_left e2
    obtain ⟨r1, r2, rfl⟩ := List.append_of_mem er
    refine ⟨r1 ++ r2, List.Perm.trans ?_ pm⟩
    rw [List.append_assoc]
    exact List.Perm.append_left l0 (show (e :: (r1 ++ r2)).Perm (r1 ++ e :: r2) from List.perm_middle.symm)
theorem seqs_perm {es l : List Pr} (h : l ∈ seqsOf es es.length) : l.Perm es := by
  obtain ⟨hl, rest, pm⟩ := seqs_in h
  have := pm.length_eq
  rw [List.length_append] at this
  have e : rest = [] := List.length_eq_zero_iff.mp (by omega)
  rwa [e, List.append_nil] at pm
theorem seqs_all {es : List Pr} {l : List Pr} (nd : es.Nodup) (pm : l.Perm es) : ∀ k, k ≤ l.length → l.take k ∈ seqsOf es k
  | 0, _ => by
    show [] ∈ [[]]
    exact List.mem_singleton.mpr rfl
  | k + 1, h => by
    have ih := seqs_all nd pm k (by omega)
    refine List.mem_flatMap.mpr ⟨l.take k, ih, List.mem_map.mpr ⟨l[k], List.mem_filter.mpr ⟨pm.mem_iff.mp (List.getElem_mem (by omega)), decide_eq_true fun z => ?_⟩, ?_⟩⟩
    · have nl := pm.nodup_iff.mpr nd
      obtain ⟨j, hj⟩ := List.mem_iff_getElem?.mp z
      rw [List.getElem?_take] at hj
      split at hj
      · rename_i lt
        obtain ⟨l1, e1⟩ := List.getElem?_eq_some_iff.mp hj
        exact List.pairwise_iff_getElem.mp nl j k l1 (by omega) lt e1
      · cases hj
    · rw [List.take_add_one, List.getElem?_eq_getElem (by omega)]
      rfl
theorem flat_len {α β : Type} {f : α → List β} {m : Nat} : ∀ {l : List α}, (∀ x ∈ l, (f x).length ≤ m) → (l.flatMap f).length ≤ l.length * m
  | [], _ => by simp
  | x :: l, h => by
    rw [List.flatMap_cons, List.length_append, List.length_cons, Nat.succ_mul]
    have a := h x List.mem_cons_self
    have b := flat_len (l := l) fun y hy => h y (List.mem_cons_of_mem _ hy)
    omega
theorem seqs_len {es : List Pr} {m : Nat} (h : es.length ≤ m) : ∀ k, (seqsOf es k).length ≤ m ^ k
  | 0 => Nat.le_refl _
  | k + 1 => by
    have ih := seqs_len h k
    have a : (seqsOf es (k + 1)).length ≤ (seqsOf es k).length * m := flat_len fun l _ => by
      rw [List.length_map]
      exact Nat.le_trans (List.length_filter_le _ _) h
    rw [Nat.pow_succ]
    exact Nat.le_trans a (Nat.mul_le_mul_right m ih)
end Os
namespace K14
open PySem PySem.Spec PyProof.Rows L2 Os Evl
abbrev sNear : Stmt := topS 25
theorem scNear : FnScope ["graph", "found", "low", "high", "k", "row"] ["graph"] (defScope sNear) := ⟨rfl, rfl, rfl, by decide +kernel, rfl, by decide +kernel, by decide +kernel⟩
abbrev sPerms : Stmt := topS 26
theorem scPerms : FnScope ["source", "graph", "row"] ["source", "graph"] (defScope sPerms) := ⟨rfl, rfl, rfl, by decide +kernel, rfl, by decide +kernel, by decide +kernel⟩
theorem iteF {A B : Prop} (h : B) : if (!true) = true then A else B := by
  rw [if_neg (by decide)]
  exact h
theorem Drew.old {s : Addr} {B : Nat} {H0 H H' : Hp} (e : Ex H0 H) (ns : H0 s = none) (d : Drew s B H H') : Ex H0 H' := fun b o h =>
  d.get (ne_of_none h ns) (e b o h)
theorem lim_pr {e : Pr} (h1 : e.1 < 64) (h2 : e.2 < 64) : Lim 207 1 (Os.prD e) := (Lim.tup (L := 100) (D := 0) (m := 2) (fun d hd => by
  rcases List.mem_cons.mp hd with rfl | hd
  · exact .int h1
  · rw [List.mem_singleton.mp hd]
    exact .int h2) (Nat.le_refl _)).mono (by decide) (Nat.le_refl _)
theorem lim_prs {os : List Pr} (h : ∀ e ∈ os, e.1 < 64 ∧ e.2 < 64) (hl : os.length ≤ 60) : Lim 12543 2 (.list (os.map Os.prD)) := (Lim.lst (L := 207) (D := 1) (m := 60) (fun d hd => by
  obtain ⟨e, he, rfl⟩ := List.mem_map.mp hd
  exact lim_pr (h e he).1 (h e he).2) (by rw [List.length_map]; exact hl)).mono (by decide) (Nat.le_refl _)
theorem lim_graph {n : Nat} {es : List Pr} (ok : IsForest n es) : Lim 25093 3 (.tuple [.int (n : Int), .list (es.map Os.prD)]) := (Lim.tup (L := 12543) (D := 2) (m := 2) (fun d hd => by
  rcases List.mem_cons.mp hd with rfl | hd
  · exact (Lim.int (by have := ok.n40; omega)).mono (by decide) (by decide)
  · rw [List.mem_singleton.mp hd]
    exact lim_prs (fun e he => by have := ok.edges.inn e he; have := ok.n40; omega) ok.few) (Nat.le_refl _)).mono (by decide) (Nat.le_refl _)

/-- rows of numbers as data -/
def rowsD (n : Nat) (f : Nat → List Nat) : List PyData := (List.range n).map fun i => .list (natsD (f i))
theorem rowsD_at {n i : Nat} {f : Nat → List Nat} (h : i < n) : (rowsD n f)[i]? = some (.list (natsD (f i))) := by
  unfold rowsD
  rw [List.getElem?_map, List.getElem?_range h]
  rfl
theorem dts_of {G : Hp} : ∀ {xs : List V} {ds : List PyData}, xs.length = ds.length → (∀ (i : Nat) (x : V) (d : PyData), xs[i]? = some x → ds[i]? = some d → Dt G x d) → Dts G xs ds
  | [], [], _, _ => .nil
  | x :: xs, d :: ds, hl, h => .cons (h 0 x d rfl rfl) (dts_of (by simpa using hl) fun i y e h1 h2 => h (i + 1) y e (by simpa using h1) (by simpa using h2))
  | [], _ :: _, hl, _ => by simp at hl
  | _ :: _, [], hl, _ => by simp at hl
theorem RwV.dt {H0 G : Hp} {L : Addr} {as : List Addr} {n : Nat} {f : Nat → List Nat} (h : RwV H0 G as n f) (hL : G L = some (.lst (as.map V.ref))) : Dt G (.ref L) (.list (rowsD n f)) :=
  .lst hL (dts_of (by unfold rowsD; rw [List.length_map, List.length_map, List.length_range, h.len]) fun i x d h1 h2 => by
    rw [List.getElem?_map] at h1
    cases hai : as[i]? with
    | none => rw [hai] at h1; cases h1
    | some c =>
      rw [hai] at h1
      cases h1
      have lt : i < n := by rw [← h.len]; exact (List.getElem?_eq_some_iff.mp hai).1
      rw [rowsD_at lt] at h2
      cases h2
      exact .lst (h.at' _ _ hai) (dts_nats _))
theorem plain_rows {n : Nat} {f : Nat → List Nat} (hn : n ≤ 1000) (hf : ∀ i, (f i).length ≤ 1000) (j : Nat) : Plain (j + 3) (.list (rowsD n f)) := .inr (.inr (.inl ⟨_, rfl, by unfold rowsD; rw [List.length_map, List.length_range]; exact hn, fun d hd => by
  obtain ⟨i, _, rfl⟩ := List.mem_map.mp hd
  exact plain_nats j (hf i)⟩))
theorem plain_two {d : PyData} {j : Nat} (h : Plain j d) : Plain (j + 1) (.list [d, d]) := .inr (.inr (.inl ⟨_, rfl, by show 2 ≤ 1000; decide, fun x hx => by
  rcases List.mem_cons.mp hx with rfl | hx
  · exact h
  · rw [List.mem_singleton.mp hx]
    exact h⟩))
theorem natsD_all {n : Nat} {l : List Nat} (h : ∀ x ∈ l, x < n) : (natsD l).all (posB (n : Int)) = true := by
  unfold natsD
  rw [List.all_map, List.all_eq_true]
  intro x hx
  show (decide (0 ≤ (x : Int)) && decide ((x : Int) < (n : Int))) = true
  have := h x hx
  rw [decide_eq_true (by omega), decide_eq_true (by omega)]
  rfl
theorem natsD_map (l : List Nat) : (natsD l).map intD = l.map fun x : Nat => (x : Int) := by
  unfold natsD
  rw [List.map_map]
  rfl
theorem adj_perm {es os : List Pr} (p : os.Perm es) (i : Nat) : (adj os i).Perm (adj es i) := p.filterMap _
theorem adj_in {n : Nat} {es : List Pr} (E : ∀ e ∈ es, e.1 < e.2 ∧ e.2 < n) {i x : Nat} (h : x ∈ adj es i) : x < n := by
  obtain ⟨e, he, h1⟩ := List.mem_filterMap.mp h
  have := E e he
  unfold other at h1
  by_cases a1 : e.1 = i
  · rw [if_pos a1] at h1
    cases h1
    omega
  · rw [if_neg a1] at h1
    by_cases a2 : e.2 = i
    · rw [if_pos a2] at h1
      cases h1
      omega
    · rw [if_neg a2] at h1
      cases h1
theorem adj_len {os : List Pr} {m : Nat} (h : os.length ≤ m) (i : Nat) : (adj os i).length ≤ m := by
  unfold adj
  exact Nat.le_trans (List.length_filterMap_le _ _) h
theorem adj_rev (os : List Pr) (i : Nat) : adj os.reverse i = (adj os i).reverse := by
  unfold adj
  rw [List.filterMap_reverse]
theorem turns_yes {n : Nat} {es os : List Pr} (ok : IsForest n es) (pm : os.Perm es) : turnsB n es (.list (rowsD n (adj os))) = true := by
  have hl : (rowsD n (adj os)).length = n := by unfold rowsD; rw [List.length_map, List.length_range]
  show (decide ((rowsD n (adj os)).length = n) && _) = true
  rw [decide_eq_true hl, Bool.true_and, List.all_eq_true]
  intro i hi
  have lt := List.mem_range.mp hi
  rw [List.getD_eq_getElem?_getD, rowsD_at lt]
  show ((natsD (adj os i)).all (posB (n : Int)) && ((natsD (adj os i)).map intD).isPerm _) = true
  rw [natsD_all fun x hx => adj_in (fun e he => ok.edges.inn e (pm.mem_iff.mp he)) hx, Bool.true_and, natsD_map]
  exact List.isPerm_iff.mpr ((adj_perm pm i).map _)
theorem rows_short {n : Nat} {f : Nat → List Nat} (hn : n ≤ 1000) (hf : ∀ i, (f i).length ≤ 1000) : Short2 (.list (rowsD n f)) := by
  refine ⟨by unfold rowsD; rw [List.length_map, List.length_range]; exact hn, fun d hd => ?_⟩
  obtain ⟨i, _, rfl⟩ := List.mem_map.mp hd
  show (natsD (f i)).length ≤ 1000
  unfold natsD
  rw [List.length_map]
  exact hf i
theorem PrsV.upd {G : Hp} {p : Addr} {xs' zs vs : List V} {es : List Pr} (h : PrsV G vs es) (hp : G p = some (.lst xs')) : PrsV (L2.upd G p (.lst zs)) vs es := by
  induction h with
  | nil => exact .nil
  | cons x _ ih =>
    obtain ⟨t, rfl, ht⟩ := x
    refine .cons ⟨t, rfl, ?_⟩ ih
    rw [upd_ne fun e => by
      rw [e, hp] at ht
      cases ht]
    exact ht
theorem PrsV.rev {G : Hp} {vs : List V} {es : List Pr} (h : PrsV G vs es) : PrsV G vs.reverse es.reverse := by
  induction h with
  | nil => exact .nil
  | cons x _ ih =>
    rw [List.reverse_cons, List.reverse_cons]
    exact ih.append (.cons x .nil)
/-- [row[::-1] for row in rows] -/
theorem lc_revs {K : PySem.W.Frag} {σ : L2.St} {H : Hp} {L : Addr} {as : List Addr} {n j i0 : Nat} {f : Nat → List Nat} {Q : VK} (hv0 : σ[i0]? = some (some (.ref L))) (hL : H L = some (.lst (as.map V.ref))) (len : as.length = n) (n40 : n ≤ 1000) (rw0 : ∀ i a, as[i]? = some a → H a = some (.lst (nats (f i))))
    (hw : ∀ x, wipe ((wipe σ [j]).set j (some x)) [j] = wipe σ [j]) (hv : ∀ x, ((wipe σ [j]).set j (some x))[j]? = some (some x))
    (q : ∀ D H' bs, Ex H H' → H D = none → H' D = some (.lst (bs.map V.ref)) → RwV H H' bs n (fun i => (f i).reverse) → Q (.ref D) H') : tLc (iList K (tVar i0)) (gName j) tYes (tRevL K (tVar j)) [j] σ H Q := by
  refine ⟨.ref L, hv0, L, rfl, ⟨_, sq_of hL⟩, fun D hD => ?_⟩
  have eD := Ex.new (o := .lst []) hD
  refine lc_list (xs := as.map V.ref) (fun i Hh => Ex H Hh ∧ ∃ bs : List Addr, Hh D = some (.lst (bs.map V.ref)) ∧ RwV (upd H D (.lst [])) Hh bs i (fun i => (f i).reverse)) ⟨eD, [], upd_same, rfl, (fun a h => nomatch h), (fun i a h => by simp at h), List.nodup_nil⟩ (fun i H' _ p => sq_of (p.1 _ _ hL)) ?_ ?_
  · rintro i x Hh hx ⟨x1, bs, hrs, rg⟩
    rw [List.getElem?_map] at hx
    cases hai : as[i]? with
    | none => rw [hai] at hx; cases hx
    | some c =>
      rw [hai] at hx
      cases hx
      have il : i < as.length := (List.getElem?_eq_some_iff.mp hai).1
      refine ⟨hw _, ?_⟩
      dsimp only [tYes]
      rw [if_pos rfl]
      refine ⟨.ref c, hv _, c, nats (f i), rfl, sq_of (x1 _ _ (rw0 _ _ hai)), fun b hb => ?_⟩
      have xb := Ex.new (o := .lst (nats (f i)).reverse) hb
      have nb : b ≠ D := fun e => by
        rw [e, hrs] at hb
        cases hb
      have hb0 : upd H D (.lst []) b = none := by
        rw [upd_ne nb]
        exact fresh_back x1 hb
      have al : ∀ {j : Nat} {c : Addr}, bs[j]? = some c → c ≠ b := fun h => ne_of_none (rg.at' _ _ h) hb
      have er : (nats (f i)).reverse = nats (f i).reverse := by
        unfold nats
        rw [List.map_reverse]
      refine ⟨bs.map V.ref, xb _ _ hrs, sz_lt (by rw [List.length_map, rg.len]; omega), (x1.trans xb).mut hD, bs ++ [b], ?_, ?_⟩
      · rw [upd_same, List.map_append]
        rfl
      · refine RwV.off (u := .lst []) ⟨by rw [List.length_append, rg.len]; rfl, fun c hc => ?_, fun j c hc => ?_, ?_⟩ upd_same
        · rcases List.mem_append.mp hc with hc | hc
          · exact rg.new c hc
          · rw [List.mem_singleton.mp hc]
            exact hb0
        · by_cases hj : j < bs.length
          · rw [List.getElem?_append_left hj] at hc
            exact xb _ _ (rg.at' j c hc)
          · rw [List.getElem?_append_right (by omega)] at hc
            have e1 : c = b := List.mem_singleton.mp (List.mem_of_getElem? hc)
            have e2 : j - bs.length < 1 := (List.getElem?_eq_some_iff.mp hc).1
            have e3 : j = i := by have := rg.len; omega
            rw [e1, e3, ← er]
            exact upd_same
        · refine List.nodup_append.mpr ⟨rg.nd, List.pairwise_singleton _ _, fun c hc d hd => ?_⟩
          rw [List.mem_singleton.mp hd]
          obtain ⟨j, hj⟩ := List.mem_iff_getElem?.mp hc
          exact al hj
  · rintro Hh ⟨x1, bs, hrs, rg⟩
    rw [List.length_map, len] at rg
    exact q D Hh bs x1 hD hrs (rg.weak eD)
theorem RwV.snoc' {H0 G : Hp} {as : List Addr} {n : Nat} {f g : Nat → List Nat} {b : Addr} (h : RwV H0 G as n f) (hb0 : H0 b = none) (al : ∀ c ∈ as, c ≠ b) (fg : ∀ j, j < n → f j = g j) (hb : G b = some (.lst (nats (g n)))) : RwV H0 G (as ++ [b]) (n + 1) g :=
  ⟨by rw [List.length_append, h.len]; rfl, fun c hc => by
    rcases List.mem_append.mp hc with hc | hc
    · exact h.new c hc
    · rw [List.mem_singleton.mp hc]
      exact hb0, fun j c hc => by
    by_cases hj : j < as.length
    · rw [List.getElem?_append_left hj] at hc
      rw [← fg j (by rw [← h.len]; exact hj)]
      exact h.at' j c hc
    · rw [List.getElem?_append_right (by omega)] at hc
      have e1 : c = b := List.mem_singleton.mp (List.mem_of_getElem? hc)
      have e2 : j - as.length < 1 := (List.getElem?_eq_some_iff.mp hc).1
      have e3 : j = n := by have := h.len; omega
      rw [e1, e3]
      exact hb, List.nodup_append.mpr ⟨h.nd, List.pairwise_singleton _ _, fun c hc d hd => by
    rw [List.mem_singleton.mp hd]
    exact al c hc⟩⟩
theorem RwV.snoc {H0 G G' : Hp} {as : List Addr} {n : Nat} {f : Nat → List Nat} {b : Addr} (h : RwV H0 G as n f) (x : Ex G G') (hb0 : H0 b = none) (al : ∀ c ∈ as, c ≠ b) (hb : G' b = some (.lst (nats (f n)))) : RwV H0 G' (as ++ [b]) (n + 1) f :=
  (h.ex x).snoc' hb0 al (fun _ _ => rfl) hb
/-- [sorted(row) for row in rows], the rows ascending already -/
theorem lc_sorts {K : PySem.W.Frag} {σ : L2.St} {H : Hp} {L : Addr} {as : List Addr} {n j i0 : Nat} {f : Nat → List Nat} {Q : VK} (hv0 : σ[i0]? = some (some (.ref L))) (hL : H L = some (.lst (as.map V.ref))) (len : as.length = n) (n40 : n ≤ 1000) (rw0 : ∀ i a, as[i]? = some a → H a = some (.lst (nats (f i))))
    (asc : ∀ i, (f i).Pairwise (· < ·)) (hw : ∀ x, wipe ((wipe σ [j]).set j (some x)) [j] = wipe σ [j]) (hv : ∀ x, ((wipe σ [j]).set j (some x))[j]? = some (some x))
    (q : ∀ D H' bs, Ex H H' → H D = none → H' D = some (.lst (bs.map V.ref)) → RwV H H' bs n f → Q (.ref D) H') : tLc (iList K (tVar i0)) (gName j) tYes (tCB (rSortedI K) (tCons (tVar j) tNil)) [j] σ H Q := by
  refine ⟨.ref L, hv0, L, rfl, ⟨_, sq_of hL⟩, fun D hD => ?_⟩
  have eD := Ex.new (o := .lst []) hD
  refine lc_list (xs := as.map V.ref) (fun i Hh => Ex H Hh ∧ ∃ bs : List Addr, Hh D = some (.lst (bs.map V.ref)) ∧ RwV (upd H D (.lst [])) Hh bs i f) ⟨eD, [], upd_same, rfl, (fun a h => nomatch h), (fun i a h => by simp at h), List.nodup_nil⟩ (fun i H' _ p => sq_of (p.1 _ _ hL)) ?_ ?_
  · rintro i x Hh hx ⟨x1, bs, hrs, rg⟩
    rw [List.getElem?_map] at hx
    cases hai : as[i]? with
    | none => rw [hai] at hx; cases hx
    | some c =>
      rw [hai] at hx
      cases hx
      have il : i < as.length := (List.getElem?_eq_some_iff.mp hai).1
      refine ⟨hw _, ?_⟩
      dsimp only [tYes]
      rw [if_pos rfl]
      refine ⟨.ref c, hv _, c, (f i).map (fun x : Nat => (x : Int)), rfl, by rw [nats_ints]; exact sq_of (x1 _ _ (rw0 _ _ hai)), fun ns' b pm pw hb => ?_⟩
      have same : ns' = (f i).map (fun x : Nat => (x : Int)) := List.Perm.eq_of_pairwise (le := (· ≤ ·)) (fun a b _ _ x y => by omega) pw (List.pairwise_map.mpr ((asc i).imp fun {x y} h => by show (x : Int) ≤ (y : Int); omega)) pm
      subst same
      rw [nats_ints]
      have xb := Ex.new (o := .lst (nats (f i))) hb
      have nb : b ≠ D := fun e => by
        rw [e, hrs] at hb
        cases hb
      have hb0 : upd H D (.lst []) b = none := by
        rw [upd_ne nb]
        exact fresh_back x1 hb
      have al : ∀ {j : Nat} {c : Addr}, bs[j]? = some c → c ≠ b := fun h => ne_of_none (rg.at' _ _ h) hb
      refine ⟨bs.map V.ref, xb _ _ hrs, sz_lt (by rw [List.length_map, rg.len]; omega), (x1.trans xb).mut hD, bs ++ [b], ?_, ?_⟩
      · rw [upd_same, List.map_append]
        rfl
      · exact RwV.off (u := .lst []) (rg.snoc xb hb0 (fun c hc => by
          obtain ⟨j, hj⟩ := List.mem_iff_getElem?.mp hc
          exact al hj) upd_same) upd_same
  · rintro Hh ⟨x1, bs, hrs, rg⟩
    rw [List.length_map, len] at rg
    exact q D Hh bs x1 hD hrs (rg.weak eD)
section
variable {P : Program} {w : World} {K : PySem.W.Frag} {mg : Str → Option Value} {base : Heap}
def spNear : Sp := fun vs H Q _ => ∃ (v : V) (n : Nat) (es : List Pr), vs = [v] ∧ GraphV H v n es ∧ IsForest n es ∧
  ∀ H' L as, Ex H H' → H L = none → H' L = some (.lst (as.map V.ref)) → RwV H H' as n (adj es) → Q (.ref L) H'
def spPerms : Sp := fun vs H Q _ => ∃ (s : Addr) (v : V) (n B : Nat) (es : List Pr), vs = [.ref s, v] ∧ Src H s B ∧ B ≤ 700000 ∧ GraphV (hide s H) v n es ∧ IsForest n es ∧
  ∀ H' L as (tn : Nat → List Nat), Drew s (B + 2400) H H' → H L = none → H' L = some (.lst (as.map V.ref)) → RwV H H' as n tn → (∀ i, (tn i).Perm (adj es i)) → Q (.ref L) H'
theorem ok_near {f : Addr} {fd : FuncData} {k : Nat} (F : Fun K "_law_near" "_law_near" sNear f fd) (mRange : mg "range" = none) (mSorted : mg "sorted" = none) : FnOk P w K mg base CX0 (k + 1) f fd ["graph"] spNear := by
  refine F.ok scNear (fun vs H Q E h => ?_) (fun cdv A outer s H vs Q E hr h => ?_)
  · obtain ⟨v, n, es, rfl, _⟩ := h
    rfl
  · obtain ⟨v, n, es, rfl, hg, ok, q⟩ := h
    refine ⟨_, (pss_cons (ps_setLc (i := 1) (own := [("k", 4)]) (g := gName 4) (tt := tYes) rfl scNear.nd rfl rfl (sw_true rfl rfl rfl (by decide +kernel)) (pi_range1 (by rfl) mRange (pa_cons (pe_ix ix_tup (pv 0) pe_int (fun _ _ => rfl)) pa_nil)) (blkOk_by (N := ["graph", "found", "low", "high", "k", "row"]) (sc := defScope sNear) (by decide +kernel)) (fun _ _ _ _ _ => pg_name (i := 4) scNear.nd rfl (Or.inl rfl)) (fun _ _ _ _ _ => pts_nil) (fun _ _ _ _ _ => (pe_lst pa_nil)))
      (pss_cons (ps_for PassesOwn.never rfl (pi_list (pe_ix ix_tup (pv 0) pe_int (fun _ _ => rfl))) (pg_tup rfl (pgs_cons (pg_name (i := 2) scNear.nd rfl (Or.inl rfl)) (pgs_cons (pg_name (i := 3) scNear.nd rfl (Or.inl rfl)) pgs_nil)))
      (pss_cons (ps_expr (pe_bm PySem.F.plainAttrs_list PySem.F.slot_list_append PySem.F.type_list_append mt_append (pe_ix ix_list (pv 1) (pv 2) (fun _ _ => rfl)) (pa_cons (pv 3) pa_nil)))
      (pss_one (ps_expr (pe_bm PySem.F.plainAttrs_list PySem.F.slot_list_append PySem.F.type_list_append mt_append (pe_ix ix_list (pv 1) (pv 3) (fun _ _ => rfl)) (pa_cons (pv 2) pa_nil))))))
      (pss_one (ps_ret (pe_lc (own := [("row", 5)]) (g := gName 5) (tt := tYes) (te := tCB (rSortedI K) (tCons (tVar 5) tNil)) rfl scNear.nd (pi_list (pv 1)) (blkOk_by (N := ["graph", "found", "low", "high", "k", "row"]) (sc := defScope sNear) (by decide +kernel)) (fun _ _ _ _ _ => pg_name (i := 5) scNear.nd rfl (Or.inl rfl)) (fun _ _ _ _ _ => pts_nil) (fun _ _ _ _ _ => (pe_callB cr_sortedI (by rfl) mSorted boot_sorted (pa_cons (pv 5) pa_nil)))))))), ?_⟩
    obtain ⟨g, a, xs, rfl, h2, h3, h4⟩ := hg
    have n40 := ok.n40
    have ein := ok.edges.inn
    have few := ok.few
    refine ⟨.ref g, rfl, g, _, 0, .int (n : Int), rfl, rfl, st_of h2, atI_nat (j := 0) rfl, (n : Int), rfl, by omega, by omega, fun D hD => ?_⟩
    have eD := Ex.new (o := .lst []) hD
    refine lc_range (lo := 0) (n := ((n : Int)).toNat) (fun i Hh => Ex H Hh ∧ ∃ as : List Addr, Hh D = some (.lst (as.map V.ref)) ∧ RwV (upd H D (.lst [])) Hh as i (fun _ => [])) ⟨eD, [], upd_same, rfl, (fun a h => nomatch h), (fun i a h => by simp at h), List.nodup_nil⟩ ?_ ?_
    · rintro i Hh hi' ⟨x1, as, hrs, rg⟩
      have lt : i < n := by omega
      refine ⟨rfl, ?_⟩
      dsimp only [tYes]
      rw [if_pos rfl]
      refine ⟨Nat.zero_le _, fun b hb => ?_⟩
      have xb := Ex.new (o := .lst []) hb
      have nb : b ≠ D := fun e => by
        rw [e, hrs] at hb
        cases hb
      have hb0 : upd H D (.lst []) b = none := by
        rw [upd_ne nb]
        exact fresh_back x1 hb
      have al : ∀ {j : Nat} {c : Addr}, as[j]? = some c → c ≠ b := fun h => ne_of_none (rg.at' _ _ h) hb
      refine ⟨as.map V.ref, xb _ _ hrs, sz_lt (by rw [List.length_map, rg.len]; omega), (x1.trans xb).mut hD, as ++ [b], ?_, ?_⟩
      · rw [upd_same, List.map_append]
        rfl
      · refine RwV.off (u := .lst []) ⟨by rw [List.length_append, rg.len]; rfl, fun c hc => ?_, fun j c hc => ?_, ?_⟩ upd_same
        · rcases List.mem_append.mp hc with hc | hc
          · exact rg.new c hc
          · rw [List.mem_singleton.mp hc]
            exact hb0
        · by_cases hj : j < as.length
          · rw [List.getElem?_append_left hj] at hc
            exact xb _ _ (rg.at' j c hc)
          · rw [List.getElem?_append_right (by omega)] at hc
            have : c = b := by
              have := List.mem_of_getElem? hc
              exact List.mem_singleton.mp this
            rw [this]
            exact upd_same
        · refine List.nodup_append.mpr ⟨rg.nd, List.pairwise_singleton _ _, fun c hc d hd => ?_⟩
          rw [List.mem_singleton.mp hd]
          obtain ⟨j, hj⟩ := List.mem_iff_getElem?.mp hc
          exact al hj
    · rintro Hh ⟨x1, as, hrs, rg⟩
      rw [Int.toNat_natCast] at rg
      dsimp only [gName]
      have asH : ∀ c ∈ as, H c = none := fun c hc => fresh_back eD (rg.new c hc)
      refine q_forL (xs := xs) (ev_op (ev_var rfl) ev_c (rv_ixT (st_of (x1 _ _ h2)) (atI_nat (j := 1) rfl))) (sq_of (x1 _ _ h3)) (fun i σ' H' => Ex H H' ∧ ∃ (y4 y5 y6 y7 : Option V), σ' = [some (.ref g), some (.ref D), y4, y5, y6, y7] ∧ H' D = some (.lst (as.map V.ref)) ∧ RwV (upd H D (.lst [])) H' as n (adj (es.take i)))
        (fun H4 e4 => ⟨x1.trans e4, _, _, _, _, rfl, e4 _ _ hrs, rg.ex e4⟩) (fun i σ' H' _ h => sq_of (h.1 _ _ h3)) ?_ ?_
      · rintro i x σ' H4 hx ⟨e4, y4, y5, y6, y7, rfl, hD4, rw4⟩
        obtain ⟨e, he, tp, rfl, htp⟩ := h4.get hx
        have ein := ein e (List.mem_of_getElem? he)
        have il : i < es.length := (List.getElem?_eq_some_iff.mp he).1
        have adl : ∀ j, (adj (es.take i) j).length ≤ 60 := fun j => by
          unfold adj
          have h1 := List.length_filterMap_le (other j) (es.take i)
          have h2 := List.length_take_le i es
          omega
        obtain ⟨c1, hc1⟩ : ∃ c, as[e.1]? = some c := ⟨_, List.getElem?_eq_getElem (by rw [rw4.len]; omega)⟩
        obtain ⟨c2, hc2⟩ : ∃ c, as[e.2]? = some c := ⟨_, List.getElem?_eq_getElem (by rw [rw4.len]; omega)⟩
        have at' : ∀ {j : Nat} {c : Addr}, as[j]? = some c → (as.map V.ref)[j]? = some (.ref c) := fun h => by
          rw [List.getElem?_map, h]
          rfl
        refine ⟨tp, _, rfl, st_of (e4 _ _ htp), rfl, _, _, rfl, _, [], rfl, rfl, ?_⟩
        have nD : ∀ {c : Addr}, c ∈ as → D ≠ c := fun hc z => by
          have := rg.new _ hc
          rw [← z, upd_same] at this
          cases this
        refine q_app (v := .int (e.2 : Int)) (rw4.at' _ _ hc1) (ev_op (ev_var rfl) (ev_var rfl) (rv_ixL (sq_of hD4) (atI_nat (at' hc1)))) (ev_var rfl) (by rw [List.length_map]; have := adl e.1; omega) fun H5 e5 => ?_
        have m1 := List.mem_of_getElem? hc1
        have m2 := List.mem_of_getElem? hc2
        have e1 : nats (adj (es.take i) e.1) ++ [V.int (e.2 : Int)] = nats (adj (es.take i) e.1 ++ [e.2]) := by
          unfold nats
          rw [List.map_append]
          rfl
        rw [e1]
        have rw5 := (rw4.ex e5).put (l := adj (es.take i) e.1 ++ [e.2]) hc1
        have hD5 : upd H5 c1 (.lst (nats (adj (es.take i) e.1 ++ [e.2]))) D = some (.lst (as.map V.ref)) := by
          rw [upd_ne (nD m1)]
          exact e5 _ _ hD4
        have f2 := rw5.at' _ _ hc2
        rw [if_neg (show ¬ e.2 = e.1 by omega)] at f2
        refine s_app (v := .int (e.1 : Int)) f2 (ev_op (ev_var rfl) (ev_var rfl) (rv_ixL (sq_of hD5) (atI_nat (at' hc2)))) (ev_var rfl) (by rw [List.length_map]; have := adl e.2; omega) fun H6 e6 => ?_
        have e2 : nats (adj (es.take i) e.2) ++ [V.int (e.1 : Int)] = nats (adj (es.take i) e.2 ++ [e.1]) := by
          unfold nats
          rw [List.map_append]
          rfl
        rw [e2]
        have rw6 := (rw5.ex e6).put (l := adj (es.take i) e.2 ++ [e.1]) hc2
        refine ⟨((((e4.trans e5).mut (asH _ m1)).trans e6).mut (asH _ m2)), _, _, _, _, rfl, ?_, rw6.like fun j => ?_⟩
        · rw [upd_ne (nD m2)]
          exact e6 _ _ hD5
        · rw [adj_snoc he ein.1]
          by_cases j2 : j = e.2
          · rw [if_pos j2, if_pos j2, if_neg (show ¬ e.2 = e.1 by omega)]
          · rw [if_neg j2, if_neg j2]
            by_cases j1 : j = e.1
            · rw [if_pos j1, if_pos j1, j1]
            · rw [if_neg j1, if_neg j1]
      · rintro σ' H4 ⟨e4, y4, y5, y6, y7, rfl, hD4, rw4⟩
        rw [h4.length, List.take_length] at rw4
        exact lc_sorts (n := n) (f := adj es) rfl hD4 rw4.len (by omega) rw4.at' (adj_asc ok.edges) (fun _ => rfl) (fun _ => rfl) fun p H5 bs e5 hp h5 rw5 => q H5 p bs (e4.trans e5) (fresh_back e4 hp) h5 (rw5.weak e4)

theorem adj_out {n : Nat} {es : List Pr} (E : ∀ e ∈ es, e.1 < e.2 ∧ e.2 < n) {i : Nat} (h : n ≤ i) : adj es i = [] := by
  unfold adj
  rw [List.filterMap_eq_nil_iff]
  intro e he
  have := E e he
  unfold other
  rw [if_neg (by omega), if_neg (by omega)]
theorem ok_perms {f fN fS : Addr} {fd fdN fdS : FuncData} {k : Nat} (F : Fun K "_law_perms" "_law_perms" sPerms f fd)
    (GN : FnOk P w K mg base CX0 k fN fdN ["graph"] spNear) (FN : Fun K "_law_near" "_law_near" sNear fN fdN) (bN : Binds K fdN ["graph"] []) (gN : mg "_law_near" = some (.ref fN))
    (GS : FnOk P w K mg base CX0 k fS fdS ["source", "values"] spShuf) (FS : Fun K "_law_shuffle" "_law_shuffle" sShuf fS fdS) (bS : Binds K fdS ["source", "values"] []) (gS : mg "_law_shuffle" = some (.ref fS)) : FnOk P w K mg base CX0 (k + 1) f fd ["source", "graph"] spPerms := by
  refine F.ok scPerms (fun vs H Q E h => ?_) (fun cdv A outer st H vs Q E hr h => ?_)
  · obtain ⟨s, v, n, B, es, rfl, _⟩ := h
    rfl
  · obtain ⟨s, v, n, B, es, rfl, hS, hB, hg, ok, q⟩ := h
    refine ⟨_, (pss_one (ps_ret (pe_lc (own := [("row", 2)]) (g := gName 2) (tt := tYes) (te := tCall spShuf [] E0 (tCons (tVar 0) (tCons (tVar 2) tNil))) rfl scPerms.nd (pi_list (pe_call GN hr (by rfl) gN FN.kp bN .nil pass0 (pa_cons (pv 1) pa_nil))) (blkOk_by (N := ["source", "graph", "row"]) (sc := defScope sPerms) (by decide +kernel)) (fun _ _ _ _ _ => pg_name (i := 2) scPerms.nd rfl (Or.inl rfl)) (fun _ _ _ _ _ => pts_nil) (fun _ _ _ _ _ => (pe_call GS hr (by rfl) gS FS.kp bS .nil pass0 (pa_cons (pv 0) (pa_cons (pv 2) pa_nil))))))), ?_⟩
    have src0 := hS.at
    have n40 := ok.n40
    have few := ok.few
    refine ⟨v, rfl, v, n, es, rfl, hg.ex hide_up, ok, fun H1 L as e1 hL h1 rw1 => ?_⟩
    have d1 : Drew s B H H1 := (Drew.refl hS).ex e1
    refine ⟨L, rfl, ⟨_, sq_of h1⟩, fun D hD => ?_⟩
    have hD0 : H D = none := fresh_back e1 hD
    have eD := Ex.new (o := .lst []) hD
    have nLs : L ≠ s := new_apart src0 hL
    refine lc_list (xs := as.map V.ref) (fun i Hh => ∃ (bs : List Addr) (T : List (List Nat)), Drew s (B + 60 * i) H1 Hh ∧ Hh D = some (.lst (bs.map V.ref)) ∧ RwV (upd H1 D (.lst [])) Hh bs i (fun j => T.getD j []) ∧ T.length = i ∧ ∀ j, j < i → (T.getD j []).Perm (adj es j))
      ⟨[], [], ((Drew.refl (hS.ex e1)).ex eD), upd_same, ⟨rfl, (fun a h => nomatch h), (fun i a h => by simp at h), List.nodup_nil⟩, rfl, fun j h => absurd h (Nat.not_lt_zero j)⟩ (fun i H' _ p => ?_) ?_ ?_
    · obtain ⟨bs, T, d, _⟩ := p
      exact sq_of (d.get nLs h1)
    · rintro i x Hh hx ⟨bs, T, d2, hrs, rg, tl, tp⟩
      rw [List.getElem?_map] at hx
      cases hai : as[i]? with
      | none => rw [hai] at hx; cases hx
      | some c =>
        rw [hai] at hx
        cases hx
        have il : i < n := by rw [← rw1.len]; exact (List.getElem?_eq_some_iff.mp hai).1
        have src1 := (hS.ex e1).at
        have ncs : c ≠ s := new_apart src0 (rw1.new c (List.mem_of_getElem? hai))
        have al := adj_len (os := es) few i
        refine ⟨rfl, ?_⟩
        dsimp only [tYes]
        rw [if_pos rfl]
        refine ⟨.ref s, rfl, .ref c, rfl, s, c, nats (adj es i), B + 60 * i, rfl, d2.src, d2.get ncs (rw1.at' _ _ hai), ncs, by rw [List.length_map]; omega, by omega, fun H3 b ys d3 hb hys pm => ?_⟩
        obtain ⟨l, rfl, pl⟩ := perm_nats pm
        have src2 := d2.src.at
        have nbs : b ≠ s := new_apart src2 hb
        have nDs : D ≠ s := new_apart src1 hD
        have nb : b ≠ D := fun e => by
          rw [e, hrs] at hb
          cases hb
        have hb1 : H1 b = none := d2.none src1 hb
        have hb0 : upd H1 D (.lst []) b = none := by
          rw [upd_ne nb]
          exact hb1
        have nw : ∀ c ∈ bs, c ≠ s := fun c hc => by
          have h0 := rg.new c hc
          by_cases e : c = D
          · rw [e]
            exact nDs
          · rw [upd_ne e] at h0
            exact new_apart src1 h0
        have al2 : ∀ c ∈ bs, c ≠ b := fun c hc => by
          obtain ⟨j, hj⟩ := List.mem_iff_getElem?.mp hc
          exact ne_of_none (rg.at' _ _ hj) hb
        have rg3 : RwV (upd H1 D (.lst [])) H3 bs i (fun j => T.getD j []) := ⟨rg.len, rg.new, fun j c hj => d3.get (nw c (List.mem_of_getElem? hj)) (rg.at' j c hj), rg.nd⟩
        have rg4 : RwV (upd H1 D (.lst [])) H3 (bs ++ [b]) (i + 1) (fun j => (T ++ [l]).getD j []) := by
          refine (rg3.like fun j => rfl).snoc' hb0 al2 (fun j hj => ?_) ?_
          · rw [List.getD_eq_getElem?_getD, List.getD_eq_getElem?_getD, List.getElem?_append_left (by omega)]
          · have e1 : (T ++ [l]).getD i [] = l := by
              rw [List.getD_eq_getElem?_getD, List.getElem?_append_right (by omega), tl, Nat.sub_self]
              rfl
            rw [e1]
            exact hys
        refine ⟨bs.map V.ref, d3.get nDs hrs, sz_lt (by rw [List.length_map, rg.len]; omega), bs ++ [b], T ++ [l], ?_, ?_, RwV.off (u := .lst []) rg4 upd_same, ?_, fun j hj => ?_⟩
        · exact ((d2.trans d3).mono (by rw [List.length_map]; omega)).mut src1 hD
        · rw [upd_same, List.map_append]
          rfl
        · rw [List.length_append, tl]
          rfl
        · by_cases e : j < i
          · have := tp j e
            rwa [List.getD_eq_getElem?_getD, List.getElem?_append_left (by omega), ← List.getD_eq_getElem?_getD]
          · have ej : j = i := by omega
            rw [List.getD_eq_getElem?_getD, List.getElem?_append_right (by omega), tl, ej, Nat.sub_self]
            exact pl
    · rintro Hh ⟨bs, T, d2, hrs, rg, tl, tp⟩
      rw [List.length_map, rw1.len] at rg tl tp d2
      refine q Hh D bs (fun j => T.getD j []) ((d1.trans d2).mono (by omega)) hD0 hrs ((rg.weak eD).weak e1) fun j => ?_
      by_cases e : j < n
      · exact tp j e
      · rw [adj_out ok.edges.inn (by omega), List.getD_eq_getElem?_getD, List.getElem?_eq_none (by omega)]
        exact List.Perm.refl _
end
end K14
namespace K14
open PySem PySem.Spec PyProof.Rows L2 Os Evl
abbrev sLeast : Stmt := topS 18
theorem scLeast : FnScope ["edges", "turns", "waiting", "rest", "order", "p", "q", "ready", "turn"] ["edges", "turns"] (defScope sLeast) := ⟨rfl, rfl, rfl, by decide +kernel, rfl, by decide +kernel, by decide +kernel⟩
theorem PrsV.era {G : Hp} : ∀ {vs : List V} {es : List Pr} (j : Nat), PrsV G vs es → PrsV G (vs.eraseIdx j) (es.eraseIdx j)
  | _, _, _, .nil => .nil
  | _, _, 0, .cons _ r => r
  | _, _, j + 1, .cons x r => .cons x (PrsV.era j r)
theorem era_perm {α : Type} {l : List α} {k : Nat} {y : α} (h : l[k]? = some y) : (y :: l.eraseIdx k).Perm l := by
  have := perm_pop [] h
  simpa using this
theorem first_nodup {α : Type} {l : List α} {j m : Nat} {y : α} (nd : l.Nodup) (h : l[j]? = some y) (lt : m < j) : l[m]? ≠ some y := fun z => by
  obtain ⟨l1, e1⟩ := List.getElem?_eq_some_iff.mp h
  obtain ⟨l2, e2⟩ := List.getElem?_eq_some_iff.mp z
  exact List.pairwise_iff_getElem.mp nd m j l2 l1 lt (by rw [e1, e2])
theorem PrsV.take_get {G : Hp} {vs : List V} {es : List Pr} {e : Pr} (h : PrsV G vs es) (he : e ∈ es) : ∃ (i : Nat) (v : V), vs[i]? = some v ∧ es[i]? = some e ∧ PrV G v e := by
  induction h with
  | nil => cases he
  | cons x r ih =>
    rcases List.mem_cons.mp he with rfl | he
    · exact ⟨0, _, rfl, rfl, x⟩
    · obtain ⟨i, v, h1, h2, h3⟩ := ih he
      exact ⟨i + 1, v, h1, h2, h3⟩
/-- whether an edge is the next one at both of its ends -/
def rdy (r : Nat → List Nat) (e : Pr) : Bool := decide ((r e.1).head? = some e.2) && decide ((r e.2).head? = some e.1)
theorem rdy_head {r : Nat → List Nat} {e : Pr} (h : rdy r e = true) : (∃ A, r e.1 = e.2 :: A) ∧ ∃ B, r e.2 = e.1 :: B := by
  unfold rdy at h
  rw [Bool.and_eq_true] at h
  have a := of_decide_eq_true h.1
  have b := of_decide_eq_true h.2
  refine ⟨?_, ?_⟩
  · cases hc : r e.1 with
    | nil => rw [hc] at a; cases a
    | cons x A => rw [hc] at a; cases a; exact ⟨A, rfl⟩
  · cases hc : r e.2 with
    | nil => rw [hc] at b; cases b
    | cons x A => rw [hc] at b; cases b; exact ⟨A, rfl⟩
/-- [list(row) for row in rows] -/
theorem lc_copies {K : PySem.W.Frag} {σ : L2.St} {H : Hp} {L : Addr} {as : List Addr} {n j i0 : Nat} {f : Nat → List Nat} {Q : VK} (hv0 : σ[i0]? = some (some (.ref L))) (hL : H L = some (.lst (as.map V.ref))) (len : as.length = n) (n40 : n ≤ 1000) (rw0 : ∀ i a, as[i]? = some a → H a = some (.lst (nats (f i))))
    (hw : ∀ x, wipe ((wipe σ [j]).set j (some x)) [j] = wipe σ [j]) (hv : ∀ x, ((wipe σ [j]).set j (some x))[j]? = some (some x))
    (q : ∀ D H' bs, Ex H H' → H D = none → H' D = some (.lst (bs.map V.ref)) → RwV (upd H D (.lst [])) H' bs n f → Q (.ref D) H') : tLc (iList K (tVar i0)) (gName j) tYes (tCB (rListS K) (tCons (tVar j) tNil)) [j] σ H Q := by
  refine ⟨.ref L, hv0, L, rfl, ⟨_, sq_of hL⟩, fun D hD => ?_⟩
  have eD := Ex.new (o := .lst []) hD
  refine lc_list (xs := as.map V.ref) (fun i Hh => Ex H Hh ∧ ∃ bs : List Addr, Hh D = some (.lst (bs.map V.ref)) ∧ RwV (upd H D (.lst [])) Hh bs i f) ⟨eD, [], upd_same, rfl, (fun a h => nomatch h), (fun i a h => by simp at h), List.nodup_nil⟩ (fun i H' _ p => sq_of (p.1 _ _ hL)) ?_ ?_
  · rintro i x Hh hx ⟨x1, bs, hrs, rg⟩
    rw [List.getElem?_map] at hx
    cases hai : as[i]? with
    | none => rw [hai] at hx; cases hx
    | some c =>
      rw [hai] at hx
      cases hx
      have il : i < as.length := (List.getElem?_eq_some_iff.mp hai).1
      refine ⟨hw _, ?_⟩
      dsimp only [tYes]
      rw [if_pos rfl]
      refine ⟨.ref c, hv _, c, nats (f i), rfl, .inl (sq_of (x1 _ _ (rw0 _ _ hai))), fun b hb => ?_⟩
      have xb := Ex.new (o := .lst (nats (f i))) hb
      have nb : b ≠ D := fun e => by
        rw [e, hrs] at hb
        cases hb
      have hb0 : upd H D (.lst []) b = none := by
        rw [upd_ne nb]
        exact fresh_back x1 hb
      have al : ∀ {j : Nat} {c : Addr}, bs[j]? = some c → c ≠ b := fun h => ne_of_none (rg.at' _ _ h) hb
      refine ⟨bs.map V.ref, xb _ _ hrs, sz_lt (by rw [List.length_map, rg.len]; omega), (x1.trans xb).mut hD, bs ++ [b], ?_, ?_⟩
      · rw [upd_same, List.map_append]
        rfl
      · exact RwV.off (u := .lst []) (rg.snoc xb hb0 (fun c hc => by
          obtain ⟨j, hj⟩ := List.mem_iff_getElem?.mp hc
          exact al hj) upd_same) upd_same
  · rintro Hh ⟨x1, bs, hrs, rg⟩
    rw [List.length_map, len] at rg
    exact q D Hh bs x1 hD hrs rg
theorem head_dec {l : List Nat} {y : Nat} {x : Nat} {t : List Nat} (h : l = x :: t) : decide (V.int (x : Int) = V.int (y : Int)) = decide (l.head? = some y) := by
  rw [h]
  refine decide_eq_decide.mpr ⟨fun e => ?_, fun e => ?_⟩
  · have := V.int.inj e
    show some x = some y
    congr 1
    omega
  · have e' : some x = some y := e
    rw [Option.some.inj e']
section
variable {P : Program} {w : World} {K : PySem.W.Frag} {mg : Str → Option Value} {base : Heap}
def spLeast : Sp := fun vs H Q _ => ∃ (a t : Addr) (n : Nat) (es : List Pr) (xs : List V) (as : List Addr) (tn : Nat → List Nat), vs = [.ref a, .ref t] ∧ IsForest n es ∧ H a = some (.lst xs) ∧ PrsV H xs es ∧ H t = some (.lst (as.map V.ref)) ∧ as.length = n ∧ (∀ i c, as[i]? = some c → H c = some (.lst (nats (tn i)))) ∧ (∀ i, (tn i).Perm (adj es i)) ∧
  ∀ H' p os, Ex H H' → H p = none → OrdV H' (.ref p) os → LeastO es tn os → Q (.ref p) H'
theorem q_te {i : Nat} {te : TE} {tz : TS} {D : Ends} {σ : L2.St} {H : Hp} (h : te σ H fun v H' => tz D (σ.set i (some v)) H') : tSeq (tAsg te (gName i)) tz D σ H := h
/-- the edges that are ready, as new pairs -/
theorem lc_ready {K : PySem.W.Frag} {σ : L2.St} {H : Hp} {Wt R : Addr} {xs : List V} {ws : List Pr} {bs : List Addr} {n : Nat} {r : Nat → List Nat} {Q : VK} (v2 : σ[2]? = some (some (.ref Wt)))
    (hW : H Wt = some (.lst xs)) (pr : PrsV H xs ws) (hR : H R = some (.lst (bs.map V.ref))) (bl : bs.length = n) (rw0 : ∀ i c, bs[i]? = some c → H c = some (.lst (nats (r i)))) (inn : ∀ e ∈ ws, e.1 < n ∧ e.2 < n) (full : ∀ e ∈ ws, r e.1 ≠ [] ∧ r e.2 ≠ []) (few : ws.length ≤ 1000)
    (hw : ∀ x y, wipe (((wipe σ [5, 6]).set 5 (some x)).set 6 (some y)) [5, 6] = wipe σ [5, 6]) (h3 : ∀ x y, (((wipe σ [5, 6]).set 5 (some x)).set 6 (some y))[3]? = some (some (.ref R))) (h5 : ∀ x y, (((wipe σ [5, 6]).set 5 (some x)).set 6 (some y))[5]? = some (some x)) (h6 : ∀ x y, (((wipe σ [5, 6]).set 5 (some x)).set 6 (some y))[6]? = some (some y))
    (q : ∀ D H' ys, Ex H H' → H D = none → H' D = some (.lst ys) → PrsV H' ys (ws.filter (rdy r)) → Q (.ref D) H') :
    tLc (iList K (tVar 2)) (gTup K 2 (gCons (gName 5) (gCons (gName 6) gNil))) (tAnd (tTest (tOp rEq (tOp (rIxL K) (tOp (rIxL K) (tVar 3) (tVar 5)) (tC (.int 0))) (tVar 6))) (tTest (tOp rEq (tOp (rIxL K) (tOp (rIxL K) (tVar 3) (tVar 6)) (tC (.int 0))) (tVar 5)))) (tTup (tCons (tVar 5) (tCons (tVar 6) tNil))) [5, 6] σ H Q := by
  refine ⟨.ref Wt, v2, Wt, rfl, ⟨_, sq_of hW⟩, fun D hD => ?_⟩
  have eD := Ex.new (o := .lst []) hD
  refine lc_list (xs := xs) (fun i Hh => Ex H Hh ∧ ∃ ys, Hh D = some (.lst ys) ∧ PrsV Hh ys ((ws.take i).filter (rdy r))) ⟨eD, [], upd_same, .nil⟩ (fun i H' _ p => sq_of (p.1 _ _ hW)) ?_ ?_
  · rintro i x Hh hx ⟨x1, ys, hys, py⟩
    obtain ⟨e, he, tp, rfl, htp⟩ := pr.get hx
    have em := List.mem_of_getElem? he
    obtain ⟨b1, b2⟩ := inn e em
    obtain ⟨f1, f2⟩ := full e em
    refine ⟨tp, _, rfl, st_of (x1 _ _ htp), rfl, _, _, rfl, _, [], rfl, rfl, hw _ _, ?_⟩
    have tk : (ws.take (i + 1)).filter (rdy r) = (ws.take i).filter (rdy r) ++ (if rdy r e = true then [e] else []) := by
      rw [List.take_add_one, he, List.filter_append]
      congr 1
      show List.filter (rdy r) [e] = _
      rw [List.filter_cons, List.filter_nil]
    have one : ∀ {p q0 : Nat} {u v : Nat}, p < n → r p ≠ [] → (((wipe σ [5, 6]).set 5 (some (.int (e.1 : Int)))).set 6 (some (.int (e.2 : Int))))[u]? = some (some (.int (p : Int))) → (((wipe σ [5, 6]).set 5 (some (.int (e.1 : Int)))).set 6 (some (.int (e.2 : Int))))[v]? = some (some (.int (q0 : Int))) →
        EvT (tTest (tOp rEq (tOp (rIxL K) (tOp (rIxL K) (tVar 3) (tVar u)) (tC (.int 0))) (tVar v))) (((wipe σ [5, 6]).set 5 (some (.int (e.1 : Int)))).set 6 (some (.int (e.2 : Int)))) Hh (decide ((r p).head? = some q0)) := fun {p q0 u v} hp hne hu hv => by
      obtain ⟨c, hc⟩ : ∃ c, bs[p]? = some c := ⟨_, List.getElem?_eq_getElem (by omega)⟩
      obtain ⟨y, t, hyt⟩ : ∃ y t, r p = y :: t := by
        cases hz : r p with
        | nil => exact absurd hz hne
        | cons y t => exact ⟨y, t, rfl⟩
      refine et_is (et_test (ev_op (ev_op (ev_op (ev_var (h3 _ _)) (ev_var hu) (rv_ixL (sq_of (x1 _ _ hR)) (atI_nat (by rw [List.getElem?_map, hc]; rfl)))) ev_c (rv_ixL (v := .int (y : Int)) (sq_of (x1 _ _ (rw0 _ _ hc))) (atI_nat (j := 0) (by rw [hyt]; rfl)))) (ev_var hv) (rv_eq rfl))) (head_dec hyt)
    refine (et_and (one b1 f1 (h5 _ _) (h6 _ _)) fun _ => one b2 f2 (h6 _ _) (h5 _ _)) Hh (Ex.refl Hh) _ fun H3 e3 => ?_
    show if rdy r e = true then _ else _
    cases hb : rdy r e with
    | true =>
      rw [if_pos rfl]
      refine ⟨_, h5 _ _, _, h6 _ _, show 2 ≤ sizeLine by decide, fun t2 ht2 => ?_⟩
      have e4 := Ex.new (o := .tup [.int (e.1 : Int), .int (e.2 : Int)]) ht2
      have ex := e3.trans e4
      have yl := py.length
      have fl := List.length_filter_le (rdy r) (ws.take i)
      have tl := List.length_take_le i ws
      have tl2 : (ws.take i).length ≤ ws.length := by rw [List.length_take]; omega
      refine ⟨ys, ex _ _ hys, sz_lt (by omega), (x1.trans ex).mut hD, ys ++ [.ref t2], upd_same, ?_⟩
      rw [tk, if_pos hb]
      exact PrsV.upd ((py.ex ex).append (.cons ⟨t2, rfl, upd_same⟩ .nil)) (ex _ _ hys)
    | false =>
      rw [if_neg (by decide)]
      refine ⟨x1.trans e3, ys, e3 _ _ hys, ?_⟩
      rw [tk, hb, if_neg (by decide), List.append_nil]
      exact py.ex e3
  · rintro Hh ⟨x1, ys, hys, py⟩
    rw [pr.length, List.take_length] at py
    exact q D Hh ys x1 hD hys py
theorem ok_least {f : Addr} {fd : FuncData} {k : Nat} (F : Fun K "_least_order" "_least_order" sLeast f fd) (mList : mg "list" = none) (mMin : mg "min" = none) : FnOk P w K mg base CX0 (k + 1) f fd ["edges", "turns"] spLeast := by
  refine F.ok scLeast (fun vs H Q E h => ?_) (fun cdv A outer st H vs Q E hr h => ?_)
  · obtain ⟨a, t, n, es, xs, as, tn, rfl, _⟩ := h
    rfl
  · obtain ⟨a, t, n, es, xs, as, tn, rfl, ok, ha, pa, ht, al, rwt, pm, q⟩ := h
    refine ⟨_, (pss_cons (ps_set (i := 2) scLeast.nd rfl (.inl rfl) (pe_callTy call_list_of (by rfl) mList boot_list (pa_cons (pv 0) pa_nil)))
      (pss_cons (ps_set (i := 3) scLeast.nd rfl (.inr rfl) (pe_lc (own := [("turn", 8)]) (g := gName 8) (tt := tYes) (te := tCB (rListS K) (tCons (tVar 8) tNil)) rfl scLeast.nd (pi_list (pv 1)) (blkOk_by (N := ["edges", "turns", "waiting", "rest", "order", "p", "q", "ready", "turn"]) (sc := defScope sLeast) (by decide +kernel)) (fun _ _ _ _ _ => pg_name (i := 8) scLeast.nd rfl (Or.inl rfl)) (fun _ _ _ _ _ => pts_nil) (fun _ _ _ _ _ => (pe_callTy call_list_of (by rfl) mList boot_list (pa_cons (pv 8) pa_nil)))))
      (pss_cons (ps_set (i := 4) scLeast.nd rfl (.inl rfl) (pe_lst pa_nil))
      (pss_cons (ps_while PassesOwn.never (pt_truth (pv 2) (fun _ => rfl)) (pss_cons (ps_setLc (i := 7) (own := [("p", 5), ("q", 6)]) (g := gTup K 2 (gCons (gName 5) (gCons (gName 6) gNil))) (tt := (tAnd (tTest (tOp rEq (tOp (rIxL K) (tOp (rIxL K) (tVar 3) (tVar 5)) (tC (.int 0))) (tVar 6))) (tTest (tOp rEq (tOp (rIxL K) (tOp (rIxL K) (tVar 3) (tVar 6)) (tC (.int 0))) (tVar 5))))) (te := tTup (tCons (tVar 5) (tCons (tVar 6) tNil))) rfl scLeast.nd rfl rfl (sw_true rfl rfl rfl (by decide +kernel)) (pi_list (pv 2)) (blkOk_by (N := ["edges", "turns", "waiting", "rest", "order", "p", "q", "ready", "turn"]) (sc := defScope sLeast) (by decide +kernel)) (fun _ _ _ _ _ => pg_tup rfl (pgs_cons (pg_name (i := 5) scLeast.nd rfl (Or.inl rfl)) (pgs_cons (pg_name (i := 6) scLeast.nd rfl (Or.inl rfl)) pgs_nil))) (fun _ _ _ _ _ => pts_one (PW.pt (pw_and (pt_cmpR op_eq (pe_ix ix_list (pe_ix ix_list (pv 3) (pv 5) (fun _ _ => rfl)) pe_int (fun _ _ => rfl)) (pv 6) (nomark _)) (pw_and1 (pt_cmpR op_eq (pe_ix ix_list (pe_ix ix_list (pv 3) (pv 6) (fun _ _ => rfl)) pe_int (fun _ _ => rfl)) (pv 5) (nomark _)))))) (fun _ _ _ _ _ => (pe_tup (pa_cons (pv 5) (pa_cons (pv 6) pa_nil)))))
      (pss_cons (ps_asg (pe_callB (cr_minP rfl hr.units) (by rfl) mMin boot_min (pa_cons (pv 7) pa_nil)) (pg_tup rfl (pgs_cons (pg_name (i := 5) scLeast.nd rfl (Or.inl rfl)) (pgs_cons (pg_name (i := 6) scLeast.nd rfl (Or.inl rfl)) pgs_nil))))
      (pss_cons (ps_expr (pe_bm PySem.F.plainAttrs_list PySem.F.slot_list_pop PySem.F.type_list_pop mt_popAt (pe_ix ix_list (pv 3) (pv 5) (fun _ _ => rfl)) (pa_cons pe_int pa_nil)))
      (pss_cons (ps_expr (pe_bm PySem.F.plainAttrs_list PySem.F.slot_list_pop PySem.F.type_list_pop mt_popAt (pe_ix ix_list (pv 3) (pv 6) (fun _ _ => rfl)) (pa_cons pe_int pa_nil)))
      (pss_cons (ps_expr (pe_bm PySem.F.plainAttrs_list PySem.F.slot_list_remove PySem.F.type_list_remove (mt_remP hr.units) (pv 2) (pa_cons (pe_tup (pa_cons (pv 5) (pa_cons (pv 6) pa_nil))) pa_nil)))
      (pss_one (ps_expr (pe_bm PySem.F.plainAttrs_list PySem.F.slot_list_append PySem.F.type_list_append mt_append (pv 4) (pa_cons (pe_tup (pa_cons (pv 5) (pa_cons (pv 6) pa_nil))) pa_nil))))))))))
      (pss_one (ps_ret (pv 4))))))), ?_⟩
    have n40 := ok.n40
    have few := ok.few
    have E' := ok.edges
    -- waiting
    refine q_asgL (xs := xs) (el_list (ev_var rfl) (sq_of ha)) fun Wt H1 hWt e1 h1 => ?_
    -- rest
    refine q_te (lc_copies (σ := [some (.ref a), some (.ref t), some (.ref Wt), none, none, none, none, none, none]) (j := 8) (i0 := 1) (n := n) (f := tn) rfl (e1 _ _ ht) al (by omega) (fun i c h => e1 _ _ (rwt i c h)) (fun _ => rfl) (fun _ => rfl) fun R H2 bs e2 hR h2 rw2 => ?_)
    have e12 := e1.trans e2
    -- order
    refine q_asgL (xs := []) (el_lst ea_nil (Nat.zero_le _)) fun O H3 hO e3 hO3 => ?_
    have e13 := e12.trans e3
    have hW2 : H2 Wt = some (.lst xs) := e2 _ _ h1
    have nWR : Wt ≠ R := ne_of_none h1 hR
    have nWO : Wt ≠ O := ne_of_none hW2 hO
    have nRO : R ≠ O := ne_of_none h2 hO
    have hR0 : H R = none := fresh_back e1 hR
    have hO0 : H O = none := fresh_back e12 hO
    have cR : ∀ {c : Addr}, c ∈ bs → c ≠ R := fun hc z => by
      have := rw2.new _ hc
      rw [z, upd_same] at this
      cases this
    have cH1 : ∀ {c : Addr}, c ∈ bs → H1 c = none := fun hc => by
      have := rw2.new _ hc
      rwa [upd_ne (cR hc)] at this
    have cW : ∀ {c : Addr}, c ∈ bs → c ≠ Wt := fun hc z => by
      have := cH1 hc
      rw [z, h1] at this
      cases this
    have cH : ∀ {c : Addr}, c ∈ bs → H c = none := fun hc => fresh_back e1 (cH1 hc)
    have cO : ∀ {c : Addr}, c ∈ bs → c ≠ O := fun hc => by
      obtain ⟨j, hj⟩ := List.mem_iff_getElem?.mp hc
      exact ne_of_none (rw2.at' _ _ hj) hO
    have g0 : Greedy es tn [] es tn := Greedy.start E' fun p => pm p
    refine q_while (fun m σ' H' => ∃ (done ws : List Pr) (r : Nat → List Nat) (zs ys : List V) (y5 y6 y7 y8 : Option V), σ' = [some (.ref a), some (.ref t), some (.ref Wt), some (.ref R), some (.ref O), y5, y6, y7, y8] ∧ ws.length = m ∧ Greedy es tn done ws r ∧ Led es tn done ∧ Ex H H' ∧ H' Wt = some (.lst zs) ∧ PrsV H' zs ws ∧ H' R = some (.lst (bs.map V.ref)) ∧ RwV (upd H1 R (.lst [])) H' bs n r ∧ H' O = some (.lst ys) ∧ PrsV H' ys done)
      es.length ⟨[], es, tn, xs, [], _, _, _, _, rfl, rfl, g0, Led.start, e13, e3 _ _ hW2, pa.ex e13, e3 _ _ h2, rw2.ex e3, hO3, .nil⟩ ?_
    · rintro m σ' H4 ⟨done, ws, r, zs, ys, y5, y6, y7, y8, rfl, wl, gr, ld, e4, hW, pz, hRt, rg, hOy, py⟩
      have wle : ws.length ≤ 60 := by
        have := gr.pm.length_eq
        rw [List.length_append] at this
        omega
      have dle : done.length ≤ 60 := by
        have := gr.pm.length_eq
        rw [List.length_append] at this
        omega
      have zl := pz.length
      refine ⟨!zs.isEmpty, (fun H5 e5 Q' q' => ⟨.ref Wt, rfl, _, .inl ⟨zs, sq_of (e5 _ _ hW), rfl⟩, q' H5 (Ex.refl H5)⟩), fun hb H5 e5 => ?_, fun hb H5 e5 => ?_⟩
      · have wne : ws ≠ [] := fun z => by
          rw [z] at zl
          rw [List.length_eq_zero_iff.mp zl] at hb
          cases hb
        refine ⟨fun σ2 H2 => ∃ m', m' < m ∧ ∃ (done ws : List Pr) (r : Nat → List Nat) (zs ys : List V) (y5 y6 y7 y8 : Option V), σ2 = [some (.ref a), some (.ref t), some (.ref Wt), some (.ref R), some (.ref O), y5, y6, y7, y8] ∧ ws.length = m' ∧ Greedy es tn done ws r ∧ Led es tn done ∧ Ex H H2 ∧ H2 Wt = some (.lst zs) ∧ PrsV H2 zs ws ∧ H2 R = some (.lst (bs.map V.ref)) ∧ RwV (upd H1 R (.lst [])) H2 bs n r ∧ H2 O = some (.lst ys) ∧ PrsV H2 ys done, fun _ _ h => h, ?_⟩
        have inn : ∀ e ∈ ws, e.1 < n ∧ e.2 < n := fun e he => by have := E'.inn e (gr.inn he); omega
        have e45 := e4.trans e5
        -- ready
        refine q_te (lc_ready (σ := [some (.ref a), some (.ref t), some (.ref Wt), some (.ref R), some (.ref O), y5, y6, y7, y8]) (n := n) (R := R) rfl (e5 _ _ hW) (pz.ex e5) (e5 _ _ hRt) rg.len (rg.ex e5).at' inn (fun e he => gr.full E' he) (by omega) (fun _ _ => rfl) (fun _ _ => rfl) (fun _ _ => rfl) (fun _ _ => rfl) fun D H6 fs e6 hD h6 pf => ?_)
        have x6 := e5.trans e6
        have X6 := e4.trans x6
        have fne : ws.filter (rdy r) ≠ [] := fun z => by
          obtain ⟨e, he, k1, k2⟩ := gr.some E' wne
          have : e ∈ ws.filter (rdy r) := List.mem_filter.mpr ⟨he, by unfold rdy; rw [decide_eq_true k1, decide_eq_true k2]; rfl⟩
          rw [z] at this
          cases this
        -- p, q = min(ready)
        refine ⟨.ref D, rfl, D, fs, ws.filter (rdy r), rfl, h6, pf, fne, fun i v e hv he lst => ?_⟩
        obtain ⟨e', he', tp, rfl, htp⟩ := pf.get hv
        rw [he] at he'
        cases he'
        obtain ⟨ew, er⟩ := List.mem_filter.mp (List.mem_of_getElem? he)
        obtain ⟨⟨A, hA⟩, B, hB⟩ := rdy_head er
        obtain ⟨b1, b2⟩ := inn e ew
        have lt12 := E'.inn e (gr.inn ew)
        refine ⟨tp, _, rfl, st_of htp, rfl, _, _, rfl, _, [], rfl, rfl, ?_⟩
        obtain ⟨c1, hc1⟩ : ∃ c, bs[e.1]? = some c := ⟨_, List.getElem?_eq_getElem (by rw [rg.len]; omega)⟩
        obtain ⟨c2, hc2⟩ : ∃ c, bs[e.2]? = some c := ⟨_, List.getElem?_eq_getElem (by rw [rg.len]; omega)⟩
        have m1 := List.mem_of_getElem? hc1
        have m2 := List.mem_of_getElem? hc2
        have rg6 := rg.ex x6
        have at' : ∀ {j : Nat} {c : Addr}, bs[j]? = some c → (bs.map V.ref)[j]? = some (.ref c) := fun h => by
          rw [List.getElem?_map, h]
          rfl
        have hr1 := rg6.at' _ _ hc1
        rw [hA] at hr1
        -- rest[p].pop(0)
        refine ⟨.ref R, rfl, .int (e.1 : Int), rfl, R, _, (e.1 : Int), .ref c1, rfl, rfl, sq_of (x6 _ _ hRt), atI_nat (at' hc1), .inl ⟨rfl, _, sq_of hr1⟩, c1, nats (e.2 :: A), 0, 0, .int (e.2 : Int), rfl, rfl, hr1, by decide, by decide, (ixN_seq (ixN_nat (j := 0) (Nat.zero_lt_succ _))).1, rfl, ?_⟩
        have rg7 := rg6.put (l := A) hc1
        have hR7 : upd H6 c1 (.lst (nats A)) R = some (.lst (bs.map V.ref)) := by
          rw [upd_ne (cR m1).symm]
          exact x6 _ _ hRt
        have hW7 : upd H6 c1 (.lst (nats A)) Wt = some (.lst zs) := by
          rw [upd_ne (cW m1).symm]
          exact x6 _ _ hW
        have hO7 : upd H6 c1 (.lst (nats A)) O = some (.lst ys) := by
          rw [upd_ne (cO m1).symm]
          exact x6 _ _ hOy
        have pz7 : PrsV (upd H6 c1 (.lst (nats A))) zs ws := PrsV.upd (pz.ex x6) hr1
        have py7 : PrsV (upd H6 c1 (.lst (nats A))) ys done := PrsV.upd (py.ex x6) hr1
        have X7 : Ex H (upd H6 c1 (.lst (nats A))) := X6.mut (cH m1)
        have hr2 := rg7.at' _ _ hc2
        rw [if_neg (show ¬ e.2 = e.1 by omega), hB] at hr2
        show tSeq _ _ _ _ (upd H6 c1 (.lst (nats A)))
        generalize upd H6 c1 (.lst (nats A)) = H7 at *
        -- rest[q].pop(0)
        refine ⟨.ref R, rfl, .int (e.2 : Int), rfl, R, _, (e.2 : Int), .ref c2, rfl, rfl, sq_of hR7, atI_nat (at' hc2), .inl ⟨rfl, _, sq_of hr2⟩, c2, nats (e.1 :: B), 0, 0, .int (e.1 : Int), rfl, rfl, hr2, by decide, by decide, (ixN_seq (ixN_nat (j := 0) (Nat.zero_lt_succ _))).1, rfl, ?_⟩
        have rg8 := rg7.put (l := B) hc2
        have hR8 : upd H7 c2 (.lst (nats B)) R = some (.lst (bs.map V.ref)) := by
          rw [upd_ne (cR m2).symm]
          exact hR7
        have hW8 : upd H7 c2 (.lst (nats B)) Wt = some (.lst zs) := by
          rw [upd_ne (cW m2).symm]
          exact hW7
        have hO8 : upd H7 c2 (.lst (nats B)) O = some (.lst ys) := by
          rw [upd_ne (cO m2).symm]
          exact hO7
        have pz8 : PrsV (upd H7 c2 (.lst (nats B))) zs ws := PrsV.upd pz7 hr2
        have py8 : PrsV (upd H7 c2 (.lst (nats B))) ys done := PrsV.upd py7 hr2
        have X8 : Ex H (upd H7 c2 (.lst (nats B))) := X7.mut (cH m2)
        show tSeq _ _ _ _ (upd H7 c2 (.lst (nats B)))
        generalize upd H7 c2 (.lst (nats B)) = H8 at *
        -- waiting.remove((p, q))
        obtain ⟨j, v, hzj, hwj, _⟩ := PrsV.take_get pz8 ew
        have wnd : ws.Nodup := (List.nodup_append.mp (gr.pm.nodup_iff.mpr E'.nodup)).2.1
        refine ⟨.ref Wt, rfl, .inl ⟨rfl, _, sq_of hW8⟩, .int (e.1 : Int), rfl, .int (e.2 : Int), rfl, show 2 ≤ sizeLine by decide, fun t2 ht2 => ?_⟩
        have eT := Ex.new (o := .tup [.int (e.1 : Int), .int (e.2 : Int)]) ht2
        refine ⟨Wt, zs, ws, .ref t2, e, j, rfl, rfl, eT _ _ hW8, pz8.ex eT, ⟨t2, rfl, upd_same⟩, hwj, fun m hm => first_nodup wnd hwj hm, ?_⟩
        have hR9 : upd (upd H8 t2 (.tup [.int (e.1 : Int), .int (e.2 : Int)])) Wt (.lst (zs.eraseIdx j)) R = some (.lst (bs.map V.ref)) := by
          rw [upd_ne nWR.symm]
          exact eT _ _ hR8
        have hO9 : upd (upd H8 t2 (.tup [.int (e.1 : Int), .int (e.2 : Int)])) Wt (.lst (zs.eraseIdx j)) O = some (.lst ys) := by
          rw [upd_ne nWO.symm]
          exact eT _ _ hO8
        have hW9 : upd (upd H8 t2 (.tup [.int (e.1 : Int), .int (e.2 : Int)])) Wt (.lst (zs.eraseIdx j)) Wt = some (.lst (zs.eraseIdx j)) := upd_same
        have pz9 : PrsV (upd (upd H8 t2 (.tup [.int (e.1 : Int), .int (e.2 : Int)])) Wt (.lst (zs.eraseIdx j))) (zs.eraseIdx j) (ws.eraseIdx j) := PrsV.upd ((PrsV.era j pz8).ex eT) (eT _ _ hW8)
        have py9 : PrsV (upd (upd H8 t2 (.tup [.int (e.1 : Int), .int (e.2 : Int)])) Wt (.lst (zs.eraseIdx j))) ys done := PrsV.upd (py8.ex eT) (eT _ _ hW8)
        have X9 : Ex H (upd (upd H8 t2 (.tup [.int (e.1 : Int), .int (e.2 : Int)])) Wt (.lst (zs.eraseIdx j))) := (X8.trans eT).mut hWt
        have rg9 : RwV (upd H1 R (.lst [])) (upd (upd H8 t2 (.tup [.int (e.1 : Int), .int (e.2 : Int)])) Wt (.lst (zs.eraseIdx j))) bs n _ := (rg8.ex eT).off (u := .lst xs) (by rw [upd_ne nWR]; exact h1)
        dsimp only
        generalize upd (upd H8 t2 (.tup [.int (e.1 : Int), .int (e.2 : Int)])) Wt (.lst (zs.eraseIdx j)) = H9 at *
        have yl := py9.length
        have jl : j < ws.length := (List.getElem?_eq_some_iff.mp hwj).1
        -- order.append((p, q))
        refine s_appU (ys := [.int (e.1 : Int), .int (e.2 : Int)]) hO9 (ev_var rfl) (eu_tup (ea_cons (ev_var rfl) (ea_cons (ev_var rfl) ea_nil)) (by show 2 ≤ 100000; decide)) (by omega) fun t3 Ha ht3 ea ht3' => ?_
        have Xa := X9.trans ea
        refine ⟨(ws.eraseIdx j).length, by rw [List.length_eraseIdx_of_lt jl]; omega, done ++ [e], ws.eraseIdx j, _, zs.eraseIdx j, ys ++ [.ref t3], _, _, _, _, rfl, rfl, gr.step E' hA hB (era_perm hwj), ld.step E' gr ew (fun f hf k1 k2 => lst f (List.mem_filter.mpr ⟨hf, by unfold rdy; rw [decide_eq_true k1, decide_eq_true k2]; rfl⟩)), Xa.mut hO0, ?_, PrsV.upd (pz9.ex ea) (ea _ _ hO9), ?_, ?_, upd_same, PrsV.upd ((py9.ex ea).append (.cons ⟨t3, rfl, ht3'⟩ .nil)) (ea _ _ hO9)⟩
        · rw [upd_ne nWO]
          exact ea _ _ hW9
        · rw [upd_ne nRO]
          exact ea _ _ hR9
        · refine ⟨rg9.len, rg9.new, fun i c hc => ?_, rg9.nd⟩
          rw [upd_ne (cO (List.mem_of_getElem? hc))]
          exact ea _ _ (rg9.at' i c hc)
      · have we : ws = [] := by
          cases zs with
          | nil => exact List.length_eq_zero_iff.mp zl.symm
          | cons z zs => cases hb
        subst we
        obtain ⟨f1, f2⟩ := gr.fin
        exact s_ret (v := .ref O) (ev_var rfl) fun H6 e6 => q H6 O done ((e4.trans e5).trans e6) hO0 ⟨O, ys, rfl, e6 _ _ (e5 _ _ hOy), py.ex (e5.trans e6)⟩ (ld.fin f1 f2)
end
end K14
namespace K14
open PySem PySem.Spec PyProof.Rows L2 Os Evl
abbrev sChkT : Stmt := topS 17
theorem scChkT : FnScope ["forest", "turns"] ["forest", "turns"] (defScope sChkT) := ⟨rfl, rfl, rfl, by decide +kernel, rfl, by decide +kernel, by decide +kernel⟩
abbrev sOT : Stmt := topS 19
theorem scOT : FnScope ["forest", "turns"] ["forest", "turns"] (defScope sOT) := ⟨rfl, rfl, rfl, by decide +kernel, rfl, by decide +kernel, by decide +kernel⟩
abbrev sGreedy : Stmt := topS 30
theorem scGreedy : FnScope ["graph", "perms", "left", "found", "k", "ready", "low", "high", "row", "pair"] ["graph", "perms"] (defScope sGreedy) := ⟨rfl, rfl, rfl, by decide +kernel, rfl, by decide +kernel, by decide +kernel⟩
theorem cut_front (xs : List V) (k : Nat) : cutV xs none (some (k : Int)) = xs.take k := by
  unfold cutV
  rw [HT.sIx_none, HT.sIx_nat, List.drop_zero, Nat.sub_zero]
  rcases Nat.le_total k xs.length with h | h
  · rw [Nat.min_eq_left h]
  · rw [Nat.min_eq_right h, List.take_length, List.take_of_length_le h]
theorem cut_back (xs : List V) (k : Nat) : cutV xs (some (k : Int)) none = xs.drop k := by
  unfold cutV
  rw [HT.sIx_none, HT.sIx_nat]
  rcases Nat.le_total k xs.length with h | h
  · rw [Nat.min_eq_left h]
    exact List.take_of_length_le (by rw [List.length_drop]; omega)
  · rw [Nat.min_eq_right h, List.drop_length, List.take_nil, List.drop_of_length_le h]
theorem nats_take (l : List Nat) (k : Nat) : (nats l).take k = nats (l.take k) := by
  unfold nats
  rw [List.map_take]
theorem nats_drop (l : List Nat) (k : Nat) : (nats l).drop k = nats (l.drop k) := by
  unfold nats
  rw [List.map_drop]
theorem ints_inj : ∀ {a b : List Nat}, a.map (fun x : Nat => (x : Int)) = b.map (fun x : Nat => (x : Int)) → a = b
  | [], [], _ => rfl
  | [], _ :: _, h => by cases h
  | _ :: _, [], h => by cases h
  | x :: a, y :: b, h => by
    have h1 : (x : Int) = (y : Int) := (List.cons.inj h).1
    rw [ints_inj (List.cons.inj h).2, show x = y by omega]
theorem eqv_nats (a b : List Nat) : PyData.eqv (.list (natsD a)) (.list (natsD b)) = decide (a = b) := by
  show PyData.eqvAll (natsD a) (natsD b) = _
  rw [natsD_ints, natsD_ints, eqv_ints]
  refine decide_eq_decide.mpr ⟨fun h => ?_, fun h => by rw [h]⟩
  exact ints_inj h
theorem take_head (l : List Nat) (q : Nat) : decide (l.take 1 = [q]) = decide (l.head? = some q) := by
  refine decide_eq_decide.mpr ?_
  cases l with
  | nil => exact ⟨fun h => (nomatch h), fun h => (nomatch h)⟩
  | cons x r =>
    show [x] = [q] ↔ some x = some q
    exact ⟨fun h => by rw [(List.cons.inj h).1], fun h => by rw [Option.some.inj h]⟩
theorem rows_dt {G : Hp} {L : Addr} {as : List Addr} {n : Nat} {f : Nat → List Nat} (hL : G L = some (.lst (as.map V.ref))) (len : as.length = n) (at' : ∀ i a, as[i]? = some a → G a = some (.lst (nats (f i)))) : Dt G (.ref L) (.list (rowsD n f)) :=
  .lst hL (dts_of (by unfold rowsD; rw [List.length_map, List.length_map, List.length_range, len]) fun i x d h1 h2 => by
    rw [List.getElem?_map] at h1
    cases hai : as[i]? with
    | none => rw [hai] at h1; cases h1
    | some c =>
      rw [hai] at h1
      cases h1
      have lt : i < n := by rw [← len]; exact (List.getElem?_eq_some_iff.mp hai).1
      rw [rowsD_at lt] at h2
      cases h2
      exact .lst (at' _ _ hai) (dts_nats _))
theorem turns_yes' {n : Nat} {es : List Pr} {tn : Nat → List Nat} (ok : IsForest n es) (pm : ∀ i, (tn i).Perm (adj es i)) : turnsB n es (.list (rowsD n tn)) = true := by
  have hl : (rowsD n tn).length = n := by unfold rowsD; rw [List.length_map, List.length_range]
  show (decide ((rowsD n tn).length = n) && _) = true
  rw [decide_eq_true hl, Bool.true_and, List.all_eq_true]
  intro i hi
  have lt := List.mem_range.mp hi
  rw [List.getD_eq_getElem?_getD, rowsD_at lt]
  show ((natsD (tn i)).all (posB (n : Int)) && ((natsD (tn i)).map intD).isPerm _) = true
  rw [natsD_all fun x hx => adj_in ok.edges.inn ((pm i).mem_iff.mp hx), Bool.true_and, natsD_map]
  exact List.isPerm_iff.mpr ((pm i).map _)
theorem PrsV.drew {s : Addr} {B C : Nat} {H H' : Hp} {vs : List V} {es : List Pr} (h : PrsV H vs es) (hs : Src H s C) (d : Drew s B H H') : PrsV H' vs es := by
  induction h with
  | nil => exact .nil
  | cons x _ ih =>
    obtain ⟨t, rfl, ht⟩ := x
    refine .cons ⟨t, rfl, d.get (fun e => ?_) ht⟩ ih
    obtain ⟨x, y, z, h1, _⟩ := hs
    rw [e, h1] at ht
    cases ht
theorem PrsV.hide' {s : Addr} {C : Nat} {H : Hp} {vs : List V} {es : List Pr} (h : PrsV H vs es) (hs : Src H s C) : PrsV (hide s H) vs es := by
  induction h with
  | nil => exact .nil
  | cons x _ ih =>
    obtain ⟨t, rfl, ht⟩ := x
    refine .cons ⟨t, rfl, ?_⟩ ih
    rw [hide_ne fun e => ?_]
    · exact ht
    obtain ⟨x, y, z, h1, _⟩ := hs
    rw [e, h1] at ht
    cases ht
/-- the pairs that are ready, themselves -/
theorem lc_ready2 {K : PySem.W.Frag} {σ : L2.St} {H : Hp} {g a R : Addr} {n0 : V} {xs : List V} {ws : List Pr} {bs : List Addr} {n : Nat} {r : Nat → List Nat} {Q : VK} (v1 : σ[0]? = some (some (.ref g))) (hg : H g = some (.tup [n0, .ref a]))
    (hW : H a = some (.lst xs)) (pr : PrsV H xs ws) (hR : H R = some (.lst (bs.map V.ref))) (bl : bs.length = n) (rw0 : ∀ i c, bs[i]? = some c → H c = some (.lst (nats (r i)))) (inn : ∀ e ∈ ws, e.1 < n ∧ e.2 < n) (few : ws.length ≤ 1000)
    (hw : ∀ x, wipe ((wipe σ [9]).set 9 (some x)) [9] = wipe σ [9]) (h3 : ∀ x, ((wipe σ [9]).set 9 (some x))[2]? = some (some (.ref R))) (h10 : ∀ x, ((wipe σ [9]).set 9 (some x))[9]? = some (some x))
    (q : ∀ D H' ys, Ex H H' → H D = none → H' D = some (.lst ys) → PrsV H' ys (ws.filter (rdy r)) → Q (.ref D) H') :
    tLc (iList K (tOp (rIxT K) (tVar 0) (tC (.int 1)))) (gName 9) (tAnd (tTest (tOp (rEqD K) (tSl (rSlL K) (tOp (rIxL K) (tVar 2) (tOp (rIxT K) (tVar 9) (tC (.int 0)))) tNoPart (tPart (tC (.int 1)))) (tLst (tCons (tOp (rIxT K) (tVar 9) (tC (.int 1))) tNil)))) (tTest (tOp (rEqD K) (tSl (rSlL K) (tOp (rIxL K) (tVar 2) (tOp (rIxT K) (tVar 9) (tC (.int 1)))) tNoPart (tPart (tC (.int 1)))) (tLst (tCons (tOp (rIxT K) (tVar 9) (tC (.int 0))) tNil))))) (tVar 9) [9] σ H Q := by
  refine ⟨.ref g, v1, g, _, 1, .ref a, rfl, rfl, st_of hg, atI_nat (j := 1) rfl, a, rfl, ⟨_, sq_of hW⟩, fun D hD => ?_⟩
  have eD := Ex.new (o := .lst []) hD
  refine lc_list (xs := xs) (fun i Hh => Ex H Hh ∧ ∃ ys, Hh D = some (.lst ys) ∧ PrsV Hh ys ((ws.take i).filter (rdy r))) ⟨eD, [], upd_same, .nil⟩ (fun i H' _ p => sq_of (p.1 _ _ hW)) ?_ ?_
  · rintro i x Hh hx ⟨x1, ys, hys, py⟩
    obtain ⟨e, he, tp, rfl, htp⟩ := pr.get hx
    have em := List.mem_of_getElem? he
    obtain ⟨b1, b2⟩ := inn e em
    refine ⟨hw _, ?_⟩
    have tk : (ws.take (i + 1)).filter (rdy r) = (ws.take i).filter (rdy r) ++ (if rdy r e = true then [e] else []) := by
      rw [List.take_add_one, he, List.filter_append]
      congr 1
      show List.filter (rdy r) [e] = _
      rw [List.filter_cons, List.filter_nil]
    have ix0 : Ev (tOp (rIxT K) (tVar 9) (tC (.int 0))) ((wipe σ [9]).set 9 (some (.ref tp))) Hh (.int (e.1 : Int)) := ev_op (ev_var (h10 _)) ev_c (rv_ixT (st_of (x1 _ _ htp)) (atI_nat (j := 0) rfl))
    have ix1 : Ev (tOp (rIxT K) (tVar 9) (tC (.int 1))) ((wipe σ [9]).set 9 (some (.ref tp))) Hh (.int (e.2 : Int)) := ev_op (ev_var (h10 _)) ev_c (rv_ixT (st_of (x1 _ _ htp)) (atI_nat (j := 1) rfl))
    have one : ∀ {p q0 : Nat} {tu tv : TE}, p < n → Ev tu ((wipe σ [9]).set 9 (some (.ref tp))) Hh (.int (p : Int)) → Ev tv ((wipe σ [9]).set 9 (some (.ref tp))) Hh (.int (q0 : Int)) →
        EvT (tTest (tOp (rEqD K) (tSl (rSlL K) (tOp (rIxL K) (tVar 2) tu) tNoPart (tPart (tC (.int 1)))) (tLst (tCons tv tNil)))) ((wipe σ [9]).set 9 (some (.ref tp))) Hh (decide ((r p).head? = some q0)) := fun {p q0 tu tv} hp hu hv => by
      obtain ⟨c, hc⟩ : ∃ c, bs[p]? = some c := ⟨_, List.getElem?_eq_getElem (by omega)⟩
      have sl := el_sl (lo := none) (hi := some ((1 : Nat) : Int)) (ev_op (ev_var (h3 (.ref tp))) hu (rv_ixL (K := K) (v := .ref c) (sq_of (x1 _ _ hR)) (atI_nat (by rw [List.getElem?_map, hc]; rfl)))) eo_none (eo_some ev_c) (sq_of (K := K) (x1 _ _ (rw0 _ _ hc)))
      rw [cut_front, nats_take] at sl
      refine et_is (et_test (ev_eqLL sl (el_lst (ea_cons hv ea_nil) (by show 1 ≤ 100000; decide)) (dts_nats _) (dts_nats [q0]) ((sh_nats 0 _).shaped (by decide)) ((sh_nats 0 [q0]).shaped (by decide)))) ?_
      rw [eqv_nats, take_head]
    refine (et_and (one b1 ix0 ix1) fun _ => one b2 ix1 ix0) Hh (Ex.refl Hh) _ fun H3 e3 => ?_
    show if rdy r e = true then _ else _
    cases hb : rdy r e with
    | true =>
      rw [if_pos rfl]
      have yl := py.length
      have fl := List.length_filter_le (rdy r) (ws.take i)
      have tl2 : (ws.take i).length ≤ ws.length := by rw [List.length_take]; omega
      refine ⟨_, h10 _, ys, e3 _ _ hys, sz_lt (by omega), (x1.trans e3).mut hD, ys ++ [.ref tp], upd_same, ?_⟩
      rw [tk, if_pos hb]
      exact PrsV.upd ((py.ex e3).append (.cons ⟨tp, rfl, e3 _ _ (x1 _ _ htp)⟩ .nil)) (e3 _ _ hys)
    | false =>
      rw [if_neg (by decide)]
      refine ⟨x1.trans e3, ys, e3 _ _ hys, ?_⟩
      rw [tk, hb, if_neg (by decide), List.append_nil]
      exact py.ex e3
  · rintro Hh ⟨x1, ys, hys, py⟩
    rw [pr.length, List.take_length] at py
    exact q D Hh ys x1 hD hys py
/-- rows that stand at t -/
structure RowsAt (G : Hp) (t : Addr) (as : List Addr) (n : Nat) (tn : Nat → List Nat) : Prop where
  top : G t = some (.lst (as.map V.ref))
  len : as.length = n
  at' : ∀ i c, as[i]? = some c → G c = some (.lst (nats (tn i)))
theorem RowsAt.ex {G G' : Hp} {t : Addr} {as : List Addr} {n : Nat} {tn : Nat → List Nat} (h : RowsAt G t as n tn) (e : Ex G G') : RowsAt G' t as n tn := ⟨e _ _ h.top, h.len, fun i c q => e _ _ (h.at' i c q)⟩

section
variable {P : Program} {w : World} {K : PySem.W.Frag} {mg : Str → Option Value} {base : Heap}
def spChkT : Sp := fun vs H Q _ => ∃ (v t : V) (n : Nat) (es : List Pr) (d : PyData), vs = [v, t] ∧ GraphV H v n es ∧ IsForest n es ∧ Dt H t d ∧ Short2 d ∧ turnsB n es d = true ∧ ∀ H', Ex H H' → Q .non H'
theorem ok_chkT {f fI : Addr} {fd fdI : FuncData} {k : Nat} (F : Fun K "check_turns" "check_turns" sChkT f fd)
    (GI : FnOk P w K mg base CX0 k fI fdI ["forest", "thing"] spIsTurns) (FI : Fun K "is_turns" "is_turns" sIsTurns fI fdI) (bI : Binds K fdI ["forest", "thing"] []) (gI : mg "is_turns" = some (.ref fI)) : FnOk P w K mg base CX0 (k + 1) f fd ["forest", "turns"] spChkT := by
  refine F.ok scChkT (fun vs H Q E h => ?_) (fun cdv A outer st H vs Q E hr h => ?_)
  · obtain ⟨v, t, n, es, d, rfl, _⟩ := h
    rfl
  · obtain ⟨v, t, n, es, d, rfl, hg, ok, hd, sh, tb, q⟩ := h
    refine ⟨_, (pss_one (ps_if (pt_not (pt_val (pe_call GI hr (by rfl) gI FI.kp bI .nil pass0 (pa_cons (pv 0) (pa_cons (pv 1) pa_nil))))) pss_never pss_nil)), ?_⟩
    refine s_when (b := !true) (et_not (et_B (ev_sp (ea_cons (ev_var rfl) (ea_cons (ev_var rfl) ea_nil)) fun H1 e1 Q q => ⟨_, _, n, es, d, rfl, hg.ex e1, ok, hd.same (same_ex e1), sh, by rw [tb]; exact q⟩))) (fun h => nomatch h) fun _ H1 e1 => q H1 e1

def spOT : Sp := fun vs H Q _ => ∃ (v : V) (t : Addr) (n : Nat) (es : List Pr) (as : List Addr) (tn : Nat → List Nat), vs = [v, .ref t] ∧ GraphV H v n es ∧ IsForest n es ∧ RowsAt H t as n tn ∧ (∀ i, (tn i).Perm (adj es i)) ∧
  ∀ H' p os, Ex H H' → H p = none → OrdV H' (.ref p) os → LeastO es tn os → Q (.ref p) H'
theorem ok_ot {f fF fT fL : Addr} {fd fdF fdT fdL : FuncData} {k : Nat} (F : Fun K "order_of_turns" "order_of_turns" sOT f fd)
    (GF : FnOk P w K mg base CX0 k fF fdF ["forest"] spChkF) (FF : Fun K "check_forest" "check_forest" sChkF fF fdF) (bF : Binds K fdF ["forest"] []) (gF : mg "check_forest" = some (.ref fF))
    (GT : FnOk P w K mg base CX0 k fT fdT ["forest", "turns"] spChkT) (FT : Fun K "check_turns" "check_turns" sChkT fT fdT) (bT : Binds K fdT ["forest", "turns"] []) (gT : mg "check_turns" = some (.ref fT))
    (GL : FnOk P w K mg base CX0 k fL fdL ["edges", "turns"] spLeast) (FL : Fun K "_least_order" "_least_order" sLeast fL fdL) (bL : Binds K fdL ["edges", "turns"] []) (gL : mg "_least_order" = some (.ref fL)) : FnOk P w K mg base CX0 (k + 1) f fd ["forest", "turns"] spOT := by
  refine F.ok scOT (fun vs H Q E h => ?_) (fun cdv A outer st H vs Q E hr h => ?_)
  · obtain ⟨v, t, n, es, as, tn, rfl, _⟩ := h
    rfl
  · obtain ⟨v, t, n, es, as, tn, rfl, hg, ok, ra, pm, q⟩ := h
    refine ⟨_, (pss_cons (ps_expr (pe_call GF hr (by rfl) gF FF.kp bF .nil pass0 (pa_cons (pv 0) pa_nil)))
      (pss_cons (ps_expr (pe_call GT hr (by rfl) gT FT.kp bT .nil pass0 (pa_cons (pv 0) (pa_cons (pv 1) pa_nil))))
      (pss_one (ps_ret (pe_call GL hr (by rfl) gL FL.kp bL .nil pass0 (pa_cons (pe_ix ix_tup (pv 0) pe_int (fun _ _ => rfl)) (pa_cons (pv 1) pa_nil))))))), ?_⟩
    have n40 := ok.n40
    have few := ok.few
    have tb := turns_yes' ok pm
    have tl : ∀ i, (tn i).length ≤ 1000 := fun i => by
      rw [(pm i).length_eq]
      have := adj_len (os := es) few i
      omega
    refine q_drop (v := .non) (ev_sp (ea_cons (ev_var rfl) ea_nil) fun H1 e1 Q q => ⟨_, n, es, rfl, hg.ex e1, ok, q⟩) fun H1 e1 => ?_
    have hg0 := hg
    obtain ⟨g, a, xs, rfl, h2, h3, h4⟩ := hg
    refine q_drop (v := .non) (ev_sp (ea_cons (ev_var rfl) (ea_cons (ev_var rfl) ea_nil)) fun H3 e3 Q q => ⟨_, _, n, es, .list (rowsD n tn), rfl, hg0.ex (e1.trans e3), ok, rows_dt ((e1.trans e3) _ _ ra.top) ra.len (fun i c h => (e1.trans e3) _ _ (ra.at' i c h)), rows_short (by omega) tl, tb, q⟩) fun H3 e3 => ?_
    have e13 := e1.trans e3
    exact ⟨.ref g, rfl, g, _, 1, .ref a, rfl, rfl, st_of (e13 _ _ h2), atI_nat (j := 1) rfl, .ref t, rfl, a, t, n, es, xs, as, tn, rfl, ok, e13 _ _ h3, h4.ex e13, e13 _ _ ra.top, ra.len, (fun i c h => e13 _ _ (ra.at' i c h)), pm, fun H4 p os e4 hp ho lo => q H4 p os (e13.trans e4) (fresh_back e13 hp) ho lo⟩
theorem ok_greedy {f : Addr} {fd : FuncData} {k : Nat} (F : Fun K "_law_greedy" "_law_greedy" sGreedy f fd) (mList : mg "list" = none) (mLen : mg "len" = none) (mRange : mg "range" = none) (mMin : mg "min" = none) : FnOk P w K mg base CX0 (k + 1) f fd ["graph", "perms"] spOT := by
  refine F.ok scGreedy (fun vs H Q E h => ?_) (fun cdv A outer st H vs Q E hr h => ?_)
  · obtain ⟨v, t, n, es, as, tn, rfl, _⟩ := h
    rfl
  · obtain ⟨v, t, n, es, as, tn, rfl, hg, ok, ra, pm, q⟩ := h
    refine ⟨_, (pss_cons (ps_set (i := 2) scGreedy.nd rfl (.inr rfl) (pe_lc (own := [("row", 8)]) (g := gName 8) (tt := tYes) (te := tCB (rListS K) (tCons (tVar 8) tNil)) rfl scGreedy.nd (pi_list (pv 1)) (blkOk_by (N := ["graph", "perms", "left", "found", "k", "ready", "low", "high", "row", "pair"]) (sc := defScope sGreedy) (by decide +kernel)) (fun _ _ _ _ _ => pg_name (i := 8) scGreedy.nd rfl (Or.inl rfl)) (fun _ _ _ _ _ => pts_nil) (fun _ _ _ _ _ => (pe_callTy call_list_of (by rfl) mList boot_list (pa_cons (pv 8) pa_nil)))))
      (pss_cons (ps_set (i := 3) scGreedy.nd rfl (.inl rfl) (pe_lst pa_nil))
      (pss_cons (ps_for PassesOwn.never rfl (pi_range1 (by rfl) mRange (pa_cons (pe_callB call_len_seq (by rfl) mLen boot_len (pa_cons (pe_ix ix_tup (pv 0) pe_int (fun _ _ => rfl)) pa_nil)) pa_nil)) (pg_name (i := 4) scGreedy.nd rfl (Or.inl rfl))
      (pss_cons (ps_setLc (i := 5) (own := [("pair", 9)]) (g := gName 9) (tt := (tAnd (tTest (tOp (rEqD K) (tSl (rSlL K) (tOp (rIxL K) (tVar 2) (tOp (rIxT K) (tVar 9) (tC (.int 0)))) tNoPart (tPart (tC (.int 1)))) (tLst (tCons (tOp (rIxT K) (tVar 9) (tC (.int 1))) tNil)))) (tTest (tOp (rEqD K) (tSl (rSlL K) (tOp (rIxL K) (tVar 2) (tOp (rIxT K) (tVar 9) (tC (.int 1)))) tNoPart (tPart (tC (.int 1)))) (tLst (tCons (tOp (rIxT K) (tVar 9) (tC (.int 0))) tNil)))))) (te := tVar 9) rfl scGreedy.nd rfl rfl (sw_true rfl rfl rfl (by decide +kernel)) (pi_list (pe_ix ix_tup (pv 0) pe_int (fun _ _ => rfl))) (blkOk_by (N := ["graph", "perms", "left", "found", "k", "ready", "low", "high", "row", "pair"]) (sc := defScope sGreedy) (by decide +kernel)) (fun _ _ _ _ _ => pg_name (i := 9) scGreedy.nd rfl (Or.inl rfl)) (fun _ _ _ _ _ => pts_one (PW.pt (pw_and (pt_cmpR (op_eqD hr.units) (pe_slice sl_list (pe_ix ix_list (pv 2) (pe_ix ix_tup (pv 9) pe_int (fun _ _ => rfl)) (fun _ _ => rfl)) po_none (po_some pe_int)) (pe_lst (pa_cons (pe_ix ix_tup (pv 9) pe_int (fun _ _ => rfl)) pa_nil)) (by rfl)) (pw_and1 (pt_cmpR (op_eqD hr.units) (pe_slice sl_list (pe_ix ix_list (pv 2) (pe_ix ix_tup (pv 9) pe_int (fun _ _ => rfl)) (fun _ _ => rfl)) po_none (po_some pe_int)) (pe_lst (pa_cons (pe_ix ix_tup (pv 9) pe_int (fun _ _ => rfl)) pa_nil)) (by rfl)))))) (fun _ _ _ _ _ => (pv 9)))
      (pss_cons (ps_asg (pe_callB (cr_minP rfl hr.units) (by rfl) mMin boot_min (pa_cons (pv 5) pa_nil)) (pg_tup rfl (pgs_cons (pg_name (i := 6) scGreedy.nd rfl (Or.inl rfl)) (pgs_cons (pg_name (i := 7) scGreedy.nd rfl (Or.inl rfl)) pgs_nil))))
      (pss_cons (ps_expr (pe_bm PySem.F.plainAttrs_list PySem.F.slot_list_pop PySem.F.type_list_pop mt_popAt (pe_ix ix_list (pv 2) (pv 6) (fun _ _ => rfl)) (pa_cons pe_int pa_nil)))
      (pss_cons (ps_expr (pe_bm PySem.F.plainAttrs_list PySem.F.slot_list_pop PySem.F.type_list_pop mt_popAt (pe_ix ix_list (pv 2) (pv 7) (fun _ _ => rfl)) (pa_cons pe_int pa_nil)))
      (pss_one (ps_expr (pe_bm PySem.F.plainAttrs_list PySem.F.slot_list_append PySem.F.type_list_append mt_append (pv 3) (pa_cons (pe_tup (pa_cons (pv 6) (pa_cons (pv 7) pa_nil))) pa_nil)))))))))
      (pss_one (ps_ret (pv 3)))))), ?_⟩
    have n40 := ok.n40
    have few := ok.few
    have E' := ok.edges
    obtain ⟨g, a, xs, rfl, hg1, hg2, pxs⟩ := hg
    have xl := pxs.length
    -- left
    refine q_te (lc_copies (σ := [some (.ref g), some (.ref t), none, none, none, none, none, none, none, none]) (j := 8) (i0 := 1) (n := n) (f := tn) rfl ra.top ra.len (by omega) ra.at' (fun _ => rfl) (fun _ => rfl) fun R H2 bs e2 hR h2 rw2 => ?_)
    -- found
    refine q_asgL (xs := []) (el_lst ea_nil (Nat.zero_le _)) fun O H3 hO e3 hO3 => ?_
    have e13 := e2.trans e3
    have nRO : R ≠ O := ne_of_none h2 hO
    have hO0 : H O = none := fresh_back e2 hO
    have cR : ∀ {c : Addr}, c ∈ bs → c ≠ R := fun hc z => by
      have := rw2.new _ hc
      rw [z, upd_same] at this
      cases this
    have cH : ∀ {c : Addr}, c ∈ bs → H c = none := fun hc => by
      have := rw2.new _ hc
      rwa [upd_ne (cR hc)] at this
    have cO : ∀ {c : Addr}, c ∈ bs → c ≠ O := fun hc => by
      obtain ⟨j, hj⟩ := List.mem_iff_getElem?.mp hc
      exact ne_of_none (rw2.at' _ _ hj) hO
    have g0 : Greedy es tn [] es tn := Greedy.start E' fun p => pm p
    refine q_forR1 (n := (es.length : Int)) (ea_cons (ev_is (ev_len' (ev_op (ev_var rfl) ev_c (rv_ixT (st_of (e13 _ _ hg1)) (atI_nat (j := 1) rfl))) (e13 _ _ hg2)) (congrArg V.int (by rw [xl]))) ea_nil) ⟨by omega, by omega⟩
      (fun i σ' H' => ∃ (done ws : List Pr) (r : Nat → List Nat) (ys : List V) (y5 y6 y7 y8 y9 y10 : Option V), σ' = [some (.ref g), some (.ref t), some (.ref R), some (.ref O), y5, y6, y7, y8, y9, y10] ∧ done.length = i ∧ Greedy es tn done ws r ∧ Led es tn done ∧ Ex H H' ∧ H' R = some (.lst (bs.map V.ref)) ∧ RwV (upd H R (.lst [])) H' bs n r ∧ H' O = some (.lst ys) ∧ PrsV H' ys done)
      (fun H4 e4 => ⟨[], es, tn, [], _, _, _, _, _, _, rfl, rfl, g0, Led.start, e13.trans e4, e4 _ _ (e3 _ _ h2), rw2.ex (e3.trans e4), e4 _ _ hO3, .nil⟩) ?_ ?_
    · rintro i σ' H4 hi ⟨done, ws, r, ys, y5, y6, y7, y8, y9, y10, rfl, dl, gr, ld, d4, hRt, rg, hOy, py⟩
      have lt : i < es.length := by omega
      have wne : ws ≠ [] := fun z => by
        have := gr.pm.length_eq
        rw [z, List.append_nil] at this
        omega
      have px4 : PrsV H4 xs es := pxs.ex d4
      -- ready
      refine q_te (lc_ready2 (K := K) (σ := [some (.ref g), some (.ref t), some (.ref R), some (.ref O), some (.int (i : Int)), y6, y7, y8, y9, y10]) (n := n) (R := R) (g := g) (a := a) rfl (d4 _ _ hg1) (d4 _ _ hg2) px4 hRt rg.len rg.at' (fun e he => by have := E'.inn e he; omega) (by omega) (fun _ => rfl) (fun _ => rfl) (fun _ => rfl) fun D H6 fs e6 hD h6 pf => ?_)
      have fne : es.filter (rdy r) ≠ [] := fun z => by
        obtain ⟨e, he, k1, k2⟩ := gr.some E' wne
        have : e ∈ es.filter (rdy r) := List.mem_filter.mpr ⟨gr.inn he, by unfold rdy; rw [decide_eq_true k1, decide_eq_true k2]; rfl⟩
        rw [z] at this
        cases this
      have D6 := d4.trans e6
      -- low, high = min(ready)
      refine ⟨.ref D, rfl, D, fs, es.filter (rdy r), rfl, h6, pf, fne, fun xi v e hv he lst => ?_⟩
      obtain ⟨e', he', tp, rfl, htp⟩ := pf.get hv
      rw [he] at he'
      cases he'
      obtain ⟨ees, er⟩ := List.mem_filter.mp (List.mem_of_getElem? he)
      obtain ⟨⟨A1, hA⟩, B1, hB1⟩ := rdy_head er
      have ew : e ∈ ws := gr.waits E' ees (by rw [hA]; rfl)
      have lt12 := E'.inn e ees
      refine ⟨tp, _, rfl, st_of htp, rfl, _, _, rfl, _, [], rfl, rfl, ?_⟩
      have hR7 : H6 R = some (.lst (bs.map V.ref)) := e6 _ _ hRt
      have hO7 : H6 O = some (.lst ys) := e6 _ _ hOy
      have py7 : PrsV H6 ys done := py.ex e6
      have rg7 := rg.ex e6
      obtain ⟨c1, hc1⟩ : ∃ c, bs[e.1]? = some c := ⟨_, List.getElem?_eq_getElem (by rw [rg.len]; omega)⟩
      obtain ⟨c2, hc2⟩ : ∃ c, bs[e.2]? = some c := ⟨_, List.getElem?_eq_getElem (by rw [rg.len]; omega)⟩
      have m1 := List.mem_of_getElem? hc1
      have m2 := List.mem_of_getElem? hc2
      have at' : ∀ {j : Nat} {c : Addr}, bs[j]? = some c → (bs.map V.ref)[j]? = some (.ref c) := fun h => by
        rw [List.getElem?_map, h]
        rfl
      have hr1 := rg7.at' _ _ hc1
      rw [hA] at hr1
      refine ⟨.ref R, rfl, .int (e.1 : Int), rfl, R, _, (e.1 : Int), .ref c1, rfl, rfl, sq_of hR7, atI_nat (at' hc1), .inl ⟨rfl, _, sq_of hr1⟩, c1, nats (e.2 :: A1), 0, 0, .int (e.2 : Int), rfl, rfl, hr1, by decide, by decide, (ixN_seq (ixN_nat (j := 0) (Nat.zero_lt_succ _))).1, rfl, ?_⟩
      have rg8 := rg7.put (l := A1) hc1
      have hR8 : upd H6 c1 (.lst (nats A1)) R = some (.lst (bs.map V.ref)) := by
        rw [upd_ne (cR m1).symm]
        exact hR7
      have hO8 : upd H6 c1 (.lst (nats A1)) O = some (.lst ys) := by
        rw [upd_ne (cO m1).symm]
        exact hO7
      have py8 : PrsV (upd H6 c1 (.lst (nats A1))) ys done := PrsV.upd py7 hr1
      have D8 : Ex H (upd H6 c1 (.lst (nats A1))) := D6.mut (cH m1)
      have hr2 := rg8.at' _ _ hc2
      rw [if_neg (show ¬ e.2 = e.1 by omega), hB1] at hr2
      show tSeq _ _ _ _ (upd H6 c1 (.lst (nats A1)))
      generalize upd H6 c1 (.lst (nats A1)) = H8 at *
      refine ⟨.ref R, rfl, .int (e.2 : Int), rfl, R, _, (e.2 : Int), .ref c2, rfl, rfl, sq_of hR8, atI_nat (at' hc2), .inl ⟨rfl, _, sq_of hr2⟩, c2, nats (e.1 :: B1), 0, 0, .int (e.1 : Int), rfl, rfl, hr2, by decide, by decide, (ixN_seq (ixN_nat (j := 0) (Nat.zero_lt_succ _))).1, rfl, ?_⟩
      have rg9 := rg8.put (l := B1) hc2
      have hR9 : upd H8 c2 (.lst (nats B1)) R = some (.lst (bs.map V.ref)) := by
        rw [upd_ne (cR m2).symm]
        exact hR8
      have hO9 : upd H8 c2 (.lst (nats B1)) O = some (.lst ys) := by
        rw [upd_ne (cO m2).symm]
        exact hO8
      have py9 : PrsV (upd H8 c2 (.lst (nats B1))) ys done := PrsV.upd py8 hr2
      have D9 : Ex H (upd H8 c2 (.lst (nats B1))) := D8.mut (cH m2)
      dsimp only
      rw [show (nats (e.1 :: B1)).eraseIdx 0 = nats B1 from rfl]
      generalize upd H8 c2 (.lst (nats B1)) = H9 at *
      have yl := py9.length
      refine s_appU (ys := [.int (e.1 : Int), .int (e.2 : Int)]) hO9 (ev_var rfl) (eu_tup (ea_cons (ev_var rfl) (ea_cons (ev_var rfl) ea_nil)) (by show 2 ≤ 100000; decide)) (by omega) fun t3 Ha ht3 ea ht3' => ?_
      obtain ⟨jw, hjw⟩ := List.mem_iff_getElem?.mp ew
      refine ⟨done ++ [e], ws.eraseIdx jw, _, ys ++ [.ref t3], _, _, _, _, _, _, rfl, by rw [List.length_append, dl]; rfl, gr.step E' hA hB1 (era_perm hjw), ld.step E' gr ew (fun f hf k1 k2 => lst f (List.mem_filter.mpr ⟨gr.inn hf, by unfold rdy; rw [decide_eq_true k1, decide_eq_true k2]; rfl⟩)), (D9.trans ea).mut hO0, ?_, ?_, upd_same, PrsV.upd ((py9.ex ea).append (.cons ⟨t3, rfl, ht3'⟩ .nil)) (ea _ _ hO9)⟩
      · rw [upd_ne nRO]
        exact ea _ _ hR9
      · refine ⟨rg9.len, rg9.new, fun i c hc => ?_, rg9.nd⟩
        rw [upd_ne (cO (List.mem_of_getElem? hc))]
        exact ea _ _ (rg9.at' i c hc)
    · rintro σ' H4 ⟨done, ws, r, ys, y5, y6, y7, y8, y9, y10, rfl, dl, gr, ld, d4, hRt, rg, hOy, py⟩
      rw [Int.toNat_natCast] at dl
      have we : ws = [] := by
        have := gr.pm.length_eq
        rw [List.length_append] at this
        exact List.length_eq_zero_iff.mp (by omega)
      subst we
      obtain ⟨f1, f2⟩ := gr.fin
      exact s_ret (v := .ref O) (ev_var rfl) fun H6 e6 => q H6 O done (d4.trans e6) hO0 ⟨O, ys, rfl, e6 _ _ hOy, py.ex e6⟩ (ld.fin f1 f2)
end
end K14
/-! min of a list of lists of pairs -/
namespace Os
open PySem PySem.Spec PyProof.Rows L2 Evl
theorem ltL_trans : ∀ {a b c : List Pr}, ltL a b = true → ltL b c = true → ltL a c = true
  | [], [], _, h, _ => by cases h
  | [], _ :: _, [], _, k => by cases k
  | [], _ :: _, _ :: _, _, _ => rfl
  | _ :: _, [], _, h, _ => by cases h
  | _ :: _, _ :: _, [], _, k => by cases k
  | x :: a, y :: b, z :: c, h, k => by
    unfold ltL at h k ⊢
    by_cases e1 : x = y
    · subst e1
      rw [if_pos rfl] at h
      by_cases e2 : x = z
      · subst e2
        rw [if_pos rfl] at k ⊢
        exact ltL_trans h k
      · rw [if_neg e2] at k ⊢
        exact k
    · rw [if_neg e1] at h
      by_cases e2 : y = z
      · subst e2
        rw [if_neg e1]
        exact h
      · rw [if_neg e2] at k
        have lt : Os.ltP x z = true := by
          rw [ltP_iff] at h k ⊢
          omega
        rw [if_neg (ltP_ne lt)]
        exact lt
def minL (e : List Pr) (es : List (List Pr)) : List Pr := es.foldl (fun a y => if ltL y a = true then y else a) e
theorem minL_least : ∀ (es : List (List Pr)) (e : List Pr), ∀ f ∈ e :: es, ltL f (minL e es) = false
  | [], e, f, hf => by
    rw [List.mem_singleton.mp hf]
    exact ltL_irr e
  | y :: es, e, f, hf => by
    show ltL f (minL (if ltL y e = true then y else e) es) = false
    by_cases h : ltL y e = true
    · rw [if_pos h]
      have ih := minL_least es y
      have iy := ih y List.mem_cons_self
      rcases List.mem_cons.mp hf with rfl | hf
      · rw [← Bool.not_eq_true]
        intro z
        rw [ltL_trans h z] at iy
        cases iy
      · exact ih f hf
    · rw [if_neg h]
      have ih := minL_least es e
      have ie := ih e List.mem_cons_self
      rcases List.mem_cons.mp hf with rfl | hf
      · exact ie
      · rcases List.mem_cons.mp hf with rfl | hf
        · rw [← Bool.not_eq_true]
          intro z
          have h' : ltL f e = false := by
            rw [← Bool.not_eq_true]
            exact h
          cases k : ltL e f with
          | true =>
            rw [ltL_trans k z] at ie
            cases ie
          | false =>
            have := ltL_one h' k
            rw [this] at z
            rw [z] at ie
            cases ie
        · exact ih f (List.mem_cons_of_mem _ hf)
def prsD (l : List Pr) : PyData := .list (l.map Os.prD)
theorem lt_prs : ∀ a b : List Pr, PyProof.Rows.lexLt itemOrd (PySem.W.keyToksAll (a.map Os.prD)) (PySem.W.keyToksAll (b.map Os.prD)) = ltL a b
  | [], [] => lex_irrefl _
  | [], y :: b => by
    show PyProof.Rows.lexLt itemOrd [.inl 0] (.inl 1 :: _) = true
    exact lex_diff (O := itemOrd) (x := .inl 0) (y := .inl 1) (by decide)
  | x :: a, [] => by
    show PyProof.Rows.lexLt itemOrd (.inl 1 :: _) [.inl 0] = false
    exact lex_diff (O := itemOrd) (x := .inl 1) (y := .inl 0) (by decide)
  | x :: a, y :: b => by
    show PyProof.Rows.lexLt itemOrd (PySem.W.keyToksAll (Os.prD x :: a.map Os.prD)) (PySem.W.keyToksAll (Os.prD y :: b.map Os.prD)) = if x = y then ltL a b else Os.ltP x y
    by_cases e : x = y
    · subst e
      rw [if_pos rfl, PySem.W.dataLt_all_yes (alike_pr x x) (by rw [eqv_prs, decide_eq_true rfl])]
      exact lt_prs a b
    · rw [if_neg e, PySem.W.dataLt_all_no (alike_pr x y) (by rw [eqv_prs, decide_eq_false e])]
      exact lt_pr x y
theorem lt_prsD (a b : List Pr) : PySem.W.dataLt (prsD a) (prsD b) = ltL a b := lt_prs a b
theorem minD_prs : ∀ (es : List (List Pr)) (e : List Pr), PySem.W.minD (prsD e) (es.map prsD) = prsD (minL e es)
  | [], _ => rfl
  | y :: es, e => by
    show PySem.W.minD (if PySem.W.dataLt (prsD y) (prsD e) = true then prsD y else prsD e) (es.map prsD) = prsD (minL (if ltL y e = true then y else e) es)
    rw [lt_prsD]
    by_cases h : ltL y e = true
    · rw [if_pos h, if_pos h]
      exact minD_prs es y
    · rw [if_neg h, if_neg h]
      exact minD_prs es e
theorem prs_inj : ∀ {a b : List Pr}, a.map Os.prD = b.map Os.prD → a = b
  | [], [], _ => rfl
  | [], _ :: _, h => by cases h
  | _ :: _, [], h => by cases h
  | x :: a, y :: b, h => by
    rw [prD_inj (List.cons.inj h).1, prs_inj (List.cons.inj h).2]
theorem prsD_inj {a b : List Pr} (h : prsD a = prsD b) : a = b := prs_inj (PyData.list.inj h)
theorem alike_prs : ∀ a b : List Pr, PySem.W.alikeAll (a.map Os.prD) (b.map Os.prD) = true
  | [], [] => by simp [PySem.W.alikeAll]
  | [], _ :: _ => by simp [PySem.W.alikeAll]
  | _ :: _, [] => by simp [PySem.W.alikeAll]
  | x :: a, y :: b => by
    show PySem.W.alikeAll (Os.prD x :: a.map Os.prD) (Os.prD y :: b.map Os.prD) = true
    rw [PySem.W.alikeAll, alike_pr, alike_prs a b]
    rfl
theorem prsD_lay (l : List Pr) : (prsD l).canLay0 = true := by
  unfold prsD
  simp only [PyData.canLay0]
  exact prs_lay l
theorem prsD_depth : ∀ Ls : List (List Pr), PyData.depthAll (Ls.map prsD) ≤ 2
  | [] => by simp [PyData.depthAll]
  | l :: Ls => by
    have h1 := prsD_depth Ls
    have h2 := prs_depth l
    show max (prsD l).depth (PyData.depthAll (Ls.map prsD)) ≤ 2
    have h3 : (prsD l).depth ≤ 2 := by
      unfold prsD
      simp only [PyData.depth]
      omega
    omega
/-- lists of pairs -/
inductive SqsV (G : Hp) : List V → List (List Pr) → Prop
  | nil : SqsV G [] []
  | cons {a : Addr} {xs : List V} {l : List Pr} {vs : List V} {L : List (List Pr)} : G a = some (.lst xs) → PrsV G xs l → SqsV G vs L → SqsV G (.ref a :: vs) (l :: L)
theorem SqsV.length {G : Hp} : ∀ {vs : List V} {L : List (List Pr)}, SqsV G vs L → vs.length = L.length
  | _, _, .nil => rfl
  | _, _, .cons _ _ t => congrArg (· + 1) (SqsV.length t)
theorem SqsV.dts {G : Hp} : ∀ {vs : List V} {L : List (List Pr)}, SqsV G vs L → Dts G vs (L.map prsD)
  | _, _, .nil => .nil
  | _, _, .cons h p t => .cons (.lst h p.dts) (SqsV.dts t)
theorem SqsV.get {G : Hp} : ∀ {vs : List V} {L : List (List Pr)} {i : Nat} {v : V}, SqsV G vs L → vs[i]? = some v → ∃ l a xs, L[i]? = some l ∧ v = .ref a ∧ G a = some (.lst xs) ∧ PrsV G xs l
  | _, _, _, _, .nil, e => by simp at e
  | _, _, 0, _, .cons h p _, e => by
    simp at e
    subst e
    exact ⟨_, _, _, rfl, rfl, h, p⟩
  | _, _, i + 1, v, .cons _ _ t, e => by
    obtain ⟨l, a, xs, h1, h2⟩ := SqsV.get (i := i) (v := v) t (by simpa using e)
    exact ⟨l, a, xs, by simpa using h1, h2⟩
section
variable {X : Cx}
def rMinL : List V → Hp → VK → Prop := fun vs H Q => ∃ (a : Addr) (xs : List V) (Ls : List (List Pr)), vs = [V.ref a] ∧ H a = some (.lst xs) ∧ SqsV H xs Ls ∧ Ls ≠ [] ∧
  ∀ (i : Nat) (v : V) (l : List Pr), xs[i]? = some v → Ls[i]? = some l → (∀ f ∈ Ls, ltL f l = false) → Q v H
theorem cr_minL (hc : X.calm = true) (hu : X.A.units + 64 < cLine) : CallR X (.builtin "min") rMinL := by
  intro pins s σ H vs us Q I r h
  obtain ⟨a, xs, es, rfl, ha, hp, ne, q⟩ := h
  obtain ⟨its, rv, hl, _⟩ := I.list (sq_of ha)
  rw [Vals.ref1 r]
  cases es with
  | nil => exact absurd rfl ne
  | cons e es =>
    obtain ⟨as, rd⟩ := Dp.readsAll I ((e :: es).map prsD) xs its hp.dts.dp rv
    refine PySem.W.min_list_data (x := prsD e) (xs := es.map prsD) (I.ok.hd hc) hl.isList rd ⟨fun x hx y hy => ?_, fun x hx => ?_⟩ (by have : PyData.depthAll (prsD e :: es.map prsD) ≤ 2 := prsD_depth (e :: es); omega) fun i v h' tk bs hv rdm hk => ?_
    · have hx' : x ∈ (e :: es).map prsD := hx
      have hy' : y ∈ (e :: es).map prsD := hy
      obtain ⟨x1, _, rfl⟩ := List.mem_map.mp hx'
      obtain ⟨y1, _, rfl⟩ := List.mem_map.mp hy'
      show PySem.W.alike (.list _) (.list _) = true
      rw [PySem.W.alike]
      exact alike_prs x1 y1
    · have hx' : x ∈ (e :: es).map prsD := hx
      obtain ⟨x1, _, rfl⟩ := List.mem_map.mp hx'
      exact fun z => nomatch z
    · have hv' : its[i]? = some v := by simpa using hv
      have il : i < xs.length := by
        rw [rv.length]
        exact (List.getElem?_eq_some_iff.mp hv').1
      have hx : xs[i]? = some xs[i] := List.getElem?_eq_getElem il
      generalize xs[i] = x at hx
      obtain ⟨u, hu1, ru⟩ := rv.get hx
      rw [hv'] at hu1
      cases hu1
      obtain ⟨l, b, ys, he', rfl, hb, pe⟩ := hp.get hx
      obtain ⟨bs', rd'⟩ := Dp.reads I (prsD l) (.ref b) v (Dt.dp (.lst hb pe.dts)) ru
      have r1 := SeqAt.readOf_eq (prsD_lay l) (PySem.W.reads_keeps hk rd')
      rw [minD_prs] at rdm
      have r2 := SeqAt.readOf_eq (prsD_lay _) rdm
      have ee : l = minL e es := prsD_inj (r1.symm.trans r2)
      subst ee
      exact ⟨.ref b, H, I.kept hk, ru, q i _ _ hx he' (minL_least es e)⟩
end
end Os
namespace K14
open PySem PySem.Spec PyProof.Rows L2 Os Evl
abbrev sAllS : Stmt := topS 28
theorem scAllS : FnScope ["pairs", "found", "k", "longer", "part", "pair"] ["pairs"] (defScope sAllS) := ⟨rfl, rfl, rfl, by decide +kernel, rfl, by decide +kernel, by decide +kernel⟩
theorem room65 {k : Nat} {A : Around} (r : Room k A) : A.units + 65 < cLine := by have := r.un; omega
theorem any_pr (es : List Pr) (f : Pr) : ((es.map Os.prD).any fun z => PyData.eqv z (Os.prD f)) = decide (f ∈ es) := by
  rw [List.any_map]
  by_cases h : f ∈ es
  · rw [decide_eq_true h, List.any_eq_true]
    exact ⟨f, h, by show PyData.eqv (Os.prD f) (Os.prD f) = true; rw [eqv_prs, decide_eq_true rfl]⟩
  · rw [decide_eq_false h, List.any_eq_false]
    intro e he z
    have z' : PyData.eqv (Os.prD e) (Os.prD f) = true := z
    rw [eqv_prs] at z'
    exact h (of_decide_eq_true z' ▸ he)
/-- new lists of pairs -/
inductive SqN (H0 G : Hp) : List V → List (List Pr) → Prop
  | nil : SqN H0 G [] []
  | cons {a : Addr} {xs : List V} {l : List Pr} {vs : List V} {L : List (List Pr)} : H0 a = none → G a = some (.lst xs) → PrsV G xs l → SqN H0 G vs L → SqN H0 G (.ref a :: vs) (l :: L)
section
variable {H0 H1 G G' : Hp} {vs ws : List V} {L M : List (List Pr)}
theorem SqN.ex (h : SqN H0 G vs L) (e : Ex G G') : SqN H0 G' vs L := by
  induction h with
  | nil => exact .nil
  | cons a b c _ ih => exact .cons a (e _ _ b) (c.ex e) ih
theorem SqN.weak (h : SqN H1 G vs L) (e : Ex H0 H1) : SqN H0 G vs L := by
  induction h with
  | nil => exact .nil
  | cons a b c _ ih => exact .cons (fresh_back e a) b c ih
theorem SqN.from (h : SqN H1 G vs L) (k : ∀ b, H1 b = none → H0 b = none) : SqN H0 G vs L := by
  induction h with
  | nil => exact .nil
  | cons a b c _ ih => exact .cons (k _ a) b c ih
theorem SqN.app (h : SqN H0 G vs L) (k : SqN H0 G ws M) : SqN H0 G (vs ++ ws) (L ++ M) := by
  induction h with
  | nil => exact k
  | cons a b c _ ih => exact .cons a b c ih
theorem SqN.upd {p : Addr} {u : HO} {ys zs : List V} (h : SqN H0 G vs L) (h0 : H0 p = some u) (hp : G p = some (.lst ys)) : SqN H0 (L2.upd G p (.lst zs)) vs L := by
  induction h with
  | nil => exact .nil
  | cons a b c _ ih =>
    refine .cons a ?_ (PrsV.upd c hp) ih
    rw [upd_ne fun e => by
      rw [e, h0] at a
      cases a]
    exact b
theorem SqN.sq (h : SqN H0 G vs L) : SqsV G vs L := by
  induction h with
  | nil => exact .nil
  | cons _ b c _ ih => exact .cons b c ih
theorem SqN.length (h : SqN H0 G vs L) : vs.length = L.length := h.sq.length
end
def extB (l : List Pr) (e : Pr) : Bool := decide (e ∉ l)
def extL (es : List Pr) (l : List Pr) : List (List Pr) := (es.filter (extB l)).map fun e => l ++ [e]
theorem seqs_succ (es : List Pr) (k : Nat) : seqsOf es (k + 1) = (seqsOf es k).flatMap (extL es) := rfl
theorem ext_len (es l : List Pr) : (extL es l).length ≤ es.length := by
  unfold extL
  rw [List.length_map]
  exact List.length_filter_le _ _
/-- [part + [pair] for pair in pairs if pair not in part] -/
theorem lc_ext {K : PySem.W.Frag} {σ : L2.St} {H : Hp} {a pa : Addr} {xs ps : List V} {es l : List Pr} {Q : VK} (v0 : σ[0]? = some (some (.ref a))) (ha : H a = some (.lst xs)) (px : PrsV H xs es) (hp : H pa = some (.lst ps)) (pp : PrsV H ps l) (few : es.length ≤ 1000) (few2 : l.length ≤ 1000)
    (hw : ∀ x, wipe ((wipe σ [5]).set 5 (some x)) [5] = wipe σ [5]) (h4 : ∀ x, ((wipe σ [5]).set 5 (some x))[4]? = some (some (.ref pa))) (h5 : ∀ x, ((wipe σ [5]).set 5 (some x))[5]? = some (some x))
    (q : ∀ D H' vs, Ex H H' → H D = none → H' D = some (.lst vs) → SqN H H' vs (extL es l) → Q (.ref D) H') :
    tLc (iList K (tVar 0)) (gName 5) (tTest (tOp (rNotInD K) (tVar 5) (tVar 4))) (tOp rCat (tVar 4) (tLst (tCons (tVar 5) tNil))) [5] σ H Q := by
  refine ⟨.ref a, v0, a, rfl, ⟨_, sq_of ha⟩, fun D hD => ?_⟩
  have eD := Ex.new (o := .lst []) hD
  refine lc_list (xs := xs) (fun i Hh => Ex H Hh ∧ ∃ vs, Hh D = some (.lst vs) ∧ SqN (upd H D (.lst [])) Hh vs (extL (es.take i) l)) ⟨eD, [], upd_same, .nil⟩ (fun i H' _ p => sq_of (p.1 _ _ ha)) ?_ ?_
  · rintro i x Hh hx ⟨x1, vs, hvs, sn⟩
    obtain ⟨e, he, tp, rfl, htp⟩ := px.get hx
    refine ⟨hw _, ?_⟩
    have tk : extL (es.take (i + 1)) l = extL (es.take i) l ++ (if extB l e = true then [l ++ [e]] else []) := by
      unfold extL
      rw [List.take_add_one, he, List.filter_append, List.map_append]
      congr 1
      show List.map _ (List.filter (extB l) [e]) = _
      rw [List.filter_cons, List.filter_nil]
      split <;> rfl
    refine ⟨.ref tp, h5 _, .ref pa, h4 _, Os.prD e, l.map Os.prD, Dt.dp (PrV.dt ⟨tp, rfl, x1 _ _ htp⟩), Dt.dp (.lst (x1 _ _ hp) (pp.ex x1).dts), ?_, (sh_prs l).shaped (by decide), _, rfl, ?_⟩
    · exact (Sh.tup (n := 1) fun x hx => by
        rcases List.mem_cons.mp hx with rfl | hx
        · exact .int 1 _
        · rw [List.mem_singleton.mp hx]
          exact .int 1 _).shaped (by decide)
    rw [any_pr]
    have eb : (!decide (e ∈ l)) = extB l e := by
      unfold extB
      by_cases h : e ∈ l
      · rw [decide_eq_true h, decide_eq_false (fun z => z h)]
        rfl
      · rw [decide_eq_false h, decide_eq_true h]
        rfl
    rw [eb]
    cases hb : extB l e with
    | true =>
      dsimp only
      rw [if_pos rfl]
      have pl := pp.length
      refine ⟨.ref pa, h4 _, .ref tp, h5 _, show 1 ≤ sizeLine by decide, fun p1 hp1 => ?_⟩
      have e1 := Ex.new (o := .lst [.ref tp]) hp1
      refine ⟨pa, p1, ps, [.ref tp], rfl, rfl, e1 _ _ (x1 _ _ hp), upd_same, sz_of (by show ps.length + 1 ≤ 100000; omega), fun b hb' => ?_⟩
      have e2 := Ex.new (o := .lst (ps ++ [.ref tp])) hb'
      have e12 := e1.trans e2
      have vl := sn.length
      have el := ext_len (es.take i) l
      have tl : (es.take i).length ≤ es.length := by rw [List.length_take]; omega
      have nb : b ≠ D := (ne_of_none (e1 _ _ hvs) hb').symm
      refine ⟨vs, e12 _ _ hvs, sz_lt (by omega), (x1.trans e12).mut hD, vs ++ [.ref b], upd_same, ?_⟩
      rw [tk, if_pos hb]
      refine SqN.upd (u := .lst []) ((sn.ex e12).app (.cons ?_ upd_same ((pp.ex (x1.trans e12)).append (.cons ⟨tp, rfl, e12 _ _ (x1 _ _ htp)⟩ .nil)) .nil)) upd_same (e12 _ _ hvs)
      rw [upd_ne nb]
      exact fresh_back (x1.trans e1) hb'
    | false =>
      dsimp only
      rw [if_neg (by decide)]
      refine ⟨x1, vs, hvs, ?_⟩
      rw [tk, hb, if_neg (by decide), List.append_nil]
      exact sn
  · rintro Hh ⟨x1, vs, hvs, sn⟩
    rw [px.length, List.take_length] at sn
    exact q D Hh vs x1 hD hvs (sn.weak eD)
section
variable {P : Program} {w : World} {K : PySem.W.Frag} {mg : Str → Option Value} {base : Heap}
def spAllS : Sp := fun vs H Q _ => ∃ (a : Addr) (xs : List V) (es : List Pr), vs = [.ref a] ∧ H a = some (.lst xs) ∧ PrsV H xs es ∧ es.length ≤ 6 ∧
  ∀ H' p vs, Ex H H' → H p = none → H' p = some (.lst vs) → SqN H H' vs (seqsOf es es.length) → Q (.ref p) H'
theorem ok_allS {f : Addr} {fd : FuncData} {k : Nat} (F : Fun K "_law_all_sequences" "_law_all_sequences" sAllS f fd) (mLen : mg "len" = none) (mRange : mg "range" = none) : FnOk P w K mg base CX0 (k + 1) f fd ["pairs"] spAllS := by
  refine F.ok scAllS (fun vs H Q E h => ?_) (fun cdv A outer st H vs Q E hr h => ?_)
  · obtain ⟨a, xs, es, rfl, _⟩ := h
    rfl
  · obtain ⟨a, xs, es, rfl, ha, px, few, q⟩ := h
    refine ⟨_, (pss_cons (ps_set (i := 1) scAllS.nd rfl (.inl rfl) (pe_lst (pa_cons (pe_lst pa_nil) pa_nil)))
      (pss_cons (ps_for PassesOwn.never rfl (pi_range1 (by rfl) mRange (pa_cons (pe_callB call_len_seq (by rfl) mLen boot_len (pa_cons (pv 0) pa_nil)) pa_nil)) (pg_name (i := 2) scAllS.nd rfl (Or.inl rfl))
      (pss_cons (ps_set (i := 3) scAllS.nd rfl (.inl rfl) (pe_lst pa_nil))
      (pss_cons (ps_for PassesOwn.never rfl (pi_list (pv 1)) (pg_name (i := 4) scAllS.nd rfl (Or.inr rfl))
      (pss_one (ps_expr (pe_bm PySem.F.plainAttrs_list PySem.F.slot_list_extend PySem.F.type_list_extend mt_extend (pv 3) (pa_cons (pe_lc (own := [("pair", 5)]) (g := gName 5) (tt := (tTest (tOp (rNotInD K) (tVar 5) (tVar 4)))) (te := tOp rCat (tVar 4) (tLst (tCons (tVar 5) tNil))) rfl scAllS.nd (pi_list (pv 0)) (blkOk_by (N := ["pairs", "found", "k", "longer", "part", "pair"]) (sc := defScope sAllS) (by decide +kernel)) (fun _ _ _ _ _ => pg_name (i := 5) scAllS.nd rfl (Or.inl rfl)) (fun _ _ _ _ _ => pts_one (pt_cmpR (op_notInD (room65 hr)) (pv 5) (pv 4) (by rfl))) (fun _ _ _ _ _ => (pe_op op_cat (pv 4) (pe_lst (pa_cons (pv 5) pa_nil))))) pa_nil)))))
      (pss_one (ps_set (i := 1) scAllS.nd rfl (.inl rfl) (pv 3))))))
      (pss_one (ps_ret (pv 1))))), ?_⟩
    have xl := px.length
    -- found = [[]]
    refine ⟨show 0 ≤ sizeLine by decide, fun b0 hb0 => ⟨show 1 ≤ sizeLine by decide, fun F0 hF0 => ?_⟩⟩
    have e0 := Ex.new (o := .lst []) hb0
    have e1 := Ex.new (o := .lst [.ref b0]) hF0
    have e01 := e0.trans e1
    refine q_forR1 (n := (es.length : Int)) (ea_cons (ev_is (ev_len' (ev_var rfl) (e01 _ _ ha)) (congrArg V.int (by rw [xl]))) ea_nil) ⟨by omega, by omega⟩
      (fun k σ' H' => ∃ (Fd : Addr) (vs : List V) (y2 y3 y4 y5 : Option V), σ' = [some (.ref a), some (.ref Fd), y2, y3, y4, y5] ∧ Ex H H' ∧ H Fd = none ∧ H' Fd = some (.lst vs) ∧ SqN H H' vs (seqsOf es k))
      (fun H1 x1 => ⟨F0, [.ref b0], _, _, _, _, rfl, e01.trans x1, fresh_back e0 hF0, x1 _ _ upd_same, .cons hb0 (x1 _ _ (e1 _ _ upd_same)) .nil .nil⟩) ?_ ?_
    · rintro k σ' Hk hk ⟨Fd, vs, y2, y3, y4, y5, rfl, xk, hF, hFd, sn⟩
      have klt : k < es.length := by omega
      -- longer = []
      refine q_asgL (xs := []) (el_lst ea_nil (Nat.zero_le _)) fun Lg Hk1 hLg ek hL1 => ?_
      have few' : (seqsOf es k).length ≤ 6 ^ k := seqs_len few k
      have pow6 : 6 ^ k * 6 ≤ 46656 := by
        have : k ≤ 5 := by omega
        match k, this with
        | 0, _ => decide
        | 1, _ => decide
        | 2, _ => decide
        | 3, _ => decide
        | 4, _ => decide
        | 5, _ => decide
      refine q_forL (xs := vs) (ev_var rfl) (sq_of (ek _ _ hFd)) (fun j σ' H' => ∃ (ws : List V) (z4 z5 : Option V), σ' = [some (.ref a), some (.ref Fd), some (.int (k : Int)), some (.ref Lg), z4, z5] ∧ (∀ b o, b ≠ Lg → Hk1 b = some o → H' b = some o) ∧ H' Lg = some (.lst ws) ∧ SqN Hk1 H' ws (((seqsOf es k).take j).flatMap (extL es)))
        (fun H2 x2 => ⟨[], _, _, rfl, (fun b o _ h => x2 _ _ h), x2 _ _ hL1, .nil⟩) (fun j σ' H' _ h => by obtain ⟨ws, z4, z5, _, hx, _⟩ := h; exact sq_of (hx _ _ (ne_of_none hFd hLg) (ek _ _ hFd))) ?_ ?_
      · rintro j x σ' H2 hx ⟨ws, z4, z5, rfl, x2, hL2, sn2⟩
        have X2 : Ex Hk H2 := fun b o h => x2 b o (ne_of_none h hLg) (ek _ _ h)
        obtain ⟨l, pa, ps, hl, rfl, hpa, pp⟩ := sn.sq.get hx
        have ll : l.length = k := (seqs_in (List.mem_of_getElem? hl)).1
        have tk : ((seqsOf es k).take (j + 1)).flatMap (extL es) = ((seqsOf es k).take j).flatMap (extL es) ++ extL es l := by
          rw [List.take_add_one, hl, List.flatMap_append]
          congr 1
          show List.flatMap (extL es) [l] = _
          rw [List.flatMap_cons, List.flatMap_nil, List.append_nil]
        refine ⟨.ref Lg, rfl, .inl ⟨rfl, _, sq_of hL2⟩, lc_ext (l := l) (es := es) rfl ((xk.trans X2) _ _ ha) (px.ex (xk.trans X2)) (X2 _ _ hpa) (pp.ex X2) (by omega) (by omega) (fun _ => rfl) (fun _ => rfl) (fun _ => rfl) fun D H3 zs e3 hD h3 sn3 => ?_⟩
        have wl := sn2.length
        have zl := sn3.length
        have tot : (((seqsOf es k).take (j + 1)).flatMap (extL es)).length ≤ 46656 := by
          have a1 : (((seqsOf es k).take (j + 1)).flatMap (extL es)).length ≤ ((seqsOf es k).take (j + 1)).length * 6 := flat_len fun l _ => Nat.le_trans (ext_len es l) few
          have a2 : ((seqsOf es k).take (j + 1)).length ≤ (seqsOf es k).length := by rw [List.length_take]; omega
          omega
        rw [tk, List.length_append] at tot
        refine ⟨Lg, D, ws, zs, rfl, rfl, e3 _ _ hL2, h3, sz_of (by omega), ws ++ zs, _, _, rfl, (fun b o n h => by rw [upd_ne n]; exact e3 _ _ (x2 b o n h)), upd_same, ?_⟩
        rw [tk]
        have base : SqN Hk1 H3 zs (extL es l) := SqN.from sn3 fun b hb => by
          cases hq : Hk1 b with
          | none => rfl
          | some u =>
            by_cases e : b = Lg
            · rw [e, hL2] at hb
              cases hb
            · rw [x2 b u e hq] at hb
              cases hb
        exact SqN.upd (u := .lst []) ((sn2.ex e3).app base) hL1 (e3 _ _ hL2)
      · rintro σ' H2 ⟨ws, z4, z5, rfl, x2, hL2, sn2⟩
        have X2 : Ex Hk H2 := fun b o h => x2 b o (ne_of_none h hLg) (ek _ _ h)
        refine s_asg (v := .ref Lg) (ev_var rfl) fun H3 e3 => ⟨Lg, ws, _, _, _, _, rfl, (xk.trans X2).trans e3, fresh_back xk hLg, e3 _ _ hL2, ?_⟩
        rw [sn.length, List.take_length] at sn2
        rw [seqs_succ]
        exact (sn2.ex e3).weak (xk.trans ek)
    · rintro σ' H1 ⟨Fd, vs, y2, y3, y4, y5, rfl, x1, hF, hFd, sn⟩
      rw [Int.toNat_natCast] at sn
      exact s_ret (v := .ref Fd) (ev_var rfl) fun H2 e2 => q H2 Fd vs (x1.trans e2) hF (e2 _ _ hFd) (sn.ex e2)
end
end K14
namespace K14
open PySem PySem.Spec PyProof.Rows L2 Os Evl
abbrev sRight : Stmt := topS 31
theorem scRight : FnScope ["graph", "perms", "due", "kept", "told", "row"] ["graph", "perms", "due"] (defScope sRight) := ⟨rfl, rfl, rfl, by decide +kernel, rfl, by decide +kernel, by decide +kernel⟩
theorem lim_nats {l : List Nat} (h : ∀ x ∈ l, x < 64) (hl : l.length ≤ 60) : Lim 6123 1 (.list (natsD l)) := (Lim.lst (L := 100) (D := 0) (m := 60) (fun d hd => by
  obtain ⟨x, hx, rfl⟩ := List.mem_map.mp hd
  exact .int (h x hx)) (by unfold natsD; rw [List.length_map]; exact hl)).mono (by decide) (Nat.le_refl _)
theorem lim_rows {n : Nat} {f : Nat → List Nat} (hn : n ≤ 40) (h : ∀ i, ∀ x ∈ f i, x < 64) (hl : ∀ i, (f i).length ≤ 60) : Lim 245003 2 (.list (rowsD n f)) := (Lim.lst (L := 6123) (D := 1) (m := 40) (fun d hd => by
  obtain ⟨i, _, rfl⟩ := List.mem_map.mp hd
  exact lim_nats (h i) (hl i)) (by unfold rowsD; rw [List.length_map, List.length_range]; exact hn)).mono (by decide) (Nat.le_refl _)

theorem fit_gr {n : Nat} {es : List Pr} {tn : Nat → List Nat} (ok : IsForest n es) (pm : ∀ i, (tn i).Perm (adj es i)) : Fit sizeLine (.list [.tuple [.int (n : Int), .list (es.map Os.prD)], .list (rowsD n tn)]) :=
  (Lim.lst (L := 245003) (D := 3) (m := 2) (fun d hd => by
    rcases List.mem_cons.mp hd with rfl | hd
    · exact (lim_graph ok).mono (by decide) (by decide)
    · rw [List.mem_singleton.mp hd]
      refine (lim_rows ok.n40 (fun i x hx => ?_) (fun i => ?_)).mono (by decide) (by decide)
      · have := adj_in ok.edges.inn ((pm i).mem_iff.mp hx)
        have := ok.n40
        omega
      · rw [(pm i).length_eq]
        exact adj_len ok.few i) (Nat.le_refl _)).fit (by decide) (by decide)
theorem PrsV.kp {G G' : Hp} {as : List Addr} {vs : List V} {es : List Pr} (h : PrsV G vs es) (rows : ∀ c ∈ as, ∃ l, G c = some (.lst l)) (kp : ∀ b o, G b = some o → b ∉ as → G' b = some o) : PrsV G' vs es := by
  induction h with
  | nil => exact .nil
  | cons x _ ih =>
    obtain ⟨t, rfl, ht⟩ := x
    refine .cons ⟨t, rfl, kp _ _ ht fun hm => ?_⟩ ih
    obtain ⟨l, hl⟩ := rows t hm
    rw [hl] at ht
    cases ht
theorem sh_rows (n : Nat) (f : Nat → List Nat) : Sh 2 (.list (rowsD n f)) := .lst fun d hd => by
  obtain ⟨i, _, rfl⟩ := List.mem_map.mp hd
  exact sh_nats 0 (f i)
theorem sh_prsD (l : List Pr) : Sh 2 (prsD l) := sh_prs l
theorem plain_prs (j : Nat) {l : List Pr} (h : l.length ≤ 1000) : Plain (j + 3) (prsD l) := .inr (.inr (.inl ⟨_, rfl, by rw [List.length_map]; exact h, fun d hd => by
  obtain ⟨e, _, rfl⟩ := List.mem_map.mp hd
  refine .inr (.inr (.inr ⟨_, rfl, by show 2 ≤ 1000; decide, fun x hx => ?_⟩))
  rcases List.mem_cons.mp hx with rfl | hx
  · exact .inl ⟨_, rfl⟩
  · rw [List.mem_singleton.mp hx]
    exact .inl ⟨_, rfl⟩⟩))
/-- for row in perms: row.reverse() -/
theorem q_revs {K : PySem.W.Frag} {D : Ends} {tz : TS} {H : Hp} {L : Addr} {as : List Addr} {n : Nat} {tn : Nat → List Nat} {y0 y2 y3 y4 y5 : Option V} (ra : RowsAt H L as n tn) (nd : as.Nodup) (nL : L ∉ as)
    (k : ∀ (y : Option V) H', (∀ b o, H b = some o → b ∉ as → H' b = some o) → RowsAt H' L as n (fun i => (tn i).reverse) → tz D [y0, some (.ref L), y2, y3, y4, y] H') :
    tSeq (tFor (iList K (tVar 1)) (gName 5) (tDrop (tBM K "list" rReverse (tVar 5) tNil))) tz D [y0, some (.ref L), y2, y3, y4, y5] H := by
  refine q_forL (xs := as.map V.ref) (ev_var rfl) (sq_of ra.top) (fun i σ' H' => ∃ y : Option V, σ' = [y0, some (.ref L), y2, y3, y4, y] ∧ (∀ b o, H b = some o → b ∉ as → H' b = some o) ∧ ∀ j c, as[j]? = some c → H' c = some (.lst (nats (if j < i then (tn j).reverse else tn j))))
    (fun H1 e1 => ⟨_, rfl, fun b o h _ => e1 _ _ h, fun j c h => by rw [if_neg (Nat.not_lt_zero j)]; exact e1 _ _ (ra.at' j c h)⟩) (fun i σ' H' _ h => sq_of (h.choose_spec.2.1 _ _ ra.top nL)) ?_ ?_
  · rintro i x σ' H1 hx ⟨y, rfl, kp, at'⟩
    rw [List.getElem?_map] at hx
    cases hai : as[i]? with
    | none => rw [hai] at hx; cases hx
    | some c =>
      rw [hai] at hx
      cases hx
      have hc := at' i c hai
      rw [if_neg (Nat.lt_irrefl i)] at hc
      refine ⟨.ref c, rfl, .inl ⟨rfl, _, sq_of hc⟩, c, nats (tn i), rfl, rfl, hc, ?_⟩
      refine ⟨_, rfl, fun b o h nb => ?_, fun j c' h => ?_⟩
      · rw [upd_ne (fun z => nb (by rw [z]; exact List.mem_of_getElem? hai))]
        exact kp b o h nb
      · by_cases e : j = i
        · subst e
          rw [hai] at h
          cases h
          rw [if_pos (Nat.lt_succ_self _), upd_same]
          unfold nats
          rw [List.map_reverse]
        · have ne : c' ≠ c := fun z => by
            subst z
            obtain ⟨l1, e1⟩ := List.getElem?_eq_some_iff.mp h
            obtain ⟨l2, e2⟩ := List.getElem?_eq_some_iff.mp hai
            rcases Nat.lt_or_gt_of_ne e with lt | lt
            · exact List.pairwise_iff_getElem.mp nd j i l1 l2 lt (by rw [e1, e2])
            · exact List.pairwise_iff_getElem.mp nd i j l2 l1 lt (by rw [e1, e2])
          rw [upd_ne ne, at' j c' h]
          by_cases lt : j < i
          · rw [if_pos lt, if_pos (by omega)]
          · rw [if_neg lt, if_neg (by omega)]
  · rintro σ' H1 ⟨y, rfl, kp, at'⟩
    refine k y H1 kp ⟨kp _ _ ra.top nL, ra.len, fun j c h => ?_⟩
    have := at' j c h
    rwa [if_pos (by rw [List.length_map]; exact (List.getElem?_eq_some_iff.mp h).1)] at this
section
variable {P : Program} {w : World} {K : PySem.W.Frag} {mg : Str → Option Value} {base : Heap}
def spRight : Sp := fun vs H Q _ => ∃ (g ge L du : Addr) (n : Nat) (xs dx : List V) (es os : List Pr) (as : List Addr) (tn : Nat → List Nat), vs = [.ref g, .ref L, .ref du] ∧ H g = some (.tup [.int (n : Int), .ref ge]) ∧ H ge = some (.lst xs) ∧ PrsV H xs es ∧ IsForest n es ∧ RowsAt H L as n tn ∧ as.Nodup ∧ L ∉ as ∧ ge ∉ as ∧ du ∉ as ∧ (∀ i, (tn i).Perm (adj es i)) ∧ H du = some (.lst dx) ∧ PrsV H dx os ∧ LeastO es tn os ∧
  ∀ H', (∀ b o, H b = some o → b ∉ as → H' b = some o) → Q (.bl true) H'
theorem ok_right {f fT fE fO fG : Addr} {fd fdT fdE fdO fdG : FuncData} {k : Nat} (F : Fun K "_law_right" "_law_right" sRight f fd)
    (GT : FnOk P w K mg base CX0 k fT fdT ["forest", "turns"] spOT) (FT : Fun K "order_of_turns" "order_of_turns" sOT fT fdT) (bT : Binds K fdT ["forest", "turns"] []) (kT : KBinds K fdT ["forest", "turns"] ["turns", "forest"] revG revV) (gT : mg "order_of_turns" = some (.ref fT))
    (GE : FnOk P w K mg base CX0 k fE fdE ["found", "due"] (spSame 4)) (FE : Fun K "_law_same" "_law_same" sSame fE fdE) (bE : Binds K fdE ["found", "due"] []) (gE : mg "_law_same" = some (.ref fE))
    (GO : FnOk P w K mg base CX0 k fO fdO ["size", "sequence"] spPo) (FO : Fun K "_law_perms_of" "_law_perms_of" sPo fO fdO) (bO : Binds K fdO ["size", "sequence"] []) (gO : mg "_law_perms_of" = some (.ref fO))
    (GG : FnOk P w K mg base CX0 k fG fdG ["graph", "perms"] spOT) (FG : Fun K "_law_greedy" "_law_greedy" sGreedy fG fdG) (bG : Binds K fdG ["graph", "perms"] []) (gG : mg "_law_greedy" = some (.ref fG))
    (mRepr : mg "repr" = none) : FnG P w K mg base (k + 1) f fd ["graph", "perms", "due"] spRight := by
  refine okG F scRight (fun vs H Q E h => ?_) (fun cdv A outer st H vs Q E gd hr h => ?_)
  · obtain ⟨g, ge, L, du, n, xs, dx, es, os, as, tn, rfl, _⟩ := h
    rfl
  · obtain ⟨g, ge, L, du, n, xs, dx, es, os, as, tn, rfl, hg1, hg2, px, ok, ra, nd, nL, nge, ndu, pm, hdu, pdu, lo, q⟩ := h
    refine ⟨_, (pss_cons (ps_set (i := 3) scRight.nd rfl (.inl rfl) (pe_callB (call_repr gd hr.units) (by rfl) mRepr boot_repr (pa_cons (pe_lst (pa_cons (pv 0) (pa_cons (pv 1) pa_nil))) pa_nil)))
      (pss_cons (ps_set (i := 4) scRight.nd rfl (.inl rfl) (pe_call GT hr (by rfl) gT FT.kp bT .nil pass0 (pa_cons (pv 0) (pa_cons (pv 1) pa_nil))))
      (pss_cons (ps_if (pt_not (pt_val (pe_call GE hr (by rfl) gE FE.kp bE .nil pass0 (pa_cons (pe_lst (pa_cons (pv 4) (pa_cons (pe_callK0 GT hr (by rfl) gT FT.kp kT pass0 (pk_cons (pv 1) (pk_cons (pv 0) pk_nil))) pa_nil))) (pa_cons (pe_lst (pa_cons (pv 2) (pa_cons (pv 2) pa_nil))) pa_nil))))) pss_never pss_nil)
      (pss_cons (ps_if (pt_cmpR (op_neD hr.units) (pe_call GO hr (by rfl) gO FO.kp bO .nil pass0 (pa_cons (pe_ix ix_tup (pv 0) pe_int (fun _ _ => rfl)) (pa_cons (pv 4) pa_nil))) (pv 1) (nomark _)) pss_never pss_nil)
      (pss_cons (ps_expr (pe_bm PySem.F.plainAttrs_list PySem.F.slot_list_append PySem.F.type_list_append mt_append (pv 4) (pa_cons pe_non pa_nil)))
      (pss_cons (ps_if (PW.pt (pw_or (pt_not (pt_val (pe_call GE hr (by rfl) gE FE.kp bE .nil pass0 (pa_cons (pe_call GT hr (by rfl) gT FT.kp bT .nil pass0 (pa_cons (pv 0) (pa_cons (pv 1) pa_nil))) (pa_cons (pv 2) pa_nil))))) (pw_or1 (pt_cmpR op_ne (pe_callB (call_repr gd hr.units) (by rfl) mRepr boot_repr (pa_cons (pe_lst (pa_cons (pv 0) (pa_cons (pv 1) pa_nil))) pa_nil)) (pv 3) (nomark _))))) pss_never pss_nil)
      (pss_cons (ps_set (i := 4) scRight.nd rfl (.inl rfl) (pe_call GT hr (by rfl) gT FT.kp bT .nil pass0 (pa_cons (pv 0) (pa_cons (pv 1) pa_nil))))
      (pss_cons (ps_for PassesOwn.never rfl (pi_list (pv 1)) (pg_name (i := 5) scRight.nd rfl (Or.inl rfl))
      (pss_one (ps_expr (pe_bm0 PySem.F.plainAttrs_list PySem.F.slot_list_reverse PySem.F.type_list_reverse mt_reverse (pv 5)))))
      (pss_one (ps_ret (pe_call GE hr (by rfl) gE FE.kp bE .nil pass0 (pa_cons (pe_lst (pa_cons (pv 4) (pa_cons (pe_call GT hr (by rfl) gT FT.kp bT .nil pass0 (pa_cons (pv 0) (pa_cons (pv 1) pa_nil))) pa_nil))) (pa_cons (pe_lst (pa_cons (pv 2) (pa_cons (pe_call GG hr (by rfl) gG FG.kp bG .nil pass0 (pa_cons (pv 0) (pa_cons (pv 1) pa_nil))) pa_nil))) pa_nil))))))))))))), ?_⟩
    have n40 := ok.n40
    have few := ok.few
    have fit := fit_gr ok pm
    have osl : os.length ≤ 60 := by rw [lo.pm.length_eq]; exact few
    have hG : ∀ {G : Hp}, Ex H G → GraphV G (.ref g) n es := fun e => ⟨g, ge, xs, rfl, e _ _ hg1, e _ _ hg2, px.ex e⟩
    have hd2 : ∀ {G : Hp}, Ex H G → Dts G [.ref g, .ref L] [.tuple [.int (n : Int), .list (es.map Os.prD)], .list (rowsD n tn)] := fun e => .cons (hG e).dt (.cons (rows_dt (ra.ex e).top ra.len (ra.ex e).at') .nil)
    have duD : ∀ {G : Hp}, Ex H G → Dt G (.ref du) (prsD os) := fun e => .lst (e _ _ hdu) (pdu.ex e).dts
    have etn : adj os = tn := funext lo.trn
    -- kept
    refine q_asg (ev_reprL (el_lst (ea_cons (ev_var rfl) (ea_cons (ev_var rfl) ea_nil)) (show 2 ≤ 100000 by decide)) (hd2 (Ex.refl H)) fit) fun H1 e1 => ?_
    -- told
    refine ⟨.ref g, rfl, .ref L, rfl, .ref g, L, n, es, as, tn, rfl, hG e1, ok, ra.ex e1, pm, fun H2 T1 o1 e2 hT1 ho1 lo1 => ?_⟩
    have eo1 := lo1.one lo
    subst eo1
    obtain ⟨_, xs1, ee, hT1x, pT1⟩ := ho1
    cases ee
    have x2 := e1.trans e2
    refine ⟨.ref T1, rfl, .ref L, rfl, .ref g, rfl, .ref g, L, n, es, as, tn, rfl, hG x2, ok, ra.ex x2, pm, fun H3 T2 o2 e3 hT2 ho2 lo2 => ⟨show 2 ≤ sizeLine by decide, fun p1 hp1 => ?_⟩⟩
    have eo2 := lo2.one lo
    subst eo2
    obtain ⟨_, xs2, ee, hT2x, pT2⟩ := ho2
    cases ee
    have f1 := Ex.new (o := .lst [.ref T1, .ref T2]) hp1
    refine ⟨.ref du, rfl, .ref du, rfl, show 2 ≤ sizeLine by decide, fun p2 hp2 => ?_⟩
    have f2 := Ex.new (o := .lst [.ref du, .ref du]) hp2
    have f12 := f1.trans f2
    refine ⟨.ref p1, .ref p2, .list [prsD o2, prsD o2], rfl, .lst (f2 _ _ upd_same) (.cons (.lst ((e3.trans f12) _ _ hT1x) (pT1.ex (e3.trans f12)).dts) (.cons (.lst (f12 _ _ hT2x) (pT2.ex f12).dts) .nil)), .lst upd_same (.cons (duD (x2.trans (e3.trans f12))) (.cons (duD (x2.trans (e3.trans f12))) .nil)), plain_two (plain_prs 0 (by omega)), fun Ha ea => ⟨true, rfl, iteF ?_⟩⟩
    have xa : Ex H2 Ha := (e3.trans f12).trans ea
    have ya := x2.trans xa
    -- the turns of told
    refine ⟨.ref g, rfl, g, _, 0, .int (n : Int), rfl, rfl, st_of (ya _ _ hg1), atI_nat (j := 0) rfl, .ref T1, rfl, .ref T1, n, es, o2, rfl, ok, ⟨T1, xs1, rfl, xa _ _ hT1x, pT1.ex xa⟩, lo.pm, fun H4 P4 as4 e4 hP4 h4 rw4 => ?_⟩
    rw [etn] at rw4
    refine ⟨.ref L, rfl, .list (rowsD n tn), .list (rowsD n tn), Dt.dp (rw4.dt h4), Dt.dp (rows_dt (ra.ex (ya.trans e4)).top ra.len (ra.ex (ya.trans e4)).at'), (sh_rows n tn).shaped (by decide), (sh_rows n tn).shaped (by decide), _, rfl, ?_⟩
    rw [(sh_rows n tn).refl]
    refine iteF ?_
    -- told.append(None)
    have hT4 := (xa.trans e4) _ _ hT1x
    have l1 := pT1.length
    refine ⟨.ref T1, rfl, .inl ⟨rfl, _, sq_of hT4⟩, T1, xs1, .non, rfl, rfl, hT4, sz_lt (by omega), ?_⟩
    have z1 : Ex H1 (upd H4 T1 (.lst (xs1 ++ [.non]))) := (e2.trans (xa.trans e4)).mut hT1
    dsimp only
    generalize upd H4 T1 (.lst (xs1 ++ [.non])) = Hc at *
    have xc := e1.trans z1
    -- again, repr
    refine ⟨.ref g, rfl, .ref L, rfl, .ref g, L, n, es, as, tn, rfl, hG xc, ok, ra.ex xc, pm, fun Hd T3 o3 ed hT3 ho3 lo3 => ?_⟩
    have eo3 := lo3.one lo
    subst eo3
    obtain ⟨_, xs3, ee, hT3x, pT3⟩ := ho3
    cases ee
    refine ⟨.ref du, rfl, .ref T3, .ref du, prsD o3, rfl, .lst hT3x pT3.dts, duD (xc.trans ed), plain_prs 1 (by omega), fun He ee => ⟨true, rfl, iteF ?_⟩⟩
    have xe := (xc.trans ed).trans ee
    refine (et_is (b := !true) (et_test (ev_op (ev_reprL (el_lst (ea_cons (ev_var rfl) (ea_cons (ev_var rfl) ea_nil)) (show 2 ≤ 100000 by decide)) (hd2 xe) fit) (ev_var rfl) (rv_ne rfl))) (by rw [decide_eq_true rfl])) He (Ex.refl He) _ fun Hf ef => iteF ?_
    have xf := xe.trans ef
    -- told
    refine ⟨.ref g, rfl, .ref L, rfl, .ref g, L, n, es, as, tn, rfl, hG xf, ok, ra.ex xf, pm, fun Hg T4 o4 eg hT4 ho4 lo4 => ?_⟩
    have eo4 := lo4.one lo
    subst eo4
    obtain ⟨_, xs4, ee, hT4x, pT4⟩ := ho4
    cases ee
    have xg := xf.trans eg
    have rG := ra.ex xg
    have T4a : T4 ∉ as := fun hm => by
      obtain ⟨j, hj⟩ := List.mem_iff_getElem?.mp hm
      have := (ra.ex xf).at' j _ hj
      rw [hT4] at this
      cases this
    have ga : g ∉ as := fun hm => by
      obtain ⟨j, hj⟩ := List.mem_iff_getElem?.mp hm
      have := ra.at' j _ hj
      rw [hg1] at this
      cases this
    -- for row in perms: row.reverse()
    refine q_revs rG nd nL fun yr Hh kp rH => ?_
    have rowsG : ∀ c ∈ as, ∃ l, Hg c = some (.lst l) := fun c hc => by
      obtain ⟨j, hj⟩ := List.mem_iff_getElem?.mp hc
      exact ⟨_, rG.at' j c hj⟩
    have gH : GraphV Hh (.ref g) n es := ⟨g, ge, xs, rfl, kp _ _ (xg _ _ hg1) ga, kp _ _ (xg _ _ hg2) nge, PrsV.kp (px.ex xg) rowsG kp⟩
    have duH : Hh du = some (.lst dx) := kp _ _ (xg _ _ hdu) ndu
    have pduH := PrsV.kp (pdu.ex xg) rowsG kp
    have T4H : Hh T4 = some (.lst xs4) := kp _ _ hT4x T4a
    have pT4H := PrsV.kp pT4 rowsG kp
    have pmr : ∀ i, ((tn i).reverse).Perm (adj es i) := fun i => (List.reverse_perm _).trans (pm i)
    refine ⟨.ref T4, rfl, .ref g, rfl, .ref L, rfl, .ref g, L, n, es, as, _, rfl, gH, ok, rH, pmr, fun Hi T5 o5 ei hT5 ho5 lo5 => ⟨show 2 ≤ sizeLine by decide, fun p3 hp3 => ?_⟩⟩
    have f3 := Ex.new (o := .lst [.ref T4, .ref T5]) hp3
    have x3 := ei.trans f3
    refine ⟨.ref du, rfl, .ref g, rfl, .ref L, rfl, .ref g, L, n, es, as, _, rfl, gH.ex x3, ok, rH.ex x3, pmr, fun Hj T6 o6 ej hT6 ho6 lo6 => ⟨show 2 ≤ sizeLine by decide, fun p4 hp4 => ?_⟩⟩
    have eo6 := lo6.one lo5
    subst eo6
    obtain ⟨_, xs5, ee, hT5x, pT5⟩ := ho5
    cases ee
    obtain ⟨_, xs6, ee, hT6x, pT6⟩ := ho6
    cases ee
    have f4 := Ex.new (o := .lst [.ref du, .ref T6]) hp4
    have y4 := ej.trans f4
    have o5l : o6.length ≤ 60 := by rw [lo5.pm.length_eq]; exact few
    refine ⟨.ref p3, .ref p4, .list [prsD o4, prsD o6], rfl, .lst (y4 _ _ upd_same) (.cons (.lst ((x3.trans y4) _ _ T4H) (pT4H.ex (x3.trans y4)).dts) (.cons (.lst ((f3.trans y4) _ _ hT5x) (pT5.ex (f3.trans y4)).dts) .nil)), .lst upd_same (.cons (.lst ((x3.trans y4) _ _ duH) (pduH.ex (x3.trans y4)).dts) (.cons (.lst (f4 _ _ hT6x) (pT6.ex f4).dts) .nil)), .inr (.inr (.inl ⟨_, rfl, by show 2 ≤ 1000; decide, fun y hy => ?_⟩)), fun Hk ek => q Hk fun b o hb nb => ek _ _ ((x3.trans y4) _ _ (kp _ _ (xg _ _ hb) nb))⟩
    rcases List.mem_cons.mp hy with rfl | hy
    · exact plain_prs 0 (by omega)
    · rw [List.mem_singleton.mp hy]
      exact plain_prs 0 (by omega)
end
end K14
namespace K14
open PySem PySem.Spec PyProof.Rows L2 Os Evl
abbrev sLaw : Stmt := topS 32
theorem scLaw : FnScope ["script", "k", "source", "graph", "perms", "some", "leaf", "star", "told", "row"] ["script"] (defScope sLaw) := ⟨rfl, rfl, rfl, by decide +kernel, rfl, by decide +kernel, by decide +kernel⟩
theorem Drew.offs {s : Addr} {B : Nat} {H H1 H2 : Hp} {as : List Addr} (d : Drew s B H H1) (new : ∀ c ∈ as, H c = none) (ns : s ∉ as) (k : ∀ b o, H1 b = some o → b ∉ as → H2 b = some o) : Drew s B H H2 := by
  refine ⟨fun b o h => ?_, ?_⟩
  · obtain ⟨n1, h1⟩ := hide_of h
    rw [hide_ne n1]
    exact k b o (d.get n1 h1) fun hm => by
      have := new b hm
      rw [h1] at this
      cases this
  · obtain ⟨x, y, z, h1, h2⟩ := d.src
    exact ⟨x, y, z, k _ _ h1 ns, h2⟩
theorem eqv_lists : ∀ A B : List (List Nat), PyData.eqvAll (A.map fun l => .list (natsD l)) (B.map fun l => .list (natsD l)) = decide (A = B)
  | [], [] => rfl
  | [], _ :: _ => rfl
  | _ :: _, [] => rfl
  | x :: A, y :: B => by
    show (PyData.eqv (.list (natsD x)) (.list (natsD y)) && PyData.eqvAll (A.map fun l => .list (natsD l)) (B.map fun l => .list (natsD l))) = _
    rw [eqv_nats, eqv_lists A B]
    by_cases h1 : x = y
    · subst h1
      rw [decide_eq_true rfl, Bool.true_and]
      exact decide_eq_decide.mpr ⟨fun h => by rw [h], fun h => (List.cons.inj h).2⟩
    · rw [decide_eq_false h1, Bool.false_and, decide_eq_false fun z => h1 (List.cons.inj z).1]
def goodB (n : Nat) (tn : Nat → List Nat) (l : List Pr) : Bool := PyData.eqv (.list (rowsD n (adj l))) (.list (rowsD n tn))
theorem good_iff {n : Nat} {tn : Nat → List Nat} {l : List Pr} : goodB n tn l = true ↔ ∀ i, i < n → adj l i = tn i := by
  have e : ∀ f : Nat → List Nat, rowsD n f = ((List.range n).map f).map fun l => .list (natsD l) := fun f => by
    unfold rowsD
    rw [List.map_map]
    rfl
  unfold goodB
  show PyData.eqvAll _ _ = true ↔ _
  rw [e, e, eqv_lists, decide_eq_true_eq]
  constructor
  · intro h i hi
    have : ((List.range n).map (adj l))[i]? = ((List.range n).map tn)[i]? := by rw [h]
    rw [List.getElem?_map, List.getElem?_map, List.getElem?_range hi] at this
    exact Option.some.inj this
  · intro h
    exact List.map_congr_left fun i hi => h i (List.mem_range.mp hi)
/-- lists of pairs that stand apart from D -/
inductive SqA (D : Addr) (G : Hp) : List V → List (List Pr) → Prop
  | nil : SqA D G [] []
  | cons {a : Addr} {xs : List V} {l : List Pr} {vs : List V} {L : List (List Pr)} : a ≠ D → G a = some (.lst xs) → PrsV G xs l → SqA D G vs L → SqA D G (.ref a :: vs) (l :: L)
section
variable {D : Addr} {G G' : Hp} {vs ws : List V} {L M : List (List Pr)}
theorem SqA.ex (h : SqA D G vs L) (e : Ex G G') : SqA D G' vs L := by
  induction h with
  | nil => exact .nil
  | cons a b c _ ih => exact .cons a (e _ _ b) (c.ex e) ih
theorem SqA.app (h : SqA D G vs L) (k : SqA D G ws M) : SqA D G (vs ++ ws) (L ++ M) := by
  induction h with
  | nil => exact k
  | cons a b c _ ih => exact .cons a b c ih
theorem SqA.upd {ys zs : List V} (h : SqA D G vs L) (hp : G D = some (.lst ys)) : SqA D (L2.upd G D (.lst zs)) vs L := by
  induction h with
  | nil => exact .nil
  | cons a b c _ ih => exact .cons a (by rw [upd_ne a]; exact b) (PrsV.upd c hp) ih
theorem SqA.sq (h : SqA D G vs L) : SqsV G vs L := by
  induction h with
  | nil => exact .nil
  | cons _ b c _ ih => exact .cons b c ih
end
theorem SqN.get {H0 G : Hp} : ∀ {vs : List V} {L : List (List Pr)} {i : Nat} {v : V}, SqN H0 G vs L → vs[i]? = some v → ∃ l a xs, L[i]? = some l ∧ H0 a = none ∧ v = .ref a ∧ G a = some (.lst xs) ∧ PrsV G xs l
  | _, _, _, _, .nil, e => by simp at e
  | _, _, 0, _, .cons h0 h p _, e => by
    simp at e
    subst e
    exact ⟨_, _, _, rfl, h0, rfl, h, p⟩
  | _, _, i + 1, v, .cons _ _ _ t, e => by
    obtain ⟨l, a, xs, h1, h2⟩ := SqN.get (i := i) (v := v) t (by simpa using e)
    exact ⟨l, a, xs, by simpa using h1, h2⟩
theorem SqN.upd' {H0 G : Hp} {D : Addr} {ys zs : List V} : ∀ {vs : List V} {L : List (List Pr)}, SqN H0 G vs L → SqA D G vs L → G D = some (.lst ys) → SqN H0 (L2.upd G D (.lst zs)) vs L
  | _, _, .nil, _, _ => .nil
  | _, _, .cons h0 h p t, .cons n _ _ k, hD => .cons h0 (by rw [upd_ne n]; exact h) (PrsV.upd p hD) (SqN.upd' t k hD)
theorem sq_mem {G : Hp} {vs : List V} {L : List (List Pr)} (h : SqsV G vs L) {i : Nat} {l : List Pr} {a : Addr} (hv : vs[i]? = some (.ref a)) (hl : L[i]? = some l) : ∃ xs, G a = some (.lst xs) ∧ PrsV G xs l := by
  obtain ⟨l', a', xs, h1, h2, h3, h4⟩ := h.get hv
  cases h2
  rw [hl] at h1
  cases h1
  exact ⟨xs, h3, h4⟩
theorem star_ok : IsForest 4 [(0, 1), (0, 2), (0, 3)] := by
  refine ⟨⟨by decide, by decide, fun e he => ⟨fun x => decide (x = e.2), ?_, fun f hf ne => ?_⟩⟩, by decide, by decide, by decide⟩
  · revert he
    revert e
    decide
  · revert ne
    revert hf
    revert f
    revert he
    revert e
    decide
def starT (i : Nat) : List Nat := adj [(0, 3), (0, 1), (0, 2)] i
theorem star_perm : ([(0, 3), (0, 1), (0, 2)] : List Pr).Perm [(0, 1), (0, 2), (0, 3)] := by decide
theorem fm_snd : ∀ os : List Pr, (∀ e ∈ os, other 0 e = some e.2) → os.filterMap (other 0) = os.map Prod.snd
  | [], _ => rfl
  | e :: os, h => by
    rw [List.filterMap_cons, h e List.mem_cons_self, List.map_cons, fm_snd os fun f hf => h f (List.mem_cons_of_mem _ hf)]
/-- the star's order is the only one -/
theorem star_one {os : List Pr} (pm : os.Perm [(0, 1), (0, 2), (0, 3)]) (ht : ∀ i, adj os i = starT i) : os = [(0, 3), (0, 1), (0, 2)] := by
  have h0 : os.filterMap (other 0) = [3, 1, 2] := ht 0
  have inn : ∀ e ∈ os, e ∈ ([(0, 1), (0, 2), (0, 3)] : List Pr) := fun e he => pm.mem_iff.mp he
  have key : ∀ e ∈ ([(0, 1), (0, 2), (0, 3)] : List Pr), other 0 e = some e.2 := by decide
  have key2 : ∀ e ∈ ([(0, 1), (0, 2), (0, 3)] : List Pr), ((0 : Nat), e.2) = id e := by decide
  have e1 : os.filterMap (other 0) = os.map Prod.snd := fm_snd os fun e he => key e (inn e he)
  rw [e1] at h0
  have e2 : os = os.map fun e => (0, e.2) := by
    have : os.map (fun e => (0, e.2)) = os.map id := List.map_congr_left fun e he => key2 e (inn e he)
    rw [this, List.map_id]
  rw [e2, show (fun e : Pr => ((0 : Nat), e.2)) = (fun y : Nat => ((0 : Nat), y)) ∘ Prod.snd from rfl, ← List.map_map, h0]
  rfl
section
variable {P : Program} {w : World} {K : PySem.W.Frag} {mg : Str → Option Value} {base : Heap}
/-- [row for row in all sequences if their turns are these] -/
theorem lc_good {σ : L2.St} {H : Hp} {g ge L : Addr} {xs : List V} {n : Nat} {es : List Pr} {as : List Addr} {tn : Nat → List Nat} {Q : VK} (v3 : σ[3]? = some (some (.ref g))) (hg : H g = some (.tup [.int (n : Int), .ref ge])) (hge : H ge = some (.lst xs)) (px : PrsV H xs es) (ok : IsForest n es) (few : es.length ≤ 6) (ra : RowsAt H L as n tn)
    (hw : ∀ x, wipe ((wipe σ [9]).set 9 (some x)) [9] = wipe σ [9]) (h3 : ∀ x, ((wipe σ [9]).set 9 (some x))[3]? = some (some (.ref g))) (h4 : ∀ x, ((wipe σ [9]).set 9 (some x))[4]? = some (some (.ref L))) (h9 : ∀ x, ((wipe σ [9]).set 9 (some x))[9]? = some (some x))
    (q : ∀ D H' vs, Ex H H' → H D = none → H' D = some (.lst vs) → SqN H H' vs ((seqsOf es es.length).filter (goodB n tn)) → Q (.ref D) H') :
    tLc (iList K (tCall spAllS [] E0 (tCons (tOp (rIxT K) (tVar 3) (tC (.int 1))) tNil))) (gName 9) (tTest (tOp (rEqD K) (tCall spPo [] E0 (tCons (tOp (rIxT K) (tVar 3) (tC (.int 0))) (tCons (tVar 9) tNil))) (tVar 4))) (tVar 9) [9] σ H Q := by
  refine ⟨.ref g, v3, g, _, 1, .ref ge, rfl, rfl, st_of hg, atI_nat (j := 1) rfl, ge, xs, es, rfl, hge, px, few, fun H5 S vs e5 hS h5 sn => ?_⟩
  refine ⟨S, rfl, ⟨_, sq_of h5⟩, fun D hD => ?_⟩
  have eD := Ex.new (o := .lst []) hD
  have vl := sn.length
  have tot : (seqsOf es es.length).length ≤ 46656 := by
    have a := seqs_len few es.length
    have : es.length = 0 ∨ es.length = 1 ∨ es.length = 2 ∨ es.length = 3 ∨ es.length = 4 ∨ es.length = 5 ∨ es.length = 6 := by omega
    rcases this with h | h | h | h | h | h | h <;> (rw [h] at a ⊢; exact Nat.le_trans a (by decide))
  refine lc_list (xs := vs) (fun i Hh => Ex H5 Hh ∧ ∃ ys, Hh D = some (.lst ys) ∧ ys.length ≤ i ∧ SqN H Hh ys (((seqsOf es es.length).take i).filter (goodB n tn)) ∧ SqA D Hh ys (((seqsOf es es.length).take i).filter (goodB n tn))) ⟨eD, [], upd_same, Nat.le_refl _, .nil, .nil⟩ (fun i H' _ p => sq_of (p.1 _ _ h5)) ?_ ?_
  · rintro i x Hh hx ⟨x1, ys, hys, yl, sy, sa⟩
    obtain ⟨l, a, ps, hl, ha0, rfl, ha, pa⟩ := SqN.get sn hx
    have lp : l.Perm es := seqs_perm (List.mem_of_getElem? hl)
    have naD : a ≠ D := ne_of_none ha hD
    refine ⟨hw _, ?_⟩
    have tk : ((seqsOf es es.length).take (i + 1)).filter (goodB n tn) = ((seqsOf es es.length).take i).filter (goodB n tn) ++ (if goodB n tn l = true then [l] else []) := by
      rw [List.take_add_one, hl, List.filter_append]
      congr 1
      show List.filter (goodB n tn) [l] = _
      rw [List.filter_cons, List.filter_nil]
    have xx := e5.trans x1
    refine ⟨.ref g, h3 _, g, _, 0, .int (n : Int), rfl, rfl, st_of (xx _ _ hg), atI_nat (j := 0) rfl, .ref a, h9 _, .ref a, n, es, l, rfl, ok, ⟨a, ps, rfl, x1 _ _ ha, pa.ex x1⟩, lp, fun H6 P6 as6 e6 hP6 h6 rw6 => ?_⟩
    have x6 := x1.trans e6
    refine ⟨.ref L, h4 _, .list (rowsD n (adj l)), .list (rowsD n tn), Dt.dp (rw6.dt h6), Dt.dp (rows_dt (ra.ex (e5.trans x6)).top ra.len (ra.ex (e5.trans x6)).at'), (sh_rows n _).shaped (by decide), (sh_rows n tn).shaped (by decide), _, rfl, ?_⟩
    dsimp only
    have il : i < vs.length := (List.getElem?_eq_some_iff.mp hx).1
    cases hb : goodB n tn l with
    | true =>
      have hb' : PyData.eqv (.list (rowsD n (adj l))) (.list (rowsD n tn)) = true := hb
      rw [if_pos hb']
      refine ⟨_, h9 _, ys, e6 _ _ hys, sz_lt (by omega), x6.mut hD, ys ++ [.ref a], upd_same, by rw [List.length_append]; show ys.length + 1 ≤ i + 1; omega, ?_, ?_⟩
      · rw [tk, if_pos hb]
        exact SqN.upd' ((sy.ex e6).app (.cons ha0 (x6 _ _ ha) (pa.ex x6) .nil)) ((sa.ex e6).app (.cons naD (x6 _ _ ha) (pa.ex x6) .nil)) (e6 _ _ hys)
      · rw [tk, if_pos hb]
        exact SqA.upd ((sa.ex e6).app (.cons naD (x6 _ _ ha) (pa.ex x6) .nil)) (e6 _ _ hys)
    | false =>
      have hb' : PyData.eqv (.list (rowsD n (adj l))) (.list (rowsD n tn)) = false := hb
      rw [if_neg (by rw [hb']; decide)]
      refine ⟨x6, ys, e6 _ _ hys, by omega, ?_, ?_⟩
      · rw [tk, hb, if_neg (by decide), List.append_nil]
        exact sy.ex e6
      · rw [tk, hb, if_neg (by decide), List.append_nil]
        exact sa.ex e6
  · rintro Hh ⟨x1, ys, hys, yl, sy, sa⟩
    rw [vl, List.take_length] at sy
    exact q D Hh ys (e5.trans x1) (fresh_back e5 hD) hys sy
/-- what is good, and least -/
theorem good_least {n : Nat} {es l : List Pr} {tn : Nat → List Nat} (ok : IsForest n es) (pm : ∀ i, (tn i).Perm (adj es i)) (hl : l ∈ (seqsOf es es.length).filter (goodB n tn)) (least : ∀ f ∈ (seqsOf es es.length).filter (goodB n tn), ltL f l = false) : LeastO es tn l := by
  have full : ∀ {o : List Pr}, o.Perm es → goodB n tn o = true → ∀ i, adj o i = tn i := fun {o} po h i => by
    by_cases lt : i < n
    · exact good_iff.mp h i lt
    · have e1 : adj es i = [] := adj_out ok.edges.inn (by omega)
      have e2 := pm i
      rw [e1] at e2
      rw [e2.eq_nil, adj_out (fun e he => ok.edges.inn e (po.mem_iff.mp he)) (by omega)]
  obtain ⟨h1, h2⟩ := List.mem_filter.mp hl
  have lp := seqs_perm h1
  refine ⟨lp, full lp h2, fun o po to => least o (List.mem_filter.mpr ⟨?_, good_iff.mpr fun i _ => to i⟩)⟩
  have := seqs_all ok.edges.nodup po es.length (by rw [po.length_eq]; exact Nat.le_refl _)
  rwa [List.take_of_length_le (by rw [po.length_eq]; exact Nat.le_refl _)] at this
theorem good_some {n : Nat} {es o : List Pr} {tn : Nat → List Nat} (ok : IsForest n es) (lo : LeastO es tn o) : (seqsOf es es.length).filter (goodB n tn) ≠ [] := fun z => by
  have : o ∈ (seqsOf es es.length).filter (goodB n tn) := by
    refine List.mem_filter.mpr ⟨?_, good_iff.mpr fun i _ => lo.trn i⟩
    have := seqs_all ok.edges.nodup lo.pm es.length (by rw [lo.pm.length_eq]; exact Nat.le_refl _)
    rwa [List.take_of_length_le (by rw [lo.pm.length_eq]; exact Nat.le_refl _)] at this
  rw [z] at this
  cases this
def spLaw (K : PySem.W.Frag) : Sp := fun vs H Q _ => ∃ (a : Addr) (ns : List Int), vs = [.ref a] ∧ SqL K H a (ns.map V.int) ∧ ns.length ≤ 63 ∧ ∀ H', Q (.bl true) H'
theorem ok_law {f fS fR fM fA fO fG fW fT fE : Addr} {fd fdS fdR fdM fdA fdO fdG fdW fdT fdE : FuncData} {k : Nat} (F : Fun K "law" "law" sLaw f fd)
    (GS : FnOk P w K mg base CX0 k fS fdS ["script", "k"] (spSource K)) (FS : Fun K "_law_source" "_law_source" sSource fS fdS) (bS : Binds K fdS ["script", "k"] []) (gS : mg "_law_source" = some (.ref fS))
    (GR : FnOk P w K mg base CX0 k fR fdR ["source", "most"] spGraph) (FR : Fun K "_law_graph" "_law_graph" sGraph fR fdR) (bR : Binds K fdR ["source", "most"] []) (gR : mg "_law_graph" = some (.ref fR))
    (GM : FnOk P w K mg base CX0 k fM fdM ["source", "graph"] spPerms) (FM : Fun K "_law_perms" "_law_perms" sPerms fM fdM) (bM : Binds K fdM ["source", "graph"] []) (gM : mg "_law_perms" = some (.ref fM))
    (GA : FnOk P w K mg base CX0 k fA fdA ["pairs"] spAllS) (FA : Fun K "_law_all_sequences" "_law_all_sequences" sAllS fA fdA) (bA : Binds K fdA ["pairs"] []) (gA : mg "_law_all_sequences" = some (.ref fA))
    (GO : FnOk P w K mg base CX0 k fO fdO ["size", "sequence"] spPo) (FO : Fun K "_law_perms_of" "_law_perms_of" sPo fO fdO) (bO : Binds K fdO ["size", "sequence"] []) (gO : mg "_law_perms_of" = some (.ref fO))
    (GG : FnOk P w K mg base CX0 k fG fdG ["graph", "perms"] spOT) (FG : Fun K "_law_greedy" "_law_greedy" sGreedy fG fdG) (bG : Binds K fdG ["graph", "perms"] []) (gG : mg "_law_greedy" = some (.ref fG))
    (GW : FnG P w K mg base k fW fdW ["graph", "perms", "due"] spRight) (FW : Fun K "_law_right" "_law_right" sRight fW fdW) (bW : Binds K fdW ["graph", "perms", "due"] []) (gW : mg "_law_right" = some (.ref fW))
    (GT : FnOk P w K mg base CX0 k fT fdT ["forest", "turns"] spOT) (FT : Fun K "order_of_turns" "order_of_turns" sOT fT fdT) (bT : Binds K fdT ["forest", "turns"] []) (gT : mg "order_of_turns" = some (.ref fT))
    (GE : FnOk P w K mg base CX0 k fE fdE ["found", "due"] (spSame 4)) (FE : Fun K "_law_same" "_law_same" sSame fE fdE) (bE : Binds K fdE ["found", "due"] []) (gE : mg "_law_same" = some (.ref fE))
    (mRange : mg "range" = none) (mMax : mg "max" = none) (mMin : mg "min" = none) (mLen : mg "len" = none) : FnG P w K mg base (k + 1) f fd ["script"] (spLaw K) := by
  refine okG F scLaw (fun vs H Q E h => ?_) (fun cdv A outer s0 H vs Q E gd hr h => ?_)
  · obtain ⟨a, ns, rfl, _⟩ := h
    rfl
  · obtain ⟨a, ns, rfl, hS, hlen, q⟩ := h
    refine ⟨_, (pss_cons (ps_for PassesOwn.never rfl (pi_range1 (by rfl) mRange (pa_cons (pe_callB (call_max2 rfl) (by rfl) mMax boot_max (pa_cons pe_int (pa_cons (pe_callB (call_min2 rfl) (by rfl) mMin boot_min (pa_cons pe_int (pa_cons (pe_callB call_len_seq (by rfl) mLen boot_len (pa_cons (pv 0) pa_nil)) pa_nil))) pa_nil))) pa_nil)) (pg_name (i := 1) scLaw.nd rfl (Or.inl rfl))
      (pss_cons (ps_set (i := 2) scLaw.nd rfl (.inl rfl) (pe_call GS hr (by rfl) gS FS.kp bS .nil pass0 (pa_cons (pv 0) (pa_cons (pv 1) pa_nil))))
      (pss_cons (ps_set (i := 3) scLaw.nd rfl (.inr rfl) (pe_call GR hr (by rfl) gR FR.kp bR .nil pass0 (pa_cons (pv 2) (pa_cons pe_int pa_nil))))
      (pss_cons (ps_set (i := 4) scLaw.nd rfl (.inr rfl) (pe_call GM hr (by rfl) gM FM.kp bM .nil pass0 (pa_cons (pv 2) (pa_cons (pv 3) pa_nil))))
      (pss_cons (ps_setLc (i := 5) (own := [("row", 9)]) (g := gName 9) (tt := (tTest (tOp (rEqD K) (tCall spPo [] E0 (tCons (tOp (rIxT K) (tVar 3) (tC (.int 0))) (tCons (tVar 9) tNil))) (tVar 4)))) (te := tVar 9) rfl scLaw.nd rfl rfl (sw_true rfl rfl rfl (by decide +kernel)) (pi_list (pe_call GA hr (by rfl) gA FA.kp bA .nil pass0 (pa_cons (pe_ix ix_tup (pv 3) pe_int (fun _ _ => rfl)) pa_nil))) (blkOk_by (N := ["script", "k", "source", "graph", "perms", "some", "leaf", "star", "told", "row"]) (sc := defScope sLaw) (by decide +kernel)) (fun _ _ _ _ _ => pg_name (i := 9) scLaw.nd rfl (Or.inl rfl)) (fun _ _ _ _ _ => pts_one (pt_cmpR (op_eqD hr.units) (pe_call GO hr (by rfl) gO FO.kp bO .nil pass0 (pa_cons (pe_ix ix_tup (pv 3) pe_int (fun _ _ => rfl)) (pa_cons (pv 9) pa_nil))) (pv 4) (by rfl))) (fun _ _ _ _ _ => (pv 9)))
      (pss_cons (ps_if (PW.pt (pw_or (pt_cmpR (op_neD hr.units) (pe_call GG hr (by rfl) gG FG.kp bG .nil pass0 (pa_cons (pv 3) (pa_cons (pv 4) pa_nil))) (pe_callB (cr_minL rfl hr.units) (by rfl) mMin boot_min (pa_cons (pv 5) pa_nil)) (nomark _)) (pw_or1 (pt_not (pt_val (pe_callG GW gd hr (by rfl) gW FW.kp bW (pa_cons (pv 3) (pa_cons (pv 4) (pa_cons (pe_callB (cr_minL rfl hr.units) (by rfl) mMin boot_min (pa_cons (pv 5) pa_nil)) pa_nil))))))))) pss_never pss_nil)
      (pss_cons (ps_set (i := 3) scLaw.nd rfl (.inr rfl) (pe_call GR hr (by rfl) gR FR.kp bR .nil pass0 (pa_cons (pv 2) (pa_cons pe_int pa_nil))))
      (pss_cons (ps_set (i := 4) scLaw.nd rfl (.inr rfl) (pe_call GM hr (by rfl) gM FM.kp bM .nil pass0 (pa_cons (pv 2) (pa_cons (pv 3) pa_nil))))
      (pss_one (ps_if (pt_not (pt_val (pe_callG GW gd hr (by rfl) gW FW.kp bW (pa_cons (pv 3) (pa_cons (pv 4) (pa_cons (pe_call GG hr (by rfl) gG FG.kp bG .nil pass0 (pa_cons (pv 3) (pa_cons (pv 4) pa_nil))) pa_nil)))))) pss_never pss_nil))))))))))
      (pss_cons (ps_set (i := 6) scLaw.nd rfl (.inl rfl) (pe_lst (pa_cons pe_int pa_nil)))
      (pss_cons (ps_set (i := 7) scLaw.nd rfl (.inl rfl) (pe_tup (pa_cons pe_int (pa_cons (pe_lst (pa_cons (pe_tup (pa_cons pe_int (pa_cons pe_int pa_nil))) (pa_cons (pe_tup (pa_cons pe_int (pa_cons pe_int pa_nil))) (pa_cons (pe_tup (pa_cons pe_int (pa_cons pe_int pa_nil))) pa_nil)))) pa_nil))))
      (pss_cons (ps_set (i := 8) scLaw.nd rfl (.inl rfl) (pe_call GT hr (by rfl) gT FT.kp bT .nil pass0 (pa_cons (pv 7) (pa_cons (pe_lst (pa_cons (pe_lst (pa_cons pe_int (pa_cons pe_int (pa_cons pe_int pa_nil)))) (pa_cons (pv 6) (pa_cons (pv 6) (pa_cons (pv 6) pa_nil))))) pa_nil))))
      (pss_one (ps_ret (pe_and (pe_call GE hr (by rfl) gE FE.kp bE .nil pass0 (pa_cons (pv 8) (pa_cons (pe_lst (pa_cons (pe_tup (pa_cons pe_int (pa_cons pe_int pa_nil))) (pa_cons (pe_tup (pa_cons pe_int (pa_cons pe_int pa_nil))) (pa_cons (pe_tup (pa_cons pe_int (pa_cons pe_int pa_nil))) pa_nil)))) pa_nil))) (pe_one (pe_cmpR (op_eqD hr.units) (pv 6) (pe_lst (pa_cons pe_int pa_nil)) (nomark _)))))))))), ?_⟩
    have hlen' : (ns.map V.int).length = ns.length := List.length_map ..
    refine q_forR1 (n := if (if ((ns.map V.int).length : Int) < 2 then ((ns.map V.int).length : Int) else 2) > 1 then (if ((ns.map V.int).length : Int) < 2 then ((ns.map V.int).length : Int) else 2) else 1)
      (ea_cons (ev_max ev_c (ev_min ev_c (ev_len (ev_var rfl) hS))) ea_nil) ⟨by split <;> (try split) <;> omega, by split <;> (try split) <;> omega⟩
      (fun i σ' H' => Ex H H' ∧ i ≤ 2 ∧ ∃ y1 y2 y3 y4 y5 y6 y7 y8 y9, σ' = [some (.ref a), y1, y2, y3, y4, y5, y6, y7, y8, y9]) (fun H1 e1 => ⟨e1, by omega, _, _, _, _, _, _, _, _, _, rfl⟩) ?_ ?_
    · rintro i σ' H1 hi ⟨e1, hi4, y1, y2, y3, y4, y5, y6, y7, y8, y9, rfl⟩
      have hi5 : i < 2 := by
        split at hi <;> (try split at hi) <;> omega
      -- source, graph, perms
      refine ⟨.ref a, rfl, .int (i : Int), rfl, a, ns, i, rfl, ex_l e1 hS, by omega, fun H2 s e2 ns1 src => ?_⟩
      refine ⟨.ref s, rfl, s, 7, 0, rfl, by decide, by decide, src, by decide, fun H3 gv n es d3 hg3 ok nm elt => ?_⟩
      obtain ⟨g, ge, xs, rfl, hg1, hg2, hgp⟩ := hg3
      have few6 : es.length ≤ 6 := by omega
      refine ⟨.ref s, rfl, .ref g, rfl, s, .ref g, n, 0 + 200, es, rfl, d3.src, by decide, ⟨g, ge, xs, rfl, hg1, hg2, hgp⟩, ok, fun H4 L as tn d4 hL h4 rw4 pm => ?_⟩
      have src3 := d3.src.at
      have D4 := d3.trans d4
      have cs : ∀ {c : Addr}, c ∈ as → c ≠ s := fun hc => new_apart src3 (rw4.new _ hc)
      have nL : L ∉ as := fun hm => by
        obtain ⟨j, hj⟩ := List.mem_iff_getElem?.mp hm
        have h1 := rw4.at' j _ hj
        rw [h4] at h1
        have h2 : as.map V.ref = nats (tn j) := by
          injection h1 with h1
          injection h1
        cases as with
        | nil => cases hm
        | cons c cs =>
          cases hz : tn j with
          | nil => rw [hz] at h2; cases h2
          | cons y ys => rw [hz] at h2; cases h2
      have g4 : H4 g = some (.tup [.int (n : Int), .ref ge]) := (hide_of (d4.kept _ _ hg1)).2
      have ge4 : H4 ge = some (.lst xs) := (hide_of (d4.kept _ _ hg2)).2
      have px4 : PrsV H4 xs es := (hgp.ex d4.kept).ex hide_up
      have nge : ge ∉ as := fun hm => by
        have := rw4.new _ hm
        rw [(hide_of hg2).2] at this
        cases this
      have r4 : RowsAt H4 L as n tn := ⟨h4, rw4.len, rw4.at'⟩
      have a4 : ∀ {b : Addr}, H4 b = none → b ∉ as := fun hb hm => by
        obtain ⟨j, hj⟩ := List.mem_iff_getElem?.mp hm
        have := rw4.at' j _ hj
        rw [hb] at this
        cases this
      -- some
      refine q_te (lc_good (K := K) (n := n) (tn := tn) rfl g4 ge4 px4 ok few6 r4 (fun _ => rfl) (fun _ => rfl) (fun _ => rfl) (fun _ => rfl) fun S H5 ys e5 hS5 h5 sn => ?_)
      -- greedy, min(some)
      refine ⟨.ref g, rfl, .ref L, rfl, .ref g, L, n, es, as, tn, rfl, ⟨g, ge, xs, rfl, e5 _ _ g4, e5 _ _ ge4, px4.ex e5⟩, ok, r4.ex e5, pm, fun H6 T o e6 hT ho lo => ?_⟩
      obtain ⟨_, xo, ee, hTx, pTx⟩ := ho
      cases ee
      have e56 := e5.trans e6
      refine ⟨.ref S, rfl, S, ys, _, rfl, e6 _ _ h5, (sn.ex e6).sq, good_some ok lo, fun iv v l hv hl hmin => ?_⟩
      have ll := good_least ok pm (List.mem_of_getElem? hl) hmin
      have eol := lo.one ll
      subst eol
      obtain ⟨l', b, ps, hl', hb0, rfl, hb, pb⟩ := SqN.get (sn.ex e6) hv
      rw [hl] at hl'
      cases hl'
      refine ⟨prsD o, prsD o, Dt.dp (.lst hTx pTx.dts), Dt.dp (.lst hb pb.dts), (sh_prsD o).shaped (by decide), (sh_prsD o).shaped (by decide), _, rfl, ?_⟩
      rw [(sh_prsD o).refl]
      refine iteF ?_
      refine ⟨.ref g, rfl, .ref L, rfl, .ref S, rfl, S, ys, _, rfl, e6 _ _ h5, (sn.ex e6).sq, good_some ok lo, fun iv' v' l' hv' hl' hmin' => ?_⟩
      have ll' := good_least ok pm (List.mem_of_getElem? hl') hmin'
      have eol' := ll'.one lo
      subst eol'
      obtain ⟨l2, b2, ps2, hl2, hb02, rfl, hb2, pb2⟩ := SqN.get (sn.ex e6) hv'
      rw [hl'] at hl2
      cases hl2
      refine ⟨g, ge, L, b2, n, xs, ps2, es, l', as, tn, rfl, e56 _ _ g4, e56 _ _ ge4, px4.ex e56, ok, r4.ex e56, rw4.nd, nL, nge, a4 hb02, pm, hb2, pb2, ll', fun H7 kp7 => ⟨true, rfl, iteF ?_⟩⟩
      have sas : s ∉ as := fun hm => cs hm rfl
      have new2 : ∀ c ∈ as, H2 c = none := fun c hc => d3.none src.at (rw4.new c hc)
      have D7 : Drew s (0 + 200 + 2400) H2 H7 := Drew.offs (D4.ex e56) new2 sas kp7
      -- the second graph
      refine ⟨.ref s, rfl, s, 40, 0 + 200 + 2400, rfl, by decide, by decide, D7.src, by decide, fun H8 gv n' es' d8 hg8 ok' _ _ => ?_⟩
      obtain ⟨g', ge', xs', rfl, hg1', hg2', hgp'⟩ := hg8
      refine ⟨.ref s, rfl, .ref g', rfl, s, .ref g', n', 0 + 200 + 2400 + 200, es', rfl, d8.src, by decide, ⟨g', ge', xs', rfl, hg1', hg2', hgp'⟩, ok', fun H9 L' as' tn' d9 hL' h9 rw9 pm' => ?_⟩
      have D8 := D7.trans d8
      have D9 := D8.trans d9
      have cs' : ∀ {c : Addr}, c ∈ as' → c ≠ s := fun hc => new_apart d8.src.at (rw9.new _ hc)
      have nL' : L' ∉ as' := fun hm => by
        obtain ⟨j, hj⟩ := List.mem_iff_getElem?.mp hm
        have h1 := rw9.at' j _ hj
        rw [h9] at h1
        have h2 : as'.map V.ref = nats (tn' j) := by
          injection h1 with h1
          injection h1
        cases as' with
        | nil => cases hm
        | cons c cs =>
          cases hz : tn' j with
          | nil => rw [hz] at h2; cases h2
          | cons y ys => rw [hz] at h2; cases h2
      have g9 : H9 g' = some (.tup [.int (n' : Int), .ref ge']) := (hide_of (d9.kept _ _ hg1')).2
      have ge9 : H9 ge' = some (.lst xs') := (hide_of (d9.kept _ _ hg2')).2
      have px9 : PrsV H9 xs' es' := (hgp'.ex d9.kept).ex hide_up
      have nge' : ge' ∉ as' := fun hm => by
        have := rw9.new _ hm
        rw [(hide_of hg2').2] at this
        cases this
      have r9 : RowsAt H9 L' as' n' tn' := ⟨h9, rw9.len, rw9.at'⟩
      refine ⟨.ref g', rfl, .ref L', rfl, .ref g', rfl, .ref L', rfl, .ref g', L', n', es', as', tn', rfl, ⟨g', ge', xs', rfl, g9, ge9, px9⟩, ok', r9, pm', fun Ha T' o' ea hT' ho' lo' => ?_⟩
      obtain ⟨_, xo', ee, hTx', pTx'⟩ := ho'
      cases ee
      have nT' : T' ∉ as' := fun hm => by
        obtain ⟨j, hj⟩ := List.mem_iff_getElem?.mp hm
        have := rw9.at' j _ hj
        rw [hT'] at this
        cases this
      refine ⟨g', ge', L', T', n', xs', xo', es', o', as', tn', rfl, ea _ _ g9, ea _ _ ge9, px9.ex ea, ok', r9.ex ea, rw9.nd, nL', nge', nT', pm', hTx', pTx', lo', fun Hb kpb => ⟨true, rfl, iteF ?_⟩⟩
      have sas' : s ∉ as' := fun hm => cs' hm rfl
      have new2' : ∀ c ∈ as', H2 c = none := fun c hc => D8.none src.at (rw9.new c hc)
      have Db : Drew s (0 + 200 + 2400 + 200 + 2400) H2 Hb := Drew.offs (D9.ex ea) new2' sas' kpb
      exact ⟨e1.trans (Drew.old e2 ns1 Db), by omega, _, _, _, _, _, _, _, _, _, rfl⟩
    · rintro σ' H1 ⟨e1, _, y1, y2, y3, y4, y5, y6, y7, y8, y9, rfl⟩
      refine q_asgL (xs := [.int 0]) (el_lst (ea_cons ev_c ea_nil) (by show 1 ≤ 100000; decide)) fun lf Ha hlf ea hla => ?_
      refine ⟨show 2 ≤ sizeLine by decide, fun t1 h1 => ?_⟩
      have k1 := Ex.new (o := .tup [.int 0, .int 1]) h1
      refine ⟨show 2 ≤ sizeLine by decide, fun t2 h2 => ?_⟩
      have k2 := Ex.new (o := .tup [.int 0, .int 2]) h2
      refine ⟨show 2 ≤ sizeLine by decide, fun t3 h3 => ?_⟩
      have k3 := Ex.new (o := .tup [.int 0, .int 3]) h3
      refine ⟨show 3 ≤ sizeLine by decide, fun le hle => ?_⟩
      have k4 := Ex.new (o := .lst [.ref t1, .ref t2, .ref t3]) hle
      refine ⟨show 2 ≤ sizeLine by decide, fun gg hgg => ?_⟩
      have k5 := Ex.new (o := .tup [.int 4, .ref le]) hgg
      refine ⟨.ref gg, rfl, show 3 ≤ sizeLine by decide, fun r1 hr1 => ?_⟩
      have k7 := Ex.new (o := .lst [.int 3, .int 1, .int 2]) hr1
      refine ⟨.ref lf, rfl, .ref lf, rfl, .ref lf, rfl, show 4 ≤ sizeLine by decide, fun tt htt => ?_⟩
      have k8 := Ex.new (o := .lst [.ref r1, .ref lf, .ref lf, .ref lf]) htt
      have k78 := k7.trans k8
      have k58 := k5.trans k78
      have k48 := k4.trans k58
      have k38 := k3.trans k48
      have k28 := k2.trans k38
      have k18 := k1.trans k28
      have lf8 := k18 _ _ hla
      refine ⟨.ref gg, tt, 4, [(0, 1), (0, 2), (0, 3)], [r1, lf, lf, lf], starT, rfl, ⟨gg, le, _, rfl, k78 _ _ upd_same, k58 _ _ upd_same, .cons ⟨t1, rfl, k28 _ _ upd_same⟩ (.cons ⟨t2, rfl, k38 _ _ upd_same⟩ (.cons ⟨t3, rfl, k48 _ _ upd_same⟩ .nil))⟩, star_ok, ⟨upd_same, rfl, fun i c h => ?_⟩, fun i => adj_perm star_perm i, fun Hz p o ez hp ho lo => ?_⟩
      · match i, h with
        | 0, h => cases h; exact k8 _ _ upd_same
        | 1, h => cases h; exact lf8
        | 2, h => cases h; exact lf8
        | 3, h => cases h; exact lf8
        | i + 4, h => simp at h
      have eo := star_one lo.pm lo.trn
      subst eo
      obtain ⟨_, xo, ee, hpx, ppx⟩ := ho
      cases ee
      refine ⟨.ref p, rfl, show 2 ≤ sizeLine by decide, fun u1 hu1 => ?_⟩
      have j1 := Ex.new (o := .tup [.int 0, .int 3]) hu1
      refine ⟨show 2 ≤ sizeLine by decide, fun u2 hu2 => ?_⟩
      have j2 := Ex.new (o := .tup [.int 0, .int 1]) hu2
      refine ⟨show 2 ≤ sizeLine by decide, fun u3 hu3 => ?_⟩
      have j3 := Ex.new (o := .tup [.int 0, .int 2]) hu3
      refine ⟨show 3 ≤ sizeLine by decide, fun u4 hu4 => ?_⟩
      have j4 := Ex.new (o := .lst [.ref u1, .ref u2, .ref u3]) hu4
      have j14 := j1.trans (j2.trans (j3.trans j4))
      have pu : PrsV _ [.ref u1, .ref u2, .ref u3] [(0, 3), (0, 1), (0, 2)] := .cons ⟨u1, rfl, (j2.trans (j3.trans j4)) _ _ upd_same⟩ (.cons ⟨u2, rfl, (j3.trans j4) _ _ upd_same⟩ (.cons ⟨u3, rfl, j4 _ _ upd_same⟩ .nil))
      refine ⟨.ref p, .ref u4, prsD [(0, 3), (0, 1), (0, 2)], rfl, .lst (j14 _ _ hpx) (ppx.ex j14).dts, .lst upd_same pu.dts, plain_prs 1 (by decide), fun Hy ey => ⟨true, rfl, ?_⟩⟩
      rw [if_pos rfl]
      refine ⟨.ref lf, rfl, show 1 ≤ sizeLine by decide, fun l3 hl3 => eqD_of (.lst ((ez.trans (j14.trans (ey.trans (Ex.new hl3)))) _ _ lf8) (dts_nats [0])) (.lst upd_same (dts_nats [0])) (sh_nats 0 [0]) (by decide) (q _)⟩
end
end K14
namespace K14
open PySem PySem.Spec PyProof.Rows L2 Os Evl
section
variable {l : PySem.W.OpenLaw} {w : World} {K : PySem.W.Frag} {h : Heap} {mg : Str → Option Value} {fa : Addr}
/-- a def that stands at the top -/
def Def (K : PySem.W.Frag) (x : Str) (st : Stmt) (f : Addr) : Prop :=
  PySem.W.nsIn K mainGlobals x = some (some (.ref f)) ∧ (∃ (oc kV dc pm cd ct : Value) (od an : Option Addr) (sl : Array (Option Value)), K.lookup f = some ⟨oc, od, .func (PySem.W.fnOf x x (defArgs st) (defBody st) (defScope st) .none kV dc pm an cd ct), sl⟩ ∧ PySem.W.codeIn K cd x = true) ∧ PySem.W.keepIn K (.ref f) = true
theorem Def.of {x : Str} {st : Stmt} {f : Addr} {oc kV dc pm cd ct : Value} {od an : Option Addr} {sl : Array (Option Value)} (a : PySem.W.nsIn K mainGlobals x = some (some (.ref f)))
    (lk : K.lookup f = some ⟨oc, od, .func (PySem.W.fnOf x x (defArgs st) (defBody st) (defScope st) .none kV dc pm an cd ct), sl⟩) (c : PySem.W.codeIn K cd x = true) (kp : PySem.W.keepIn K (.ref f) = true) : Def K x st f :=
  ⟨a, ⟨oc, kV, dc, pm, cd, ct, od, an, sl, lk, c⟩, kp⟩
theorem Def.fun_ {x : Str} {st : Stmt} {f : Addr} (d : Def K x st f) : ∃ fd, Fun K x x st f fd := by
  obtain ⟨_, ⟨oc, kV, dc, pm, cd, ct, od, an, sl, lk, c⟩, k⟩ := d
  exact ⟨_, fun_mk lk c k⟩
theorem all_mk (X : K.In h) (G : h.Ns mainGlobals mg) (hfa : mg "law" = some (.ref fa))
    {fInt fPos fEdge fAsc fCyc fForest fChkF fLists fIsTurn fIsTurns fChkT fLeast fOT fSource fPick fShuf fGraph fNear fPerms fPo fAllS fSame fGreedy fRight fLaw : Addr} {t_MOST_POSITIONS : Tok} (n_MOST_POSITIONS : PySem.W.nsIn K mainGlobals "MOST_POSITIONS" = some (some (.int 40 t_MOST_POSITIONS)))
    (dInt : Def K "is_integer" sInt fInt)
    (dPos : Def K "is_position" sPos fPos)
    (dEdge : Def K "is_edge" sEdge fEdge)
    (dAsc : Def K "_is_ascending" sAsc fAsc)
    (dCyc : Def K "_has_cycle" sCyc fCyc)
    (dForest : Def K "is_forest" sForest fForest)
    (dChkF : Def K "check_forest" sChkF fChkF)
    (dLists : Def K "neighbour_lists" sLists fLists)
    (dIsTurn : Def K "_is_turn" sIsTurn fIsTurn)
    (dIsTurns : Def K "is_turns" sIsTurns fIsTurns)
    (dChkT : Def K "check_turns" sChkT fChkT)
    (dLeast : Def K "_least_order" sLeast fLeast)
    (dOT : Def K "order_of_turns" sOT fOT)
    (dSource : Def K "_law_source" sSource fSource)
    (dPick : Def K "_law_pick" sPick fPick)
    (dShuf : Def K "_law_shuffle" sShuf fShuf)
    (dGraph : Def K "_law_graph" sGraph fGraph)
    (dNear : Def K "_law_near" sNear fNear)
    (dPerms : Def K "_law_perms" sPerms fPerms)
    (dPo : Def K "_law_perms_of" sPo fPo)
    (dAllS : Def K "_law_all_sequences" sAllS fAllS)
    (dSame : Def K "_law_same" sSame fSame)
    (dGreedy : Def K "_law_greedy" sGreedy fGreedy)
    (dRight : Def K "_law_right" sRight fRight)
    (aLaw : PySem.W.nsIn K mainGlobals "law" = some (some (.ref fLaw))) {oc kV dc pm cd ct : Value} {od an : Option Addr} {sl : Array (Option Value)} (lLaw : K.lookup fLaw = some ⟨oc, od, .func (PySem.W.fnOf "law" "law" (defArgs sLaw) (defBody sLaw) (defScope sLaw) .none kV dc pm an cd ct), sl⟩) (cLaw : PySem.W.codeIn K cd "law" = true) (kLaw : PySem.W.keepIn K (.ref fLaw) = true)
    (z_isinstance : PySem.W.nsIn K mainGlobals "isinstance" = some none) (z_int : PySem.W.nsIn K mainGlobals "int" = some none) (z_bool : PySem.W.nsIn K mainGlobals "bool" = some none) (z_tuple : PySem.W.nsIn K mainGlobals "tuple" = some none) (z_len : PySem.W.nsIn K mainGlobals "len" = some none) (z_list : PySem.W.nsIn K mainGlobals "list" = some none) (z_all : PySem.W.nsIn K mainGlobals "all" = some none) (z_zip : PySem.W.nsIn K mainGlobals "zip" = some none) (z_range : PySem.W.nsIn K mainGlobals "range" = some none) (z_max : PySem.W.nsIn K mainGlobals "max" = some none) (z_abs : PySem.W.nsIn K mainGlobals "abs" = some none) (z_min : PySem.W.nsIn K mainGlobals "min" = some none) (z_sorted : PySem.W.nsIn K mainGlobals "sorted" = some none) (z_str : PySem.W.nsIn K mainGlobals "str" = some none) (z_repr : PySem.W.nsIn K mainGlobals "repr" = some none) :
    ∃ fd : FuncData, (∀ (s : Shared) (v : Value), BindsTo s fd ⟨[v], []⟩ [("script", v)]) ∧ ∀ base : Heap, K.In base → base.Ns mainGlobals mg → FnG l.prog w K mg base 10 fa fd ["script"] (spLaw K) := by
  have e := hfa.symm.trans (PySem.W.mg_of X G aLaw)
  cases e
  have none' : ∀ {x : Str}, PySem.W.nsIn K mainGlobals x = some none → mg x = none := fun z => PySem.W.mg_none_of X G z
  have ref' : ∀ {x : Str} {f : Addr}, PySem.W.nsIn K mainGlobals x = some (some (.ref f)) → mg x = some (.ref f) := fun z => PySem.W.mg_of X G z
  obtain ⟨fdInt, FInt⟩ := dInt.fun_
  obtain ⟨fdPos, FPos⟩ := dPos.fun_
  obtain ⟨fdEdge, FEdge⟩ := dEdge.fun_
  obtain ⟨fdAsc, FAsc⟩ := dAsc.fun_
  obtain ⟨fdCyc, FCyc⟩ := dCyc.fun_
  obtain ⟨fdForest, FForest⟩ := dForest.fun_
  obtain ⟨fdChkF, FChkF⟩ := dChkF.fun_
  obtain ⟨fdLists, FLists⟩ := dLists.fun_
  obtain ⟨fdIsTurn, FIsTurn⟩ := dIsTurn.fun_
  obtain ⟨fdIsTurns, FIsTurns⟩ := dIsTurns.fun_
  obtain ⟨fdChkT, FChkT⟩ := dChkT.fun_
  obtain ⟨fdLeast, FLeast⟩ := dLeast.fun_
  obtain ⟨fdOT, FOT⟩ := dOT.fun_
  obtain ⟨fdSource, FSource⟩ := dSource.fun_
  obtain ⟨fdPick, FPick⟩ := dPick.fun_
  obtain ⟨fdShuf, FShuf⟩ := dShuf.fun_
  obtain ⟨fdGraph, FGraph⟩ := dGraph.fun_
  obtain ⟨fdNear, FNear⟩ := dNear.fun_
  obtain ⟨fdPerms, FPerms⟩ := dPerms.fun_
  obtain ⟨fdPo, FPo⟩ := dPo.fun_
  obtain ⟨fdAllS, FAllS⟩ := dAllS.fun_
  obtain ⟨fdSame, FSame⟩ := dSame.fun_
  obtain ⟨fdGreedy, FGreedy⟩ := dGreedy.fun_
  obtain ⟨fdRight, FRight⟩ := dRight.fun_
  have FLaw := fun_mk (st := sLaw) lLaw cLaw kLaw
  have bInt := FInt.binds (ps := ["thing"]) fun _ _ _ _ _ _ us hl => match us, hl with | [_], _ => rfl
  have bPos := FPos.binds (ps := ["n", "thing"]) fun _ _ _ _ _ _ us hl => match us, hl with | [_, _], _ => rfl
  have bEdge := FEdge.binds (ps := ["n", "thing"]) fun _ _ _ _ _ _ us hl => match us, hl with | [_, _], _ => rfl
  have bAsc := FAsc.binds (ps := ["edges"]) fun _ _ _ _ _ _ us hl => match us, hl with | [_], _ => rfl
  have bCyc := FCyc.binds (ps := ["n", "edges"]) fun _ _ _ _ _ _ us hl => match us, hl with | [_, _], _ => rfl
  have bForest := FForest.binds (ps := ["thing"]) fun _ _ _ _ _ _ us hl => match us, hl with | [_], _ => rfl
  have bChkF := FChkF.binds (ps := ["forest"]) fun _ _ _ _ _ _ us hl => match us, hl with | [_], _ => rfl
  have bLists := FLists.binds (ps := ["forest"]) fun _ _ _ _ _ _ us hl => match us, hl with | [_], _ => rfl
  have bIsTurn := FIsTurn.binds (ps := ["n", "nearby", "thing"]) fun _ _ _ _ _ _ us hl => match us, hl with | [_, _, _], _ => rfl
  have bIsTurns := FIsTurns.binds (ps := ["forest", "thing"]) fun _ _ _ _ _ _ us hl => match us, hl with | [_, _], _ => rfl
  have bChkT := FChkT.binds (ps := ["forest", "turns"]) fun _ _ _ _ _ _ us hl => match us, hl with | [_, _], _ => rfl
  have bLeast := FLeast.binds (ps := ["edges", "turns"]) fun _ _ _ _ _ _ us hl => match us, hl with | [_, _], _ => rfl
  have bOT := FOT.binds (ps := ["forest", "turns"]) fun _ _ _ _ _ _ us hl => match us, hl with | [_, _], _ => rfl
  have kOT := funRevK FOT (ps := ["forest", "turns"]) (ks := ["turns", "forest"]) (by decide) fun _ _ _ _ _ _ us hl => match us, hl with | [_, _], _ => rfl
  have bSource := FSource.binds (ps := ["script", "k"]) fun _ _ _ _ _ _ us hl => match us, hl with | [_, _], _ => rfl
  have bPick := FPick.binds (ps := ["source", "wide"]) fun _ _ _ _ _ _ us hl => match us, hl with | [_, _], _ => rfl
  have bShuf := FShuf.binds (ps := ["source", "values"]) fun _ _ _ _ _ _ us hl => match us, hl with | [_, _], _ => rfl
  have bGraph := FGraph.binds (ps := ["source", "most"]) fun _ _ _ _ _ _ us hl => match us, hl with | [_, _], _ => rfl
  have bNear := FNear.binds (ps := ["graph"]) fun _ _ _ _ _ _ us hl => match us, hl with | [_], _ => rfl
  have bPerms := FPerms.binds (ps := ["source", "graph"]) fun _ _ _ _ _ _ us hl => match us, hl with | [_, _], _ => rfl
  have bPo := FPo.binds (ps := ["size", "sequence"]) fun _ _ _ _ _ _ us hl => match us, hl with | [_, _], _ => rfl
  have bAllS := FAllS.binds (ps := ["pairs"]) fun _ _ _ _ _ _ us hl => match us, hl with | [_], _ => rfl
  have bSame := FSame.binds (ps := ["found", "due"]) fun _ _ _ _ _ _ us hl => match us, hl with | [_, _], _ => rfl
  have bGreedy := FGreedy.binds (ps := ["graph", "perms"]) fun _ _ _ _ _ _ us hl => match us, hl with | [_, _], _ => rfl
  have bRight := FRight.binds (ps := ["graph", "perms", "due"]) fun _ _ _ _ _ _ us hl => match us, hl with | [_, _, _], _ => rfl
  refine ⟨PySem.W.fnOf "law" "law" (defArgs sLaw) (defBody sLaw) (defScope sLaw) .none kV dc pm an cd ct, fun s v => .of_eq rfl, fun base _ _ => ?_⟩
  have GInt : FnOk l.prog w K mg base CX0 1 fInt fdInt ["thing"] spInt := ok_int FInt (none' z_isinstance) (none' z_int) (none' z_bool)
  have GPos : FnOk l.prog w K mg base CX0 2 fPos fdPos ["n", "thing"] spPos := ok_pos FPos (GInt.mono (by decide)) FInt bInt (ref' dInt.1)
  have GEdge : FnOk l.prog w K mg base CX0 3 fEdge fdEdge ["n", "thing"] spEdge := ok_edge FEdge (GPos.mono (by decide)) FPos bPos (ref' dPos.1) (none' z_isinstance) (none' z_tuple) (none' z_len)
  have GAsc : FnOk l.prog w K mg base CX0 1 fAsc fdAsc ["edges"] spAsc := ok_asc FAsc (none' z_all) (none' z_zip)
  have GCyc : FnOk l.prog w K mg base CX0 1 fCyc fdCyc ["n", "edges"] spCyc := ok_cyc FCyc (none' z_list) (none' z_range)
  have GForest : FnOk l.prog w K mg base CX0 4 fForest fdForest ["thing"] spForest := ok_forest FForest (GInt.mono (by decide)) FInt bInt (ref' dInt.1) (GEdge.mono (by decide)) FEdge bEdge (ref' dEdge.1) (GAsc.mono (by decide)) FAsc bAsc (ref' dAsc.1) (GCyc.mono (by decide)) FCyc bCyc (ref' dCyc.1) (none' z_isinstance) (none' z_tuple) (none' z_len) (none' z_list) (none' z_all) (PySem.W.mg_of X G n_MOST_POSITIONS)
  have GChkF : FnOk l.prog w K mg base CX0 5 fChkF fdChkF ["forest"] spChkF := ok_chkF FChkF (GForest.mono (by decide)) FForest bForest (ref' dForest.1)
  have GLists : FnOk l.prog w K mg base CX0 1 fLists fdLists ["forest"] spLists := ok_lists FLists (none' z_range)
  have GIsTurn : FnOk l.prog w K mg base CX0 3 fIsTurn fdIsTurn ["n", "nearby", "thing"] spIsTurn := ok_isturn FIsTurn (GPos.mono (by decide)) FPos bPos (ref' dPos.1) (none' z_isinstance) (none' z_list) (none' z_all) (none' z_sorted)
  have GIsTurns : FnOk l.prog w K mg base CX0 6 fIsTurns fdIsTurns ["forest", "thing"] spIsTurns := ok_isturns FIsTurns (GChkF.mono (by decide)) FChkF bChkF (ref' dChkF.1) (GLists.mono (by decide)) FLists bLists (ref' dLists.1) (GIsTurn.mono (by decide)) FIsTurn bIsTurn (ref' dIsTurn.1) (none' z_isinstance) (none' z_list) (none' z_all) (none' z_len) (none' z_zip)
  have GChkT : FnOk l.prog w K mg base CX0 7 fChkT fdChkT ["forest", "turns"] spChkT := ok_chkT FChkT (GIsTurns.mono (by decide)) FIsTurns bIsTurns (ref' dIsTurns.1)
  have GLeast : FnOk l.prog w K mg base CX0 1 fLeast fdLeast ["edges", "turns"] spLeast := ok_least FLeast (none' z_list) (none' z_min)
  have GOT : FnOk l.prog w K mg base CX0 8 fOT fdOT ["forest", "turns"] spOT := ok_ot FOT (GChkF.mono (by decide)) FChkF bChkF (ref' dChkF.1) (GChkT.mono (by decide)) FChkT bChkT (ref' dChkT.1) (GLeast.mono (by decide)) FLeast bLeast (ref' dLeast.1)
  have GSource : FnOk l.prog w K mg base CX0 1 fSource fdSource ["script", "k"] (spSource K) := ok_source FSource (none' z_len) (none' z_max) (none' z_abs)
  have GPick : FnOk l.prog w K mg base CX0 1 fPick fdPick ["source", "wide"] spPick := ok_pick FPick
  have GShuf : FnOk l.prog w K mg base CX0 2 fShuf fdShuf ["source", "values"] spShuf := ok_shuf FShuf (GPick.mono (by decide)) FPick bPick (ref' dPick.1) (none' z_list) (none' z_len) (none' z_range)
  have GGraph : FnOk l.prog w K mg base CX0 3 fGraph fdGraph ["source", "most"] spGraph := ok_graph FGraph (GPick.mono (by decide)) FPick bPick (ref' dPick.1) (GShuf.mono (by decide)) FShuf bShuf (ref' dShuf.1) (none' z_range) (none' z_list) (none' z_max) (none' z_min) (none' z_sorted)
  have GNear : FnOk l.prog w K mg base CX0 1 fNear fdNear ["graph"] spNear := ok_near FNear (none' z_range) (none' z_sorted)
  have GPerms : FnOk l.prog w K mg base CX0 3 fPerms fdPerms ["source", "graph"] spPerms := ok_perms FPerms (GNear.mono (by decide)) FNear bNear (ref' dNear.1) (GShuf.mono (by decide)) FShuf bShuf (ref' dShuf.1)
  have GPo : FnOk l.prog w K mg base CX0 1 fPo fdPo ["size", "sequence"] spPo := ok_po FPo (none' z_range)
  have GAllS : FnOk l.prog w K mg base CX0 1 fAllS fdAllS ["pairs"] spAllS := ok_allS FAllS (none' z_len) (none' z_range)
  have GSame : FnOk l.prog w K mg base CX0 4 fSame fdSame ["found", "due"] (spSame 4) := ok_same FSame bSame (ref' dSame.1) (none' z_isinstance) (none' z_list) (none' z_tuple) (none' z_bool) (none' z_str) (none' z_len) (none' z_all) (none' z_zip) 4
  have GGreedy : FnOk l.prog w K mg base CX0 1 fGreedy fdGreedy ["graph", "perms"] spOT := ok_greedy FGreedy (none' z_list) (none' z_len) (none' z_range) (none' z_min)
  have GRight : FnG l.prog w K mg base 9 fRight fdRight ["graph", "perms", "due"] spRight := ok_right FRight (GOT.mono (by decide)) FOT bOT kOT (ref' dOT.1) (GSame.mono (by decide)) FSame bSame (ref' dSame.1) (GPo.mono (by decide)) FPo bPo (ref' dPo.1) (GGreedy.mono (by decide)) FGreedy bGreedy (ref' dGreedy.1) (none' z_repr)
  exact ok_law FLaw (GSource.mono (by decide)) FSource bSource (ref' dSource.1) (GGraph.mono (by decide)) FGraph bGraph (ref' dGraph.1) (GPerms.mono (by decide)) FPerms bPerms (ref' dPerms.1) (GAllS.mono (by decide)) FAllS bAllS (ref' dAllS.1) (GPo.mono (by decide)) FPo bPo (ref' dPo.1) (GGreedy.mono (by decide)) FGreedy bGreedy (ref' dGreedy.1) (GRight.mono (by decide)) FRight bRight (ref' dRight.1) (GOT.mono (by decide)) FOT bOT (ref' dOT.1) (GSame.mono (by decide)) FSame bSame (ref' dSame.1) (none' z_range) (none' z_max) (none' z_min) (none' z_len)
end
end K14
open PySem PySem.W PyProof.Rows
set_option maxHeartbeats 0 in
theorem PySem.Challenge.cw_onceswapped_k14_least_order_of_turns_holds : PySem.Challenge.rw_onceswapped_k14_least_order_of_turns.Holds := by
  w_on; o_law; k_head; (case hw => w_witness2)
  k_fill
  refine Os.walk_ofG (l := PySem.Challenge.rw_onceswapped_k14_least_order_of_turns) (n := 63) (k := 10) (x := "script") (sp := fun w => K14.spLaw _) rfl (by decide) rfl ⟨rfl, by decide, by decide⟩ (fun w h Y => PySem.W.kIn_of Y) ?F (fun _ _ a ns hl _ hS => ⟨a, ns, rfl, hS, hl, fun _ => rfl⟩)
  case F =>
    intro w mg fa h KX G hmg
    refine' K14.all_mk KX G hmg ?nMOST_POSITIONS ?dInt ?dPos ?dEdge ?dAsc ?dCyc ?dForest ?dChkF ?dLists ?dIsTurn ?dIsTurns ?dChkT ?dLeast ?dOT ?dSource ?dPick ?dShuf ?dGraph ?dNear ?dPerms ?dPo ?dAllS ?dSame ?dGreedy ?dRight ?a13 ?l13 ?c13 ?k13 ?zisinstance ?zint ?zbool ?ztuple ?zlen ?zlist ?zall ?zzip ?zrange ?zmax ?zabs ?zmin ?zsorted ?zstr ?zrepr
    (case nMOST_POSITIONS => k_is)
    (case dInt => refine' K14.Def.of ?a ?l ?c ?k; (case a => k_is); (case l => k_is); (case c => k_is); (case k => k_is))
    (case dPos => refine' K14.Def.of ?a ?l ?c ?k; (case a => k_is); (case l => k_is); (case c => k_is); (case k => k_is))
    (case dEdge => refine' K14.Def.of ?a ?l ?c ?k; (case a => k_is); (case l => k_is); (case c => k_is); (case k => k_is))
    (case dAsc => refine' K14.Def.of ?a ?l ?c ?k; (case a => k_is); (case l => k_is); (case c => k_is); (case k => k_is))
    (case dCyc => refine' K14.Def.of ?a ?l ?c ?k; (case a => k_is); (case l => k_is); (case c => k_is); (case k => k_is))
    (case dForest => refine' K14.Def.of ?a ?l ?c ?k; (case a => k_is); (case l => k_is); (case c => k_is); (case k => k_is))
    (case dChkF => refine' K14.Def.of ?a ?l ?c ?k; (case a => k_is); (case l => k_is); (case c => k_is); (case k => k_is))
    (case dLists => refine' K14.Def.of ?a ?l ?c ?k; (case a => k_is); (case l => k_is); (case c => k_is); (case k => k_is))
    (case dIsTurn => refine' K14.Def.of ?a ?l ?c ?k; (case a => k_is); (case l => k_is); (case c => k_is); (case k => k_is))
    (case dIsTurns => refine' K14.Def.of ?a ?l ?c ?k; (case a => k_is); (case l => k_is); (case c => k_is); (case k => k_is))
    (case dChkT => refine' K14.Def.of ?a ?l ?c ?k; (case a => k_is); (case l => k_is); (case c => k_is); (case k => k_is))
    (case dLeast => refine' K14.Def.of ?a ?l ?c ?k; (case a => k_is); (case l => k_is); (case c => k_is); (case k => k_is))
    (case dOT => refine' K14.Def.of ?a ?l ?c ?k; (case a => k_is); (case l => k_is); (case c => k_is); (case k => k_is))
    (case dSource => refine' K14.Def.of ?a ?l ?c ?k; (case a => k_is); (case l => k_is); (case c => k_is); (case k => k_is))
    (case dPick => refine' K14.Def.of ?a ?l ?c ?k; (case a => k_is); (case l => k_is); (case c => k_is); (case k => k_is))
    (case dShuf => refine' K14.Def.of ?a ?l ?c ?k; (case a => k_is); (case l => k_is); (case c => k_is); (case k => k_is))
    (case dGraph => refine' K14.Def.of ?a ?l ?c ?k; (case a => k_is); (case l => k_is); (case c => k_is); (case k => k_is))
    (case dNear => refine' K14.Def.of ?a ?l ?c ?k; (case a => k_is); (case l => k_is); (case c => k_is); (case k => k_is))
    (case dPerms => refine' K14.Def.of ?a ?l ?c ?k; (case a => k_is); (case l => k_is); (case c => k_is); (case k => k_is))
    (case dPo => refine' K14.Def.of ?a ?l ?c ?k; (case a => k_is); (case l => k_is); (case c => k_is); (case k => k_is))
    (case dAllS => refine' K14.Def.of ?a ?l ?c ?k; (case a => k_is); (case l => k_is); (case c => k_is); (case k => k_is))
    (case dSame => refine' K14.Def.of ?a ?l ?c ?k; (case a => k_is); (case l => k_is); (case c => k_is); (case k => k_is))
    (case dGreedy => refine' K14.Def.of ?a ?l ?c ?k; (case a => k_is); (case l => k_is); (case c => k_is); (case k => k_is))
    (case dRight => refine' K14.Def.of ?a ?l ?c ?k; (case a => k_is); (case l => k_is); (case c => k_is); (case k => k_is))
    (case a13 => k_is); (case l13 => k_is); (case c13 => k_is); (case k13 => k_is)
    (case zisinstance => k_is); (case zint => k_is); (case zbool => k_is); (case ztuple => k_is); (case zlen => k_is); (case zlist => k_is); (case zall => k_is); (case zzip => k_is); (case zrange => k_is); (case zmax => k_is); (case zabs => k_is); (case zmin => k_is); (case zsorted => k_is); (case zstr => k_is); (case zrepr => k_is)
