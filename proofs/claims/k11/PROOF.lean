import PyProof.Rows.All
import Wide.All
import OpenK.AllK
import Wide.FinOn
import HandS.ForMost
import HandS.Wide
import HandS.IsInst
import HandS.Strs
import PyProof.ReprRoads
import PyProof.StrBlock2
import HandS.Evl
import HandS.Walk
import HandS.Conv
import HandS.Style
import HandS.TupSets
import PyProof.P3Eq
import PyProof.StrLawsRepr
import PyProof.Rows.StrCase
import PyProof.Rows.TmSorted
import HandS.Zip
import HandS.SortInts
import HandS.Deep
import HandS.List
import KE.DataMinMax
import KE.DataFind
import PyProof.ListStr
import PySem.Challenge.RW_onceswapped_k11_what_are_turns
set_option Elab.async false
set_option linter.all false
set_option maxRecDepth 100000
set_option maxHeartbeats 8000000
/-! guarded defs: a def's promise where no repr is under way (what repr of a list asks) -/
namespace Os
open PySem PySem.Spec PyProof.Rows L2

section
variable (P : Program) (w : World) (K : PySem.W.Frag) (mg : Str → Option Value) (base : Heap)
/-- the def at f keeps sp at every call that is made while no repr runs -/
structure FnG (k : Nat) (f : Addr) (fd : FuncData) (ps : List Str) (sp : Sp) : Prop where
  arity : ∀ vs H Q E, sp vs H Q E → vs.length = ps.length
  runs : ∀ (B : Around) (out : List Env) (st : Shared) (H : Hp) (ar : Args) (us : List Value) (vs : List V) (Q : VK) (E : XK),
    B.guards = some [] → Room k B → Env0 P w K mg base B out st H →
    BindsTo st fd ar (ps.zip us) → Vals vs us → sp vs H Q E →
    codeAny (model P w) B (.call (.ref f) ar) (CR CX0 out P w H st Q E) st
end

section
variable {P : Program} {w : World} {K : PySem.W.Frag} {mg : Str → Option Value} {base : Heap}

theorem FnG.of {k : Nat} {f : Addr} {fd : FuncData} {ps : List Str} {sp : Sp}
    (F : FnOk P w K mg base CX0 k f fd ps sp) : FnG P w K mg base k f fd ps sp :=
  ⟨F.len, fun B out st H ar us vs Q E _ => F.run B out st H ar us vs Q E⟩

theorem FnG.mono {j k : Nat} {f : Addr} {fd : FuncData} {ps : List Str} {sp : Sp} (F : FnG P w K mg base j f fd ps sp) (h : j ≤ k) : FnG P w K mg base k f fd ps sp :=
  ⟨F.arity, fun B out st H ar us vs Q E gd hr => F.runs B out st H ar us vs Q E gd (hr.mono h)⟩
/-- the rule for a def, the guards told to its body -/
theorem okG {x qual : Str} {st : Stmt} {f : Addr} {fd : FuncData} {N ps : List Str} {k : Nat} {sp : Sp}
    (F : Fun K x qual st f fd) (S : FnScope N ps (defScope st))
    (ar : ∀ vs H Q E, sp vs H Q E → vs.length = ps.length)
    (body : ∀ (cdv : Value) (B : Around) (out : List Env) (s : Shared) (H : Hp) (vs : List V) (Q : VK) (E : XK),
      B.guards = some [] → Room k (B.deeper (envOfC qual (defScope st) s.heap.objs.size f cdv)) → sp vs H Q E →
      ∃ t, PSs (cxOf CX0 P w K mg base N qual (defScope st) f cdv B out s H E).nox (defBody st) t ∧
        t { nx := fun _ H' => Q .non H', rt := Q } (start N vs) H) :
    FnG P w K mg base (k + 1) f fd ps sp := by
  obtain ⟨oc, od, kV, doc, pm, an, cd, ct, sl, efd, look, code⟩ := F.ex
  subst efd
  refine ⟨ar, ?_⟩
  intro B out s H args us vs Q E gd hr e0 hb rel hsp
  have hlen := ar _ _ _ _ hsp
  have inK : K.In s.heap := e0.mod.kin.keeps fun b o q => (e0.bs b o q).1
  have lim : s.heap.NoLimit :=
    e0.mod.nolimit.keeps fun b o q => (e0.bs b o q).1
  have kinds : ∀ y ∈ ps.zip us, (defScope st).names.lookup y.1 = some .local ∨
      ((defScope st).names.lookup y.1 = some .cell ∧ ((cellsFrom (s.heap.objs.size + 1) (defScope st).names []).lookup y.1).isSome = true) := by
    rintro ⟨n, v⟩ hy
    cases S.par n (List.of_mem_zip hy).1 with
    | inl q => exact .inl q
    | inr q => exact .inr ⟨q, PySem.W.cellsFrom_some _ _ _ (.inl q)⟩
  refine codeAny_call_function hr.depth (inK _ _ look) rfl S.co S.gen rfl (PySem.W.codeRec_of inK code) (hb _ _ _ _ ?_)
  refine wpAny_newFunctionEnv_cells S.kind kinds fun env ee s1 x => ?_
  cases ee
  refine ⟨lim.keeps x.toInCall.keep, codeAny_func ?_⟩
  obtain ⟨t, ht, hq⟩ := body cd B out s H vs Q E gd (hr.deeper _) hsp
  have I := inv_start (CX := CX0) (E := E) S hr.hd e0 hlen rel x
  refine wpAny_mono (ht.nox.run [] s1 (start N vs) H _ I hq) (fun fl s' hs => ?_) (fun _ _ z => z)
  cases fl with
  | ret u =>
    obtain ⟨v, sg, H', J, rv, q⟩ := hs
    exact ⟨v, H', J.os, J.bare, J.base, J.hok, rv, q⟩
  | next =>
    obtain ⟨sg, H', J, q⟩ := hs
    exact ⟨V.non, H', J.os, J.bare, J.base, J.hok, rfl, q⟩
  | brk => exact (hs.elim fun _ z => z.elim fun _ z => z.2).elim
  | cont => exact (hs.elim fun _ z => z.elim fun _ z => z.2).elim
end

section
variable {X : Cx} {k : Nat} {f : Addr} {fd : FuncData} {ps : List Str} {sp : Sp} {x : Str} {p pos : Pos} {e : Expr} {es : List Expr} {t : TA}
/-- a call of such a def -/
theorem pe_callG (F : FnG X.prog X.w X.K X.mg X.base k f fd ps sp) (gd : X.A.guards = some []) (hr : Room k X.A) (hg : Gl X x)
    (hm : X.mg x = some (.ref f)) (hk : PySem.W.keepIn X.K (.ref f) = true) (hb : Binds X.K fd ps [])
    (ha : PA X (e :: es) t) (hdb : (x == ("__debug__" : Str)) = false := by decide)
    (he : starEach (e :: es) X.env = (false, eval e X.env) :: starEach es X.env := by rfl)
    (hpl : (backTo pos (starEach es X.env)).any (·.1) = false := by rfl) :
    PE X (.Call (.Name x p) (e :: es) [] pos) (tCall sp [] E0 t) := by
  constructor
  intro pins s sg H Q I h
  refine wpAny_Call_Name_kw (ld_glob I hg hm ?_ hdb)
  refine PySem.W.callWith_K (h₀ := X.base) I.ok.mod.kin hk (thn (ha.run pos pins s sg H _ I h) ?_) he hpl
  rintro us s1 ⟨vs, H1, I1, r, q⟩
  refine ⟨I1.kIn, ?_⟩
  have r2 : Vals (vs ++ []) (us ++ []) := r.append .nil
  have hl : (us ++ []).length = ps.length := by
    rw [← r2.length]
    exact F.arity _ _ _ _ q
  refine wpAny_call (codeAny_mono (F.runs X.A X.stack s1 H1 ⟨us, []⟩ (us ++ []) (vs ++ []) Q E0 gd hr I1.env0 (hb s1 us I1.kIn hl) r2 q) ?_)
  intro rr s' hq
  match rr, hq with
  | .ok (.ret u), hq => exact I1.after hq
  | .ok .next, hq => exact hq.elim
  | .ok .brk, hq => exact hq.elim
  | .ok .cont, hq => exact hq.elim
  | .error _, hq => exact hq.elim
end

section
variable {P : Program} {w : World} {K : PySem.W.Frag} {mg mb : Str → Option Value} {k : Nat} {fa a : Addr} {fd : FuncData} {x : Str} {sp : Sp} {s1 : Shared} {vs : List Value} {ns : List Int}
/-- the heap that tracks at most the script -/
structure Bare (K : PySem.W.Frag) (a : Addr) (o : Obj) (h : Heap) (H : Hp) : Prop where
  only : Only H
  at' : ∀ b, H b ≠ none → b = a
  out : H a ≠ none → K.lookup a = none
theorem Bare.stay {o : Obj} {h : Heap} {H : Hp} (B : Bare K a o h H) (ho : h.get? a = some o) {b : Addr} {q : Obj} (e : h.get? b = some q) (no : b = a → q ≠ o) : H b = none :=
  Decidable.byContradiction fun z => by
    have eb := B.at' b z
    rw [eb, ho] at e
    exact no eb (Option.some.inj e).symm
theorem law_run (KX : K.In s1.heap) (hns : s1.heap.Ns mainGlobals mg) (hb : s1.heap.Ns builtinsNs mb)
    (hbb : ∀ x : Str, x ≠ "__name__" → mb x = bootBuiltins x) (hlim : s1.heap.NoLimit) (hg : s1.gens = #[])
    (ha : s1.heap.get? a = some { cls := .type "list", data := .seq vs.toArray }) {H : Hp} (B : Bare K a { cls := .type "list", data := .seq vs.toArray } s1.heap H)
    (ok : HOk P w H s1.heap) (hr : Room k callerA)
    (F : ∀ base : Heap, K.In base → base.Ns mainGlobals mg → FnG P w K mg base k fa fd [x] sp)
    (hbind : ∀ (s : Shared) (u : Value), BindsTo s fd ⟨[u], []⟩ [(x, u)])
    (hsp : sp [.ref a] H (fun v _ => v = .bl true) fun _ _ _ => False) :
    codeAny (model P w) callerA (.call (.ref fa) ⟨[.ref a], []⟩)
      (fun r s' => r = .ok (.ret (.bool true)) ∧ OldK s1.heap s'.heap ∧ s'.os = s1.os ∧ AllBare s'.gens) s1 := by
  have dictStays : ∀ {b : Addr} {m : Str → Option Value}, s1.heap.Ns b m → (hidT s1.heap H).Ns b m := by
    rintro b m ⟨o, es, ep, e, d, r⟩
    refine ⟨o, es, ep, hidT_get e (B.stay ha e fun _ z => ?_), d, r⟩
    subst z
    exact nomatch (show Data.seq vs.toArray _ = Data.dict es ep from d)
  have keptK : K.In (hidT s1.heap H) := fun b o e => hidT_get (KX b o e) <| Decidable.byContradiction fun z => by
    have eb := B.at' b z
    subst eb
    have := B.out z
    rw [e] at this
    cases this
  have M : Mod K mg (hidT s1.heap H) := by
    obtain ⟨mc, h1, h2⟩ := hlim
    exact ⟨keptK, dictStays hns, ⟨mb, dictStays hb, hbb⟩, ⟨mc, dictStays h1, h2⟩⟩
  have e0 : Env0 P w K mg (hidT s1.heap H) callerA [] s1 H := {
    frames := rfl, mod := M, bs := fun b o e => of_hidT e, bsz := Nat.le_of_eq (hidT_size _ _), funs := trivial,
    frf := fun b z => absurd (show b ∈ ([] : List Addr) from z) (by simp), hok := ok, bare := .of_eq hg }
  refine codeAny_mono ((F _ keptK (dictStays hns)).runs callerA [] s1 H ⟨[.ref a], []⟩ [.ref a] [.ref a] _ _ rfl hr e0 (hbind s1 (.ref a)) (.cons rfl .nil) hsp) ?_
  intro r s' hq
  match r, hq with
  | .error _, hq => exact hq.elim
  | .ok .next, hq => exact hq.elim
  | .ok .brk, hq => exact hq.elim
  | .ok .cont, hq => exact hq.elim
  | .ok (.ret u), ⟨v, H', os, bare, un, ok', r', q⟩ =>
    have q1 : v = .bl true := q
    subst q1
    have ru : u = Value.bool true := r'
    subst ru
    refine ⟨rfl, OldK.of_keep fun b o e => ?_, os, bare⟩
    rcases B.only b with z | ⟨ob, xs, z⟩
    · exact un.keep b o e z (fun y => absurd (show b ∈ ([] : List Addr) from y) (by simp)) (by simp)
    · have e1 := (ok b _ z).1
      have e2 := (ok' b _ (un.frzs b ob _ z)).1
      rw [e] at e1
      rw [e2, e1]
theorem law_callG (KX : K.In s1.heap) (hns : s1.heap.Ns mainGlobals mg) (hb : s1.heap.Ns builtinsNs mb)
    (hbb : ∀ x : Str, x ≠ "__name__" → mb x = bootBuiltins x) (hlim : s1.heap.NoLimit) (hg : s1.gens = #[])
    (ha : s1.heap.get? a = some { cls := .type "list", data := .seq vs.toArray }) (hi : IntsAre vs ns) (hl : ns.length ≤ sizeLine) (hr : Room k callerA)
    (F : ∀ base : Heap, K.In base → base.Ns mainGlobals mg → FnG P w K mg base k fa fd [x] sp)
    (hbind : ∀ (s : Shared) (u : Value), BindsTo s fd ⟨[u], []⟩ [(x, u)])
    (hsp : ∀ H : Hp, Only H → SqL K H a (ns.map V.int) → sp [.ref a] H (fun v _ => v = .bl true) fun _ _ _ => False) :
    codeAny (model P w) callerA (.call (.ref fa) ⟨[.ref a], []⟩)
      (fun r s' => r = .ok (.ret (.bool true)) ∧ OldK s1.heap s'.heap ∧ s'.os = s1.os ∧ AllBare s'.gens) s1 := by
  have rv : Vals (ns.map V.int) vs := vals_ints hi
  have hlen : vs.length = ns.length := hi.length
  by_cases hk : ∃ o, K.lookup a = some o
  · obtain ⟨o, hk⟩ := hk
    have e := KX a o hk
    rw [ha] at e
    have eo := Option.some.inj e
    subst eo
    have hO : Only (fun _ => none) := fun _ => .inl rfl
    refine law_run KX hns hb hbb hlim hg ha (H := fun _ => none) ⟨hO, fun b z => absurd rfl z, fun z => absurd rfl z⟩ (fun b u z => nomatch (show (none : Option HO) = some u from z)) hr F hbind (hsp _ hO ?_)
    exact .inr ⟨_, vs.toArray, _, hk, rfl, rfl, rfl, by rw [List.size_toArray, hlen]; exact hl, by simpa using rv⟩
  · have hk0 : K.lookup a = none := Option.eq_none_iff_forall_ne_some.mpr fun o q => hk ⟨o, q⟩
    let H1 : Hp := upd (fun _ => none) a (.frz { cls := .type "list", data := .seq vs.toArray } (.lst (ns.map V.int)))
    have at1 : ∀ b, H1 b ≠ none → b = a := fun b z => Decidable.byContradiction fun n => z (upd_ne n)
    have hO : Only H1 := fun b => by
      by_cases n : b = a
      · exact .inr ⟨_, _, by rw [n]; exact upd_same⟩
      · exact .inl (upd_ne n)
    refine law_run KX hns hb hbb hlim hg ha (H := H1) ⟨hO, at1, fun _ => hk0⟩ (fun b u z => ?_) hr F hbind (hsp _ hO (.inl (.inr ⟨_, upd_same⟩)))
    have eb := at1 b (by rw [z]; exact fun q => nomatch q)
    subst eb
    have z2 : some (HO.frz { cls := .type "list", data := .seq vs.toArray } (.lst (ns.map V.int))) = some u := upd_same.symm.trans z
    cases z2
    exact ⟨ha, by rw [List.length_map]; exact hl, vs, _, rv, ha⟩

/-- the goal that k_head leaves, from the law's guarded promise -/
theorem walk_ofG {l : PySem.W.OpenLaw} {n k : Nat} {q : Program} {loose : List Str} {XP : (Str → Option Value) → Heap → Prop} {YP : World → Heap → Prop}
    {d : DefRec} {K : Params → PySem.W.Frag} {sp : World → Sp} {x : Str}
    (hn : l.most = some n) (hn2 : n ≤ sizeLine) (hdf : d.params.defaults = []) (hr : Room k callerA)
    (hY : ∀ (w : World) (h : Heap), YP w h → (K w.params).In h)
    (F : ∀ (w : World) (mg : Str → Option Value) (fa : Addr) (h : Heap), (K w.params).In h → h.Ns mainGlobals mg → mg d.name = some (.ref fa) →
      ∃ fd : FuncData, (∀ (s : Shared) (u : Value), BindsTo s fd ⟨[u], []⟩ [(x, u)]) ∧
        ∀ base : Heap, (K w.params).In base → base.Ns mainGlobals mg → FnG l.prog w (K w.params) mg base k fa fd [x] (sp w))
    (hsp : ∀ (w : World) (H : Hp) (a : Addr) (ns : List Int), ns.length ≤ n → Only H → SqL (K w.params) H a (ns.map V.int) →
      sp w [.ref a] H (fun v _ => v = .bl true) fun _ _ _ => False) :
    PySem.W.WalkO q loose XP YP l.row.toRowW d [] (fun f vs => PySem.call f vs) :=
  Att.attach_call hn hdf fun w s₀ s₁ mg mb fa o pm cd doc a vs ns G Y ho hd hcd hmg hobj hints hlen hg =>
    have KX := hY w _ Y
    match F w mg fa _ KX G.T.g hmg with
    | ⟨_, hb, hF⟩ => law_callG KX G.T.g G.T.b G.T.builtins G.T.nolimit hg hobj hints (Nat.le_trans hlen hn2) hr hF hb
        (fun H hO hS => hsp w H a ns hlen hO hS)
end

/-! ### a call by keywords alone, in the opposite order of the parameters -/
def revG (us ws : List Value) : List Value := match us with
  | [] => ws.reverse
  | _ => []
def revV (us ws : List V) : List V := match us with
  | [] => ws.reverse
  | _ => []
theorem Vals.rev : ∀ {vs : List V} {us : List Value}, Vals vs us → Vals vs.reverse us.reverse
  | _, _, .nil => .nil
  | _, _, .cons r t => by
    rw [List.reverse_cons, List.reverse_cons]
    exact Vals.append (Vals.rev t) (.cons r .nil)
theorem revK {K : PySem.W.Frag} {fd : FuncData} {ps ks : List Str} (hp : ps ≠ []) (h : ∀ ws : List Value, ws.length = ps.length → bindArgs fd ⟨[], ks.zip ws⟩ = pure (ps.zip ws.reverse)) : KBinds K fd ps ks revG revV where
  to := fun s us ws _ hl => by
    cases us with
    | nil => exact .of_eq (h ws (by rw [← hl]; exact (List.length_reverse).symm))
    | cons u us =>
      have hl' : ([] : List Value).length = ps.length := hl
      exact absurd (List.length_eq_zero_iff.mp hl'.symm) hp
  rel := fun {vs us zs ws} r1 r2 => by
    cases r1 with
    | nil => exact Vals.rev r2
    | cons _ _ => exact .nil
theorem funRevK {K : PySem.W.Frag} {x qual : Str} {st : Stmt} {f : Addr} {fd : FuncData} {ps ks : List Str} (F : Fun K x qual st f fd) (hp : ps ≠ [])
    (h : ∀ (kV doc pm : Value) (an : Option Addr) (cdv ct : Value) (ws : List Value), ws.length = ps.length →
      bindArgs (PySem.W.fnOf x qual (defArgs st) (defBody st) (defScope st) .none kV doc pm an cdv ct) ⟨[], ks.zip ws⟩ = pure (ps.zip ws.reverse)) : KBinds K fd ps ks revG revV := by
  obtain ⟨oc, od, kV, doc, pm, an, cd, ct, sl, efd, look, code⟩ := F.ex
  subst efd
  exact revK hp (h kV doc pm an cd ct)
section
variable {X : Cx} {CX : CXT} {k : Nat} {f : Addr} {fd : FuncData} {ps ks : List Str} {sp : Sp} {E : XK} {x : Str} {p pos : Pos} {kws : List Keyword} {tk : TA} {g : List Value → List Value → List Value} {gV : List V → List V → List V}
theorem pe_callK0 (F : FnOk X.prog X.w X.K X.mg X.base CX k f fd ps sp) (hr : Room k X.A) (hg : Gl X x) (hm : X.mg x = some (.ref f)) (hk : PySem.W.keepIn X.K (.ref f) = true)
    (hb : KBinds X.K fd ps ks g gV) (hx : Passes CX X E) (hkw : PK X kws tk)
    (hall : (backToKw pos (keywordEach kws X.env)).all (·.1.isSome) = true := by rfl)
    (hks : (backToKw pos (keywordEach kws X.env)).filterMap (·.1) = ks := by rfl)
    (hdb : (x == ("__debug__" : Str)) = false := by decide)
    (hpl : ((backTo pos (starEach [] X.env)).any (·.1) || (backToKw pos (keywordEach kws X.env)).any (·.1.isNone)) = false := by rfl) :
    PE X (.Call (.Name x p) [] kws pos) (tCallK sp gV E tNil tk) := by
  constructor
  intro pins s sg H Q I h
  refine wpAny_Call_Name_kw (ld_glob I hg hm ?_ hdb)
  refine PySem.W.callWith_KW0 (h₀ := X.base) I.ok.mod.kin hk hall (thn (hkw.run pos pins s sg H _ I h) ?_) hpl
  rintro ws s2 ⟨zs, H2, I2, rz, q2⟩
  refine ⟨I2.kIn, ?_⟩
  rw [hks]
  exact run_fnk (us := []) (vs := []) F hr hb hx I2 .nil rz q2
end
end Os
/-! further rules by values: ** of great ints, repr of data, len(set(texts)), text * int, a call by keywords alone -/
namespace Os
open PySem PySem.Spec PyProof.Rows L2

/-! ### great powers -/
section
variable {X : Cx}
theorem op_powW : OpR X (binaryOp .Pow) (rI (fun i j => 0 ≤ j ∧ (Builtin.Int.intBits i : Int) * j ≤ 2 ^ 27) fun i j => .int (i ^ j.toNat)) :=
  opI fun _ _ _ _ _ _ _ hc q => pow_int hc.1 hc.2 q
end
theorem cube_ok {i : Int} {n : Nat} (h : i.natAbs < 2 ^ n) (h0 : 0 < n) (hn : n ≤ 1000000) : (0 : Int) ≤ 3 ∧ (Builtin.Int.intBits i : Int) * 3 ≤ 2 ^ 27 := by
  have hl := PySem.Flt.log2_lt_of h0 h
  have hb : Builtin.Int.intBits i ≤ i.natAbs.log2 + 1 := by
    unfold Builtin.Int.intBits
    split <;> omega
  omega

/-! ### text * int -/
section
variable {X : Cx}
def rMulS : R2 := fun x y H Q => ∃ (z : Str) (n : Int), x = .str z ∧ y = .int n ∧ MulOk z n ∧ Q (.str (Txt.mul z n)) H
theorem op_mulS : OpR X (binaryOp .Mult) rMulS := by
  intro pins s sg H x y v u Q I rx ry h
  obtain ⟨z, n, rfl, rfl, ok, q⟩ := h
  obtain ⟨t, rfl⟩ := rx
  obtain ⟨t', rfl⟩ := ry
  exact PySem.SB.mul ok fun t2 k => ⟨.str _, H, I.tok _, ⟨_, rfl⟩, q⟩
theorem mul_small {z : Str} {n : Int} (h0 : 0 ≤ n) (h1 : n ≤ 1000) (hz : z.length ≤ 1000) : MulOk z n := by
  refine ⟨?_, fun h _ => ?_, fun h _ => ?_⟩
  · rw [decide_eq_false (by omega), decide_eq_false (by omega)]
    rfl
  · have hn : 0 < n := by omega
    have : (1000 : Int) ≤ (2 ^ 63 - 1) / n := (Int.le_ediv_iff_mul_le hn).mpr (by omega)
    omega
  · have hm : z.length * n.toNat ≤ 1000 * 1000 := Nat.mul_le_mul hz (by omega)
    unfold Builtin.Str.tooLong
    have hl : (1000 * 1000 : Nat) ≤ sizeLine := by decide
    simp only [decide_eq_false_iff_not]
    omega
end

/-! ### data that stands in the tracked heap -/
mutual
inductive Dt (H : Hp) : V → PyData → Prop
  | non : Dt H .non .none
  | bl (b : Bool) : Dt H (.bl b) (.bool b)
  | int (i : Int) : Dt H (.int i) (.int i)
  | str (x : Str) : Dt H (.str x) (.str x)
  | lst {a : Addr} {xs : List V} {ds : List PyData} : H a = some (.lst xs) → Dts H xs ds → Dt H (.ref a) (.list ds)
  | tup {a : Addr} {xs : List V} {ds : List PyData} : H a = some (.tup xs) → Dts H xs ds → Dt H (.ref a) (.tuple ds)
inductive Dts (H : Hp) : List V → List PyData → Prop
  | nil : Dts H [] []
  | cons {v : V} {vs : List V} {d : PyData} {ds : List PyData} : Dt H v d → Dts H vs ds → Dts H (v :: vs) (d :: ds)
end
section
variable {H H' : Hp}
mutual
theorem Dt.same (e : Same H H') : ∀ {d : PyData} {v : V}, Dt H v d → Dt H' v d
  | _, _, .non => .non
  | _, _, .bl b => .bl b
  | _, _, .int i => .int i
  | _, _, .str x => .str x
  | _, _, .lst h t => .lst (e _ _ h) (Dts.same e t)
  | _, _, .tup h t => .tup (e _ _ h) (Dts.same e t)
theorem Dts.same (e : Same H H') : ∀ {ds : List PyData} {vs : List V}, Dts H vs ds → Dts H' vs ds
  | _, _, .nil => .nil
  | _, _, .cons h t => .cons (Dt.same e h) (Dts.same e t)
end
mutual
theorem Dt.dp {K : PySem.W.Frag} : ∀ {d : PyData} {v : V}, Dt H v d → Dp K H v d
  | _, _, .non => .non
  | _, _, .bl b => .bl b
  | _, _, .int i => .int i
  | _, _, .str x => .str x
  | _, _, .lst h t => .lst (.inl (.inl h)) (Dts.dp t)
  | _, _, .tup h t => .tup (.inl (.inl h)) (Dts.dp t)
theorem Dts.dp {K : PySem.W.Frag} : ∀ {ds : List PyData} {vs : List V}, Dts H vs ds → DpAll K H vs ds
  | _, _, .nil => .nil
  | _, _, .cons h t => .cons (Dt.dp h) (Dts.dp t)
end
theorem Dts.length : ∀ {ds : List PyData} {vs : List V}, Dts H vs ds → vs.length = ds.length
  | _, _, .nil => rfl
  | _, _, .cons _ t => congrArg (· + 1) (Dts.length t)
theorem Dts.get : ∀ {ds : List PyData} {vs : List V} {i : Nat} {v : V}, Dts H vs ds → vs[i]? = some v → ∃ d, ds[i]? = some d ∧ Dt H v d
  | _, _, _, _, .nil, e => by simp at e
  | _, _, 0, _, .cons h _, e => by simp at e; subst e; exact ⟨_, rfl, h⟩
  | _, _, i + 1, v, .cons _ t, e => by
    obtain ⟨d, h1, h2⟩ := Dts.get (i := i) (v := v) t (by simpa using e)
    exact ⟨d, by simpa using h1, h2⟩
end

/-! ### repr of such data -/
section
variable {X : Cx}
/-- how large data is when it is shown -/
structure Fit (n : Nat) (d : PyData) : Prop where
  long : d.shown.length ≤ n
  deep : d.depth ≤ 40
  show' : d.showable = true
  flat : d.hasDict = false
def rRepr : List V → Hp → VK → Prop := fun xs H Q => ∃ (x : V) (d : PyData), xs = [x] ∧ Dt H x d ∧ Fit sizeLine d ∧ Q (.str d.shown) H
theorem call_repr (gd : X.A.guards = some []) (hu : X.A.units + 64 < cLine) : CallR X (.builtin "repr") rRepr := by
  intro pins s sg H xs us Q I r h
  obtain ⟨x, d, e, hd, fit, q⟩ := h
  subst e
  obtain ⟨u, rfl, ru⟩ := Vals.one r
  have line : d.shown.length ≤ sizeLine := fit.long
  match d, x, hd with
  | _, _, .non =>
    cases ru
    exact PySem.P.repr_of_none ⟨.str _, H, I.tok _, ⟨_, rfl⟩, by simpa only [PyData.shown] using q⟩
  | _, _, .bl b =>
    cases ru
    exact PySem.P.repr_of_bool ⟨.str _, H, I.tok _, ⟨_, rfl⟩, by simpa only [PyData.shown] using q⟩
  | _, _, .int i =>
    obtain ⟨t, rfl⟩ := ru
    have hz : i.natAbs.log2 < 1920 := of_decide_eq_true (by simpa only [PyData.showable] using fit.show')
    exact PySem.P.repr_of_int hz ⟨.str _, H, I.tok _, ⟨_, rfl⟩, by simpa only [PyData.shown] using q⟩
  | _, _, .str z =>
    obtain ⟨t, rfl⟩ := ru
    exact PySem.P.repr_of_str ⟨.str _, H, I.tok _, ⟨_, rfl⟩, by simpa only [PyData.shown] using q⟩ (by simpa only [PyData.shown] using line)
  | _, _, .lst ha ht =>
    obtain ⟨as, rd⟩ := Dp.reads I _ _ u (Dt.dp (.lst ha ht)) ru
    cases ru
    refine PySem.repr_of_reads' rd fit.show' (PyData.noDict_hsm fit.flat) gd (by have := fit.deep; omega) (fun _ _ z => z) (fun h' u' tk k => ?_) line
    exact ⟨.str _, H, I.kept k, ⟨_, rfl⟩, q⟩
  | _, _, .tup ha ht =>
    obtain ⟨as, rd⟩ := Dp.reads I _ _ u (Dt.dp (.tup ha ht)) ru
    cases ru
    refine PySem.repr_of_reads' rd fit.show' (PyData.noDict_hsm fit.flat) gd (by have := fit.deep; omega) (fun _ _ z => z) (fun h' u' tk k => ?_) line
    exact ⟨.str _, H, I.kept k, ⟨_, rfl⟩, q⟩
end
end Os
/-! len(set(xs)), xs a list of texts of any number below 4000 -/
namespace Os
open PySem PySem.Spec PyProof.Rows L2

/-- the texts met so far, each once -/
def once : List Str → List Str
  | [] => []
  | x :: r => if x ∈ once r then once r else x :: once r
/-- the same from the left, over the first i of them -/
def met (xs : List Str) (i : Nat) : List Str := once (xs.take i).reverse
theorem met_zero (xs : List Str) : met xs 0 = [] := rfl
theorem met_succ {xs : List Str} {i : Nat} {x : Str} (h : xs[i]? = some x) : met xs (i + 1) = if x ∈ met xs i then met xs i else x :: met xs i := by
  unfold met
  rw [List.take_add_one, h]
  show once ((xs.take i ++ [x]).reverse) = _
  rw [List.reverse_append]
  rfl
theorem once_mem : ∀ {l : List Str} {x : Str}, x ∈ once l ↔ x ∈ l
  | [], _ => Iff.rfl
  | y :: r, x => by
    have ih := @once_mem r
    unfold once
    split
    · rename_i hy
      rw [ih, List.mem_cons]
      exact ⟨.inr, fun z => z.elim (fun e => by rw [e]; exact ih.mp hy) id⟩
    · rw [List.mem_cons, List.mem_cons, ih]
theorem once_le : ∀ l : List Str, (once l).length ≤ l.length
  | [] => Nat.le_refl _
  | y :: r => by
    have ih := once_le r
    unfold once
    split
    · exact Nat.le_succ_of_le ih
    · exact Nat.succ_le_succ ih
theorem once_nodup : ∀ l : List Str, (once l).length = l.length ↔ l.Nodup
  | [] => ⟨fun _ => .nil, fun _ => rfl⟩
  | y :: r => by
    have ih := once_nodup r
    have le := once_le r
    unfold once
    rw [List.nodup_cons]
    split
    · rename_i hy
      constructor
      · intro e
        rw [List.length_cons] at e
        omega
      · intro e
        exact absurd (once_mem.mp hy) e.1
    · rename_i hy
      rw [List.length_cons, List.length_cons]
      constructor
      · intro e
        exact ⟨fun z => hy (once_mem.mpr z), ih.mp (Nat.succ.inj e)⟩
      · intro e
        rw [ih.mpr e.2]
theorem met_le (xs : List Str) (i : Nat) : (met xs i).length ≤ i := by
  refine Nat.le_trans (once_le _) ?_
  rw [List.length_reverse, List.length_take]
  exact Nat.min_le_left _ _
theorem met_all (xs : List Str) : (met xs xs.length).length = xs.length ↔ xs.Nodup := by
  unfold met
  rw [List.take_length]
  have := once_nodup xs.reverse
  rw [List.length_reverse] at this
  rw [this]
  unfold List.Nodup
  rw [List.pairwise_reverse]
  exact ⟨fun h => h.imp fun a => a.symm, fun h => h.imp fun a => a.symm⟩

section
variable {prog : Program} {w : World} {A : Around} {R : Result → Shared → Prop} {I : Addr} {fp wr : List Addr} {G : Array GenState → Array GenState → Prop} {n : Nat} {P : Nat → Value → Prop} {St : Nat → Shared → Prop}
/-- what the set at S holds behind i turns -/
abbrev Holds (prog : Program) (w : World) (xs : List Str) (S : Addr) (i : Nat) (h : Heap) : Prop :=
  h.SetOf (PySem.strKind prog w) S (fun k => decide (k ∈ met xs i)) (met xs i).length
theorem set_fill (W : WalksS prog w A.in1 I fp wr G n P St) (S : Addr) (out : S ∉ fp) (xs : List Str)
    (ln : xs.length = n) (val : ∀ i v, P i v → ∃ x t, xs[i]? = some x ∧ v = .str x t) (room : n + 1 < scanBound) :
    ∀ (left i : Nat) (s : Shared), i + left = n → St i s → Holds prog w xs S i s.heap →
      (∀ s', Moved (S :: wr) G s s' → Holds prog w xs S n s'.heap → R (.ok (.ret .none)) s') →
      codeAny (model prog w) A (.builtin "set.update.loop" ⟨[.ref S, .ref I], []⟩) R s := by
  have noS : S ∉ wr := fun z => out (W.sub _ z)
  have more : ∀ b ∈ wr, b ∈ S :: wr := fun _ z => List.mem_cons_of_mem _ z
  have carried : ∀ {i : Nat} {s s' : Shared}, Moved wr G s s' → Holds prog w xs S i s.heap → Holds prog w xs S i s'.heap := by
    rintro i s s' mv ⟨o, es, ep, t, ho, rest⟩
    exact ⟨o, es, ep, t, mv.heap S _ noS ho, rest⟩
  intro left
  induction left with
  | zero =>
    intro i s e st hS fin
    have ein : i = n := e
    subst ein
    refine codeAny_builtin PyProof.Rows.F.entry_set_update_loop ?_
    rw [Around.under_plainId PyProof.Rows.F.plain_set_update_loop _]
    refine wpAny_bind (m := pyNext (.ref I)) (W.done s _ _ st fun s' mv => ?_)
    exact wpAny_pure (fin s' (mv.mono more) (carried mv hS))
  | succ left ih =>
    intro i s e st hS fin
    have lt : i < n := by omega
    refine codeAny_builtin PyProof.Rows.F.entry_set_update_loop ?_
    rw [Around.under_plainId PyProof.Rows.F.plain_set_update_loop _]
    refine wpAny_bind (m := pyNext (.ref I)) (W.item i s _ _ lt st fun v s' hP st' mv => ?_)
    obtain ⟨x, t, hx, ev⟩ := val i v hP
    subst ev
    have hS1 := carried mv hS
    show wpAny _ A.in1 (holding [Value.str x t] (setAdd S (.str x t)) >>= _) _ _ s'
    refine wpAny_bind (wpAny_holding ?_)
    unfold setAdd
    refine wpAny_holding (wpAny_bind ((PySem.strKind prog w).pyHash (k := x) (strKind_is _ _ _ _) ?_))
    have fits : (met xs i).length + 1 < scanBound := by
      have := met_le xs i
      omega
    refine wpAny_setAddHashed_of (knd := PySem.strKind prog w) (s := { s' with toks := s'.toks + 1 }) (strKind_is _ _ _ _) rfl hS1 fits fun h' same hS2 => ?_
    have hS3 : Holds prog w xs S (i + 1) h' := by
      refine PyProof.Rows.SetOf_congr hS2 (fun k => ?_) ?_
      · rw [met_succ hx]
        by_cases m : x ∈ met xs i
        · rw [if_pos m]
          by_cases ek : k = x
          · subst ek
            simp [m]
          · simp [ek]
        · rw [if_neg m]
          by_cases ek : k = x
          · subst ek
            simp
          · simp [ek]
      · rw [met_succ hx]
        by_cases m : x ∈ met xs i
        · simp [m]
        · simp [m]
    refine wpAny_pure ⟨plainId_quiet PyProof.Rows.F.plain_set_update_loop _, ih (i + 1) _ (by omega) (W.frame _ s' _ _ st' (Nat.le_succ _) fun b hb o q => ?_) hS3 fun s2 mv2 hS4 => ?_⟩
    · rw [same.2 b (fun z : b = S => out (by rw [← z]; exact hb))]
      exact q
    · refine fin s2 (Moved.trans W.gtrans ((mv.mono more).then_heap (Nat.le_succ _) fun b o hb q => ?_) mv2) hS4
      rw [same.2 b (fun z : b = S => hb (by rw [z]; exact List.mem_cons_self))]
      exact q
end

section
variable {prog : Program} {w : World} {A : Around} {E : Value → Shared → Prop} {s : Shared}
/-- a new set -/
abbrev freshSet (led : Bool) : Obj := { cls := .type "set", dict := none, data := .set #[] 0 (.fresh 0 0 led) }
/-- its __init__ over a list of texts -/
theorem init_set_strs {l : Addr} {items : Array Value} {xs : List Str} {led : Bool} {R : Result → Shared → Prop} (hh : A.handled = none)
    (hl : s.heap.IsList l items) (hi : PyProof.Rows.StrsAre items.toList xs) (room : xs.length + 1 < scanBound)
    (h : ∀ (h' : Heap) (tk : Nat), Holds prog w xs s.heap.objs.size xs.length h' →
      (∀ b o, b < s.heap.objs.size → s.heap.get? b = some o → h'.get? b = some o) → R (.ok (.ret .none)) { s with heap := h', toks := tk }) :
    wpAny (model prog w) A.in1 (Builtin.«set.__init__» ⟨[.ref s.heap.objs.size, .ref l], []⟩) (fun fin s' => match fin with
        | .done f => R (.ok f) s'
        | .again c => c.quiet = true ∧ codeAny (model prog w) A c R s')
      (fun e s' => R (.error e) s') { s with heap := s.heap.push (freshSet led) } := by
  obtain ⟨⟨_, od, _, osl⟩, hol, rfl, nl, rfl⟩ := hl
  have there : (s.heap.push (freshSet led)).get? l = some ⟨.type "list", od, .seq items nl, osl⟩ := Heap.get?_push_of_some _ hol
  have newAt : (s.heap.push (freshSet led)).get? s.heap.objs.size = some (freshSet led) := Heap.get?_push_size _ rfl
  have lst1 : (s.heap.push (freshSet led)).IsList l items := ⟨_, there, rfl, nl, rfl⟩
  have hT : Shared.TypeIs { s with heap := s.heap.push (freshSet led) } (.ref s.heap.objs.size) "set" := ⟨_, newAt, rfl⟩
  have subS := PySem.F.sub_list_set
  have subF := PySem.F.sub_list_frozenset
  have notD : (Value.type "list" == Value.type "dict") = false := by decide
  unfold Builtin.«set.__init__» noKeywords Builtin.Frozenset.updateFrom
  generalize hPI : pyIter = PI
  wp_walk
  subst hPI
  refine wpAny_pyIter_list lst1 ?_
  refine wpAny_bind (wpAny_runValue ?_)
  have lS : l < s.heap.objs.size := Heap.lt_size hol
  have hh2 : A.in1.in1.handled = none := by simp [hh]
  have apart : l ≠ (s.heap.push (freshSet led)).objs.size := by
    rw [Heap.size_push]
    exact Nat.ne_of_lt (Nat.lt_succ_of_lt lS)
  have outer : s.heap.objs.size ∉ [(s.heap.push (freshSet led)).objs.size, l] := by
    rw [Heap.size_push]
    intro z
    rcases List.mem_cons.mp z with z | z
    · exact absurd z (Nat.ne_of_lt (Nat.lt_succ_self _))
    · exact absurd (List.mem_singleton.mp z) (Nat.ne_of_gt lS)
  have hsz : xs.length = items.size := by rw [← StrsAre.len_eq hi, Array.length_toList]
  have vals : ∀ (i : Nat) (v : Value), items[i]? = some v → ∃ x t, xs[i]? = some x ∧ v = .str x t := fun i v hv => by
    rw [← Array.getElem?_toList] at hv
    obtain ⟨t, e⟩ := SS.strs_at hi i v hv
    have lt : i < xs.length := by
      rw [← StrsAre.len_eq hi]
      exact (List.getElem?_eq_some_iff.mp hv).1
    refine ⟨xs[i], t, List.getElem?_eq_getElem lt, ?_⟩
    rw [e, List.getD_eq_getElem?_getD, List.getElem?_eq_getElem lt]
    rfl
  refine set_fill ((Walks.list hh2 _ l apart items).toS) s.heap.objs.size outer xs hsz vals (by rw [← hsz]; exact room) items.size 0 _ (Nat.zero_add _)
    ?start ?first ?last
  case start => exact ⟨⟨_, Heap.get?_push_size _ rfl, rfl, rfl⟩, (lst1.push _)⟩
  case first =>
    refine PyProof.Rows.SetOf_congr ((PyProof.Rows.setObjOf_fresh (knd := PySem.strKind prog w) led).setOf (Heap.get?_push_of_some _ newAt) (by unfold scanBound; omega)) (fun k => ?_) rfl
    rw [met_zero]
    rfl
  case last =>
    intro s' mv hS
    obtain ⟨h', g', d', tk', os'⟩ := s'
    have e1 : g' = s.gens := mv.gens
    have e2 : d' = s.drawn := mv.drawn
    have e3 : os' = s.os := mv.os
    subst e1 e2 e3
    show wpAny _ _ _ _ _ _
    refine wpAny_pure ?_
    refine wpAny_pure (h h' tk' (by rw [hsz]; exact hS) fun b o hb q => ?_)
    refine mv.heap b o (fun z => ?_) (Heap.get?_push_of_some _ (Heap.get?_push_of_some _ q))
    rcases List.mem_cons.mp z with z | z
    · exact absurd z (Nat.ne_of_lt hb)
    · rw [List.mem_singleton, Heap.size_push] at z
      exact absurd z (Nat.ne_of_lt (Nat.lt_succ_of_lt hb))

/-- set(xs), xs a list of texts -/
theorem call_set_strs {l : Addr} {items : Array Value} {xs : List Str} {Q : Value → Shared → Prop} (hh : A.handled = none)
    (hl : s.heap.IsList l items) (hi : PyProof.Rows.StrsAre items.toList xs) (room : xs.length + 1 < scanBound)
    (h : ∀ (h' : Heap) (tk : Nat), Holds prog w xs s.heap.objs.size xs.length h' →
      (∀ b o, b < s.heap.objs.size → s.heap.get? b = some o → h'.get? b = some o) → Q (.ref s.heap.objs.size) { s with heap := h', toks := tk }) :
    wpAny (model prog w) A (call (.type "set") [.ref l]) Q E s := by
  obtain ⟨c, tl, mro⟩ := PySem.F.called_set.mro
  have made := PySem.F.called_set.made
  have sub := PySem.F.called_set.sub
  have noTy := PySem.F.called_set.notType
  have creates := PySem.F.called_set.canCreate
  have typeCall := PySem.F.typeCall_set_1 (.ref l)
  refine wpAny_call (codeAny_of_tree ?_)
  show wpAny _ _ (callAny (.type "set") _) _ _ _
  refine wpAny_pure ⟨Code.quiet_builtin _ (by decide +kernel), codeAny_builtin PySem.F.entry_type_call ?_⟩
  rw [Around.under_plain (weight_type_call_type "set" [.ref l] []) rfl]
  repeat (any_goals (first | assumption | wp_step))
  refine codeAny_mono (code_set_new_1 (.ref l) (E := E) (Q₁ := fun v s₁ => ∃ led : Bool, v = .ref s.heap.objs.size ∧ s₁ = { s with heap := s.heap.push (freshSet led) }) fun led => ⟨led, rfl, rfl⟩) ?_
  intro r s1 hr
  match r, hr with
  | .error _, hr => exact hr
  | .ok .next, hr => exact hr.elim
  | .ok .brk, hr => exact hr.elim
  | .ok .cont, hr => exact hr.elim
  | .ok (.ret v), ⟨led, ev, es⟩ =>
    subst ev es
    have newAt : (s.heap.push (freshSet led)).get? s.heap.objs.size = some (freshSet led) := Heap.get?_push_size _ rfl
    have hT : Shared.TypeIs { s with heap := s.heap.push (freshSet led) } (.ref s.heap.objs.size) "set" := ⟨_, newAt, rfl⟩
    have initLook := PySem.F.called_set.init.lookup
    have initBind := PySem.F.called_set.init.bind (.ref s.heap.objs.size)
    repeat (any_goals (first | assumption | wp_step))
    refine codeAny_mono (codeAny_call_builtin (R := wants (fun v s2 => v = .none ∧ ∃ h' tk, s2 = { s with heap := h', toks := tk } ∧ Holds prog w xs s.heap.objs.size xs.length h' ∧
      (∀ b o, b < s.heap.objs.size → s.heap.get? b = some o → h'.get? b = some o)) E) PySem.F.called_set.init.plain PySem.F.entry_set_init (check_set_init_1 hT (init_set_strs (by simp [hh]) hl hi room fun h' tk a b => ⟨rfl, h', tk, rfl, a, b⟩))) ?_
    intro r2 s2 hr2
    match r2, hr2 with
    | .error _, hr2 => exact hr2
    | .ok .next, hr2 => exact hr2.elim
    | .ok .brk, hr2 => exact hr2.elim
    | .ok .cont, hr2 => exact hr2.elim
    | .ok (.ret v2), ⟨ev2, h', tk, es2, a, b⟩ =>
      subst ev2 es2
      repeat (any_goals (first | assumption | wp_step))
      exact h _ _ a b
end

/-- len(set(xs)) -/
def tLenSetS (K : PySem.W.Frag) (ta : TE) : TE := fun σ H Q => ta σ H fun x H1 => ∃ (l : Addr) (xs : List Str), x = .ref l ∧ SqL K H1 l (xs.map V.str) ∧ xs.length ≤ 4000 ∧ Q (.int (met xs xs.length).length) H1
theorem pe_lenSetS {X : Cx} {a : Expr} {ta : TE} {p p2 q pos : Pos} (hg : Gl X "len") (hm : X.mg "len" = none) (hg2 : Gl X "set") (hm2 : X.mg "set" = none) (ha : PE X a ta) (hc : X.calm = true := by rfl)
    (na : starEach [a] X.env = (false, eval a X.env) :: starEach [] X.env := by rfl) : PE X (.Call (.Name "len" p) [.Call (.Name "set" p2) [a] [] q] [] pos) (tLenSetS X.K ta) := by
  constructor
  intro pins s sg H Q I h
  refine Call_ (ld_blt I hg hm boot_len ?_)
  refine PyProof.Rows.callWith_builtin1 (PyProof.Rows.args_cons ?_ rfl) rfl rfl
  refine Call_ (ld_blt I hg2 hm2 boot_set ?_)
  refine PyProof.Rows.callWith_type1 (PyProof.Rows.args_cons (thn (ha.run pins s sg H _ I h) ?_) na) na rfl
  rintro v s1 ⟨x, H1, I1, r1, l, xs, ex, hq, hl, q1⟩
  refine PyProof.Rows.args_nil ?_
  subst ex
  cases r1
  obtain ⟨its, r, pl, hz⟩ := I1.list hq
  refine call_set_strs (I1.ok.hd hc) pl.isList (by simpa using Vals.strs r) (by unfold scanBound; omega) fun h' tk hS hk => ?_
  refine PyProof.Rows.args_nil ?_
  obtain ⟨o, es, ep, t, ho, hex, hd, _, _, _, hf, hn⟩ := hS
  have I2 : Inv X pins sg H1 { s1 with heap := h', toks := tk } := I1.kept fun b o e => hk b o (Heap.lt_size e) e
  have small : (met xs xs.length).length ≤ 4000 := Nat.le_trans (met_le xs _) hl
  exact call_len_set ho hex hd hf (by rw [hn]; omega) ⟨.int (met xs xs.length).length, H1, I2.tok _, ⟨_, by rw [hn]⟩, q1⟩
end Os
namespace Os
open PySem PySem.Spec PyProof.Rows L2

/-! ### kinds of data -/
def tyName : PyData → String
  | .none => "NoneType"
  | .bool _ => "bool"
  | .int _ => "int"
  | .str _ => "str"
  | .list _ => "list"
  | .tuple _ => "tuple"
  | .dict _ => "dict"
def isStrD : PyData → Bool
  | .str _ => true
  | _ => false
def isListD : PyData → Bool
  | .list _ => true
  | _ => false
def isTupD : PyData → Bool
  | .tuple _ => true
  | _ => false
theorem kit_str (d : PyData) : kitB (tyName d) "str" = some (isStrD d) := by
  cases d <;> (simp only [tyName, isStrD, isListD, isTupD]; decide +kernel)
theorem kit_list (d : PyData) : kitB (tyName d) "list" = some (isListD d) := by
  cases d <;> (simp only [tyName, isStrD, isListD, isTupD]; decide +kernel)
theorem kit_tup (d : PyData) : kitB (tyName d) "tuple" = some (isTupD d) := by
  cases d <;> (simp only [tyName, isStrD, isListD, isTupD]; decide +kernel)
section
variable {H H' : Hp} {v : V} {d : PyData} {K : PySem.W.Frag}
theorem Dt.ty (h : Dt H v d) : TyOf K H v (.type (tyName d)) := by
  cases h with
  | non => exact .non
  | bl b => exact .bl b
  | int i => exact .int i
  | str x => exact .str x
  | lst ha _ => exact .lst ha
  | tup ha _ => exact .tup ha
theorem isi_of {T : String} {b : Bool} {Q : VK} (h : Dt H v d) (e : kitB (tyName d) T = some b) (q : Q (.bl b) H) : rIsi K [v, .ty T] H Q :=
  ⟨v, .ty T, _, _, b, rfl, .ty T, .base h.ty, kit_ty e, q⟩
theorem Dt.str_or (h : Dt H v d) : (∃ z, v = .str z ∧ d = .str z) ∨ isStrD d = false := by
  cases h with
  | str x => exact .inl ⟨x, rfl, rfl⟩
  | _ => exact .inr rfl
theorem Dt.list_or (h : Dt H v d) : (∃ a xs ds, v = .ref a ∧ H a = some (.lst xs) ∧ Dts H xs ds ∧ d = .list ds) ∨ isListD d = false := by
  cases h with
  | lst ha t => exact .inl ⟨_, _, _, rfl, ha, t, rfl⟩
  | _ => exact .inr rfl
theorem Dt.tup_or (h : Dt H v d) : (∃ a xs ds, v = .ref a ∧ H a = some (.tup xs) ∧ Dts H xs ds ∧ d = .tuple ds) ∨ isTupD d = false := by
  cases h with
  | tup ha t => exact .inl ⟨_, _, _, rfl, ha, t, rfl⟩
  | _ => exact .inr rfl
end
/-! ### heaps but for one address -/
/-- H without what stands at s -/
def hide (s : Addr) (H : Hp) : Hp := fun b => if b = s then none else H b
theorem hide_ne {s b : Addr} {H : Hp} (h : b ≠ s) : hide s H b = H b := if_neg h
theorem hide_at {s : Addr} {H : Hp} : hide s H s = none := if_pos rfl
theorem hide_of {s b : Addr} {H : Hp} {o : HO} (h : hide s H b = some o) : b ≠ s ∧ H b = some o := by
  unfold hide at h
  split at h
  · cases h
  · exact ⟨by assumption, h⟩
theorem hide_same {s : Addr} {H : Hp} : Same (hide s H) H := fun _ _ h => (hide_of h).2
theorem Same.hide {s : Addr} {H H' : Hp} (e : Same H H') : Same (Os.hide s H) (Os.hide s H') := fun b o h => by
  obtain ⟨h1, h2⟩ := hide_of h
  rw [hide_ne h1]
  exact e b o h2
theorem hide_upd {s : Addr} {H : Hp} {o : HO} : Os.hide s (upd H s o) = Os.hide s H := by
  funext b
  by_cases e : b = s
  · rw [e, hide_at, hide_at]
  · rw [hide_ne e, hide_ne e, upd_ne e]
theorem same_new {H : Hp} {p : Addr} {o : HO} (h : H p = none) : Same H (upd H p o) := fun b u e => by
  rw [upd_ne (ne_of_none e h)]
  exact e
/-- what H does not know may change -/
theorem same_mut {H H' : Hp} {p : Addr} {o : HO} (e : Same H H') (h : H p = none) : Same H (upd H' p o) := fun b u q => by
  rw [upd_ne (ne_of_none q h)]
  exact e b u q
theorem Same.none {H H' : Hp} (e : Same H H') {p : Addr} (h : H' p = Option.none) : H p = Option.none := e.free h
theorem hide_none {s p : Addr} {H : Hp} (h : H p = Option.none) : Os.hide s H p = Option.none := by
  unfold Os.hide
  split
  · rfl
  · exact h
end Os
namespace Os
open PySem PySem.Spec PyProof.Rows L2 Evl

/-! ### more of what evaluates to what -/
section
variable {K : PySem.W.Frag} {σ : L2.St} {H H' : Hp} {ta tb tc te : TE} {t : TT} {x y z v : V} {r r' : R2}
theorem same_ex (e : Ex H H') : Same H H' := e
theorem ev_isi {T : String} {b : Bool} {d : PyData} (h : Ev ta σ H v) (hd : Dt H v d) (e : kitB (tyName d) T = some b) :
    Ev (tCB (rIsi K) (tCons ta (tCons (tC (.ty T)) tNil))) σ H (.bl b) := fun H1 e1 Q q =>
  h H1 e1 _ fun H2 e2 => isi_of (hd.same (same_ex (e1.trans e2))) e (q H2 e2)
theorem ev_lenS {s : Str} (h : Ev ta σ H (.str s)) (hl : s.length ≤ 100000) :
    Ev (tCB (fun xs H Q => ∃ z, xs = [.str z] ∧ z.length ≤ sizeLine ∧ Q (.int z.length) H) (tCons ta tNil)) σ H (.int s.length) := fun H1 e1 Q q =>
  h H1 e1 _ fun H2 e2 => ⟨s, rfl, sz_of hl, q H2 e2⟩
theorem ev_chain {b c : Bool} (h1 : Ev ta σ H x) (h2 : Ev tb σ H y) (hr : RV r x y H (.bl b)) (h3 : b = true → ∃ z, Ev tc σ H z ∧ RV r' y z H (.bl c)) :
    Ev (tChain r r' ta tb tc) σ H (.bl (b && c)) := fun H1 e Q q =>
  h1 H1 e _ fun H2 e2 => h2 H2 (e.trans e2) _ fun H3 e3 => hr H3 ((e.trans e2).trans e3) _ fun H4 e4 => ⟨b, rfl, by
    cases b with
    | true =>
      obtain ⟨z, hz, hs⟩ := h3 rfl
      show tc σ H4 _
      exact hz H4 (((e.trans e2).trans e3).trans e4) _ fun H5 e5 => hs H5 ((((e.trans e2).trans e3).trans e4).trans e5) Q fun H6 e6 => q H6 ((((e2.trans e3).trans e4).trans e5).trans e6)
    | false =>
      show Q (.bl false) H4
      exact q H4 ((e2.trans e3).trans e4)⟩
theorem rv_leS {i j : Str} : RV (fun x y H Q => ∃ i j, x = .str i ∧ y = .str j ∧ Q (.bl (!decide (j.cps.toList < i.cps.toList))) H) (.str i) (.str j) H (.bl (!decide (j.cps.toList < i.cps.toList))) :=
  fun H1 _ _ q => ⟨i, j, rfl, rfl, q H1 (Ex.refl H1)⟩
theorem rv_notInSign {c : Nat} {s : Str} : RV (fun x y H Q => ∃ (c : Nat) (z : Str), x = .str ⟨#[c]⟩ ∧ y = .str z ∧ Q (.bl (!decide (c ∈ z.cps.toList))) H) (.str ⟨#[c]⟩) (.str s) H (.bl (!decide (c ∈ s.cps.toList))) :=
  fun H1 _ _ q => ⟨c, s, rfl, rfl, q H1 (Ex.refl H1)⟩
theorem ev_abs {i : Int} (h : Ev ta σ H (.int i)) : Ev (tCB (fun xs H Q => ∃ i, xs = [V.int i] ∧ Q (.int (if i < 0 then -i else i)) H) (tCons ta tNil)) σ H (.int (if i < 0 then -i else i)) := fun H1 e1 Q q =>
  h H1 e1 _ fun H2 e2 => ⟨i, rfl, q H2 e2⟩
theorem ev_max {i j : Int} (ha : Ev ta σ H (.int i)) (hb : Ev tb σ H (.int j)) : Ev (tCB (fun xs H Q => ∃ i j, xs = [V.int i, .int j] ∧ Q (.int (if j > i then j else i)) H) (tCons ta (tCons tb tNil))) σ H (.int (if j > i then j else i)) := fun H1 e1 Q q =>
  ha H1 e1 _ fun H2 e2 => hb H2 (e1.trans e2) _ fun H3 e3 => ⟨i, j, rfl, q H3 (e2.trans e3)⟩
theorem ev_min {i j : Int} (ha : Ev ta σ H (.int i)) (hb : Ev tb σ H (.int j)) : Ev (tCB (fun xs H Q => ∃ i j, xs = [V.int i, .int j] ∧ Q (.int (if j < i then j else i)) H) (tCons ta (tCons tb tNil))) σ H (.int (if j < i then j else i)) := fun H1 e1 Q q =>
  ha H1 e1 _ fun H2 e2 => hb H2 (e1.trans e2) _ fun H3 e3 => ⟨i, j, rfl, q H3 (e2.trans e3)⟩
theorem ev_all {bs : List Bool} (h : EvL ta σ H (bs.map V.bl)) : Ev (tCB (rAll K) (tCons ta tNil)) σ H (.bl (bs.all id)) := fun H1 e Q q =>
  h H1 e _ fun p H2 _ e2 hp => ⟨p, bs, rfl, sq_of hp, q H2 e2⟩
theorem ev_repr {d : PyData} (h : Ev ta σ H v) (hd : Dt H v d) (fit : Fit sizeLine d) : Ev (tCB rRepr (tCons ta tNil)) σ H (.str d.shown) := fun H1 e Q q =>
  h H1 e _ fun H2 e2 => ⟨v, d, rfl, hd.same (same_ex (e.trans e2)), fit, q H2 e2⟩
theorem ev_reprL {xs : List V} {ds : List PyData} (h : EvL ta σ H xs) (hd : Dts H xs ds) (fit : Fit sizeLine (.list ds)) : Ev (tCB rRepr (tCons ta tNil)) σ H (.str (PyData.list ds).shown) := fun H1 e Q q =>
  h H1 e _ fun p H2 _ e2 hp => ⟨.ref p, .list ds, rfl, .lst hp (hd.same (same_ex (e.trans e2))), fit, q H2 e2⟩
/-- two lists, the left a new one, the right a new one, of data -/
theorem ev_eqLL {xs ys : List V} {ds es : List PyData} (ha : EvL ta σ H xs) (hb : EvL tb σ H ys) (hx : Dts H xs ds) (hy : Dts H ys es) (s1 : SeqAt.shaped (.list ds) = true) (s2 : SeqAt.shaped (.list es) = true) :
    Ev (tOp (rEqD K) ta tb) σ H (.bl (PyData.eqv (.list ds) (.list es))) :=
  ev_opLL ha hb fun p q H1 hp hq e => fun H2 e2 Q k => ⟨.list ds, .list es, Dt.dp (.lst (e2 _ _ hp) (hx.same (same_ex (e.trans e2)))), Dt.dp (.lst (e2 _ _ hq) (hy.same (same_ex (e.trans e2)))), s1, s2, k H2 (Ex.refl H2)⟩
/-- a call of a def that makes nothing but a value -/
theorem ev_sp {sp : Sp} {dvs vs : List V} {E : XK} {ta : TA} (h : EvA ta σ H vs) (hs : ∀ H1, Ex H H1 → ∀ Q : VK, (∀ H2, Ex H1 H2 → Q z H2) → sp (vs ++ dvs) H1 Q E) : Ev (tCall sp dvs E ta) σ H z := fun H1 e Q q =>
  h H1 e _ fun H2 e2 => hs H2 (e.trans e2) Q fun H3 e3 => q H3 (e2.trans e3)
/-- a comprehension over a text -/
theorem el_lcS {s : Str} {j : Nat} {vs : List Nat} {tl : TE} (f : Nat → Bool) (v : Nat → V) (h : Ev tl σ H (.str s)) (hz : s.length ≤ 40000) (hw : ∀ x, wipe ((wipe σ vs).set j (some x)) vs = wipe σ vs)
    (ht : ∀ (i c : Nat) H1, Ex H H1 → s.cps.toList[i]? = some c → EvT t ((wipe σ vs).set j (some (.str ⟨#[c]⟩))) H1 (f i))
    (he : ∀ (i c : Nat) H1, Ex H H1 → s.cps.toList[i]? = some c → f i = true → Ev te ((wipe σ vs).set j (some (.str ⟨#[c]⟩))) H1 (v i)) :
    EvL (tLc (iStr tl) (gName j) t te vs) σ H (given s.length f v) := fun H0 e Q q => h H0 e _ fun H1 e1 => ⟨s, rfl, fun Dl hD =>
  lc_it (walk_str (z := s)) (Cw H1 f v Dl) ⟨hD, Ex.new hD, upd_same⟩ (fun _ _ _ _ => trivial) (fun i x Ha Hb hi p y => by
    obtain ⟨rfl, c, hc, rfl⟩ := y
    have hc' : s.cps.toList[i]? = some c := by rw [Array.getElem?_toList]; exact hc
    have hi2 : i < s.length := hi
    exact ⟨hw _, cw_turn p (by omega) (ht i c H1 (e.trans e1) hc') (fun hf => he i c H1 (e.trans e1) hc' hf)⟩)
    (fun Hc p => q Dl Hc (fresh_back e1 p.1) (e1.trans p.2.1) p.2.2)⟩
end

/-! ### what a comprehension gives, by the items -/
theorem given_map {α : Type} (xs : List α) (g : α → V) (v : Nat → V) (h : ∀ i x, xs[i]? = some x → v i = g x) : given xs.length (fun _ => true) v = xs.map g := by
  unfold given
  rw [List.filter_eq_self.mpr (fun _ _ => rfl)]
  refine List.ext_getElem? fun i => ?_
  rw [List.getElem?_map, List.getElem?_map]
  by_cases hi : i < xs.length
  · rw [List.getElem?_range hi, List.getElem?_eq_getElem hi]
    exact congrArg some (h i _ (List.getElem?_eq_getElem hi))
  · rw [List.getElem?_eq_none (by rw [List.length_range]; omega), List.getElem?_eq_none (by omega)]
    rfl
theorem given_part {α : Type} (g : α → V) (p : α → Bool) (f : Nat → Bool) (v : Nat → V) (xs : List α) (hf : ∀ i x, xs[i]? = some x → f i = p x) (hv : ∀ i x, xs[i]? = some x → v i = g x) :
    ∀ n, n ≤ xs.length → given n f v = ((xs.take n).filter p).map g
  | 0, _ => rfl
  | n + 1, hn => by
    have lt : n < xs.length := hn
    have e := List.getElem?_eq_getElem lt
    have ih := given_part g p f v xs hf hv n (Nat.le_of_lt lt)
    rw [List.take_add_one, e]
    show _ = ((xs.take n ++ [xs[n]]).filter p).map g
    rw [List.filter_append, List.map_append, ← ih]
    cases hp : p xs[n] with
    | true =>
      rw [given_yes (by rw [hf _ _ e]; exact hp), hv _ _ e, List.filter_cons, if_pos hp]
      rfl
    | false =>
      rw [given_no (by rw [hf _ _ e]; exact hp), List.filter_cons, if_neg (by rw [hp]; decide)]
      rw [List.filter_nil, List.map_nil, List.append_nil]
theorem given_filter {α : Type} (g : α → V) (p : α → Bool) (f : Nat → Bool) (v : Nat → V) (xs : List α) (hf : ∀ i x, xs[i]? = some x → f i = p x) (hv : ∀ i x, xs[i]? = some x → v i = g x) :
    given xs.length f v = (xs.filter p).map g := by
  rw [given_part g p f v xs hf hv _ (Nat.le_refl _), List.take_length]
theorem given_eq {n : Nat} {f g : Nat → Bool} {v u : Nat → V} (hf : ∀ i, i < n → f i = g i) (hv : ∀ i, i < n → v i = u i) : given n f v = given n g u := by
  unfold given
  rw [List.filter_congr (q := g) (fun i hi => hf i (List.mem_range.mp hi))]
  exact List.map_congr_left fun i hi => hv i (List.mem_range.mp (List.mem_filter.mp hi).1)
end Os
/-! forests: the mathematics, and pairs of ints in the heap -/
namespace Os
open PySem PySem.Spec PyProof.Rows L2 Evl

abbrev Pr := Nat × Nat
/-! ### labels that are merged: the program's search for a cycle -/
def merge (t : List Nat) (e : Pr) : List Nat := t.map fun x => if x = t.getD e.2 0 then t.getD e.1 0 else x
def cycB : List Pr → List Nat → Bool
  | [], _ => false
  | e :: r, t => if t.getD e.1 0 = t.getD e.2 0 then true else cycB r (merge t e)
/-- each edge has a side that all other edges respect -/
def Bridges (es : List Pr) : Prop := ∀ e ∈ es, ∃ S : Nat → Bool, S e.1 ≠ S e.2 ∧ ∀ f ∈ es, f ≠ e → S f.1 = S f.2
theorem merge_length (t : List Nat) (e : Pr) : (merge t e).length = t.length := List.length_map ..
theorem getD_map {f : Nat → Nat} {t : List Nat} {i : Nat} (h : i < t.length) : (t.map f).getD i 0 = f (t.getD i 0) := by
  rw [List.getD_eq_getElem?_getD, List.getD_eq_getElem?_getD, List.getElem?_map, List.getElem?_eq_getElem h]
  rfl
/-- labels are equal only where every respected side is -/
def Fine (t : List Nat) (done : List Pr) : Prop := ∀ x y, x < t.length → y < t.length → t.getD x 0 = t.getD y 0 → ∀ S : Nat → Bool, (∀ f ∈ done, S f.1 = S f.2) → S x = S y
theorem fine_start (n : Nat) : Fine (List.range n) [] := fun x y hx hy e S _ => by
  rw [List.length_range] at hx hy
  rw [List.getD_eq_getElem?_getD, List.getD_eq_getElem?_getD, List.getElem?_range hx, List.getElem?_range hy] at e
  have e2 : x = y := e
  rw [e2]
theorem fine_merge {t : List Nat} {done : List Pr} {e : Pr} (h : Fine t done) (h1 : e.1 < t.length) (h2 : e.2 < t.length) : Fine (merge t e) (done ++ [e]) := fun x y hx hy q S hS => by
  rw [merge_length] at hx hy
  unfold merge at q
  rw [getD_map hx, getD_map hy] at q
  have hd : ∀ f ∈ done, S f.1 = S f.2 := fun f hf => hS f (List.mem_append_left _ hf)
  have he : S e.1 = S e.2 := hS e (by simp)
  by_cases a : t.getD x 0 = t.getD e.2 0
  · have sx := h x e.2 hx h2 a S hd
    by_cases b : t.getD y 0 = t.getD e.2 0
    · rw [sx, h y e.2 hy h2 b S hd]
    · rw [if_pos a, if_neg b] at q
      rw [sx, ← he, h e.1 y h1 hy q S hd]
  · by_cases b : t.getD y 0 = t.getD e.2 0
    · rw [if_neg a, if_pos b] at q
      rw [h x e.1 hx h1 q S hd, he, h y e.2 hy h2 b S hd]
    · rw [if_neg a, if_neg b] at q
      exact h x y hx hy q S hd
theorem cyc_none {es : List Pr} (br : Bridges es) (nd : es.Nodup) : ∀ (r done : List Pr) (t : List Nat), es = done ++ r → (∀ e ∈ r, e.1 < t.length ∧ e.2 < t.length) → Fine t done → cycB r t = false
  | [], _, _, _, _, _ => rfl
  | e :: r, done, t, he, hb, hf => by
    obtain ⟨b1, b2⟩ := hb e List.mem_cons_self
    obtain ⟨S, s1, s2⟩ := br e (by rw [he]; simp)
    have ne : ¬ t.getD e.1 0 = t.getD e.2 0 := fun q => s1 (hf e.1 e.2 b1 b2 q S fun f hf' => s2 f (by rw [he]; exact List.mem_append_left _ hf') fun z => by
      rw [he] at nd
      exact (List.nodup_append.mp nd).2.2 f hf' e List.mem_cons_self z)
    unfold cycB
    rw [if_neg ne]
    refine cyc_none br nd r (done ++ [e]) (merge t e) (by rw [he, List.append_assoc]; rfl) (fun f hf' => ?_) (fine_merge hf b1 b2)
    rw [merge_length]
    exact hb f (List.mem_cons_of_mem _ hf')
/-! ### order of pairs -/
def ltP (e f : Pr) : Bool := decide (e.1 < f.1) || (decide (e.1 = f.1) && decide (e.2 < f.2))
def ascB : List Pr → Bool
  | e :: f :: r => ltP e f && ascB (f :: r)
  | _ => true
/-- a forest's edges -/
structure Edges (n : Nat) (es : List Pr) : Prop where
  inn : ∀ e ∈ es, e.1 < e.2 ∧ e.2 < n
  asc : es.Pairwise fun e f => ltP e f = true
  br : Bridges es
theorem ltP_irr (e : Pr) : ltP e e = false := by
  unfold ltP
  rw [decide_eq_false (Nat.lt_irrefl _), decide_eq_false (Nat.lt_irrefl _), Bool.and_false]
  rfl
theorem ltP_iff {e f : Pr} : ltP e f = true ↔ e.1 < f.1 ∨ (e.1 = f.1 ∧ e.2 < f.2) := by
  unfold ltP
  simp only [Bool.or_eq_true, Bool.and_eq_true, decide_eq_true_eq]
theorem ltP_trans {e f g : Pr} (h1 : ltP e f = true) (h2 : ltP f g = true) : ltP e g = true := by
  rw [ltP_iff] at *
  omega
theorem Edges.nodup {n : Nat} {es : List Pr} (h : Edges n es) : es.Nodup := h.asc.imp fun {a b} q e => by
  rw [e, ltP_irr] at q
  cases q
theorem asc_of : ∀ {es : List Pr}, es.Pairwise (fun e f => ltP e f = true) → ascB es = true
  | [], _ => rfl
  | [_], _ => rfl
  | e :: f :: r, h => by
    obtain ⟨h1, h2⟩ := List.pairwise_cons.mp h
    show (ltP e f && ascB (f :: r)) = true
    rw [h1 f List.mem_cons_self, asc_of h2]
    rfl
theorem Edges.no_cyc {n : Nat} {es : List Pr} (h : Edges n es) : cycB es (List.range n) = false :=
  cyc_none h.br h.nodup es [] _ rfl (fun e he => by
    rw [List.length_range]
    have := h.inn e he
    omega) (fine_start n)

/-! ### pairs in the heap -/
/-- v is a tuple of the two ints -/
def PrV (G : Hp) (v : V) (e : Pr) : Prop := ∃ t, v = .ref t ∧ G t = some (.tup [.int (e.1 : Int), .int (e.2 : Int)])
inductive PrsV (G : Hp) : List V → List Pr → Prop
  | nil : PrsV G [] []
  | cons {v : V} {vs : List V} {e : Pr} {es : List Pr} : PrV G v e → PrsV G vs es → PrsV G (v :: vs) (e :: es)
theorem PrV.ex {G G' : Hp} (h : Ex G G') {v : V} {e : Pr} (p : PrV G v e) : PrV G' v e := by
  obtain ⟨t, e1, e2⟩ := p
  exact ⟨t, e1, h _ _ e2⟩
theorem PrsV.ex {G G' : Hp} (h : Ex G G') : ∀ {vs : List V} {es : List Pr}, PrsV G vs es → PrsV G' vs es
  | _, _, .nil => .nil
  | _, _, .cons p r => .cons (p.ex h) (PrsV.ex h r)
theorem PrsV.length {G : Hp} : ∀ {vs : List V} {es : List Pr}, PrsV G vs es → vs.length = es.length
  | _, _, .nil => rfl
  | _, _, .cons _ r => congrArg (· + 1) (PrsV.length r)
theorem PrsV.get {G : Hp} : ∀ {vs : List V} {es : List Pr} {i : Nat} {v : V}, PrsV G vs es → vs[i]? = some v → ∃ e, es[i]? = some e ∧ PrV G v e
  | _, _, _, _, .nil, h => by simp at h
  | _, _, 0, _, .cons p _, h => by simp at h; subst h; exact ⟨_, rfl, p⟩
  | _, _, i + 1, v, .cons _ r, h => by
    obtain ⟨e, h1, h2⟩ := PrsV.get (i := i) (v := v) r (by simpa using h)
    exact ⟨e, by simpa using h1, h2⟩
theorem PrsV.get' {G : Hp} : ∀ {vs : List V} {es : List Pr} {i : Nat} {e : Pr}, PrsV G vs es → es[i]? = some e → ∃ v, vs[i]? = some v ∧ PrV G v e
  | _, _, _, _, .nil, h => by simp at h
  | _, _, 0, _, .cons p _, h => by simp at h; subst h; exact ⟨_, rfl, p⟩
  | _, _, i + 1, e, .cons _ r, h => by
    obtain ⟨v, h1, h2⟩ := PrsV.get' (i := i) (e := e) r (by simpa using h)
    exact ⟨v, by simpa using h1, h2⟩
theorem PrsV.append {G : Hp} : ∀ {vs us : List V} {es fs : List Pr}, PrsV G vs es → PrsV G us fs → PrsV G (vs ++ us) (es ++ fs)
  | _, _, _, _, .nil, r => r
  | _, _, _, _, .cons p q, r => .cons p (PrsV.append q r)
theorem PrsV.drop {G : Hp} : ∀ {vs : List V} {es : List Pr} (i : Nat), PrsV G vs es → PrsV G (vs.drop i) (es.drop i)
  | _, _, 0, h => h
  | _, _, _ + 1, .nil => .nil
  | _, _, i + 1, .cons _ r => PrsV.drop i r
theorem PrsV.take {G : Hp} : ∀ {vs : List V} {es : List Pr} (i : Nat), PrsV G vs es → PrsV G (vs.take i) (es.take i)
  | _, _, 0, _ => .nil
  | _, _, _ + 1, .nil => .nil
  | _, _, i + 1, .cons p r => .cons p (PrsV.take i r)
theorem PrsV.reverse {G : Hp} : ∀ {vs : List V} {es : List Pr}, PrsV G vs es → PrsV G vs.reverse es.reverse
  | _, _, .nil => .nil
  | _, _, .cons p r => by
    rw [List.reverse_cons, List.reverse_cons]
    exact PrsV.append (PrsV.reverse r) (.cons p .nil)
theorem PrsV.perm {G : Hp} {vs us : List V} (h : vs.Perm us) : ∀ {es : List Pr}, PrsV G us es → ∃ fs, PrsV G vs fs ∧ fs.Perm es := by
  induction h with
  | nil => exact fun h => ⟨_, h, List.Perm.refl _⟩
  | cons x _ ih =>
    intro es h
    cases h with
    | cons p r =>
      obtain ⟨fs, h1, h2⟩ := ih r
      exact ⟨_, .cons p h1, h2.cons _⟩
  | swap x y l =>
    intro es h
    cases h with
    | cons p r =>
      cases r with
      | cons q r => exact ⟨_, .cons q (.cons p r), List.Perm.swap _ _ _⟩
  | trans _ _ ih1 ih2 =>
    intro es h
    obtain ⟨fs, h1, h2⟩ := ih2 h
    obtain ⟨gs, h3, h4⟩ := ih1 h1
    exact ⟨gs, h3, h4.trans h2⟩
def prD (e : Pr) : PyData := .tuple [.int (e.1 : Int), .int (e.2 : Int)]
theorem PrV.dt {G : Hp} {v : V} {e : Pr} (p : PrV G v e) : Dt G v (prD e) := by
  obtain ⟨t, rfl, h⟩ := p
  exact .tup h (.cons (.int _) (.cons (.int _) .nil))
theorem PrsV.dts {G : Hp} : ∀ {vs : List V} {es : List Pr}, PrsV G vs es → Dts G vs (es.map prD)
  | _, _, .nil => .nil
  | _, _, .cons p r => .cons p.dt (PrsV.dts r)
end Os
namespace K11
open PySem PySem.Spec PyProof.Rows L2 Os Evl
def topS (i : Nat) : Stmt := PySem.Challenge.pw_onceswapped_k11_what_are_turns.main.body.getD i (.Pass ⟨0, 0, 0, 0⟩)
abbrev sInt : Stmt := topS 5
theorem scInt : FnScope ["thing"] ["thing"] (defScope sInt) := ⟨rfl, rfl, rfl, by decide +kernel, rfl, by decide +kernel, by decide +kernel⟩
abbrev sPos : Stmt := topS 6
theorem scPos : FnScope ["n", "thing"] ["n", "thing"] (defScope sPos) := ⟨rfl, rfl, rfl, by decide +kernel, rfl, by decide +kernel, by decide +kernel⟩
abbrev sEdge : Stmt := topS 7
theorem scEdge : FnScope ["n", "thing", "p", "q"] ["n", "thing"] (defScope sEdge) := ⟨rfl, rfl, rfl, by decide +kernel, rfl, by decide +kernel, by decide +kernel⟩
abbrev sForest : Stmt := topS 8
theorem scForest : FnScope ["thing", "n", "edges", "edge"] ["thing"] (defScope sForest) := ⟨rfl, rfl, rfl, by decide +kernel, rfl, by decide +kernel, by decide +kernel⟩
abbrev sAsc : Stmt := topS 9
theorem scAsc : FnScope ["edges", "edge", "following"] ["edges"] (defScope sAsc) := ⟨rfl, rfl, rfl, by decide +kernel, rfl, by decide +kernel, by decide +kernel⟩
abbrev sCyc : Stmt := topS 10
theorem scCyc : FnScope ["n", "edges", "tree_of", "p", "q", "kept", "joined", "tree"] ["n", "edges"] (defScope sCyc) := ⟨rfl, rfl, rfl, by decide +kernel, rfl, by decide +kernel, by decide +kernel⟩

section
variable {P : Program} {w : World} {K : PySem.W.Frag} {mg : Str → Option Value} {base : Heap}
def intB : PyData → Bool
  | .int _ => true
  | _ => false
def numB : PyData → Bool
  | .int _ => true
  | .bool _ => true
  | _ => false
def isBlD : PyData → Bool
  | .bool _ => true
  | _ => false
theorem kit_int (d : PyData) : kitB (tyName d) "int" = some (numB d) := by
  cases d <;> (simp only [tyName, numB]; decide +kernel)
theorem kit_bool (d : PyData) : kitB (tyName d) "bool" = some (isBlD d) := by
  cases d <;> (simp only [tyName, isBlD]; decide +kernel)
def spInt : Sp := fun vs H Q _ => ∃ v d, vs = [v] ∧ Dt H v d ∧ ∀ H', Ex H H' → Q (.bl (intB d)) H'
theorem ok_int {f : Addr} {fd : FuncData} {k : Nat} (F : Fun K "is_integer" "is_integer" sInt f fd) (mIsi : mg "isinstance" = none) (mInt : mg "int" = none) (mBool : mg "bool" = none) : FnOk P w K mg base CX0 (k + 1) f fd ["thing"] spInt := by
  refine F.ok scInt (fun vs H Q E h => ?_) (fun cdv A outer s H vs Q E hr h => ?_)
  · obtain ⟨v, d, rfl, _⟩ := h
    rfl
  · obtain ⟨v, d, rfl, hd, q⟩ := h
    refine ⟨_, (pss_one (ps_ret (pe_and (pe_callB call_isi (by rfl) mIsi boot_isinstance (pa_cons (pv 0) (pa_cons (pe_bltn (v := .ty "int") (by rfl) mInt boot_int rfl) pa_nil))) (pe_one (pe_not (pe_callB call_isi (by rfl) mIsi boot_isinstance (pa_cons (pv 0) (pa_cons (pe_bltn (v := .ty "bool") (by rfl) mBool boot_bool rfl) pa_nil)))))))), ?_⟩
    refine s_ret (v := .bl (intB d)) (ev_is (ev_andV (ev_isi (ev_var rfl) hd (kit_int d)) fun _ => ev_notV (ev_isi (ev_var rfl) hd (kit_bool d))) (by cases d <;> rfl)) fun H1 e1 => q H1 e1
def posB (n : Int) : PyData → Bool
  | .int i => decide (0 ≤ i) && decide (i < n)
  | _ => false
def spPos : Sp := fun vs H Q _ => ∃ n v d, vs = [.int n, v] ∧ Dt H v d ∧ ∀ H', Ex H H' → Q (.bl (posB n d)) H'
theorem ok_pos {f fI : Addr} {fd fdI : FuncData} {k : Nat} (F : Fun K "is_position" "is_position" sPos f fd) (GI : FnOk P w K mg base CX0 k fI fdI ["thing"] spInt) (FI : Fun K "is_integer" "is_integer" sInt fI fdI) (bI : Binds K fdI ["thing"] []) (gI : mg "is_integer" = some (.ref fI)) :
    FnOk P w K mg base CX0 (k + 1) f fd ["n", "thing"] spPos := by
  refine F.ok scPos (fun vs H Q E h => ?_) (fun cdv A outer s H vs Q E hr h => ?_)
  · obtain ⟨n, v, d, rfl, _⟩ := h
    rfl
  · obtain ⟨n, v, d, rfl, hd, q⟩ := h
    refine ⟨_, (pss_one (ps_ret (pe_and (pe_call GI hr (by rfl) gI FI.kp bI .nil pass0 (pa_cons (pv 1) pa_nil)) (pe_one (pe_chain op_le op_lt pe_int (pv 1) (pv 0)))))), ?_⟩
    have e1 : Ev (tCall spInt [] E0 (tCons (tVar 1) tNil)) (start ["n", "thing"] [.int n, v]) H (.bl (intB d)) := ev_sp (ea_cons (ev_var rfl) ea_nil) fun H2 e2 Q q => ⟨v, d, rfl, hd.same (same_ex e2), fun H3 e3 => q H3 e3⟩
    cases hd with
    | int i => exact s_ret (v := .bl (posB n (.int i))) (ev_is (ev_andV (a := true) e1 fun _ => ev_chain ev_c (ev_var rfl) rv_I0 fun _ => ⟨_, ev_var rfl, rv_I0⟩) rfl) fun H2 e2 => q H2 e2
    | _ => exact s_ret (v := .bl false) (ev_andV (b := false) e1 fun h => nomatch h) fun H2 e2 => q H2 e2
def edgeB (n : Int) : PyData → Bool
  | .tuple [.int p, .int q] => posB n (.int p) && (posB n (.int q) && decide (p < q))
  | _ => false
def spEdge : Sp := fun vs H Q _ => ∃ n v d, vs = [.int n, v] ∧ Dt H v d ∧ ∀ H', Ex H H' → Q (.bl (edgeB n d)) H'
theorem edgeB_tup (n : Int) (d1 d2 : PyData) : edgeB n (.tuple [d1, d2]) = (posB n d1 && (posB n d2 && (match d1, d2 with | .int p, .int q => decide (p < q) | _, _ => false))) := by
  cases d1 <;> cases d2 <;> simp [edgeB, posB]
theorem edgeB_len (n : Int) : ∀ {ds : List PyData}, ds.length ≠ 2 → edgeB n (.tuple ds) = false
  | [], _ => rfl
  | [d], _ => by cases d <;> rfl
  | [_, _], h => absurd rfl h
  | d :: e :: _ :: _, _ => by cases d <;> cases e <;> rfl
theorem ev_lenT {K : PySem.W.Frag} {σ : L2.St} {H : Hp} {ta : TE} {p : Addr} {xs : List V} (ha : Ev ta σ H (.ref p)) (h : H p = some (.tup xs)) :
    Ev (tCB (fun xs H Q => ∃ p ys, xs = [V.ref p] ∧ (SqL K H p ys ∨ SqT K H p ys) ∧ Q (.int ys.length) H) (tCons ta tNil)) σ H (.int (xs.length : Int)) := fun H1 e Q q =>
  ha H1 e _ fun H2 e2 => ⟨p, xs, rfl, .inr (st_of ((e.trans e2) _ _ h)), q H2 e2⟩
theorem ok_edge {f fP : Addr} {fd fdP : FuncData} {k : Nat} (F : Fun K "is_edge" "is_edge" sEdge f fd) (GP : FnOk P w K mg base CX0 k fP fdP ["n", "thing"] spPos) (FP : Fun K "is_position" "is_position" sPos fP fdP) (bP : Binds K fdP ["n", "thing"] []) (gP : mg "is_position" = some (.ref fP))
    (mIsi : mg "isinstance" = none) (mTup : mg "tuple" = none) (mLen : mg "len" = none) : FnOk P w K mg base CX0 (k + 1) f fd ["n", "thing"] spEdge := by
  refine F.ok scEdge (fun vs H Q E h => ?_) (fun cdv A outer s H vs Q E hr h => ?_)
  · obtain ⟨n, v, d, rfl, _⟩ := h
    rfl
  · obtain ⟨n, v, d, rfl, hd, q⟩ := h
    refine ⟨_, (pss_cons (ps_if (PW.pt (pw_or (pt_not (pt_val (pe_callB call_isi (by rfl) mIsi boot_isinstance (pa_cons (pv 1) (pa_cons (pe_bltn (v := .ty "tuple") (by rfl) mTup boot_tuple rfl) pa_nil))))) (pw_or1 (pt_cmpR op_ne (pe_callB call_len_seq (by rfl) mLen boot_len (pa_cons (pv 1) pa_nil)) pe_int (nomark _))))) (pss_one (ps_ret pe_bl)) pss_nil)
      (pss_cons (ps_asg (pv 1) (pg_tup rfl (pgs_cons (pg_name (i := 2) scEdge.nd rfl (Or.inl rfl)) (pgs_cons (pg_name (i := 3) scEdge.nd rfl (Or.inl rfl)) pgs_nil))))
      (pss_one (ps_ret (pe_and (pe_call GP hr (by rfl) gP FP.kp bP .nil pass0 (pa_cons (pv 0) (pa_cons (pv 2) pa_nil))) (pe_and (pe_call GP hr (by rfl) gP FP.kp bP .nil pass0 (pa_cons (pv 0) (pa_cons (pv 3) pa_nil))) (pe_one (pe_cmpR op_lt (pv 2) (pv 3) (nomark _))))))))), ?_⟩
    have e0 : Ev (tVar 1) (start ["n", "thing", "p", "q"] [.int n, v]) H v := ev_var rfl
    rcases hd.tup_or with ⟨a, xs, ds, rfl, ha, ht, rfl⟩ | hn
    · have hlen : xs.length = ds.length := ht.length
      refine q_when (b := !true || !decide (V.int xs.length = V.int 2)) (et_or (et_not (et_B (ev_isi e0 hd (kit_tup _)))) fun _ => et_test (ev_op (ev_lenT e0 ha) ev_c (rv_ne rfl))) ?_ ?_
      · intro hb H1 e1
        have hb2 : (!decide (V.int xs.length = V.int 2)) = true := hb
        have hb3 := of_decide_eq_false ((Bool.not_eq_true' _).mp hb2)
        have e2 := edgeB_len n (ds := ds) fun z => hb3 (by rw [hlen, z]; rfl)
        refine s_ret (v := .bl false) ev_c fun H2 e3 => ?_
        rw [← e2]
        exact q H2 (e1.trans e3)
      · intro hb H1 e1
        have hb2 : (!decide (V.int xs.length = V.int 2)) = false := hb
        have hb3 := V.int.inj (of_decide_eq_true ((Bool.not_eq_false' _).mp hb2))
        have t1 := ht.same (same_ex e1)
        have ha1 := e1 _ _ ha
        match xs, ds, t1, hb3, ha1 with
        | [x, y], [d1, d2], .cons h1 (.cons h2 .nil), _, ha1 =>
          refine ⟨.ref a, rfl, a, [x, y], rfl, st_of ha1, rfl, x, [y], rfl, y, [], rfl, rfl, ?_⟩
          have ep : ∀ {i : Nat} {z : V} {d : PyData} {σ : L2.St}, σ[0]? = some (some (.int n)) → σ[i]? = some (some z) → Dt H1 z d → Ev (tCall spPos [] E0 (tCons (tVar 0) (tCons (tVar i) tNil))) σ H1 (.bl (posB n d)) := fun g1 g2 g3 =>
            ev_sp (ea_cons (ev_var g1) (ea_cons (ev_var g2) ea_nil)) fun H2 e2 Q q => ⟨n, _, _, rfl, g3.same (same_ex e2), fun H3 e3 => q H3 e3⟩
          dsimp only
          refine s_ret (v := .bl (edgeB n (.tuple [d1, d2]))) ?_ fun H2 e2 => q H2 (e1.trans e2)
          rw [edgeB_tup]
          refine ev_andV (ep rfl rfl h1) fun p1 => ev_andV (ep rfl rfl h2) fun p2 => ?_
          cases h1 with
          | int i =>
            cases h2 with
            | int j => exact ev_op (ev_var rfl) (ev_var rfl) rv_I0
            | _ => cases p2
          | _ => cases p1
    · refine q_when (b := true) (et_is (et_or (b := true) (et_not (et_B (ev_isi e0 hd (kit_tup _)))) fun hs => ?_) ?_) ?_ ?_
      · rw [hn] at hs
        cases hs
      · rw [hn]
        rfl
      · intro _ H1 e1
        have : edgeB n d = false := by
          cases d <;> first | rfl | cases hn
        refine s_ret (v := .bl false) ev_c fun H2 e3 => ?_
        rw [← this]
        exact q H2 (e1.trans e3)
      · intro hb
        cases hb
end
end K11
namespace K11
open PySem PySem.Spec PyProof.Rows L2 Os Evl
def ascL : List Pr → List Bool
  | e :: f :: r => Os.ltP e f :: ascL (f :: r)
  | _ => []
theorem ascL_len : ∀ es : List Pr, (ascL es).length = es.length - 1
  | [] => rfl
  | [_] => rfl
  | e :: f :: r => by
    show (ascL (f :: r)).length + 1 = r.length + 2 - 1
    rw [ascL_len (f :: r)]
    show (r.length + 1 - 1) + 1 = _
    omega
theorem ascL_at : ∀ {es : List Pr} {i : Nat} {e f : Pr}, es[i]? = some e → es[i + 1]? = some f → (ascL es)[i]? = some (Os.ltP e f)
  | [], _, _, _, h, _ => by simp at h
  | [_], _, _, _, _, h => by simp at h
  | a :: b :: r, 0, e, f, h1, h2 => by
    cases h1
    cases h2
    rfl
  | a :: b :: r, i + 1, e, f, h1, h2 => ascL_at (es := b :: r) (i := i) h1 h2
theorem ascL_all : ∀ es : List Pr, (ascL es).all id = ascB es
  | [] => rfl
  | [_] => rfl
  | e :: f :: r => by
    show (Os.ltP e f && (ascL (f :: r)).all id) = (Os.ltP e f && ascB (f :: r))
    rw [ascL_all (f :: r)]
theorem lex_pr (e f : Pr) : HT.lexLt [(e.1 : Int), (e.2 : Int)] [(f.1 : Int), (f.2 : Int)] = Os.ltP e f := by
  show (if (e.1 : Int) = (f.1 : Int) then (if (e.2 : Int) = (f.2 : Int) then false else decide ((e.2 : Int) < (f.2 : Int))) else decide ((e.1 : Int) < (f.1 : Int))) = Os.ltP e f
  unfold Os.ltP
  by_cases h1 : e.1 = f.1
  · rw [if_pos (by omega), decide_eq_true h1, decide_eq_false (show ¬ e.1 < f.1 by omega)]
    by_cases h2 : e.2 = f.2
    · rw [if_pos (by omega), decide_eq_false (show ¬ e.2 < f.2 by omega)]
      rfl
    · rw [if_neg (by omega), decide_eq_decide.mpr (show (e.2 : Int) < (f.2 : Int) ↔ e.2 < f.2 by omega)]
      cases decide (e.2 < f.2) <;> rfl
  · rw [if_neg (by omega), decide_eq_false h1, decide_eq_decide.mpr (show (e.1 : Int) < (f.1 : Int) ↔ e.1 < f.1 by omega)]
    cases decide (e.1 < f.1) <;> rfl
theorem cut_drop1 (xs : List V) : cutV xs (some 1) none = xs.drop 1 := by
  unfold cutV
  rw [HT.sIx_none, show HT.sIx xs.length 0 (some 1) = min 1 xs.length from HT.sIx_nat xs.length 0 1]
  cases xs with
  | nil => rfl
  | cons x r =>
    rw [show min 1 (x :: r).length = 1 by rw [List.length_cons]; omega]
    show List.take ((x :: r).length - 1) r = r
    rw [List.length_cons, Nat.add_sub_cancel, List.take_length]
section
variable {K : PySem.W.Frag} {σ : L2.St} {H : Hp} {ta tb : TE} {tz : TS} {D : Ends} {x y : V}
/-- i, j = a, b by a tuple -/
theorem q_asgPair {i j n : Nat} (ha : Ev ta σ H x) (hb : Ev tb σ H y) (hn : n = 2) (k : ∀ H1, Ex H H1 → tz D ((σ.set i (some x)).set j (some y)) H1) : tSeq (tAsg (tTup (tCons ta (tCons tb tNil))) (gTup K n (gCons (gName i) (gCons (gName j) gNil)))) tz D σ H :=
  ha H (Ex.refl H) _ fun H2 e2 => hb H2 e2 _ fun H3 e3 => ⟨(show 2 ≤ sizeLine by decide), fun p hp => ⟨p, [x, y], rfl, st_of upd_same, hn.symm, x, [y], rfl, y, [], rfl, rfl, k _ ((e2.trans e3).trans (Ex.new hp))⟩⟩
end
section
variable {P : Program} {w : World} {K : PySem.W.Frag} {mg : Str → Option Value} {base : Heap}
def spAsc : Sp := fun vs H Q _ => ∃ (a : Addr) (xs : List V) (es : List Pr), vs = [.ref a] ∧ H a = some (.lst xs) ∧ PrsV H xs es ∧ es.length ≤ 1000 ∧ ∀ H', Ex H H' → Q (.bl (ascB es)) H'
theorem ok_asc {f : Addr} {fd : FuncData} {k : Nat} (F : Fun K "_is_ascending" "_is_ascending" sAsc f fd) (mAll : mg "all" = none) (mZip : mg "zip" = none) : FnOk P w K mg base CX0 (k + 1) f fd ["edges"] spAsc := by
  refine F.ok scAsc (fun vs H Q E h => ?_) (fun cdv A outer s H vs Q E hr h => ?_)
  · obtain ⟨a, xs, es, rfl, _⟩ := h
    rfl
  · obtain ⟨a, xs, es, rfl, ha, hp, hl, q⟩ := h
    refine ⟨_, (pss_one (ps_ret (pe_callB (cr_all rfl) (by rfl) mAll boot_all (pa_cons (pe_lc (own := [("edge", 1), ("following", 2)]) (g := gTup K 2 (gCons (gName 1) (gCons (gName 2) gNil))) (tt := tYes) (te := tOp (rLtT K) (tVar 1) (tVar 2)) rfl scAsc.nd (pi_zip (by rfl) mZip (pa_cons (pv 0) (pa_cons (pe_slice sl_list (pv 0) (po_some pe_int) po_none) pa_nil))) (blkOk_by (N := ["edges", "edge", "following"]) (sc := defScope sAsc) (by decide +kernel)) (fun _ _ _ _ _ => pg_tup rfl (pgs_cons (pg_name (i := 1) scAsc.nd rfl (Or.inl rfl)) (pgs_cons (pg_name (i := 2) scAsc.nd rfl (Or.inl rfl)) pgs_nil))) (fun _ _ _ _ _ => pts_nil) (fun _ _ _ _ _ => pe_cmpR (op_ltT hr.units0) (pv 1) (pv 2) (nomark _))) pa_nil)))), ?_⟩
    have hlen := hp.length
    refine s_ret (v := .bl (ascB es)) (ev_is (ev_all (bs := ascL es) ?_) (by rw [ascL_all])) fun H1 e1 => q H1 e1
    intro H0 e0 Q' q'
    refine ⟨.ref a, rfl, .ref a, rfl, 1, rfl, a, xs, rfl, sq_of (e0 _ _ ha), fun c nc => ?_⟩
    rw [cut_drop1]
    have e1 : Ex H0 (upd H0 c (.lst (xs.drop 1))) := Ex.new nc
    refine ⟨a, c, xs, xs.drop 1, rfl, sq_of (e1 _ _ (e0 _ _ ha)), sq_of upd_same, fun D hD => ?_⟩
    have hD0 : H0 D = none := fresh_back e1 hD
    refine lc_it (walk_zip (n := es.length - 1) (by rw [List.length_drop]; omega)) (fun i Hh => Ex (upd H0 c (.lst (xs.drop 1))) Hh ∧ Hh D = some (.lst (((ascL es).take i).map V.bl))) ⟨Ex.new hD, upd_same⟩ (fun i Hh _ p => ⟨sq_of (p.1 _ _ (e1 _ _ (e0 _ _ ha))), sq_of (p.1 _ _ upd_same)⟩) ?_ ?_
    · rintro i v Ha Hb hi ⟨p1, p2⟩ ⟨T, x, y, rfl, nT, rfl, hx, hy⟩
      have hx' : xs[i]? = some x := hx
      have hy' : (xs.drop 1)[i]? = some y := hy
      rw [List.getElem?_drop, Nat.add_comm 1 i] at hy'
      obtain ⟨e, he, t1, rfl, ht1⟩ := hp.get hx'
      obtain ⟨g, hg, t2, rfl, ht2⟩ := hp.get hy'
      have eT : Ex Ha (upd Ha T (.tup [.ref t1, .ref t2])) := Ex.new nT
      have eA : Ex H (upd Ha T (.tup [.ref t1, .ref t2])) := ((e0.trans e1).trans p1).trans eT
      refine ⟨T, [.ref t1, .ref t2], rfl, st_of upd_same, rfl, .ref t1, [.ref t2], rfl, .ref t2, [], rfl, rfl, rfl, ?_⟩
      show tOp (rLtT K) (tVar 1) (tVar 2) _ _ _
      refine ⟨.ref t1, rfl, .ref t2, rfl, t1, t2, [(e.1 : Int), (e.2 : Int)], [(g.1 : Int), (g.2 : Int)], rfl, rfl, st_of (eA _ _ ht1), st_of (eA _ _ ht2), ((ascL es).take i).map V.bl, eT _ _ p2, sz_lt (by rw [List.length_map, List.length_take]; omega), Ex.mut (p1.trans eT) hD, ?_⟩
      rw [lex_pr, List.take_add_one, ascL_at he hg, List.map_append]
      exact upd_same
    · rintro Hh ⟨p1, p2⟩
      rw [List.take_of_length_le (by rw [ascL_len]; omega)] at p2
      exact q' D Hh hD0 (e1.trans p1) p2
def spCyc : Sp := fun vs H Q _ => ∃ (n : Nat) (a : Addr) (xs : List V) (es : List Pr), vs = [.int (n : Int), .ref a] ∧ H a = some (.lst xs) ∧ PrsV H xs es ∧ n ≤ 1000 ∧ (∀ e ∈ es, e.1 < n ∧ e.2 < n) ∧ ∀ H', Ex H H' → Q (.bl (cycB es (List.range n))) H'
theorem ok_cyc {f : Addr} {fd : FuncData} {k : Nat} (F : Fun K "_has_cycle" "_has_cycle" sCyc f fd) (mList : mg "list" = none) (mRange : mg "range" = none) : FnOk P w K mg base CX0 (k + 1) f fd ["n", "edges"] spCyc := by
  refine F.ok scCyc (fun vs H Q E h => ?_) (fun cdv A outer s H vs Q E hr h => ?_)
  · obtain ⟨n, a, xs, es, rfl, _⟩ := h
    rfl
  · obtain ⟨n, a, xs, es, rfl, ha, hp, hn, hb, q⟩ := h
    refine ⟨_, (pss_cons (ps_set (i := 2) scCyc.nd rfl (.inl rfl) (pe_listRg rfl (by rfl) mList (prg_1 (by rfl) mRange (pv 0))))
      (pss_cons (ps_for PassesOwn.never rfl (pi_list (pv 1)) (pg_tup rfl (pgs_cons (pg_name (i := 3) scCyc.nd rfl (Or.inl rfl)) (pgs_cons (pg_name (i := 4) scCyc.nd rfl (Or.inl rfl)) pgs_nil)))
      (pss_cons (ps_asg (pe_tup (pa_cons (pe_ix ix_list (pv 2) (pv 3) (fun _ _ => rfl)) (pa_cons (pe_ix ix_list (pv 2) (pv 4) (fun _ _ => rfl)) pa_nil))) (pg_tup rfl (pgs_cons (pg_name (i := 5) scCyc.nd rfl (Or.inr rfl)) (pgs_cons (pg_name (i := 6) scCyc.nd rfl (Or.inr rfl)) pgs_nil))))
      (pss_cons (ps_if (pt_cmpR op_eq (pv 5) (pv 6) (nomark _)) (pss_one (ps_ret pe_bl)) pss_nil)
      (pss_one (ps_setLc (i := 2) (own := [("tree", 7)]) (g := gName 7) (tt := tYes) rfl scCyc.nd rfl rfl (sw_true rfl rfl rfl (by decide +kernel)) (pi_list (pv 2)) (blkOk_by (N := ["n", "edges", "tree_of", "p", "q", "kept", "joined", "tree"]) (sc := defScope sCyc) (by decide +kernel)) (fun _ _ _ _ _ => pg_name (i := 7) scCyc.nd rfl (Or.inl rfl)) (fun _ _ _ _ _ => pts_nil) (fun _ _ _ _ _ => pe_ifExp (pt_cmpR op_eq (pv 7) (pv 6) (nomark _)) (pv 5) (pv 7)))))))
      (pss_one (ps_ret pe_bl)))), ?_⟩
    have hlen := hp.length
    refine ⟨.int (n : Int), rfl, (n : Int), rfl, RgOk.of_le (by omega) (by omega) (by omega) (by omega), fun L hL => ?_⟩
    have e1 : Ex H (upd H L (.lst (rgV 0 (n : Int)))) := Ex.new hL
    have rg : rgV 0 (n : Int) = (List.range n).map fun x : Nat => V.int (x : Int) := by
      unfold rgV
      rw [show ((n : Int) - 0).toNat = n by omega]
      exact List.map_congr_left fun i _ => congrArg V.int (by omega)
    have hb' : ∀ e ∈ es, e.1 < n ∧ e.2 < n := hb
    refine q_forL (xs := xs) (ev_var rfl) (sq_of (e1 _ _ ha)) (fun i σ' H' => Ex H H' ∧ ∃ (t : List Nat) (M : Addr) (y3 y4 y5 y6 y7 : Option V), σ' = [some (.int (n : Int)), some (.ref a), some (.ref M), y3, y4, y5, y6, y7] ∧ H' M = some (.lst (t.map fun x : Nat => V.int (x : Int))) ∧ t.length = n ∧ cycB (es.drop i) t = cycB es (List.range n))
      (fun H2 e2 => ⟨e1.trans e2, List.range n, L, _, _, _, _, _, rfl, e2 _ _ (by rw [← rg]; exact upd_same), List.length_range, rfl⟩) (fun i σ' H' _ h => sq_of (h.1 _ _ ha)) ?_ ?_
    · rintro i x σ' H2 hx ⟨e2, t, M, y3, y4, y5, y6, y7, rfl, hM, tl, cy⟩
      obtain ⟨e, he, tp, rfl, htp⟩ := hp.get hx
      obtain ⟨b1, b2⟩ := hb e (List.mem_of_getElem? he)
      refine ⟨tp, _, rfl, st_of (e2 _ _ htp), rfl, _, _, rfl, _, [], rfl, rfl, ?_⟩
      have at' : ∀ {j : Nat}, j < n → (t.map fun x : Nat => V.int (x : Int))[j]? = some (.int ((t.getD j 0 : Nat) : Int)) := fun {j} hj => by
        rw [List.getElem?_map, List.getD_eq_getElem?_getD, List.getElem?_eq_getElem (by omega)]
        rfl
      refine q_asgPair (x := .int ((t.getD e.1 0 : Nat) : Int)) (y := .int ((t.getD e.2 0 : Nat) : Int)) (ev_op (ev_var rfl) (ev_var rfl) (rv_ixL (sq_of hM) (atI_nat (at' b1)))) (ev_op (ev_var rfl) (ev_var rfl) (rv_ixL (sq_of hM) (atI_nat (at' b2)))) rfl fun H3 e3 => ?_
      have hd : es.drop i = e :: es.drop (i + 1) := by
        have lt := (List.getElem?_eq_some_iff.mp he).1
        rw [List.drop_eq_getElem_cons lt, (List.getElem?_eq_some_iff.mp he).2]
      rw [hd] at cy
      refine q_when (b := decide (V.int ((t.getD e.1 0 : Nat) : Int) = V.int ((t.getD e.2 0 : Nat) : Int))) (et_test (ev_op (ev_var rfl) (ev_var rfl) (rv_eq rfl))) (fun hq H4 e4 => ?_) (fun hq H4 e4 => ?_)
      · have eq : t.getD e.1 0 = t.getD e.2 0 := by
          have := V.int.inj (of_decide_eq_true hq)
          omega
        have c1 : cycB (e :: es.drop (i + 1)) t = true := if_pos eq
        rw [c1] at cy
        refine s_ret (v := .bl true) ev_c fun H5 e5 => ?_
        rw [cy]
        exact q H5 (((e2.trans e3).trans e4).trans e5)
      · have ne : ¬ t.getD e.1 0 = t.getD e.2 0 := fun z => of_decide_eq_false hq (by rw [z])
        have c1 : cycB (e :: es.drop (i + 1)) t = cycB (es.drop (i + 1)) (merge t e) := if_neg ne
        rw [c1] at cy
        have hM4 := e4 _ _ (e3 _ _ hM)
        refine s_asgL (xs := (merge t e).map fun x : Nat => V.int (x : Int)) ?_ fun M' H5 hM' e5 h5 => ?_
        · unfold merge
          rw [List.map_map, ← given_map t ((fun x : Nat => V.int (x : Int)) ∘ fun x => if x = t.getD e.2 0 then t.getD e.1 0 else x) (fun i => .int ((if t.getD i 0 = t.getD e.2 0 then t.getD e.1 0 else t.getD i 0 : Nat) : Int)) (fun i x e => by
            rw [List.getD_eq_getElem?_getD, e]
            rfl)]
          rw [show t.length = (t.map fun x : Nat => V.int (x : Int)).length by rw [List.length_map]]
          refine el_lcL (f := fun _ => true) (v := _) (ev_var rfl) (sq_of hM4) (by rw [List.length_map]; omega) (fun _ => rfl) (fun i c H2 _ _ => fun H3 e3 Q q => q H3 (Ex.refl H3)) (fun i x H6 e6 hx' _ => ?_)
          rw [List.getElem?_map] at hx'
          cases hti : t[i]? with
          | none => rw [hti] at hx'; cases hx'
          | some z =>
            rw [hti] at hx'
            cases hx'
            have ez : t.getD i 0 = z := by rw [List.getD_eq_getElem?_getD, hti]; rfl
            rw [ez]
            refine ev_if (b := decide (V.int (z : Int) = V.int ((t.getD e.2 0 : Nat) : Int))) (et_test (ev_op (ev_var rfl) (ev_var rfl) (rv_eq rfl))) (fun hb => ?_) (fun hb => ?_)
            · have : z = t.getD e.2 0 := by
                have := V.int.inj (of_decide_eq_true hb)
                omega
              rw [if_pos this]
              exact ev_var rfl
            · have : ¬ z = t.getD e.2 0 := fun y => of_decide_eq_false hb (by rw [y])
              rw [if_neg this]
              exact ev_var rfl
        · exact ⟨((e2.trans e3).trans e4).trans e5, merge t e, M', _, _, _, _, _, rfl, h5, by rw [merge_length, tl], cy⟩
    · rintro σ' H2 ⟨e2, t, M, y3, y4, y5, y6, y7, rfl, hM, tl, cy⟩
      rw [hlen, List.drop_length] at cy
      refine s_ret (v := .bl false) ev_c fun H3 e3 => ?_
      rw [show false = cycB es (List.range n) from cy]
      exact q H3 (e2.trans e3)
end
end K11
namespace K11
open PySem PySem.Spec PyProof.Rows L2 Os Evl
/-- a pair of a size and a list of edges -/
def GraphV (G : Hp) (v : V) (n : Nat) (es : List Pr) : Prop := ∃ (g a : Addr) (xs : List V), v = .ref g ∧ G g = some (.tup [.int (n : Int), .ref a]) ∧ G a = some (.lst xs) ∧ PrsV G xs es
theorem GraphV.ex {G G' : Hp} {v : V} {n : Nat} {es : List Pr} (h : GraphV G v n es) (e : Ex G G') : GraphV G' v n es := by
  obtain ⟨g, a, xs, h1, h2, h3, h4⟩ := h
  exact ⟨g, a, xs, h1, e _ _ h2, e _ _ h3, h4.ex e⟩
theorem GraphV.dt {G : Hp} {v : V} {n : Nat} {es : List Pr} (h : GraphV G v n es) : Dt G v (.tuple [.int (n : Int), .list (es.map Os.prD)]) := by
  obtain ⟨g, a, xs, rfl, h2, h3, h4⟩ := h
  exact .tup h2 (.cons (.int _) (.cons (.lst h3 h4.dts) .nil))
/-- a forest, no larger than the document's -/
structure IsForest (n : Nat) (es : List Pr) : Prop where
  edges : Edges n es
  n1 : 1 ≤ n
  n40 : n ≤ 40
  few : es.length ≤ 60
theorem edge_ok {n : Nat} {es : List Pr} (h : IsForest n es) {e : Pr} (he : e ∈ es) : edgeB (n : Int) (Os.prD e) = true := by
  obtain ⟨h1, h2⟩ := h.edges.inn e he
  show (decide (0 ≤ (e.1 : Int)) && decide ((e.1 : Int) < (n : Int)) && (decide (0 ≤ (e.2 : Int)) && decide ((e.2 : Int) < (n : Int)) && decide ((e.1 : Int) < (e.2 : Int)))) = true
  rw [decide_eq_true (show 0 ≤ (e.1 : Int) by omega), decide_eq_true (show (e.1 : Int) < (n : Int) by omega), decide_eq_true (show 0 ≤ (e.2 : Int) by omega), decide_eq_true (show (e.2 : Int) < (n : Int) by omega), decide_eq_true (show (e.1 : Int) < (e.2 : Int) by omega)]
  rfl
section
variable {P : Program} {w : World} {K : PySem.W.Frag} {mg : Str → Option Value} {base : Heap}
def spForest : Sp := fun vs H Q _ => ∃ (v : V) (n : Nat) (es : List Pr), vs = [v] ∧ GraphV H v n es ∧ IsForest n es ∧ ∀ H', Ex H H' → Q (.bl true) H'
theorem ok_forest {f fI fE fA fC : Addr} {fd fdI fdE fdA fdC : FuncData} {k : Nat} (F : Fun K "is_forest" "is_forest" sForest f fd)
    (GI : FnOk P w K mg base CX0 k fI fdI ["thing"] spInt) (FI : Fun K "is_integer" "is_integer" sInt fI fdI) (bI : Binds K fdI ["thing"] []) (gI : mg "is_integer" = some (.ref fI))
    (GE : FnOk P w K mg base CX0 k fE fdE ["n", "thing"] spEdge) (FE : Fun K "is_edge" "is_edge" sEdge fE fdE) (bE : Binds K fdE ["n", "thing"] []) (gE : mg "is_edge" = some (.ref fE))
    (GA : FnOk P w K mg base CX0 k fA fdA ["edges"] spAsc) (FA : Fun K "_is_ascending" "_is_ascending" sAsc fA fdA) (bA : Binds K fdA ["edges"] []) (gA : mg "_is_ascending" = some (.ref fA))
    (GC : FnOk P w K mg base CX0 k fC fdC ["n", "edges"] spCyc) (FC : Fun K "_has_cycle" "_has_cycle" sCyc fC fdC) (bC : Binds K fdC ["n", "edges"] []) (gC : mg "_has_cycle" = some (.ref fC))
    (mIsi : mg "isinstance" = none) (mTup : mg "tuple" = none) (mLen : mg "len" = none) (mList : mg "list" = none) (mAll : mg "all" = none) {t40 : Tok} (m40 : mg "MOST_POSITIONS" = some (.int 40 t40)) : FnOk P w K mg base CX0 (k + 1) f fd ["thing"] spForest := by
  refine F.ok scForest (fun vs H Q E h => ?_) (fun cdv A outer s H vs Q E hr h => ?_)
  · obtain ⟨v, n, es, rfl, _⟩ := h
    rfl
  · obtain ⟨v, n, es, rfl, hg, ok, q⟩ := h
    refine ⟨_, (pss_cons (ps_if (PW.pt (pw_or (pt_not (pt_val (pe_callB call_isi (by rfl) mIsi boot_isinstance (pa_cons (pv 0) (pa_cons (pe_bltn (v := .ty "tuple") (by rfl) mTup boot_tuple rfl) pa_nil))))) (pw_or1 (pt_cmpR op_ne (pe_callB call_len_seq (by rfl) mLen boot_len (pa_cons (pv 0) pa_nil)) pe_int (nomark _))))) (pss_one (ps_ret pe_bl)) pss_nil)
      (pss_cons (ps_asg (pv 0) (pg_tup rfl (pgs_cons (pg_name (i := 1) scForest.nd rfl (Or.inr rfl)) (pgs_cons (pg_name (i := 2) scForest.nd rfl (Or.inl rfl)) pgs_nil))))
      (pss_cons (ps_if (PW.pt (pw_or (pt_not (pt_val (pe_call GI hr (by rfl) gI FI.kp bI .nil pass0 (pa_cons (pv 1) pa_nil)))) (pw_or1 (pt_not (pt_chain op_le op_le pe_int (pv 1) (pe_glob (v := .int 40) (by rfl) m40 ⟨_, rfl⟩)))))) (pss_one (ps_ret pe_bl)) pss_nil)
      (pss_cons (ps_if (PW.pt (pw_or (pt_not (pt_val (pe_callB call_isi (by rfl) mIsi boot_isinstance (pa_cons (pv 2) (pa_cons (pe_bltn (v := .ty "list") (by rfl) mList boot_list rfl) pa_nil))))) (pw_or1 (pt_not (pt_val (pe_callB (cr_all rfl) (by rfl) mAll boot_all (pa_cons (pe_lc (own := [("edge", 3)]) (g := gName 3) (tt := tYes) rfl scForest.nd (pi_list (pv 2)) (blkOk_by (N := ["thing", "n", "edges", "edge"]) (sc := defScope sForest) (by decide +kernel)) (fun _ _ _ _ _ => pg_name (i := 3) scForest.nd rfl (Or.inl rfl)) (fun _ _ _ _ _ => pts_nil) (fun _ _ _ _ _ => (pe_call GE hr (by rfl) gE FE.kp bE .nil pass0 (pa_cons (pv 1) (pa_cons (pv 3) pa_nil))))) pa_nil))))))) (pss_one (ps_ret pe_bl)) pss_nil)
      (pss_one (ps_ret (pe_and (pe_call GA hr (by rfl) gA FA.kp bA .nil pass0 (pa_cons (pv 2) pa_nil)) (pe_one (pe_not (pe_call GC hr (by rfl) gC FC.kp bC .nil pass0 (pa_cons (pv 1) (pa_cons (pv 2) pa_nil)))))))))))), ?_⟩
    have hd := hg.dt
    obtain ⟨g, a, xs, rfl, h2, h3, h4⟩ := hg
    have hlen := h4.length
    refine q_when (b := false) (et_is (et_or (a := !true) (b := false) (et_not (et_B (ev_isi (ev_var rfl) hd (kit_tup _)))) fun _ => et_test (ev_is (ev_op (ev_lenT (ev_var rfl) h2) ev_c (rv_ne rfl)) rfl)) rfl) (fun h => nomatch h) fun _ H1 e1 => ?_
    refine ⟨.ref g, rfl, g, _, rfl, st_of (e1 _ _ h2), rfl, .int (n : Int), _, rfl, .ref a, [], rfl, rfl, ?_⟩
    have eint : ∀ {σ : L2.St} {H2 : Hp}, σ[1]? = some (some (.int (n : Int))) → Ev (tCall spInt [] E0 (tCons (tVar 1) tNil)) σ H2 (.bl true) := fun g1 =>
      ev_sp (ea_cons (ev_var g1) ea_nil) fun H3 e3 Q q => ⟨_, .int (n : Int), rfl, .int _, fun H4 e4 => q H4 e4⟩
    have n1 := ok.n1
    have n40 := ok.n40
    refine q_when (b := false) (et_is (et_or (a := !true) (b := !(decide ((1 : Int) ≤ (n : Int)) && decide ((n : Int) ≤ 40))) (et_not (et_B (eint rfl))) fun _ => et_not (et_test (ev_chain ev_c (ev_var rfl) rv_I0 fun _ => ⟨_, ev_c, rv_I0⟩)))
      (by rw [decide_eq_true (show (1 : Int) ≤ (n : Int) by omega), decide_eq_true (show (n : Int) ≤ 40 by omega)]; rfl)) (fun h => nomatch h) fun _ H2 e2 => ?_
    have e12 := e1.trans e2
    have hl2 : Dt H2 (.ref a) (.list (es.map Os.prD)) := .lst (e12 _ _ h3) (h4.ex e12).dts
    refine q_when (b := false) (et_is (et_or (a := !true) (b := !true) (et_not (et_B (ev_isi (ev_var rfl) hl2 (kit_list _)))) fun _ => et_not (et_B (ev_is (ev_all (bs := es.map fun _ => true) ?_) ?_))) rfl) (fun h => nomatch h) fun _ H3 e3 => ?_
    · rw [List.map_map, ← given_map es (V.bl ∘ fun _ => true) (fun _ => .bl true) (fun _ _ _ => rfl), ← hlen]
      refine el_lcL (f := fun _ => true) (v := _) (ev_var rfl) (sq_of (e12 _ _ h3)) (by rw [hlen]; have := ok.few; omega) (fun _ => rfl) (fun i c H2 _ _ => fun H3 e3 Q q => q H3 (Ex.refl H3)) (fun i x H4 e4 hx _ => ?_)
      obtain ⟨e, he, pe⟩ := h4.get hx
      refine ev_sp (ea_cons (ev_var rfl) (ea_cons (ev_var rfl) ea_nil)) fun H5 e5 Q q => ⟨(n : Int), x, Os.prD e, rfl, (pe.ex ((e12.trans e4).trans e5)).dt, fun H6 e6 => ?_⟩
      rw [edge_ok ok (List.mem_of_getElem? he)]
      exact q H6 e6
    · rw [List.all_eq_true.mpr (fun b hb => by
        obtain ⟨_, _, rfl⟩ := List.mem_map.mp hb
        rfl)]
    · have e13 := e12.trans e3
      refine s_ret (v := .bl true) (ev_is (ev_andV (a := true) (b := !false) (ev_sp (ea_cons (ev_var rfl) ea_nil) fun H4 e4 Q q => ⟨a, xs, es, rfl, e4 _ _ (e13 _ _ h3), (h4.ex e13).ex e4, by have := ok.few; omega, fun H5 e5 => by rw [asc_of ok.edges.asc]; exact q H5 e5⟩)
        fun _ => ev_notV (ev_sp (ea_cons (ev_var rfl) (ea_cons (ev_var rfl) ea_nil)) fun H4 e4 Q q => ⟨n, a, xs, es, rfl, e4 _ _ (e13 _ _ h3), (h4.ex e13).ex e4, by omega, (fun e he => by have := ok.edges.inn e he; omega), fun H5 e5 => by rw [ok.edges.no_cyc]; exact q H5 e5⟩)) rfl) fun H4 e4 => q H4 (e13.trans e4)
end
end K11
/-! the law's drawn numbers: what a source holds -/
namespace Os
open PySem PySem.Spec PyProof.Rows L2 Evl

/-- at s a source: the digits left, the seed, the number of mixed draws (at most B) -/
def Src (H : Hp) (s : Addr) (B : Nat) : Prop := ∃ x y z : Int, H s = some (.lst [.int x, .int y, .int z]) ∧ 0 ≤ x ∧ 0 ≤ y ∧ y < 2 ^ 140 ∧ 0 ≤ z ∧ z ≤ (B : Int)
theorem Src.mono {H : Hp} {s : Addr} {B C : Nat} (h : Src H s B) (le : B ≤ C) : Src H s C := by
  obtain ⟨x, y, z, h1, h2, h3, h4, h5, h6⟩ := h
  exact ⟨x, y, z, h1, h2, h3, h4, h5, by omega⟩
theorem Src.ex {H H' : Hp} {s : Addr} {B : Nat} (h : Src H s B) (e : Ex H H') : Src H' s B := by
  obtain ⟨x, y, z, h1, h2⟩ := h
  exact ⟨x, y, z, e _ _ h1, h2⟩
theorem Src.at {H : Hp} {s : Addr} {B : Nat} (h : Src H s B) : ∃ o, H s = some o := by
  obtain ⟨x, y, z, h1, _⟩ := h
  exact ⟨_, h1⟩
/-- all but the source stands as it was; the source has made at most n more mixed draws -/
structure Drew (s : Addr) (B : Nat) (H H' : Hp) : Prop where
  kept : Ex (hide s H) (hide s H')
  src : Src H' s B
theorem Drew.refl {s : Addr} {B : Nat} {H : Hp} (h : Src H s B) : Drew s B H H := ⟨Ex.refl _, h⟩
theorem Drew.trans {s : Addr} {B C : Nat} {H H1 H2 : Hp} (a : Drew s B H H1) (b : Drew s C H1 H2) : Drew s C H H2 := ⟨a.kept.trans b.kept, b.src⟩
theorem Drew.ex {s : Addr} {B : Nat} {H H1 H2 : Hp} (a : Drew s B H H1) (e : Ex H1 H2) : Drew s B H H2 := ⟨a.kept.trans (Same.hide (same_ex e)), a.src.ex e⟩
theorem Drew.get {s : Addr} {B : Nat} {H H' : Hp} (a : Drew s B H H') {b : Addr} {o : HO} (n : b ≠ s) (h : H b = some o) : H' b = some o := by
  have := a.kept b o (by rw [hide_ne n]; exact h)
  exact (hide_of this).2
theorem Drew.mono {s : Addr} {B C : Nat} {H H' : Hp} (a : Drew s B H H') (le : B ≤ C) : Drew s C H H' := ⟨a.kept, a.src.mono le⟩
/-- what is free behind was free before -/
theorem Drew.none {s : Addr} {B : Nat} {H H' : Hp} (a : Drew s B H H') (h0 : ∃ o, H s = some o) {p : Addr} (h : H' p = Option.none) : H p = Option.none := by
  obtain ⟨o, so⟩ := a.src.at
  have np : p ≠ s := fun e => by rw [e, so] at h; cases h
  cases q : H p with
  | none => rfl
  | some u =>
    rw [a.get np q] at h
    cases h
/-- a new object, or one that H did not know, is changed -/
theorem Drew.mut {s : Addr} {B : Nat} {H H' : Hp} (a : Drew s B H H') {p : Addr} {o : HO} (hs : ∃ u, H s = some u) (h : H p = Option.none) : Drew s B H (upd H' p o) := by
  obtain ⟨u, hu⟩ := hs
  have np : s ≠ p := ne_of_none hu h
  refine ⟨fun b v q => ?_, ?_⟩
  · obtain ⟨q1, q2⟩ := hide_of q
    rw [hide_ne q1, upd_ne (ne_of_none q2 h)]
    exact a.get q1 q2
  · obtain ⟨x, y, z, h1, h2⟩ := a.src
    exact ⟨x, y, z, by rw [upd_ne np]; exact h1, h2⟩

/-! ### data beside a source -/
theorem Dt.drew {s : Addr} {B : Nat} {H H' : Hp} {v : V} {d : PyData} (h : Dt (hide s H) v d) (a : Drew s B H H') : Dt (hide s H') v d := h.same (same_ex a.kept)
theorem Dt.seen {s : Addr} {H : Hp} {v : V} {d : PyData} (h : Dt (hide s H) v d) : Dt H v d := h.same hide_same
theorem Dts.seen {s : Addr} {H : Hp} {vs : List V} {ds : List PyData} (h : Dts (hide s H) vs ds) : Dts H vs ds := h.same hide_same

/-! ### the numbers -/
theorem mix_bound {y z : Int} (hy0 : 0 ≤ y) (hy : y < 2 ^ 140) (hz0 : 0 ≤ z) (hz : z < 2 ^ 80) (c : Int) (hc0 : 0 ≤ c) (hc : c < 2 ^ 30) : (y + c * z).natAbs < 2 ^ 141 := by
  have h1 : 0 ≤ c * z := Int.mul_nonneg hc0 hz0
  have h2 : c * z ≤ 2 ^ 30 * 2 ^ 80 := Int.mul_le_mul (by omega) (by omega) hz0 (by decide)
  have h3 : (2 : Int) ^ 30 * 2 ^ 80 ≤ 2 ^ 140 := by decide
  omega
theorem cube_nonneg {i : Int} (h : 0 ≤ i) : 0 ≤ i ^ (3 : Int).toNat := Int.pow_nonneg h
end Os
namespace K11
open PySem PySem.Spec PyProof.Rows L2 Os Evl
abbrev sSource : Stmt := topS 17
theorem scSource : FnScope ["script", "k", "cell"] ["script", "k"] (defScope sSource) := ⟨rfl, rfl, rfl, by decide +kernel, rfl, by decide +kernel, by decide +kernel⟩
abbrev sPick : Stmt := topS 18
theorem scPick : FnScope ["source", "wide", "digit", "mixed"] ["source", "wide"] (defScope sPick) := ⟨rfl, rfl, rfl, by decide +kernel, rfl, by decide +kernel, by decide +kernel⟩
def cellOf (ns : List Int) (k : Nat) : Int := if (k : Int) < (ns.length : Int) then ns.getD k 0 else 0
section
variable {P : Program} {w : World} {K : PySem.W.Frag} {mg : Str → Option Value} {base : Heap}
def spSource (K : PySem.W.Frag) : Sp := fun vs H Q _ => ∃ (a : Addr) (ns : List Int) (k : Nat), vs = [.ref a, .int (k : Int)] ∧ SqL K H a (ns.map V.int) ∧ k ≤ 1000 ∧
  ∀ H' p, Ex H H' → H p = none → Src H' p 0 → Q (.ref p) H'
theorem ok_source {f : Addr} {fd : FuncData} {k : Nat} (F : Fun K "_law_source" "_law_source" sSource f fd) (mL : mg "len" = none) (mM : mg "max" = none) (mA : mg "abs" = none) :
    FnOk P w K mg base CX0 (k + 1) f fd ["script", "k"] (spSource K) := by
  refine F.ok scSource (fun vs H Q E h => ?_) (fun cdv A outer s H vs Q E hr h => ?_)
  · obtain ⟨a, ns, k, rfl, _⟩ := h
    rfl
  · obtain ⟨a, ns, k, rfl, hS, hk, q⟩ := h
    refine ⟨_, (pss_cons (ps_set (i := 2) scSource.nd rfl (.inl rfl) pe_int)
      (pss_cut (ps_if (pt_cmpR op_lt (pv 1) (pe_callB call_len_seq (by rfl) mL boot_len (pa_cons (pv 0) pa_nil)) (nomark _)) (pss_one (ps_set (i := 2) scSource.nd rfl (.inl rfl) (pe_ix ix_list (pv 0) (pv 1) (fun _ _ => rfl)))) pss_nil)
      (pss_one (ps_ret (pe_lst (pa_cons (pe_callB (call_max2 rfl) (by rfl) mM boot_max (pa_cons pe_int (pa_cons (pe_op op_sub (pe_callB call_abs (by rfl) mA boot_abs (pa_cons (pv 2) pa_nil)) (pe_op op_pow pe_int pe_int)) pa_nil))) (pa_cons (pe_op op_mod (pe_op op_add (pe_op op_add (pe_op op_mul (pv 2) pe_int) (pe_op op_mul pe_int (pv 1))) pe_int) pe_int) (pa_cons pe_int pa_nil)))))))), ?_⟩
    refine q_asg (v := .int 0) ev_c fun H0 e0 => ?_
    refine ⟨fun σ H' => Ex H H' ∧ ∃ c : Int, σ = [some (.ref a), some (.int (k : Int)), some (.int c)], ?_, ?_⟩
    · refine s_when (b := decide ((k : Int) < (ns.length : Int))) (et_test (ev_op (ev_var rfl) (ev_is (ev_len (ev_var rfl) (ex_l e0 hS)) (by rw [List.length_map])) rv_I0)) (fun hb H1 e1 => ?_) (fun hb H1 e1 => ⟨e0.trans e1, _, rfl⟩)
      have hb2 := of_decide_eq_true hb
      refine s_asg (v := .int (ns.getD k 0)) (ev_op (ev_var rfl) (ev_var rfl) (rv_ixL (ex_l (e0.trans e1) hS) (atI_nat (j := k) ?_))) fun H2 e2 => ⟨(e0.trans e1).trans e2, _, rfl⟩
      rw [List.getElem?_map, List.getElem?_eq_getElem (by omega), List.getD_eq_getElem?_getD, List.getElem?_eq_getElem (by omega)]
      rfl
    · rintro σ' H1 ⟨e1, c, rfl⟩
      have ec := ev_var (σ := [some (.ref a), some (.int (k : Int)), some (.int c)]) (H := H1) (i := 2) (v := .int c) rfl
      have pow : ∀ n : Int, 0 ≤ n → n ≤ 100 → CPow 10 n := fun n h1 h2 => ⟨h1, by omega, by decide⟩
      have e18 : (10 : Int) ^ (18 : Int).toNat = 1000000000000000000 := by decide
      refine s_retL (el_lst (ea_cons (ev_max ev_c (ev_op (ev_abs ec) (ev_op ev_c ev_c (rv_I (pow 18 (by decide) (by decide)))) rv_I0))
        (ea_cons (ev_op (ev_op (ev_op (ev_op ec ev_c (rv_I (.inr (by decide)))) (ev_op ev_c (ev_var rfl) (rv_I (.inl (by decide)))) rv_I0) ev_c rv_I0) ev_c (rv_I (by decide)))
        (ea_cons ev_c ea_nil))) (show 3 ≤ 100000 by decide)) fun p H2 hp e2 h2 => q H2 p (e1.trans e2) (fresh_back e1 hp) ?_
      rw [e18] at h2
      refine ⟨_, _, 0, h2, ?_, ?_, ?_, Int.le_refl _, Int.le_refl _⟩
      · split <;> omega
      · exact Int.emod_nonneg _ (by decide)
      · have := Int.emod_lt_of_pos (c * 67 + 7919 * (k : Int) + 13) (show (0 : Int) < 2305843009213693951 by decide)
        exact Int.lt_trans this (by decide)

def spPick : Sp := fun vs H Q _ => ∃ (s : Addr) (n : Int) (B : Nat), vs = [.ref s, .int n] ∧ Src H s B ∧ B ≤ 1000000 ∧ 0 < n ∧ n ≤ 1000000 ∧
  ∀ H' r, Drew s (B + 1) H H' → 0 ≤ r → r < n → Q (.int r) H'
theorem ok_pick {f : Addr} {fd : FuncData} {k : Nat} (F : Fun K "_law_pick" "_law_pick" sPick f fd) : FnOk P w K mg base CX0 (k + 1) f fd ["source", "wide"] spPick := by
  refine F.ok scPick (fun vs H Q E h => ?_) (fun cdv A outer s H vs Q E hr h => ?_)
  · obtain ⟨a, n, B, rfl, _⟩ := h
    rfl
  · obtain ⟨a, n, B, rfl, hS, hB, hn0, hn1, q⟩ := h
    refine ⟨_, (pss_cons (ps_if (pt_cmpR op_gt (pe_ix ix_list (pv 0) pe_int (fun _ _ => rfl)) pe_int (nomark _)) (pss_cons (ps_set (i := 2) scPick.nd rfl (.inl rfl) (pe_op op_mod (pe_ix ix_list (pv 0) pe_int (fun _ _ => rfl)) (pv 1)))
      (pss_cons (ps_asg (pe_op op_fdivW (pe_ix ix_list (pv 0) pe_int (fun _ _ => rfl)) (pv 1)) (pg_sub (pv 0) pe_int set_list))
      (pss_one (ps_ret (pv 2))))) pss_nil)
      (pss_cons (ps_asg (pe_op op_add (pe_ix ix_list (pv 0) pe_int (fun _ _ => rfl)) pe_int) (pg_sub (pv 0) pe_int set_list))
      (pss_cons (ps_set (i := 3) scPick.nd rfl (.inl rfl) (pe_op op_mod (pe_op op_add (pe_ix ix_list (pv 0) pe_int (fun _ _ => rfl)) (pe_op op_mul pe_int (pe_ix ix_list (pv 0) pe_int (fun _ _ => rfl)))) pe_int))
      (pss_cons (ps_set (i := 3) scPick.nd rfl (.inl rfl) (pe_op op_mod (pe_op op_add (pe_op op_add (pe_op op_mul (pv 3) (pv 3)) (pe_op op_mul (pe_op op_mul pe_int (pe_ix ix_list (pv 0) pe_int (fun _ _ => rfl))) (pv 3))) pe_int) pe_int))
      (pss_cons (ps_set (i := 3) scPick.nd rfl (.inl rfl) (pe_op op_mod (pe_op op_add (pe_op op_add (pe_op op_powW (pv 3) pe_int) (pe_ix ix_list (pv 0) pe_int (fun _ _ => rfl))) (pe_ix ix_list (pv 0) pe_int (fun _ _ => rfl))) pe_int))
      (pss_one (ps_ret (pe_op op_mod (pe_op op_fdivW (pv 3) pe_int) (pv 1))))))))), ?_⟩
    obtain ⟨x, y, z, h1, hx, hy0, hy1, hz0, hz1⟩ := hS
    have at0 : ∀ {H' : Hp} {x' y' z' : Int}, H' a = some (.lst [.int x', .int y', .int z']) → ∀ {σ : L2.St}, σ[0]? = some (some (.ref a)) →
        Ev (tOp (rIxL K) (tVar 0) (tC (.int 0))) σ H' (.int x') ∧ Ev (tOp (rIxL K) (tVar 0) (tC (.int 1))) σ H' (.int y') ∧ Ev (tOp (rIxL K) (tVar 0) (tC (.int 2))) σ H' (.int z') := fun h σ e =>
      ⟨ev_op (ev_var e) ev_c (rv_ixL (sq_of h) (atI_nat (j := 0) rfl)), ev_op (ev_var e) ev_c (rv_ixL (sq_of h) (atI_nat (j := 1) rfl)), ev_op (ev_var e) ev_c (rv_ixL (sq_of h) (atI_nat (j := 2) rfl))⟩
    have upd_drew : ∀ {H1 : Hp} {x' z' : Int}, Ex H H1 → 0 ≤ x' → 0 ≤ z' → z' ≤ ((B + 1 : Nat) : Int) → Drew a (B + 1) H (upd H1 a (.lst [.int x', .int y, .int z'])) := fun e p1 p2 p3 =>
      ⟨by rw [hide_upd]; exact Same.hide (same_ex e), _, y, _, upd_same, p1, hy0, hy1, p2, p3⟩
    refine q_when (b := decide (0 < x)) (et_test (ev_op (at0 h1 rfl).1 ev_c rv_I0)) ?_ ?_
    · intro hb H1 e1
      refine q_asg (v := .int (x % n)) (ev_op (at0 (e1 _ _ h1) rfl).1 (ev_var rfl) (rv_I hn0)) fun H2 e2 => ?_
      refine q_setL (j := 0) (xs := [.int x, .int y, .int z]) (v := .int (x / n)) (e2 _ _ (e1 _ _ h1)) (ev_op (at0 (e2 _ _ (e1 _ _ h1)) rfl).1 (ev_var rfl) (rv_I (wide_div (b := 30) hn0 (by omega) (by decide) (by decide)))) (ev_var rfl) ev_c (show 0 < 3 by decide) fun H3 e3 => ?_
      refine s_ret (v := .int (x % n)) (ev_var rfl) fun H4 e4 => ?_
      exact q H4 _ ((upd_drew ((e1.trans e2).trans e3) (Int.ediv_nonneg hx (by omega)) hz0 (by omega)).ex e4) (Int.emod_nonneg x (by omega)) (Int.emod_lt_of_pos x hn0)
    · intro hb H1 e1
      refine q_setL (j := 2) (xs := [.int x, .int y, .int z]) (v := .int (z + 1)) (e1 _ _ h1) (ev_op (at0 (e1 _ _ h1) rfl).2.2 ev_c rv_I0) (ev_var rfl) ev_c (show 2 < 3 by decide) fun H2 e2 => ?_
      have d2 : Drew a (B + 1) H (upd H2 a (.lst [.int x, .int y, .int (z + 1)])) := upd_drew (e1.trans e2) hx (by omega) (by omega)
      have h3 : (upd H2 a (.lst [.int x, .int y, .int (z + 1)])) a = some (.lst [.int x, .int y, .int (z + 1)]) := upd_same
      show tSeq _ _ _ _ (upd H2 a (.lst [.int x, .int y, .int (z + 1)]))
      generalize (upd H2 a (.lst [.int x, .int y, .int (z + 1)])) = H3 at d2 h3
      have bnd : ∀ i : Int, 0 ≤ i % 2305843009213693951 ∧ i % 2305843009213693951 < 2305843009213693951 := fun i => ⟨Int.emod_nonneg i (by decide), Int.emod_lt_of_pos i (by decide)⟩
      refine q_asg (v := .int ((y + 104729 * (z + 1)) % 2305843009213693951)) (ev_op (ev_op (at0 h3 rfl).2.1 (ev_op ev_c (at0 h3 rfl).2.2 (rv_I (.inl (by decide)))) rv_I0) ev_c (rv_I (by decide))) fun H4 e4 => ?_
      obtain ⟨m1, m2⟩ := bnd (y + 104729 * (z + 1))
      generalize (y + 104729 * (z + 1)) % 2305843009213693951 = m at m1 m2
      have mW : -(2 ^ 64 : Int) < m ∧ m < 2 ^ 64 := by omega
      refine q_asg (v := .int ((m * m + 65537 * (z + 1) * m + 31) % 2305843009213693951)) (ev_op (ev_op (ev_op (ev_op (ev_var rfl) (ev_var rfl) (rv_I (.inl mW))) (ev_op (ev_op ev_c (at0 (e4 _ _ h3) rfl).2.2 (rv_I (.inl (by decide)))) (ev_var rfl) (rv_I (.inr mW))) rv_I0) ev_c rv_I0) ev_c (rv_I (by decide))) fun H5 e5 => ?_
      obtain ⟨m3, m4⟩ := bnd (m * m + 65537 * (z + 1) * m + 31)
      generalize (m * m + 65537 * (z + 1) * m + 31) % 2305843009213693951 = m' at m3 m4
      have h5 := e5 _ _ (e4 _ _ h3)
      refine q_asg (v := .int ((m' ^ (3 : Int).toNat + y + (z + 1)) % 2305843009213693951)) (ev_op (ev_op (ev_op (ev_op (ev_var rfl) ev_c (rv_I (cube_ok (n := 62) (by omega) (by decide) (by decide)))) (at0 h5 rfl).2.1 rv_I0) (at0 h5 rfl).2.2 rv_I0) ev_c (rv_I (by decide))) fun H6 e6 => ?_
      generalize (m' ^ (3 : Int).toNat + y + (z + 1)) % 2305843009213693951 = u
      refine s_ret (v := .int (u / 4099 % n)) (ev_op (ev_op (ev_var rfl) ev_c (rv_I (wide_div (b := 30) (by decide) (by decide) (by decide) (by decide)))) (ev_var rfl) (rv_I hn0)) fun H7 e7 => ?_
      exact q H7 _ ((((d2.ex e4).ex e5).ex e6).ex e7) (Int.emod_nonneg _ (by omega)) (Int.emod_lt_of_pos _ hn0)
end
end K11
namespace K11
open PySem PySem.Spec PyProof.Rows L2 Os Evl
abbrev sShuf : Stmt := topS 19
theorem scShuf : FnScope ["source", "values", "left", "k"] ["source", "values"] (defScope sShuf) := ⟨rfl, rfl, rfl, by decide +kernel, rfl, by decide +kernel, by decide +kernel⟩
theorem perm_pop {α : Type} {l : List α} {k : Nat} {y : α} (acc : List α) (h : l[k]? = some y) : ((acc ++ [y]) ++ l.eraseIdx k).Perm (acc ++ l) := by
  obtain ⟨lt, e⟩ := List.getElem?_eq_some_iff.mp h
  rw [List.append_assoc]
  refine List.Perm.append_left acc ?_
  have e2 := List.drop_eq_getElem_cons lt
  rw [e] at e2
  rw [List.eraseIdx_eq_take_drop_succ]
  refine List.Perm.trans (l₂ := l.take k ++ y :: l.drop (k + 1)) (show (y :: (l.take k ++ l.drop (k + 1))).Perm _ from List.perm_middle.symm) ?_
  rw [← e2, List.take_append_drop]
section
variable {P : Program} {w : World} {K : PySem.W.Frag} {mg : Str → Option Value} {base : Heap}
def spShuf : Sp := fun vs H Q _ => ∃ (s a : Addr) (xs : List V) (B : Nat), vs = [.ref s, .ref a] ∧ Src H s B ∧ H a = some (.lst xs) ∧ a ≠ s ∧ xs.length ≤ 1000 ∧ B ≤ 900000 ∧
  ∀ H' p ys, Drew s (B + xs.length) H H' → H p = none → H' p = some (.lst ys) → ys.Perm xs → Q (.ref p) H'
theorem ok_shuf {f fP : Addr} {fd fdP : FuncData} {k : Nat} (F : Fun K "_law_shuffle" "_law_shuffle" sShuf f fd) (GP : FnOk P w K mg base CX0 k fP fdP ["source", "wide"] spPick) (FP : Fun K "_law_pick" "_law_pick" sPick fP fdP) (bP : Binds K fdP ["source", "wide"] [])
    (gP : mg "_law_pick" = some (.ref fP)) (mS : mg "list" = none) (mL : mg "len" = none) (mR : mg "range" = none) : FnOk P w K mg base CX0 (k + 1) f fd ["source", "values"] spShuf := by
  refine F.ok scShuf (fun vs H Q E h => ?_) (fun cdv A outer s H vs Q E hr h => ?_)
  · obtain ⟨s, a, xs, B, rfl, _⟩ := h
    rfl
  · obtain ⟨s, a, xs, B, rfl, hS, ha, nas, hl, hB, q⟩ := h
    refine ⟨_, pss_cons (ps_set (i := 2) scShuf.nd rfl (.inr rfl) (pe_callTy call_list_of (by rfl) mS boot_list (pa_cons (pv 1) pa_nil)))
      (pss_one (ps_ret (pe_lc (own := [("k", 3)]) (g := gName 3) (tt := tYes) (te := tBM K "list" rPopAt (tVar 2) (tCons (tCall spPick [] E0 (tCons (tVar 0) (tCons (tCB (rLenS K) (tCons (tVar 2) tNil)) tNil))) tNil)) rfl scShuf.nd (pi_range1 (by rfl) mR (pa_cons (pe_callB call_len_seq (by rfl) mL boot_len (pa_cons (pv 1) pa_nil)) pa_nil))
          (blkOk_by (N := ["source", "values", "left", "k"]) (sc := defScope sShuf) (by decide +kernel))
          (fun _ _ _ _ _ => pg_name (i := 3) scShuf.nd rfl (Or.inl rfl)) (fun _ _ _ _ _ => pts_nil)
          (fun _ _ _ _ _ => pe_bm PySem.F.plainAttrs_list PySem.F.slot_list_pop PySem.F.type_list_pop mt_popAt (pv 2)
            (pa_cons (pe_call GP hr (by rfl) gP FP.kp bP .nil pass0 (pa_cons (pv 0) (pa_cons (pe_callB call_len_seq (by rfl) mL boot_len (pa_cons (pv 2) pa_nil)) pa_nil))) pa_nil))))), ?_⟩
    -- left = list(row)
    refine ⟨.ref a, rfl, a, xs, rfl, .inl (sq_of ha), fun L hL => ?_⟩
    have e1 : Ex H (upd H L (.lst xs)) := Ex.new hL
    have src0 := hS.at
    -- range(len(row))
    refine ⟨.ref a, rfl, a, xs, rfl, .inl (sq_of (e1 _ _ ha)), (xs.length : Int), rfl, by omega, by omega, fun D hD => ?_⟩
    have nLD : D ≠ L := fun e => by
      rw [e, upd_same] at hD
      cases hD
    have hD0 : H D = none := fresh_back e1 hD
    refine lc_range (lo := 0) (n := (xs.length : Int).toNat) (fun i Hh => ∃ l acc, Hh L = some (.lst l) ∧ Hh D = some (.lst acc) ∧ (acc ++ l).Perm xs ∧ l.length + i = xs.length ∧ acc.length = i ∧ Drew s (B + i) H Hh) ?_ ?_ ?_
    · refine ⟨xs, [], ?_, upd_same, List.Perm.refl _, rfl, rfl, (((Drew.refl hS).ex e1).mut src0 hD0)⟩
      rw [upd_ne nLD.symm]
      exact upd_same
    · rintro i Hh hi ⟨l, acc, hl1, hD1, pm, len, len2, dr⟩
      have hi' : i < xs.length := by omega
      refine ⟨rfl, ?_⟩
      show tBM K "list" rPopAt (tVar 2) _ _ _ _
      refine ⟨.ref L, rfl, .inl ⟨rfl, _, sq_of hl1⟩, .ref s, rfl, .ref L, rfl, L, l, rfl, .inl (sq_of hl1), s, (l.length : Int), B + i, rfl, dr.src, by omega, by omega, by omega, fun H2 r dr2 r0 r1 => ?_⟩
      have nLs : L ≠ s := fun e => by
        obtain ⟨o, ho⟩ := src0
        rw [e, ho] at hL
        cases hL
      have nDs : D ≠ s := fun e => by
        obtain ⟨o, ho⟩ := src0
        rw [e, ho] at hD0
        cases hD0
      have hl2 : H2 L = some (.lst l) := dr2.get nLs hl1
      have hD2 : H2 D = some (.lst acc) := dr2.get nDs hD1
      have lt : r.toNat < l.length := by omega
      have er : r = (r.toNat : Int) := by omega
      refine ⟨L, l, r, r.toNat, l[r.toNat], rfl, rfl, hl2, by omega, by omega, (ixN_seq (by rw [er]; exact ixN_nat lt)).1, List.getElem?_eq_getElem lt, acc, ?_, ?_, ?_⟩
      · rw [upd_ne nLD]
        exact hD2
      · exact sz_lt (by omega)
      · refine ⟨l.eraseIdx r.toNat, acc ++ [l[r.toNat]], ?_, upd_same, (perm_pop acc (List.getElem?_eq_getElem lt)).trans pm, ?_, ?_, ?_⟩
        · rw [upd_ne nLD.symm]
          exact upd_same
        · rw [List.length_eraseIdx_of_lt lt]
          omega
        · rw [List.length_append, len2]
          rfl
        · exact ((dr.trans dr2).mut src0 hL).mut src0 hD0
    · rintro Hh ⟨l, acc, hl1, hD1, pm, len, len2, dr⟩
      have hn : l.length = 0 := by omega
      rw [List.length_eq_zero_iff.mp hn, List.append_nil] at pm
      exact q Hh D acc (by simpa using dr) hD0 hD1 pm
end
end K11
/-! the drawn forests: each later label is tied to an earlier one at most once -/
namespace Os
open PySem PySem.Spec PyProof.Rows L2 Evl
theorem snd_inj : ∀ {ks : List Pr}, ks.Pairwise (fun p q => p.2 < q.2) → ∀ {p q : Pr}, p ∈ ks → q ∈ ks → p.2 = q.2 → p = q
  | x :: r, h, p, q, hp, hq, e => by
    obtain ⟨h1, h2⟩ := List.pairwise_cons.mp h
    rcases List.mem_cons.mp hp with ep | hp
    · rcases List.mem_cons.mp hq with eq | hq
      · rw [ep, eq]
      · have := h1 q hq
        rw [ep] at e
        omega
    · rcases List.mem_cons.mp hq with eq | hq
      · have := h1 p hp
        rw [eq] at e
        omega
      · exact snd_inj h2 hp hq e
def edgeOf (lab : List Nat) (p : Pr) : Pr := (min (lab.getD p.1 0) (lab.getD p.2 0), max (lab.getD p.1 0) (lab.getD p.2 0))
/-- the places that hang below those of T -/
def below : List Pr → (Nat → Bool) → Nat → Bool
  | [], T => T
  | p :: r, T => below r fun x => T x || (decide (x = p.2) && T p.1)
theorem below_out : ∀ {ks : List Pr} {T : Nat → Bool} {x : Nat}, (∀ p ∈ ks, p.2 ≠ x) → below ks T x = T x
  | [], _, _, _ => rfl
  | p :: r, T, x, h => by
    show below r _ x = T x
    rw [below_out fun q hq => h q (List.mem_cons_of_mem _ hq), decide_eq_false fun e => h p List.mem_cons_self e.symm, Bool.false_and, Bool.or_false]
theorem below_tie : ∀ {ks : List Pr} {T : Nat → Bool} {a k : Nat}, (∀ p ∈ ks, p.1 < p.2) → ks.Pairwise (fun p q => p.2 < q.2) → (a, k) ∈ ks → below ks T k = (T k || below ks T a)
  | p :: r, T, a, k, hl, inc, hm => by
    obtain ⟨i1, i2⟩ := List.pairwise_cons.mp inc
    rcases List.mem_cons.mp hm with e | hm
    · subst e
      have lt : a < k := hl _ List.mem_cons_self
      show below r _ k = (T k || below r _ a)
      rw [below_out (x := k) fun q hq e => by have := i1 q hq; omega, below_out (x := a) fun q hq e => by have := i1 q hq; omega]
      rw [decide_eq_true rfl, decide_eq_false (show ¬ a = k by omega), Bool.true_and, Bool.false_and, Bool.or_false]
    · have gt : p.2 < k := i1 _ hm
      show below r _ k = (T k || below r _ a)
      rw [below_tie (fun q hq => hl q (List.mem_cons_of_mem _ hq)) i2 hm, decide_eq_false (show ¬ k = p.2 by omega), Bool.false_and, Bool.or_false]
theorem below_up : ∀ {ks : List Pr} {T : Nat → Bool} {x : Nat}, T x = true → below ks T x = true
  | [], _, _, h => h
  | p :: r, T, x, h => below_up (ks := r) (by rw [h]; rfl)
theorem below_ge : ∀ {ks : List Pr} {T : Nat → Bool} {c : Nat}, (∀ p ∈ ks, p.1 < p.2) → (∀ x, T x = true → c ≤ x) → ∀ x, below ks T x = true → c ≤ x
  | [], _, _, _, h => h
  | p :: r, T, c, hl, h => below_ge (ks := r) (fun q hq => hl q (List.mem_cons_of_mem _ hq)) fun x hx => by
    rw [Bool.or_eq_true, Bool.and_eq_true] at hx
    rcases hx with hx | ⟨h1, h2⟩
    · exact h x hx
    · have e := of_decide_eq_true h1
      have := h p.1 h2
      have := hl p List.mem_cons_self
      omega
theorem perm_nats {l : List Nat} {ys : List V} (h : ys.Perm (l.map fun x : Nat => V.int (x : Int))) : ∃ us : List Nat, ys = us.map (fun x : Nat => V.int (x : Int)) ∧ us.Perm l := by
  have back : ∀ x ∈ ys, ∃ z : Nat, x = V.int (z : Int) := fun x hx => by
    obtain ⟨z, _, e⟩ := List.mem_map.mp (h.mem_iff.mp hx)
    exact ⟨z, e.symm⟩
  let un : V → Nat := fun v => match v with
    | .int z => z.toNat
    | _ => 0
  refine ⟨ys.map un, ?_, ?_⟩
  · rw [List.map_map]
    have : ys.map ((fun x : Nat => V.int (x : Int)) ∘ un) = ys.map id := List.map_congr_left fun x hx => by
      obtain ⟨z, e⟩ := back x hx
      rw [e]
      rfl
    rw [this, List.map_id]
  · have := h.map un
    rw [List.map_map] at this
    have e : l.map (un ∘ fun x : Nat => V.int (x : Int)) = l := by
      have : l.map (un ∘ fun x : Nat => V.int (x : Int)) = l.map id := List.map_congr_left fun x _ => rfl
      rw [this, List.map_id]
    rwa [e] at this
section
variable {lab : List Nat} {n : Nat}
theorem lab_len (pm : lab.Perm (List.range n)) : lab.length = n := by rw [pm.length_eq, List.length_range]
theorem lab_lt (pm : lab.Perm (List.range n)) {i : Nat} (h : i < n) : lab.getD i 0 < n := by
  rw [List.getD_eq_getElem?_getD, List.getElem?_eq_getElem (by rw [lab_len pm]; exact h)]
  exact List.mem_range.mp (pm.mem_iff.mp (List.getElem_mem _))
theorem lab_inj (pm : lab.Perm (List.range n)) {i j : Nat} (hi : i < n) (hj : j < n) (e : lab.getD i 0 = lab.getD j 0) : i = j := by
  have nd : lab.Nodup := pm.nodup_iff.mpr List.nodup_range
  have li : i < lab.length := by rw [lab_len pm]; exact hi
  have lj : j < lab.length := by rw [lab_len pm]; exact hj
  rw [List.getD_eq_getElem?_getD, List.getD_eq_getElem?_getD, List.getElem?_eq_getElem li, List.getElem?_eq_getElem lj] at e
  have e' : lab[i] = lab[j] := e
  refine Decidable.byContradiction fun ne => ?_
  rcases Nat.lt_or_gt_of_ne ne with h | h
  · exact List.pairwise_iff_getElem.mp nd i j li lj h e'
  · exact List.pairwise_iff_getElem.mp nd j i lj li h e'.symm
/-- a property of places, said of labels -/
def onLab (lab : List Nat) (n : Nat) (T : Nat → Bool) (x : Nat) : Bool := (List.range n).any fun i => decide (lab.getD i 0 = x) && T i
theorem onLab_at (pm : lab.Perm (List.range n)) (T : Nat → Bool) {i : Nat} (hi : i < n) : onLab lab n T (lab.getD i 0) = T i := by
  unfold onLab
  cases h : T i with
  | true => exact List.any_eq_true.mpr ⟨i, List.mem_range.mpr hi, by rw [decide_eq_true rfl, h]; rfl⟩
  | false =>
    refine List.any_eq_false.mpr fun j hj z => ?_
    rw [Bool.and_eq_true] at z
    have e := lab_inj pm (List.mem_range.mp hj) hi (of_decide_eq_true z.1)
    rw [e, h] at z
    cases z.2
theorem minmax (S : Nat → Bool) (u v : Nat) : (S (min u v) = S (max u v)) ↔ S u = S v := by
  by_cases h : u ≤ v
  · rw [Nat.min_eq_left h, Nat.max_eq_right h]
  · rw [Nat.min_eq_right (by omega), Nat.max_eq_left (by omega)]
    exact ⟨Eq.symm, Eq.symm⟩
theorem drawn_edges {ks : List Pr} (pm : lab.Perm (List.range n)) (hl : ∀ p ∈ ks, p.1 < p.2 ∧ p.2 < n) (inc : ks.Pairwise fun p q => p.2 < q.2) :
    (∀ e ∈ ks.map (edgeOf lab), e.1 < e.2 ∧ e.2 < n) ∧ (ks.map (edgeOf lab)).Nodup ∧ Bridges (ks.map (edgeOf lab)) := by
  refine ⟨fun e he => ?_, ?_, fun e he => ?_⟩
  · obtain ⟨p, hp, rfl⟩ := List.mem_map.mp he
    obtain ⟨h1, h2⟩ := hl p hp
    have a := lab_lt pm (show p.1 < n by omega)
    have b := lab_lt pm h2
    have ne : lab.getD p.1 0 ≠ lab.getD p.2 0 := fun z => by
      have := lab_inj pm (show p.1 < n by omega) h2 z
      omega
    show min _ _ < max _ _ ∧ max _ _ < n
    omega
  · unfold List.Nodup
    rw [List.pairwise_map]
    refine List.Pairwise.imp_of_mem (fun {p q} hp hq lt e => ?_) inc
    obtain ⟨h1, h2⟩ := hl p hp
    obtain ⟨h3, h4⟩ := hl q hq
    have e1 : min (lab.getD p.1 0) (lab.getD p.2 0) = min (lab.getD q.1 0) (lab.getD q.2 0) := congrArg Prod.fst e
    have e2 : max (lab.getD p.1 0) (lab.getD p.2 0) = max (lab.getD q.1 0) (lab.getD q.2 0) := congrArg Prod.snd e
    have or : (lab.getD p.1 0 = lab.getD q.1 0 ∧ lab.getD p.2 0 = lab.getD q.2 0) ∨ (lab.getD p.1 0 = lab.getD q.2 0 ∧ lab.getD p.2 0 = lab.getD q.1 0) := by omega
    rcases or with ⟨_, z⟩ | ⟨z1, z2⟩
    · have := lab_inj pm h2 h4 z
      omega
    · have := lab_inj pm (by omega) h4 z1
      have := lab_inj pm h2 (by omega) z2
      omega
  · obtain ⟨p, hp, rfl⟩ := List.mem_map.mp he
    obtain ⟨h1, h2⟩ := hl p hp
    have hl1 : ∀ q ∈ ks, q.1 < q.2 := fun q hq => (hl q hq).1
    refine ⟨onLab lab n (below ks fun x => decide (x = p.2)), ?_, fun f hf ne => ?_⟩
    · intro z
      have z2 := (minmax _ _ _).mp z
      rw [onLab_at pm _ (show p.1 < n by omega), onLab_at pm _ h2, below_up (x := p.2) (decide_eq_true rfl)] at z2
      have := below_ge (c := p.2) hl1 (fun x hx => by have := of_decide_eq_true hx; omega) p.1 z2
      omega
    · obtain ⟨q, hq, rfl⟩ := List.mem_map.mp hf
      obtain ⟨h3, h4⟩ := hl q hq
      refine (minmax _ _ _).mpr ?_
      rw [onLab_at pm _ (show q.1 < n by omega), onLab_at pm _ h4]
      have nk : q.2 ≠ p.2 := fun z => by
        have : p = q := snd_inj inc hp hq z.symm
        rw [this] at ne
        exact ne rfl
      have t := below_tie (T := fun x => decide (x = p.2)) hl1 inc (show (q.1, q.2) ∈ ks from hq)
      rw [decide_eq_false nk, Bool.false_or] at t
      exact t.symm
end
/-! ### sorted -/
theorem Bridges.perm {es fs : List Pr} (h : Bridges es) (pm : fs.Perm es) : Bridges fs := fun e he => by
  obtain ⟨S, h1, h2⟩ := h e (pm.mem_iff.mp he)
  exact ⟨S, h1, fun f hf => h2 f (pm.mem_iff.mp hf)⟩
theorem asc_strict {es : List Pr} (nd : es.Nodup) (small : ∀ e ∈ es, e.1 < 64 ∧ e.2 < 64) (h : es.Pairwise fun e f => (e.1 : Int) * 64 + (e.2 : Int) ≤ (f.1 : Int) * 64 + (f.2 : Int)) : es.Pairwise fun e f => ltP e f = true := by
  have h2 := h.and nd
  refine List.Pairwise.imp_of_mem (fun {e f} he hf z => ?_) h2
  obtain ⟨a1, a2⟩ := small e he
  obtain ⟨b1, b2⟩ := small f hf
  rw [ltP_iff]
  by_cases q : e.1 = f.1
  · by_cases q2 : e.2 = f.2
    · exact absurd (Prod.ext q q2) z.2
    · have := z.1
      omega
  · have := z.1
    omega
end Os
/-! what evaluates to something of a kind: displays, sums and slices whose items are new objects themselves -/
namespace Os
open PySem PySem.Spec PyProof.Rows L2 Evl

/-- R is kept by more heap -/
def Up (R : Hp → V → Prop) : Prop := ∀ G G' v, Ex G G' → R G v → R G' v
section
variable (s : Addr) (R : Hp → V → Prop)
def EvR (te : TE) (σ : L2.St) (H : Hp) : Prop := ∀ H1, Ex H H1 → ∀ Q : VK, (∀ v H2, Ex H1 H2 → R (hide s H2) v → Q v H2) → te σ H1 Q
def EvAR (ta : TA) (σ : L2.St) (H : Hp) (n : Nat) : Prop := ∀ H1, Ex H H1 → ∀ Q : List V → Hp → Prop, (∀ vs H2, Ex H1 H2 → vs.length = n → (∀ v ∈ vs, R (hide s H2) v) → Q vs H2) → ta σ H1 Q
/-- a new list of lo to hi such items -/
def EvLR (te : TE) (σ : L2.St) (H : Hp) (lo hi : Nat) : Prop := ∀ H1, Ex H H1 → ∀ Q : VK,
  (∀ p xs H2, H1 p = none → Ex H1 H2 → H2 p = some (.lst xs) → lo ≤ xs.length → xs.length ≤ hi → (∀ x ∈ xs, R (hide s H2) x) → Q (.ref p) H2) → te σ H1 Q
/-- a list that stands at p, the same of its items -/
def LsR (H : Hp) (p : Addr) (lo hi : Nat) : Prop := p ≠ s ∧ ∃ xs, H p = some (.lst xs) ∧ lo ≤ xs.length ∧ xs.length ≤ hi ∧ ∀ x ∈ xs, R (hide s H) x
end
section
variable {K : PySem.W.Frag} {s : Addr} {R : Hp → V → Prop} {σ : L2.St} {H H' : Hp} {ta tb te : TE} {tl tr : TA} {n m lo hi lo' hi' : Nat} {v : V}
theorem hide_ex (e : Ex H H') : Ex (hide s H) (hide s H') := Same.hide (same_ex e)
theorem er_of (up : Up R) (h : Ev te σ H v) (r : R (hide s H) v) : EvR s R te σ H := fun H1 e Q q =>
  h H1 e _ fun H2 e2 => q v H2 e2 (up _ _ _ (hide_ex (e.trans e2)) r)
theorem er_mono (e : Ex H H') (h : EvR s R te σ H) : EvR s R te σ H' := fun H1 a Q q => h H1 (e.trans a) Q q
theorem ear_nil : EvAR s R tNil σ H 0 := fun H1 _ Q q => q [] H1 (Ex.refl _) rfl fun _ h => nomatch h
theorem ear_cons (up : Up R) (h : EvR s R te σ H) (hr : EvAR s R tr σ H n) : EvAR s R (tCons te tr) σ H (n + 1) := fun H1 e Q q =>
  h H1 e _ fun v H2 e2 r => hr H2 (e.trans e2) _ fun vs H3 e3 hn hv => q (v :: vs) H3 (e2.trans e3) (by rw [List.length_cons, hn]) fun x hx => by
    rcases List.mem_cons.mp hx with rfl | hx
    · exact up _ _ _ (hide_ex e3) r
    · exact hv x hx
theorem new_apart (hs : ∃ o, H s = some o) {p : Addr} (h : H p = none) : p ≠ s := fun e => by
  obtain ⟨o, ho⟩ := hs
  rw [e, ho] at h
  cases h
theorem elr_lst (up : Up R) (h : EvAR s R tl σ H n) (hn : n ≤ 1000) : EvLR s R (tLst tl) σ H n n := fun H1 e Q q =>
  h H1 e _ fun vs H2 e2 hl hv => ⟨by rw [hl]; exact sz_of (by omega), fun p hp => q p vs _ (fresh_back e2 hp) (e2.trans (Ex.new hp)) upd_same (by omega) (by omega) fun x hx => up _ _ _ (hide_ex (Ex.new hp)) (hv x hx)⟩
theorem elr_cat (up : Up R) (h1 : EvLR s R ta σ H lo hi) (h2 : EvLR s R tb σ H lo' hi') (hn : hi + hi' ≤ 10000) : EvLR s R (tOp rCat ta tb) σ H (lo + lo') (hi + hi') := fun H1 e Q q =>
  h1 H1 e _ fun p xs H2 hp e2 hx l1 l2 rx => h2 H2 (e.trans e2) _ fun p' ys H3 hp' e3 hy l3 l4 ry =>
    ⟨p, p', xs, ys, rfl, rfl, e3 _ _ hx, hy, sz_of (by omega), fun r hr => q r (xs ++ ys) _ (fresh_back (e2.trans e3) hr) ((e2.trans e3).trans (Ex.new hr)) upd_same (by rw [List.length_append]; omega) (by rw [List.length_append]; omega) fun x hx => by
      rcases List.mem_append.mp hx with z | z
      · exact up _ _ _ (hide_ex (e3.trans (Ex.new hr))) (rx x z)
      · exact up _ _ _ (hide_ex (Ex.new hr)) (ry x z)⟩
/-- the left one stands there already -/
theorem elr_catV (up : Up R) {p : Addr} (h1 : Ev ta σ H (.ref p)) (hp : LsR s R H p lo hi) (h2 : EvLR s R tb σ H lo' hi') (hn : hi + hi' ≤ 10000) : EvLR s R (tOp rCat ta tb) σ H (lo + lo') (hi + hi') := fun H1 e Q q => by
  obtain ⟨_, xs, hx, l1, l2, rx⟩ := hp
  exact h1 H1 e _ fun H2 e2 => h2 H2 (e.trans e2) _ fun p' ys H3 hp' e3 hy l3 l4 ry =>
    ⟨p, p', xs, ys, rfl, rfl, ((e.trans e2).trans e3) _ _ hx, hy, sz_of (by omega), fun r hr => q r (xs ++ ys) _ (fresh_back (e2.trans e3) hr) ((e2.trans e3).trans (Ex.new hr)) upd_same (by rw [List.length_append]; omega) (by rw [List.length_append]; omega) fun x hx => by
      rcases List.mem_append.mp hx with z | z
      · exact up _ _ _ (hide_ex (((e.trans e2).trans e3).trans (Ex.new hr))) (rx x z)
      · exact up _ _ _ (hide_ex (Ex.new hr)) (ry x z)⟩
/-- a list that is known whole -/
theorem elr_of (up : Up R) {xs : List V} (h : EvL te σ H xs) (l1 : lo ≤ xs.length) (l2 : xs.length ≤ hi) (r : ∀ x ∈ xs, R (hide s H) x) : EvLR s R te σ H lo hi := fun H1 e Q q =>
  h H1 e _ fun p H2 hp e2 h2 => q p xs H2 hp e2 h2 l1 l2 fun x hx => up _ _ _ (hide_ex (e.trans e2)) (r x hx)
/-- such a list as a value of another kind -/
theorem er_list {R' : Hp → V → Prop} (hs : ∃ o, H s = some o) (h : EvLR s R te σ H lo hi) (f : ∀ p xs G, G p = some (.lst xs) → lo ≤ xs.length → xs.length ≤ hi → (∀ x ∈ xs, R G x) → R' G (.ref p)) : EvR s R' te σ H := fun H1 e Q q =>
  h H1 e _ fun p xs H2 hp e2 h2 l1 l2 r => q (.ref p) H2 e2 (f p xs _ (by
    rw [hide_ne (new_apart (by obtain ⟨o, ho⟩ := hs; exact ⟨o, e _ _ ho⟩) hp)]
    exact h2) l1 l2 r)
theorem er_tup {R' : Hp → V → Prop} (up : Up R) (hs : ∃ o, H s = some o) (h : EvAR s R tl σ H n) (hn : n ≤ 1000) (f : ∀ p xs G, G p = some (.tup xs) → xs.length = n → (∀ x ∈ xs, R G x) → R' G (.ref p)) : EvR s R' (tTup tl) σ H := fun H1 e Q q =>
  h H1 e _ fun vs H2 e2 hl hv => ⟨by rw [hl]; exact sz_of (by omega), fun p hp => q (.ref p) _ (e2.trans (Ex.new hp)) (f p vs _ (by
    rw [hide_ne (new_apart (by obtain ⟨o, ho⟩ := hs; exact ⟨o, e2 _ _ (e _ _ ho)⟩) hp)]
    exact upd_same) hl fun x hx => up _ _ _ (hide_ex (Ex.new hp)) (hv x hx))⟩
theorem er_imp {R' : Hp → V → Prop} (h : EvR s R te σ H) (f : ∀ G v, R G v → R' G v) : EvR s R' te σ H := fun H1 e Q q => h H1 e Q fun v H2 e2 r => q v H2 e2 (f _ _ r)
/-- statements -/
theorem q_asgR {i : Nat} {D : Ends} {tz : TS} (h : EvR s R te σ H) (k : ∀ v H1, Ex H H1 → R (hide s H1) v → tz D (σ.set i (some v)) H1) : tSeq (tAsg te (gName i)) tz D σ H := h H (Ex.refl H) _ fun v H1 e r => k v H1 e r
theorem q_asgLR {i : Nat} {D : Ends} {tz : TS} (hs : ∃ o, H s = some o) (h : EvLR s R te σ H lo hi) (k : ∀ p H1, H p = none → Ex H H1 → LsR s R H1 p lo hi → tz D (σ.set i (some (.ref p))) H1) : tSeq (tAsg te (gName i)) tz D σ H :=
  h H (Ex.refl H) _ fun p xs H1 hp e h1 l1 l2 r => k p H1 hp e ⟨new_apart hs hp, xs, h1, l1, l2, r⟩
theorem LsR.drew {B : Nat} (up : Up R) {p : Addr} (h : LsR s R H p lo hi) (d : Drew s B H H') : LsR s R H' p lo hi := by
  obtain ⟨np, xs, hx, l1, l2, r⟩ := h
  exact ⟨np, xs, d.get np hx, l1, l2, fun x hx => up _ _ _ d.kept (r x hx)⟩
theorem LsR.ex (up : Up R) {p : Addr} (h : LsR s R H p lo hi) (e : Ex H H') : LsR s R H' p lo hi := by
  obtain ⟨np, xs, hx, l1, l2, r⟩ := h
  exact ⟨np, xs, e _ _ hx, l1, l2, fun x hx => up _ _ _ (hide_ex e) (r x hx)⟩
theorem LsR.pick {Kf : PySem.W.Frag} {p : Addr} {r : Int} {Q : VK} (h : LsR s R H p lo hi) (r0 : 0 ≤ r) (r1 : r < (lo : Int)) (q : ∀ x, R (hide s H) x → Q x H) : rIxL Kf (.ref p) (.int r) H Q := by
  obtain ⟨_, xs, hx, l1, l2, hr⟩ := h
  have lt : r.toNat < xs.length := by omega
  have e : r = (r.toNat : Int) := by omega
  rw [e]
  exact ⟨p, xs, _, xs[r.toNat], rfl, rfl, sq_of hx, atI_nat (List.getElem?_eq_getElem lt), q _ (hr _ (List.getElem_mem lt))⟩
end
end Os
namespace K11
open PySem PySem.Spec PyProof.Rows L2 Os Evl
abbrev sGraph : Stmt := topS 20
theorem scGraph : FnScope ["source", "most", "size", "names", "style", "gaps", "pairs", "k", "parent"] ["source", "most"] (defScope sGraph) := ⟨rfl, rfl, rfl, by decide +kernel, rfl, by decide +kernel, by decide +kernel⟩
theorem PrsV.put {s p : Addr} {G : Hp} {xs' zs vs : List V} {es : List Pr} (h : PrsV (hide s G) vs es) (np : p ≠ s) (hp : G p = some (.lst xs')) : PrsV (hide s (upd G p (.lst zs))) vs es := by
  induction h with
  | nil => exact .nil
  | cons x _ ih =>
    obtain ⟨t, rfl, ht⟩ := x
    obtain ⟨n1, h1⟩ := hide_of ht
    refine .cons ⟨t, rfl, ?_⟩ ih
    rw [hide_ne n1, upd_ne fun e => by
      rw [e, hp] at h1
      cases h1]
    exact h1
theorem PrsV.mem {G : Hp} : ∀ {vs : List V} {es : List Pr} {e : Pr}, PrsV G vs es → e ∈ es → ∃ v ∈ vs, PrV G v e
  | _, _, _, .cons p r, h => by
    rcases List.mem_cons.mp h with rfl | h
    · exact ⟨_, List.mem_cons_self, p⟩
    · obtain ⟨v, h1, h2⟩ := PrsV.mem r h
      exact ⟨v, List.mem_cons_of_mem _ h1, h2⟩
theorem PrsV.pairwise {G : Hp} {R : V → V → Prop} {S : Pr → Pr → Prop} : ∀ {vs : List V} {es : List Pr}, PrsV G vs es → vs.Pairwise R → (∀ v u e f, R v u → PrV G v e → PrV G u f → S e f) → es.Pairwise S
  | _, _, .nil, _, _ => .nil
  | _, _, .cons p r, h, k => by
    obtain ⟨h1, h2⟩ := List.pairwise_cons.mp h
    refine List.pairwise_cons.mpr ⟨fun f hf => ?_, PrsV.pairwise r h2 k⟩
    obtain ⟨u, hu, pu⟩ := PrsV.mem r hf
    exact k _ _ _ _ (h1 u hu) p pu
theorem drawn_if {s : Addr} {C : Nat} {t : TT} {tu tw : TS} {D : Ends} {σ : L2.St} {H : Hp} (h : ∀ Q : Bool → Hp → Prop, (∀ H1, Drew s C H H1 → Q true H1) → (∀ H1, Drew s C H H1 → Q false H1) → t σ H Q) (k1 : ∀ H1, Drew s C H H1 → tu D σ H1) (k2 : ∀ H1, Drew s C H H1 → tw D σ H1) : tIfS t tu tw D σ H :=
  h _ (fun H1 d => k1 H1 d) (fun H1 d => k2 H1 d)
section
variable {P : Program} {w : World} {K : PySem.W.Frag} {mg : Str → Option Value} {base : Heap}
def spGraph : Sp := fun vs H Q _ => ∃ (s : Addr) (m B : Nat), vs = [.ref s, .int (m : Int)] ∧ 1 ≤ m ∧ m ≤ 40 ∧ Src H s B ∧ B ≤ 800000 ∧
  ∀ (H' : Hp) (v : V) (n : Nat) (es : List Pr), Drew s (B + 200) H H' → GraphV (hide s H') v n es → IsForest n es → Q v H'
theorem ok_graph {f fP fS : Addr} {fd fdP fdS : FuncData} {k : Nat} (F : Fun K "_law_graph" "_law_graph" sGraph f fd) (GP : FnOk P w K mg base CX0 k fP fdP ["source", "wide"] spPick) (FP : Fun K "_law_pick" "_law_pick" sPick fP fdP) (bP : Binds K fdP ["source", "wide"] [])
    (gP : mg "_law_pick" = some (.ref fP)) (GS : FnOk P w K mg base CX0 k fS fdS ["source", "values"] spShuf) (FS : Fun K "_law_shuffle" "_law_shuffle" sShuf fS fdS) (bS : Binds K fdS ["source", "values"] []) (gS : mg "_law_shuffle" = some (.ref fS))
    (mRange : mg "range" = none) (mList : mg "list" = none) (mMax : mg "max" = none) (mMin : mg "min" = none) (mSorted : mg "sorted" = none) :
    FnOk P w K mg base CX0 (k + 1) f fd ["source", "most"] spGraph := by
  refine F.ok scGraph (fun vs H Q E h => ?_) (fun cdv A outer s H vs Q E hr h => ?_)
  · obtain ⟨s, m, B, rfl, _⟩ := h
    rfl
  · obtain ⟨s, m, B, rfl, hm1, hm40, hS, hB, q⟩ := h
    refine ⟨_, (pss_cons (ps_set (i := 2) scGraph.nd rfl (.inl rfl) (pe_ix ix_list (pe_lst (pa_cons (pe_op op_add pe_int (pe_call GP hr (by rfl) gP FP.kp bP .nil pass0 (pa_cons (pv 0) (pa_cons (pv 1) pa_nil)))) (pa_cons (pv 1) (pa_cons (pe_op op_add pe_int (pe_call GP hr (by rfl) gP FP.kp bP .nil pass0 (pa_cons (pv 0) (pa_cons (pe_callB (call_min2 rfl) (by rfl) mMin boot_min (pa_cons (pv 1) (pa_cons pe_int pa_nil))) pa_nil)))) pa_nil)))) (pe_call GP hr (by rfl) gP FP.kp bP .nil pass0 (pa_cons (pv 0) (pa_cons pe_int pa_nil))) (fun _ _ => rfl)))
      (pss_cons (ps_set (i := 3) scGraph.nd rfl (.inl rfl) (pe_call GS hr (by rfl) gS FS.kp bS .nil pass0 (pa_cons (pv 0) (pa_cons (pe_listRg rfl (by rfl) mList (prg_1 (by rfl) mRange (pv 2))) pa_nil))))
      (pss_cons (ps_set (i := 4) scGraph.nd rfl (.inl rfl) (pe_call GP hr (by rfl) gP FP.kp bP .nil pass0 (pa_cons (pv 0) (pa_cons pe_int pa_nil))))
      (pss_cons (ps_set (i := 5) scGraph.nd rfl (.inl rfl) (pe_ix ix_list (pe_lst (pa_cons pe_int (pa_cons pe_int (pa_cons pe_int pa_nil)))) (pe_call GP hr (by rfl) gP FP.kp bP .nil pass0 (pa_cons (pv 0) (pa_cons pe_int pa_nil))) (fun _ _ => rfl)))
      (pss_cons (ps_set (i := 6) scGraph.nd rfl (.inl rfl) (pe_lst pa_nil))
      (pss_cons (ps_for PassesOwn.never rfl (pi_range2 (by rfl) mRange (pa_cons pe_int (pa_cons (pv 2) pa_nil))) (pg_name (i := 7) scGraph.nd rfl (Or.inl rfl))
      (pss_cons (ps_set (i := 8) scGraph.nd rfl (.inl rfl) (pe_ix ix_list (pv 3) (pe_ix ix_list (pe_lst (pa_cons (pe_op op_sub (pv 7) pe_int) (pa_cons pe_int (pa_cons (pe_call GP hr (by rfl) gP FP.kp bP .nil pass0 (pa_cons (pv 0) (pa_cons (pv 7) pa_nil))) (pa_cons (pe_callB (call_max2 rfl) (by rfl) mMax boot_max (pa_cons pe_int (pa_cons (pe_op op_sub (pe_op op_sub (pv 7) pe_int) (pe_call GP hr (by rfl) gP FP.kp bP .nil pass0 (pa_cons (pv 0) (pa_cons pe_int pa_nil)))) pa_nil))) pa_nil))))) (pv 4) (fun _ _ => rfl)) (fun _ _ => rfl)))
      (pss_one (ps_if (PW.pt (pw_or (pt_cmpR op_eq (pv 5) pe_int (nomark _)) (pw_or1 (pt_cmpR op_gt (pe_call GP hr (by rfl) gP FP.kp bP .nil pass0 (pa_cons (pv 0) (pa_cons (pv 5) pa_nil))) pe_int (nomark _))))) (pss_one (ps_expr (pe_bm PySem.F.plainAttrs_list PySem.F.slot_list_append PySem.F.type_list_append mt_append (pv 6) (pa_cons (pe_tup (pa_cons (pe_callB (call_min2 rfl) (by rfl) mMin boot_min (pa_cons (pe_ix ix_list (pv 3) (pv 7) (fun _ _ => rfl)) (pa_cons (pv 8) pa_nil))) (pa_cons (pe_callB (call_max2 rfl) (by rfl) mMax boot_max (pa_cons (pe_ix ix_list (pv 3) (pv 7) (fun _ _ => rfl)) (pa_cons (pv 8) pa_nil))) pa_nil))) pa_nil)))) pss_nil))))
      (pss_one (ps_ret (pe_tup (pa_cons (pv 2) (pa_cons (pe_callB (cr_sortT (d := 2) (B := 64) (by decide)) (by rfl) mSorted boot_sorted (pa_cons (pv 6) pa_nil)) pa_nil))))))))))), ?_⟩
    have src0 := hS.at
    have rgn : ∀ n : Nat, rgV 0 (n : Int) = (List.range n).map fun x : Nat => V.int (x : Int) := fun n => by
      unfold rgV
      rw [show ((n : Int) - 0).toNat = n by omega]
      exact List.map_congr_left fun i _ => congrArg V.int (by omega)
    -- size
    refine ⟨.ref s, rfl, .int (m : Int), rfl, s, (m : Int), B, rfl, hS, by omega, by omega, by omega, fun H1 r1 d1 r10 r11 => ⟨1, r1, rfl, rfl, .int (m : Int), rfl, ?_⟩⟩
    refine ⟨.ref s, rfl, .int (m : Int), rfl, (m : Int), 6, rfl, s, if (6 : Int) < (m : Int) then 6 else (m : Int), B + 1, rfl, d1.src, by omega, by split <;> omega, by split <;> omega, fun H2 r2 d2 r20 r21 => ⟨1, r2, rfl, rfl, show 3 ≤ sizeLine by decide, fun p1 hp1 => ?_⟩⟩
    have D3 := d1.trans d2
    have r21' : r2 < 40 := by split at r21 <;> omega
    have D4 := D3.ex (Ex.new (o := .lst [.int (1 + r1), .int (m : Int), .int (1 + r2)]) hp1)
    have np1 : p1 ≠ s := new_apart D3.src.at hp1
    refine ⟨.ref s, rfl, s, 3, B + 2, rfl, D4.src, by omega, by decide, by decide, fun H4 r4 d4 r40 r41 => ?_⟩
    obtain ⟨n, hn, n1, n40⟩ : ∃ n : Nat, ([.int (1 + r1), .int (m : Int), .int (1 + r2)] : List V)[r4.toNat]? = some (.int (n : Int)) ∧ 1 ≤ n ∧ n ≤ 40 := by
      obtain ⟨a1, rfl⟩ : ∃ a : Nat, r1 = (a : Int) := ⟨r1.toNat, by omega⟩
      obtain ⟨a2, rfl⟩ : ∃ a : Nat, r2 = (a : Int) := ⟨r2.toNat, by omega⟩
      have h4 : r4.toNat < 3 := by omega
      match r4.toNat, h4 with
      | 0, _ => exact ⟨1 + a1, rfl, by omega, by omega⟩
      | 1, _ => exact ⟨m, rfl, by omega, by omega⟩
      | 2, _ => exact ⟨1 + a2, rfl, by omega, by omega⟩
    obtain ⟨t4, rfl⟩ : ∃ a : Nat, r4 = (a : Int) := ⟨r4.toNat, by omega⟩
    refine ⟨p1, _, (t4 : Int), .int (n : Int), rfl, rfl, sq_of (d4.get np1 upd_same), atI_nat hn, ?_⟩
    have D7 := D4.trans d4
    -- names
    refine ⟨.ref s, rfl, .int (n : Int), rfl, (n : Int), rfl, RgOk.of_le (by omega) (by omega) (by omega) (by omega), fun L hL => ?_⟩
    have D8 := D7.ex (Ex.new (o := .lst (rgV 0 (n : Int))) hL)
    refine ⟨s, L, rgV 0 (n : Int), B + 3, rfl, D8.src, upd_same, new_apart D7.src.at hL, by rw [rgn, List.length_map, List.length_range]; omega, by omega, fun H7 La ys d7 hLa hys pm => ?_⟩
    rw [rgn, List.length_map, List.length_range] at d7
    rw [rgn] at pm D8 hLa
    obtain ⟨lab, rfl, pl⟩ := perm_nats pm
    have D9 := D8.trans d7
    have nLa : La ≠ s := fun e => by
      obtain ⟨o, ho⟩ := D8.src.at
      rw [e, ho] at hLa
      cases hLa
    -- style, gaps
    refine ⟨.ref s, rfl, s, 4, B + 3 + n, rfl, D9.src, by omega, by decide, by decide, fun H5 r5 d5 r50 r51 => ?_⟩
    refine ⟨show 3 ≤ sizeLine by decide, fun pg hpg => ?_⟩
    have D10 := (D9.trans d5).ex (Ex.new (o := .lst [.int 1, .int 12, .int 3]) hpg)
    have npg : pg ≠ s := new_apart (D9.trans d5).src.at hpg
    refine ⟨.ref s, rfl, s, 3, B + 4 + n, rfl, D10.src.mono (by omega), by omega, by decide, by decide, fun H6 r6 d6 r60 r61 => ?_⟩
    obtain ⟨gp, hgp, g1, g40⟩ : ∃ g : Nat, ([.int 1, .int 12, .int 3] : List V)[r6.toNat]? = some (.int (g : Int)) ∧ 1 ≤ g ∧ g ≤ 40 := by
      have h4 : r6.toNat < 3 := by omega
      match r6.toNat, h4 with
      | 0, _ => exact ⟨1, rfl, by omega, by omega⟩
      | 1, _ => exact ⟨12, rfl, by omega, by omega⟩
      | 2, _ => exact ⟨3, rfl, by omega, by omega⟩
    obtain ⟨t6, rfl⟩ : ∃ a : Nat, r6 = (a : Int) := ⟨r6.toNat, by omega⟩
    refine ⟨pg, _, (t6 : Int), .int (gp : Int), rfl, rfl, sq_of (d6.get npg upd_same), atI_nat hgp, ?_⟩
    have D11 := D10.trans d6
    have hysA : H6 La = some (.lst (lab.map fun x : Nat => V.int (x : Int))) := ((d5.ex (Ex.new (o := .lst [.int 1, .int 12, .int 3]) hpg)).trans d6).get nLa hys
    refine q_asgL (xs := []) (el_lst ea_nil (Nat.zero_le _)) fun Pa H8 hPa e8 hP8 => ?_
    have nPs : Pa ≠ s := new_apart D11.src.at hPa
    have nPL : La ≠ Pa := ne_of_none hysA hPa
    have D12 := D11.ex e8
    have hPH : H Pa = none := D11.none src0 hPa
    have ll := lab_len pl
    have labAt : ∀ {j : Nat}, j < n → (lab.map fun x : Nat => V.int (x : Int))[j]? = some (.int ((lab.getD j 0 : Nat) : Int)) := fun {j} hj => by
      rw [List.getElem?_map, List.getD_eq_getElem?_getD, List.getElem?_eq_getElem (by omega)]
      rfl
    refine q_forR2 (lo := 1) (n := (n : Int)) (ea_cons ev_c (ea_cons (ev_var rfl) ea_nil)) ⟨by omega, by omega, by omega, by omega⟩
      (fun i σ' H' => ∃ (ks : List Pr) (xs : List V) (y8 y9 : Option V), σ' = [some (.ref s), some (.int (m : Int)), some (.int (n : Int)), some (.ref La), some (.int r5), some (.int (gp : Int)), some (.ref Pa), y8, y9] ∧ H' La = some (.lst (lab.map fun x : Nat => V.int (x : Int))) ∧
        H' Pa = some (.lst xs) ∧ PrsV (hide s H') xs (ks.map (edgeOf lab)) ∧ (∀ p ∈ ks, p.1 < p.2 ∧ p.2 < 1 + i ∧ p.2 < n) ∧ (ks.Pairwise fun p q => p.2 < q.2) ∧ ks.length ≤ i ∧ i ≤ 40 ∧ Drew s (B + 6 + n + 3 * i) H H')
      (fun H9 e9 => ⟨[], [], _, _, rfl, e9 _ _ (e8 _ _ hysA), e9 _ _ hP8, .nil, (fun p hp => nomatch hp), .nil, Nat.le_refl _, Nat.zero_le _, (D12.ex e9).mono (by omega)⟩) ?_ ?_
    · rintro i σ' H9 hi ⟨ks, xs, y8, y9, rfl, hLa9, hPa9, prs, kin, inc, kl, i40, dr⟩
      have hk : (1 : Int) + (i : Int) = ((1 + i : Nat) : Int) := by omega
      rw [hk]
      have lt_n : 1 + i < n := by omega
      -- parent
      refine ⟨.ref La, rfl, .int ((1 + i : Nat) : Int), rfl, ((1 + i : Nat) : Int), 1, rfl, rfl, ?_⟩
      refine ⟨.ref s, rfl, .int ((1 + i : Nat) : Int), rfl, s, ((1 + i : Nat) : Int), B + 6 + n + 3 * i, rfl, dr.src, by omega, by omega, by omega, fun Ha ra da ra0 ra1 => ?_⟩
      refine ⟨.int ((1 + i : Nat) : Int), rfl, ((1 + i : Nat) : Int), 1, rfl, rfl, .ref s, rfl, s, 3, _, rfl, da.src, by omega, by decide, by decide, fun Hb rb db rb0 rb1 => ?_⟩
      refine ⟨_, rb, rfl, rfl, 0, _, rfl, show 4 ≤ sizeLine by decide, fun p4 hp4 => ?_⟩
      obtain ⟨ah, hah, ahlt⟩ : ∃ a : Nat, ([.int (((1 + i : Nat) : Int) - 1), .int 0, .int ra, .int (if ((1 + i : Nat) : Int) - 1 - rb > 0 then ((1 + i : Nat) : Int) - 1 - rb else 0)] : List V)[r5.toNat]? = some (.int (a : Int)) ∧ a < 1 + i := by
        have h4 : r5.toNat < 4 := by omega
        match r5.toNat, h4 with
        | 0, _ => exact ⟨i, congrArg some (congrArg V.int (show ((1 + i : Nat) : Int) - 1 = (i : Int) by omega)), by omega⟩
        | 1, _ => exact ⟨0, rfl, by omega⟩
        | 2, _ => exact ⟨ra.toNat, congrArg some (congrArg V.int (show ra = (ra.toNat : Int) by omega)), by omega⟩
        | 3, _ =>
          by_cases hc : ((1 + i : Nat) : Int) - 1 - rb > 0
          · refine ⟨(((1 + i : Nat) : Int) - 1 - rb).toNat, ?_, by omega⟩
            rw [if_pos hc]
            exact congrArg some (congrArg V.int (by omega))
          · refine ⟨0, ?_, by omega⟩
            rw [if_neg hc]
            rfl
      have e4 : Ex Hb _ := Ex.new (o := .lst [.int (((1 + i : Nat) : Int) - 1), .int 0, .int ra, .int (if ((1 + i : Nat) : Int) - 1 - rb > 0 then ((1 + i : Nat) : Int) - 1 - rb else 0)]) hp4
      have da' := (da.trans db).ex e4
      have hLa' := da'.get nLa hLa9
      refine ⟨.int r5, rfl, p4, _, r5, .int (ah : Int), rfl, rfl, sq_of upd_same, by rw [show r5 = (r5.toNat : Int) by omega]; exact atI_nat hah, ?_⟩
      refine ⟨La, _, (ah : Int), .int ((lab.getD ah 0 : Nat) : Int), rfl, rfl, sq_of hLa', atI_nat (labAt (by omega)), ?_⟩
      dsimp only [gName]
      refine drawn_if (s := s) (C := B + 6 + n + 3 * (i + 1)) (fun Q' q1 q2 => ?_) (fun Hc dc => ?_) (fun Hc dc => ?_)
      · refine ⟨.int (gp : Int), rfl, rfl, _, rfl, ite2 (fun _ => q1 _ (Drew.refl (da'.src.mono (by omega)))) (fun _ => ?_)⟩
        refine ⟨.ref s, rfl, .int (gp : Int), rfl, s, (gp : Int), _, rfl, da'.src, by omega, by omega, by omega, fun Hd rd dd rd0 rd1 => ⟨rd, 0, rfl, rfl, ?_⟩⟩
        refine ⟨_, rfl, ?_⟩
        cases hz : decide ((0 : Int) < rd) with
        | true => exact q1 _ (dd.mono (by omega))
        | false => exact q2 _ (dd.mono (by omega))
      · have dF := da'.trans dc
        have hLa10 := dF.get nLa hLa9
        have hPa10 := dF.get nPs hPa9
        have e1 : edgeOf lab (ah, 1 + i) = (min (lab.getD ah 0) (lab.getD (1 + i) 0), max (lab.getD ah 0) (lab.getD (1 + i) 0)) := rfl
        have m1 : (V.int (if ((lab.getD ah 0 : Nat) : Int) < ((lab.getD (1 + i) 0 : Nat) : Int) then ((lab.getD ah 0 : Nat) : Int) else ((lab.getD (1 + i) 0 : Nat) : Int))) = V.int (((edgeOf lab (ah, 1 + i)).1 : Nat) : Int) := by
          rw [e1]
          refine congrArg V.int ?_
          show _ = ((min (lab.getD ah 0) (lab.getD (1 + i) 0) : Nat) : Int)
          split <;> omega
        have m2 : (V.int (if ((lab.getD ah 0 : Nat) : Int) > ((lab.getD (1 + i) 0 : Nat) : Int) then ((lab.getD ah 0 : Nat) : Int) else ((lab.getD (1 + i) 0 : Nat) : Int))) = V.int (((edgeOf lab (ah, 1 + i)).2 : Nat) : Int) := by
          rw [e1]
          refine congrArg V.int ?_
          show _ = ((max (lab.getD ah 0) (lab.getD (1 + i) 0) : Nat) : Int)
          split <;> omega
        have exA : ∀ {σ : L2.St} {j c : Nat}, σ[3]? = some (some (.ref La)) → σ[c]? = some (some (.int (j : Int))) → j < n → Ev (tOp (rIxL K) (tVar 3) (tVar c)) σ Hc (.int ((lab.getD j 0 : Nat) : Int)) := fun {σ j c} g6 g7 hj => ev_op (ev_var g6) (ev_var g7) (rv_ixL (sq_of hLa10) (atI_nat (labAt hj)))
        refine s_appU (ys := [.int (((edgeOf lab (ah, 1 + i)).1 : Nat) : Int), .int (((edgeOf lab (ah, 1 + i)).2 : Nat) : Int)]) hPa10 (ev_var rfl) (eu_tup (ea_cons (ev_is (ev_min (exA rfl rfl (by omega)) (ev_var rfl)) m1) (ea_cons (ev_is (ev_max (exA rfl rfl (by omega)) (ev_var rfl)) m2) ea_nil)) (by show 2 ≤ 100000; decide)) (by have := prs.length; rw [List.length_map] at this; omega) fun pt Hd hpt ed hptd => ?_
        have npt : pt ≠ s := new_apart dF.src.at hpt
        have dG := dF.ex ed
        have nptPa : Pa ≠ pt := ne_of_none hPa10 hpt
        refine ⟨ks ++ [(ah, 1 + i)], xs ++ [.ref pt], _, _, rfl, ?_, upd_same, ?_, ?_, ?_, ?_, by omega, ?_⟩
        · rw [upd_ne nPL]
          exact ed _ _ hLa10
        · rw [List.map_append]
          have p1 : PrsV (hide s Hd) (xs ++ [.ref pt]) (ks.map (edgeOf lab) ++ [edgeOf lab (ah, 1 + i)]) := (prs.ex dG.kept).append (.cons ⟨pt, rfl, by rw [hide_ne npt]; exact hptd⟩ .nil)
          exact PrsV.put p1 nPs (ed _ _ hPa10)
        · intro p hp
          rcases List.mem_append.mp hp with hp | hp
          · have := kin p hp
            omega
          · rw [List.mem_singleton.mp hp]
            exact ⟨ahlt, by show 1 + i < 1 + (i + 1); omega, lt_n⟩
        · refine List.pairwise_append.mpr ⟨inc, List.pairwise_singleton _ _, fun p hp q hq => ?_⟩
          rw [List.mem_singleton.mp hq]
          exact (kin p hp).2.1
        · rw [List.length_append]
          show ks.length + 1 ≤ i + 1
          omega
        · exact (dr.trans dG).mut src0 hPH
      · have dF := da'.trans dc
        exact ⟨ks, xs, _, _, rfl, dF.get nLa hLa9, dF.get nPs hPa9, prs.ex dF.kept, fun p hp => by have := kin p hp; omega, inc, by omega, by omega, dr.trans dF⟩
    · rintro σ' H9 ⟨ks, xs, y8, y9, rfl, hLa9, hPa9, prs, kin, inc, kl, i40, dr⟩
      obtain ⟨g1, g2, g3⟩ := drawn_edges pl (fun p hp => ⟨(kin p hp).1, (kin p hp).2.2⟩) inc
      have xl := prs.length
      rw [List.length_map] at xl
      have small : ∀ e ∈ ks.map (edgeOf lab), e.1 < 64 ∧ e.2 < 64 := fun e he => by have := g1 e he; omega
      refine ⟨.int (n : Int), rfl, .ref Pa, rfl, Pa, xs, rfl, sq_of hPa9, by omega, fun x hx => ?_, fun ys p pm pw hp => ⟨show 2 ≤ sizeLine by decide, fun t ht => ?_⟩⟩
      · obtain ⟨j, hj⟩ := List.mem_iff_getElem?.mp hx
        obtain ⟨e, he, tt, rfl, htt⟩ := prs.get hj
        have se := small e (List.mem_of_getElem? he)
        exact ⟨[(e.1 : Int), (e.2 : Int)], ⟨tt, rfl, st_of (hide_of htt).2⟩, rfl, fun m hm => by
          rcases List.mem_cons.mp hm with rfl | hm
          · omega
          · rw [List.mem_singleton.mp hm]
            omega⟩
      · obtain ⟨fs, pf, pmf⟩ := prs.perm pm
        have sf : fs.Pairwise fun e f => (e.1 : Int) * 64 + (e.2 : Int) ≤ (f.1 : Int) * 64 + (f.2 : Int) := PrsV.pairwise pf pw fun v u e f r pv pu => by
          obtain ⟨tv, rfl, hv⟩ := pv
          obtain ⟨tu, rfl, hu⟩ := pu
          have := r [(e.1 : Int), (e.2 : Int)] [(f.1 : Int), (f.2 : Int)] ⟨tv, rfl, st_of (hide_of hv).2⟩ ⟨tu, rfl, st_of (hide_of hu).2⟩
          rwa [code_pair, code_pair] at this
        have np : p ≠ s := new_apart dr.src.at hp
        have dS := dr.ex (Ex.new (o := .lst ys) hp)
        have nt : t ≠ s := new_apart dS.src.at ht
        have eT := Ex.new (o := .tup [.int (n : Int), .ref p]) ht
        have dT := dS.ex eT
        refine q _ (.ref t) n fs (dT.mono (by omega)) ⟨t, p, ys, rfl, by rw [hide_ne nt]; exact upd_same, by rw [hide_ne np]; exact eT _ _ upd_same, (pf.ex (hide_ex (Ex.new hp))).ex (hide_ex eT)⟩ ⟨⟨fun e he => g1 e (pmf.mem_iff.mp he), asc_strict (pmf.nodup_iff.mpr g2) (fun e he => small e (pmf.mem_iff.mp he)) sf, g3.perm pmf⟩, n1, n40, by rw [pmf.length_eq, List.length_map]; omega⟩
end
end K11
/-! data of bounded text and depth; sorted texts; permutations -/
namespace Os
open PySem PySem.Spec PyProof.Rows L2 Evl
theorem listText_len (ts : List Str) : (listText ts).length ≤ 2 + piled ts := by
  cases ts with
  | nil => decide
  | cons t ts =>
    unfold listText
    show (textFrom 1 ((("[" : Str) ++ ("" : Str)) ++ t) ts ++ ("]" : Str)).length ≤ _
    rw [strLen_append, textFrom_length_pos ts 1 _ (by decide), strLen_append, strLen_append, piled_cons]
    have e1 : ("[" : Str).length = 1 := by decide
    have e2 : ("" : Str).length = 0 := by decide
    have e3 : ("]" : Str).length = 1 := by decide
    omega
theorem tupleText_len (ts : List Str) : (tupleText ts).length ≤ 3 + piled ts := by
  unfold tupleText
  rw [strLen_append, strLen_append]
  have e1 : ("(" : Str).length = 1 := by decide
  have e2 : ((if ts.length == 1 then ",)" else ")" : String) : Str).length ≤ 2 := by split <;> decide
  cases ts with
  | nil => decide
  | cons t ts =>
    have := join_length_add (t :: ts) (fun h => nomatch h)
    omega
theorem str_codes {z : Str} (h : PyData.strOk z = true) : ∀ c ∈ z.cps.toList, c < 1114112 := by
  unfold PyData.strOk at h
  rw [← Array.all_toList, List.all_eq_true] at h
  exact fun c hc => of_decide_eq_true (h c hc)
theorem str_of_codes {z : Str} (h : ∀ c ∈ z.cps.toList, c < 1114112) : PyData.strOk z = true := by
  unfold PyData.strOk
  rw [← Array.all_toList, List.all_eq_true]
  exact fun c hc => decide_eq_true (h c hc)
theorem int_shown : ∀ i, i < 64 → (PyData.int ((i : Nat) : Int)).shown.length ≤ 100 := by decide +kernel
theorem dts_strs {H : Hp} : ∀ zs : List Str, Dts H (zs.map V.str) (zs.map PyData.str)
  | [] => .nil
  | z :: zs => .cons (.str z) (dts_strs zs)

/-- data of ints, texts, lists and tuples -/
structure Sh (n : Nat) (d : PyData) : Prop where
  lay : d.canLay0 = true
  deep : d.depth ≤ n
theorem sh_all {n : Nat} : ∀ {ds : List PyData}, (∀ d ∈ ds, Sh n d) → PyData.canLayAll0 ds = true ∧ PyData.depthAll ds ≤ n
  | [], _ => ⟨rfl, Nat.zero_le _⟩
  | d :: ds, h => by
    obtain ⟨h1, h2⟩ := sh_all (ds := ds) fun x hx => h x (List.mem_cons_of_mem _ hx)
    have i := h d List.mem_cons_self
    refine ⟨?_, ?_⟩
    · show (d.canLay0 && PyData.canLayAll0 ds) = true
      rw [i.lay, h1]
      rfl
    · show max d.depth (PyData.depthAll ds) ≤ n
      have := i.deep
      omega
theorem Sh.lst {n : Nat} {ds : List PyData} (h : ∀ d ∈ ds, Sh n d) : Sh (n + 1) (.list ds) := ⟨(sh_all h).1, Nat.succ_le_succ (sh_all h).2⟩
theorem Sh.tup {n : Nat} {ds : List PyData} (h : ∀ d ∈ ds, Sh n d) : Sh (n + 1) (.tuple ds) := ⟨(sh_all h).1, Nat.succ_le_succ (sh_all h).2⟩
theorem Sh.int (n : Nat) (i : Int) : Sh n (.int i) := ⟨rfl, Nat.zero_le _⟩
theorem Sh.str (n : Nat) {z : Str} (h : PyData.strOk z = true) : Sh n (.str z) := ⟨h, Nat.zero_le _⟩
theorem Sh.mono {m n : Nat} {d : PyData} (h : Sh m d) (le : m ≤ n) : Sh n d := ⟨h.lay, Nat.le_trans h.deep le⟩
theorem Sh.shaped {n : Nat} {d : PyData} (h : Sh n d) (le : n ≤ 64) : SeqAt.shaped d = true := by
  show (d.canLay0 && decide (d.depth ≤ 64)) = true
  rw [h.lay, decide_eq_true (Nat.le_trans h.deep le)]
  rfl
theorem Sh.refl {n : Nat} {d : PyData} (h : Sh n d) : PyData.eqv d d = true := SeqAt.eqv_refl d h.lay
/-- data of bounded text -/
structure Lim (L D : Nat) (d : PyData) : Prop where
  long : d.shown.length ≤ L
  deep : d.depth ≤ D
  show' : d.showable = true
  flat : d.hasDict = false
theorem Lim.fit {L D : Nat} {d : PyData} (h : Lim L D d) (h1 : L ≤ 1000000) (h2 : D ≤ 40) : Fit sizeLine d := ⟨Nat.le_trans h.long (Nat.le_trans h1 (by decide)), Nat.le_trans h.deep h2, h.show', h.flat⟩
theorem Lim.mono {L D L' D' : Nat} {d : PyData} (h : Lim L D d) (h1 : L ≤ L') (h2 : D ≤ D') : Lim L' D' d := ⟨Nat.le_trans h.long h1, Nat.le_trans h.deep h2, h.show', h.flat⟩
theorem lim_all {L D : Nat} : ∀ {ds : List PyData}, (∀ d ∈ ds, Lim L D d) → piled (PyData.shownAll ds) ≤ (L + 2) * ds.length ∧ PyData.depthAll ds ≤ D ∧ PyData.showableAll ds = true ∧ PyData.hasDictAll ds = false
  | [], _ => ⟨Nat.le_refl _, Nat.zero_le _, rfl, rfl⟩
  | d :: ds, h => by
    obtain ⟨h1, h2, h3, h4⟩ := lim_all (ds := ds) fun x hx => h x (List.mem_cons_of_mem _ hx)
    have i := h d List.mem_cons_self
    refine ⟨?_, ?_, ?_, ?_⟩
    · show piled (d.shown :: PyData.shownAll ds) ≤ (L + 2) * (ds.length + 1)
      rw [piled_cons, Nat.mul_succ]
      have := i.long
      omega
    · show max d.depth (PyData.depthAll ds) ≤ D
      have := i.deep
      omega
    · show (d.showable && PyData.showableAll ds) = true
      rw [i.show', h3]
      rfl
    · show (d.hasDict || PyData.hasDictAll ds) = false
      rw [i.flat, h4]
      rfl
theorem Lim.lst {L D m : Nat} {ds : List PyData} (h : ∀ d ∈ ds, Lim L D d) (hm : ds.length ≤ m) : Lim (3 + (L + 2) * m) (D + 1) (.list ds) := by
  obtain ⟨h1, h2, h3, h4⟩ := lim_all h
  have := Nat.mul_le_mul_left (L + 2) hm
  refine ⟨?_, Nat.succ_le_succ h2, h3, h4⟩
  show (listText (PyData.shownAll ds)).length ≤ _
  have := listText_len (PyData.shownAll ds)
  omega
theorem Lim.tup {L D m : Nat} {ds : List PyData} (h : ∀ d ∈ ds, Lim L D d) (hm : ds.length ≤ m) : Lim (3 + (L + 2) * m) (D + 1) (.tuple ds) := by
  obtain ⟨h1, h2, h3, h4⟩ := lim_all h
  have := Nat.mul_le_mul_left (L + 2) hm
  refine ⟨?_, Nat.succ_le_succ h2, h3, h4⟩
  show (tupleText (PyData.shownAll ds)).length ≤ _
  have := tupleText_len (PyData.shownAll ds)
  omega
theorem Lim.str {z : Str} (h : z.length ≤ 8) (ok : PyData.strOk z = true) : Lim 100 0 (.str z) := by
  refine ⟨?_, Nat.zero_le _, rfl, rfl⟩
  show (reprText z).length ≤ _
  have := StrLaws.reprText_len z fun c hc => Nat.lt_trans (str_codes ok c hc) (by decide)
  omega
theorem Lim.int {i : Nat} (h : i < 64) : Lim 100 0 (.int (i : Int)) := by
  refine ⟨int_shown i h, Nat.zero_le _, ?_, rfl⟩
  show decide (((i : Int)).natAbs.log2 < 1920) = true
  refine decide_eq_true ?_
  have : ((i : Int)).natAbs = i := by omega
  rw [this]
  exact Nat.lt_of_le_of_lt (Nat.log2_le_self i) (by omega)
/-! ### sorted texts -/
theorem rising_pair : ∀ {p : Str} {l : List Str}, risingS p l = true → (p :: l).Pairwise fun a b => ¬ b.cps.toList < a.cps.toList
  | p, [], _ => List.pairwise_singleton _ _
  | p, x :: r, h => by
    have h' : (!ltCps x.cps.toList p.cps.toList && risingS x r) = true := h
    rw [Bool.and_eq_true, ltCps_eq, Bool.not_eq_true', decide_eq_false_iff_not] at h'
    have ih := rising_pair h'.2
    refine List.pairwise_cons.mpr ⟨fun b hb => ?_, ih⟩
    rcases List.mem_cons.mp hb with rfl | hb
    · exact h'.1
    · have h2 := List.rel_of_pairwise_cons ih hb
      exact fun z => h2 (Decidable.byContradiction fun n => h'.1 (by
        exact List.lt_of_le_of_lt (List.not_lt.mp n) z))
theorem sortedS_pair {l : List Str} (h : sortedS l = true) : l.Pairwise fun a b => ¬ b.cps.toList < a.cps.toList := by
  cases l with
  | nil => exact .nil
  | cons x r => exact rising_pair h
theorem sorted_same {l m : List Str} (p : l.Perm m) (h1 : sortedS l = true) (h2 : sortedS m = true) : l = m :=
  List.Perm.eq_of_pairwise (fun a b _ _ x y => by
    have e : a.cps.toList = b.cps.toList := List.le_antisymm (List.not_lt.mp x) (List.not_lt.mp y)
    cases a
    cases b
    exact congrArg Str.mk (Array.ext' e)) (sortedS_pair h1) (sortedS_pair h2) p
/-! ### swaps -/
def swp (zs : List Str) (e : Pr) : List Str := (zs.set e.1 (zs.getD e.2 ⟨#[]⟩)).set e.2 (zs.getD e.1 ⟨#[]⟩)
theorem swp_len (zs : List Str) (e : Pr) : (swp zs e).length = zs.length := by
  unfold swp
  rw [List.length_set, List.length_set]
theorem swp_perm {zs : List Str} {e : Pr} (h1 : e.1 < zs.length) (h2 : e.2 < zs.length) : (swp zs e).Perm zs := by
  unfold swp
  rw [List.getD_eq_getElem?_getD, List.getD_eq_getElem?_getD, List.getElem?_eq_getElem h1, List.getElem?_eq_getElem h2]
  exact List.set_set_perm h1 h2
def swps (zs : List Str) (es : List Pr) : List Str := es.foldl swp zs
theorem swps_perm {n : Nat} : ∀ {es : List Pr} {zs : List Str}, zs.length = n → (∀ e ∈ es, e.1 < n ∧ e.2 < n) → (swps zs es).Perm zs
  | [], _, _, _ => List.Perm.refl _
  | e :: r, zs, hl, h => by
    obtain ⟨a, b⟩ := h e List.mem_cons_self
    exact (swps_perm (by rw [swp_len, hl]) fun f hf => h f (List.mem_cons_of_mem _ hf)).trans (swp_perm (by omega) (by omega))
/-! ### two ascending lists of pairs with the same entries -/
theorem pairs_same {l m : List Pr} (p : l.Perm m) (h1 : l.Pairwise fun e f => (e.1 : Int) * 64 + (e.2 : Int) ≤ (f.1 : Int) * 64 + (f.2 : Int)) (h2 : m.Pairwise fun e f => ltP e f = true) (small : ∀ e ∈ m, e.1 < 64 ∧ e.2 < 64) : l = m := by
  refine List.Perm.eq_of_pairwise (le := fun e f => (e.1 : Int) * 64 + (e.2 : Int) ≤ (f.1 : Int) * 64 + (f.2 : Int)) (fun a b ha hb x y => ?_) h1 (List.Pairwise.imp_of_mem (fun {a b} ha hb h => ?_) h2) p
  · have sa := small a (p.mem_iff.mp ha)
    have sb := small b hb
    exact Prod.ext (by omega) (by omega)
  · have sa := small a ha
    have sb := small b hb
    rw [ltP_iff] at h
    omega
end Os
/-! the cycles of a permutation -/
namespace Os
open PySem PySem.Spec PyProof.Rows L2 Evl
theorem few_below : ∀ (n : Nat) {l : List Nat}, l.Nodup → (∀ x ∈ l, x < n) → l.length ≤ n
  | 0, l, _, h => by
    cases l with
    | nil => exact Nat.le_refl _
    | cons x r => exact absurd (h x List.mem_cons_self) (Nat.not_lt_zero x)
  | n + 1, l, nd, h => by
    have h1 : ∀ x ∈ l.erase n, x < n := fun x hx => by
      have m := List.mem_of_mem_erase hx
      have := h x m
      have ne : x ≠ n := fun e => by
        rw [e] at hx
        exact List.Nodup.not_mem_erase nd hx
      omega
    have ih := few_below n (nd.erase n) h1
    rw [List.length_erase] at ih
    split at ih <;> omega
def itr (f : List Nat) : Nat → Nat → Nat
  | 0, x => x
  | k + 1, x => f.getD (itr f k x) 0
/-- f is a permutation of the places below n -/
structure IsPerm (f : List Nat) (n : Nat) : Prop where
  len : f.length = n
  lt : ∀ i, i < n → f.getD i 0 < n
  inj : ∀ i j, i < n → j < n → f.getD i 0 = f.getD j 0 → i = j
section
variable {f : List Nat} {n : Nat}
theorem itr_lt (p : IsPerm f n) : ∀ (k : Nat) {x : Nat}, x < n → itr f k x < n
  | 0, _, h => h
  | k + 1, _, h => p.lt _ (itr_lt p k h)
theorem itr_back (p : IsPerm f n) {x : Nat} (hx : x < n) : ∀ (i j : Nat), itr f i x = itr f (i + j) x → x = itr f j x
  | 0, j, e => by rw [Nat.zero_add] at e; exact e
  | i + 1, j, e => by
    rw [show i + 1 + j = (i + j) + 1 by omega] at e
    exact itr_back p hx i j (p.inj _ _ (itr_lt p i hx) (itr_lt p (i + j) hx) e)
theorem itr_returns (p : IsPerm f n) {x : Nat} (hx : x < n) : ∃ j, j < n ∧ itr f (j + 1) x = x := Decidable.byContradiction fun no => by
  have nd : ((List.range (n + 1)).map fun i => itr f i x).Nodup := by
    unfold List.Nodup
    rw [List.pairwise_map]
    refine List.Pairwise.imp_of_mem (fun {i j} hi hj lt e => ?_) List.pairwise_lt_range
    have hj' := List.mem_range.mp hj
    have b := itr_back p hx i (j - i) (by rw [show i + (j - i) = j by omega]; exact e)
    exact no ⟨j - i - 1, by omega, by rw [show j - i - 1 + 1 = j - i by omega]; exact b.symm⟩
  have := few_below n nd fun y hy => by
    obtain ⟨i, _, rfl⟩ := List.mem_map.mp hy
    exact itr_lt p i hx
  rw [List.length_map, List.length_range] at this
  omega
def per (f : List Nat) (n x : Nat) : Nat := ((List.range n).find? fun j => itr f (j + 1) x == x).getD 0 + 1
theorem per_ok (p : IsPerm f n) {x : Nat} (hx : x < n) : 1 ≤ per f n x ∧ per f n x ≤ n ∧ itr f (per f n x) x = x ∧ ∀ j, 1 ≤ j → j < per f n x → itr f j x ≠ x := by
  obtain ⟨j, hj, e⟩ := itr_returns p hx
  unfold per
  cases hf : (List.range n).find? fun j => itr f (j + 1) x == x with
  | none => exact absurd (List.find?_eq_none.mp hf j (List.mem_range.mpr hj)) (by rw [e]; simp)
  | some m =>
    obtain ⟨h1, h2, h3⟩ := List.find?_range_eq_some.mp hf
    have hm := List.mem_range.mp h2
    show 1 ≤ m + 1 ∧ m + 1 ≤ n ∧ itr f (m + 1) x = x ∧ _
    refine ⟨by omega, by omega, by simpa using h1, fun j j1 jm z => ?_⟩
    have jm' : j < m + 1 := jm
    have := h3 (j - 1) (by omega)
    rw [show j - 1 + 1 = j by omega, z] at this
    simp at this
/-- the first k places on x's way -/
def way (f : List Nat) (k x : Nat) : List Nat := (List.range k).map fun i => itr f i x
theorem way_succ (f : List Nat) (k x : Nat) : way f (k + 1) x = way f k x ++ [itr f k x] := by
  unfold way
  rw [List.range_succ, List.map_append]
  rfl
theorem way_len (f : List Nat) (k x : Nat) : (way f k x).length = k := by
  unfold way
  rw [List.length_map, List.length_range]
def ringOf (f : List Nat) (n x : Nat) : List Nat := way f (per f n x) x
def lead (f : List Nat) (n x : Nat) : Bool := decide (∀ y ∈ ringOf f n x, x ≤ y)
def cycles (f : List Nat) (n : Nat) : List (List Nat) := ((List.range n).filter (lead f n)).map (ringOf f n)
theorem ring_head (p : IsPerm f n) {x : Nat} (hx : x < n) : (ringOf f n x)[0]? = some x ∧ x ∈ ringOf f n x := by
  have h := (per_ok p hx).1
  have e : (ringOf f n x)[0]? = some x := by
    unfold ringOf way
    rw [List.getElem?_map, List.getElem?_range (by omega)]
    rfl
  exact ⟨e, List.mem_of_getElem? e⟩
theorem lead_min (p : IsPerm f n) {x m : Nat} (hx : x < n) (hm : m ∈ ringOf f n x) (le : ∀ y ∈ ringOf f n x, m ≤ y) : decide (x = m) = lead f n x := by
  unfold lead
  refine decide_eq_decide.mpr ⟨fun e => e ▸ le, fun h => ?_⟩
  have := h m hm
  have := le x (ring_head p hx).2
  omega
theorem ring_lt (p : IsPerm f n) {x y : Nat} (hx : x < n) (hy : y ∈ ringOf f n x) : y < n := by
  obtain ⟨i, _, rfl⟩ := List.mem_map.mp hy
  exact itr_lt p i hx
theorem ring_len (p : IsPerm f n) {x : Nat} (hx : x < n) : (ringOf f n x).length ≤ n := by
  unfold ringOf
  rw [way_len]
  exact (per_ok p hx).2.1
/-- place 0 leads the first cycle -/
theorem lead_zero : lead f n 0 = true := decide_eq_true fun _ _ => Nat.zero_le _
end
/-! ### where the texts went -/
def went (zs us : List Str) : List Nat := zs.map fun z => us.idxOf z
theorem went_perm {zs us : List Str} {n : Nat} (p : us.Perm zs) (nd : zs.Nodup) (hl : zs.length = n) : IsPerm (went zs us) n := by
  have atW : ∀ {i : Nat} (h : i < zs.length), (went zs us).getD i 0 = us.idxOf zs[i] := fun {i} h => by
    unfold went
    rw [List.getD_eq_getElem?_getD, List.getElem?_map, List.getElem?_eq_getElem h]
    rfl
  have inU : ∀ {i : Nat} (h : i < zs.length), us.idxOf zs[i] < us.length := fun {i} h => List.idxOf_lt_length_iff.mpr (p.mem_iff.mpr (List.getElem_mem h))
  refine ⟨by unfold went; rw [List.length_map, hl], fun i hi => ?_, fun i j hi hj e => ?_⟩
  · rw [atW (by omega)]
    have := inU (i := i) (by omega)
    rw [p.length_eq] at this
    omega
  · rw [atW (by omega), atW (by omega)] at e
    have e1 := List.getElem_idxOf (inU (i := i) (by omega))
    have e2 := List.getElem_idxOf (inU (i := j) (by omega))
    have e3 : zs[i]'(by omega) = zs[j]'(by omega) := by
      rw [← e1, ← e2]
      simp only [e]
    refine Decidable.byContradiction fun ne => ?_
    rcases Nat.lt_or_gt_of_ne ne with h | h
    · exact List.pairwise_iff_getElem.mp nd i j _ _ h e3
    · exact List.pairwise_iff_getElem.mp nd j i _ _ h e3.symm
end Os
namespace K11
open PySem PySem.Spec PyProof.Rows L2 Os Evl
abbrev sChkF : Stmt := topS 11
theorem scChkF : FnScope ["forest"] ["forest"] (defScope sChkF) := ⟨rfl, rfl, rfl, by decide +kernel, rfl, by decide +kernel, by decide +kernel⟩

abbrev nats (l : List Nat) : List V := l.map fun x : Nat => V.int (x : Int)
theorem nats_ints (l : List Nat) : (l.map fun x : Nat => (x : Int)).map V.int = nats l := by
  rw [List.map_map]
  rfl
theorem hide_up {s : Addr} {H : Hp} : Ex (hide s H) H := hide_same
abbrev natsD (l : List Nat) : List PyData := l.map fun x : Nat => .int (x : Int)
theorem dts_nats {G : Hp} : ∀ c : List Nat, Dts G (nats c) (natsD c)
  | [] => .nil
  | x :: c => .cons (.int _) (dts_nats c)
theorem sh_nats (n : Nat) (c : List Nat) : Sh (n + 1) (.list (natsD c)) := .lst fun d hd => by
  obtain ⟨x, _, rfl⟩ := List.mem_map.mp hd
  exact .int n _
theorem eqD_of {K : PySem.W.Frag} {H : Hp} {x y : V} {d : PyData} {n : Nat} {Q : VK} (hx : Dt H x d) (hy : Dt H y d) (sh : Sh n d) (le : n ≤ 64) (q : Q (.bl true) H) : rEqD K x y H Q := by
  refine ⟨d, d, hx.dp, hy.dp, sh.shaped le, sh.shaped le, ?_⟩
  rw [sh.refl]
  exact q
theorem sh_prs (es : List Pr) : Sh 2 (.list (es.map Os.prD)) := .lst fun d hd => by
  obtain ⟨e, _, rfl⟩ := List.mem_map.mp hd
  refine .tup fun x hx => ?_
  rcases List.mem_cons.mp hx with rfl | hx
  · exact .int 0 _
  · rw [List.mem_singleton.mp hx]
    exact .int 0 _
section
variable {K : PySem.W.Frag} {σ : L2.St} {H : Hp} {ta : TE}
theorem ev_len' {p : Addr} {xs : List V} (ha : Ev ta σ H (.ref p)) (h : H p = some (.lst xs)) :
    Ev (tCB (fun xs H Q => ∃ p ys, xs = [V.ref p] ∧ (SqL K H p ys ∨ SqT K H p ys) ∧ Q (.int ys.length) H) (tCons ta tNil)) σ H (.int (xs.length : Int)) := ev_len ha (sq_of h)
end
section
variable {P : Program} {w : World} {K : PySem.W.Frag} {mg : Str → Option Value} {base : Heap}
def spChkF : Sp := fun vs H Q _ => ∃ (v : V) (n : Nat) (es : List Pr), vs = [v] ∧ GraphV H v n es ∧ IsForest n es ∧ ∀ H', Ex H H' → Q .non H'
theorem ok_chkF {f fF : Addr} {fd fdF : FuncData} {k : Nat} (F : Fun K "check_forest" "check_forest" sChkF f fd)
    (GF : FnOk P w K mg base CX0 k fF fdF ["thing"] spForest) (FF : Fun K "is_forest" "is_forest" sForest fF fdF) (bF : Binds K fdF ["thing"] []) (gF : mg "is_forest" = some (.ref fF)) : FnOk P w K mg base CX0 (k + 1) f fd ["forest"] spChkF := by
  refine F.ok scChkF (fun vs H Q E h => ?_) (fun cdv A outer s H vs Q E hr h => ?_)
  · obtain ⟨v, n, es, rfl, _⟩ := h
    rfl
  · obtain ⟨v, n, es, rfl, hg, ok, q⟩ := h
    refine ⟨_, (pss_one (ps_if (pt_not (pt_val (pe_call GF hr (by rfl) gF FF.kp bF .nil pass0 (pa_cons (pv 0) pa_nil)))) pss_never pss_nil)), ?_⟩
    refine s_when (b := !true) (et_not (et_B (ev_sp (ea_cons (ev_var rfl) ea_nil) fun H1 e1 Q q => ⟨_, n, es, rfl, hg.ex e1, ok, q⟩))) (fun h => nomatch h) fun _ H1 e1 => q H1 e1
end
def OrdV (G : Hp) (v : V) (os : List Pr) : Prop := ∃ (a : Addr) (xs : List V), v = .ref a ∧ G a = some (.lst xs) ∧ PrsV G xs os
theorem OrdV.ex {G G' : Hp} {v : V} {os : List Pr} (h : OrdV G v os) (e : Ex G G') : OrdV G' v os := by
  obtain ⟨a, xs, h1, h2, h3⟩ := h
  exact ⟨a, xs, h1, e _ _ h2, h3.ex e⟩
end K11
namespace K11
open PySem PySem.Spec PyProof.Rows L2 Os Evl
abbrev sLists : Stmt := topS 12
theorem scLists : FnScope ["forest", "n", "edges", "lists", "p", "q", "position"] ["forest"] (defScope sLists) := ⟨rfl, rfl, rfl, by decide +kernel, rfl, by decide +kernel, by decide +kernel⟩
/-- the other end, where j is one -/
def other (j : Nat) (e : Pr) : Option Nat := if e.1 = j then some e.2 else if e.2 = j then some e.1 else none
def adj (es : List Pr) (j : Nat) : List Nat := es.filterMap (other j)
theorem adj_snoc {es : List Pr} {i : Nat} {e : Pr} (h : es[i]? = some e) (lt : e.1 < e.2) (j : Nat) :
    adj (es.take (i + 1)) j = if j = e.2 then (if e.2 = e.1 then adj (es.take i) e.2 ++ [e.2] else adj (es.take i) e.2) ++ [e.1] else if j = e.1 then adj (es.take i) j ++ [e.2] else adj (es.take i) j := by
  unfold adj
  rw [List.take_add_one, h, List.filterMap_append]
  show _ ++ List.filterMap (other j) [e] = _
  unfold other
  by_cases h1 : j = e.2
  · rw [if_pos h1, if_neg (show ¬ e.2 = e.1 by omega)]
    subst h1
    simp [show ¬ e.1 = e.2 by omega]
  · rw [if_neg h1]
    by_cases h2 : j = e.1
    · rw [if_pos h2]
      subst h2
      simp
    · rw [if_neg h2]
      simp [show ¬ e.1 = j from fun z => h2 z.symm, show ¬ e.2 = j from fun z => h1 z.symm]
/-- n new lists of numbers -/
structure RwV (H0 G : Hp) (as : List Addr) (n : Nat) (f : Nat → List Nat) : Prop where
  len : as.length = n
  new : ∀ a ∈ as, H0 a = none
  at' : ∀ i a, as[i]? = some a → G a = some (.lst (nats (f i)))
  nd : as.Nodup
theorem RwV.ex {H0 G G' : Hp} {as : List Addr} {n : Nat} {f : Nat → List Nat} (h : RwV H0 G as n f) (e : Ex G G') : RwV H0 G' as n f := ⟨h.len, h.new, fun i a q => e _ _ (h.at' i a q), h.nd⟩
theorem RwV.weak {H0 H1 G : Hp} {as : List Addr} {n : Nat} {f : Nat → List Nat} (h : RwV H1 G as n f) (e : Ex H0 H1) : RwV H0 G as n f := ⟨h.len, fun a q => fresh_back e (h.new a q), h.at', h.nd⟩
theorem RwV.like {H0 G : Hp} {as : List Addr} {n : Nat} {f g : Nat → List Nat} (h : RwV H0 G as n f) (e : ∀ i, f i = g i) : RwV H0 G as n g := ⟨h.len, h.new, fun i a q => by rw [← e i]; exact h.at' i a q, h.nd⟩
theorem RwV.put {H0 G : Hp} {as : List Addr} {n p : Nat} {f : Nat → List Nat} {a : Addr} {l : List Nat} (h : RwV H0 G as n f) (ha : as[p]? = some a) : RwV H0 (upd G a (.lst (nats l))) as n (fun j => if j = p then l else f j) :=
  ⟨h.len, h.new, fun i b q => by
    by_cases e : i = p
    · subst e
      rw [ha] at q
      cases q
      rw [upd_same, if_pos rfl]
    · have ne : b ≠ a := fun z => by
        subst z
        obtain ⟨l1, e1⟩ := List.getElem?_eq_some_iff.mp q
        obtain ⟨l2, e2⟩ := List.getElem?_eq_some_iff.mp ha
        rcases Nat.lt_or_gt_of_ne e with lt | lt
        · exact List.pairwise_iff_getElem.mp h.nd i p l1 l2 lt (by rw [e1, e2])
        · exact List.pairwise_iff_getElem.mp h.nd p i l2 l1 lt (by rw [e1, e2])
      rw [upd_ne ne, if_neg e]
      exact h.at' i b q, h.nd⟩
theorem RwV.off {H0 G : Hp} {as : List Addr} {n : Nat} {f : Nat → List Nat} {p : Addr} {o u : HO} (h : RwV H0 G as n f) (hp : H0 p = some u) : RwV H0 (upd G p o) as n f := ⟨h.len, h.new, fun i a q => by
  rw [upd_ne fun e => by
    have := h.new a (List.mem_of_getElem? q)
    rw [e, hp] at this
    cases this]
  exact h.at' i a q, h.nd⟩
section
variable {P : Program} {w : World} {K : PySem.W.Frag} {mg : Str → Option Value} {base : Heap}
def spLists : Sp := fun vs H Q _ => ∃ (v : V) (n : Nat) (es : List Pr), vs = [v] ∧ GraphV H v n es ∧ IsForest n es ∧
  ∀ H' L as, Ex H H' → H L = none → H' L = some (.lst (as.map V.ref)) → RwV H H' as n (adj es) → Q (.ref L) H'
theorem ok_lists {f : Addr} {fd : FuncData} {k : Nat} (F : Fun K "neighbour_lists" "neighbour_lists" sLists f fd) (mRange : mg "range" = none) : FnOk P w K mg base CX0 (k + 1) f fd ["forest"] spLists := by
  refine F.ok scLists (fun vs H Q E h => ?_) (fun cdv A outer s H vs Q E hr h => ?_)
  · obtain ⟨v, n, es, rfl, _⟩ := h
    rfl
  · obtain ⟨v, n, es, rfl, hg, ok, q⟩ := h
    refine ⟨_, (pss_cons (ps_asg (pv 0) (pg_tup rfl (pgs_cons (pg_name (i := 1) scLists.nd rfl (Or.inl rfl)) (pgs_cons (pg_name (i := 2) scLists.nd rfl (Or.inl rfl)) pgs_nil))))
      (pss_cons (ps_setLc (i := 3) (own := [("position", 6)]) (g := gName 6) (tt := tYes) rfl scLists.nd rfl rfl (sw_true rfl rfl rfl (by decide +kernel)) (pi_range1 (by rfl) mRange (pa_cons (pv 1) pa_nil)) (blkOk_by (N := ["forest", "n", "edges", "lists", "p", "q", "position"]) (sc := defScope sLists) (by decide +kernel)) (fun _ _ _ _ _ => pg_name (i := 6) scLists.nd rfl (Or.inl rfl)) (fun _ _ _ _ _ => pts_nil) (fun _ _ _ _ _ => (pe_lst pa_nil)))
      (pss_cons (ps_for PassesOwn.never rfl (pi_list (pv 2)) (pg_tup rfl (pgs_cons (pg_name (i := 4) scLists.nd rfl (Or.inl rfl)) (pgs_cons (pg_name (i := 5) scLists.nd rfl (Or.inl rfl)) pgs_nil)))
      (pss_cons (ps_expr (pe_bm PySem.F.plainAttrs_list PySem.F.slot_list_append PySem.F.type_list_append mt_append (pe_ix ix_list (pv 3) (pv 4) (fun _ _ => rfl)) (pa_cons (pv 5) pa_nil)))
      (pss_one (ps_expr (pe_bm PySem.F.plainAttrs_list PySem.F.slot_list_append PySem.F.type_list_append mt_append (pe_ix ix_list (pv 3) (pv 5) (fun _ _ => rfl)) (pa_cons (pv 4) pa_nil))))))
      (pss_one (ps_ret (pv 3)))))), ?_⟩
    obtain ⟨g, a, xs, rfl, h2, h3, h4⟩ := hg
    have n40 := ok.n40
    have ein := ok.edges.inn
    have few := ok.few
    refine ⟨.ref g, rfl, g, _, rfl, st_of h2, rfl, .int (n : Int), _, rfl, .ref a, [], rfl, rfl, ?_⟩
    refine ⟨.int (n : Int), rfl, (n : Int), rfl, by omega, by omega, fun D hD => ?_⟩
    have eD := Ex.new (o := .lst []) hD
    refine lc_range (lo := 0) (n := ((n : Int)).toNat) (fun i Hh => Ex H Hh ∧ ∃ as : List Addr, Hh D = some (.lst (as.map V.ref)) ∧ RwV (upd H D (.lst [])) Hh as i (fun _ => [])) ⟨eD, [], upd_same, rfl, (fun a h => nomatch h), (fun i a h => by simp at h), List.nodup_nil⟩ ?_ ?_
    · rintro i Hh hi' ⟨x1, as, hrs, rg⟩
      have lt : i < n := by omega
      refine ⟨rfl, ?_⟩
      dsimp only [tYes]
      rw [if_pos rfl]
      refine ⟨Nat.zero_le _, fun b hb => ?_⟩
      have xb := Ex.new (o := .lst []) hb
      have nb : b ≠ D := fun e => by
        rw [e, hrs] at hb
        cases hb
      have hb0 : upd H D (.lst []) b = none := by
        rw [upd_ne nb]
        exact fresh_back x1 hb
      have al : ∀ {j : Nat} {c : Addr}, as[j]? = some c → c ≠ b := fun h => ne_of_none (rg.at' _ _ h) hb
      refine ⟨as.map V.ref, xb _ _ hrs, sz_lt (by rw [List.length_map, rg.len]; omega), (x1.trans xb).mut hD, as ++ [b], ?_, ?_⟩
      · rw [upd_same, List.map_append]
        rfl
      · refine RwV.off (u := .lst []) ⟨by rw [List.length_append, rg.len]; rfl, fun c hc => ?_, fun j c hc => ?_, ?_⟩ upd_same
        · rcases List.mem_append.mp hc with hc | hc
          · exact rg.new c hc
          · rw [List.mem_singleton.mp hc]
            exact hb0
        · by_cases hj : j < as.length
          · rw [List.getElem?_append_left hj] at hc
            exact xb _ _ (rg.at' j c hc)
          · rw [List.getElem?_append_right (by omega)] at hc
            have : c = b := by
              have := List.mem_of_getElem? hc
              exact List.mem_singleton.mp this
            rw [this]
            exact upd_same
        · refine List.nodup_append.mpr ⟨rg.nd, List.pairwise_singleton _ _, fun c hc d hd => ?_⟩
          rw [List.mem_singleton.mp hd]
          obtain ⟨j, hj⟩ := List.mem_iff_getElem?.mp hc
          exact al hj
    · rintro Hh ⟨x1, as, hrs, rg⟩
      rw [Int.toNat_natCast] at rg
      dsimp only [gName]
      have asH : ∀ c ∈ as, H c = none := fun c hc => fresh_back eD (rg.new c hc)
      refine q_forL (xs := xs) (ev_var rfl) (sq_of (x1 _ _ h3)) (fun i σ' H' => Ex H H' ∧ ∃ (y4 y5 y6 : Option V), σ' = [some (.ref g), some (.int (n : Int)), some (.ref a), some (.ref D), y4, y5, y6] ∧ H' D = some (.lst (as.map V.ref)) ∧ RwV (upd H D (.lst [])) H' as n (adj (es.take i)))
        (fun H4 e4 => ⟨x1.trans e4, _, _, _, rfl, e4 _ _ hrs, rg.ex e4⟩) (fun i σ' H' _ h => sq_of (h.1 _ _ h3)) ?_ ?_
      · rintro i x σ' H4 hx ⟨e4, y4, y5, y6, rfl, hD4, rw4⟩
        obtain ⟨e, he, tp, rfl, htp⟩ := h4.get hx
        have ein := ein e (List.mem_of_getElem? he)
        have il : i < es.length := (List.getElem?_eq_some_iff.mp he).1
        have adl : ∀ j, (adj (es.take i) j).length ≤ 60 := fun j => by
          unfold adj
          have h1 := List.length_filterMap_le (other j) (es.take i)
          have h2 := List.length_take_le i es
          omega
        obtain ⟨c1, hc1⟩ : ∃ c, as[e.1]? = some c := ⟨_, List.getElem?_eq_getElem (by rw [rw4.len]; omega)⟩
        obtain ⟨c2, hc2⟩ : ∃ c, as[e.2]? = some c := ⟨_, List.getElem?_eq_getElem (by rw [rw4.len]; omega)⟩
        have at' : ∀ {j : Nat} {c : Addr}, as[j]? = some c → (as.map V.ref)[j]? = some (.ref c) := fun h => by
          rw [List.getElem?_map, h]
          rfl
        refine ⟨tp, _, rfl, st_of (e4 _ _ htp), rfl, _, _, rfl, _, [], rfl, rfl, ?_⟩
        have nD : ∀ {c : Addr}, c ∈ as → D ≠ c := fun hc z => by
          have := rg.new _ hc
          rw [← z, upd_same] at this
          cases this
        refine q_app (v := .int (e.2 : Int)) (rw4.at' _ _ hc1) (ev_op (ev_var rfl) (ev_var rfl) (rv_ixL (sq_of hD4) (atI_nat (at' hc1)))) (ev_var rfl) (by rw [List.length_map]; have := adl e.1; omega) fun H5 e5 => ?_
        have m1 := List.mem_of_getElem? hc1
        have m2 := List.mem_of_getElem? hc2
        have e1 : nats (adj (es.take i) e.1) ++ [V.int (e.2 : Int)] = nats (adj (es.take i) e.1 ++ [e.2]) := by
          unfold nats
          rw [List.map_append]
          rfl
        rw [e1]
        have rw5 := (rw4.ex e5).put (l := adj (es.take i) e.1 ++ [e.2]) hc1
        have hD5 : upd H5 c1 (.lst (nats (adj (es.take i) e.1 ++ [e.2]))) D = some (.lst (as.map V.ref)) := by
          rw [upd_ne (nD m1)]
          exact e5 _ _ hD4
        have f2 := rw5.at' _ _ hc2
        rw [if_neg (show ¬ e.2 = e.1 by omega)] at f2
        refine s_app (v := .int (e.1 : Int)) f2 (ev_op (ev_var rfl) (ev_var rfl) (rv_ixL (sq_of hD5) (atI_nat (at' hc2)))) (ev_var rfl) (by rw [List.length_map]; have := adl e.2; omega) fun H6 e6 => ?_
        have e2 : nats (adj (es.take i) e.2) ++ [V.int (e.1 : Int)] = nats (adj (es.take i) e.2 ++ [e.1]) := by
          unfold nats
          rw [List.map_append]
          rfl
        rw [e2]
        have rw6 := (rw5.ex e6).put (l := adj (es.take i) e.2 ++ [e.1]) hc2
        refine ⟨((((e4.trans e5).mut (asH _ m1)).trans e6).mut (asH _ m2)), _, _, _, rfl, ?_, rw6.like fun j => ?_⟩
        · rw [upd_ne (nD m2)]
          exact e6 _ _ hD5
        · rw [adj_snoc he ein.1]
          by_cases j2 : j = e.2
          · rw [if_pos j2, if_pos j2, if_neg (show ¬ e.2 = e.1 by omega)]
          · rw [if_neg j2, if_neg j2]
            by_cases j1 : j = e.1
            · rw [if_pos j1, if_pos j1, j1]
            · rw [if_neg j1, if_neg j1]
      · rintro σ' H4 ⟨e4, y4, y5, y6, rfl, hD4, rw4⟩
        rw [h4.length, List.take_length] at rw4
        exact s_ret (v := .ref D) (ev_var rfl) fun H5 e5 => q H5 D as (e4.trans e5) hD (e5 _ _ hD4) ((rw4.ex e5).weak eD)
end
end K11
namespace K11
open PySem PySem.Spec PyProof.Rows L2 Os Evl
abbrev sIsTurn : Stmt := topS 14
theorem scIsTurn : FnScope ["n", "nearby", "thing", "entry"] ["n", "nearby", "thing"] (defScope sIsTurn) := ⟨rfl, rfl, rfl, by decide +kernel, rfl, by decide +kernel, by decide +kernel⟩
abbrev sIsTurns : Stmt := topS 15
theorem scIsTurns : FnScope ["forest", "thing", "n", "nearby", "turn"] ["forest", "thing"] (defScope sIsTurns) := ⟨rfl, rfl, rfl, by decide +kernel, rfl, by decide +kernel, by decide +kernel⟩
theorem adj_asc {n : Nat} {es : List Pr} (E : Edges n es) (h : Nat) : (adj es h).Pairwise (· < ·) := by
  unfold adj
  refine List.pairwise_filterMap.mpr (List.Pairwise.imp_of_mem (fun {e f} he hf lt b hb b' hb' => ?_) E.asc)
  have := E.inn e he
  have := E.inn f hf
  rw [ltP_iff] at lt
  unfold other at hb hb'
  by_cases a1 : e.1 = h
  · rw [if_pos a1] at hb
    cases hb
    by_cases c1 : f.1 = h
    · rw [if_pos c1] at hb'
      cases hb'
      omega
    · rw [if_neg c1] at hb'
      by_cases c2 : f.2 = h
      · rw [if_pos c2] at hb'
        cases hb'
        omega
      · rw [if_neg c2] at hb'
        cases hb'
  · rw [if_neg a1] at hb
    by_cases a2 : e.2 = h
    · rw [if_pos a2] at hb
      cases hb
      by_cases c1 : f.1 = h
      · rw [if_pos c1] at hb'
        cases hb'
        omega
      · rw [if_neg c1] at hb'
        by_cases c2 : f.2 = h
        · rw [if_pos c2] at hb'
          cases hb'
          omega
        · rw [if_neg c2] at hb'
          cases hb'
    · rw [if_neg a2] at hb
      cases hb
def intD : PyData → Int
  | .int i => i
  | _ => 0
def turnB (n : Int) (near : List Nat) : PyData → Bool
  | .list ds => ds.all (posB n) && (ds.map intD).isPerm (near.map fun x : Nat => (x : Int))
  | _ => false
def turnsB (n : Nat) (es : List Pr) : PyData → Bool
  | .list ds => decide (ds.length = n) && (List.range n).all fun i => turnB (n : Int) (adj es i) (ds.getD i .none)
  | _ => false
def intsD (l : List Int) : List PyData := l.map .int
theorem dts_ints {G : Hp} : ∀ c : List Int, Dts G (c.map V.int) (intsD c)
  | [] => .nil
  | x :: c => .cons (.int _) (dts_ints c)
theorem sh_ints (n : Nat) (c : List Int) : Sh (n + 1) (.list (intsD c)) := .lst fun d hd => by
  obtain ⟨x, _, rfl⟩ := List.mem_map.mp hd
  exact .int n _
theorem eqv_ints : ∀ a b : List Int, PyData.eqvAll (intsD a) (intsD b) = decide (a = b)
  | [], [] => rfl
  | [], _ :: _ => rfl
  | _ :: _, [] => rfl
  | x :: a, y :: b => by
    show (PyData.eqv (.int x) (.int y) && PyData.eqvAll (intsD a) (intsD b)) = _
    rw [eqv_ints a b, show PyData.eqv (.int x) (.int y) = (x == y) from rfl]
    by_cases h1 : x = y
    · subst h1
      rw [beq_self_eq_true, Bool.true_and]
      exact decide_eq_decide.mpr ⟨fun h => by rw [h], fun h => (List.cons.inj h).2⟩
    · rw [beq_eq_false_iff_ne.mpr h1, Bool.false_and, decide_eq_false fun z => h1 (List.cons.inj z).1]
theorem natsD_ints (l : List Nat) : natsD l = intsD (l.map fun x : Nat => (x : Int)) := by
  unfold natsD intsD
  rw [List.map_map]
  rfl
theorem all_ints {H : Hp} {n : Int} : ∀ {xs : List V} {ds : List PyData}, Dts H xs ds → ds.all (posB n) = true → xs = (ds.map intD).map V.int
  | _, _, .nil, _ => rfl
  | _, _, .cons h t, p => by
    rw [List.all_cons, Bool.and_eq_true] at p
    have e := all_ints t p.2
    cases h with
    | int i => rw [e]; rfl
    | _ => cases p.1
theorem sorted_is {ns' ns near : List Int} (pm : ns'.Perm ns) (h1 : ns'.Pairwise (· ≤ ·)) (h2 : near.Pairwise (· ≤ ·)) : decide (ns' = near) = ns.isPerm near := by
  by_cases h : ns.Perm near
  · rw [List.isPerm_iff.mpr h]
    exact decide_eq_true (List.Perm.eq_of_pairwise (le := (· ≤ ·)) (fun a b _ _ x y => by omega) h1 h2 (pm.trans h))
  · have : ns.isPerm near = false := by
      cases e : ns.isPerm near with
      | false => rfl
      | true => exact absurd (List.isPerm_iff.mp e) h
    rw [this]
    exact decide_eq_false fun z => h (pm.symm.trans (by rw [z]))
/-- lists are no longer than a thousand -/
def Short : PyData → Prop
  | .list ds => ds.length ≤ 1000
  | _ => True
def Short2 : PyData → Prop
  | .list ds => ds.length ≤ 1000 ∧ ∀ d ∈ ds, Short d
  | _ => True
theorem Dt.list_or {H : Hp} {v : V} {d : PyData} (h : Dt H v d) : (∃ a xs ds, v = .ref a ∧ H a = some (.lst xs) ∧ Dts H xs ds ∧ d = .list ds) ∨ isListD d = false := by
  cases h with
  | lst h1 h2 => exact .inl ⟨_, _, _, rfl, h1, h2, rfl⟩
  | _ => exact .inr rfl
section
variable {P : Program} {w : World} {K : PySem.W.Frag} {mg : Str → Option Value} {base : Heap}
def spIsTurn : Sp := fun vs H Q _ => ∃ (n : Int) (b : Addr) (near : List Nat) (v : V) (d : PyData), vs = [.int n, .ref b, v] ∧ H b = some (.lst (nats near)) ∧ near.Pairwise (· < ·) ∧ Dt H v d ∧ Short d ∧ ∀ H', Ex H H' → Q (.bl (turnB n near d)) H'
def spIsTurns : Sp := fun vs H Q _ => ∃ (v t : V) (n : Nat) (es : List Pr) (d : PyData), vs = [v, t] ∧ GraphV H v n es ∧ IsForest n es ∧ Dt H t d ∧ Short2 d ∧ ∀ H', Ex H H' → Q (.bl (turnsB n es d)) H'
theorem ok_isturn {f fP : Addr} {fd fdP : FuncData} {k : Nat} (F : Fun K "_is_turn" "_is_turn" sIsTurn f fd)
    (GP : FnOk P w K mg base CX0 k fP fdP ["n", "thing"] spPos) (FP : Fun K "is_position" "is_position" sPos fP fdP) (bP : Binds K fdP ["n", "thing"] []) (gP : mg "is_position" = some (.ref fP))
    (mIsi : mg "isinstance" = none) (mList : mg "list" = none) (mAll : mg "all" = none) (mSorted : mg "sorted" = none) : FnOk P w K mg base CX0 (k + 1) f fd ["n", "nearby", "thing"] spIsTurn := by
  refine F.ok scIsTurn (fun vs H Q E h => ?_) (fun cdv A outer s H vs Q E hr h => ?_)
  · obtain ⟨n, b, near, v, d, rfl, _⟩ := h
    rfl
  · obtain ⟨n, b, near, v, d, rfl, hb, asc, hd, sh, q⟩ := h
    refine ⟨_, (pss_cons (ps_if (PW.pt (pw_or (pt_not (pt_val (pe_callB call_isi (by rfl) mIsi boot_isinstance (pa_cons (pv 2) (pa_cons (pe_bltn (v := .ty "list") (by rfl) mList boot_list rfl) pa_nil))))) (pw_or1 (pt_not (pt_val (pe_callB (cr_all rfl) (by rfl) mAll boot_all (pa_cons (pe_lc (own := [("entry", 3)]) (g := gName 3) (tt := tYes) rfl scIsTurn.nd (pi_list (pv 2)) (blkOk_by (N := ["n", "nearby", "thing", "entry"]) (sc := defScope sIsTurn) (by decide +kernel)) (fun _ _ _ _ _ => pg_name (i := 3) scIsTurn.nd rfl (Or.inl rfl)) (fun _ _ _ _ _ => pts_nil) (fun _ _ _ _ _ => (pe_call GP hr (by rfl) gP FP.kp bP .nil pass0 (pa_cons (pv 0) (pa_cons (pv 3) pa_nil))))) pa_nil))))))) (pss_one (ps_ret pe_bl)) pss_nil)
      (pss_one (ps_ret (pe_cmpR (op_eqD hr.units) (pe_callB cr_sortedI (by rfl) mSorted boot_sorted (pa_cons (pv 2) pa_nil)) (pv 1) (nomark _))))), ?_⟩
    have e0 : Ev (tVar 2) (start ["n", "nearby", "thing", "entry"] [.int n, .ref b, v]) H v := ev_var rfl
    rcases hd.list_or with ⟨a, xs, ds, rfl, ha, ht, rfl⟩ | hn
    · have hlen := ht.length
      have hl : ds.length ≤ 1000 := sh
      refine q_when (b := !true || !(ds.all (posB n))) (et_or (et_not (et_B (ev_isi e0 hd (kit_list _)))) fun _ => et_not (et_B (ev_is (ev_all (bs := ds.map (posB n)) ?_) (by rw [List.all_map]; rfl)))) (fun hb0 H1 e1 => ?_) (fun hb0 H1 e1 => ?_)
      · rw [List.map_map, ← given_map ds (V.bl ∘ posB n) (fun i => .bl (posB n (ds.getD i .none))) (fun i x e => by
          rw [List.getD_eq_getElem?_getD, e]
          rfl), ← hlen]
        refine el_lcL (f := fun _ => true) (v := _) (ev_var rfl) (sq_of ha) (by omega) (fun _ => rfl) (fun i c H2 _ _ => fun H3 e3 Q q => q H3 (Ex.refl H3)) (fun i x H4 e4 hx _ => ?_)
        obtain ⟨d1, hd1, dt1⟩ := ht.get hx
        rw [List.getD_eq_getElem?_getD, hd1]
        exact ev_sp (ea_cons (ev_var rfl) (ea_cons (ev_var rfl) ea_nil)) fun H5 e5 Q q => ⟨n, x, d1, rfl, dt1.same (same_ex (e4.trans e5)), fun H6 e6 => q H6 e6⟩
      · have hb1 : ds.all (posB n) = false := by simpa using hb0
        refine s_ret (v := .bl false) ev_c fun H2 e2 => ?_
        have : turnB n near (.list ds) = false := by
          show (ds.all (posB n) && _) = false
          rw [hb1, Bool.false_and]
        rw [← this]
        exact q H2 (e1.trans e2)
      · have hb1 : ds.all (posB n) = true := by simpa using hb0
        have ex := all_ints ht hb1
        refine ⟨.ref a, rfl, a, ds.map intD, rfl, sq_of (by rw [← ex]; exact e1 _ _ ha), fun ns' p pm pw hp => ?_⟩
        have x1 := Ex.new (o := .lst (ns'.map V.int)) hp
        refine ⟨.ref b, rfl, .list (intsD ns'), .list (natsD near), Dt.dp (.lst upd_same (dts_ints _)), Dt.dp (.lst (x1 _ _ (e1 _ _ hb)) (dts_nats _)), (sh_ints 0 ns').shaped (by decide), (sh_nats 0 near).shaped (by decide), ?_⟩
        have ee : PyData.eqv (.list (intsD ns')) (.list (natsD near)) = turnB n near (.list ds) := by
          show PyData.eqvAll (intsD ns') (natsD near) = (ds.all (posB n) && _)
          rw [natsD_ints, eqv_ints, hb1, Bool.true_and]
          exact sorted_is pm pw (List.pairwise_map.mpr (asc.imp fun {x y} h => by show (x : Int) ≤ (y : Int); omega))
        rw [ee]
        exact q _ (e1.trans x1)
    · refine q_when (b := true) (et_is (et_or (b := true) (et_not (et_B (ev_isi e0 hd (kit_list _)))) fun hs => ?_) ?_) (fun _ H1 e1 => ?_) (fun h => nomatch h)
      · rw [hn] at hs
        cases hs
      · rw [hn]
        rfl
      · have : turnB n near d = false := by
          cases d <;> first | rfl | cases hn
        refine s_ret (v := .bl false) ev_c fun H2 e2 => ?_
        rw [← this]
        exact q H2 (e1.trans e2)
theorem ok_isturns {f fF fL fT : Addr} {fd fdF fdL fdT : FuncData} {k : Nat} (F : Fun K "is_turns" "is_turns" sIsTurns f fd)
    (GF : FnOk P w K mg base CX0 k fF fdF ["forest"] spChkF) (FF : Fun K "check_forest" "check_forest" sChkF fF fdF) (bF : Binds K fdF ["forest"] []) (gF : mg "check_forest" = some (.ref fF))
    (GL : FnOk P w K mg base CX0 k fL fdL ["forest"] spLists) (FL : Fun K "neighbour_lists" "neighbour_lists" sLists fL fdL) (bL : Binds K fdL ["forest"] []) (gL : mg "neighbour_lists" = some (.ref fL))
    (GT : FnOk P w K mg base CX0 k fT fdT ["n", "nearby", "thing"] spIsTurn) (FT : Fun K "_is_turn" "_is_turn" sIsTurn fT fdT) (bT : Binds K fdT ["n", "nearby", "thing"] []) (gT : mg "_is_turn" = some (.ref fT))
    (mIsi : mg "isinstance" = none) (mList : mg "list" = none) (mAll : mg "all" = none) (mLen : mg "len" = none) (mZip : mg "zip" = none) : FnOk P w K mg base CX0 (k + 1) f fd ["forest", "thing"] spIsTurns := by
  refine F.ok scIsTurns (fun vs H Q E h => ?_) (fun cdv A outer s H vs Q E hr h => ?_)
  · obtain ⟨v, t, n, es, d, rfl, _⟩ := h
    rfl
  · obtain ⟨v, t, n, es, d, rfl, hg, ok, hd, sh, q⟩ := h
    refine ⟨_, (pss_cons (ps_expr (pe_call GF hr (by rfl) gF FF.kp bF .nil pass0 (pa_cons (pv 0) pa_nil)))
      (pss_cons (ps_set (i := 2) scIsTurns.nd rfl (.inr rfl) (pe_ix ix_tup (pv 0) pe_int (fun _ _ => rfl)))
      (pss_cons (ps_if (PW.pt (pw_or (pt_not (pt_val (pe_callB call_isi (by rfl) mIsi boot_isinstance (pa_cons (pv 1) (pa_cons (pe_bltn (v := .ty "list") (by rfl) mList boot_list rfl) pa_nil))))) (pw_or1 (pt_cmpR op_ne (pe_callB call_len_seq (by rfl) mLen boot_len (pa_cons (pv 1) pa_nil)) (pv 2) (nomark _))))) (pss_one (ps_ret pe_bl)) pss_nil)
      (pss_one (ps_ret (pe_callB (cr_all rfl) (by rfl) mAll boot_all (pa_cons (pe_lc (own := [("nearby", 3), ("turn", 4)]) (g := gTup K 2 (gCons (gName 3) (gCons (gName 4) gNil))) (tt := tYes) (te := tCall spIsTurn [] E0 (tCons (tVar 2) (tCons (tVar 3) (tCons (tVar 4) tNil)))) rfl scIsTurns.nd (pi_zip (by rfl) mZip (pa_cons (pe_call GL hr (by rfl) gL FL.kp bL .nil pass0 (pa_cons (pv 0) pa_nil)) (pa_cons (pv 1) pa_nil))) (blkOk_by (N := ["forest", "thing", "n", "nearby", "turn"]) (sc := defScope sIsTurns) (by decide +kernel)) (fun _ _ _ _ _ => pg_tup rfl (pgs_cons (pg_name (i := 3) scIsTurns.nd rfl (Or.inl rfl)) (pgs_cons (pg_name (i := 4) scIsTurns.nd rfl (Or.inl rfl)) pgs_nil))) (fun _ _ _ _ _ => pts_nil) (fun _ _ _ _ _ => (pe_call GT hr (by rfl) gT FT.kp bT .nil pass0 (pa_cons (pv 2) (pa_cons (pv 3) (pa_cons (pv 4) pa_nil)))))) pa_nil))))))), ?_⟩
    refine q_drop (v := .non) (ev_sp (ea_cons (ev_var rfl) ea_nil) fun H1 e1 Q q => ⟨_, n, es, rfl, hg.ex e1, ok, q⟩) fun H1 e1 => ?_
    have hg1 := hg.ex e1
    have hg0 := hg1
    obtain ⟨g, a, ys, rfl, h2, h3, h4⟩ := hg1
    have n40 := ok.n40
    refine q_asg (v := .int (n : Int)) (ev_op (ev_var rfl) ev_c (rv_ixT (st_of h2) (atI_nat (j := 0) rfl))) fun H2 e2 => ?_
    have e12 := e1.trans e2
    have hd2 := hd.same (same_ex e12)
    rcases hd2.list_or with ⟨b, xs, ds, rfl, hb, ht, rfl⟩ | hn
    · have hlen := ht.length
      obtain ⟨hl, hsh⟩ : ds.length ≤ 1000 ∧ ∀ d ∈ ds, Short d := sh
      refine q_when (b := !true || !decide (V.int (xs.length : Int) = V.int (n : Int))) (et_or (et_not (et_B (ev_isi (ev_var rfl) hd2 (kit_list _)))) fun _ => et_test (ev_op (ev_len' (ev_var rfl) hb) (ev_var rfl) (rv_ne rfl))) (fun hb0 H3 e3 => ?_) (fun hb0 H3 e3 => ?_)
      · have hb1 : (!decide (V.int (xs.length : Int) = V.int (n : Int))) = true := hb0
        have hb2 := of_decide_eq_false ((Bool.not_eq_true' _).mp hb1)
        have : turnsB n es (.list ds) = false := by
          show (decide (ds.length = n) && _) = false
          rw [decide_eq_false fun z => hb2 (by rw [hlen, z]), Bool.false_and]
        refine s_ret (v := .bl false) ev_c fun H4 e4 => ?_
        rw [← this]
        exact q H4 ((e12.trans e3).trans e4)
      · have hb1 : (!decide (V.int (xs.length : Int) = V.int (n : Int))) = false := hb0
        have hb2 := V.int.inj (of_decide_eq_true ((Bool.not_eq_false' _).mp hb1))
        have dl : ds.length = n := by omega
        have e13 := e12.trans e3
        refine s_ret (v := .bl (turnsB n es (.list ds))) (ev_is (ev_all (bs := (List.range n).map fun i => turnB (n : Int) (adj es i) (ds.getD i .none)) ?_) ?_) fun H4 e4 => q H4 (e13.trans e4)
        · intro H0 e0 Q' q'
          have e20 := (e2.trans e3).trans e0
          refine ⟨.ref g, rfl, .ref g, n, es, rfl, hg0.ex e20, ok, fun H5 L as e5 hL h5 rw5 => ?_⟩
          refine ⟨.ref b, rfl, L, b, as.map V.ref, xs, rfl, sq_of h5, sq_of (e5 _ _ (e0 _ _ (e3 _ _ hb))), fun D hD => ?_⟩
          have ht5 := ht.same (same_ex ((e3.trans e0).trans e5))
          have hb5 := e5 _ _ (e0 _ _ (e3 _ _ hb))
          have al : (as.map V.ref).length = n := by rw [List.length_map, rw5.len]
          refine lc_it (walk_zip (n := n) (by omega)) (fun i Hh => Ex H5 Hh ∧ Hh D = some (.lst (((List.range i).map fun i => turnB (n : Int) (adj es i) (ds.getD i .none)).map V.bl))) ⟨Ex.new hD, upd_same⟩ (fun i Hh _ p => ⟨sq_of (p.1 _ _ h5), sq_of (p.1 _ _ hb5)⟩) ?_ ?_
          · rintro i y Ha Hb hi ⟨p1, p2⟩ ⟨T, y1, y2, rfl, nT, rfl, hy1, hy2⟩
            have hy1' : (as.map V.ref)[i]? = some y1 := hy1
            rw [List.getElem?_map] at hy1'
            cases hai : as[i]? with
            | none => rw [hai] at hy1'; cases hy1'
            | some c =>
              rw [hai] at hy1'
              cases hy1'
              obtain ⟨d2, hd2, dt2⟩ := ht5.get hy2
              have eT : Ex Ha (upd Ha T (.tup [.ref c, y2])) := Ex.new nT
              have eA := p1.trans eT
              refine ⟨T, [.ref c, y2], rfl, st_of upd_same, rfl, .ref c, [y2], rfl, y2, [], rfl, rfl, rfl, ?_⟩
              show tCall spIsTurn [] E0 (tCons (tVar 2) (tCons (tVar 3) (tCons (tVar 4) tNil))) _ _ _
              refine ⟨.int (n : Int), rfl, .ref c, rfl, y2, rfl, (n : Int), c, adj es i, y2, d2, rfl, eA _ _ (rw5.at' _ _ hai), adj_asc ok.edges i, dt2.same (same_ex eA), hsh d2 (List.mem_of_getElem? hd2), fun H6 e6 => ⟨_, e6 _ _ (eT _ _ p2), sz_lt (by rw [List.length_map, List.length_map, List.length_range]; omega), (eA.trans e6).mut hD, ?_⟩⟩
              rw [List.range_succ, List.map_append, List.map_append]
              show _ = some (HO.lst (_ ++ [V.bl (turnB (n : Int) (adj es i) (ds.getD i .none))]))
              rw [List.getD_eq_getElem?_getD, hd2]
              exact upd_same
          · rintro Hh ⟨p1, p2⟩
            exact q' D Hh (fresh_back e5 hD) (e5.trans p1) p2
        · show _ = V.bl (decide (ds.length = n) && _)
          rw [decide_eq_true dl, Bool.true_and, List.all_map]
          rfl
    · refine q_when (b := true) (et_is (et_or (b := true) (et_not (et_B (ev_isi (ev_var rfl) hd2 (kit_list _)))) fun hs => ?_) ?_) (fun _ H3 e3 => ?_) (fun h => nomatch h)
      · rw [hn] at hs
        cases hs
      · rw [hn]
        rfl
      · have : turnsB n es d = false := by
          cases d <;> first | rfl | cases hn
        refine s_ret (v := .bl false) ev_c fun H4 e4 => ?_
        rw [← this]
        exact q H4 ((e12.trans e3).trans e4)
end
end K11
/-! min of a list of pairs, remove of a pair -/
namespace Os
open PySem PySem.Spec PyProof.Rows L2 Evl

theorem prs_lay : ∀ es : List Pr, PyData.canLayAll0 (es.map Os.prD) = true
  | [] => by simp [PyData.canLayAll0]
  | e :: es => by simp [PyData.canLayAll0, PyData.canLay0, Os.prD, prs_lay es]
theorem pr_lay (e : Pr) : (Os.prD e).canLay0 = true := by simp [Os.prD, PyData.canLay0, PyData.canLayAll0]
theorem pr_depth (e : Pr) : (Os.prD e).depth = 1 := by simp [Os.prD, PyData.depth, PyData.depthAll]
theorem prs_depth : ∀ es : List Pr, PyData.depthAll (es.map Os.prD) ≤ 1
  | [] => by simp [PyData.depthAll]
  | e :: es => by
    have h1 := prs_depth es
    have h2 := pr_depth e
    simp only [List.map_cons, PyData.depthAll]
    omega
theorem lt_pr (e f : Pr) : PySem.W.dataLt (Os.prD e) (Os.prD f) = ltP e f := by
  show PyProof.Rows.lexLt itemOrd [.inl 1, .inl (e.1 : Int), .inl 1, .inl (e.2 : Int), .inl 0] [.inl 1, .inl (f.1 : Int), .inl 1, .inl (f.2 : Int), .inl 0] = ltP e f
  have hb : ∀ a b : Nat, itemOrd.blt (.inl (a : Int)) (.inl (b : Int)) = decide (a < b) := fun a b => decide_eq_decide.mpr (show (a : Int) < (b : Int) ↔ a < b by omega)
  have hn : ∀ {a b : Nat}, a ≠ b → (Sum.inl (a : Int) : Int ⊕ List Nat) ≠ .inl (b : Int) := fun h z => h (by have := Sum.inl.inj z; omega)
  rw [lex_self]
  unfold ltP
  by_cases h1 : e.1 = f.1
  · rw [h1, lex_self, lex_self, decide_eq_false (Nat.lt_irrefl _), decide_eq_true rfl, Bool.false_or, Bool.true_and]
    by_cases h2 : e.2 = f.2
    · rw [h2, lex_irrefl, decide_eq_false (Nat.lt_irrefl _)]
    · rw [lex_diff (O := itemOrd) (hn h2)]
      exact hb _ _
  · rw [lex_diff (O := itemOrd) (hn h1), decide_eq_false h1, Bool.false_and, Bool.or_false]
    exact hb _ _
/-- the least of e and es, the first of equal ones -/
def minP (e : Pr) (es : List Pr) : Pr := es.foldl (fun a y => if ltP y a = true then y else a) e
theorem minD_pr : ∀ (es : List Pr) (e : Pr), PySem.W.minD (Os.prD e) (es.map Os.prD) = Os.prD (minP e es)
  | [], _ => rfl
  | y :: es, e => by
    show PySem.W.minD (if PySem.W.dataLt (Os.prD y) (Os.prD e) = true then Os.prD y else Os.prD e) (es.map Os.prD) = Os.prD (minP (if ltP y e = true then y else e) es)
    rw [lt_pr]
    by_cases h : ltP y e = true
    · rw [if_pos h, if_pos h]
      exact minD_pr es y
    · rw [if_neg h, if_neg h]
      exact minD_pr es e
theorem minP_least : ∀ (es : List Pr) (e : Pr), ∀ f ∈ e :: es, ltP f (minP e es) = false
  | [], e, f, hf => by
    rw [List.mem_singleton.mp hf]
    show ltP e e = false
    rw [← Bool.not_eq_true, ltP_iff]
    omega
  | y :: es, e, f, hf => by
    show ltP f (minP (if ltP y e = true then y else e) es) = false
    by_cases h : ltP y e = true
    · rw [if_pos h]
      have ih := minP_least es y
      have iy := ih y List.mem_cons_self
      rcases List.mem_cons.mp hf with rfl | hf
      · rw [ltP_iff] at h
        rw [← Bool.not_eq_true, ltP_iff] at iy ⊢
        omega
      · exact ih f hf
    · rw [if_neg h]
      have ih := minP_least es e
      have ie := ih e List.mem_cons_self
      rcases List.mem_cons.mp hf with rfl | hf
      · exact ie
      · rcases List.mem_cons.mp hf with rfl | hf
        · rw [ltP_iff] at h
          rw [← Bool.not_eq_true, ltP_iff] at ie ⊢
          omega
        · exact ih f (List.mem_cons_of_mem _ hf)
theorem prD_inj {e f : Pr} (h : Os.prD e = Os.prD f) : e = f := by
  unfold Os.prD at h
  injection h with h
  injection h with h1 h
  injection h with h2 _
  injection h1 with h1
  injection h2 with h2
  exact Prod.ext (by omega) (by omega)
theorem alike_pr (e f : Pr) : PySem.W.alike (Os.prD e) (Os.prD f) = true := by simp [Os.prD, PySem.W.alike, PySem.W.alikeAll]
section
variable {X : Cx}
def rMinP (K : PySem.W.Frag) : List V → Hp → VK → Prop := fun vs H Q => ∃ (a : Addr) (xs : List V) (es : List Pr), vs = [V.ref a] ∧ H a = some (.lst xs) ∧ PrsV H xs es ∧ es ≠ [] ∧
  ∀ (i : Nat) (v : V) (e : Pr), xs[i]? = some v → es[i]? = some e → (∀ f ∈ es, ltP f e = false) → Q v H
theorem cr_minP (hc : X.calm = true) (hu : X.A.units + 64 < cLine) : CallR X (.builtin "min") (rMinP X.K) := by
  intro pins s σ H vs us Q I r h
  obtain ⟨a, xs, es, rfl, ha, hp, ne, q⟩ := h
  obtain ⟨its, rv, hl, _⟩ := I.list (sq_of ha)
  rw [Vals.ref1 r]
  cases es with
  | nil => exact absurd rfl ne
  | cons e es =>
    obtain ⟨as, rd⟩ := Dp.readsAll I ((e :: es).map Os.prD) xs its hp.dts.dp rv
    refine PySem.W.min_list_data (x := Os.prD e) (xs := es.map Os.prD) (I.ok.hd hc) hl.isList rd ⟨fun x hx y hy => ?_, fun x hx => ?_⟩ (by have : PyData.depthAll (Os.prD e :: es.map Os.prD) ≤ 1 := prs_depth (e :: es); omega) fun i v h' tk bs hv rdm hk => ?_
    · have hx' : x ∈ (e :: es).map Os.prD := hx
      have hy' : y ∈ (e :: es).map Os.prD := hy
      obtain ⟨x1, _, rfl⟩ := List.mem_map.mp hx'
      obtain ⟨y1, _, rfl⟩ := List.mem_map.mp hy'
      exact alike_pr x1 y1
    · have hx' : x ∈ (e :: es).map Os.prD := hx
      obtain ⟨x1, _, rfl⟩ := List.mem_map.mp hx'
      exact fun z => nomatch z
    · have hv' : its[i]? = some v := by simpa using hv
      have il : i < xs.length := by
        rw [rv.length]
        exact (List.getElem?_eq_some_iff.mp hv').1
      have hx : xs[i]? = some xs[i] := List.getElem?_eq_getElem il
      generalize xs[i] = x at hx
      obtain ⟨u, hu1, ru⟩ := rv.get hx
      rw [hv'] at hu1
      cases hu1
      obtain ⟨e', he', pe⟩ := hp.get hx
      obtain ⟨bs', rd'⟩ := Dp.reads I (Os.prD e') x v pe.dt.dp ru
      have r1 := SeqAt.readOf_eq (pr_lay e') (PySem.W.reads_keeps hk rd')
      rw [minD_pr] at rdm
      have r2 := SeqAt.readOf_eq (pr_lay _) rdm
      have ee : e' = minP e es := prD_inj (r1.symm.trans r2)
      subst ee
      exact ⟨x, H, I.kept hk, ru, q i x _ hx he' (minP_least es e)⟩
/-- l.remove(x) of a list of pairs -/
def rRemP : V → List V → Hp → VK → Prop := fun x vs H Q => ∃ (l : Addr) (xs : List V) (es : List Pr) (v : V) (e : Pr) (j : Nat), x = .ref l ∧ vs = [v] ∧ H l = some (.lst xs) ∧ PrsV H xs es ∧ PrV H v e ∧ es[j]? = some e ∧ (∀ m, m < j → es[m]? ≠ some e) ∧
  Q .non (upd H l (.lst (xs.eraseIdx j)))
theorem eqv_prs (e f : Pr) : PyData.eqv (Os.prD e) (Os.prD f) = decide (e = f) := by
  have h : PyData.eqv (Os.prD e) (Os.prD f) = ((e.1 : Int) == (f.1 : Int) && ((e.2 : Int) == (f.2 : Int) && true)) := by
    simp [Os.prD, PyData.eqv, PyData.eqvAll]
  rw [h, Bool.and_true]
  by_cases h1 : e.1 = f.1
  · by_cases h2 : e.2 = f.2
    · rw [decide_eq_true (Prod.ext h1 h2), h1, h2, beq_self_eq_true, beq_self_eq_true]
      rfl
    · rw [decide_eq_false (fun z => h2 (congrArg Prod.snd z)), show ((e.2 : Int) == (f.2 : Int)) = false from beq_eq_false_iff_ne.mpr (by omega), Bool.and_false]
  · rw [decide_eq_false (fun z => h1 (congrArg Prod.fst z)), show ((e.1 : Int) == (f.1 : Int)) = false from beq_eq_false_iff_ne.mpr (by omega), Bool.false_and]
theorem mt_remP (hu : X.A.units + 64 < cLine) : MtR X "list.remove" rRemP := by
  intro pins s σ H x xs v us Q I rx rxs h
  obtain ⟨l, zs, es, y, e, j, rfl, rfl, hH, hp, hy, hj, hno, q⟩ := h
  cases rx
  obtain ⟨u, rfl, ru⟩ := rxs.one
  obtain ⟨z, its, n, r, hl, e0⟩ := I.lstM hH
  obtain ⟨bs, r1⟩ := Dp.reads I (Os.prD e) y u hy.dt.dp ru
  obtain ⟨as, h4⟩ := Dp.readsAll I (es.map Os.prD) zs its hp.dts.dp r
  have hxs := prs_lay es
  have hle := hp.length
  have hmap : its.map (SeqAt.readOf s.heap) = es.map Os.prD := SeqAt.readsAll_map (es.map Os.prD) its as hxs h4
  have jl : j < es.length := (List.getElem?_eq_some_iff.mp hj).1
  have hjs : j < its.toArray.size := by rw [List.size_toArray]; omega
  have at_ : ∀ (m : Nat) (hm : m < its.toArray.size) (f : Pr), es[m]? = some f → SeqAt.readOf s.heap its.toArray[m] = Os.prD f := by
    intro m hm f hf
    have hml : m < its.length := by simpa using hm
    have e1 : (its.map (SeqAt.readOf s.heap))[m]? = (es.map Os.prD)[m]? := by rw [hmap]
    rw [List.getElem?_map, List.getElem?_map, List.getElem?_eq_getElem hml, hf] at e1
    have e2 := Option.some.inj e1
    simpa using e2
  have dp := prs_depth es
  have de := pr_depth e
  refine call_meets PySem.F.slot_list_remove ⟨_, e0, rfl⟩ PySem.F.entry_list_remove (PySem.F.args_list_remove_2 _ _)
    (SeqAt.list_removeAt l its.toArray n none #[] u (fun w => PyData.eqv (SeqAt.readOf s.heap w) (Os.prD e)) j hjs ?_ ?_ (by rw [List.size_toArray, ← hl]; exact z)) ⟨e0, SeqAt.items_eqAt (vs := its.toArray) (show ReadsAll s.heap its.toArray.toList (es.map Os.prD) as from h4) r1 hxs (pr_lay e) (by omega), ?_⟩
  · show PyData.eqv (SeqAt.readOf s.heap its.toArray[j]) (Os.prD e) = true
    rw [at_ j hjs e hj, eqv_prs, decide_eq_true rfl]
  · intro m hm hmj
    have hf : es[m]? = some es[m] := List.getElem?_eq_getElem (by omega)
    show PyData.eqv (SeqAt.readOf s.heap its.toArray[m]) (Os.prD e) = false
    rw [at_ m hm _ hf, eqv_prs]
    refine decide_eq_false fun w => hno m hmj ?_
    rw [hf, w]
  · refine ⟨.non, _, I.lset (its' := its.eraseIdx j) hH e0 ?_ (r.eraseIdx j) ?_, rfl, q⟩
    · show its.toArray.eraseIdxIfInBounds j = (its.eraseIdx j).toArray
      rw [List.eraseIdxIfInBounds_toArray]
    · have := len_erase zs j
      omega
/-- list(x), x a text -/
def signsV (z : Str) : List V := z.cps.toList.map fun c => V.str ⟨#[c]⟩
def rListStr : List V → Hp → VK → Prop := fun vs H Q => ∃ z : Str, vs = [V.str z] ∧ z.length ≤ sizeLine ∧ ∀ l, H l = none → Q (.ref l) (upd H l (.lst (signsV z)))
theorem vals_at : ∀ {xs : List V} {us : List Value}, xs.length = us.length → (∀ (i : Nat) (x : V) (u : Value), xs[i]? = some x → us[i]? = some u → RelV x u) → Vals xs us
  | [], [], _, _ => .nil
  | x :: xs, u :: us, hl, h => .cons (h 0 x u rfl rfl) (vals_at (by simpa using hl) fun i y v h1 h2 => h (i + 1) y v (by simpa using h1) (by simpa using h2))
  | [], _ :: _, hl, _ => by simp at hl
  | _ :: _, [], hl, _ => by simp at hl
theorem call_listS (hc : X.calm = true) : CallR X (.type "list") rListStr := by
  intro pins s σ H vs us Q I r h
  obtain ⟨z, rfl, hz, q⟩ := h
  obtain ⟨u, rfl, t, rfl⟩ := vals1 r
  refine call_list_str (I.ok.hd hc) z t (fun h' tk acc' c' hk hS hacc => ?_) (hn := hz)
  have hsz : acc'.size = z.cps.size := hacc.1
  have hl : (signsV z).length = acc'.toList.length := by
    unfold signsV
    rw [List.length_map, Array.length_toList, Array.length_toList, hsz]
  refine ⟨.ref s.heap.objs.size, upd H s.heap.objs.size (.lst (signsV z)), I.laid (t' := tk) hk (Nat.le_refl _) ⟨?_, acc'.toList, c', vals_at hl fun i x v h1 h2 => ?_, by simpa using hS⟩, rfl, q _ (I.hok.fresh (Nat.le_refl _))⟩
  · unfold signsV
    rw [List.length_map, Array.length_toList]
    exact hz
  · obtain ⟨c, tk', hc', rfl⟩ := hacc.2 i v (by simpa using h2)
    unfold signsV at h1
    rw [List.getElem?_map, Array.getElem?_toList, hc'] at h1
    cases h1
    exact ⟨_, rfl⟩
end
end Os
/-! one more edge: a cycle exactly where its ends are joined already -/
namespace Os
open PySem PySem.Spec PyProof.Rows L2 Evl
def Resp (S : Nat → Bool) (es : List Pr) : Prop := ∀ f ∈ es, S f.1 = S f.2
def Conn (es : List Pr) (x y : Nat) : Prop := ∀ S : Nat → Bool, Resp S es → S x = S y
theorem bridges_add {es : List Pr} {e : Pr} {S : Nat → Bool} (h : Bridges es) (r : Resp S es) (s : S e.1 ≠ S e.2) : Bridges (es ++ [e]) := fun f hf => by
  rcases List.mem_append.mp hf with hf | hf
  · obtain ⟨T, t1, t2⟩ := h f hf
    by_cases q : T e.1 = T e.2
    · exact ⟨T, t1, fun g hg ne => by
        rcases List.mem_append.mp hg with hg | hg
        · exact t2 g hg ne
        · rw [List.mem_singleton.mp hg]
          exact q⟩
    · refine ⟨fun x => T x != S x, fun z => t1 ?_, fun g hg ne => ?_⟩
      · have rf := r f hf
        revert z
        show (T f.1 != S f.1) = (T f.2 != S f.2) → _
        rw [rf]
        cases T f.1 <;> cases T f.2 <;> cases S f.2 <;> simp
      · show (T g.1 != S g.1) = (T g.2 != S g.2)
        rcases List.mem_append.mp hg with hg | hg
        · rw [t2 g hg ne, r g hg]
        · rw [List.mem_singleton.mp hg]
          revert q s
          cases T e.1 <;> cases T e.2 <;> cases S e.1 <;> cases S e.2 <;> simp
  · rw [List.mem_singleton.mp hf]
    exact ⟨S, s, fun g hg ne => by
      rcases List.mem_append.mp hg with hg | hg
      · exact r g hg
      · exact absurd (List.mem_singleton.mp hg) ne⟩
theorem cyc_bridges : ∀ {r done : List Pr} {t : List Nat}, Bridges done → (∀ f ∈ done ++ r, f.1 < t.length ∧ f.2 < t.length) → (∀ f ∈ done, t.getD f.1 0 = t.getD f.2 0) → cycB r t = false → Bridges (done ++ r)
  | [], done, _, h, _, _, _ => by rw [List.append_nil]; exact h
  | e :: r, done, t, h, hb, hl, c => by
    unfold cycB at c
    split at c
    · cases c
    · rename_i ne
      obtain ⟨b1, b2⟩ := hb e (by simp)
      have h2 : Bridges (done ++ [e]) := bridges_add (S := fun x => decide (t.getD x 0 = t.getD e.1 0)) h (fun f hf => by
        show decide _ = decide _
        rw [hl f hf]) (by
        show decide _ ≠ decide _
        rw [decide_eq_true rfl, decide_eq_false (fun z => ne z.symm)]
        decide)
      have := cyc_bridges (r := r) (done := done ++ [e]) (t := merge t e) h2 (fun f hf => by
        rw [merge_length]
        exact hb f (by simpa using hf)) (fun f hf => ?_) c
      · rw [List.append_assoc] at this
        exact this
      · rcases List.mem_append.mp hf with hf | hf
        · obtain ⟨f1, f2⟩ := hb f (by simp [hf])
          unfold merge
          rw [getD_map f1, getD_map f2, hl f hf]
        · rw [List.mem_singleton.mp hf]
          unfold merge
          rw [getD_map b1, getD_map b2, if_neg ne, if_pos rfl]
/-- edges that a graph of n places may have, each once -/
structure Simple (n : Nat) (es : List Pr) : Prop where
  inn : ∀ e ∈ es, e.1 < e.2 ∧ e.2 < n
  asc : es.Pairwise fun e f => ltP e f = true
theorem Simple.nodup {n : Nat} {es : List Pr} (h : Simple n es) : es.Nodup := h.asc.imp fun {a b} q e => by
  rw [e, ltP_irr] at q
  cases q
theorem Simple.cyc {n : Nat} {es : List Pr} (h : Simple n es) : cycB es (List.range n) = false ↔ Bridges es := by
  constructor
  · intro c
    have := cyc_bridges (r := es) (done := []) (t := List.range n) (fun e he => nomatch he) (fun f hf => by
      have := h.inn f hf
      rw [List.length_range]
      omega) (fun f hf => nomatch hf) c
    exact this
  · intro b
    exact Edges.no_cyc ⟨h.inn, h.asc, b⟩
theorem Edges.simple {n : Nat} {es : List Pr} (h : Edges n es) : Simple n es := ⟨h.inn, h.asc⟩
theorem Simple.edges {n : Nat} {es : List Pr} (h : Simple n es) (b : Bridges es) : Edges n es := ⟨h.inn, h.asc, b⟩
theorem Simple.filter {n : Nat} {es : List Pr} (h : Simple n es) (p : Pr → Bool) : Simple n (es.filter p) := ⟨fun e he => h.inn e (List.mem_filter.mp he).1, h.asc.filter p⟩
theorem Bridges.filter {es : List Pr} (h : Bridges es) (p : Pr → Bool) : Bridges (es.filter p) := fun e he => by
  obtain ⟨S, h1, h2⟩ := h e (List.mem_filter.mp he).1
  exact ⟨S, h1, fun f hf => h2 f (List.mem_filter.mp hf).1⟩
/-- what can be reached from a place -/
structure Reach (es : List Pr) (x : Nat) (R : List Nat) : Prop where
  start : x ∈ R
  closed : ∀ f ∈ es, f.1 ∈ R ↔ f.2 ∈ R
  conn : ∀ v ∈ R, Conn es x v
theorem add_one {n : Nat} {es fs : List Pr} {e : Pr} {R : List Nat} (b : Bridges es) (nm : e ∉ es) (s : Simple n fs) (pm : fs.Perm (es ++ [e])) (rc : Reach es e.1 R) : (!cycB fs (List.range n)) = !decide (e.2 ∈ R) := by
  by_cases h : e.2 ∈ R
  · rw [decide_eq_true h]
    cases c : cycB fs (List.range n) with
    | true => rfl
    | false =>
      have bf := (s.cyc.mp c).perm pm.symm
      obtain ⟨S, h1, h2⟩ := bf e (by simp)
      exact absurd (rc.conn _ h S fun f hf => h2 f (by simp [hf]) fun z => nm (z ▸ hf)) h1
  · rw [decide_eq_false h]
    have : Bridges fs := (bridges_add (S := fun x => decide (x ∈ R)) b (fun f hf => decide_eq_decide.mpr (rc.closed f hf)) (by
      show decide _ ≠ decide _
      rw [decide_eq_true rc.start, decide_eq_false h]
      decide)).perm pm
    rw [s.cyc.mpr this]
end Os
/-! where an order takes the items: rings, and their neighbours in the order of the swaps -/
namespace Os
open PySem PySem.Spec PyProof.Rows L2 Evl
/-! ### joined places -/
theorem Conn.refl (es : List Pr) (x : Nat) : Conn es x x := fun _ _ => rfl
theorem Conn.symm {es : List Pr} {x y : Nat} (h : Conn es x y) : Conn es y x := fun S hS => (h S hS).symm
theorem Conn.trans {es : List Pr} {x y z : Nat} (h : Conn es x y) (k : Conn es y z) : Conn es x z := fun S hS => (h S hS).trans (k S hS)
theorem Conn.edge {es : List Pr} {e : Pr} (h : e ∈ es) : Conn es e.1 e.2 := fun S hS => hS e h
theorem Conn.more {es : List Pr} {e : Pr} {x y : Nat} (h : Conn es x y) : Conn (es ++ [e]) x y := fun S hS => h S fun f hf => hS f (List.mem_append_left _ hf)
theorem conn_add {es : List Pr} {e : Pr} {p x : Nat} : Conn (es ++ [e]) p x ↔ Conn es p x ∨ (Conn es p e.1 ∧ Conn es e.2 x) ∨ (Conn es p e.2 ∧ Conn es e.1 x) := by
  constructor
  · intro h
    classical
    let T : Nat → Prop := fun y => Conn es p y ∨ (Conn es p e.1 ∧ Conn es e.2 y) ∨ (Conn es p e.2 ∧ Conn es e.1 y)
    have inv : ∀ {y z : Nat}, Conn es y z → T y → T z := fun c t => by
      rcases t with t | ⟨t, u⟩ | ⟨t, u⟩
      · exact .inl (t.trans c)
      · exact .inr (.inl ⟨t, u.trans c⟩)
      · exact .inr (.inr ⟨t, u.trans c⟩)
    have ab : T e.1 ↔ T e.2 := by
      constructor
      · rintro (t | ⟨t, u⟩ | ⟨t, u⟩)
        · exact .inr (.inl ⟨t, .refl _ _⟩)
        · exact .inr (.inl ⟨t, .refl _ _⟩)
        · exact .inl t
      · rintro (t | ⟨t, u⟩ | ⟨t, u⟩)
        · exact .inr (.inr ⟨t, .refl _ _⟩)
        · exact .inl t
        · exact .inr (.inr ⟨t, .refl _ _⟩)
    have := h (fun y => decide (T y)) fun f hf => by
      rcases List.mem_append.mp hf with hf | hf
      · exact decide_eq_decide.mpr ⟨inv (.edge hf), inv (Conn.edge hf).symm⟩
      · rw [List.mem_singleton.mp hf]
        exact decide_eq_decide.mpr ab
    have tp : decide (T p) = true := decide_eq_true (.inl (.refl _ _))
    have tx : decide (T x) = true := this.symm.trans tp
    exact of_decide_eq_true tx
  · have ce : Conn (es ++ [e]) e.1 e.2 := .edge (by simp)
    rintro (h | ⟨h, k⟩ | ⟨h, k⟩)
    · exact h.more
    · exact (h.more.trans ce).trans k.more
    · exact (h.more.trans ce.symm).trans k.more
theorem conn_none {p x : Nat} : Conn [] p x ↔ x = p := by
  constructor
  · intro h
    have := h (fun y => decide (y = p)) fun f hf => nomatch hf
    have tp : decide (p = p) = true := decide_eq_true rfl
    exact of_decide_eq_true (this.symm.trans tp)
  · rintro rfl
    exact .refl _ _
/-! ### where the item of a place ends -/
def sw (e : Pr) (x : Nat) : Nat := if x = e.1 then e.2 else if x = e.2 then e.1 else x
def mvs (os : List Pr) (p : Nat) : Nat := os.foldl (fun x e => sw e x) p
theorem mvs_snoc (os : List Pr) (e : Pr) (p : Nat) : mvs (os ++ [e]) p = sw e (mvs os p) := by
  unfold mvs
  rw [List.foldl_append]
  rfl
theorem sw_ne {e : Pr} {x : Nat} (h1 : x ≠ e.1) (h2 : x ≠ e.2) : sw e x = x := by
  unfold sw
  rw [if_neg h1, if_neg h2]
theorem sw_one (e : Pr) : sw e e.1 = e.2 := if_pos rfl
theorem sw_two (e : Pr) : sw e e.2 = e.1 := by
  unfold sw
  by_cases h : e.2 = e.1
  · rw [if_pos h, h]
  · rw [if_neg h, if_pos rfl]
/-- f leads from x through l to y -/
def Ch (f : Nat → Nat) : Nat → List Nat → Nat → Prop
  | x, [], y => f x = y
  | x, a :: l, y => f x = a ∧ Ch f a l y
theorem Ch.app {f : Nat → Nat} : ∀ {l m : List Nat} {x a y : Nat}, Ch f x (l ++ a :: m) y ↔ Ch f x l a ∧ Ch f a m y
  | [], _, _, _, _ => Iff.rfl
  | b :: l, m, x, a, y => by
    show f x = b ∧ Ch f b (l ++ a :: m) y ↔ (f x = b ∧ Ch f b l a) ∧ Ch f a m y
    rw [Ch.app (l := l)]
    exact ⟨fun ⟨h, k, j⟩ => ⟨⟨h, k⟩, j⟩, fun ⟨⟨h, k⟩, j⟩ => ⟨h, k, j⟩⟩
theorem Ch.turn {f : Nat → Nat} {l m : List Nat} {x a : Nat} (h : Ch f x (l ++ a :: m) x) : Ch f a (m ++ x :: l) a := by
  obtain ⟨h1, h2⟩ := Ch.app.mp h
  exact Ch.app.mpr ⟨h2, h1⟩
theorem Ch.sw {os : List Pr} {e : Pr} : ∀ {l : List Nat} {x y : Nat}, Ch (mvs os) x l y → e.1 ∉ l → e.2 ∉ l → Ch (mvs (os ++ [e])) x l (Os.sw e y)
  | [], x, y, h, _, _ => by
    show mvs (os ++ [e]) x = _
    rw [mvs_snoc, show mvs os x = y from h]
  | a :: l, x, y, ⟨h1, h2⟩, n1, n2 => by
    refine ⟨?_, Ch.sw h2 (fun z => n1 (List.mem_cons_of_mem _ z)) fun z => n2 (List.mem_cons_of_mem _ z)⟩
    rw [mvs_snoc, h1, sw_ne (fun z => n1 (z ▸ List.mem_cons_self)) fun z => n2 (z ▸ List.mem_cons_self)]
/-! ### rings -/
/-- the turn of a place: its neighbours in the order of the swaps -/
def turnOf (p : Nat) (os : List Pr) : List Nat := os.filterMap fun e => if e.1 = p then some e.2 else if e.2 = p then some e.1 else none
theorem turn_conn {os : List Pr} {p x : Nat} (h : x ∈ turnOf p os) : Conn os p x := by
  obtain ⟨e, he, h⟩ := List.mem_filterMap.mp h
  split at h
  · rename_i h1
    cases h
    rw [← h1]
    exact .edge he
  · split at h
    · rename_i h1
      cases h
      rw [← h1]
      exact (Conn.edge he).symm
    · cases h
theorem turn_snoc (os : List Pr) (e : Pr) (p : Nat) : turnOf p (os ++ [e]) = turnOf p os ++ (if e.1 = p then [e.2] else if e.2 = p then [e.1] else []) := by
  unfold turnOf
  rw [List.filterMap_append]
  congr 1
  by_cases h1 : e.1 = p
  · simp [h1]
  · by_cases h2 : e.2 = p
    · simp [h1, h2]
    · simp [h1, h2]
/-- l is the ring of p, read behind p -/
structure RingAt (os : List Pr) (p : Nat) (l : List Nat) : Prop where
  runs : Ch (mvs os) p l p
  nd : (p :: l).Nodup
  all : ∀ x, x ∈ p :: l ↔ Conn os p x
  turn : (l.filter fun x => decide (x ∈ turnOf p os)) = turnOf p os
theorem ring_none (p : Nat) : RingAt [] p [] := ⟨rfl, List.pairwise_singleton _ _, fun x => by rw [conn_none]; simp, rfl⟩
theorem filter_none {l : List Nat} {q : Nat → Bool} (h : ∀ x ∈ l, q x = false) : l.filter q = [] := List.filter_eq_nil_iff.mpr fun x hx => by rw [h x hx]; decide
theorem filter_like {l : List Nat} {q r : Nat → Bool} (h : ∀ x ∈ l, q x = r x) : l.filter q = l.filter r := List.filter_congr h
/-- every place has its ring under every order of edges that join ever new trees -/
theorem rings_at : ∀ {os : List Pr}, (∀ pre e post, os = pre ++ e :: post → e.1 ≠ e.2 ∧ ¬ Conn pre e.1 e.2) → ∀ p, ∃ l, RingAt os p l := by
  intro os
  generalize hn : os.length = n
  induction n generalizing os with
  | zero =>
    intro _ p
    rw [List.length_eq_zero_iff.mp hn]
    exact ⟨[], ring_none p⟩
  | succ n ih =>
    intro h p
    have ne : os ≠ [] := fun z => by rw [z] at hn; cases hn
    obtain ⟨pre, e, rfl⟩ : ∃ pre e, os = pre ++ [e] := ⟨os.dropLast, os.getLast ne, (List.dropLast_concat_getLast ne).symm⟩
    obtain ⟨ab, nc⟩ := h pre e [] rfl
    have ih := ih (os := pre) (by rw [List.length_append] at hn; simpa using hn) fun p1 f p2 q => h p1 f (p2 ++ [e]) (by rw [q, List.append_assoc]; rfl)
    -- both ends, in either order
    have both : ∀ a b, (a = e.1 ∧ b = e.2 ∨ a = e.2 ∧ b = e.1) → ∀ p, Conn pre p a → ∃ l, RingAt (pre ++ [e]) p l := by
      intro a b hab p pa
      have nab : ¬ Conn pre a b := by
        rcases hab with ⟨rfl, rfl⟩ | ⟨rfl, rfl⟩
        · exact nc
        · exact fun z => nc z.symm
      have swa : sw e a = b := by
        rcases hab with ⟨rfl, rfl⟩ | ⟨rfl, rfl⟩
        · exact sw_one e
        · exact sw_two e
      have swb : sw e b = a := by
        rcases hab with ⟨rfl, rfl⟩ | ⟨rfl, rfl⟩
        · exact sw_two e
        · exact sw_one e
      have cadd : ∀ {x : Nat}, Conn (pre ++ [e]) p x ↔ Conn pre p x ∨ Conn pre b x := fun {x} => by
        rw [conn_add]
        rcases hab with ⟨rfl, rfl⟩ | ⟨rfl, rfl⟩
        · constructor
          · rintro (z | ⟨_, z⟩ | ⟨z, _⟩)
            · exact .inl z
            · exact .inr z
            · exact absurd (pa.symm.trans z) nc
          · rintro (z | z)
            · exact .inl z
            · exact .inr (.inl ⟨pa, z⟩)
        · constructor
          · rintro (z | ⟨z, _⟩ | ⟨_, z⟩)
            · exact .inl z
            · exact absurd (z.symm.trans pa) nc
            · exact .inr z
          · rintro (z | z)
            · exact .inl z
            · exact .inr (.inr ⟨pa, z⟩)
      have tsn : ∀ q, turnOf q (pre ++ [e]) = turnOf q pre ++ (if q = a then [b] else if q = b then [a] else []) := fun q => by
        rw [turn_snoc]
        congr 1
        rcases hab with ⟨rfl, rfl⟩ | ⟨rfl, rfl⟩
        · simp only [eq_comm (a := q)]
        · simp only [eq_comm (a := q)]
          by_cases h1 : e.1 = q
          · have h2 : ¬ e.2 = q := fun z => ab (h1.trans z.symm)
            rw [if_pos h1, if_neg h2, if_pos h1]
          · rw [if_neg h1]
            by_cases h2 : e.2 = q
            · rw [if_pos h2, if_pos h2]
            · rw [if_neg h2, if_neg h2, if_neg h1]
      obtain ⟨v, rv⟩ := ih b
      have vb : ∀ x ∈ b :: v, Conn pre b x := fun x hx => (rv.all x).mp hx
      have apart : ∀ {x : Nat}, Conn pre b x → ¬ Conn pre a x := fun hb ha => nab (ha.trans hb.symm)
      have ea : ∀ {l : List Nat}, a ∉ l → b ∉ l → e.1 ∉ l ∧ e.2 ∉ l := fun n1 n2 => by
        rcases hab with ⟨rfl, rfl⟩ | ⟨rfl, rfl⟩
        · exact ⟨n1, n2⟩
        · exact ⟨n2, n1⟩
      have av : a ∉ v := fun z => apart (vb a (List.mem_cons_of_mem _ z)) (.refl _ _)
      have bv : b ∉ v := fun z => (List.nodup_cons.mp rv.nd).1 z
      have chv : Ch (mvs (pre ++ [e])) b v a := by
        have := rv.runs.sw (ea av bv).1 (ea av bv).2
        rwa [swb] at this
      by_cases pe : p = a
      · subst pe
        obtain ⟨u, ru⟩ := ih p
        have ub : ∀ x ∈ p :: u, Conn pre p x := fun x hx => (ru.all x).mp hx
        have au : p ∉ u := (List.nodup_cons.mp ru.nd).1
        have bu : b ∉ u := fun z => nab (ub b (List.mem_cons_of_mem _ z))
        have chu : Ch (mvs (pre ++ [e])) p u b := by
          have := ru.runs.sw (ea au bu).1 (ea au bu).2
          rwa [swa] at this
        refine ⟨u ++ b :: v, Ch.app.mpr ⟨chu, chv⟩, ?_, fun x => ?_, ?_⟩
        · rw [← List.cons_append]
          exact List.nodup_append.mpr ⟨ru.nd, rv.nd, fun x hx y hy z => apart (vb y hy) (z ▸ ub x hx)⟩
        · rw [cadd, ← ru.all, ← rv.all, ← List.cons_append, List.mem_append]
        · rw [tsn, if_pos rfl, List.filter_append, List.filter_cons]
          rw [if_pos (by simp)]
          rw [filter_none (l := v) fun x hx => by
            refine decide_eq_false fun z => ?_
            rcases List.mem_append.mp z with z | z
            · exact apart (vb x (List.mem_cons_of_mem _ hx)) (turn_conn z)
            · rw [List.mem_singleton.mp z] at hx
              exact bv hx]
          have : u.filter (fun x => decide (x ∈ turnOf p pre ++ [b])) = turnOf p pre := (filter_like (r := fun x => decide (x ∈ turnOf p pre)) fun x hx => decide_eq_decide.mpr ⟨fun z => by
            rcases List.mem_append.mp z with z | z
            · exact z
            · rw [List.mem_singleton.mp z] at hx
              exact absurd hx bu, fun z => List.mem_append_left _ z⟩).trans ru.turn
          rw [this]
      · obtain ⟨l, rl⟩ := ih p
        have lb : ∀ x ∈ p :: l, Conn pre p x := fun x hx => (rl.all x).mp hx
        have al : a ∈ l := by
          rcases List.mem_cons.mp ((rl.all a).mpr pa) with z | z
          · exact absurd z.symm pe
          · exact z
        obtain ⟨l1, l2, rfl⟩ := List.append_of_mem al
        have pb : p ≠ b := fun z => nab (pa.symm.trans (z ▸ .refl _ _))
        have bl : b ∉ p :: (l1 ++ a :: l2) := fun z => apart (.refl _ _) (pa.symm.trans (lb b z))
        have nd0 := rl.nd
        have pm1 : (p :: (l1 ++ a :: l2)).Perm (a :: (l2 ++ p :: l1)) := by
          have h1 : (p :: l1 ++ a :: l2).Perm (a :: l2 ++ p :: l1) := List.perm_append_comm
          exact h1
        have nd1 : (a :: (l2 ++ p :: l1)).Nodup := pm1.nodup_iff.mp nd0
        have au : a ∉ l2 ++ p :: l1 := (List.nodup_cons.mp nd1).1
        have bu : b ∉ l2 ++ p :: l1 := fun z => bl (pm1.mem_iff.mpr (List.mem_cons_of_mem _ z))
        have chu : Ch (mvs (pre ++ [e])) a (l2 ++ p :: l1) b := by
          have := rl.runs.turn.sw (ea au bu).1 (ea au bu).2
          rwa [swa] at this
        have pm2 : (p :: ((l1 ++ b :: v) ++ a :: l2)).Perm ((p :: (l1 ++ a :: l2)) ++ b :: v) := by
          refine List.Perm.cons p ?_
          show ((l1 ++ b :: v) ++ a :: l2).Perm ((l1 ++ a :: l2) ++ (b :: v))
          rw [List.append_assoc, List.append_assoc]
          exact List.Perm.append_left l1 List.perm_append_comm
        have whole : Ch (mvs (pre ++ [e])) a (l2 ++ p :: (l1 ++ b :: v)) a := by
          have := Ch.app.mpr ⟨chu, chv⟩
          rwa [List.append_assoc, List.cons_append] at this
        refine ⟨(l1 ++ b :: v) ++ a :: l2, whole.turn, ?_, fun x => ?_, ?_⟩
        · refine pm2.nodup_iff.mpr (List.nodup_append.mpr ⟨nd0, rv.nd, fun x hx y hy z => apart (vb y hy) (z ▸ pa.symm.trans (lb x hx))⟩)
        · rw [pm2.mem_iff, List.mem_append, rl.all, rv.all, cadd]
        · have hn : (b :: v).filter (fun x => decide (x ∈ turnOf p pre)) = [] := filter_none fun x hx => decide_eq_false fun z => apart (vb x hx) (pa.symm.trans (turn_conn z))
          rw [tsn, if_neg pe, if_neg pb, List.append_nil, List.filter_append, List.filter_append, hn, List.append_nil, ← List.filter_append]
          exact rl.turn
    by_cases p1 : Conn pre p e.1
    · exact both e.1 e.2 (.inl ⟨rfl, rfl⟩) p p1
    · by_cases p2 : Conn pre p e.2
      · exact both e.2 e.1 (.inr ⟨rfl, rfl⟩) p p2
      · obtain ⟨l, rl⟩ := ih p
        have n1 : e.1 ∉ p :: l := fun z => p1 ((rl.all _).mp z)
        have n2 : e.2 ∉ p :: l := fun z => p2 ((rl.all _).mp z)
        refine ⟨l, ?_, rl.nd, fun x => ?_, ?_⟩
        · have := rl.runs.sw (fun z => n1 (List.mem_cons_of_mem _ z)) (fun z => n2 (List.mem_cons_of_mem _ z))
          rwa [sw_ne (fun z => n1 (z ▸ List.mem_cons_self)) (fun z => n2 (z ▸ List.mem_cons_self))] at this
        · rw [rl.all, conn_add]
          exact ⟨.inl, fun z => z.elim id fun z => z.elim (fun z => absurd z.1 p1) fun z => absurd z.1 p2⟩
        · have t : turnOf p (pre ++ [e]) = turnOf p pre := by
            rw [turn_snoc, if_neg (show ¬ e.1 = p from fun z => n1 (by rw [z]; exact List.mem_cons_self)), if_neg (show ¬ e.2 = p from fun z => n2 (by rw [z]; exact List.mem_cons_self)), List.append_nil]
          rw [t]
          exact rl.turn
end Os
/-! an order's rings, as the program and the law read them -/
namespace Os
open PySem PySem.Spec PyProof.Rows L2 Evl
/-- an order of a forest's edges joins ever new trees -/
theorem order_ok {n : Nat} {es os : List Pr} (E : Edges n es) (pm : os.Perm es) : ∀ pre e post, os = pre ++ e :: post → e.1 ≠ e.2 ∧ ¬ Conn pre e.1 e.2 := by
  intro pre e post h
  have me : e ∈ es := pm.mem_iff.mp (by rw [h]; simp)
  have nd : os.Nodup := pm.nodup_iff.mpr E.nodup
  have := E.inn e me
  refine ⟨by omega, fun c => ?_⟩
  obtain ⟨S, s1, s2⟩ := E.br e me
  refine s1 (c S fun f hf => s2 f (pm.mem_iff.mp (by rw [h]; simp [hf])) fun z => ?_)
  rw [h] at nd
  exact (List.nodup_append.mp nd).2.2 f hf e List.mem_cons_self z
theorem order_rings {n : Nat} {es os : List Pr} (E : Edges n es) (pm : os.Perm es) (p : Nat) : ∃ l, RingAt os p l := rings_at (order_ok E pm) p
theorem conn_perm {es os : List Pr} (pm : os.Perm es) {x y : Nat} : Conn os x y ↔ Conn es x y := ⟨fun h S hS => h S fun f hf => hS f (pm.mem_iff.mp hf), fun h S hS => h S fun f hf => hS f (pm.mem_iff.mpr hf)⟩
/-! ### the items -/
theorem swp_at {zs : List Str} {e : Pr} {p : Nat} (h1 : e.1 < zs.length) (h2 : e.2 < zs.length) (ne : e.1 ≠ e.2) (hp : p < zs.length) : (swp zs e)[sw e p]? = zs[p]? := by
  unfold swp sw
  by_cases c1 : p = e.1
  · rw [if_pos c1, List.getElem?_set_self (by rw [List.length_set]; exact h2), List.getD_eq_getElem?_getD, c1, List.getElem?_eq_getElem h1]
    rfl
  · rw [if_neg c1]
    by_cases c2 : p = e.2
    · rw [if_pos c2, List.getElem?_set_ne (fun z => ne z.symm), List.getElem?_set_self h1, List.getD_eq_getElem?_getD, c2, List.getElem?_eq_getElem h2]
      rfl
    · rw [if_neg c2, List.getElem?_set_ne (fun z => c2 z.symm), List.getElem?_set_ne (fun z => c1 z.symm)]
theorem sw_lt {e : Pr} {n p : Nat} (h1 : e.1 < n) (h2 : e.2 < n) (hp : p < n) : sw e p < n := by
  unfold sw
  split
  · exact h2
  · split
    · exact h1
    · exact hp
theorem mvs_lt {n : Nat} : ∀ {os : List Pr} {p : Nat}, (∀ e ∈ os, e.1 < n ∧ e.2 < n) → p < n → mvs os p < n
  | [], _, _, h => h
  | e :: r, p, h, hp => by
    obtain ⟨a, b⟩ := h e List.mem_cons_self
    exact mvs_lt (os := r) (fun f hf => h f (List.mem_cons_of_mem _ hf)) (sw_lt a b hp)
theorem swps_at {n : Nat} : ∀ {os : List Pr} {zs : List Str} {p : Nat}, zs.length = n → (∀ e ∈ os, e.1 < e.2 ∧ e.2 < n) → p < n → (swps zs os)[mvs os p]? = zs[p]?
  | [], _, _, _, _, _ => rfl
  | e :: r, zs, p, hl, h, hp => by
    obtain ⟨a, b⟩ := h e List.mem_cons_self
    show (swps (swp zs e) r)[mvs r (sw e p)]? = _
    rw [swps_at (n := n) (by rw [swp_len, hl]) (fun f hf => h f (List.mem_cons_of_mem _ hf)) (sw_lt (by omega) b hp), swp_at (by omega) (by omega) (by omega) (by omega)]
theorem idx_nodup {us : List Str} {i : Nat} {z : Str} (nd : us.Nodup) (h : us[i]? = some z) : us.idxOf z = i := by
  obtain ⟨lt, e⟩ := List.getElem?_eq_some_iff.mp h
  have m : z ∈ us := List.mem_of_getElem? h
  have lt2 := List.idxOf_lt_length_iff.mpr m
  have e2 := List.getElem_idxOf lt2
  refine Decidable.byContradiction fun ne => ?_
  rcases Nat.lt_or_gt_of_ne ne with c | c
  · exact List.pairwise_iff_getElem.mp nd _ _ lt2 lt c (e2.trans e.symm)
  · exact List.pairwise_iff_getElem.mp nd _ _ lt lt2 c (e.trans e2.symm)
theorem went_at {n : Nat} {os : List Pr} {zs : List Str} {p : Nat} (hl : zs.length = n) (nd : zs.Nodup) (h : ∀ e ∈ os, e.1 < e.2 ∧ e.2 < n) (hp : p < n) : (went zs (swps zs os)).getD p 0 = mvs os p := by
  have pm : (swps zs os).Perm zs := swps_perm hl fun e he => by have := h e he; omega
  unfold went
  rw [List.getD_eq_getElem?_getD, List.getElem?_map, List.getElem?_eq_getElem (by omega)]
  show (swps zs os).idxOf zs[p] = _
  refine idx_nodup (pm.nodup_iff.mpr nd) ?_
  rw [swps_at hl h hp, List.getElem?_eq_getElem]
theorem went_ok {n : Nat} {os : List Pr} {zs : List Str} (hl : zs.length = n) (nd : zs.Nodup) (h : ∀ e ∈ os, e.1 < e.2 ∧ e.2 < n) : IsPerm (went zs (swps zs os)) n := went_perm (swps_perm hl fun e he => by have := h e he; omega) nd hl
/-! ### the rings as they are read -/
theorem ch_itr {f : List Nat} {g : Nat → Nat} {n : Nat} (p : IsPerm f n) (fg : ∀ x, x < n → f.getD x 0 = g x) {x : Nat} (hx : x < n) : ∀ {l : List Nat} {k y z : Nat}, itr f k x = y → Ch g y l z → (∀ i, i < l.length → l[i]? = some (itr f (k + 1 + i) x)) ∧ itr f (k + 1 + l.length) x = z
  | [], k, y, z, e, c => by
    refine ⟨fun i h => absurd h (Nat.not_lt_zero i), ?_⟩
    show f.getD (itr f k x) 0 = z
    rw [fg _ (itr_lt p k hx), e]
    exact c
  | a :: l, k, y, z, e, ⟨c1, c2⟩ => by
    have e2 : itr f (k + 1) x = a := by
      show f.getD (itr f k x) 0 = a
      rw [fg _ (itr_lt p k hx), e, c1]
    obtain ⟨h1, h2⟩ := ch_itr p fg hx e2 c2
    refine ⟨fun i h => ?_, ?_⟩
    · cases i with
      | zero => exact congrArg some e2.symm
      | succ i =>
        rw [List.getElem?_cons_succ, h1 i (by simpa using h), show k + 1 + 1 + i = k + 1 + (i + 1) by omega]
    · rw [List.length_cons, show k + 1 + (l.length + 1) = k + 1 + 1 + l.length by omega]
      exact h2
theorem ring_of {f : List Nat} {n : Nat} {os : List Pr} {x : Nat} {l : List Nat} (p : IsPerm f n) (fg : ∀ x, x < n → f.getD x 0 = mvs os x) (hx : x < n) (r : RingAt os x l) : ringOf f n x = x :: l := by
  obtain ⟨h1, h2⟩ := ch_itr p fg hx (k := 0) rfl r.runs
  obtain ⟨p1, p2, p3, p4⟩ := per_ok p hx
  have at' : ∀ i, i ≤ l.length → (x :: l)[i]? = some (itr f i x) := fun i hi => by
    cases i with
    | zero => rfl
    | succ i =>
      rw [List.getElem?_cons_succ, h1 i (by omega), show 0 + 1 + i = i + 1 by omega]
  have e : per f n x = l.length + 1 := by
    rcases Nat.lt_trichotomy (per f n x) (l.length + 1) with c | c | c
    · have a0 := at' 0 (Nat.zero_le _)
      have a1 := at' (per f n x) (by omega)
      rw [p3] at a1
      obtain ⟨l0, e0⟩ := List.getElem?_eq_some_iff.mp a0
      obtain ⟨l1, e1⟩ := List.getElem?_eq_some_iff.mp a1
      exact absurd (e0.trans e1.symm) (List.pairwise_iff_getElem.mp r.nd 0 _ l0 l1 (by omega))
    · exact c
    · exact absurd (by rw [show l.length + 1 = 0 + 1 + l.length by omega]; exact h2) (p4 (l.length + 1) (by omega) c)
  unfold ringOf way
  rw [e]
  refine List.ext_getElem? fun i => ?_
  by_cases hi : i ≤ l.length
  · rw [at' i hi, List.getElem?_map, List.getElem?_range (by omega)]
    rfl
  · rw [List.getElem?_eq_none (by rw [List.length_map, List.length_range]; omega), List.getElem?_eq_none (by rw [List.length_cons]; omega)]
end Os
/-! orders reversed, exchanged, and without the last edge -/
namespace Os
open PySem PySem.Spec PyProof.Rows L2 Evl
theorem sw_sw (e : Pr) (x : Nat) : sw e (sw e x) = x := by
  by_cases h1 : x = e.1
  · rw [h1, sw_one, sw_two]
  · by_cases h2 : x = e.2
    · rw [h2, sw_two, sw_one]
    · rw [sw_ne h1 h2, sw_ne h1 h2]
theorem mvs_app (os ps : List Pr) (p : Nat) : mvs (os ++ ps) p = mvs ps (mvs os p) := by
  unfold mvs
  rw [List.foldl_append]
/-- the reversed order takes the items back -/
theorem mvs_back : ∀ (os : List Pr) (p : Nat), mvs os.reverse (mvs os p) = p
  | [], _ => rfl
  | e :: r, p => by
    rw [List.reverse_cons, mvs_app]
    show sw e (mvs r.reverse (mvs r (sw e p))) = p
    rw [mvs_back r, sw_sw]
theorem mvs_back' (os : List Pr) (p : Nat) : mvs os (mvs os.reverse p) = p := by
  have := mvs_back os.reverse p
  rwa [List.reverse_reverse] at this
theorem swps_app (zs : List Str) (os ps : List Pr) : swps zs (os ++ ps) = swps (swps zs os) ps := by
  unfold swps
  rw [List.foldl_append]
theorem swps_len {zs : List Str} : ∀ {os : List Pr}, (swps zs os).length = zs.length := by
  intro os
  induction os generalizing zs with
  | nil => rfl
  | cons e r ih =>
    show (swps (swp zs e) r).length = _
    rw [ih, swp_len]
theorem swp_swp {zs : List Str} {e : Pr} (h1 : e.1 < zs.length) (h2 : e.2 < zs.length) (ne : e.1 ≠ e.2) : swp (swp zs e) e = zs := by
  refine List.ext_getElem? fun i => ?_
  by_cases hi : i < zs.length
  · have a := swp_at (zs := swp zs e) (e := e) (p := sw e i) (by rw [swp_len]; exact h1) (by rw [swp_len]; exact h2) ne (by rw [swp_len]; exact sw_lt h1 h2 hi)
    rw [sw_sw] at a
    rw [a, swp_at h1 h2 ne hi]
  · rw [List.getElem?_eq_none (by rw [swp_len, swp_len]; omega), List.getElem?_eq_none (by omega)]
/-- the reversed order gives the arrangement back -/
theorem swps_back {n : Nat} : ∀ {os : List Pr} {zs : List Str}, zs.length = n → (∀ e ∈ os, e.1 < e.2 ∧ e.2 < n) → swps (swps zs os) os.reverse = zs
  | [], _, _, _ => rfl
  | e :: r, zs, hl, h => by
    obtain ⟨a, b⟩ := h e List.mem_cons_self
    rw [List.reverse_cons, swps_app]
    show swp (swps (swps (swp zs e) r) r.reverse) e = zs
    rw [swps_back (n := n) (by rw [swp_len, hl]) fun f hf => h f (List.mem_cons_of_mem _ hf), swp_swp (by omega) (by omega) (by omega)]
/-- two swaps without a common place may be exchanged -/
theorem sw_comm {e f : Pr} (h1 : e.1 ≠ f.1) (h2 : e.1 ≠ f.2) (h3 : e.2 ≠ f.1) (h4 : e.2 ≠ f.2) (x : Nat) : sw e (sw f x) = sw f (sw e x) := by
  by_cases a1 : x = e.1
  · rw [a1, sw_one, sw_ne h1 h2, sw_one, sw_ne h3 h4]
  · by_cases a2 : x = e.2
    · rw [a2, sw_two, sw_ne h3 h4, sw_two, sw_ne h1 h2]
    · rw [sw_ne a1 a2]
      by_cases b1 : x = f.1
      · rw [b1, sw_one, sw_ne (fun z => h2 z.symm) (fun z => h4 z.symm)]
      · by_cases b2 : x = f.2
        · rw [b2, sw_two, sw_ne (fun z => h1 z.symm) (fun z => h3 z.symm)]
        · rw [sw_ne b1 b2, sw_ne a1 a2]
/-- two with exactly one common place never: the item there ends elsewhere -/
theorem sw_apart {e f : Pr} (ne : e.1 ≠ e.2) (nf : f.1 ≠ f.2) (d : ¬ ((e.1 = f.1 ∧ e.2 = f.2) ∨ (e.1 = f.2 ∧ e.2 = f.1))) (c : e.1 = f.1 ∨ e.1 = f.2 ∨ e.2 = f.1 ∨ e.2 = f.2) : ∃ x, (x = e.1 ∨ x = e.2) ∧ sw e (sw f x) ≠ sw f (sw e x) := by
  rcases c with c | c | c | c
  · refine ⟨e.1, .inl rfl, ?_⟩
    have h : e.2 ≠ f.2 := fun z => d (.inl ⟨c, z⟩)
    rw [sw_one, c, sw_one, sw_ne (fun z => nf (c ▸ z).symm) (fun z => h z.symm), sw_ne (fun z => ne (c.trans z.symm)) h]
    exact fun z => h z.symm
  · refine ⟨e.1, .inl rfl, ?_⟩
    have h : e.2 ≠ f.1 := fun z => d (.inr ⟨c, z⟩)
    rw [sw_one, c, sw_two, sw_ne (fun z => nf (by rw [z, c])) (fun z => h z.symm), sw_ne h (fun z => ne (c.trans z.symm))]
    exact fun z => h z.symm
  · refine ⟨e.2, .inr rfl, ?_⟩
    have h : e.1 ≠ f.2 := fun z => d (.inr ⟨z, c⟩)
    rw [sw_two, c, sw_one, sw_ne (fun z => h z.symm) (fun z => nf (by rw [z, c])), sw_ne (fun z => ne (z.trans c.symm)) h]
    exact fun z => h z.symm
  · refine ⟨e.2, .inr rfl, ?_⟩
    have h : e.1 ≠ f.1 := fun z => d (.inl ⟨z, c⟩)
    rw [sw_two, c, sw_two, sw_ne (fun z => h z.symm) (fun z => nf (by rw [z, c])), sw_ne h (fun z => ne (z.trans c.symm))]
    exact fun z => h z.symm
/-! ### a place has one ring -/
theorem Ch.one {f : Nat → Nat} : ∀ {l m : List Nat} {x y : Nat}, Ch f x l y → Ch f x m y → y ∉ l → y ∉ m → l = m
  | [], [], _, _, _, _, _, _ => rfl
  | [], b :: m, x, y, h, ⟨k, _⟩, _, n => absurd (by rw [← (show f x = y from h), k]; exact List.mem_cons_self) n
  | a :: l, [], x, y, ⟨h, _⟩, k, n, _ => absurd (by rw [← (show f x = y from k), h]; exact List.mem_cons_self) n
  | a :: l, b :: m, x, y, ⟨h1, h2⟩, ⟨k1, k2⟩, n1, n2 => by
    have e : a = b := h1.symm.trans k1
    subst e
    rw [Ch.one h2 k2 (fun z => n1 (List.mem_cons_of_mem _ z)) fun z => n2 (List.mem_cons_of_mem _ z)]
theorem RingAt.one {os : List Pr} {p : Nat} {l m : List Nat} (h : RingAt os p l) (k : RingAt os p m) : l = m :=
  Ch.one h.runs k.runs (List.nodup_cons.mp h.nd).1 (List.nodup_cons.mp k.nd).1
/-- the last edge joins two rings -/
theorem last_joins {pre : List Pr} {e : Pr} {u v w : List Nat} (nc : ¬ Conn pre e.1 e.2) (ru : RingAt pre e.1 u) (rv : RingAt pre e.2 v) (rw' : RingAt (pre ++ [e]) e.1 w) : w = u ++ e.2 :: v := by
  have au : e.1 ∉ u := (List.nodup_cons.mp ru.nd).1
  have bv : e.2 ∉ v := (List.nodup_cons.mp rv.nd).1
  have bu : e.2 ∉ u := fun z => nc ((ru.all _).mp (List.mem_cons_of_mem _ z))
  have av : e.1 ∉ v := fun z => nc ((rv.all _).mp (List.mem_cons_of_mem _ z)).symm
  have c1 := ru.runs.sw au bu
  have c2 := rv.runs.sw av bv
  rw [sw_one] at c1
  rw [sw_two] at c2
  exact Ch.one rw'.runs (Ch.app.mpr ⟨c1, c2⟩) (List.nodup_cons.mp rw'.nd).1 fun z => by
    rcases List.mem_append.mp z with z | z
    · exact au z
    · rcases List.mem_cons.mp z with z | z
      · exact nc (z ▸ .refl _ _)
      · exact av z
end Os
/-! no two edges of an order cross on its rings -/
namespace Os
open PySem PySem.Spec PyProof.Rows L2 Evl
/-- of two pairs of places the first begins, then the second, then the first ends, then the second -/
def Cr (i1 i2 j1 j2 : Nat) : Prop := min i1 i2 < min j1 j2 ∧ min j1 j2 < max i1 i2 ∧ max i1 i2 < max j1 j2
theorem cr_turn {k n i1 i2 j1 j2 : Nat} (h1 : i1 < k + n) (h2 : i2 < k + n) (h3 : j1 < k + n) (h4 : j2 < k + n) (a : ¬ Cr i1 i2 j1 j2) (b : ¬ Cr j1 j2 i1 i2) :
    ¬ Cr (if i1 < k then i1 + n else i1 - k) (if i2 < k then i2 + n else i2 - k) (if j1 < k then j1 + n else j1 - k) (if j2 < k then j2 + n else j2 - k) := by
  unfold Cr at *
  split <;> split <;> split <;> split <;> omega
/-- no two edges that lie on m cross there -/
def NoCr (m : List Nat) (es : List Pr) : Prop := ∀ e ∈ es, ∀ f ∈ es, e.1 ∈ m → e.2 ∈ m → f.1 ∈ m → f.2 ∈ m → ¬ Cr (m.idxOf e.1) (m.idxOf e.2) (m.idxOf f.1) (m.idxOf f.2)
theorem idx_turn {U V : List Nat} {x : Nat} (nd : (U ++ V).Nodup) (h : x ∈ U ++ V) : (V ++ U).idxOf x = if (U ++ V).idxOf x < U.length then (U ++ V).idxOf x + V.length else (U ++ V).idxOf x - U.length := by
  rw [List.idxOf_append, List.idxOf_append]
  by_cases hu : x ∈ U
  · have hv : x ∉ V := fun z => (List.nodup_append.mp nd).2.2 x hu x z rfl
    rw [if_pos hu, if_neg hv, if_pos (List.idxOf_lt_length_iff.mpr hu)]
  · have hv : x ∈ V := (List.mem_append.mp h).resolve_left hu
    rw [if_neg hu, if_pos hv, if_neg (by omega)]
    omega
theorem NoCr.turn {U V : List Nat} {es : List Pr} (nd : (U ++ V).Nodup) (h : NoCr (U ++ V) es) : NoCr (V ++ U) es := fun e he f hf m1 m2 m3 m4 => by
  have sw' : ∀ {x : Nat}, x ∈ V ++ U → x ∈ U ++ V := fun z => (List.mem_append.mp z).elim (fun z => List.mem_append_right _ z) fun z => List.mem_append_left _ z
  have lt : ∀ {x : Nat}, x ∈ U ++ V → (U ++ V).idxOf x < U.length + V.length := fun z => by
    have := List.idxOf_lt_length_iff.mpr z
    rwa [List.length_append] at this
  rw [idx_turn nd (sw' m1), idx_turn nd (sw' m2), idx_turn nd (sw' m3), idx_turn nd (sw' m4)]
  exact cr_turn (lt (sw' m1)) (lt (sw' m2)) (lt (sw' m3)) (lt (sw' m4)) (h e he f hf (sw' m1) (sw' m2) (sw' m3) (sw' m4)) (h f hf e he (sw' m3) (sw' m4) (sw' m1) (sw' m2))
theorem no_cross : ∀ {os : List Pr}, (∀ pre e post, os = pre ++ e :: post → e.1 ≠ e.2 ∧ ¬ Conn pre e.1 e.2) → ∀ {p : Nat} {l : List Nat}, RingAt os p l → NoCr (p :: l) os := by
  intro os
  generalize hn : os.length = n
  induction n generalizing os with
  | zero =>
    intro _ p l _ e he
    rw [List.length_eq_zero_iff.mp hn] at he
    cases he
  | succ n ih =>
    intro h p l r
    have ne : os ≠ [] := fun z => by rw [z] at hn; cases hn
    obtain ⟨pre, e, rfl⟩ : ∃ pre e, os = pre ++ [e] := ⟨os.dropLast, os.getLast ne, (List.dropLast_concat_getLast ne).symm⟩
    obtain ⟨ab, nc⟩ := h pre e [] rfl
    have hpre : ∀ p1 f p2, pre = p1 ++ f :: p2 → f.1 ≠ f.2 ∧ ¬ Conn p1 f.1 f.2 := fun p1 f p2 q => h p1 f (p2 ++ [e]) (by rw [q, List.append_assoc]; rfl)
    have ih : ∀ {p : Nat} {l : List Nat}, RingAt pre p l → NoCr (p :: l) pre := ih (os := pre) (by rw [List.length_append] at hn; simpa using hn) hpre
    by_cases c : Conn (pre ++ [e]) p e.1
    · -- the joined ring
      obtain ⟨u, ru⟩ := rings_at hpre e.1
      obtain ⟨v, rv⟩ := rings_at hpre e.2
      obtain ⟨w, rw'⟩ := rings_at h e.1
      have ew := last_joins nc ru rv rw'
      subst ew
      have sep : ∀ {x : Nat}, x ∈ e.1 :: u → x ∉ e.2 :: v := fun hx hy => nc (((ru.all _).mp hx).trans ((rv.all _).mp hy).symm)
      have same : ∀ f ∈ pre, f.1 ∈ (e.1 :: u) ++ (e.2 :: v) → (f.1 ∈ e.1 :: u ∧ f.2 ∈ e.1 :: u) ∨ (f.1 ∈ e.2 :: v ∧ f.2 ∈ e.2 :: v) := fun f hf m => by
        rcases List.mem_append.mp m with m | m
        · exact .inl ⟨m, (ru.all _).mpr (((ru.all _).mp m).trans (.edge hf))⟩
        · exact .inr ⟨m, (rv.all _).mpr (((rv.all _).mp m).trans (.edge hf))⟩
      have i1 : ∀ {x : Nat}, x ∈ e.1 :: u → ((e.1 :: u) ++ (e.2 :: v)).idxOf x = (e.1 :: u).idxOf x ∧ (e.1 :: u).idxOf x < u.length + 1 := fun hx => ⟨by rw [List.idxOf_append, if_pos hx], List.idxOf_lt_length_iff.mpr hx⟩
      have i2 : ∀ {x : Nat}, x ∈ e.2 :: v → ((e.1 :: u) ++ (e.2 :: v)).idxOf x = (e.2 :: v).idxOf x + (u.length + 1) := fun hx => by
        rw [List.idxOf_append, if_neg fun z => sep z hx]
        rfl
      have ia : ((e.1 :: u) ++ (e.2 :: v)).idxOf e.1 = 0 := by
        rw [(i1 List.mem_cons_self).1, List.idxOf_cons_self]
      have ib : ((e.1 :: u) ++ (e.2 :: v)).idxOf e.2 = u.length + 1 := by
        rw [i2 List.mem_cons_self, List.idxOf_cons_self, Nat.zero_add]
      have joined : NoCr ((e.1 :: u) ++ (e.2 :: v)) (pre ++ [e]) := fun f hf g hg m1 m2 m3 m4 => by
        rcases List.mem_append.mp hf with hf | hf
        · rcases List.mem_append.mp hg with hg | hg
          · rcases same f hf m1 with ⟨f1, f2⟩ | ⟨f1, f2⟩
            · rcases same g hg m3 with ⟨g1, g2⟩ | ⟨g1, g2⟩
              · rw [(i1 f1).1, (i1 f2).1, (i1 g1).1, (i1 g2).1]
                exact ih ru f hf g hg f1 f2 g1 g2
              · rw [(i1 f1).1, (i1 f2).1, i2 g1, i2 g2]
                have := (i1 f1).2
                have := (i1 f2).2
                unfold Cr
                omega
            · rcases same g hg m3 with ⟨g1, g2⟩ | ⟨g1, g2⟩
              · rw [i2 f1, i2 f2, (i1 g1).1, (i1 g2).1]
                have := (i1 g1).2
                have := (i1 g2).2
                unfold Cr
                omega
              · rw [i2 f1, i2 f2, i2 g1, i2 g2]
                have := ih rv f hf g hg f1 f2 g1 g2
                unfold Cr at *
                omega
          · have eg := List.mem_singleton.mp hg
            subst eg
            rw [ia, ib]
            unfold Cr
            omega
        · have ef := List.mem_singleton.mp hf
          subst ef
          rcases List.mem_append.mp hg with hg | hg
          · rw [ia, ib]
            rcases same g hg m3 with ⟨g1, g2⟩ | ⟨g1, g2⟩
            · rw [(i1 g1).1, (i1 g2).1]
              have := (i1 g1).2
              have := (i1 g2).2
              unfold Cr
              omega
            · rw [i2 g1, i2 g2]
              unfold Cr
              omega
          · have eg := List.mem_singleton.mp hg
            rw [eg]
            unfold Cr
            omega
      have m1 := (r.all e.1).mpr c
      by_cases pe : p = e.1
      · subst pe
        rw [r.one rw']
        exact joined
      · have al : e.1 ∈ l := (List.mem_cons.mp m1).resolve_left fun z => pe z.symm
        obtain ⟨l1, l2, rfl⟩ := List.append_of_mem al
        have nd2 : (e.1 :: l2 ++ p :: l1).Nodup := by
          have h1 : (p :: l1 ++ e.1 :: l2).Perm (e.1 :: l2 ++ p :: l1) := List.perm_append_comm
          exact h1.nodup_iff.mp r.nd
        have ew : u ++ e.2 :: v = l2 ++ p :: l1 := Ch.one rw'.runs r.runs.turn (List.nodup_cons.mp rw'.nd).1 (List.nodup_cons.mp nd2).1
        have j2 : NoCr (e.1 :: l2 ++ p :: l1) (pre ++ [e]) := by
          have : (e.1 :: u) ++ (e.2 :: v) = e.1 :: l2 ++ p :: l1 := by
            rw [List.cons_append, ew, List.cons_append]
          rw [← this]
          exact joined
        exact NoCr.turn nd2 j2
    · have c2 : ¬ Conn (pre ++ [e]) p e.2 := fun z => c (z.trans (Conn.edge (show e ∈ pre ++ [e] by simp)).symm)
      have n1 : e.1 ∉ p :: l := fun z => c ((r.all _).mp z)
      have n2 : e.2 ∉ p :: l := fun z => c2 ((r.all _).mp z)
      obtain ⟨l', r'⟩ := rings_at hpre p
      have d1 : ¬ Conn pre p e.1 := fun z => c z.more
      have d2 : ¬ Conn pre p e.2 := fun z => c2 z.more
      have k1 : e.1 ∉ p :: l' := fun z => d1 ((r'.all _).mp z)
      have k2 : e.2 ∉ p :: l' := fun z => d2 ((r'.all _).mp z)
      have ch : Ch (mvs (pre ++ [e])) p l' p := by
        have := r'.runs.sw (fun z => k1 (List.mem_cons_of_mem _ z)) (fun z => k2 (List.mem_cons_of_mem _ z))
        rwa [sw_ne (fun z => k1 (z ▸ List.mem_cons_self)) (fun z => k2 (z ▸ List.mem_cons_self))] at this
      have el : l = l' := Ch.one r.runs ch (List.nodup_cons.mp r.nd).1 (List.nodup_cons.mp r'.nd).1
      subst el
      intro f hf g hg m1 m2 m3 m4
      have inp : ∀ f ∈ pre ++ [e], f.1 ∈ p :: l → f ∈ pre := fun f hf m => by
        rcases List.mem_append.mp hf with hf | hf
        · exact hf
        · rw [List.mem_singleton.mp hf] at m
          exact absurd m n1
      exact ih r' f (inp f hf m1) g (inp g hg m3) m1 m2 m3 m4
end Os
/-! where an item ends, from the turns alone -/
namespace Os
open PySem PySem.Spec PyProof.Rows L2 Evl
/-- an item that came from y (or began) at x ends at z, if tn are the turns -/
inductive Goes (tn : Nat → List Nat) : Option Nat → Nat → Nat → Prop
  | stay {x : Nat} : tn x = [] → Goes tn none x x
  | stop {x y : Nat} {A : List Nat} : tn x = A ++ [y] → Goes tn (some y) x x
  | first {x b z : Nat} {B : List Nat} : tn x = b :: B → Goes tn (some x) b z → Goes tn none x z
  | next {x y b z : Nat} {A B : List Nat} : tn x = A ++ y :: b :: B → Goes tn (some x) b z → Goes tn (some y) x z
theorem Goes.snoc {os : List Pr} {e : Pr} (ab : e.1 ≠ e.2) {s : Option Nat} {x z : Nat} (h : Goes (fun p => turnOf p os) s x z) : Goes (fun p => turnOf p (os ++ [e])) s x (sw e z) := by
  have tA : turnOf e.1 (os ++ [e]) = turnOf e.1 os ++ [e.2] := by rw [turn_snoc, if_pos rfl]
  have tB : turnOf e.2 (os ++ [e]) = turnOf e.2 os ++ [e.1] := by rw [turn_snoc, if_neg ab, if_pos rfl]
  have tO : ∀ {x : Nat}, x ≠ e.1 → x ≠ e.2 → turnOf x (os ++ [e]) = turnOf x os := fun h1 h2 => by
    rw [turn_snoc, if_neg (fun z => h1 z.symm), if_neg (fun z => h2 z.symm), List.append_nil]
  have more : ∀ x, ∃ E, turnOf x (os ++ [e]) = turnOf x os ++ E := fun x => ⟨_, turn_snoc os e x⟩
  induction h with
  | @stay x h =>
    have h : turnOf x os = [] := h
    by_cases h1 : x = e.1
    · subst h1
      rw [sw_one]
      exact .first (B := []) (by show turnOf _ _ = _; rw [tA, h]; rfl) (.stop (A := turnOf e.2 os) tB)
    · by_cases h2 : x = e.2
      · subst h2
        rw [sw_two]
        exact .first (B := []) (by show turnOf _ _ = _; rw [tB, h]; rfl) (.stop (A := turnOf e.1 os) tA)
      · rw [sw_ne h1 h2]
        exact .stay (by show turnOf _ _ = _; rw [tO h1 h2, h])
  | @stop x y A h =>
    have h : turnOf x os = A ++ [y] := h
    by_cases h1 : x = e.1
    · subst h1
      rw [sw_one]
      exact .next (A := A) (B := []) (by show turnOf _ _ = _; rw [tA, h, List.append_assoc]; rfl) (.stop (A := turnOf e.2 os) tB)
    · by_cases h2 : x = e.2
      · subst h2
        rw [sw_two]
        exact .next (A := A) (B := []) (by show turnOf _ _ = _; rw [tB, h, List.append_assoc]; rfl) (.stop (A := turnOf e.1 os) tA)
      · rw [sw_ne h1 h2]
        exact .stop (A := A) (by show turnOf _ _ = _; rw [tO h1 h2, h])
  | @first x b z B h _ ih =>
    obtain ⟨E, hE⟩ := more x
    exact .first (B := B ++ E) (by show turnOf _ _ = _; rw [hE, show turnOf x os = b :: B from h]; rfl) ih
  | @next x y b z A B h _ ih =>
    obtain ⟨E, hE⟩ := more x
    exact .next (A := A) (B := B ++ E) (by show turnOf _ _ = _; rw [hE, show turnOf x os = A ++ y :: b :: B from h, List.append_assoc]; rfl) ih
/-- the item of a place ends where its way by the turns ends -/
theorem goes_mvs : ∀ {os : List Pr}, (∀ e ∈ os, e.1 ≠ e.2) → ∀ p, Goes (fun p => turnOf p os) none p (mvs os p) := by
  intro os
  generalize hn : os.length = n
  induction n generalizing os with
  | zero =>
    intro _ p
    rw [List.length_eq_zero_iff.mp hn]
    exact .stay rfl
  | succ n ih =>
    intro h p
    have ne : os ≠ [] := fun z => by rw [z] at hn; cases hn
    obtain ⟨pre, e, rfl⟩ : ∃ pre e, os = pre ++ [e] := ⟨os.dropLast, os.getLast ne, (List.dropLast_concat_getLast ne).symm⟩
    rw [mvs_snoc]
    exact (ih (os := pre) (by rw [List.length_append] at hn; simpa using hn) (fun f hf => h f (List.mem_append_left _ hf)) p).snoc (h e (by simp))
theorem split_one {α : Type} {A A' : List α} {y : α} {R R' : List α} (nd : (A ++ y :: R).Nodup) (h : A ++ y :: R = A' ++ y :: R') : R = R' := by
  induction A generalizing A' with
  | nil =>
    cases A' with
    | nil => exact (List.cons.inj h).2
    | cons a A' =>
      obtain ⟨e1, e2⟩ := List.cons.inj (show y :: R = a :: (A' ++ y :: R') from h)
      have nd' : (y :: R).Nodup := nd
      exact absurd (by rw [e2]; simp) (List.nodup_cons.mp nd').1
  | cons a A ih =>
    cases A' with
    | nil =>
      obtain ⟨e1, e2⟩ := List.cons.inj (show a :: (A ++ y :: R) = y :: R' from h)
      have nd' : (a :: (A ++ y :: R)).Nodup := nd
      exact absurd (by rw [e1]; simp) (List.nodup_cons.mp nd').1
    | cons a' A' =>
      have nd' : (a :: (A ++ y :: R)).Nodup := nd
      exact ih (List.nodup_cons.mp nd').2 (List.cons.inj (show a :: (A ++ y :: R) = a' :: (A' ++ y :: R') from h)).2
/-- the way is the only one -/
theorem Goes.one {tn : Nat → List Nat} (nd : ∀ x, (tn x).Nodup) {s : Option Nat} {x z w : Nat} (h : Goes tn s x z) (k : Goes tn s x w) : z = w := by
  induction h with
  | stay h =>
    cases k with
    | stay _ => rfl
    | first k _ => rw [h] at k; cases k
  | @stop x y A h =>
    cases k with
    | stop _ => rfl
    | @next _ _ b _ A' B k _ =>
      have n0 := nd x
      rw [h] at n0 k
      cases split_one n0 k
  | @first x b z B h _ ih =>
    cases k with
    | stay k => rw [k] at h; cases h
    | first k k2 =>
      rw [h] at k
      cases k
      exact ih k2
  | @next x y b z A B h _ ih =>
    have n0 := nd x
    rw [h] at n0
    cases k with
    | @stop _ _ A' k =>
      rw [h] at k
      cases split_one n0 k
    | @next _ _ b' _ A' B' k k2 =>
      rw [h] at k
      cases split_one n0 k
      exact ih k2
end Os
/-! an outcome belongs to its turns -/
namespace Os
open PySem PySem.Spec PyProof.Rows L2 Evl
theorem turn_perm {os es : List Pr} (pm : os.Perm es) (p : Nat) : (turnOf p os).Perm (turnOf p es) := pm.filterMap _
theorem turn_rev (os : List Pr) (p : Nat) : turnOf p os.reverse = (turnOf p os).reverse := by
  unfold turnOf
  rw [List.filterMap_reverse]
theorem RingAt.nodup {os : List Pr} {p : Nat} {l : List Nat} (r : RingAt os p l) : (turnOf p os).Nodup := by
  rw [← r.turn]
  exact (List.nodup_cons.mp r.nd).2.filter _
theorem turn_nodup {n : Nat} {es os : List Pr} (E : Edges n es) (pm : os.Perm es) (p : Nat) : (turnOf p os).Nodup := by
  obtain ⟨l, r⟩ := order_rings E pm p
  exact r.nodup
theorem order_ne {n : Nat} {es os : List Pr} (E : Edges n es) (pm : os.Perm es) : ∀ e ∈ os, e.1 ≠ e.2 := fun e he => by
  have := E.inn e (pm.mem_iff.mp he)
  omega
/-- two orders move the items alike exactly if they have the same turns -/
theorem same_turns {n : Nat} {es os os' : List Pr} (E : Edges n es) (pm : os.Perm es) (pm' : os'.Perm es) : (∀ p, mvs os p = mvs os' p) ↔ ∀ p, turnOf p os = turnOf p os' := by
  constructor
  · intro h p
    have hf : mvs os = mvs os' := funext h
    obtain ⟨l, r⟩ := order_rings E pm p
    obtain ⟨l', r'⟩ := order_rings E pm' p
    have c := r.runs
    rw [hf] at c
    have e : l = l' := Ch.one c r'.runs (List.nodup_cons.mp r.nd).1 (List.nodup_cons.mp r'.nd).1
    rw [← r.turn, ← r'.turn, e]
    exact filter_like fun x _ => decide_eq_decide.mpr ((turn_perm (pm.trans pm'.symm) p).mem_iff)
  · intro h p
    have g := goes_mvs (order_ne E pm) p
    have g' := goes_mvs (order_ne E pm') p
    rw [← (funext h : (fun p => turnOf p os) = fun p => turnOf p os')] at g'
    exact Goes.one (fun x => turn_nodup E pm x) g g'
/-- two orders give the same arrangement exactly if they move the items alike -/
theorem same_swps {n : Nat} {os os' : List Pr} {zs : List Str} (hl : zs.length = n) (nd : zs.Nodup) (h : ∀ e ∈ os, e.1 < e.2 ∧ e.2 < n) (h' : ∀ e ∈ os', e.1 < e.2 ∧ e.2 < n) : swps zs os = swps zs os' ↔ ∀ p, p < n → mvs os p = mvs os' p := by
  constructor
  · intro e p hp
    rw [← went_at hl nd h hp, ← went_at hl nd h' hp, e]
  · intro e
    refine List.ext_getElem? fun i => ?_
    by_cases hi : i < n
    · have b := mvs_back' os i
      have lt : mvs os.reverse i < n := mvs_lt (fun f hf => by have := h f (List.mem_reverse.mp hf); omega) hi
      have a1 := swps_at (os := os) hl h lt
      have a2 := swps_at (os := os') hl h' lt
      rw [b] at a1
      rw [← e _ lt, b] at a2
      rw [a1, a2]
    · rw [List.getElem?_eq_none (by rw [swps_len]; omega), List.getElem?_eq_none (by rw [swps_len]; omega)]
/-- places beyond the forest's stay -/
theorem mvs_out {n : Nat} : ∀ {os : List Pr} {p : Nat}, (∀ e ∈ os, e.1 < n ∧ e.2 < n) → n ≤ p → mvs os p = p
  | [], _, _, _ => rfl
  | e :: r, p, h, hp => by
    obtain ⟨a, b⟩ := h e List.mem_cons_self
    show mvs r (sw e p) = p
    rw [sw_ne (by omega) (by omega), mvs_out (os := r) (fun f hf => h f (List.mem_cons_of_mem _ hf)) hp]
/-- an order produces the arrangement of another one exactly if it has the same turns -/
theorem same_outcome {n : Nat} {es os os' : List Pr} {zs : List Str} (E : Edges n es) (pm : os.Perm es) (pm' : os'.Perm es) (hl : zs.length = n) (nd : zs.Nodup) : swps zs os = swps zs os' ↔ ∀ p, turnOf p os = turnOf p os' := by
  have h : ∀ e ∈ os, e.1 < e.2 ∧ e.2 < n := fun e he => E.inn e (pm.mem_iff.mp he)
  have h' : ∀ e ∈ os', e.1 < e.2 ∧ e.2 < n := fun e he => E.inn e (pm'.mem_iff.mp he)
  rw [same_swps hl nd h h', ← same_turns E pm pm']
  constructor
  · intro k p
    by_cases hp : p < n
    · exact k p hp
    · rw [mvs_out (n := n) (fun e he => by have := h e he; omega) (by omega), mvs_out (n := n) (fun e he => by have := h' e he; omega) (by omega)]
  · exact fun k p _ => k p
end Os
/-! every choice of turns belongs to an order -/
namespace Os
open PySem PySem.Spec PyProof.Rows L2 Evl
def Ends2 (e : Pr) (a b : Nat) : Prop := (e.1 = a ∧ e.2 = b) ∨ (e.1 = b ∧ e.2 = a)
theorem Ends2.symm {e : Pr} {a b : Nat} (h : Ends2 e a b) : Ends2 e b a := h.elim .inr .inl
theorem mem_turn {es : List Pr} {a b : Nat} : b ∈ turnOf a es → ∃ e ∈ es, Ends2 e a b := fun h => by
  obtain ⟨e, he, h⟩ := List.mem_filterMap.mp h
  split at h
  · rename_i h1
    cases h
    exact ⟨e, he, .inl ⟨h1, rfl⟩⟩
  · split at h
    · rename_i h1
      cases h
      exact ⟨e, he, .inr ⟨rfl, h1⟩⟩
    · cases h
theorem turn_mem {es : List Pr} {e : Pr} (he : e ∈ es) (ne : e.1 ≠ e.2) {a b : Nat} (h : Ends2 e a b) : b ∈ turnOf a es := by
  refine List.mem_filterMap.mpr ⟨e, he, ?_⟩
  rcases h with ⟨h1, h2⟩ | ⟨h1, h2⟩
  · rw [if_pos h1, h2]
  · rw [if_neg (fun z => ne (z.trans h2.symm)), if_pos h2, h1]
theorem ends_one {n : Nat} {es : List Pr} (E : Edges n es) {e f : Pr} (he : e ∈ es) (hf : f ∈ es) {a b : Nat} (h : Ends2 e a b) (k : Ends2 f a b) : e = f := by
  have := E.inn e he
  have := E.inn f hf
  rcases h with ⟨h1, h2⟩ | ⟨h1, h2⟩ <;> rcases k with ⟨k1, k2⟩ | ⟨k1, k2⟩
  · exact Prod.ext (h1.trans k1.symm) (h2.trans k2.symm)
  · omega
  · omega
  · exact Prod.ext (h1.trans k1.symm) (h2.trans k2.symm)
/-- an edge that is last at both its ends -/
theorem last_both {n : Nat} {es : List Pr} (E : Edges n es) {last : Nat → Nat} (hl : ∀ a b, b ∈ turnOf a es → last a ∈ turnOf a es) : ∀ (m a : Nat) (e : Pr) (S : Nat → Bool), e ∈ es → Ends2 e a (last a) → S (last a) = true → S a = false → (∀ f ∈ es, f ≠ e → S f.1 = S f.2) → ((List.range n).filter S).length ≤ m →
    ∃ f ∈ es, ∃ c, Ends2 f c (last c) ∧ last (last c) = c := by
  intro m
  induction m with
  | zero =>
    intro a e S he en sb sa _ hm
    have hb : last a < n := by
      have := E.inn e he
      rcases en with ⟨_, h⟩ | ⟨h, _⟩ <;> omega
    have : last a ∈ (List.range n).filter S := List.mem_filter.mpr ⟨List.mem_range.mpr hb, sb⟩
    have := List.length_pos_of_mem this
    omega
  | succ m ih =>
    intro a e S he en sb sa rs hm
    have ein := E.inn e he
    by_cases q : last (last a) = a
    · exact ⟨e, he, a, en, q⟩
    · have hba : a ∈ turnOf (last a) es := turn_mem he (by omega) en.symm
      obtain ⟨g, hg, gn⟩ := mem_turn (hl _ _ hba)
      have ge : g ≠ e := fun z => by
        subst z
        rcases en with ⟨h1, h2⟩ | ⟨h1, h2⟩ <;> rcases gn with ⟨k1, k2⟩ | ⟨k1, k2⟩
        · omega
        · exact q (k1.symm.trans h1)
        · exact q (k2.symm.trans h2)
        · omega
      obtain ⟨T, t1, t2⟩ := E.br g hg
      have tbc : T (last a) ≠ T (last (last a)) := fun z => t1 (by
        rcases gn with ⟨k1, k2⟩ | ⟨k1, k2⟩
        · rw [k1, k2, z]
        · rw [k1, k2, z])
      have sc : S (last (last a)) = true := by
        have := rs g hg ge
        rcases gn with ⟨k1, k2⟩ | ⟨k1, k2⟩
        · rw [k1, k2] at this
          rw [← this, sb]
        · rw [k1, k2] at this
          rw [this, sb]
      refine ih (last a) g (fun x => S x && (T x == T (last (last a)))) hg gn ?_ ?_ (fun f hf fg => ?_) ?_
      · show (S _ && (T _ == T _)) = true
        rw [sc, beq_self_eq_true]
        rfl
      · show (S _ && (T _ == T _)) = false
        rw [beq_eq_false_iff_ne.mpr tbc, Bool.and_false]
      · show (S _ && (T _ == T _)) = (S _ && (T _ == T _))
        by_cases fe : f = e
        · subst fe
          rcases en with ⟨h1, h2⟩ | ⟨h1, h2⟩
          · rw [h1, h2, sa, beq_eq_false_iff_ne.mpr tbc, Bool.false_and, Bool.and_false]
          · rw [h1, h2, sa, beq_eq_false_iff_ne.mpr tbc, Bool.false_and, Bool.and_false]
        · rw [rs f hf fe, t2 f hf fg]
      · have hb : last a < n := by
          rcases en with ⟨_, h⟩ | ⟨h, _⟩ <;> omega
        have e1 : (List.range n).filter (fun x => S x && (T x == T (last (last a)))) = ((List.range n).filter S).filter fun x => T x == T (last (last a)) := by
          rw [List.filter_filter]
          exact List.filter_congr fun x _ => Bool.and_comm _ _
        have lt : (((List.range n).filter S).filter fun x => T x == T (last (last a))).length < ((List.range n).filter S).length := by
          refine Nat.lt_of_le_of_ne (List.length_filter_le _ _) fun z => ?_
          have := List.length_filter_eq_length_iff.mp z (last a) (List.mem_filter.mpr ⟨List.mem_range.mpr hb, sb⟩)
          exact tbc (eq_of_beq this)
        rw [e1]
        omega
theorem Bridges.sub {es fs : List Pr} (h : Bridges es) (s : ∀ e ∈ fs, e ∈ es) : Bridges fs := fun e he => by
  obtain ⟨S, h1, h2⟩ := h e (s e he)
  exact ⟨S, h1, fun f hf => h2 f (s f hf)⟩
theorem Edges.erase {n : Nat} {es : List Pr} (E : Edges n es) (f : Pr) : Edges n (es.erase f) :=
  ⟨fun e he => E.inn e (List.mem_of_mem_erase he), E.asc.sublist List.erase_sublist, E.br.sub fun e he => List.mem_of_mem_erase he⟩
def lastOf (tn : Nat → List Nat) (a : Nat) : Nat := (tn a).getLast?.getD 0
theorem last_split {l : List Nat} (h : l ≠ []) : l = l.dropLast ++ [l.getLast?.getD 0] := by
  rw [List.getLast?_eq_some_getLast h]
  exact (List.dropLast_concat_getLast h).symm
/-- every choice of turns belongs to an order -/
theorem turns_order : ∀ {n : Nat} {es : List Pr}, Edges n es → ∀ tn : Nat → List Nat, (∀ p, (tn p).Perm (turnOf p es)) → ∃ os, os.Perm es ∧ ∀ p, turnOf p os = tn p := by
  intro n es
  generalize hk : es.length = k
  induction k generalizing es with
  | zero =>
    intro _ tn h
    have e0 := List.length_eq_zero_iff.mp hk
    subst e0
    exact ⟨[], List.Perm.refl _, fun p => (List.perm_nil.mp (h p)).symm⟩
  | succ k ih =>
    intro E tn h
    have hl : ∀ a b, b ∈ turnOf a es → lastOf tn a ∈ turnOf a es := fun a b hb => by
      have hb' := (h a).mem_iff.mpr hb
      have ne : tn a ≠ [] := fun z => by rw [z] at hb'; cases hb'
      refine (h a).mem_iff.mp ?_
      have := last_split ne
      rw [this]
      exact List.mem_append_right _ (List.mem_singleton.mpr rfl)
    obtain ⟨e0, r, e1⟩ : ∃ e r, es = e :: r := by
      cases es with
      | nil => cases hk
      | cons e r => exact ⟨e, r, rfl⟩
    have m0 : e0 ∈ es := by rw [e1]; exact List.mem_cons_self
    have i0 := E.inn e0 m0
    have t0 : e0.2 ∈ turnOf e0.1 es := turn_mem m0 (by omega) (.inl ⟨rfl, rfl⟩)
    obtain ⟨g, hg, gn⟩ := mem_turn (hl _ _ t0)
    have gi := E.inn g hg
    obtain ⟨S, s1, s2⟩ := E.br g hg
    have sab : S e0.1 ≠ S (lastOf tn e0.1) := fun z => s1 (by
      rcases gn with ⟨k1, k2⟩ | ⟨k1, k2⟩
      · rw [k1, k2, z]
      · rw [k1, k2, z])
    obtain ⟨f, hf, c, fn, fl⟩ : ∃ f ∈ es, ∃ c, Ends2 f c (lastOf tn c) ∧ lastOf tn (lastOf tn c) = c := by
      refine last_both E hl _ e0.1 g (fun x => S x == S (lastOf tn e0.1)) hg gn (beq_self_eq_true _) (beq_eq_false_iff_ne.mpr sab) (fun f hf ne => ?_) (Nat.le_refl _)
      show (S _ == S _) = (S _ == S _)
      rw [s2 f hf ne]
    have fi := E.inn f hf
    have pmf : es.Perm (es.erase f ++ [f]) := (List.perm_cons_erase hf).trans (List.perm_append_comm (l₁ := [f]))
    have cd : c ≠ lastOf tn c := fun z => by
      rcases fn with ⟨k1, k2⟩ | ⟨k1, k2⟩ <;> omega
    have tsn : ∀ (os : List Pr) (p : Nat), turnOf p (os ++ [f]) = turnOf p os ++ (if p = c then [lastOf tn c] else if p = lastOf tn c then [c] else []) := fun os p => by
      rw [turn_snoc]
      congr 1
      rcases fn with ⟨k1, k2⟩ | ⟨k1, k2⟩
      · rw [k1, k2]
        simp only [eq_comm (a := p)]
      · rw [k1, k2]
        simp only [eq_comm (a := p)]
        by_cases h1 : c = p
        · rw [if_neg (fun z => cd (h1.trans z.symm)), if_pos h1, if_pos h1]
        · rw [if_neg h1, if_neg h1]
    have nonempty : ∀ {a : Nat}, a = c ∨ a = lastOf tn c → tn a ≠ [] := fun ha z => by
      have hm : ∀ {x y : Nat}, Ends2 f x y → tn x ≠ [] := fun en z => by
        have := (h _).mem_iff.mpr (turn_mem hf (by omega) en)
        rw [z] at this
        cases this
      rcases ha with rfl | rfl
      · exact hm fn z
      · exact hm fn.symm z
    obtain ⟨os, po, ho⟩ := ih (es := es.erase f) (by rw [List.length_erase_of_mem hf]; omega) (E.erase f) (fun p => if p = c ∨ p = lastOf tn c then (tn p).dropLast else tn p) fun p => by
      have hp := (h p).trans (turn_perm pmf p)
      rw [tsn] at hp
      show (if p = c ∨ p = lastOf tn c then (tn p).dropLast else tn p).Perm _
      by_cases pc : p = c
      · rw [if_pos (.inl pc)]
        rw [if_pos pc, last_split (nonempty (.inl pc))] at hp
        have el : (tn p).getLast?.getD 0 = lastOf tn c := by rw [pc]; rfl
        rw [el] at hp
        exact (List.perm_append_right_iff _).mp hp
      · by_cases pd : p = lastOf tn c
        · rw [if_pos (.inr pd)]
          rw [if_neg pc, if_pos pd, last_split (nonempty (.inr pd))] at hp
          have el : (tn p).getLast?.getD 0 = c := by rw [pd]; exact fl
          rw [el] at hp
          exact (List.perm_append_right_iff _).mp hp
        · rw [if_neg (fun z => z.elim pc pd)]
          rw [if_neg pc, if_neg pd, List.append_nil] at hp
          exact hp
    refine ⟨os ++ [f], (po.append_right [f]).trans pmf.symm, fun p => ?_⟩
    rw [tsn, ho]
    by_cases pc : p = c
    · rw [if_pos (.inl pc), if_pos pc]
      have el : lastOf tn c = (tn p).getLast?.getD 0 := by rw [pc]; rfl
      rw [el]
      exact (last_split (nonempty (.inl pc))).symm
    · by_cases pd : p = lastOf tn c
      · rw [if_pos (.inr pd), if_neg pc, if_pos pd]
        have el : c = (tn p).getLast?.getD 0 := by rw [pd]; exact fl.symm
        conv => lhs; rw [el]
        exact (last_split (nonempty (.inr pd))).symm
      · rw [if_neg (fun z => z.elim pc pd), if_neg pc, if_neg pd, List.append_nil]
end Os
/-! an order taken edge by edge from its turns -/
namespace Os
/-- what is done, what waits, and what is left of the turns -/
structure Greedy (es : List Pr) (tn : Nat → List Nat) (done ws : List Pr) (r : Nat → List Nat) : Prop where
  pm : (done ++ ws).Perm es
  tn : ∀ p, turnOf p done ++ r p = tn p
  ex : ∃ os, os.Perm ws ∧ ∀ p, turnOf p os = r p
section
variable {n : Nat} {es done ws : List Pr} {tn r : Nat → List Nat}
theorem Greedy.start (E : Edges n es) (h : ∀ p, (tn p).Perm (turnOf p es)) : Greedy es tn [] es tn :=
  ⟨List.Perm.refl _, fun p => rfl, turns_order E tn h⟩
theorem Greedy.fin (g : Greedy es tn done [] r) : done.Perm es ∧ ∀ p, turnOf p done = tn p := by
  obtain ⟨os, h1, h2⟩ := g.ex
  have e : os = [] := h1.eq_nil
  subst e
  refine ⟨by simpa using g.pm, fun p => ?_⟩
  have := g.tn p
  rw [← h2 p] at this
  simpa [turnOf] using this
theorem Greedy.inn (g : Greedy es tn done ws r) {e : Pr} (h : e ∈ ws) : e ∈ es := g.pm.mem_iff.mp (List.mem_append_right _ h)
theorem Greedy.some (E : Edges n es) (g : Greedy es tn done ws r) (ne : ws ≠ []) : ∃ e ∈ ws, (r e.1).head? = some e.2 ∧ (r e.2).head? = some e.1 := by
  obtain ⟨os, h1, h2⟩ := g.ex
  cases os with
  | nil => exact absurd h1.symm.eq_nil ne
  | cons e os =>
    have he := h1.mem_iff.mp List.mem_cons_self
    have := E.inn e (g.inn he)
    refine ⟨e, he, ?_, ?_⟩
    · rw [← h2]
      unfold turnOf
      rw [List.filterMap_cons, if_pos rfl]
      rfl
    · rw [← h2]
      unfold turnOf
      rw [List.filterMap_cons, if_neg (show ¬ e.1 = e.2 by omega), if_pos rfl]
      rfl
theorem Greedy.full (E : Edges n es) (g : Greedy es tn done ws r) {e : Pr} (he : e ∈ ws) : r e.1 ≠ [] ∧ r e.2 ≠ [] := by
  obtain ⟨os, h1, h2⟩ := g.ex
  have ne : e.1 ≠ e.2 := by have := E.inn e (g.inn he); omega
  have a := turn_mem (h1.mem_iff.mpr he) ne (a := e.1) (b := e.2) (.inl ⟨rfl, rfl⟩)
  have b := turn_mem (h1.mem_iff.mpr he) ne (a := e.2) (b := e.1) (.inr ⟨rfl, rfl⟩)
  rw [h2] at a b
  exact ⟨fun z => (by rw [z] at a; cases a), fun z => (by rw [z] at b; cases b)⟩
/-- an edge whose one end comes first at the other is one that waits -/
theorem Greedy.waits (E : Edges n es) (g : Greedy es tn done ws r) {e : Pr} (he : e ∈ es) (h : (r e.1).head? = .some e.2) : e ∈ ws := by
  obtain ⟨os, h1, h2⟩ := g.ex
  have m : e.2 ∈ turnOf e.1 os := by rw [h2]; exact List.mem_of_head? h
  obtain ⟨f, hf, k⟩ := mem_turn m
  have hf' := h1.mem_iff.mp hf
  have := ends_one E he (g.inn hf') (.inl ⟨rfl, rfl⟩) k
  rw [this]
  exact hf'
theorem head_split {α : Type} {A B : List α} {x : α} {R : List α} (h : A ++ x :: B = x :: R) (hx : A ≠ [] → x ∈ A) : A = [] ∨ x ∈ A := by
  cases A with
  | nil => exact .inl rfl
  | cons a A => exact .inr (hx (by simp))
theorem Greedy.step (E : Edges n es) (g : Greedy es tn done ws r) {e : Pr} {A B : List Nat} {ws' : List Pr} (h1 : r e.1 = e.2 :: A) (h2 : r e.2 = e.1 :: B) (hp : (e :: ws').Perm ws) :
    Greedy es tn (done ++ [e]) ws' (fun p => if p = e.2 then B else if p = e.1 then A else r p) := by
  have he : e ∈ ws := hp.mem_iff.mp List.mem_cons_self
  have hes := g.inn he
  have inn := E.inn e hes
  obtain ⟨os, o1, o2⟩ := g.ex
  obtain ⟨pre, post, rfl⟩ := List.append_of_mem (o1.mem_iff.mpr he)
  have nd : (pre ++ e :: post).Nodup := by
    refine o1.nodup_iff.mpr ?_
    have := g.pm.nodup_iff.mpr E.nodup
    exact (List.nodup_append.mp this).2.1
  have epre : e ∉ pre := fun z => (List.nodup_append.mp nd).2.2 e z e List.mem_cons_self rfl
  have sub : ∀ f ∈ pre, f ∈ es := fun f hf => g.inn (o1.mem_iff.mp (List.mem_append_left _ hf))
  have app : ∀ p, turnOf p (pre ++ e :: post) = turnOf p pre ++ ((if e.1 = p then [e.2] else if e.2 = p then [e.1] else []) ++ turnOf p post) := fun p => by
    rw [show pre ++ e :: post = (pre ++ [e]) ++ post by simp]
    have a2 : turnOf p ((pre ++ [e]) ++ post) = turnOf p (pre ++ [e]) ++ turnOf p post := by
      unfold turnOf
      rw [List.filterMap_append]
    rw [a2, turn_snoc, List.append_assoc]
  have nil1 : ∀ {a b : Nat} {R : List Nat}, Ends2 e a b → turnOf a pre ++ b :: turnOf a post = b :: R → turnOf a pre = [] := fun {a b R} k q => by
    cases hc : turnOf a pre with
    | nil => rfl
    | cons c C =>
      rw [hc] at q
      have cb : c = b := (List.cons.inj q).1
      have m : b ∈ turnOf a pre := by rw [hc, cb]; exact List.mem_cons_self
      obtain ⟨f, hf, kf⟩ := mem_turn m
      have := ends_one E hes (sub f hf) k kf
      exact absurd (this ▸ hf) epre
  have t1 := app e.1
  rw [o2, h1, if_pos rfl] at t1
  have t2 := app e.2
  rw [o2, h2, if_neg (show ¬ e.1 = e.2 by omega), if_pos rfl] at t2
  have n1 := nil1 (a := e.1) (b := e.2) (.inl ⟨rfl, rfl⟩) t1.symm
  have n2 := nil1 (a := e.2) (b := e.1) (.inr ⟨rfl, rfl⟩) t2.symm
  rw [n1] at t1
  rw [n2] at t2
  have a1 : turnOf e.1 post = A := (List.cons.inj t1).2.symm
  have b1 : turnOf e.2 post = B := (List.cons.inj t2).2.symm
  have pm' : (pre ++ post).Perm ws' := by
    have x1 : (e :: (pre ++ post)).Perm (pre ++ e :: post) := List.perm_middle.symm
    exact List.Perm.cons_inv ((x1.trans o1).trans hp.symm)
  have two : ∀ p, turnOf p (pre ++ post) = turnOf p pre ++ turnOf p post := fun p => by
    unfold turnOf
    rw [List.filterMap_append]
  refine ⟨?_, fun p => ?_, pre ++ post, pm', fun p => ?_⟩
  · rw [List.append_assoc]
    exact (List.Perm.append_left done hp).trans g.pm
  · have gt := g.tn p
    rw [turn_snoc, List.append_assoc, ← gt]
    congr 1
    by_cases c2 : p = e.2
    · subst c2
      rw [if_neg (show ¬ e.1 = e.2 by omega), if_pos rfl, if_pos rfl, h2]
      rfl
    · by_cases c1 : p = e.1
      · subst c1
        rw [if_pos rfl, if_neg c2, if_pos rfl, h1]
        rfl
      · rw [if_neg (fun z => c1 z.symm), if_neg (fun z => c2 z.symm), if_neg c2, if_neg c1]
        rfl
  · rw [two]
    by_cases c2 : p = e.2
    · subst c2
      rw [if_pos rfl, n2, b1]
      rfl
    · by_cases c1 : p = e.1
      · subst c1
        rw [if_neg c2, if_pos rfl, n1, a1]
        rfl
      · rw [if_neg c2, if_neg c1, ← o2, app, if_neg (fun z => c1 z.symm), if_neg (fun z => c2 z.symm)]
        rfl
end
end Os
namespace K11
open PySem PySem.Spec PyProof.Rows L2 Os Evl
abbrev sNear : Stmt := topS 21
theorem scNear : FnScope ["graph", "found", "low", "high", "k", "row"] ["graph"] (defScope sNear) := ⟨rfl, rfl, rfl, by decide +kernel, rfl, by decide +kernel, by decide +kernel⟩
abbrev sPerms : Stmt := topS 22
theorem scPerms : FnScope ["source", "graph", "row"] ["source", "graph"] (defScope sPerms) := ⟨rfl, rfl, rfl, by decide +kernel, rfl, by decide +kernel, by decide +kernel⟩
theorem iteF {A B : Prop} (h : B) : if (!true) = true then A else B := by
  rw [if_neg (by decide)]
  exact h
theorem Drew.old {s : Addr} {B : Nat} {H0 H H' : Hp} (e : Ex H0 H) (ns : H0 s = none) (d : Drew s B H H') : Ex H0 H' := fun b o h =>
  d.get (ne_of_none h ns) (e b o h)
theorem lim_pr {e : Pr} (h1 : e.1 < 64) (h2 : e.2 < 64) : Lim 207 1 (Os.prD e) := (Lim.tup (L := 100) (D := 0) (m := 2) (fun d hd => by
  rcases List.mem_cons.mp hd with rfl | hd
  · exact .int h1
  · rw [List.mem_singleton.mp hd]
    exact .int h2) (Nat.le_refl _)).mono (by decide) (Nat.le_refl _)
theorem lim_prs {os : List Pr} (h : ∀ e ∈ os, e.1 < 64 ∧ e.2 < 64) (hl : os.length ≤ 60) : Lim 12543 2 (.list (os.map Os.prD)) := (Lim.lst (L := 207) (D := 1) (m := 60) (fun d hd => by
  obtain ⟨e, he, rfl⟩ := List.mem_map.mp hd
  exact lim_pr (h e he).1 (h e he).2) (by rw [List.length_map]; exact hl)).mono (by decide) (Nat.le_refl _)
theorem lim_graph {n : Nat} {es : List Pr} (ok : IsForest n es) : Lim 25093 3 (.tuple [.int (n : Int), .list (es.map Os.prD)]) := (Lim.tup (L := 12543) (D := 2) (m := 2) (fun d hd => by
  rcases List.mem_cons.mp hd with rfl | hd
  · exact (Lim.int (by have := ok.n40; omega)).mono (by decide) (by decide)
  · rw [List.mem_singleton.mp hd]
    exact lim_prs (fun e he => by have := ok.edges.inn e he; have := ok.n40; omega) ok.few) (Nat.le_refl _)).mono (by decide) (Nat.le_refl _)

/-- rows of numbers as data -/
def rowsD (n : Nat) (f : Nat → List Nat) : List PyData := (List.range n).map fun i => .list (natsD (f i))
theorem rowsD_at {n i : Nat} {f : Nat → List Nat} (h : i < n) : (rowsD n f)[i]? = some (.list (natsD (f i))) := by
  unfold rowsD
  rw [List.getElem?_map, List.getElem?_range h]
  rfl
theorem dts_of {G : Hp} : ∀ {xs : List V} {ds : List PyData}, xs.length = ds.length → (∀ (i : Nat) (x : V) (d : PyData), xs[i]? = some x → ds[i]? = some d → Dt G x d) → Dts G xs ds
  | [], [], _, _ => .nil
  | x :: xs, d :: ds, hl, h => .cons (h 0 x d rfl rfl) (dts_of (by simpa using hl) fun i y e h1 h2 => h (i + 1) y e (by simpa using h1) (by simpa using h2))
  | [], _ :: _, hl, _ => by simp at hl
  | _ :: _, [], hl, _ => by simp at hl
theorem RwV.dt {H0 G : Hp} {L : Addr} {as : List Addr} {n : Nat} {f : Nat → List Nat} (h : RwV H0 G as n f) (hL : G L = some (.lst (as.map V.ref))) : Dt G (.ref L) (.list (rowsD n f)) :=
  .lst hL (dts_of (by unfold rowsD; rw [List.length_map, List.length_map, List.length_range, h.len]) fun i x d h1 h2 => by
    rw [List.getElem?_map] at h1
    cases hai : as[i]? with
    | none => rw [hai] at h1; cases h1
    | some c =>
      rw [hai] at h1
      cases h1
      have lt : i < n := by rw [← h.len]; exact (List.getElem?_eq_some_iff.mp hai).1
      rw [rowsD_at lt] at h2
      cases h2
      exact .lst (h.at' _ _ hai) (dts_nats _))
theorem natsD_all {n : Nat} {l : List Nat} (h : ∀ x ∈ l, x < n) : (natsD l).all (posB (n : Int)) = true := by
  unfold natsD
  rw [List.all_map, List.all_eq_true]
  intro x hx
  show (decide (0 ≤ (x : Int)) && decide ((x : Int) < (n : Int))) = true
  have := h x hx
  rw [decide_eq_true (by omega), decide_eq_true (by omega)]
  rfl
theorem natsD_map (l : List Nat) : (natsD l).map intD = l.map fun x : Nat => (x : Int) := by
  unfold natsD
  rw [List.map_map]
  rfl
theorem adj_perm {es os : List Pr} (p : os.Perm es) (i : Nat) : (adj os i).Perm (adj es i) := p.filterMap _
theorem adj_in {n : Nat} {es : List Pr} (E : ∀ e ∈ es, e.1 < e.2 ∧ e.2 < n) {i x : Nat} (h : x ∈ adj es i) : x < n := by
  obtain ⟨e, he, h1⟩ := List.mem_filterMap.mp h
  have := E e he
  unfold other at h1
  by_cases a1 : e.1 = i
  · rw [if_pos a1] at h1
    cases h1
    omega
  · rw [if_neg a1] at h1
    by_cases a2 : e.2 = i
    · rw [if_pos a2] at h1
      cases h1
      omega
    · rw [if_neg a2] at h1
      cases h1
theorem adj_len {os : List Pr} {m : Nat} (h : os.length ≤ m) (i : Nat) : (adj os i).length ≤ m := by
  unfold adj
  exact Nat.le_trans (List.length_filterMap_le _ _) h
theorem adj_rev (os : List Pr) (i : Nat) : adj os.reverse i = (adj os i).reverse := by
  unfold adj
  rw [List.filterMap_reverse]
theorem turns_yes {n : Nat} {es os : List Pr} (ok : IsForest n es) (pm : os.Perm es) : turnsB n es (.list (rowsD n (adj os))) = true := by
  have hl : (rowsD n (adj os)).length = n := by unfold rowsD; rw [List.length_map, List.length_range]
  show (decide ((rowsD n (adj os)).length = n) && _) = true
  rw [decide_eq_true hl, Bool.true_and, List.all_eq_true]
  intro i hi
  have lt := List.mem_range.mp hi
  rw [List.getD_eq_getElem?_getD, rowsD_at lt]
  show ((natsD (adj os i)).all (posB (n : Int)) && ((natsD (adj os i)).map intD).isPerm _) = true
  rw [natsD_all fun x hx => adj_in (fun e he => ok.edges.inn e (pm.mem_iff.mp he)) hx, Bool.true_and, natsD_map]
  exact List.isPerm_iff.mpr ((adj_perm pm i).map _)
theorem rows_short {n : Nat} {f : Nat → List Nat} (hn : n ≤ 1000) (hf : ∀ i, (f i).length ≤ 1000) : Short2 (.list (rowsD n f)) := by
  refine ⟨by unfold rowsD; rw [List.length_map, List.length_range]; exact hn, fun d hd => ?_⟩
  obtain ⟨i, _, rfl⟩ := List.mem_map.mp hd
  show (natsD (f i)).length ≤ 1000
  unfold natsD
  rw [List.length_map]
  exact hf i
theorem PrsV.upd {G : Hp} {p : Addr} {xs' zs vs : List V} {es : List Pr} (h : PrsV G vs es) (hp : G p = some (.lst xs')) : PrsV (L2.upd G p (.lst zs)) vs es := by
  induction h with
  | nil => exact .nil
  | cons x _ ih =>
    obtain ⟨t, rfl, ht⟩ := x
    refine .cons ⟨t, rfl, ?_⟩ ih
    rw [upd_ne fun e => by
      rw [e, hp] at ht
      cases ht]
    exact ht
theorem PrsV.rev {G : Hp} {vs : List V} {es : List Pr} (h : PrsV G vs es) : PrsV G vs.reverse es.reverse := by
  induction h with
  | nil => exact .nil
  | cons x _ ih =>
    rw [List.reverse_cons, List.reverse_cons]
    exact ih.append (.cons x .nil)
/-- [row[::-1] for row in rows] -/
theorem lc_revs {K : PySem.W.Frag} {σ : L2.St} {H : Hp} {L : Addr} {as : List Addr} {n j i0 : Nat} {f : Nat → List Nat} {Q : VK} (hv0 : σ[i0]? = some (some (.ref L))) (hL : H L = some (.lst (as.map V.ref))) (len : as.length = n) (n40 : n ≤ 1000) (rw0 : ∀ i a, as[i]? = some a → H a = some (.lst (nats (f i))))
    (hw : ∀ x, wipe ((wipe σ [j]).set j (some x)) [j] = wipe σ [j]) (hv : ∀ x, ((wipe σ [j]).set j (some x))[j]? = some (some x))
    (q : ∀ D H' bs, Ex H H' → H D = none → H' D = some (.lst (bs.map V.ref)) → RwV H H' bs n (fun i => (f i).reverse) → Q (.ref D) H') : tLc (iList K (tVar i0)) (gName j) tYes (tRevL K (tVar j)) [j] σ H Q := by
  refine ⟨.ref L, hv0, L, rfl, ⟨_, sq_of hL⟩, fun D hD => ?_⟩
  have eD := Ex.new (o := .lst []) hD
  refine lc_list (xs := as.map V.ref) (fun i Hh => Ex H Hh ∧ ∃ bs : List Addr, Hh D = some (.lst (bs.map V.ref)) ∧ RwV (upd H D (.lst [])) Hh bs i (fun i => (f i).reverse)) ⟨eD, [], upd_same, rfl, (fun a h => nomatch h), (fun i a h => by simp at h), List.nodup_nil⟩ (fun i H' _ p => sq_of (p.1 _ _ hL)) ?_ ?_
  · rintro i x Hh hx ⟨x1, bs, hrs, rg⟩
    rw [List.getElem?_map] at hx
    cases hai : as[i]? with
    | none => rw [hai] at hx; cases hx
    | some c =>
      rw [hai] at hx
      cases hx
      have il : i < as.length := (List.getElem?_eq_some_iff.mp hai).1
      refine ⟨hw _, ?_⟩
      dsimp only [tYes]
      rw [if_pos rfl]
      refine ⟨.ref c, hv _, c, nats (f i), rfl, sq_of (x1 _ _ (rw0 _ _ hai)), fun b hb => ?_⟩
      have xb := Ex.new (o := .lst (nats (f i)).reverse) hb
      have nb : b ≠ D := fun e => by
        rw [e, hrs] at hb
        cases hb
      have hb0 : upd H D (.lst []) b = none := by
        rw [upd_ne nb]
        exact fresh_back x1 hb
      have al : ∀ {j : Nat} {c : Addr}, bs[j]? = some c → c ≠ b := fun h => ne_of_none (rg.at' _ _ h) hb
      have er : (nats (f i)).reverse = nats (f i).reverse := by
        unfold nats
        rw [List.map_reverse]
      refine ⟨bs.map V.ref, xb _ _ hrs, sz_lt (by rw [List.length_map, rg.len]; omega), (x1.trans xb).mut hD, bs ++ [b], ?_, ?_⟩
      · rw [upd_same, List.map_append]
        rfl
      · refine RwV.off (u := .lst []) ⟨by rw [List.length_append, rg.len]; rfl, fun c hc => ?_, fun j c hc => ?_, ?_⟩ upd_same
        · rcases List.mem_append.mp hc with hc | hc
          · exact rg.new c hc
          · rw [List.mem_singleton.mp hc]
            exact hb0
        · by_cases hj : j < bs.length
          · rw [List.getElem?_append_left hj] at hc
            exact xb _ _ (rg.at' j c hc)
          · rw [List.getElem?_append_right (by omega)] at hc
            have e1 : c = b := List.mem_singleton.mp (List.mem_of_getElem? hc)
            have e2 : j - bs.length < 1 := (List.getElem?_eq_some_iff.mp hc).1
            have e3 : j = i := by have := rg.len; omega
            rw [e1, e3, ← er]
            exact upd_same
        · refine List.nodup_append.mpr ⟨rg.nd, List.pairwise_singleton _ _, fun c hc d hd => ?_⟩
          rw [List.mem_singleton.mp hd]
          obtain ⟨j, hj⟩ := List.mem_iff_getElem?.mp hc
          exact al hj
  · rintro Hh ⟨x1, bs, hrs, rg⟩
    rw [List.length_map, len] at rg
    exact q D Hh bs x1 hD hrs (rg.weak eD)
theorem RwV.snoc' {H0 G : Hp} {as : List Addr} {n : Nat} {f g : Nat → List Nat} {b : Addr} (h : RwV H0 G as n f) (hb0 : H0 b = none) (al : ∀ c ∈ as, c ≠ b) (fg : ∀ j, j < n → f j = g j) (hb : G b = some (.lst (nats (g n)))) : RwV H0 G (as ++ [b]) (n + 1) g :=
  ⟨by rw [List.length_append, h.len]; rfl, fun c hc => by
    rcases List.mem_append.mp hc with hc | hc
    · exact h.new c hc
    · rw [List.mem_singleton.mp hc]
      exact hb0, fun j c hc => by
    by_cases hj : j < as.length
    · rw [List.getElem?_append_left hj] at hc
      rw [← fg j (by rw [← h.len]; exact hj)]
      exact h.at' j c hc
    · rw [List.getElem?_append_right (by omega)] at hc
      have e1 : c = b := List.mem_singleton.mp (List.mem_of_getElem? hc)
      have e2 : j - as.length < 1 := (List.getElem?_eq_some_iff.mp hc).1
      have e3 : j = n := by have := h.len; omega
      rw [e1, e3]
      exact hb, List.nodup_append.mpr ⟨h.nd, List.pairwise_singleton _ _, fun c hc d hd => by
    rw [List.mem_singleton.mp hd]
    exact al c hc⟩⟩
theorem RwV.snoc {H0 G G' : Hp} {as : List Addr} {n : Nat} {f : Nat → List Nat} {b : Addr} (h : RwV H0 G as n f) (x : Ex G G') (hb0 : H0 b = none) (al : ∀ c ∈ as, c ≠ b) (hb : G' b = some (.lst (nats (f n)))) : RwV H0 G' (as ++ [b]) (n + 1) f :=
  (h.ex x).snoc' hb0 al (fun _ _ => rfl) hb
/-- [sorted(row) for row in rows], the rows ascending already -/
theorem lc_sorts {K : PySem.W.Frag} {σ : L2.St} {H : Hp} {L : Addr} {as : List Addr} {n j i0 : Nat} {f : Nat → List Nat} {Q : VK} (hv0 : σ[i0]? = some (some (.ref L))) (hL : H L = some (.lst (as.map V.ref))) (len : as.length = n) (n40 : n ≤ 1000) (rw0 : ∀ i a, as[i]? = some a → H a = some (.lst (nats (f i))))
    (asc : ∀ i, (f i).Pairwise (· < ·)) (hw : ∀ x, wipe ((wipe σ [j]).set j (some x)) [j] = wipe σ [j]) (hv : ∀ x, ((wipe σ [j]).set j (some x))[j]? = some (some x))
    (q : ∀ D H' bs, Ex H H' → H D = none → H' D = some (.lst (bs.map V.ref)) → RwV H H' bs n f → Q (.ref D) H') : tLc (iList K (tVar i0)) (gName j) tYes (tCB (rSortedI K) (tCons (tVar j) tNil)) [j] σ H Q := by
  refine ⟨.ref L, hv0, L, rfl, ⟨_, sq_of hL⟩, fun D hD => ?_⟩
  have eD := Ex.new (o := .lst []) hD
  refine lc_list (xs := as.map V.ref) (fun i Hh => Ex H Hh ∧ ∃ bs : List Addr, Hh D = some (.lst (bs.map V.ref)) ∧ RwV (upd H D (.lst [])) Hh bs i f) ⟨eD, [], upd_same, rfl, (fun a h => nomatch h), (fun i a h => by simp at h), List.nodup_nil⟩ (fun i H' _ p => sq_of (p.1 _ _ hL)) ?_ ?_
  · rintro i x Hh hx ⟨x1, bs, hrs, rg⟩
    rw [List.getElem?_map] at hx
    cases hai : as[i]? with
    | none => rw [hai] at hx; cases hx
    | some c =>
      rw [hai] at hx
      cases hx
      have il : i < as.length := (List.getElem?_eq_some_iff.mp hai).1
      refine ⟨hw _, ?_⟩
      dsimp only [tYes]
      rw [if_pos rfl]
      refine ⟨.ref c, hv _, c, (f i).map (fun x : Nat => (x : Int)), rfl, by rw [nats_ints]; exact sq_of (x1 _ _ (rw0 _ _ hai)), fun ns' b pm pw hb => ?_⟩
      have same : ns' = (f i).map (fun x : Nat => (x : Int)) := List.Perm.eq_of_pairwise (le := (· ≤ ·)) (fun a b _ _ x y => by omega) pw (List.pairwise_map.mpr ((asc i).imp fun {x y} h => by show (x : Int) ≤ (y : Int); omega)) pm
      subst same
      rw [nats_ints]
      have xb := Ex.new (o := .lst (nats (f i))) hb
      have nb : b ≠ D := fun e => by
        rw [e, hrs] at hb
        cases hb
      have hb0 : upd H D (.lst []) b = none := by
        rw [upd_ne nb]
        exact fresh_back x1 hb
      have al : ∀ {j : Nat} {c : Addr}, bs[j]? = some c → c ≠ b := fun h => ne_of_none (rg.at' _ _ h) hb
      refine ⟨bs.map V.ref, xb _ _ hrs, sz_lt (by rw [List.length_map, rg.len]; omega), (x1.trans xb).mut hD, bs ++ [b], ?_, ?_⟩
      · rw [upd_same, List.map_append]
        rfl
      · exact RwV.off (u := .lst []) (rg.snoc xb hb0 (fun c hc => by
          obtain ⟨j, hj⟩ := List.mem_iff_getElem?.mp hc
          exact al hj) upd_same) upd_same
  · rintro Hh ⟨x1, bs, hrs, rg⟩
    rw [List.length_map, len] at rg
    exact q D Hh bs x1 hD hrs (rg.weak eD)
section
variable {P : Program} {w : World} {K : PySem.W.Frag} {mg : Str → Option Value} {base : Heap}
def spNear : Sp := fun vs H Q _ => ∃ (v : V) (n : Nat) (es : List Pr), vs = [v] ∧ GraphV H v n es ∧ IsForest n es ∧
  ∀ H' L as, Ex H H' → H L = none → H' L = some (.lst (as.map V.ref)) → RwV H H' as n (adj es) → Q (.ref L) H'
def spPerms : Sp := fun vs H Q _ => ∃ (s : Addr) (v : V) (n B : Nat) (es : List Pr), vs = [.ref s, v] ∧ Src H s B ∧ B ≤ 700000 ∧ GraphV (hide s H) v n es ∧ IsForest n es ∧
  ∀ H' L as (tn : Nat → List Nat), Drew s (B + 2400) H H' → H L = none → H' L = some (.lst (as.map V.ref)) → RwV H H' as n tn → (∀ i, (tn i).Perm (adj es i)) → Q (.ref L) H'
theorem ok_near {f : Addr} {fd : FuncData} {k : Nat} (F : Fun K "_law_near" "_law_near" sNear f fd) (mRange : mg "range" = none) (mSorted : mg "sorted" = none) : FnOk P w K mg base CX0 (k + 1) f fd ["graph"] spNear := by
  refine F.ok scNear (fun vs H Q E h => ?_) (fun cdv A outer s H vs Q E hr h => ?_)
  · obtain ⟨v, n, es, rfl, _⟩ := h
    rfl
  · obtain ⟨v, n, es, rfl, hg, ok, q⟩ := h
    refine ⟨_, (pss_cons (ps_setLc (i := 1) (own := [("k", 4)]) (g := gName 4) (tt := tYes) rfl scNear.nd rfl rfl (sw_true rfl rfl rfl (by decide +kernel)) (pi_range1 (by rfl) mRange (pa_cons (pe_ix ix_tup (pv 0) pe_int (fun _ _ => rfl)) pa_nil)) (blkOk_by (N := ["graph", "found", "low", "high", "k", "row"]) (sc := defScope sNear) (by decide +kernel)) (fun _ _ _ _ _ => pg_name (i := 4) scNear.nd rfl (Or.inl rfl)) (fun _ _ _ _ _ => pts_nil) (fun _ _ _ _ _ => (pe_lst pa_nil)))
      (pss_cons (ps_for PassesOwn.never rfl (pi_list (pe_ix ix_tup (pv 0) pe_int (fun _ _ => rfl))) (pg_tup rfl (pgs_cons (pg_name (i := 2) scNear.nd rfl (Or.inl rfl)) (pgs_cons (pg_name (i := 3) scNear.nd rfl (Or.inl rfl)) pgs_nil)))
      (pss_cons (ps_expr (pe_bm PySem.F.plainAttrs_list PySem.F.slot_list_append PySem.F.type_list_append mt_append (pe_ix ix_list (pv 1) (pv 2) (fun _ _ => rfl)) (pa_cons (pv 3) pa_nil)))
      (pss_one (ps_expr (pe_bm PySem.F.plainAttrs_list PySem.F.slot_list_append PySem.F.type_list_append mt_append (pe_ix ix_list (pv 1) (pv 3) (fun _ _ => rfl)) (pa_cons (pv 2) pa_nil))))))
      (pss_one (ps_ret (pe_lc (own := [("row", 5)]) (g := gName 5) (tt := tYes) (te := tCB (rSortedI K) (tCons (tVar 5) tNil)) rfl scNear.nd (pi_list (pv 1)) (blkOk_by (N := ["graph", "found", "low", "high", "k", "row"]) (sc := defScope sNear) (by decide +kernel)) (fun _ _ _ _ _ => pg_name (i := 5) scNear.nd rfl (Or.inl rfl)) (fun _ _ _ _ _ => pts_nil) (fun _ _ _ _ _ => (pe_callB cr_sortedI (by rfl) mSorted boot_sorted (pa_cons (pv 5) pa_nil)))))))), ?_⟩
    obtain ⟨g, a, xs, rfl, h2, h3, h4⟩ := hg
    have n40 := ok.n40
    have ein := ok.edges.inn
    have few := ok.few
    refine ⟨.ref g, rfl, g, _, 0, .int (n : Int), rfl, rfl, st_of h2, atI_nat (j := 0) rfl, (n : Int), rfl, by omega, by omega, fun D hD => ?_⟩
    have eD := Ex.new (o := .lst []) hD
    refine lc_range (lo := 0) (n := ((n : Int)).toNat) (fun i Hh => Ex H Hh ∧ ∃ as : List Addr, Hh D = some (.lst (as.map V.ref)) ∧ RwV (upd H D (.lst [])) Hh as i (fun _ => [])) ⟨eD, [], upd_same, rfl, (fun a h => nomatch h), (fun i a h => by simp at h), List.nodup_nil⟩ ?_ ?_
    · rintro i Hh hi' ⟨x1, as, hrs, rg⟩
      have lt : i < n := by omega
      refine ⟨rfl, ?_⟩
      dsimp only [tYes]
      rw [if_pos rfl]
      refine ⟨Nat.zero_le _, fun b hb => ?_⟩
      have xb := Ex.new (o := .lst []) hb
      have nb : b ≠ D := fun e => by
        rw [e, hrs] at hb
        cases hb
      have hb0 : upd H D (.lst []) b = none := by
        rw [upd_ne nb]
        exact fresh_back x1 hb
      have al : ∀ {j : Nat} {c : Addr}, as[j]? = some c → c ≠ b := fun h => ne_of_none (rg.at' _ _ h) hb
      refine ⟨as.map V.ref, xb _ _ hrs, sz_lt (by rw [List.length_map, rg.len]; omega), (x1.trans xb).mut hD, as ++ [b], ?_, ?_⟩
      · rw [upd_same, List.map_append]
        rfl
      · refine RwV.off (u := .lst []) ⟨by rw [List.length_append, rg.len]; rfl, fun c hc => ?_, fun j c hc => ?_, ?_⟩ upd_same
        · rcases List.mem_append.mp hc with hc | hc
          · exact rg.new c hc
          · rw [List.mem_singleton.mp hc]
            exact hb0
        · by_cases hj : j < as.length
          · rw [List.getElem?_append_left hj] at hc
            exact xb _ _ (rg.at' j c hc)
          · rw [List.getElem?_append_right (by omega)] at hc
            have : c = b := by
              have := List.mem_of_getElem? hc
              exact List.mem_singleton.mp this
            rw [this]
            exact upd_same
        · refine List.nodup_append.mpr ⟨rg.nd, List.pairwise_singleton _ _, fun c hc d hd => ?_⟩
          rw [List.mem_singleton.mp hd]
          obtain ⟨j, hj⟩ := List.mem_iff_getElem?.mp hc
          exact al hj
    · rintro Hh ⟨x1, as, hrs, rg⟩
      rw [Int.toNat_natCast] at rg
      dsimp only [gName]
      have asH : ∀ c ∈ as, H c = none := fun c hc => fresh_back eD (rg.new c hc)
      refine q_forL (xs := xs) (ev_op (ev_var rfl) ev_c (rv_ixT (st_of (x1 _ _ h2)) (atI_nat (j := 1) rfl))) (sq_of (x1 _ _ h3)) (fun i σ' H' => Ex H H' ∧ ∃ (y4 y5 y6 y7 : Option V), σ' = [some (.ref g), some (.ref D), y4, y5, y6, y7] ∧ H' D = some (.lst (as.map V.ref)) ∧ RwV (upd H D (.lst [])) H' as n (adj (es.take i)))
        (fun H4 e4 => ⟨x1.trans e4, _, _, _, _, rfl, e4 _ _ hrs, rg.ex e4⟩) (fun i σ' H' _ h => sq_of (h.1 _ _ h3)) ?_ ?_
      · rintro i x σ' H4 hx ⟨e4, y4, y5, y6, y7, rfl, hD4, rw4⟩
        obtain ⟨e, he, tp, rfl, htp⟩ := h4.get hx
        have ein := ein e (List.mem_of_getElem? he)
        have il : i < es.length := (List.getElem?_eq_some_iff.mp he).1
        have adl : ∀ j, (adj (es.take i) j).length ≤ 60 := fun j => by
          unfold adj
          have h1 := List.length_filterMap_le (other j) (es.take i)
          have h2 := List.length_take_le i es
          omega
        obtain ⟨c1, hc1⟩ : ∃ c, as[e.1]? = some c := ⟨_, List.getElem?_eq_getElem (by rw [rw4.len]; omega)⟩
        obtain ⟨c2, hc2⟩ : ∃ c, as[e.2]? = some c := ⟨_, List.getElem?_eq_getElem (by rw [rw4.len]; omega)⟩
        have at' : ∀ {j : Nat} {c : Addr}, as[j]? = some c → (as.map V.ref)[j]? = some (.ref c) := fun h => by
          rw [List.getElem?_map, h]
          rfl
        refine ⟨tp, _, rfl, st_of (e4 _ _ htp), rfl, _, _, rfl, _, [], rfl, rfl, ?_⟩
        have nD : ∀ {c : Addr}, c ∈ as → D ≠ c := fun hc z => by
          have := rg.new _ hc
          rw [← z, upd_same] at this
          cases this
        refine q_app (v := .int (e.2 : Int)) (rw4.at' _ _ hc1) (ev_op (ev_var rfl) (ev_var rfl) (rv_ixL (sq_of hD4) (atI_nat (at' hc1)))) (ev_var rfl) (by rw [List.length_map]; have := adl e.1; omega) fun H5 e5 => ?_
        have m1 := List.mem_of_getElem? hc1
        have m2 := List.mem_of_getElem? hc2
        have e1 : nats (adj (es.take i) e.1) ++ [V.int (e.2 : Int)] = nats (adj (es.take i) e.1 ++ [e.2]) := by
          unfold nats
          rw [List.map_append]
          rfl
        rw [e1]
        have rw5 := (rw4.ex e5).put (l := adj (es.take i) e.1 ++ [e.2]) hc1
        have hD5 : upd H5 c1 (.lst (nats (adj (es.take i) e.1 ++ [e.2]))) D = some (.lst (as.map V.ref)) := by
          rw [upd_ne (nD m1)]
          exact e5 _ _ hD4
        have f2 := rw5.at' _ _ hc2
        rw [if_neg (show ¬ e.2 = e.1 by omega)] at f2
        refine s_app (v := .int (e.1 : Int)) f2 (ev_op (ev_var rfl) (ev_var rfl) (rv_ixL (sq_of hD5) (atI_nat (at' hc2)))) (ev_var rfl) (by rw [List.length_map]; have := adl e.2; omega) fun H6 e6 => ?_
        have e2 : nats (adj (es.take i) e.2) ++ [V.int (e.1 : Int)] = nats (adj (es.take i) e.2 ++ [e.1]) := by
          unfold nats
          rw [List.map_append]
          rfl
        rw [e2]
        have rw6 := (rw5.ex e6).put (l := adj (es.take i) e.2 ++ [e.1]) hc2
        refine ⟨((((e4.trans e5).mut (asH _ m1)).trans e6).mut (asH _ m2)), _, _, _, _, rfl, ?_, rw6.like fun j => ?_⟩
        · rw [upd_ne (nD m2)]
          exact e6 _ _ hD5
        · rw [adj_snoc he ein.1]
          by_cases j2 : j = e.2
          · rw [if_pos j2, if_pos j2, if_neg (show ¬ e.2 = e.1 by omega)]
          · rw [if_neg j2, if_neg j2]
            by_cases j1 : j = e.1
            · rw [if_pos j1, if_pos j1, j1]
            · rw [if_neg j1, if_neg j1]
      · rintro σ' H4 ⟨e4, y4, y5, y6, y7, rfl, hD4, rw4⟩
        rw [h4.length, List.take_length] at rw4
        exact lc_sorts (n := n) (f := adj es) rfl hD4 rw4.len (by omega) rw4.at' (adj_asc ok.edges) (fun _ => rfl) (fun _ => rfl) fun p H5 bs e5 hp h5 rw5 => q H5 p bs (e4.trans e5) (fresh_back e4 hp) h5 (rw5.weak e4)

theorem adj_out {n : Nat} {es : List Pr} (E : ∀ e ∈ es, e.1 < e.2 ∧ e.2 < n) {i : Nat} (h : n ≤ i) : adj es i = [] := by
  unfold adj
  rw [List.filterMap_eq_nil_iff]
  intro e he
  have := E e he
  unfold other
  rw [if_neg (by omega), if_neg (by omega)]
theorem ok_perms {f fN fS : Addr} {fd fdN fdS : FuncData} {k : Nat} (F : Fun K "_law_perms" "_law_perms" sPerms f fd)
    (GN : FnOk P w K mg base CX0 k fN fdN ["graph"] spNear) (FN : Fun K "_law_near" "_law_near" sNear fN fdN) (bN : Binds K fdN ["graph"] []) (gN : mg "_law_near" = some (.ref fN))
    (GS : FnOk P w K mg base CX0 k fS fdS ["source", "values"] spShuf) (FS : Fun K "_law_shuffle" "_law_shuffle" sShuf fS fdS) (bS : Binds K fdS ["source", "values"] []) (gS : mg "_law_shuffle" = some (.ref fS)) : FnOk P w K mg base CX0 (k + 1) f fd ["source", "graph"] spPerms := by
  refine F.ok scPerms (fun vs H Q E h => ?_) (fun cdv A outer st H vs Q E hr h => ?_)
  · obtain ⟨s, v, n, B, es, rfl, _⟩ := h
    rfl
  · obtain ⟨s, v, n, B, es, rfl, hS, hB, hg, ok, q⟩ := h
    refine ⟨_, (pss_one (ps_ret (pe_lc (own := [("row", 2)]) (g := gName 2) (tt := tYes) (te := tCall spShuf [] E0 (tCons (tVar 0) (tCons (tVar 2) tNil))) rfl scPerms.nd (pi_list (pe_call GN hr (by rfl) gN FN.kp bN .nil pass0 (pa_cons (pv 1) pa_nil))) (blkOk_by (N := ["source", "graph", "row"]) (sc := defScope sPerms) (by decide +kernel)) (fun _ _ _ _ _ => pg_name (i := 2) scPerms.nd rfl (Or.inl rfl)) (fun _ _ _ _ _ => pts_nil) (fun _ _ _ _ _ => (pe_call GS hr (by rfl) gS FS.kp bS .nil pass0 (pa_cons (pv 0) (pa_cons (pv 2) pa_nil))))))), ?_⟩
    have src0 := hS.at
    have n40 := ok.n40
    have few := ok.few
    refine ⟨v, rfl, v, n, es, rfl, hg.ex hide_up, ok, fun H1 L as e1 hL h1 rw1 => ?_⟩
    have d1 : Drew s B H H1 := (Drew.refl hS).ex e1
    refine ⟨L, rfl, ⟨_, sq_of h1⟩, fun D hD => ?_⟩
    have hD0 : H D = none := fresh_back e1 hD
    have eD := Ex.new (o := .lst []) hD
    have nLs : L ≠ s := new_apart src0 hL
    refine lc_list (xs := as.map V.ref) (fun i Hh => ∃ (bs : List Addr) (T : List (List Nat)), Drew s (B + 60 * i) H1 Hh ∧ Hh D = some (.lst (bs.map V.ref)) ∧ RwV (upd H1 D (.lst [])) Hh bs i (fun j => T.getD j []) ∧ T.length = i ∧ ∀ j, j < i → (T.getD j []).Perm (adj es j))
      ⟨[], [], ((Drew.refl (hS.ex e1)).ex eD), upd_same, ⟨rfl, (fun a h => nomatch h), (fun i a h => by simp at h), List.nodup_nil⟩, rfl, fun j h => absurd h (Nat.not_lt_zero j)⟩ (fun i H' _ p => ?_) ?_ ?_
    · obtain ⟨bs, T, d, _⟩ := p
      exact sq_of (d.get nLs h1)
    · rintro i x Hh hx ⟨bs, T, d2, hrs, rg, tl, tp⟩
      rw [List.getElem?_map] at hx
      cases hai : as[i]? with
      | none => rw [hai] at hx; cases hx
      | some c =>
        rw [hai] at hx
        cases hx
        have il : i < n := by rw [← rw1.len]; exact (List.getElem?_eq_some_iff.mp hai).1
        have src1 := (hS.ex e1).at
        have ncs : c ≠ s := new_apart src0 (rw1.new c (List.mem_of_getElem? hai))
        have al := adj_len (os := es) few i
        refine ⟨rfl, ?_⟩
        dsimp only [tYes]
        rw [if_pos rfl]
        refine ⟨.ref s, rfl, .ref c, rfl, s, c, nats (adj es i), B + 60 * i, rfl, d2.src, d2.get ncs (rw1.at' _ _ hai), ncs, by rw [List.length_map]; omega, by omega, fun H3 b ys d3 hb hys pm => ?_⟩
        obtain ⟨l, rfl, pl⟩ := perm_nats pm
        have src2 := d2.src.at
        have nbs : b ≠ s := new_apart src2 hb
        have nDs : D ≠ s := new_apart src1 hD
        have nb : b ≠ D := fun e => by
          rw [e, hrs] at hb
          cases hb
        have hb1 : H1 b = none := d2.none src1 hb
        have hb0 : upd H1 D (.lst []) b = none := by
          rw [upd_ne nb]
          exact hb1
        have nw : ∀ c ∈ bs, c ≠ s := fun c hc => by
          have h0 := rg.new c hc
          by_cases e : c = D
          · rw [e]
            exact nDs
          · rw [upd_ne e] at h0
            exact new_apart src1 h0
        have al2 : ∀ c ∈ bs, c ≠ b := fun c hc => by
          obtain ⟨j, hj⟩ := List.mem_iff_getElem?.mp hc
          exact ne_of_none (rg.at' _ _ hj) hb
        have rg3 : RwV (upd H1 D (.lst [])) H3 bs i (fun j => T.getD j []) := ⟨rg.len, rg.new, fun j c hj => d3.get (nw c (List.mem_of_getElem? hj)) (rg.at' j c hj), rg.nd⟩
        have rg4 : RwV (upd H1 D (.lst [])) H3 (bs ++ [b]) (i + 1) (fun j => (T ++ [l]).getD j []) := by
          refine (rg3.like fun j => rfl).snoc' hb0 al2 (fun j hj => ?_) ?_
          · rw [List.getD_eq_getElem?_getD, List.getD_eq_getElem?_getD, List.getElem?_append_left (by omega)]
          · have e1 : (T ++ [l]).getD i [] = l := by
              rw [List.getD_eq_getElem?_getD, List.getElem?_append_right (by omega), tl, Nat.sub_self]
              rfl
            rw [e1]
            exact hys
        refine ⟨bs.map V.ref, d3.get nDs hrs, sz_lt (by rw [List.length_map, rg.len]; omega), bs ++ [b], T ++ [l], ?_, ?_, RwV.off (u := .lst []) rg4 upd_same, ?_, fun j hj => ?_⟩
        · exact ((d2.trans d3).mono (by rw [List.length_map]; omega)).mut src1 hD
        · rw [upd_same, List.map_append]
          rfl
        · rw [List.length_append, tl]
          rfl
        · by_cases e : j < i
          · have := tp j e
            rwa [List.getD_eq_getElem?_getD, List.getElem?_append_left (by omega), ← List.getD_eq_getElem?_getD]
          · have ej : j = i := by omega
            rw [List.getD_eq_getElem?_getD, List.getElem?_append_right (by omega), tl, ej, Nat.sub_self]
            exact pl
    · rintro Hh ⟨bs, T, d2, hrs, rg, tl, tp⟩
      rw [List.length_map, rw1.len] at rg tl tp d2
      refine q Hh D bs (fun j => T.getD j []) ((d1.trans d2).mono (by omega)) hD0 hrs ((rg.weak eD).weak e1) fun j => ?_
      by_cases e : j < n
      · exact tp j e
      · rw [adj_out ok.edges.inn (by omega), List.getD_eq_getElem?_getD, List.getElem?_eq_none (by omega)]
        exact List.Perm.refl _
end
end K11
namespace K11
open PySem PySem.Spec PyProof.Rows L2 Os Evl
abbrev sValid : Stmt := topS 23
theorem scValid : FnScope ["graph", "value", "row", "due", "one"] ["graph", "value"] (defScope sValid) := ⟨rfl, rfl, rfl, by decide +kernel, rfl, by decide +kernel, by decide +kernel⟩
theorem dts_zip {G : Hp} : ∀ {zs : List (V × PyData)}, (∀ z ∈ zs, Dt G z.1 z.2) → Dts G (zs.map Prod.fst) (zs.map Prod.snd)
  | [], _ => .nil
  | _ :: _, h => .cons (h _ List.mem_cons_self) (dts_zip fun y hy => h y (List.mem_cons_of_mem _ hy))
theorem dts_sel {G : Hp} {xs : List V} {ds : List PyData} (h : Dts G xs ds) (p : PyData → Bool) : Dts G (given xs.length (fun i => p (ds.getD i .none)) fun i => xs.getD i .non) (ds.filter p) := by
  have l := h.length
  have zl : (xs.zip ds).length = xs.length := by rw [List.length_zip]; omega
  have e1 : given xs.length (fun i => p (ds.getD i .none)) (fun i => xs.getD i .non) = ((xs.zip ds).filter (p ∘ Prod.snd)).map Prod.fst := by
    rw [← zl]
    refine given_filter Prod.fst (p ∘ Prod.snd) _ _ (xs.zip ds) (fun i z e => ?_) (fun i z e => ?_)
    · obtain ⟨_, e2⟩ := List.getElem?_zip_eq_some.mp e
      show p (ds.getD i .none) = p z.2
      rw [List.getD_eq_getElem?_getD, e2]
      rfl
    · obtain ⟨e1, _⟩ := List.getElem?_zip_eq_some.mp e
      rw [List.getD_eq_getElem?_getD, e1]
      rfl
  have e2 : ds.filter p = ((xs.zip ds).filter (p ∘ Prod.snd)).map Prod.snd := by
    rw [← List.filter_map, List.map_snd_zip (by omega)]
  rw [e1, e2]
  refine dts_zip fun z hz => ?_
  obtain ⟨i, hi⟩ := List.mem_iff_getElem?.mp (List.mem_filter.mp hz).1
  obtain ⟨a1, a2⟩ := List.getElem?_zip_eq_some.mp hi
  obtain ⟨d, hd, dt⟩ := h.get a1
  rw [a2] at hd
  cases hd
  exact dt
theorem canLay_of : ∀ {ds : List PyData}, PyData.canLayAll0 ds = true → ∀ d ∈ ds, PyData.canLay0 d = true
  | d :: ds, h, x, hx => by
    have h : (PyData.canLay0 d && PyData.canLayAll0 ds) = true := h
    rw [Bool.and_eq_true] at h
    rcases List.mem_cons.mp hx with rfl | hx
    · exact h.1
    · exact canLay_of h.2 x hx
theorem depth_of : ∀ {ds : List PyData}, ∀ d ∈ ds, d.depth ≤ PyData.depthAll ds
  | d :: ds, x, hx => by
    show x.depth ≤ max d.depth (PyData.depthAll ds)
    rcases List.mem_cons.mp hx with rfl | hx
    · omega
    · have := depth_of (ds := ds) x hx
      omega
theorem sh_item {n : Nat} {ds : List PyData} (h : Sh n (.list ds)) : ∀ d ∈ ds, Sh n d := fun d hd => ⟨canLay_of h.lay d hd, by
  have h2 : PyData.depthAll ds + 1 ≤ n := h.deep
  have := depth_of d hd
  omega⟩
theorem sh_part {n : Nat} {ds : List PyData} (h : Sh n (.list ds)) (p : PyData → Bool) : Sh (n + 1) (.list (ds.filter p)) := Sh.lst fun d hd => sh_item h d (List.mem_filter.mp hd).1
theorem ev_neNil {K : PySem.W.Frag} {σ : L2.St} {H : Hp} {te : TE} {xs : List V} {ds : List PyData} (h : EvL te σ H xs) (hd : Dts H xs ds) (sh : SeqAt.shaped (.list ds) = true) :
    Ev (tOp (rNeD K) te (tLst tNil)) σ H (.bl (!ds.isEmpty)) := fun H1 e Q q => h H1 e _ fun p H2 hp e2 h2 => ⟨by decide, fun p' hp' => by
  have x3 := Ex.new (o := .lst []) hp'
  refine ⟨.list ds, .list [], Dt.dp (.lst (x3 _ _ h2) (hd.same (same_ex ((e.trans e2).trans x3)))), Dt.dp (.lst upd_same .nil), sh, by decide, ?_⟩
  have : PyData.eqv (.list ds) (.list []) = ds.isEmpty := by
    cases ds <;> rfl
  rw [this]
  exact q _ (e2.trans x3)⟩
theorem ints_of {H : Hp} : ∀ {xs : List V} {ds : List PyData}, Dts H xs ds → ds.filter (fun d => !intB d) = [] → xs = (ds.map intD).map V.int
  | _, _, .nil, _ => rfl
  | _, _, .cons h t, p => by
    rw [List.filter_eq_nil_iff] at p
    have e := ints_of t (List.filter_eq_nil_iff.mpr fun d hd => p d (List.mem_cons_of_mem _ hd))
    have h1 := p _ List.mem_cons_self
    cases h with
    | int i => rw [e]; rfl
    | _ => exact absurd rfl h1
theorem turn_bad {n : Int} {near : List Nat} {ds : List PyData} (h : ds.filter (fun d => !intB d) ≠ []) : turnB n near (.list ds) = false := by
  show (ds.all (posB n) && _) = false
  have : ds.all (posB n) = false := by
    cases e : ds.all (posB n) with
    | false => rfl
    | true =>
      refine absurd (List.filter_eq_nil_iff.mpr fun d hd => ?_) h
      have := List.all_eq_true.mp e d hd
      cases d <;> first | (cases this; done) | (intro z; cases z)
  rw [this, Bool.false_and]
theorem turn_len {n : Int} {near : List Nat} {ds : List PyData} (h : ds.length ≠ near.length) : turnB n near (.list ds) = false := by
  show (_ && (ds.map intD).isPerm (near.map fun x : Nat => (x : Int))) = false
  cases e : (ds.map intD).isPerm (near.map fun x : Nat => (x : Int)) with
  | false => rw [Bool.and_false]
  | true =>
    have := (List.isPerm_iff.mp e).length_eq
    rw [List.length_map, List.length_map] at this
    exact absurd this h
theorem turn_good {n : Int} {near : List Nat} {ds : List PyData} (hn : ∀ x ∈ near, (x : Int) < n) (h : ds.filter (fun d => !intB d) = []) : turnB n near (.list ds) = (ds.map intD).isPerm (near.map fun x : Nat => (x : Int)) := by
  show (ds.all (posB n) && _) = _
  cases e : (ds.map intD).isPerm (near.map fun x : Nat => (x : Int)) with
  | false => rw [Bool.and_false]
  | true =>
    rw [Bool.and_true]
    refine List.all_eq_true.mpr fun d hd => ?_
    have h1 := List.filter_eq_nil_iff.mp h d hd
    have h2 := (List.isPerm_iff.mp e).mem_iff.mp (List.mem_map.mpr ⟨d, hd, rfl⟩)
    obtain ⟨x, hx, ex⟩ := List.mem_map.mp h2
    have := hn x hx
    cases d with
    | int i =>
      have ei : (x : Int) = i := ex
      show (decide (0 ≤ i) && decide (i < n)) = true
      rw [decide_eq_true (by omega), decide_eq_true (by omega)]
      rfl
    | _ => exact absurd rfl h1
theorem turns_no {n : Nat} {es : List Pr} {ds : List PyData} {i : Nat} (hi : i < n) (h : turnB (n : Int) (adj es i) (ds.getD i .none) = false) : turnsB n es (.list ds) = false := by
  show (_ && (List.range n).all fun i => turnB (n : Int) (adj es i) (ds.getD i .none)) = false
  cases e : (List.range n).all fun i => turnB (n : Int) (adj es i) (ds.getD i .none) with
  | false => rw [Bool.and_false]
  | true =>
    have := List.all_eq_true.mp e i (List.mem_range.mpr hi)
    rw [h] at this
    cases this
theorem turns_all {n : Nat} {es : List Pr} {ds : List PyData} (hl : ds.length = n) (h : ∀ i, i < n → turnB (n : Int) (adj es i) (ds.getD i .none) = true) : turnsB n es (.list ds) = true := by
  show (decide (ds.length = n) && _) = true
  rw [decide_eq_true hl, Bool.true_and]
  exact List.all_eq_true.mpr fun i hi => h i (List.mem_range.mp hi)
section
variable {P : Program} {w : World} {K : PySem.W.Frag} {mg : Str → Option Value} {base : Heap}
def spValid : Sp := fun vs H Q _ => ∃ (v t : V) (n : Nat) (es : List Pr) (d : PyData), vs = [v, t] ∧ GraphV H v n es ∧ IsForest n es ∧ Dt H t d ∧ Short2 d ∧ Sh 60 d ∧ ∀ H', Ex H H' → Q (.bl (turnsB n es d)) H'
abbrev tBad (K : PySem.W.Frag) : TT := tOr (tNot (tB (tCB (rIsi K) (tCons (tVar 4) (tCons (tC (.ty "int")) tNil))))) (tB (tCB (rIsi K) (tCons (tVar 4) (tCons (tC (.ty "bool")) tNil))))
theorem ok_valid {f fN : Addr} {fd fdN : FuncData} {k : Nat} (F : Fun K "_law_valid" "_law_valid" sValid f fd)
    (GN : FnOk P w K mg base CX0 k fN fdN ["graph"] spNear) (FN : Fun K "_law_near" "_law_near" sNear fN fdN) (bN : Binds K fdN ["graph"] []) (gN : mg "_law_near" = some (.ref fN))
    (mIsi : mg "isinstance" = none) (mList : mg "list" = none) (mLen : mg "len" = none) (mZip : mg "zip" = none) (mInt : mg "int" = none) (mBool : mg "bool" = none) (mSorted : mg "sorted" = none) : FnOk P w K mg base CX0 (k + 1) f fd ["graph", "value"] spValid := by
  refine F.ok scValid (fun vs H Q E h => ?_) (fun cdv A outer s H vs Q E hr h => ?_)
  · obtain ⟨v, t, n, es, d, rfl, _⟩ := h
    rfl
  · obtain ⟨v, t, n, es, d, rfl, hg, ok, hd, short, sh, q⟩ := h
    refine ⟨_, (pss_cons (ps_if (PW.pt (pw_or (pt_not (pt_val (pe_callB call_isi (by rfl) mIsi boot_isinstance (pa_cons (pv 1) (pa_cons (pe_bltn (v := .ty "list") (by rfl) mList boot_list rfl) pa_nil))))) (pw_or1 (pt_cmpR op_ne (pe_callB call_len_seq (by rfl) mLen boot_len (pa_cons (pv 1) pa_nil)) (pe_ix ix_tup (pv 0) pe_int (fun _ _ => rfl)) (nomark _))))) (pss_one (ps_ret pe_bl)) pss_nil)
      (pss_cons (ps_for PassesOwn.never rfl (pi_zip (by rfl) mZip (pa_cons (pv 1) (pa_cons (pe_call GN hr (by rfl) gN FN.kp bN .nil pass0 (pa_cons (pv 0) pa_nil)) pa_nil))) (pg_tup rfl (pgs_cons (pg_name (i := 2) scValid.nd rfl (Or.inl rfl)) (pgs_cons (pg_name (i := 3) scValid.nd rfl (Or.inl rfl)) pgs_nil)))
      (pss_cons (ps_if (PW.pt (pw_or (pt_not (pt_val (pe_callB call_isi (by rfl) mIsi boot_isinstance (pa_cons (pv 2) (pa_cons (pe_bltn (v := .ty "list") (by rfl) mList boot_list rfl) pa_nil))))) (pw_or1 (pt_cmpR op_ne (pe_callB call_len_seq (by rfl) mLen boot_len (pa_cons (pv 2) pa_nil)) (pe_callB call_len_seq (by rfl) mLen boot_len (pa_cons (pv 3) pa_nil)) (nomark _))))) (pss_one (ps_ret pe_bl)) pss_nil)
      (pss_cons (ps_if (pt_cmpR (op_neD hr.units) (pe_lc (own := [("one", 4)]) (g := gName 4) (tt := tBad K) (te := tVar 4) rfl scValid.nd (pi_list (pv 2)) (blkOk_by (N := ["graph", "value", "row", "due", "one"]) (sc := defScope sValid) (by decide +kernel)) (fun _ _ _ _ _ => pg_name (i := 4) scValid.nd rfl (Or.inl rfl)) (fun _ _ _ _ _ => pts_one (PW.pt (pw_or (pt_not (pt_val (pe_callB call_isi (by rfl) mIsi boot_isinstance (pa_cons (pv 4) (pa_cons (pe_bltn (v := .ty "int") (by rfl) mInt boot_int rfl) pa_nil))))) (pw_or1 (pt_val (pe_callB call_isi (by rfl) mIsi boot_isinstance (pa_cons (pv 4) (pa_cons (pe_bltn (v := .ty "bool") (by rfl) mBool boot_bool rfl) pa_nil)))))))) (fun _ _ _ _ _ => pv 4)) (pe_lst pa_nil) (nomark _)) (pss_one (ps_ret pe_bl)) pss_nil)
      (pss_one (ps_if (pt_cmpR (op_neD hr.units) (pe_callB cr_sortedI (by rfl) mSorted boot_sorted (pa_cons (pv 2) pa_nil)) (pv 3) (nomark _)) (pss_one (ps_ret pe_bl)) pss_nil)))))
      (pss_one (ps_ret pe_bl)))), ?_⟩
    have hg0 := hg
    have n40 := ok.n40
    obtain ⟨g, a0, ys, rfl, h2, h3, h4⟩ := hg
    rcases hd.list_or with ⟨b, xs, ds, rfl, hb, ht, rfl⟩ | hn
    · have hlen := ht.length
      obtain ⟨hl, hsh⟩ : ds.length ≤ 1000 ∧ ∀ d ∈ ds, Short d := short
      refine q_when (b := !true || !decide (V.int (xs.length : Int) = V.int (n : Int))) (et_or (et_not (et_B (ev_isi (ev_var rfl) hd (kit_list _)))) fun _ => et_test (ev_op (ev_len' (ev_var rfl) hb) (ev_op (ev_var rfl) ev_c (rv_ixT (st_of h2) (atI_nat (j := 0) rfl))) (rv_ne rfl))) (fun hb0 H3 e3 => ?_) (fun hb0 H3 e3 => ?_)
      · have hb1 : (!decide (V.int (xs.length : Int) = V.int (n : Int))) = true := hb0
        have hb2 := of_decide_eq_false ((Bool.not_eq_true' _).mp hb1)
        have : turnsB n es (.list ds) = false := by
          show (decide (ds.length = n) && _) = false
          rw [decide_eq_false fun z => hb2 (by rw [hlen, z]), Bool.false_and]
        refine s_ret (v := .bl false) ev_c fun H4 e4 => ?_
        rw [← this]
        exact q H4 (e3.trans e4)
      · have hb1 : (!decide (V.int (xs.length : Int) = V.int (n : Int))) = false := hb0
        have hb2 := V.int.inj (of_decide_eq_true ((Bool.not_eq_false' _).mp hb1))
        have dl : ds.length = n := by omega
        refine ⟨.ref b, rfl, .ref g, rfl, .ref g, n, es, rfl, hg0.ex e3, ok, fun H5 L as e5 hL h5 rw5 => ?_⟩
        have e35 := e3.trans e5
        have hb5 := e35 _ _ hb
        have ht5 := ht.same (same_ex e35)
        have al : xs.length = (as.map V.ref).length := by rw [List.length_map, rw5.len]; omega
        refine ⟨b, L, xs, as.map V.ref, rfl, sq_of hb5, sq_of h5, RZ.for_zipL al (fun i σ' H' => Ex H5 H' ∧ (∃ y2 y3 y4, σ' = [some (.ref g), some (.ref b), y2, y3, y4]) ∧ ∀ j, j < i → turnB (n : Int) (adj es j) (ds.getD j .none) = true)
          ⟨Ex.refl _, ⟨_, _, _, rfl⟩, fun j h => absurd h (Nat.not_lt_zero j)⟩ (fun i σ' H' p => ⟨sq_of (p.1 _ _ hb5), sq_of (p.1 _ _ h5)⟩) ?_ ?_⟩
        · rintro i x y T σ' Hh hx hy ⟨e6, ⟨y2, y3, y4, rfl⟩, yes⟩ hT
          rw [List.getElem?_map] at hy
          cases hai : as[i]? with
          | none => rw [hai] at hy; cases hy
          | some c =>
            rw [hai] at hy
            cases hy
            obtain ⟨d2, hd2, dt2⟩ := ht5.get hx
            have il : i < n := by rw [← dl]; exact (List.getElem?_eq_some_iff.mp hd2).1
            have eT := Ex.new (o := .tup [x, .ref c]) hT
            refine ⟨T, [x, .ref c], rfl, st_of upd_same, rfl, x, [.ref c], rfl, .ref c, [], rfl, rfl, ?_⟩
            dsimp only
            have e57 := e6.trans eT
            have dt7 := dt2.same (same_ex e57)
            have hc7 := e57 _ _ (rw5.at' _ _ hai)
            generalize L2.upd Hh T (.tup [x, .ref c]) = H7 at *
            have gd2 : ds.getD i .none = d2 := by
              rw [List.getD_eq_getElem?_getD, hd2]
              rfl
            have no : turnB (n : Int) (adj es i) d2 = false → ∀ H', Ex H7 H' → Q (.bl false) H' := fun h H' e' => by
              have := turns_no (es := es) il (by rw [gd2]; exact h)
              rw [← this]
              exact q H' ((e35.trans e57).trans e')
            have sd2 : Short d2 := hsh d2 (List.mem_of_getElem? hd2)
            have shd2 : Sh 60 d2 := sh_item sh d2 (List.mem_of_getElem? hd2)
            rcases dt7.list_or with ⟨b2, xs2, ds2, rfl, hb2', ht2, rfl⟩ | hn2
            · have hlen2 := ht2.length
              have l2 : ds2.length ≤ 1000 := sd2
              refine q_when (b := !true || !decide (V.int (xs2.length : Int) = V.int ((nats (adj es i)).length : Int))) (et_or (et_not (et_B (ev_isi (ev_var rfl) dt7 (kit_list _)))) fun _ => et_test (ev_op (ev_len' (ev_var rfl) hb2') (ev_len' (ev_var rfl) hc7) (rv_ne rfl))) (fun hb0 H8 e8 => ?_) (fun hb0 H8 e8 => ?_)
              · have hb1 : (!decide (V.int (xs2.length : Int) = V.int ((nats (adj es i)).length : Int))) = true := hb0
                have hb3 := of_decide_eq_false ((Bool.not_eq_true' _).mp hb1)
                refine s_ret (v := .bl false) ev_c fun H9 e9 => no (turn_len fun z => hb3 ?_) H9 (e8.trans e9)
                unfold nats
                rw [List.length_map, hlen2, z]
              · have inner : Ev (tOp (rNeD K) (tLc (iList K (tVar 2)) (gName 4) (tBad K) (tVar 4) [4]) (tLst tNil)) [some (.ref g), some (.ref b), some (.ref b2), some (.ref c), y4] H8 (.bl (!(ds2.filter fun d => !intB d).isEmpty)) := by
                  have hb8 := e8 _ _ hb2'
                  have ht8 := ht2.same (same_ex e8)
                  refine ev_neNil (xs := given xs2.length (fun i => !intB (ds2.getD i .none)) fun i => xs2.getD i .non) (el_lcL _ _ (ev_var rfl) (sq_of hb8) (by omega) (fun _ => rfl) (fun j z H9 e9 hz => ?_) (fun j z H9 e9 hz _ => ?_)) (dts_sel ht8 fun d => !intB d) ((sh_part shd2 _).shaped (by decide))
                  · obtain ⟨d3, hd3, dt3⟩ := ht8.get hz
                    rw [List.getD_eq_getElem?_getD, hd3]
                    have dt4 := dt3.same (same_ex e9)
                    refine et_is (et_or (a := !numB d3) (b := isBlD d3) (et_not (et_B (ev_isi (ev_var rfl) dt4 (kit_int _)))) fun _ => et_B (ev_isi (ev_var rfl) dt4 (kit_bool _))) ?_
                    cases d3 <;> rfl
                  · rw [List.getD_eq_getElem?_getD, hz]
                    exact ev_var rfl
                refine q_when (et_test inner) (fun hb3 H9 e9 => ?_) (fun hb3 H9 e9 => ?_)
                · refine s_ret (v := .bl false) ev_c fun H10 e10 => no (turn_bad fun z => ?_) H10 ((e8.trans e9).trans e10)
                  rw [z] at hb3
                  cases hb3
                · have nil2 : ds2.filter (fun d => !intB d) = [] := by
                    cases hf : ds2.filter (fun d => !intB d) with
                    | nil => rfl
                    | cons u us =>
                      rw [hf] at hb3
                      cases hb3
                  have e79 := e8.trans e9
                  have hx2 := ints_of ht2 nil2
                  refine s_when (b := !turnB (n : Int) (adj es i) (.list ds2)) (et_test fun H10 e10 Q' q' => ?_) (fun hb4 H10 e10 => ?_) (fun hb4 H10 e10 => ?_)
                  · refine ⟨.ref b2, rfl, b2, ds2.map intD, rfl, sq_of (by rw [← hx2]; exact e10 _ _ (e79 _ _ hb2')), fun ns' p pm pw hp => ?_⟩
                    have x1 := Ex.new (o := .lst (ns'.map V.int)) hp
                    refine ⟨.ref c, rfl, .list (intsD ns'), .list (natsD (adj es i)), Dt.dp (.lst upd_same (dts_ints _)), Dt.dp (.lst (x1 _ _ (e10 _ _ (e79 _ _ hc7))) (dts_nats _)), (sh_ints 0 ns').shaped (by decide), (sh_nats 0 _).shaped (by decide), ?_⟩
                    have ee : PyData.eqv (.list (intsD ns')) (.list (natsD (adj es i))) = turnB (n : Int) (adj es i) (.list ds2) := by
                      rw [turn_good (fun x hx => by have := adj_in ok.edges.inn hx; omega) nil2]
                      show PyData.eqvAll (intsD ns') (natsD (adj es i)) = _
                      rw [natsD_ints, eqv_ints]
                      exact sorted_is pm pw (List.pairwise_map.mpr ((adj_asc ok.edges i).imp fun {x y} h => by show (x : Int) ≤ (y : Int); omega))
                    rw [ee]
                    exact q' _ x1
                  · refine s_ret (v := .bl false) ev_c fun H11 e11 => no ((Bool.not_eq_true' _).mp hb4) H11 ((e79.trans e10).trans e11)
                  · refine ⟨(e57.trans e79).trans e10, ⟨_, _, _, rfl⟩, fun j hj => ?_⟩
                    by_cases ji : j = i
                    · rw [ji, gd2]
                      exact (Bool.not_eq_false' _).mp hb4
                    · exact yes j (by omega)
            · refine q_when (b := true) (et_is (et_or (b := true) (et_not (et_B (ev_isi (ev_var rfl) dt7 (kit_list _)))) fun hs => ?_) ?_) (fun _ H8 e8 => ?_) (fun h => nomatch h)
              · rw [hn2] at hs
                cases hs
              · rw [hn2]
                rfl
              · refine s_ret (v := .bl false) ev_c fun H9 e9 => no ?_ H9 (e8.trans e9)
                cases d2 <;> first | rfl | cases hn2
        · rintro σ' Hh ⟨e6, ⟨y2, y3, y4, rfl⟩, yes⟩
          dsimp only
          refine s_ret (v := .bl true) ev_c fun H8 e8 => ?_
          have xl : xs.length = n := by omega
          rw [xl] at yes
          rw [← turns_all (es := es) dl fun j hj => yes j hj]
          exact q H8 ((e35.trans e6).trans e8)
    · refine q_when (b := true) (et_is (et_or (b := true) (et_not (et_B (ev_isi (ev_var rfl) hd (kit_list _)))) fun hs => ?_) ?_) (fun _ H3 e3 => ?_) (fun h => nomatch h)
      · rw [hn] at hs
        cases hs
      · rw [hn]
        rfl
      · have : turnsB n es d = false := by
          cases d <;> first | rfl | cases hn
        refine s_ret (v := .bl false) ev_c fun H4 e4 => ?_
        rw [← this]
        exact q H4 (e3.trans e4)
end
end K11
namespace K11
open PySem PySem.Spec PyProof.Rows L2 Os Evl
structure Kd (L D : Nat) (d : PyData) : Prop where
  lim : Lim L D d
  lay : PyData.canLay0 d = true
theorem Kd.mono {L D L' D' : Nat} {d : PyData} (h : Kd L D d) (h1 : L ≤ L') (h2 : D ≤ D') : Kd L' D' d := ⟨h.lim.mono h1 h2, h.lay⟩
theorem Kd.sh {L D : Nat} {d : PyData} (h : Kd L D d) : Sh D d := ⟨h.lay, h.lim.deep⟩
theorem Kd.lst {L D m : Nat} {ds : List PyData} (h : ∀ d ∈ ds, Kd L D d) (hm : ds.length ≤ m) : Kd (3 + (L + 2) * m) (D + 1) (.list ds) := ⟨Lim.lst (fun d hd => (h d hd).lim) hm, (sh_all fun d hd => (h d hd).sh).1⟩
theorem Kd.tup {L D m : Nat} {ds : List PyData} (h : ∀ d ∈ ds, Kd L D d) (hm : ds.length ≤ m) : Kd (3 + (L + 2) * m) (D + 1) (.tuple ds) := ⟨Lim.tup (fun d hd => (h d hd).lim) hm, (sh_all fun d hd => (h d hd).sh).1⟩
theorem int_shown60 : ∀ i, i < 64 → (PyData.int ((i : Nat) : Int)).shown.length ≤ 60 := by decide +kernel
theorem Kd.int {i : Nat} (h : i < 64) : Kd 60 0 (.int (i : Int)) := ⟨⟨int_shown60 i h, Nat.zero_le _, (Lim.int h).show', rfl⟩, rfl⟩
theorem Kd.non : Kd 60 0 .none := ⟨⟨by decide, Nat.zero_le _, rfl, rfl⟩, rfl⟩
theorem Kd.bl (b : Bool) : Kd 60 0 (.bool b) := ⟨⟨by cases b <;> decide, Nat.zero_le _, rfl, rfl⟩, rfl⟩
theorem Kd.neg : Kd 60 0 (.int (-1)) := ⟨⟨by decide +kernel, Nat.zero_le _, by decide +kernel, rfl⟩, rfl⟩
theorem Kd.big : Kd 60 0 (.int (10 ^ (59 : Int).toNat)) := ⟨⟨by decide +kernel, Nat.zero_le _, by decide +kernel, rfl⟩, rfl⟩
theorem Kd.str {z : Str} (h : z.length ≤ 2) (ok : PyData.strOk z = true) : Kd 60 0 (.str z) := by
  refine ⟨⟨?_, Nat.zero_le _, rfl, rfl⟩, ok⟩
  show (reprText z).length ≤ _
  have := StrLaws.reprText_len z fun c hc => Nat.lt_trans (str_codes ok c hc) (by decide)
  omega
theorem Kd.zeros : Kd 60 1 (.list [.int 0]) := ⟨⟨by decide +kernel, by decide, by decide +kernel, rfl⟩, rfl⟩
theorem Kd.zeroT : Kd 60 1 (.tuple [.int 0]) := ⟨⟨by decide +kernel, by decide, by decide +kernel, rfl⟩, rfl⟩
def It0 (G : Hp) (v : V) : Prop := ∃ d, Dt G v d ∧ Kd 60 1 d ∧ Short d
def Row0 (G : Hp) (v : V) : Prop := ∃ d, Dt G v d ∧ Kd 5100 2 d ∧ Short d
def ValV (G : Hp) (v : V) : Prop := ∃ d, Dt G v d ∧ Kd 420000 20 d ∧ Short2 d
def hides (l : List Addr) (H : Hp) : Hp := fun b => if b ∈ l then none else H b
theorem hides_same {l : List Addr} {H : Hp} : Same (hides l H) H := fun b o h => by
  unfold hides at h
  split at h
  · cases h
  · exact h
theorem hides_ex {l : List Addr} {H H' : Hp} (e : Ex H H') : Ex (hides l H) (hides l H') := fun b o h => by
  unfold hides at h ⊢
  split at h
  · cases h
  · rename_i hb
    rw [if_neg hb]
    exact e b o h
theorem hides_at {l : List Addr} {H : Hp} {b : Addr} (h : b ∉ l) : hides l H b = H b := if_neg h
def Hd (p : List Addr) (R : Hp → V → Prop) : Hp → V → Prop := fun G v => R (hides p G) v
theorem it0_up : Up It0 := fun _ _ _ e ⟨d, h, i⟩ => ⟨d, h.same (same_ex e), i⟩
theorem row0_up : Up Row0 := fun _ _ _ e ⟨d, h, i⟩ => ⟨d, h.same (same_ex e), i⟩
theorem val_up : Up ValV := fun _ _ _ e ⟨d, h, i⟩ => ⟨d, h.same (same_ex e), i⟩
theorem hd_up {p : List Addr} {R : Hp → V → Prop} (up : Up R) : Up (Hd p R) := fun _ _ _ e r => up _ _ _ (hides_ex e) r
theorem it0_row {G : Hp} {v : V} (h : It0 G v) : Row0 G v := by
  obtain ⟨d, h1, h2, h3⟩ := h
  exact ⟨d, h1, h2.mono (by decide) (by decide), h3⟩
theorem row0_show {p : List Addr} {G : Hp} {v : V} (h : Hd p Row0 G v) : Row0 G v := by
  obtain ⟨d, h1, h2⟩ := h
  exact ⟨d, h1.same hides_same, h2⟩
theorem it0_nat {G : Hp} {i : Nat} (h : i < 64) : It0 G (.int (i : Int)) := ⟨_, .int _, (Kd.int h).mono (by decide) (by decide), trivial⟩
theorem dts_ex {G : Hp} {R : PyData → Prop} : ∀ {xs : List V}, (∀ x ∈ xs, ∃ d, Dt G x d ∧ R d) → ∃ ds, Dts G xs ds ∧ (∀ d ∈ ds, R d) ∧ ds.length = xs.length
  | [], _ => ⟨[], .nil, (fun _ h => nomatch h), rfl⟩
  | x :: xs, h => by
    obtain ⟨d, h1, h2⟩ := h x List.mem_cons_self
    obtain ⟨ds, h3, h4, h5⟩ := dts_ex (xs := xs) fun y hy => h y (List.mem_cons_of_mem _ hy)
    refine ⟨d :: ds, .cons h1 h3, fun y hy => ?_, by rw [List.length_cons, h5, List.length_cons]⟩
    rcases List.mem_cons.mp hy with rfl | hy
    · exact h2
    · exact h4 y hy
theorem row0_list {G : Hp} {q : Addr} {xs : List V} (h : G q = some (.lst xs)) (hl : xs.length ≤ 81) (hx : ∀ x ∈ xs, It0 G x) : Row0 G (.ref q) := by
  obtain ⟨ds, h1, h2, h3⟩ := dts_ex hx
  exact ⟨.list ds, .lst h h1, (Kd.lst (m := 81) (fun d hd => (h2 d hd).1) (by omega)).mono (by decide) (by decide), show ds.length ≤ 1000 by omega⟩
theorem row0_tup {G : Hp} {q : Addr} {xs : List V} (h : G q = some (.tup xs)) (hl : xs.length ≤ 81) (hx : ∀ x ∈ xs, It0 G x) : Row0 G (.ref q) := by
  obtain ⟨ds, h1, h2, h3⟩ := dts_ex hx
  exact ⟨.tuple ds, .tup h h1, (Kd.tup (m := 81) (fun d hd => (h2 d hd).1) (by omega)).mono (by decide) (by decide), trivial⟩
theorem val_list {G : Hp} {q : Addr} {xs : List V} (h : G q = some (.lst xs)) (hl : xs.length ≤ 81) (hx : ∀ x ∈ xs, Row0 G x) : ValV G (.ref q) := by
  obtain ⟨ds, h1, h2, h3⟩ := dts_ex hx
  exact ⟨.list ds, .lst h h1, (Kd.lst (m := 81) (fun d hd => (h2 d hd).1) (by omega)).mono (by decide) (by decide), show ds.length ≤ 1000 by omega, fun d hd => (h2 d hd).2⟩
theorem val_tup {G : Hp} {q : Addr} {xs : List V} (h : G q = some (.tup xs)) (hl : xs.length ≤ 81) (hx : ∀ x ∈ xs, Row0 G x) : ValV G (.ref q) := by
  obtain ⟨ds, h1, h2, h3⟩ := dts_ex hx
  exact ⟨.tuple ds, .tup h h1, (Kd.tup (m := 81) (fun d hd => (h2 d hd).1) (by omega)).mono (by decide) (by decide), trivial⟩
theorem mem_cut {x : V} {xs : List V} {lo hi : Option Int} (h : x ∈ cutV xs lo hi) : x ∈ xs := List.mem_of_mem_drop (List.mem_of_mem_take h)
theorem asc_len : ∀ {l : List Nat} {a n : Nat}, l.Pairwise (· < ·) → (∀ x ∈ l, a ≤ x ∧ x < n) → l.length ≤ n - a
  | [], _, _, _, _ => Nat.zero_le _
  | x :: l, a, n, h, b => by
    have h := List.pairwise_cons.mp h
    have bx := b x List.mem_cons_self
    have := asc_len (l := l) (a := x + 1) (n := n) h.2 fun y hy => ⟨h.1 y hy, (b y (List.mem_cons_of_mem _ hy)).2⟩
    rw [List.length_cons]
    omega
theorem hide_upd2 {s p : Addr} {l : List Addr} {H : Hp} {o : HO} (hp : p ∈ l) : hides l (hide s (upd H p o)) = hides l (hide s H) := by
  funext b
  unfold hides
  by_cases h : b ∈ l
  · rw [if_pos h, if_pos h]
  · rw [if_neg h, if_neg h]
    have : b ≠ p := fun e => h (e ▸ hp)
    unfold hide
    by_cases h2 : b = s
    · rw [if_pos h2, if_pos h2]
    · rw [if_neg h2, if_neg h2, upd_ne this]
section
variable {K : PySem.W.Frag} {s : Addr} {p : List Addr} {R R' : Hp → V → Prop} {σ : L2.St} {H H' : Hp} {ta tb te : TE} {tl tr : TA} {n m lo hi lo' hi' B : Nat} {v : V}
theorem hide2_at {q : Addr} (n1 : q ≠ s) (n2 : q ∉ p) : hides p (hide s H) q = H q := by rw [hides_at n2, hide_ne n1]
theorem new_out {q : Addr} (hp : ∀ b ∈ p, ∃ o, H b = some o) (h : H q = none) : q ∉ p := fun hq => by
  obtain ⟨o, ho⟩ := hp q hq
  rw [h] at ho
  cases ho
theorem olds (hp : ∀ b ∈ p, ∃ o, H b = some o) (e : Ex H H') : ∀ b ∈ p, ∃ o, H' b = some o := fun b hb => by
  obtain ⟨o, ho⟩ := hp b hb
  exact ⟨o, e _ _ ho⟩
theorem er_listP (hs : ∃ o, H s = some o) (hp : ∀ b ∈ p, ∃ o, H b = some o) (h : EvLR s (Hd p R) te σ H lo hi) (f : ∀ q xs G, G q = some (.lst xs) → lo ≤ xs.length → xs.length ≤ hi → (∀ x ∈ xs, R G x) → R' G (.ref q)) : EvR s (Hd p R') te σ H := fun H1 e Q q =>
  h H1 e _ fun a xs H2 ha e2 h2 l1 l2 r => q (.ref a) H2 e2 (f a xs _ (by
    rw [hide2_at (new_apart (by obtain ⟨o, ho⟩ := hs; exact ⟨o, e _ _ ho⟩) ha) (new_out (olds hp (e)) ha)]
    exact h2) l1 l2 r)
theorem er_tupP (up : Up R) (hs : ∃ o, H s = some o) (hp : ∀ b ∈ p, ∃ o, H b = some o) (h : EvAR s (Hd p R) tl σ H n) (hn : n ≤ 1000) (f : ∀ q xs G, G q = some (.tup xs) → xs.length = n → (∀ x ∈ xs, R G x) → R' G (.ref q)) : EvR s (Hd p R') (tTup tl) σ H := fun H1 e Q q =>
  h H1 e _ fun vs H2 e2 hl hv => ⟨by rw [hl]; exact sz_of (by omega), fun a ha => q (.ref a) _ (e2.trans (Ex.new ha)) (f a vs _ (by
    rw [hide2_at (new_apart (by obtain ⟨o, ho⟩ := hs; exact ⟨o, e2 _ _ (e _ _ ho)⟩) ha) (new_out (olds hp (e.trans e2)) ha)]
    exact upd_same) hl fun x hx => hd_up up _ _ _ (hide_ex (Ex.new ha)) (hv x hx))⟩
theorem er_tofP {a : Addr} {xs : List V} (hs : ∃ o, H s = some o) (hp : ∀ b ∈ p, ∃ o, H b = some o) (h : Ev ta σ H (.ref a)) (ha : H a = some (.lst xs)) (f : ∀ q G, G q = some (.tup xs) → R' G (.ref q)) :
    EvR s (Hd p R') (tCB (fun xs H Q => ∃ p ys, xs = [V.ref p] ∧ ((SqL K H p ys ∧ ∀ l, H l = none → Q (.ref l) (upd H l (.tup ys))) ∨ (SqT K H p ys ∧ Q (.ref p) H))) (tCons ta tNil)) σ H := fun H1 e Q q =>
  h H1 e _ fun H2 e2 => ⟨a, xs, rfl, .inl ⟨sq_of ((e.trans e2) _ _ ha), fun b hb => q (.ref b) _ (e2.trans (Ex.new hb)) (f b _ (by
    rw [hide2_at (new_apart (by obtain ⟨o, ho⟩ := hs; exact ⟨o, (e.trans e2) _ _ ho⟩) hb) (new_out (olds hp (e.trans e2)) hb)]
    exact upd_same))⟩⟩
theorem er_tofR {a : Addr} {xs : List V} (up : Up R) (hs : ∃ o, H s = some o) (hp : ∀ b ∈ p, ∃ o, H b = some o) (h : Ev ta σ H (.ref a)) (ha : H a = some (.lst xs)) (hx : ∀ x ∈ xs, Hd p R (hide s H) x) (f : ∀ q G, G q = some (.tup xs) → (∀ x ∈ xs, R G x) → R' G (.ref q)) :
    EvR s (Hd p R') (tCB (fun xs H Q => ∃ p ys, xs = [V.ref p] ∧ ((SqL K H p ys ∧ ∀ l, H l = none → Q (.ref l) (upd H l (.tup ys))) ∨ (SqT K H p ys ∧ Q (.ref p) H))) (tCons ta tNil)) σ H := fun H1 e Q q =>
  h H1 e _ fun H2 e2 => ⟨a, xs, rfl, .inl ⟨sq_of ((e.trans e2) _ _ ha), fun b hb => q (.ref b) _ (e2.trans (Ex.new hb)) (f b _ (by
    rw [hide2_at (new_apart (by obtain ⟨o, ho⟩ := hs; exact ⟨o, (e.trans e2) _ _ ho⟩) hb) (new_out (olds hp (e.trans e2)) hb)]
    exact upd_same) fun x hx' => hd_up up _ _ _ (hide_ex ((e.trans e2).trans (Ex.new hb))) (hx x hx'))⟩⟩
theorem er_tof {a : Addr} {xs : List V} (up : Up R) (hs : ∃ o, H s = some o) (h : Ev ta σ H (.ref a)) (ha : H a = some (.lst xs)) (hx : ∀ x ∈ xs, R (hide s H) x) (f : ∀ q G, G q = some (.tup xs) → (∀ x ∈ xs, R G x) → R' G (.ref q)) :
    EvR s R' (tCB (fun xs H Q => ∃ p ys, xs = [V.ref p] ∧ ((SqL K H p ys ∧ ∀ l, H l = none → Q (.ref l) (upd H l (.tup ys))) ∨ (SqT K H p ys ∧ Q (.ref p) H))) (tCons ta tNil)) σ H := fun H1 e Q q =>
  h H1 e _ fun H2 e2 => ⟨a, xs, rfl, .inl ⟨sq_of ((e.trans e2) _ _ ha), fun b hb => q (.ref b) _ (e2.trans (Ex.new hb)) (f b _ (by
    rw [hide_ne (new_apart (by obtain ⟨o, ho⟩ := hs; exact ⟨o, (e.trans e2) _ _ ho⟩) hb)]
    exact upd_same) fun x hx' => up _ _ _ (hide_ex ((e.trans e2).trans (Ex.new hb))) (hx x hx'))⟩⟩
theorem el_rev {a : Addr} {xs : List V} (h : Ev te σ H (.ref a)) (hs : SqL K H a xs) : EvL (tRevL K te) σ H xs.reverse := fun H1 e Q q =>
  h H1 e _ fun H2 e2 => ⟨a, xs, rfl, ex_l (e.trans e2) hs, fun p hp => q p _ (fresh_back e2 hp) (e2.trans (Ex.new hp)) upd_same⟩
theorem el_rep {a : Addr} {xs : List V} {k : Nat} (h : Ev ta σ H (.ref a)) (ha : H a = some (.lst xs)) (h2 : Ev tb σ H (.int (k : Int))) (hk : k ≤ 1000) (hz : xs.length * k ≤ 100000) : EvL (tOp rRep ta tb) σ H (List.replicate k xs).flatten := fun H1 e Q q =>
  h H1 e _ fun H2 e2 => h2 H2 (e.trans e2) _ fun H3 e3 => ⟨a, (k : Int), xs, rfl, rfl, ((e.trans e2).trans e3) _ _ ha, by omega, by omega, sz_of (by rw [Int.toNat_natCast]; omega), fun p hp => q p _ (fresh_back (e2.trans e3) hp) ((e2.trans e3).trans (Ex.new hp)) (by rw [Int.toNat_natCast]; exact upd_same)⟩
theorem elr_sorted {a : Addr} {ns : List Int} (up : Up R) (h : Ev te σ H (.ref a)) (ha : H a = some (.lst (ns.map V.int))) (hx : ∀ x ∈ ns.map V.int, R (hide s H) x) : EvLR s R (tCB (rSortedI K) (tCons te tNil)) σ H ns.length ns.length := fun H1 e Q q =>
  h H1 e _ fun H2 e2 => ⟨a, ns, rfl, sq_of ((e.trans e2) _ _ ha), fun ns' b pm pw hb => q b (ns'.map V.int) _ (fresh_back e2 hb) (e2.trans (Ex.new hb)) upd_same (by rw [List.length_map, pm.length_eq]; exact Nat.le_refl _) (by rw [List.length_map, pm.length_eq]; exact Nat.le_refl _) fun x hx' => up _ _ _ (hide_ex ((e.trans e2).trans (Ex.new hb))) (hx x ((pm.map V.int).mem_iff.mp hx'))⟩
theorem er_imp' (h : EvR s R te σ H) (f : ∀ G v, R G v → R' G v) : EvR s R' te σ H := fun H1 e Q q => h H1 e Q fun v H2 e2 r => q v H2 e2 (f _ _ r)
/-- displays whose last item is drawn -/
def Dra (s : Addr) (R : Hp → V → Prop) (B : Nat) (t : TA) (σ : L2.St) (H : Hp) (n : Nat) : Prop := ∀ H1, Ex H H1 → ∀ Q : List V → Hp → Prop, (∀ vs H2, Drew s B H1 H2 → vs.length = n → (∀ v ∈ vs, R (hide s H2) v) → Q vs H2) → t σ H1 Q
theorem dra_cons (up : Up R) (h : EvR s R te σ H) (hr : Dra s R B tr σ H n) : Dra s R B (tCons te tr) σ H (n + 1) := fun H1 e Q q =>
  h H1 e _ fun v H2 e2 r => hr H2 (e.trans e2) _ fun vs H3 d hn hv => q (v :: vs) H3 ⟨(Same.hide (same_ex e2)).trans d.kept, d.src⟩ (by rw [List.length_cons, hn]) fun x hx => by
    rcases List.mem_cons.mp hx with rfl | hx
    · exact up _ _ _ d.kept r
    · exact hv x hx
theorem q_te {i : Nat} {te : TE} {tz : TS} {D : Ends} {σ : L2.St} {H : Hp} (h : te σ H fun v H' => tz D (σ.set i (some v)) H') : tSeq (tAsg te (gName i)) tz D σ H := h
theorem er_newP {xs : List V} (hs : ∃ o, H s = some o) (hp : ∀ b ∈ p, ∃ o, H b = some o) (h : EvL te σ H xs) (f : ∀ q G, G q = some (.lst xs) → R' G (.ref q)) : EvR s (Hd p R') te σ H := fun H1 e Q q =>
  h H1 e _ fun a H2 ha e2 h2 => q (.ref a) H2 e2 (f a _ (by
    rw [hide2_at (new_apart (by obtain ⟨o, ho⟩ := hs; exact ⟨o, e _ _ ho⟩) ha) (new_out (olds hp (e)) ha)]
    exact h2))
theorem er_newTP {xs : List V} (hs : ∃ o, H s = some o) (hp : ∀ b ∈ p, ∃ o, H b = some o) (h : EvU te σ H xs) (f : ∀ q G, G q = some (.tup xs) → R' G (.ref q)) : EvR s (Hd p R') te σ H := fun H1 e Q q =>
  h H1 e _ fun a H2 ha e2 h2 => q (.ref a) H2 e2 (f a _ (by
    rw [hide2_at (new_apart (by obtain ⟨o, ho⟩ := hs; exact ⟨o, e _ _ ho⟩) ha) (new_out (olds hp (e)) ha)]
    exact h2))
theorem q_lstD {Q : VK} (up : Up R) (hd : ∀ H1, Drew s B H H1 → ∃ o, H1 s = some o) (h : Dra s R B tl σ H n) (hn : n ≤ 1000) (k : ∀ a H1, Drew s B H H1 → LsR s R H1 a n n → Q (.ref a) H1) : tLst tl σ H Q :=
  h H (Ex.refl H) _ fun vs H1 d hl hv => ⟨by rw [hl]; exact sz_of (by omega), fun a ha => k a _ (d.ex (Ex.new ha)) ⟨new_apart (hd H1 d) ha, vs, upd_same, by omega, by omega, fun x hx => up _ _ _ (hide_ex (Ex.new ha)) (hv x hx)⟩⟩
/-- a comprehension of a new object for each item -/
theorem lc_new {a : Addr} {xs : List V} {j : Nat} {obj : Nat → HO} {Q : VK} (hv0 : Ev ta σ H (.ref a)) (hL : H a = some (.lst xs)) (hl : xs.length ≤ 1000)
    (hw : ∀ x, wipe ((wipe σ [j]).set j (some x)) [j] = wipe σ [j])
    (hte : ∀ i x Hh, xs[i]? = some x → Ex H Hh → ∀ Q' : VK, (∀ b H', Hh b = none → Ex Hh H' → H' b = some (obj i) → Q' (.ref b) H') → te ((wipe σ [j]).set j (some x)) Hh Q')
    (q : ∀ D H' (bs : List Addr), H D = none → Ex H H' → H' D = some (.lst (bs.map V.ref)) → bs.length = xs.length → (∀ i c, bs[i]? = some c → H' c = some (obj i) ∧ c ≠ D ∧ H c = none) → Q (.ref D) H') : tLc (iList K ta) (gName j) tYes te [j] σ H Q := by
  refine hv0 H (Ex.refl H) _ fun H0 e0 => ?_
  refine ⟨a, rfl, ⟨_, sq_of (e0 _ _ hL)⟩, fun D hD0 => ?_⟩
  have hD := fresh_back e0 hD0
  refine lc_list (xs := xs) (fun i Hh => Ex H Hh ∧ ∃ bs : List Addr, Hh D = some (.lst (bs.map V.ref)) ∧ bs.length = i ∧ ∀ k c, bs[k]? = some c → Hh c = some (obj k) ∧ c ≠ D ∧ H c = none) ⟨e0.trans (Ex.new hD0), [], upd_same, rfl, fun k c h => by simp at h⟩ (fun i H' _ p => sq_of (p.1 _ _ hL)) ?_ ?_
  · rintro i x Hh hx ⟨x1, bs, hrs, bl, hb⟩
    have il : i < xs.length := (List.getElem?_eq_some_iff.mp hx).1
    refine ⟨hw _, ?_⟩
    dsimp only [tYes]
    rw [if_pos rfl]
    refine hte i x Hh hx x1 _ fun b H2 hb0 xb h2 => ?_
    have nb : b ≠ D := fun e => by
      rw [e, hrs] at hb0
      cases hb0
    refine ⟨bs.map V.ref, xb _ _ hrs, sz_lt (by rw [List.length_map, bl]; omega), (x1.trans xb).mut hD, bs ++ [b], ?_, ?_, fun k c hc => ?_⟩
    · rw [upd_same, List.map_append]
      rfl
    · rw [List.length_append, bl]
      rfl
    · by_cases kl : k < bs.length
      · rw [List.getElem?_append_left kl] at hc
        obtain ⟨h3, h4, h5⟩ := hb k c hc
        exact ⟨by rw [upd_ne h4]; exact xb _ _ h3, h4, h5⟩
      · have hk : k - bs.length < [b].length := by
          have := (List.getElem?_eq_some_iff.mp hc).1
          rw [List.length_append] at this
          omega
        have ek : k = i := by
          have : [b].length = 1 := rfl
          omega
        rw [List.getElem?_append_right (by omega), ek, bl, Nat.sub_self] at hc
        cases hc
        rw [ek]
        exact ⟨by rw [upd_ne nb]; exact h2, nb, fresh_back x1 hb0⟩
  · rintro Hh ⟨x1, bs, hrs, bl, hb⟩
    exact q D Hh bs hD x1 hrs bl hb
end
end K11
namespace K11
open PySem PySem.Spec PyProof.Rows L2 Os Evl
abbrev sChanged : Stmt := topS 24
theorem scChanged : FnScope ["source", "graph", "perms", "row", "rows", "at", "odd", "spot", "forms", "wholes"] ["source", "graph", "perms"] (defScope sChanged) := ⟨rfl, rfl, rfl, by decide +kernel, rfl, by decide +kernel, by decide +kernel⟩
abbrev tLO (K : PySem.W.Frag) (te : TE) : TE := tCB (fun xs H Q => ∃ p ys, xs = [V.ref p] ∧ (SqL K H p ys ∨ SqT K H p ys) ∧ ∀ l, H l = none → Q (.ref l) (upd H l (.lst ys))) (tCons te tNil)
section
variable {P : Program} {w : World} {K : PySem.W.Frag} {mg : Str → Option Value} {base : Heap}
def spChanged : Sp := fun vs H Q _ => ∃ (s L D : Addr) (v : V) (as : List Addr) (n B : Nat) (es : List Pr) (tn : Nat → List Nat), vs = [.ref s, v, .ref L] ∧ Src H s B ∧ B ≤ 700000 ∧ GraphV (hide s H) v n es ∧ IsForest n es ∧
  hide s H L = some (.lst (as.map V.ref)) ∧ as.length = n ∧ (∀ i c, as[i]? = some c → hide s H c = some (.lst (nats (tn i)))) ∧ (∀ i, (tn i).length ≤ 40 ∧ ∀ x ∈ tn i, x < 64) ∧ (∃ o, H D = some o) ∧ D ≠ s ∧
  ∀ (H' : Hp) (v : V), Drew s (B + 6) H H' → Hd [D] ValV (hide s H') v → Q v H'
theorem ok_changed {f fP : Addr} {fd fdP : FuncData} {k : Nat} (F : Fun K "_law_changed" "_law_changed" sChanged f fd) (GP : FnOk P w K mg base CX0 k fP fdP ["source", "wide"] spPick) (FP : Fun K "_law_pick" "_law_pick" sPick fP fdP) (bP : Binds K fdP ["source", "wide"] [])
    (gP : mg "_law_pick" = some (.ref fP)) (mList : mg "list" = none) (mLen : mg "len" = none) (mTup : mg "tuple" = none) (mSorted : mg "sorted" = none) : FnOk P w K mg base CX0 (k + 1) f fd ["source", "graph", "perms"] spChanged := by
  refine F.ok scChanged (fun vs H Q E h => ?_) (fun cdv A outer st H vs Q E hr h => ?_)
  · obtain ⟨s, L, D, v, as, n, B, es, tn, rfl, _⟩ := h
    rfl
  · obtain ⟨s, L, D, v, as, n, B, es, tn, rfl, hS, hB, hg, ok, hL, al, has, small, ⟨oD, hD⟩, nDs, q⟩ := h
    refine ⟨_, (pss_cons (ps_setLc (i := 4) (own := [("row", 3)]) (g := gName 3) (tt := tYes) (te := tLO K (tVar 3)) rfl scChanged.nd rfl rfl (sw_true rfl rfl rfl (by decide +kernel)) (pi_list (pv 2)) (blkOk_by (N := ["source", "graph", "perms", "row", "rows", "at", "odd", "spot", "forms", "wholes"]) (sc := defScope sChanged) (by decide +kernel)) (fun _ _ _ _ _ => pg_name (i := 3) scChanged.nd rfl (Or.inl rfl)) (fun _ _ _ _ _ => pts_nil) (fun _ _ _ _ _ => pe_callTy call_list_of (by rfl) mList boot_list (pa_cons (pv 3) pa_nil)))
      (pss_cons (ps_set (i := 5) scChanged.nd rfl (.inl rfl) (pe_call GP hr (by rfl) gP FP.kp bP .nil pass0 (pa_cons (pv 0) (pa_cons (pe_callB call_len_seq (by rfl) mLen boot_len (pa_cons (pv 4) pa_nil)) pa_nil))))
      (pss_cons (ps_set (i := 3) scChanged.nd rfl (.inl rfl) (pe_ix ix_list (pv 4) (pv 5) (fun _ _ => rfl)))
      (pss_cons (ps_set (i := 6) scChanged.nd rfl (.inl rfl) (pe_lst (pa_cons pe_non (pa_cons pe_bl (pa_cons pe_bl (pa_cons (pe_un un_neg pe_int) (pa_cons (pe_ix ix_tup (pv 1) pe_int (fun _ _ => rfl)) (pa_cons (pv 5) (pa_cons pe_str (pa_cons (pe_lst (pa_cons pe_int pa_nil)) (pa_cons (pe_tup (pa_cons pe_int pa_nil)) (pa_cons (pe_op op_powW pe_int pe_int) (pa_cons (pe_call GP hr (by rfl) gP FP.kp bP .nil pass0 (pa_cons (pv 0) (pa_cons (pe_ix ix_tup (pv 1) pe_int (fun _ _ => rfl)) pa_nil))) pa_nil)))))))))))))
      (pss_cons (ps_set (i := 6) scChanged.nd rfl (.inl rfl) (pe_ix ix_list (pv 6) (pe_call GP hr (by rfl) gP FP.kp bP .nil pass0 (pa_cons (pv 0) (pa_cons pe_int pa_nil))) (fun _ _ => rfl)))
      (pss_cons (ps_set (i := 7) scChanged.nd rfl (.inl rfl) (pe_call GP hr (by rfl) gP FP.kp bP .nil pass0 (pa_cons (pv 0) (pa_cons (pe_op op_add (pe_callB call_len_seq (by rfl) mLen boot_len (pa_cons (pv 3) pa_nil)) pe_int) pa_nil))))
      (pss_cons (ps_set (i := 8) scChanged.nd rfl (.inl rfl) (pe_lst (pa_cons (pe_op op_cat (pe_op op_cat (pe_slice sl_list (pv 3) po_none (po_some (pv 7))) (pe_lst (pa_cons (pv 6) pa_nil))) (pe_slice sl_list (pv 3) (po_some (pv 7)) po_none)) (pa_cons (pe_op op_cat (pe_slice sl_list (pv 3) po_none (po_some (pv 7))) (pe_slice sl_list (pv 3) (po_some (pe_op op_add (pv 7) pe_int)) po_none)) (pa_cons (pe_op op_cat (pe_op op_cat (pe_slice sl_list (pv 3) po_none (po_some (pv 7))) (pe_lst (pa_cons (pv 6) pa_nil))) (pe_slice sl_list (pv 3) (po_some (pe_op op_add (pv 7) pe_int)) po_none)) pa_nil)))))
      (pss_cons (ps_set (i := 8) scChanged.nd rfl (.inl rfl) (pe_op op_cat (pv 8) (pe_lst (pa_cons (pe_revL (pv 3)) (pa_cons (pe_callTy call_tuple_of (by rfl) mTup boot_tuple (pa_cons (pv 3) pa_nil)) (pa_cons (pe_op op_rep (pv 3) pe_int) (pa_cons (pv 6) (pa_cons (pe_callB cr_sortedI (by rfl) mSorted boot_sorted (pa_cons (pv 3) pa_nil)) pa_nil))))))))
      (pss_cons (ps_asg (pe_ix ix_list (pv 8) (pe_call GP hr (by rfl) gP FP.kp bP .nil pass0 (pa_cons (pv 0) (pa_cons pe_int pa_nil))) (fun _ _ => rfl)) (pg_sub (pv 4) (pv 5) set_list))
      (pss_cons (ps_set (i := 9) scChanged.nd rfl (.inl rfl) (pe_lst (pa_cons (pv 4) (pa_cons (pv 4) (pa_cons (pv 4) (pa_cons (pe_slice sl_list (pv 4) po_none (po_some (pe_un un_neg pe_int))) (pa_cons (pe_op op_cat (pv 4) (pe_lst (pa_cons (pe_lst pa_nil) pa_nil))) (pa_cons (pe_callTy call_tuple_of (by rfl) mTup boot_tuple (pa_cons (pv 4) pa_nil)) (pa_cons (pe_revL (pv 4)) (pa_cons (pe_op op_cat (pe_slice sl_list (pv 4) po_none (po_some (pe_op op_add (pv 5) pe_int))) (pe_slice sl_list (pv 4) (po_some (pv 5)) po_none)) pa_nil))))))))))
      (pss_one (ps_ret (pe_ix ix_list (pv 9) (pe_call GP hr (by rfl) gP FP.kp bP .nil pass0 (pa_cons (pv 0) (pa_cons pe_int pa_nil))) (fun _ _ => rfl)))))))))))))), ?_⟩
    have src0 := hS.at
    have n40 := ok.n40
    have n1 := ok.n1
    obtain ⟨nLs, hL0⟩ := hide_of hL
    have asl : (as.map V.ref).length = n := by rw [List.length_map, al]
    -- rows
    refine q_te (lc_new (j := 3) (a := L) (xs := as.map V.ref) (obj := fun i => .lst (nats (tn i))) (ev_var rfl) hL0 (by omega) (fun _ => rfl) (fun i x Hh hx xh Q' q' => ?_) (fun p H1 bs hp e1 h1 bl hb => ?_))
    · rw [List.getElem?_map] at hx
      cases hai : as[i]? with
      | none => rw [hai] at hx; cases hx
      | some c =>
        rw [hai] at hx
        cases hx
        exact ⟨.ref c, rfl, c, nats (tn i), rfl, .inl (sq_of (xh _ _ (hide_of (has i c hai)).2)), fun b hb => q' b _ hb (Ex.new hb) upd_same⟩
    have D1 : Drew s B H H1 := (Drew.refl hS).ex e1
    have np : p ≠ s := new_apart src0 hp
    have bl' : (bs.map V.ref).length = n := by rw [List.length_map, bl, asl]
    have bs_ns : ∀ {i : Nat} {c : Addr}, bs[i]? = some c → c ≠ s ∧ c ∉ [p, D] := fun h => ⟨new_apart src0 (hb _ _ h).2.2, fun z => by
      rcases List.mem_cons.mp z with z | z
      · exact (hb _ _ h).2.1 z
      · exact new_apart ⟨oD, hD⟩ (hb _ _ h).2.2 (List.mem_singleton.mp z)⟩
    have pD : ∀ {G : Hp}, G p = some (.lst (bs.map V.ref)) → G D = some oD → ∀ b ∈ [p, D], ∃ o, G b = some o := fun h1 h2 b z => by
      rcases List.mem_cons.mp z with z | z
      · exact ⟨_, z ▸ h1⟩
      · exact ⟨_, (List.mem_singleton.mp z) ▸ h2⟩
    -- at
    refine ⟨.ref s, rfl, .ref p, rfl, p, bs.map V.ref, rfl, .inl (sq_of h1), ?_⟩
    refine ⟨s, ((bs.map V.ref).length : Int), B, rfl, D1.src, by omega, by omega, by omega, fun H2 r d2 r0 r1 => ?_⟩
    obtain ⟨t, rfl⟩ : ∃ t : Nat, r = (t : Int) := ⟨r.toNat, by omega⟩
    have tl : t < n := by omega
    have D2 := D1.trans d2
    have h1b := d2.get np h1
    obtain ⟨c, hct⟩ : ∃ c, bs[t]? = some c := ⟨_, List.getElem?_eq_getElem (by rw [List.length_map] at bl'; omega)⟩
    obtain ⟨ncs, ncp⟩ := bs_ns hct
    have hc1 := (hb t c hct).1
    -- row
    refine q_asg (v := .ref c) (ev_op (ev_var rfl) (ev_var rfl) (rv_ixL (sq_of h1b) (atI_nat (by rw [List.getElem?_map, hct]; rfl)))) fun H3 e3 => ?_
    have D3 := D2.ex e3
    have s2 := D3.src.at
    have hD3 := D3.get nDs hD
    have p2 := pD (e3 _ _ h1b) hD3
    have hgB := hg.ex D3.kept
    obtain ⟨g, a, xs, rfl, h2g, _, _⟩ := hgB
    have h2b := (hide_of h2g).2
    have cube_ok2 : (0 : Int) ≤ 59 ∧ (Builtin.Int.intBits 10 : Int) * 59 ≤ 2 ^ 27 := by
      decide +kernel
    -- odd
    have lastOne : Dra s (Hd [p, D] It0) (B + 1 + 1) (tCons (tCall spPick [] E0 (tCons (tVar 0) (tCons (tOp (rIxT K) (tVar 1) (tC (.int 0))) tNil))) tNil) [some (.ref s), some (.ref g), some (.ref L), some (.ref c), some (.ref p), some (.int (t : Int)), none, none, none, none] H3 1 := fun G1 f1 Q' q' =>
      ⟨.ref s, rfl, .ref g, rfl, g, _, 0, .int (n : Int), rfl, rfl, st_of (f1 _ _ h2b), atI_nat (j := 0) rfl, s, (n : Int), B + 1, rfl, D3.src.ex f1, by omega, by omega, by omega, fun G2 r2 d2 r20 r21 => q' [.int r2] G2 d2 rfl fun x hx => by
        rw [List.mem_singleton.mp hx]
        obtain ⟨i2, rfl⟩ : ∃ i : Nat, r2 = (i : Int) := ⟨r2.toNat, by omega⟩
        exact it0_nat (by omega)⟩
    refine q_te (q_lstD (s := s) (R := Hd [p, D] It0) (B := B + 1 + 1) (n := 11) (hd_up it0_up) (fun H1 d => d.src.at) (dra_cons (hd_up it0_up) (er_of (hd_up it0_up) ev_c ⟨_, .non, Kd.non.mono (by decide) (by decide), trivial⟩)
      (dra_cons (hd_up it0_up) (er_of (hd_up it0_up) ev_c ⟨_, .bl true, (Kd.bl true).mono (by decide) (by decide), trivial⟩)
      (dra_cons (hd_up it0_up) (er_of (hd_up it0_up) ev_c ⟨_, .bl false, (Kd.bl false).mono (by decide) (by decide), trivial⟩)
      (dra_cons (hd_up it0_up) (er_of (hd_up it0_up) (ev_un ev_c ru_neg) ⟨_, .int _, Kd.neg.mono (by decide) (by decide), trivial⟩)
      (dra_cons (hd_up it0_up) (er_of (hd_up it0_up) (ev_op (ev_var rfl) ev_c (rv_ixT (st_of h2b) (atI_nat (j := 0) rfl))) (it0_nat (by omega)))
      (dra_cons (hd_up it0_up) (er_of (hd_up it0_up) (ev_var rfl) (it0_nat (by omega)))
      (dra_cons (hd_up it0_up) (er_of (hd_up it0_up) ev_c ⟨_, .str "0", (Kd.str (by decide +kernel) (by decide +kernel)).mono (by decide) (by decide), trivial⟩)
      (dra_cons (hd_up it0_up) (er_newP s2 p2 (el_lst (ea_cons ev_c ea_nil) (show 1 ≤ 100000 by decide)) (fun q G h => ⟨_, .lst h (.cons (.int 0) .nil), Kd.zeros, show 1 ≤ 1000 by decide⟩))
      (dra_cons (hd_up it0_up) (er_newTP s2 p2 (eu_tup (ea_cons ev_c ea_nil) (show 1 ≤ 100000 by decide)) (fun q G h => ⟨_, .tup h (.cons (.int 0) .nil), Kd.zeroT, trivial⟩))
      (dra_cons (hd_up it0_up) (er_of (hd_up it0_up) (ev_op ev_c ev_c (rv_I cube_ok2)) ⟨_, .int _, Kd.big.mono (by decide) (by decide), trivial⟩)
      lastOne)))))))))) (by decide) fun p4 H5 E34 L4 => ?_)
    have D4 : Drew s (B + 2) H H5 := D3.trans E34
    -- odd, one of them
    refine ⟨.ref p4, rfl, .ref s, rfl, s, 11, B + 2, rfl, D4.src, by omega, by decide, by decide, fun H6 r6 d6 r60 r61 => ?_⟩
    refine (L4.drew (hd_up it0_up) d6).pick r60 r61 fun v6 it6 => ?_
    have D6 := D4.trans d6
    have E36 := E34.trans d6
    have hc6 := E36.get ncs (e3 _ _ (d2.get ncs hc1))
    -- spot
    have row40 : (nats (tn t)).length ≤ 40 := by
      unfold nats
      rw [List.length_map]
      exact (small t).1
    refine ⟨.ref s, rfl, .ref c, rfl, c, nats (tn t), rfl, .inl (sq_of hc6), ?_⟩
    refine ⟨_, 1, rfl, rfl, s, (nats (tn t)).length + 1, B + 3, rfl, D6.src, by omega, by omega, by omega, fun H7 r7 d7 r70 r71 => ?_⟩
    have D7 := D6.trans d7
    have E37 := E36.trans d7
    have hc7 := d7.get ncs hc6
    have s7 := D7.src.at
    have p7 := pD (E37.get np (e3 _ _ h1b)) (D7.get nDs hD)
    have inIt : ∀ G x, x ∈ nats (tn t) → It0 G x := fun G x hx => by
      obtain ⟨i, hi, rfl⟩ := List.mem_map.mp hx
      exact it0_nat ((small t).2 i hi)
    replace it6 := hd_up it0_up _ _ _ d7.kept it6
    -- forms
    refine q_asgLR s7 (lo := 3) (hi := 3) (R := Hd [p, D] Row0) (elr_lst (hd_up row0_up) (ear_cons (hd_up row0_up) (er_listP (R := It0) s7 p7 (elr_cat (hd_up it0_up) (elr_cat (hd_up it0_up) (elr_of (hd_up it0_up) (el_sl (ev_var rfl) eo_none (eo_some (ev_var rfl)) (sq_of hc7)) (Nat.zero_le _) (Nat.le_trans (cutV_length _ _ _) row40) (fun x hx => inIt _ x (mem_cut hx))) (elr_lst (hd_up it0_up) (ear_cons (hd_up it0_up) (er_of (hd_up it0_up) (ev_var rfl) it6) ear_nil) (by decide)) (by decide)) (elr_of (hd_up it0_up) (el_sl (ev_var rfl) (eo_some (ev_var rfl)) eo_none (sq_of hc7)) (Nat.zero_le _) (Nat.le_trans (cutV_length _ _ _) row40) (fun x hx => inIt _ x (mem_cut hx))) (by decide)) (fun q xs G h _ l r => row0_list h (by omega) r))
      (ear_cons (hd_up row0_up) (er_listP (R := It0) s7 p7 (elr_cat (hd_up it0_up) (elr_of (hd_up it0_up) (el_sl (ev_var rfl) eo_none (eo_some (ev_var rfl)) (sq_of hc7)) (Nat.zero_le _) (Nat.le_trans (cutV_length _ _ _) row40) (fun x hx => inIt _ x (mem_cut hx))) (elr_of (hd_up it0_up) (el_sl (ev_var rfl) (eo_some (ev_op (ev_var rfl) ev_c rv_I0)) eo_none (sq_of hc7)) (Nat.zero_le _) (Nat.le_trans (cutV_length _ _ _) row40) (fun x hx => inIt _ x (mem_cut hx))) (by decide)) (fun q xs G h _ l r => row0_list h (by omega) r))
      (ear_cons (hd_up row0_up) (er_listP (R := It0) s7 p7 (elr_cat (hd_up it0_up) (elr_cat (hd_up it0_up) (elr_of (hd_up it0_up) (el_sl (ev_var rfl) eo_none (eo_some (ev_var rfl)) (sq_of hc7)) (Nat.zero_le _) (Nat.le_trans (cutV_length _ _ _) row40) (fun x hx => inIt _ x (mem_cut hx))) (elr_lst (hd_up it0_up) (ear_cons (hd_up it0_up) (er_of (hd_up it0_up) (ev_var rfl) it6) ear_nil) (by decide)) (by decide)) (elr_of (hd_up it0_up) (el_sl (ev_var rfl) (eo_some (ev_op (ev_var rfl) ev_c rv_I0)) eo_none (sq_of hc7)) (Nat.zero_le _) (Nat.le_trans (cutV_length _ _ _) row40) (fun x hx => inIt _ x (mem_cut hx))) (by decide)) (fun q xs G h _ l r => row0_list h (by omega) r))
      ear_nil))) (by decide)) fun p8 H8 hp8 e8 L8 => ?_
    have hc8 := e8 _ _ hc7
    have s8 := (D7.src.ex e8).at
    have q8 := olds p7 e8
    have it8 := hd_up it0_up _ _ _ (hide_ex e8) it6
    have rep80 : (List.replicate 2 (nats (tn t))).flatten.length ≤ 81 := by
      show (nats (tn t) ++ (nats (tn t) ++ [])).length ≤ 81
      rw [List.append_nil, List.length_append]
      omega
    have repIn : ∀ x, x ∈ (List.replicate 2 (nats (tn t))).flatten → x ∈ nats (tn t) := fun x hx => by
      have hx : x ∈ nats (tn t) ++ (nats (tn t) ++ []) := hx
      rw [List.append_nil] at hx
      rcases List.mem_append.mp hx with h | h
      · exact h
      · exact h
    refine q_asgLR s8 (lo := 3 + 5) (hi := 3 + 5) (R := Hd [p, D] Row0) (elr_catV (hd_up row0_up) (ev_var rfl) L8 (elr_lst (hd_up row0_up) (ear_cons (hd_up row0_up) (er_listP (R := It0) s8 q8 (elr_of (lo := 0) (hi := 40) (hd_up it0_up) (el_rev (ev_var rfl) (sq_of hc8)) (Nat.zero_le _) (by rw [List.length_reverse]; exact row40) (fun x hx => inIt _ x (List.mem_reverse.mp hx))) (fun q xs G h _ l r => row0_list h (by omega) r))
      (ear_cons (hd_up row0_up) (er_tofP s8 q8 (ev_var rfl) hc8 (fun q G h => row0_tup h (by omega) (fun x hx => inIt G x hx)))
      (ear_cons (hd_up row0_up) (er_listP (R := It0) s8 q8 (elr_of (lo := 0) (hi := 81) (hd_up it0_up) (el_rep (k := 2) (ev_var rfl) hc8 ev_c (by decide) (by omega)) (Nat.zero_le _) rep80 (fun x hx => inIt _ x (repIn x hx))) (fun q xs G h _ l r => row0_list h (by omega) r))
      (ear_cons (hd_up row0_up) (er_imp' (er_of (hd_up it0_up) (ev_var rfl) it8) (fun G v h => it0_row h))
      (ear_cons (hd_up row0_up) (er_listP (R := It0) s8 q8 (elr_sorted (ns := (tn t).map fun x : Nat => (x : Int)) (hd_up it0_up) (ev_var rfl) (by rw [nats_ints]; exact hc8) (fun x hx => inIt _ x (by rw [nats_ints] at hx; exact hx))) (fun q xs G h _ l r => row0_list h (by rw [List.length_map] at l; have := (small t).1; omega) r))
      ear_nil))))) (by decide)) (by decide)) fun p9 H9 hp9 e9 L9 => ?_
    have D9 := (D7.ex e8).ex e9
    have E39 := (E37.ex e8).ex e9
    -- rows[at] = ..
    refine ⟨.ref p9, rfl, .ref s, rfl, s, 8, B + 4, rfl, D9.src, by omega, by decide, by decide, fun H10 r10 d10 r100 r101 => ?_⟩
    refine (L9.drew (hd_up row0_up) d10).pick r100 r101 fun v10 row10 => ?_
    have D10 := D9.trans d10
    have E310 := E39.trans d10
    have hp10 := E310.get np (e3 _ _ h1b)
    refine ⟨.ref p, rfl, .int (t : Int), rfl, p, bs.map V.ref, (t : Int), t, rfl, rfl, hp10, ixN_nat (by omega), ?_⟩
    have D11 : Drew s (B + 5) H (upd H10 p (.lst ((bs.map V.ref).set t v10))) := D10.mut src0 hp
    have hp11 : upd H10 p (.lst ((bs.map V.ref).set t v10)) p = some (.lst ((bs.map V.ref).set t v10)) := upd_same
    have l40 : ((bs.map V.ref).set t v10).length ≤ 40 := by
      rw [List.length_set]
      omega
    have ln : ((bs.map V.ref).set t v10).length = n := by rw [List.length_set, bl']
    have rowsIn : ∀ x, x ∈ (bs.map V.ref).set t v10 → Hd [p, D] Row0 (hide s (upd H10 p (.lst ((bs.map V.ref).set t v10)))) x := fun x hx => by
      show Row0 (hides [p, D] (hide s (upd H10 p (.lst ((bs.map V.ref).set t v10))))) x
      rw [hide_upd2 List.mem_cons_self]
      rcases List.mem_or_eq_of_mem_set hx with h | rfl
      · obtain ⟨b, hb1, rfl⟩ := List.mem_map.mp h
        obtain ⟨i, hi⟩ := List.mem_iff_getElem?.mp hb1
        obtain ⟨nbs, nbp⟩ := bs_ns hi
        have hbi := E310.get nbs (e3 _ _ (d2.get nbs (hb i b hi).1))
        refine row0_list (xs := nats (tn i)) (by rw [hide2_at nbs nbp]; exact hbi) ?_ fun y hy => ?_
        · unfold nats
          rw [List.length_map]
          exact Nat.le_trans (small i).1 (by decide)
        · obtain ⟨j, hj, rfl⟩ := List.mem_map.mp hy
          exact it0_nat ((small i).2 j hj)
      · exact row10
    dsimp only
    generalize upd H10 p (.lst ((bs.map V.ref).set t v10)) = H11 at *
    generalize (bs.map V.ref).set t v10 = ws at *
    have s11 := D11.src.at
    have hD11 := D11.get nDs hD
    have npD : p ≠ D := new_apart ⟨oD, hD⟩ hp
    have p11 : ∀ b ∈ [D], ∃ o, H11 b = some o := fun b z => ⟨_, (List.mem_singleton.mp z) ▸ hD11⟩
    have less : ∀ {G : Hp} {x : V}, Hd [p, D] Row0 G x → Hd [D] Row0 G x := fun {G x} h => by
      obtain ⟨d, h1, h2⟩ := h
      refine ⟨d, h1.same fun b o hb => ?_, h2⟩
      unfold hides at hb ⊢
      split at hb
      · cases hb
      · rename_i hn
        rw [if_neg fun z => hn (List.mem_cons_of_mem _ z)]
        exact hb
    replace rowsIn : ∀ x, x ∈ ws → Hd [D] Row0 (hide s H11) x := fun x hx => less (rowsIn x hx)
    have rowsVal : Hd [D] ValV (hide s H11) (.ref p) := val_list (by rw [hide2_at np (fun z => npD (List.mem_singleton.mp z))]; exact hp11) (by omega) rowsIn
    have rows11 : LsR s (Hd [D] Row0) H11 p n n := ⟨np, ws, hp11, by omega, by omega, rowsIn⟩
    have emptyRow : ∀ {σ : L2.St}, EvR s (Hd [D] Row0) (tLst tNil) σ H11 := fun {σ} => er_newP (xs := []) s11 p11 (el_lst ea_nil (show 0 ≤ 100000 by decide)) (fun q G h => row0_list h (by decide) (fun x hx => nomatch hx))
    refine q_asgLR s11 (lo := 8) (hi := 8) (R := Hd [D] ValV) (elr_lst (hd_up val_up) (ear_cons (hd_up val_up) (er_of (hd_up val_up) (ev_var rfl) rowsVal)
      (ear_cons (hd_up val_up) (er_of (hd_up val_up) (ev_var rfl) rowsVal)
      (ear_cons (hd_up val_up) (er_of (hd_up val_up) (ev_var rfl) rowsVal)
      (ear_cons (hd_up val_up) (er_listP (R := Row0) s11 p11 (elr_of (hd_up row0_up) (el_sl (ev_var rfl) eo_none (eo_some (ev_un ev_c ru_neg)) (sq_of hp11)) (Nat.zero_le _) (Nat.le_trans (cutV_length _ _ _) l40) (fun x hx => rowsIn x (mem_cut hx))) (fun q xs G h _ l r => val_list h (by omega) r))
      (ear_cons (hd_up val_up) (er_listP (R := Row0) s11 p11 (elr_catV (lo := n) (hi := n) (hd_up row0_up) (ev_var rfl) rows11 (elr_lst (hd_up row0_up) (n := 1) (ear_cons (hd_up row0_up) emptyRow ear_nil) (by decide)) (by omega)) (fun q xs G h _ l r => val_list h (by omega) r))
      (ear_cons (hd_up val_up) (er_tofR row0_up s11 p11 (ev_var rfl) hp11 rowsIn (fun q G h r => val_tup h (by omega) r))
      (ear_cons (hd_up val_up) (er_listP (R := Row0) s11 p11 (elr_of (lo := 0) (hi := 40) (hd_up row0_up) (el_rev (ev_var rfl) (sq_of hp11)) (Nat.zero_le _) (by rw [List.length_reverse]; exact l40) (fun x hx => rowsIn x (List.mem_reverse.mp hx))) (fun q xs G h _ l r => val_list h (by omega) r))
      (ear_cons (hd_up val_up) (er_listP (R := Row0) s11 p11 (elr_cat (hd_up row0_up) (elr_of (hd_up row0_up) (el_sl (ev_var rfl) eo_none (eo_some (ev_op (ev_var rfl) ev_c rv_I0)) (sq_of hp11)) (Nat.zero_le _) (Nat.le_trans (cutV_length _ _ _) l40) (fun x hx => rowsIn x (mem_cut hx))) (elr_of (hd_up row0_up) (el_sl (ev_var rfl) (eo_some (ev_var rfl)) eo_none (sq_of hp11)) (Nat.zero_le _) (Nat.le_trans (cutV_length _ _ _) l40) (fun x hx => rowsIn x (mem_cut hx))) (by decide)) (fun q xs G h _ l r => val_list h (by omega) r))
      ear_nil)))))))) (by decide)) fun p12 H12 hp12 e12 L12 => ?_
    have D12 := D11.ex e12
    refine ⟨.ref p12, rfl, .ref s, rfl, s, 8, B + 5, rfl, D12.src, by omega, by decide, by decide, fun H13 r13 d13 r130 r131 => ?_⟩
    exact (L12.drew (hd_up val_up) d13).pick r130 r131 fun v13 g13 => q H13 v13 (D12.trans d13) g13
end
end K11
namespace K11
open PySem PySem.Spec PyProof.Rows L2 Os Evl
abbrev sLaw : Stmt := topS 25
theorem scLaw : FnScope ["script", "deep", "k", "source", "graph", "perms", "values", "kept", "value", "due", "three", "told", "row", "turn"] ["script"] (defScope sLaw) := ⟨rfl, rfl, rfl, by decide +kernel, rfl, by decide +kernel, by decide +kernel⟩
abbrev tTO (K : PySem.W.Frag) (te : TE) : TE := tCB (fun xs H Q => ∃ p ys, xs = [V.ref p] ∧ ((SqL K H p ys ∧ ∀ l, H l = none → Q (.ref l) (upd H l (.tup ys))) ∨ (SqT K H p ys ∧ Q (.ref p) H))) (tCons te tNil)
abbrev tCh : TE := tCall spChanged [] E0 (tCons (tVar 3) (tCons (tVar 4) (tCons (tVar 5) tNil)))
theorem ev_callK {sp : Sp} {gV : List V → List V → List V} {E : XK} {tk : TA} {zs : List V} {σ : L2.St} {H : Hp} {z : V} (h : EvA tk σ H zs) (hs : ∀ H1, Ex H H1 → ∀ Q : VK, (∀ H2, Ex H1 H2 → Q z H2) → sp (gV [] zs) H1 Q E) : Ev (tCallK sp gV E tNil tk) σ H z := fun H1 e Q q =>
  h H1 e _ fun H2 e2 => hs H2 (e.trans e2) Q fun H3 e3 => q H3 (e2.trans e3)
theorem bools_fit : ∀ b : Bool, Fit sizeLine (.list [.bool b, .bool b])
  | true => ⟨by decide +kernel, by decide, by decide, by decide⟩
  | false => ⟨by decide +kernel, by decide, by decide, by decide⟩
def dpD : Nat → PyData
  | 0 => .list []
  | i + 1 => .list [dpD i]
theorem dpD_good : Kd 420000 20 (dpD 18) := ⟨⟨by decide +kernel, by decide +kernel, by decide +kernel, by decide +kernel⟩, by decide +kernel⟩
theorem dpD_short : Short2 (dpD 18) := ⟨(show 1 ≤ 1000 by decide), fun d hd => by
  rw [List.mem_singleton.mp hd]
  exact (show 1 ≤ 1000 by decide)⟩
/-- what evaluates to such data -/
def EvD (te : TE) (σ : L2.St) (H : Hp) (d : PyData) : Prop := ∀ H1, Ex H H1 → ∀ Q : VK, (∀ v H2, Ex H1 H2 → Dt H2 v d → Q v H2) → te σ H1 Q
def EvAD (ta : TA) (σ : L2.St) (H : Hp) (ds : List PyData) : Prop := ∀ H1, Ex H H1 → ∀ Q : List V → Hp → Prop, (∀ vs H2, Ex H1 H2 → Dts H2 vs ds → Q vs H2) → ta σ H1 Q
section
variable {K : PySem.W.Frag} {s : Addr} {R : Hp → V → Prop} {σ : L2.St} {H H' : Hp} {ta te t1 t2 : TE} {tl : TA} {v : V} {d : PyData} {ds : List PyData}
theorem ed_of (h : Ev te σ H v) (dt : ∀ G, Ex H G → Dt G v d) : EvD te σ H d := fun H1 e Q q => h H1 e _ fun H2 e2 => q v H2 e2 (dt H2 (e.trans e2))
theorem ed_int {i : Int} : EvD (tC (.int i)) σ H (.int i) := ed_of ev_c fun _ _ => .int i
theorem ed_bl {b : Bool} : EvD (tC (.bl b)) σ H (.bool b) := ed_of ev_c fun _ _ => .bl b
theorem ead_nil : EvAD tNil σ H [] := fun H1 _ Q q => q [] H1 (Ex.refl _) .nil
theorem ead_cons (h : EvD te σ H d) (hr : EvAD tl σ H ds) : EvAD (tCons te tl) σ H (d :: ds) := fun H1 e Q q =>
  h H1 e _ fun v H2 e2 dv => hr H2 (e.trans e2) _ fun vs H3 e3 dvs => q (v :: vs) H3 (e2.trans e3) (.cons (dv.same (same_ex e3)) dvs)
theorem ed_lst (h : EvAD tl σ H ds) (hl : ds.length ≤ 1000) : EvD (tLst tl) σ H (.list ds) := fun H1 e Q q =>
  h H1 e _ fun vs H2 e2 dvs => ⟨sz_of (by rw [dvs.length]; omega), fun p hp => q (.ref p) _ (e2.trans (Ex.new hp)) (.lst upd_same (dvs.same (same_ex (Ex.new hp))))⟩
theorem ed_tup (h : EvAD tl σ H ds) (hl : ds.length ≤ 1000) : EvD (tTup tl) σ H (.tuple ds) := fun H1 e Q q =>
  h H1 e _ fun vs H2 e2 dvs => ⟨sz_of (by rw [dvs.length]; omega), fun p hp => q (.ref p) _ (e2.trans (Ex.new hp)) (.tup upd_same (dvs.same (same_ex (Ex.new hp))))⟩
theorem prs_of {G : Hp} : ∀ {es : List Pr} {xs : List V}, Dts G xs (es.map Os.prD) → PrsV G xs es
  | [], _, .nil => .nil
  | e :: es, _, .cons h t => by
    refine .cons ?_ (prs_of t)
    have h : Dt G _ (.tuple [.int (e.1 : Int), .int (e.2 : Int)]) := h
    cases h with
    | tup ha hs =>
      cases hs with
      | cons a b =>
        cases b with
        | cons b c =>
          cases a
          cases b
          cases c
          exact ⟨_, rfl, ha⟩
theorem graph_of {G : Hp} {n : Nat} {es : List Pr} (h : Dt G v (.tuple [.int (n : Int), .list (es.map Os.prD)])) : GraphV G v n es := by
  cases h with
  | tup ha hs =>
    cases hs with
    | cons a b =>
      cases b with
      | cons b c =>
        cases a
        cases b with
        | lst hb t =>
          cases c
          exact ⟨_, _, _, rfl, ha, hb, prs_of t⟩
theorem ev_ist {n : Nat} {es : List Pr} (h1 : EvD t1 σ H (.tuple [.int (n : Int), .list (es.map Os.prD)])) (ok : IsForest n es) (h2 : EvD t2 σ H d) (sh : Short2 d) : Ev (tCall spIsTurns [] E0 (tCons t1 (tCons t2 tNil))) σ H (.bl (turnsB n es d)) := fun H1 e Q q =>
  h1 H1 e _ fun g H2 e2 dg => h2 H2 (e.trans e2) _ fun v H3 e3 dv => ⟨g, v, n, es, d, rfl, graph_of (dg.same (same_ex e3)), ok, dv, sh, fun H4 e4 => q H4 ((e2.trans e3).trans e4)⟩
theorem el_repN {tb : TE} {xs : List V} {k : Nat} (h : EvL ta σ H xs) (h2 : Ev tb σ H (.int (k : Int))) (hk : k ≤ 1000) (hz : xs.length * k ≤ 100000) : EvL (tOp rRep ta tb) σ H (List.replicate k xs).flatten := fun H1 e Q q =>
  h H1 e _ fun a H2 ha e2 hx => h2 H2 (e.trans e2) _ fun H3 e3 => ⟨a, (k : Int), xs, rfl, rfl, e3 _ _ hx, by omega, by omega, sz_of (by rw [Int.toNat_natCast]; omega), fun p hp => q p _ (fresh_back (e2.trans e3) hp) ((e2.trans e3).trans (Ex.new hp)) (by rw [Int.toNat_natCast]; exact upd_same)⟩
theorem er_lcn {a : Addr} {xs : List V} {j : Nat} {obj : Nat → HO} (hs : ∃ o, H s = some o) (hv0 : Ev ta σ H (.ref a)) (hL : H a = some (.lst xs)) (hl : xs.length ≤ 1000)
    (hw : ∀ x, wipe ((wipe σ [j]).set j (some x)) [j] = wipe σ [j])
    (hte : ∀ i x Hh, xs[i]? = some x → Ex H Hh → ∀ Q' : VK, (∀ b H', Hh b = none → Ex Hh H' → H' b = some (obj i) → Q' (.ref b) H') → te ((wipe σ [j]).set j (some x)) Hh Q')
    (f : ∀ q G (bs : List Addr), G q = some (.lst (bs.map V.ref)) → bs.length = xs.length → (∀ i c, bs[i]? = some c → G c = some (obj i)) → R G (.ref q)) : EvR s R (tLc (iList K ta) (gName j) tYes te [j]) σ H := fun H1 e Q q => by
  have hs1 : ∃ o, H1 s = some o := by
    obtain ⟨o, ho⟩ := hs
    exact ⟨o, e _ _ ho⟩
  exact lc_new (hv0.mono e) (e _ _ hL) hl hw (fun i x Hh hx eh => hte i x Hh hx (e.trans eh)) fun D H' bs hD eD hH bl hb => q (.ref D) H' eD (f D _ bs (by rw [hide_ne (new_apart hs1 hD)]; exact hH) bl fun i c hc => by
    rw [hide_ne (new_apart hs1 (hb i c hc).2.2)]
    exact (hb i c hc).1)
end
theorem val_of {G : Hp} {v : V} {d : PyData} (h : Dt G v d) (k : Kd 60 0 d) (s : Short2 d) : ValV G v := ⟨d, h, k.mono (by decide) (by decide), s⟩
theorem nats_it0 {G : Hp} {l : List Nat} (h : ∀ x ∈ l, x < 64) : ∀ x ∈ nats l, It0 G x := fun x hx => by
  obtain ⟨i, hi, rfl⟩ := List.mem_map.mp hx
  exact it0_nat (h i hi)
theorem nats_len (l : List Nat) : (nats l).length = l.length := List.length_map _
theorem fit_all {n : Nat} {es : List Pr} {ds : List PyData} (ok : IsForest n es) (h : ∀ d ∈ ds, Kd 420000 20 d) (hl : ds.length ≤ 29) : Fit sizeLine (.list [.tuple [.int (n : Int), .list (es.map Os.prD)], .list ds]) := by
  have a := lim_graph ok
  have b := Lim.lst (m := 29) (fun d hd => (h d hd).lim) hl
  refine ⟨?_, ?_, ?_, ?_⟩
  · show (listText [(PyData.tuple [.int (n : Int), .list (es.map Os.prD)]).shown, (PyData.list ds).shown]).length ≤ sizeLine
    have h1 := listText_len [(PyData.tuple [.int (n : Int), .list (es.map Os.prD)]).shown, (PyData.list ds).shown]
    rw [piled_cons, piled_cons, piled_nil] at h1
    have h2 := a.long
    have h3 := b.long
    have h4 : sizeLine = 16777216 := by decide
    omega
  · show max (PyData.tuple [.int (n : Int), .list (es.map Os.prD)]).depth (max (PyData.list ds).depth 0) + 1 ≤ 40
    have h2 := a.deep
    have h3 := b.deep
    omega
  · show ((PyData.tuple [.int (n : Int), .list (es.map Os.prD)]).showable && ((PyData.list ds).showable && true)) = true
    rw [a.show', b.show']
    rfl
  · show ((PyData.tuple [.int (n : Int), .list (es.map Os.prD)]).hasDict || ((PyData.list ds).hasDict || false)) = false
    rw [a.flat, b.flat]
    rfl
def shB : PyData → Bool
  | .list ds => decide (ds.length ≤ 1000)
  | _ => true
theorem short_of {d : PyData} (h : shB d = true) : Short d := by
  cases d with
  | list ds => exact show ds.length ≤ 1000 from of_decide_eq_true h
  | _ => trivial
theorem short2_of {ds : List PyData} (h : (decide (ds.length ≤ 1000) && ds.all shB) = true) : Short2 (.list ds) := by
  rw [Bool.and_eq_true] at h
  exact ⟨of_decide_eq_true h.1, fun d hd => short_of (List.all_eq_true.mp h.2 d hd)⟩
theorem fit4 : Fit sizeLine (.list [.bool false, .bool true, .bool false, .bool true]) := ⟨by decide +kernel, by decide, by decide, by decide⟩
theorem q_asgD {i : Nat} {te : TE} {tz : TS} {D : Ends} {σ : L2.St} {H : Hp} {d : PyData} (h : EvD te σ H d) (k : ∀ v H1, Ex H H1 → Dt H1 v d → tz D (σ.set i (some v)) H1) : tSeq (tAsg te (gName i)) tz D σ H := h H (Ex.refl H) _ fun v H1 e dv => k v H1 e dv
theorem el_catV {ta tb : TE} {σ : L2.St} {H : Hp} {p : Addr} {xs ys : List V} (h1 : Ev ta σ H (.ref p)) (hp : H p = some (.lst xs)) (h2 : EvL tb σ H ys) (hl : xs.length + ys.length ≤ 100000) : EvL (tOp rCat ta tb) σ H (xs ++ ys) := fun H1 e Q q =>
  h1 H1 e _ fun H2 e2 => h2 H2 (e.trans e2) _ fun p' H3 hp' e3 hy => ⟨p, p', xs, ys, rfl, rfl, ((e.trans e2).trans e3) _ _ hp, hy, sz_of hl, fun r hr => q r _ (fresh_back (e2.trans e3) hr) ((e2.trans e3).trans (Ex.new hr)) upd_same⟩
theorem forest3 : IsForest 3 [(0, 1), (1, 2)] := ⟨⟨by decide, by decide, fun e he => by
  rcases List.mem_cons.mp he with rfl | he
  · exact ⟨fun x => decide (x = 0), by decide, by decide⟩
  · rw [List.mem_singleton.mp he]
    exact ⟨fun x => decide (x = 2), by decide, by decide⟩⟩, by decide, by decide, by decide⟩
theorem forest2 : IsForest 2 [(0, 1)] := ⟨⟨by decide, by decide, fun e he => by
  rw [List.mem_singleton.mp he]
  exact ⟨fun x => decide (x = 0), by decide, by decide⟩⟩, by decide, by decide, by decide⟩
theorem forest1 : IsForest 1 [] := ⟨⟨by decide, by decide, fun e he => nomatch he⟩, by decide, by decide, by decide⟩
section
variable {P : Program} {w : World} {K : PySem.W.Frag} {mg : Str → Option Value} {base : Heap}
def spLaw (K : PySem.W.Frag) : Sp := fun vs H Q _ => ∃ (a : Addr) (ns : List Int), vs = [.ref a] ∧ SqL K H a (ns.map V.int) ∧ ns.length ≤ 63 ∧ ∀ H', Q (.bl true) H'
theorem ok_law {f fS fR fM fC fV fI : Addr} {fd fdS fdR fdM fdC fdV fdI : FuncData} {k : Nat} (F : Fun K "law" "law" sLaw f fd)
    (GS : FnOk P w K mg base CX0 k fS fdS ["script", "k"] (spSource K)) (FS : Fun K "_law_source" "_law_source" sSource fS fdS) (bS : Binds K fdS ["script", "k"] []) (gS : mg "_law_source" = some (.ref fS))
    (GR : FnOk P w K mg base CX0 k fR fdR ["source", "most"] spGraph) (FR : Fun K "_law_graph" "_law_graph" sGraph fR fdR) (bR : Binds K fdR ["source", "most"] []) (gR : mg "_law_graph" = some (.ref fR))
    (GM : FnOk P w K mg base CX0 k fM fdM ["source", "graph"] spPerms) (FM : Fun K "_law_perms" "_law_perms" sPerms fM fdM) (bM : Binds K fdM ["source", "graph"] []) (gM : mg "_law_perms" = some (.ref fM))
    (GC : FnOk P w K mg base CX0 k fC fdC ["source", "graph", "perms"] spChanged) (FC : Fun K "_law_changed" "_law_changed" sChanged fC fdC) (bC : Binds K fdC ["source", "graph", "perms"] []) (gC : mg "_law_changed" = some (.ref fC))
    (GV : FnOk P w K mg base CX0 k fV fdV ["graph", "value"] spValid) (FV : Fun K "_law_valid" "_law_valid" sValid fV fdV) (bV : Binds K fdV ["graph", "value"] []) (gV : mg "_law_valid" = some (.ref fV))
    (GI : FnOk P w K mg base CX0 k fI fdI ["forest", "thing"] spIsTurns) (FI : Fun K "is_turns" "is_turns" sIsTurns fI fdI) (bI : Binds K fdI ["forest", "thing"] []) (kI : KBinds K fdI ["forest", "thing"] ["thing", "forest"] revG revV) (gI : mg "is_turns" = some (.ref fI))
    (mRange : mg "range" = none) (mTup : mg "tuple" = none) (mRepr : mg "repr" = none) : FnG P w K mg base (k + 1) f fd ["script"] (spLaw K) := by
  refine okG F scLaw (fun vs H Q E h => ?_) (fun cdv A outer s0 H vs Q E gd hr h => ?_)
  · obtain ⟨a, ns, rfl, _⟩ := h
    rfl
  · obtain ⟨a, ns, rfl, hS, hlen, q⟩ := h
    refine ⟨_, (pss_cons (ps_set (i := 1) scLaw.nd rfl (.inl rfl) (pe_lst pa_nil))
      (pss_cons (ps_for PassesOwn.never rfl (pi_range1 (by rfl) mRange (pa_cons pe_int pa_nil)) (pg_name (i := 2) scLaw.nd rfl (Or.inl rfl))
      (pss_one (ps_set (i := 1) scLaw.nd rfl (.inl rfl) (pe_lst (pa_cons (pv 1) pa_nil)))))
      (pss_cons (ps_for PassesOwn.never rfl (pi_range1 (by rfl) mRange (pa_cons pe_int pa_nil)) (pg_name (i := 2) scLaw.nd rfl (Or.inl rfl))
      (pss_cons (ps_set (i := 3) scLaw.nd rfl (.inr rfl) (pe_call GS hr (by rfl) gS FS.kp bS .nil pass0 (pa_cons (pv 0) (pa_cons (pv 2) pa_nil))))
      (pss_cons (ps_set (i := 4) scLaw.nd rfl (.inr rfl) (pe_call GR hr (by rfl) gR FR.kp bR .nil pass0 (pa_cons (pv 3) (pa_cons pe_int pa_nil))))
      (pss_cons (ps_set (i := 5) scLaw.nd rfl (.inr rfl) (pe_call GM hr (by rfl) gM FM.kp bM .nil pass0 (pa_cons (pv 3) (pa_cons (pv 4) pa_nil))))
      (pss_cons (ps_set (i := 6) scLaw.nd rfl (.inl rfl) (pe_lst (pa_cons pe_non (pa_cons pe_int (pa_cons pe_bl (pa_cons pe_str (pa_cons pe_str (pa_cons (pe_lst pa_nil) (pa_cons (pe_tup pa_nil) (pa_cons (pe_lst (pa_cons (pe_lst pa_nil) pa_nil)) (pa_cons (pe_lst (pa_cons (pe_lst pa_nil) (pa_cons (pe_lst pa_nil) pa_nil))) (pa_cons (pe_lst (pa_cons pe_non pa_nil)) (pa_cons (pe_lst (pa_cons (pe_lst (pa_cons pe_int pa_nil)) pa_nil)) (pa_cons (pe_lst (pa_cons (pe_lst (pa_cons (pe_lst pa_nil) pa_nil)) pa_nil)) (pa_cons (pe_lst (pa_cons (pe_tup pa_nil) pa_nil)) (pa_cons (pe_lst (pa_cons (pe_lst (pa_cons pe_str pa_nil)) pa_nil)) (pa_cons (pe_op op_rep (pe_lst (pa_cons pe_int pa_nil)) pe_int) (pa_cons (pv 1) pa_nil))))))))))))))))))
      (pss_cons (ps_set (i := 6) scLaw.nd rfl (.inl rfl) (pe_op op_cat (pv 6) (pe_lst (pa_cons (pv 5) (pa_cons (pe_callTy call_tuple_of (by rfl) mTup boot_tuple (pa_cons (pv 5) pa_nil)) (pa_cons (pe_lc (own := [("row", 12)]) (g := gName 12) (tt := tYes) (te := tTO K (tVar 12)) rfl scLaw.nd (pi_list (pv 5)) (blkOk_by (N := ["script", "deep", "k", "source", "graph", "perms", "values", "kept", "value", "due", "three", "told", "row", "turn"]) (sc := defScope sLaw) (by decide +kernel)) (fun _ _ _ _ _ => pg_name (i := 12) scLaw.nd rfl (Or.inl rfl)) (fun _ _ _ _ _ => pts_nil) (fun _ _ _ _ _ => (pe_callTy call_tuple_of (by rfl) mTup boot_tuple (pa_cons (pv 12) pa_nil)))) (pa_cons (pe_lc (own := [("row", 12)]) (g := gName 12) (tt := tYes) (te := tRevL K (tVar 12)) rfl scLaw.nd (pi_list (pv 5)) (blkOk_by (N := ["script", "deep", "k", "source", "graph", "perms", "values", "kept", "value", "due", "three", "told", "row", "turn"]) (sc := defScope sLaw) (by decide +kernel)) (fun _ _ _ _ _ => pg_name (i := 12) scLaw.nd rfl (Or.inl rfl)) (fun _ _ _ _ _ => pts_nil) (fun _ _ _ _ _ => (pe_revL (pv 12)))) pa_nil)))))))
      (pss_cons (ps_set (i := 6) scLaw.nd rfl (.inl rfl) (pe_op op_cat (pv 6) (pe_lc (own := [("turn", 13)]) (g := gName 13) (tt := tYes) (te := tCh) rfl scLaw.nd (pi_range1 (by rfl) mRange (pa_cons pe_int pa_nil)) (blkOk_by (N := ["script", "deep", "k", "source", "graph", "perms", "values", "kept", "value", "due", "three", "told", "row", "turn"]) (sc := defScope sLaw) (by decide +kernel)) (fun _ _ _ _ _ => pg_name (i := 13) scLaw.nd rfl (Or.inl rfl)) (fun _ _ _ _ _ => pts_nil) (fun _ _ _ _ _ => (pe_call GC hr (by rfl) gC FC.kp bC .nil pass0 (pa_cons (pv 3) (pa_cons (pv 4) (pa_cons (pv 5) pa_nil))))))))
      (pss_cons (ps_set (i := 7) scLaw.nd rfl (.inl rfl) (pe_callB (call_repr gd hr.units) (by rfl) mRepr boot_repr (pa_cons (pe_lst (pa_cons (pv 4) (pa_cons (pv 6) pa_nil))) pa_nil)))
      (pss_cons (ps_for PassesOwn.never rfl (pi_list (pv 6)) (pg_name (i := 8) scLaw.nd rfl (Or.inl rfl))
      (pss_cons (ps_set (i := 9) scLaw.nd rfl (.inl rfl) (pe_call GV hr (by rfl) gV FV.kp bV .nil pass0 (pa_cons (pv 4) (pa_cons (pv 8) pa_nil))))
      (pss_one (ps_if (pt_cmpR op_ne (pe_callB (call_repr gd hr.units) (by rfl) mRepr boot_repr (pa_cons (pe_lst (pa_cons (pe_call GI hr (by rfl) gI FI.kp bI .nil pass0 (pa_cons (pv 4) (pa_cons (pv 8) pa_nil))) (pa_cons (pe_callK0 GI hr (by rfl) gI FI.kp kI pass0 (pk_cons (pv 8) (pk_cons (pv 4) pk_nil))) pa_nil))) pa_nil)) (pe_callB (call_repr gd hr.units) (by rfl) mRepr boot_repr (pa_cons (pe_lst (pa_cons (pv 9) (pa_cons (pv 9) pa_nil))) pa_nil)) (nomark _)) pss_never pss_nil))))
      (pss_one (ps_if (pt_cmpR op_ne (pe_callB (call_repr gd hr.units) (by rfl) mRepr boot_repr (pa_cons (pe_lst (pa_cons (pv 4) (pa_cons (pv 6) pa_nil))) pa_nil)) (pv 7) (nomark _)) pss_never pss_nil)))))))))))
      (pss_cons (ps_set (i := 10) scLaw.nd rfl (.inl rfl) (pe_tup (pa_cons pe_int (pa_cons (pe_lst (pa_cons (pe_tup (pa_cons pe_int (pa_cons pe_int pa_nil))) (pa_cons (pe_tup (pa_cons pe_int (pa_cons pe_int pa_nil))) pa_nil))) pa_nil))))
      (pss_cons (ps_set (i := 11) scLaw.nd rfl (.inl rfl) (pe_lst (pa_cons (pe_call GI hr (by rfl) gI FI.kp bI .nil pass0 (pa_cons (pv 10) (pa_cons (pe_lst (pa_cons (pe_lst (pa_cons pe_int pa_nil)) (pa_cons (pe_lst (pa_cons pe_bl (pa_cons pe_int pa_nil))) (pa_cons (pe_lst (pa_cons pe_bl pa_nil)) pa_nil)))) pa_nil))) (pa_cons (pe_call GI hr (by rfl) gI FI.kp bI .nil pass0 (pa_cons (pv 10) (pa_cons (pe_lst (pa_cons (pe_lst (pa_cons pe_int pa_nil)) (pa_cons (pe_lst (pa_cons pe_int (pa_cons pe_int pa_nil))) (pa_cons (pe_lst (pa_cons pe_int pa_nil)) pa_nil)))) pa_nil))) pa_nil))))
      (pss_cons (ps_set (i := 11) scLaw.nd rfl (.inl rfl) (pe_op op_cat (pv 11) (pe_lst (pa_cons (pe_call GI hr (by rfl) gI FI.kp bI .nil pass0 (pa_cons (pe_tup (pa_cons pe_int (pa_cons (pe_lst (pa_cons (pe_tup (pa_cons pe_int (pa_cons pe_int pa_nil))) pa_nil)) pa_nil))) (pa_cons (pe_lst (pa_cons (pe_lst (pa_cons pe_bl pa_nil)) (pa_cons (pe_lst (pa_cons pe_bl pa_nil)) pa_nil))) pa_nil))) (pa_cons (pe_call GI hr (by rfl) gI FI.kp bI .nil pass0 (pa_cons (pe_tup (pa_cons pe_int (pa_cons (pe_lst pa_nil) pa_nil))) (pa_cons (pe_lst (pa_cons (pe_lst pa_nil) pa_nil)) pa_nil))) pa_nil)))))
      (pss_one (ps_ret (pe_cmpR op_eq (pe_callB (call_repr gd hr.units) (by rfl) mRepr boot_repr (pa_cons (pv 11) pa_nil)) (pe_callB (call_repr gd hr.units) (by rfl) mRepr boot_repr (pa_cons (pe_lst (pa_cons pe_bl (pa_cons pe_bl (pa_cons pe_bl (pa_cons pe_bl pa_nil))))) pa_nil)) (nomark _)))))))))), ?_⟩
    -- deep
    refine q_asgL (xs := []) (el_lst ea_nil (show 0 ≤ 100000 by decide)) fun p0 H0 hp0 e0 h0 => ?_
    refine q_forR1 (n := 18) (ea_cons ev_c ea_nil) ⟨by decide, by decide⟩ (fun i σ' H' => Ex H H' ∧ ∃ D y, σ' = [some (.ref a), some (.ref D), y, none, none, none, none, none, none, none, none, none, none, none] ∧ Dt H' (.ref D) (dpD i))
      (fun H2 e2 => ⟨e0.trans e2, p0, none, rfl, .lst (e2 _ _ h0) .nil⟩) ?_ ?_
    · rintro i σ' H' hi ⟨e, D, y, rfl, dt⟩
      exact s_asgL (xs := [.ref D]) (el_lst (ea_cons (ev_var rfl) ea_nil) (show 1 ≤ 100000 by decide)) fun p H2 hp e2 h2 => ⟨e.trans e2, p, _, rfl, .lst h2 (.cons (dt.same (same_ex e2)) .nil)⟩
    rintro σ' H1 ⟨e1, D, y, rfl, dt0⟩
    have dt : Dt H1 (.ref D) (dpD 18) := dt0
    clear dt0
    -- loop
    refine q_forR1 (n := 1) (ea_cons ev_c ea_nil) ⟨by decide, by decide⟩ (fun i σ' H' => Ex H1 H' ∧ ∃ y2 y3 y4 y5 y6 y7 y8 y9 y10 y11 y12 y13, σ' = [some (.ref a), some (.ref D), y2, y3, y4, y5, y6, y7, y8, y9, y10, y11, y12, y13])
      (fun H2 e2 => ⟨e2, _, _, _, _, _, _, _, _, _, _, _, _, rfl⟩) ?_ ?_
    · rintro i σ' H2 hi ⟨e2, y2, y3, y4, y5, y6, y7, y8, y9, y10, y11, y12, y13, rfl⟩
      have i1 : i < 1 := by omega
      refine ⟨.ref a, rfl, .int (i : Int), rfl, a, ns, i, rfl, ex_l (e1.trans e2) hS, by omega, fun H3 s e3 ns3 src => ?_⟩
      refine ⟨.ref s, rfl, s, 40, 0, rfl, by decide, by decide, src, by decide, fun H4 gv n es d4 hg ok => ?_⟩
      refine ⟨.ref s, rfl, gv, rfl, s, gv, n, 0 + 200, es, rfl, d4.src, by omega, hg, ok, fun H5 L as tn d5 hL hLs rw5 pm => ?_⟩
      have n40 := ok.n40
      have n1 := ok.n1
      have src4 := d4.src.at
      have s5 := d5.src.at
      have nLs : L ≠ s := new_apart src4 hL
      have E25 : Ex H2 H5 := Drew.old e3 ns3 (d4.trans d5)
      have X25 : Ex H2 (hide s H5) := fun b o h => by
        rw [hide_ne (ne_of_none h ns3)]
        exact E25 b o h
      have hg5 := hg.ex d5.kept
      have small : ∀ i, (tn i).length ≤ 40 ∧ ∀ x ∈ tn i, x < 64 := fun i => by
        have h1 := asc_len (a := 0) (n := n) (adj_asc ok.edges i) fun x hx => ⟨Nat.zero_le _, adj_in ok.edges.inn hx⟩
        refine ⟨by rw [(pm i).length_eq]; omega, fun x hx => ?_⟩
        have := adj_in ok.edges.inn ((pm i).mem_iff.mp hx)
        omega
      have al := rw5.len
      have has5 : ∀ i c, as[i]? = some c → hide s H5 c = some (.lst (nats (tn i))) := fun i c hc => by
        rw [hide_ne (new_apart src4 (rw5.new c (List.mem_of_getElem? hc)))]
        exact rw5.at' i c hc
      have hL5 : hide s H5 L = some (.lst (as.map V.ref)) := by
        rw [hide_ne nLs]
        exact hLs
      have al' : (as.map V.ref).length = n := by rw [List.length_map, al]
      have vdeep : ValV (hide s H5) (.ref D) := ⟨dpD 18, dt.same (same_ex (e2.trans X25)), dpD_good, dpD_short⟩
      have rowsIn : ∀ {G : Hp}, Ex (hide s H5) G → ∀ x, x ∈ as.map V.ref → Row0 G x := fun {G} eG x hx => by
        obtain ⟨c, hc, rfl⟩ := List.mem_map.mp hx
        obtain ⟨j, hj⟩ := List.mem_iff_getElem?.mp hc
        exact row0_list (eG _ _ (has5 j c hj)) (by rw [nats_len]; exact Nat.le_trans (small j).1 (by decide)) (nats_it0 (small j).2)
      have l40 : (as.map V.ref).length ≤ 40 := by omega
      have D5 : Drew s (200 + 2400) H5 H5 := Drew.refl d5.src
      clear d4 d5 rw5 pm hL hg
      have itnil : ∀ q xs (G : Hp), G q = some (.lst xs) → 0 ≤ xs.length → xs.length ≤ 0 → (∀ x ∈ xs, It0 G x) → It0 G (.ref q) := fun q xs G h _ l _ => by
        cases xs with
        | nil => exact ⟨_, .lst h .nil, ⟨⟨by decide +kernel, by decide, by decide, by decide⟩, by decide⟩, show 0 ≤ 1000 by decide⟩
        | cons x xs => cases l
      have zrows : ∀ x, x ∈ (List.replicate 40 [V.int 0]).flatten → Row0 (hide s H5) x := fun x hx => by
        obtain ⟨l, hl, hx⟩ := List.mem_flatten.mp hx
        rw [(List.mem_replicate.mp hl).2, List.mem_singleton] at hx
        rw [hx]
        exact it0_row (it0_nat (i := 0) (by decide))
      -- values
      refine q_asgLR s5 (lo := 16) (hi := 16) (R := ValV) (elr_lst val_up (ear_cons val_up (er_of val_up ev_c (val_of (d := .none) .non Kd.non trivial))
      (ear_cons val_up (er_of val_up ev_c (val_of (d := .int 0) (.int 0) (Kd.int (i := 0) (by decide)) trivial))
      (ear_cons val_up (er_of val_up ev_c (val_of (d := .bool true) (.bl true) (Kd.bl true) trivial))
      (ear_cons val_up (er_of val_up ev_c (val_of (d := .str "") (.str "") (Kd.str (by decide +kernel) (by decide +kernel)) trivial))
      (ear_cons val_up (er_of val_up ev_c (val_of (d := .str "01") (.str "01") (Kd.str (by decide +kernel) (by decide +kernel)) trivial))
      (ear_cons val_up (er_list (R := Row0) s5 (elr_lst row0_up (n := 0) ear_nil (by decide)) (fun q xs G h _ l r => val_list h (by omega) r))
      (ear_cons val_up (er_tup row0_up s5 (n := 0) ear_nil (by decide) (fun q xs G h l r => val_tup h (by omega) r))
      (ear_cons val_up (er_list (R := Row0) s5 (elr_lst row0_up (n := 1) (ear_cons row0_up (er_list (R := It0) s5 (elr_lst it0_up (n := 0) ear_nil (by decide)) (fun q xs G h _ l r => row0_list h (by omega) r))
      ear_nil) (by decide)) (fun q xs G h _ l r => val_list h (by omega) r))
      (ear_cons val_up (er_list (R := Row0) s5 (elr_lst row0_up (n := 2) (ear_cons row0_up (er_list (R := It0) s5 (elr_lst it0_up (n := 0) ear_nil (by decide)) (fun q xs G h _ l r => row0_list h (by omega) r))
      (ear_cons row0_up (er_list (R := It0) s5 (elr_lst it0_up (n := 0) ear_nil (by decide)) (fun q xs G h _ l r => row0_list h (by omega) r))
      ear_nil)) (by decide)) (fun q xs G h _ l r => val_list h (by omega) r))
      (ear_cons val_up (er_list (R := Row0) s5 (elr_lst row0_up (n := 1) (ear_cons row0_up (er_of row0_up ev_c (it0_row ⟨_, .non, Kd.non.mono (by decide) (by decide), trivial⟩))
      ear_nil) (by decide)) (fun q xs G h _ l r => val_list h (by omega) r))
      (ear_cons val_up (er_list (R := Row0) s5 (elr_lst row0_up (n := 1) (ear_cons row0_up (er_list (R := It0) s5 (elr_lst it0_up (n := 1) (ear_cons it0_up (er_of it0_up ev_c (it0_nat (i := 0) (by decide)))
      ear_nil) (by decide)) (fun q xs G h _ l r => row0_list h (by omega) r))
      ear_nil) (by decide)) (fun q xs G h _ l r => val_list h (by omega) r))
      (ear_cons val_up (er_list (R := Row0) s5 (elr_lst row0_up (n := 1) (ear_cons row0_up (er_list (R := It0) s5 (elr_lst it0_up (n := 1) (ear_cons it0_up (er_list (R := It0) s5 (elr_lst it0_up (n := 0) ear_nil (by decide)) itnil)
      ear_nil) (by decide)) (fun q xs G h _ l r => row0_list h (by omega) r))
      ear_nil) (by decide)) (fun q xs G h _ l r => val_list h (by omega) r))
      (ear_cons val_up (er_list (R := Row0) s5 (elr_lst row0_up (n := 1) (ear_cons row0_up (er_tup it0_up s5 (n := 0) ear_nil (by decide) (fun q xs G h l r => row0_tup h (by omega) r))
      ear_nil) (by decide)) (fun q xs G h _ l r => val_list h (by omega) r))
      (ear_cons val_up (er_list (R := Row0) s5 (elr_lst row0_up (n := 1) (ear_cons row0_up (er_list (R := It0) s5 (elr_lst it0_up (n := 1) (ear_cons it0_up (er_of it0_up ev_c ⟨_, .str "0", (Kd.str (by decide +kernel) (by decide +kernel)).mono (by decide) (by decide), trivial⟩)
      ear_nil) (by decide)) (fun q xs G h _ l r => row0_list h (by omega) r))
      ear_nil) (by decide)) (fun q xs G h _ l r => val_list h (by omega) r))
      (ear_cons val_up (er_list (R := Row0) s5 (elr_of (lo := 0) (hi := 40) row0_up (el_repN (k := 40) (el_lst (ea_cons ev_c ea_nil) (show 1 ≤ 100000 by decide)) ev_c (by decide) (show 1 * 40 ≤ 100000 by decide)) (Nat.zero_le _) (by decide +kernel) zrows) (fun q xs G h _ l r => val_list h (by omega) r))
      (ear_cons val_up (er_of val_up (ev_var rfl) vdeep)
      ear_nil)))))))))))))))) (by decide)) fun p6 H6 hp6 e6 L6 => ?_
      have D6 := D5.ex e6
      have s6 := D6.src.at
      have hL6 : H6 L = some (.lst (as.map V.ref)) := e6 _ _ hLs
      have x6 := hide_ex (s := s) e6
      have vperms : ValV (hide s H6) (.ref L) := val_list (x6 _ _ hL5) (by omega) (rowsIn x6)
      have inner : ∀ (i : Nat) (x : V) (Hh : Hp), (as.map V.ref)[i]? = some x → Ex H6 Hh → ∃ c, x = .ref c ∧ Hh c = some (.lst (nats (tn i))) := fun i x Hh hx eh => by
        rw [List.getElem?_map] at hx
        cases hai : as[i]? with
        | none => rw [hai] at hx; cases hx
        | some c =>
          rw [hai] at hx
          cases hx
          exact ⟨c, rfl, eh _ _ (e6 _ _ (hide_of (has5 i c hai)).2)⟩
      refine q_asgLR s6 (lo := 16 + 4) (hi := 16 + 4) (R := ValV) (elr_catV val_up (ev_var rfl) L6 (elr_lst val_up (ear_cons val_up (er_of val_up (ev_var rfl) vperms)
      (ear_cons val_up (er_tof row0_up s6 (ev_var rfl) hL6 (rowsIn x6) (fun q G h r => val_tup h (by omega) r))
      (ear_cons val_up (er_lcn (obj := fun i => .tup (nats (tn i))) s6 (ev_var rfl) hL6 (by omega) (fun _ => rfl) (fun i x Hh hx eh Q1 q1 => by
        obtain ⟨c, rfl, hc⟩ := inner i x Hh hx eh
        exact ⟨.ref c, rfl, c, _, rfl, .inl ⟨sq_of hc, fun b hb => q1 b _ hb (Ex.new hb) upd_same⟩⟩) (fun q G bs h bl hb => val_list h (by rw [List.length_map]; omega) (fun x hx => by
        obtain ⟨c, hc, rfl⟩ := List.mem_map.mp hx
        obtain ⟨j, hj⟩ := List.mem_iff_getElem?.mp hc
        exact row0_tup (hb j c hj) (by rw [nats_len]; exact Nat.le_trans (small j).1 (by decide)) (nats_it0 (small j).2))))
      (ear_cons val_up (er_lcn (obj := fun i => .lst (nats (tn i)).reverse) s6 (ev_var rfl) hL6 (by omega) (fun _ => rfl) (fun i x Hh hx eh Q1 q1 => by
        obtain ⟨c, rfl, hc⟩ := inner i x Hh hx eh
        exact ⟨.ref c, rfl, c, _, rfl, sq_of hc, fun b hb => q1 b _ hb (Ex.new hb) upd_same⟩) (fun q G bs h bl hb => val_list h (by rw [List.length_map]; omega) (fun x hx => by
        obtain ⟨c, hc, rfl⟩ := List.mem_map.mp hx
        obtain ⟨j, hj⟩ := List.mem_iff_getElem?.mp hc
        exact row0_list (hb j c hj) (by rw [List.length_reverse, nats_len]; exact Nat.le_trans (small j).1 (by decide)) (fun y hy => nats_it0 (small j).2 y (List.mem_reverse.mp hy)))))
      ear_nil)))) (by decide)) (by decide)) fun p7 H7 hp7 e7 L7 => ?_
      have D7 := D6.ex e7
      have s7 := D7.src.at
      have hL7 : hide s H7 L = some (.lst (as.map V.ref)) := hide_ex (s := s) e7 _ _ (x6 _ _ hL5)
      have hg7 := (hg5.ex x6).ex (hide_ex (s := s) e7)
      have has7 : ∀ i c, as[i]? = some c → hide s H7 c = some (.lst (nats (tn i))) := fun i c hc => hide_ex (s := s) e7 _ _ (x6 _ _ (has5 i c hc))
      -- the changed ones
      refine q_te ?_
      refine ⟨.ref p7, rfl, 9, rfl, by decide, by decide, fun Dl hDl => ?_⟩
      have nDs : Dl ≠ s := new_apart s7 hDl
      refine lc_range (lo := 0) (n := (9 : Int).toNat) (fun i Hh => Drew s (2600 + 6 * i) H7 Hh ∧ ∃ ys, Hh Dl = some (.lst ys) ∧ ys.length = i ∧ ∀ y ∈ ys, Hd [Dl] ValV (hide s Hh) y)
        ⟨(D7.src |> Drew.refl).ex (Ex.new hDl), [], upd_same, rfl, fun _ h => nomatch h⟩ ?_ ?_
      · rintro i9 Hh hi9 ⟨d8, ys, hys, yl, hy⟩
        have i99 : i9 < 9 := hi9
        refine ⟨rfl, ?_⟩
        dsimp only [tYes]
        rw [if_pos rfl]
        refine ⟨.ref s, rfl, gv, rfl, .ref L, rfl, s, L, Dl, gv, as, n, 2600 + 6 * i9, es, tn, rfl, d8.src, by omega, hg7.ex d8.kept, ok, d8.kept _ _ hL7, al, (fun i c hc => d8.kept _ _ (has7 i c hc)), small, ⟨_, hys⟩, nDs, fun H9 v9 d9 g9 => ?_⟩
        refine ⟨ys, d9.get nDs hys, sz_lt (by omega), ((d8.trans d9).mono (by omega)).mut s7 hDl, ys ++ [v9], upd_same, by rw [List.length_append, yl]; rfl, fun y hy' => ?_⟩
        show ValV (hides [Dl] (hide s (upd H9 Dl (.lst (ys ++ [v9]))))) y
        rw [hide_upd2 List.mem_cons_self]
        rcases List.mem_append.mp hy' with h | h
        · exact hd_up val_up _ _ _ d9.kept (hy y h)
        · rw [List.mem_singleton.mp h]
          exact g9
      rintro Hh ⟨d8, ys, hys, yl, hy⟩
      obtain ⟨np7, xs7, hx7, l71, l72, r7⟩ := L7
      have yl' : ys.length = 9 := yl
      refine ⟨p7, Dl, xs7, ys, rfl, rfl, d8.get np7 hx7, hys, sz_of (by omega), fun r hr => ?_⟩
      have er := Ex.new (o := .lst (xs7 ++ ys)) hr
      have vIn : ∀ x, x ∈ xs7 ++ ys → ∃ d, Dt (upd Hh r (.lst (xs7 ++ ys))) x d ∧ (Kd 420000 20 d ∧ Short2 d) := fun x hx => by
        rcases List.mem_append.mp hx with h | h
        · obtain ⟨d, h1, h2⟩ := r7 x h
          exact ⟨d, (h1.same (same_ex d8.kept)).same (same_ex (hide_up.trans er)), h2⟩
        · obtain ⟨d, h1, h2⟩ := hy x h
          exact ⟨d, ((h1.same hides_same).same hide_same).same (same_ex er), h2⟩
      have vl : (xs7 ++ ys).length ≤ 29 := by rw [List.length_append]; omega
      have hr1 : upd Hh r (.lst (xs7 ++ ys)) r = some (.lst (xs7 ++ ys)) := upd_same
      have hG8 : GraphV (upd Hh r (.lst (xs7 ++ ys))) gv n es := ((hg7.ex d8.kept).ex hide_up).ex er
      have E28 : Ex H2 (upd Hh r (.lst (xs7 ++ ys))) := by
        refine Ex.trans ?_ er
        intro b o h
        exact d8.get (ne_of_none h ns3) (e7 _ _ (e6 _ _ (E25 b o h)))
      clear hr er hx7 hys d8 hy hL7 hg7 has7 inner vperms
      dsimp only
      generalize xs7 ++ ys = zs at *
      generalize upd Hh r (.lst zs) = H8 at *
      obtain ⟨ds, dts, good, dl⟩ := dts_ex vIn
      have fit := fit_all ok (fun d hd => (good d hd).1) (by omega : ds.length ≤ 29)
      have two : ∀ {G : Hp}, Ex H8 G → Dts G [gv, .ref r] [.tuple [.int (n : Int), .list (es.map Os.prD)], .list ds] := fun e => .cons (hG8.ex e).dt (.cons (.lst (e _ _ hr1) (dts.same (same_ex e))) .nil)
      -- kept
      refine q_asg (ev_reprL (el_lst (ea_cons (ev_var rfl) (ea_cons (ev_var rfl) ea_nil)) (show 2 ≤ 100000 by decide)) (two (Ex.refl _)) fit) fun H9 e9 => ?_
      refine q_forLn (j := 8) (a := r) (xs := zs) (ev_var rfl) (sq_of (e9 _ _ hr1)) (fun j8 σ' H' => Ex H8 H' ∧ ∃ z8 z9, σ' = [some (.ref a), some (.ref D), some (.int (i : Int)), some (.ref s), some gv, some (.ref L), some (.ref r), some (.str (PyData.list [.tuple [.int (n : Int), .list (es.map Os.prD)], .list ds]).shown), z8, z9, y10, y11, y12, y13])
        (fun H10 e10 => ⟨e9.trans e10, y8, y9, rfl⟩) (fun i σ' H' _ h => sq_of (h.1 _ _ hr1)) ?_ ?_
      · rintro j x σ' H10 hx ⟨e10, z8, z9, rfl⟩
        obtain ⟨d, hd, dx⟩ := dts.get hx
        obtain ⟨kd, sd⟩ := good d (List.mem_of_getElem? hd)
        refine q_asg (v := .bl (turnsB n es d)) (ev_sp (ea_cons (ev_var rfl) (ea_cons (ev_var rfl) ea_nil)) fun H11 e11 Q q => ⟨gv, x, n, es, d, rfl, hG8.ex (e10.trans e11), ok, dx.same (same_ex (e10.trans e11)), sd, kd.sh.mono (by decide), fun H12 e12 => q H12 e12⟩) fun H11 e11 => ?_
        have e811 := e10.trans e11
        have bts : ∀ {G : Hp}, Dts G [.bl (turnsB n es d), .bl (turnsB n es d)] [.bool (turnsB n es d), .bool (turnsB n es d)] := .cons (.bl _) (.cons (.bl _) .nil)
        refine s_when (b := false) (et_is (et_test (ev_op (ev_reprL (xs := [.bl (turnsB n es d), .bl (turnsB n es d)]) (el_lst (ea_cons (ev_sp (ea_cons (ev_var rfl) (ea_cons (ev_var rfl) ea_nil)) fun H12 e12 Q q => ⟨gv, x, n, es, d, rfl, hG8.ex (e811.trans e12), ok, dx.same (same_ex (e811.trans e12)), sd, fun H13 e13 => q H13 e13⟩)
          (ea_cons (ev_callK (ea_cons (ev_var rfl) (ea_cons (ev_var rfl) ea_nil)) fun H12 e12 Q q => ⟨gv, x, n, es, d, rfl, hG8.ex (e811.trans e12), ok, dx.same (same_ex (e811.trans e12)), sd, fun H13 e13 => q H13 e13⟩) ea_nil)) (show 2 ≤ 100000 by decide)) bts (bools_fit _)) (ev_reprL (el_lst (ea_cons (ev_var rfl) (ea_cons (ev_var rfl) ea_nil)) (show 2 ≤ 100000 by decide)) bts (bools_fit _)) (rv_ne rfl))) (by rw [decide_eq_true rfl]; rfl)) (fun h => nomatch h) fun _ H12 e12 => ?_
        exact ⟨e811.trans e12, _, _, rfl⟩
      · rintro σ' H10 ⟨e10, z8, z9, rfl⟩
        refine s_when (b := false) (et_is (et_test (ev_op (ev_reprL (el_lst (ea_cons (ev_var rfl) (ea_cons (ev_var rfl) ea_nil)) (show 2 ≤ 100000 by decide)) (two e10) fit) (ev_var rfl) (rv_ne rfl))) (by rw [decide_eq_true rfl]; rfl)) (fun h => nomatch h) fun _ H11 e11 => ?_
        exact ⟨(e2.trans E28).trans (e10.trans e11), _, _, _, _, _, _, _, _, _, _, _, _, rfl⟩
    · rintro σ' H2 ⟨e2, y2, y3, y4, y5, y6, y7, y8, y9, y10, y11, y12, y13, rfl⟩
      -- three
      refine q_asgD (d := .tuple [.int ((3 : Nat) : Int), .list (([(0, 1), (1, 2)] : List Pr).map Os.prD)]) (ed_tup (ead_cons ed_int (ead_cons (ed_lst (ead_cons (ed_tup (ead_cons ed_int (ead_cons ed_int ead_nil)) (by decide)) (ead_cons (ed_tup (ead_cons ed_int (ead_cons ed_int ead_nil)) (by decide)) ead_nil)) (by decide)) ead_nil)) (by decide)) fun v3 H3 e3 d3 => ?_
      have ed3 : ∀ {σ : L2.St}, σ[10]? = some (some v3) → EvD (tVar 10) σ H3 (.tuple [.int ((3 : Nat) : Int), .list (([(0, 1), (1, 2)] : List Pr).map Os.prD)]) := fun hv => ed_of (ev_var hv) fun G e => d3.same (same_ex e)
      refine q_asgL (xs := [.bl false, .bl true]) (el_lst (ea_cons (ev_is (ev_ist (n := 3) (es := [(0, 1), (1, 2)]) (d := .list [.list [.int 1], .list [.bool false, .int 2], .list [.bool true]]) (ed3 rfl) forest3 (ed_lst (ead_cons (ed_lst (ead_cons ed_int ead_nil) (by decide)) (ead_cons (ed_lst (ead_cons ed_bl (ead_cons ed_int ead_nil)) (by decide)) (ead_cons (ed_lst (ead_cons ed_bl ead_nil) (by decide)) ead_nil))) (by decide)) (short2_of (by decide +kernel))) (congrArg V.bl (by decide +kernel)))
        (ea_cons (ev_is (ev_ist (n := 3) (es := [(0, 1), (1, 2)]) (d := .list [.list [.int 1], .list [.int 0, .int 2], .list [.int 1]]) (ed3 rfl) forest3 (ed_lst (ead_cons (ed_lst (ead_cons ed_int ead_nil) (by decide)) (ead_cons (ed_lst (ead_cons ed_int (ead_cons ed_int ead_nil)) (by decide)) (ead_cons (ed_lst (ead_cons ed_int ead_nil) (by decide)) ead_nil))) (by decide)) (short2_of (by decide +kernel))) (congrArg V.bl (by decide +kernel))) ea_nil)) (show 2 ≤ 100000 by decide)) fun pt H4 hpt e4 h4 => ?_
      refine q_asgL (xs := [.bl false, .bl true] ++ [.bl false, .bl true]) (el_catV (ev_var rfl) h4 (el_lst (ea_cons (ev_is (ev_ist (n := 2) (es := [(0, 1)]) (d := .list [.list [.bool true], .list [.bool false]]) (ed_tup (ead_cons ed_int (ead_cons (ed_lst (ead_cons (ed_tup (ead_cons ed_int (ead_cons ed_int ead_nil)) (by decide)) ead_nil) (by decide)) ead_nil)) (by decide)) forest2 (ed_lst (ead_cons (ed_lst (ead_cons ed_bl ead_nil) (by decide)) (ead_cons (ed_lst (ead_cons ed_bl ead_nil) (by decide)) ead_nil)) (by decide)) (short2_of (by decide +kernel))) (congrArg V.bl (by decide +kernel)))
        (ea_cons (ev_is (ev_ist (n := 1) (es := []) (d := .list [.list []]) (ed_tup (ead_cons ed_int (ead_cons (ed_lst ead_nil (by decide)) ead_nil)) (by decide)) forest1 (ed_lst (ead_cons (ed_lst ead_nil (by decide)) ead_nil) (by decide)) (short2_of (by decide +kernel))) (congrArg V.bl (by decide +kernel))) ea_nil)) (show 2 ≤ 100000 by decide)) (show 2 + 2 ≤ 100000 by decide)) fun pu H5 hpu e5 h5 => ?_
      have four : ∀ {G : Hp}, Dts G [.bl false, .bl true, .bl false, .bl true] [.bool false, .bool true, .bool false, .bool true] := .cons (.bl _) (.cons (.bl _) (.cons (.bl _) (.cons (.bl _) .nil)))
      exact s_ret (v := .bl true) (ev_is (ev_op (ev_repr (ev_var rfl) (.lst h5 four) fit4) (ev_reprL (el_lst (ea_cons ev_c (ea_cons ev_c (ea_cons ev_c (ea_cons ev_c ea_nil)))) (show 4 ≤ 100000 by decide)) four fit4) (rv_eq rfl)) (by rw [decide_eq_true rfl])) fun H6 e6 => q H6
end
end K11
namespace K11
open PySem PySem.Spec PyProof.Rows L2 Os Evl
section
variable {l : PySem.W.OpenLaw} {w : World} {K : PySem.W.Frag} {h : Heap} {mg : Str → Option Value} {fa : Addr}
/-- a def that stands at the top -/
def Def (K : PySem.W.Frag) (x : Str) (st : Stmt) (f : Addr) : Prop :=
  PySem.W.nsIn K mainGlobals x = some (some (.ref f)) ∧ (∃ (oc kV dc pm cd ct : Value) (od an : Option Addr) (sl : Array (Option Value)), K.lookup f = some ⟨oc, od, .func (PySem.W.fnOf x x (defArgs st) (defBody st) (defScope st) .none kV dc pm an cd ct), sl⟩ ∧ PySem.W.codeIn K cd x = true) ∧ PySem.W.keepIn K (.ref f) = true
theorem Def.of {x : Str} {st : Stmt} {f : Addr} {oc kV dc pm cd ct : Value} {od an : Option Addr} {sl : Array (Option Value)} (a : PySem.W.nsIn K mainGlobals x = some (some (.ref f)))
    (lk : K.lookup f = some ⟨oc, od, .func (PySem.W.fnOf x x (defArgs st) (defBody st) (defScope st) .none kV dc pm an cd ct), sl⟩) (c : PySem.W.codeIn K cd x = true) (kp : PySem.W.keepIn K (.ref f) = true) : Def K x st f :=
  ⟨a, ⟨oc, kV, dc, pm, cd, ct, od, an, sl, lk, c⟩, kp⟩
theorem Def.fun_ {x : Str} {st : Stmt} {f : Addr} (d : Def K x st f) : ∃ fd, Fun K x x st f fd := by
  obtain ⟨_, ⟨oc, kV, dc, pm, cd, ct, od, an, sl, lk, c⟩, k⟩ := d
  exact ⟨_, fun_mk lk c k⟩
theorem all_mk (X : K.In h) (G : h.Ns mainGlobals mg) (hfa : mg "law" = some (.ref fa))
    {fInt fPos fEdge fAsc fCyc fForest fChkF fLists fIsTurn fIsTurns fSource fPick fShuf fGraph fNear fPerms fValid fChanged fLaw : Addr} {t_MOST_POSITIONS : Tok} (n_MOST_POSITIONS : PySem.W.nsIn K mainGlobals "MOST_POSITIONS" = some (some (.int 40 t_MOST_POSITIONS)))
    (dInt : Def K "is_integer" sInt fInt)
    (dPos : Def K "is_position" sPos fPos)
    (dEdge : Def K "is_edge" sEdge fEdge)
    (dAsc : Def K "_is_ascending" sAsc fAsc)
    (dCyc : Def K "_has_cycle" sCyc fCyc)
    (dForest : Def K "is_forest" sForest fForest)
    (dChkF : Def K "check_forest" sChkF fChkF)
    (dLists : Def K "neighbour_lists" sLists fLists)
    (dIsTurn : Def K "_is_turn" sIsTurn fIsTurn)
    (dIsTurns : Def K "is_turns" sIsTurns fIsTurns)
    (dSource : Def K "_law_source" sSource fSource)
    (dPick : Def K "_law_pick" sPick fPick)
    (dShuf : Def K "_law_shuffle" sShuf fShuf)
    (dGraph : Def K "_law_graph" sGraph fGraph)
    (dNear : Def K "_law_near" sNear fNear)
    (dPerms : Def K "_law_perms" sPerms fPerms)
    (dValid : Def K "_law_valid" sValid fValid)
    (dChanged : Def K "_law_changed" sChanged fChanged)
    (aLaw : PySem.W.nsIn K mainGlobals "law" = some (some (.ref fLaw))) {oc kV dc pm cd ct : Value} {od an : Option Addr} {sl : Array (Option Value)} (lLaw : K.lookup fLaw = some ⟨oc, od, .func (PySem.W.fnOf "law" "law" (defArgs sLaw) (defBody sLaw) (defScope sLaw) .none kV dc pm an cd ct), sl⟩) (cLaw : PySem.W.codeIn K cd "law" = true) (kLaw : PySem.W.keepIn K (.ref fLaw) = true)
    (z_isinstance : PySem.W.nsIn K mainGlobals "isinstance" = some none) (z_int : PySem.W.nsIn K mainGlobals "int" = some none) (z_bool : PySem.W.nsIn K mainGlobals "bool" = some none) (z_tuple : PySem.W.nsIn K mainGlobals "tuple" = some none) (z_len : PySem.W.nsIn K mainGlobals "len" = some none) (z_list : PySem.W.nsIn K mainGlobals "list" = some none) (z_all : PySem.W.nsIn K mainGlobals "all" = some none) (z_zip : PySem.W.nsIn K mainGlobals "zip" = some none) (z_range : PySem.W.nsIn K mainGlobals "range" = some none) (z_max : PySem.W.nsIn K mainGlobals "max" = some none) (z_abs : PySem.W.nsIn K mainGlobals "abs" = some none) (z_min : PySem.W.nsIn K mainGlobals "min" = some none) (z_sorted : PySem.W.nsIn K mainGlobals "sorted" = some none) (z_repr : PySem.W.nsIn K mainGlobals "repr" = some none) :
    ∃ fd : FuncData, (∀ (s : Shared) (v : Value), BindsTo s fd ⟨[v], []⟩ [("script", v)]) ∧ ∀ base : Heap, K.In base → base.Ns mainGlobals mg → FnG l.prog w K mg base 7 fa fd ["script"] (spLaw K) := by
  have e := hfa.symm.trans (PySem.W.mg_of X G aLaw)
  cases e
  have none' : ∀ {x : Str}, PySem.W.nsIn K mainGlobals x = some none → mg x = none := fun z => PySem.W.mg_none_of X G z
  have ref' : ∀ {x : Str} {f : Addr}, PySem.W.nsIn K mainGlobals x = some (some (.ref f)) → mg x = some (.ref f) := fun z => PySem.W.mg_of X G z
  obtain ⟨fdInt, FInt⟩ := dInt.fun_
  obtain ⟨fdPos, FPos⟩ := dPos.fun_
  obtain ⟨fdEdge, FEdge⟩ := dEdge.fun_
  obtain ⟨fdAsc, FAsc⟩ := dAsc.fun_
  obtain ⟨fdCyc, FCyc⟩ := dCyc.fun_
  obtain ⟨fdForest, FForest⟩ := dForest.fun_
  obtain ⟨fdChkF, FChkF⟩ := dChkF.fun_
  obtain ⟨fdLists, FLists⟩ := dLists.fun_
  obtain ⟨fdIsTurn, FIsTurn⟩ := dIsTurn.fun_
  obtain ⟨fdIsTurns, FIsTurns⟩ := dIsTurns.fun_
  obtain ⟨fdSource, FSource⟩ := dSource.fun_
  obtain ⟨fdPick, FPick⟩ := dPick.fun_
  obtain ⟨fdShuf, FShuf⟩ := dShuf.fun_
  obtain ⟨fdGraph, FGraph⟩ := dGraph.fun_
  obtain ⟨fdNear, FNear⟩ := dNear.fun_
  obtain ⟨fdPerms, FPerms⟩ := dPerms.fun_
  obtain ⟨fdValid, FValid⟩ := dValid.fun_
  obtain ⟨fdChanged, FChanged⟩ := dChanged.fun_
  have FLaw := fun_mk (st := sLaw) lLaw cLaw kLaw
  have bInt := FInt.binds (ps := ["thing"]) fun _ _ _ _ _ _ us hl => match us, hl with | [_], _ => rfl
  have bPos := FPos.binds (ps := ["n", "thing"]) fun _ _ _ _ _ _ us hl => match us, hl with | [_, _], _ => rfl
  have bEdge := FEdge.binds (ps := ["n", "thing"]) fun _ _ _ _ _ _ us hl => match us, hl with | [_, _], _ => rfl
  have bAsc := FAsc.binds (ps := ["edges"]) fun _ _ _ _ _ _ us hl => match us, hl with | [_], _ => rfl
  have bCyc := FCyc.binds (ps := ["n", "edges"]) fun _ _ _ _ _ _ us hl => match us, hl with | [_, _], _ => rfl
  have bForest := FForest.binds (ps := ["thing"]) fun _ _ _ _ _ _ us hl => match us, hl with | [_], _ => rfl
  have bChkF := FChkF.binds (ps := ["forest"]) fun _ _ _ _ _ _ us hl => match us, hl with | [_], _ => rfl
  have bLists := FLists.binds (ps := ["forest"]) fun _ _ _ _ _ _ us hl => match us, hl with | [_], _ => rfl
  have bIsTurn := FIsTurn.binds (ps := ["n", "nearby", "thing"]) fun _ _ _ _ _ _ us hl => match us, hl with | [_, _, _], _ => rfl
  have bIsTurns := FIsTurns.binds (ps := ["forest", "thing"]) fun _ _ _ _ _ _ us hl => match us, hl with | [_, _], _ => rfl
  have kIsTurns := funRevK FIsTurns (ps := ["forest", "thing"]) (ks := ["thing", "forest"]) (by decide) fun _ _ _ _ _ _ us hl => match us, hl with | [_, _], _ => rfl
  have bSource := FSource.binds (ps := ["script", "k"]) fun _ _ _ _ _ _ us hl => match us, hl with | [_, _], _ => rfl
  have bPick := FPick.binds (ps := ["source", "wide"]) fun _ _ _ _ _ _ us hl => match us, hl with | [_, _], _ => rfl
  have bShuf := FShuf.binds (ps := ["source", "values"]) fun _ _ _ _ _ _ us hl => match us, hl with | [_, _], _ => rfl
  have bGraph := FGraph.binds (ps := ["source", "most"]) fun _ _ _ _ _ _ us hl => match us, hl with | [_, _], _ => rfl
  have bNear := FNear.binds (ps := ["graph"]) fun _ _ _ _ _ _ us hl => match us, hl with | [_], _ => rfl
  have bPerms := FPerms.binds (ps := ["source", "graph"]) fun _ _ _ _ _ _ us hl => match us, hl with | [_, _], _ => rfl
  have bValid := FValid.binds (ps := ["graph", "value"]) fun _ _ _ _ _ _ us hl => match us, hl with | [_, _], _ => rfl
  have bChanged := FChanged.binds (ps := ["source", "graph", "perms"]) fun _ _ _ _ _ _ us hl => match us, hl with | [_, _, _], _ => rfl
  refine ⟨PySem.W.fnOf "law" "law" (defArgs sLaw) (defBody sLaw) (defScope sLaw) .none kV dc pm an cd ct, fun s v => .of_eq rfl, fun base _ _ => ?_⟩
  have GInt : FnOk l.prog w K mg base CX0 1 fInt fdInt ["thing"] spInt := ok_int FInt (none' z_isinstance) (none' z_int) (none' z_bool)
  have GPos : FnOk l.prog w K mg base CX0 2 fPos fdPos ["n", "thing"] spPos := ok_pos FPos (GInt.mono (by decide)) FInt bInt (ref' dInt.1)
  have GEdge : FnOk l.prog w K mg base CX0 3 fEdge fdEdge ["n", "thing"] spEdge := ok_edge FEdge (GPos.mono (by decide)) FPos bPos (ref' dPos.1) (none' z_isinstance) (none' z_tuple) (none' z_len)
  have GAsc : FnOk l.prog w K mg base CX0 1 fAsc fdAsc ["edges"] spAsc := ok_asc FAsc (none' z_all) (none' z_zip)
  have GCyc : FnOk l.prog w K mg base CX0 1 fCyc fdCyc ["n", "edges"] spCyc := ok_cyc FCyc (none' z_list) (none' z_range)
  have GForest : FnOk l.prog w K mg base CX0 4 fForest fdForest ["thing"] spForest := ok_forest FForest (GInt.mono (by decide)) FInt bInt (ref' dInt.1) (GEdge.mono (by decide)) FEdge bEdge (ref' dEdge.1) (GAsc.mono (by decide)) FAsc bAsc (ref' dAsc.1) (GCyc.mono (by decide)) FCyc bCyc (ref' dCyc.1) (none' z_isinstance) (none' z_tuple) (none' z_len) (none' z_list) (none' z_all) (PySem.W.mg_of X G n_MOST_POSITIONS)
  have GChkF : FnOk l.prog w K mg base CX0 5 fChkF fdChkF ["forest"] spChkF := ok_chkF FChkF (GForest.mono (by decide)) FForest bForest (ref' dForest.1)
  have GLists : FnOk l.prog w K mg base CX0 1 fLists fdLists ["forest"] spLists := ok_lists FLists (none' z_range)
  have GIsTurn : FnOk l.prog w K mg base CX0 3 fIsTurn fdIsTurn ["n", "nearby", "thing"] spIsTurn := ok_isturn FIsTurn (GPos.mono (by decide)) FPos bPos (ref' dPos.1) (none' z_isinstance) (none' z_list) (none' z_all) (none' z_sorted)
  have GIsTurns : FnOk l.prog w K mg base CX0 6 fIsTurns fdIsTurns ["forest", "thing"] spIsTurns := ok_isturns FIsTurns (GChkF.mono (by decide)) FChkF bChkF (ref' dChkF.1) (GLists.mono (by decide)) FLists bLists (ref' dLists.1) (GIsTurn.mono (by decide)) FIsTurn bIsTurn (ref' dIsTurn.1) (none' z_isinstance) (none' z_list) (none' z_all) (none' z_len) (none' z_zip)
  have GSource : FnOk l.prog w K mg base CX0 1 fSource fdSource ["script", "k"] (spSource K) := ok_source FSource (none' z_len) (none' z_max) (none' z_abs)
  have GPick : FnOk l.prog w K mg base CX0 1 fPick fdPick ["source", "wide"] spPick := ok_pick FPick
  have GShuf : FnOk l.prog w K mg base CX0 2 fShuf fdShuf ["source", "values"] spShuf := ok_shuf FShuf (GPick.mono (by decide)) FPick bPick (ref' dPick.1) (none' z_list) (none' z_len) (none' z_range)
  have GGraph : FnOk l.prog w K mg base CX0 3 fGraph fdGraph ["source", "most"] spGraph := ok_graph FGraph (GPick.mono (by decide)) FPick bPick (ref' dPick.1) (GShuf.mono (by decide)) FShuf bShuf (ref' dShuf.1) (none' z_range) (none' z_list) (none' z_max) (none' z_min) (none' z_sorted)
  have GNear : FnOk l.prog w K mg base CX0 1 fNear fdNear ["graph"] spNear := ok_near FNear (none' z_range) (none' z_sorted)
  have GPerms : FnOk l.prog w K mg base CX0 3 fPerms fdPerms ["source", "graph"] spPerms := ok_perms FPerms (GNear.mono (by decide)) FNear bNear (ref' dNear.1) (GShuf.mono (by decide)) FShuf bShuf (ref' dShuf.1)
  have GValid : FnOk l.prog w K mg base CX0 2 fValid fdValid ["graph", "value"] spValid := ok_valid FValid (GNear.mono (by decide)) FNear bNear (ref' dNear.1) (none' z_isinstance) (none' z_list) (none' z_len) (none' z_zip) (none' z_int) (none' z_bool) (none' z_sorted)
  have GChanged : FnOk l.prog w K mg base CX0 2 fChanged fdChanged ["source", "graph", "perms"] spChanged := ok_changed FChanged (GPick.mono (by decide)) FPick bPick (ref' dPick.1) (none' z_list) (none' z_len) (none' z_tuple) (none' z_sorted)
  exact ok_law FLaw (GSource.mono (by decide)) FSource bSource (ref' dSource.1) (GGraph.mono (by decide)) FGraph bGraph (ref' dGraph.1) (GPerms.mono (by decide)) FPerms bPerms (ref' dPerms.1) (GChanged.mono (by decide)) FChanged bChanged (ref' dChanged.1) (GValid.mono (by decide)) FValid bValid (ref' dValid.1) (GIsTurns.mono (by decide)) FIsTurns bIsTurns kIsTurns (ref' dIsTurns.1) (none' z_range) (none' z_tuple) (none' z_repr)
end
end K11
open PySem PySem.W PyProof.Rows
set_option maxHeartbeats 0 in
theorem PySem.Challenge.cw_onceswapped_k11_what_are_turns_holds : PySem.Challenge.rw_onceswapped_k11_what_are_turns.Holds := by
  w_on; o_law; k_head; (case hw => w_witness2)
  k_fill
  refine Os.walk_ofG (l := PySem.Challenge.rw_onceswapped_k11_what_are_turns) (n := 63) (k := 7) (x := "script") (sp := fun w => K11.spLaw _) rfl (by decide) rfl ⟨rfl, by decide, by decide⟩ (fun w h Y => PySem.W.kIn_of Y) ?F (fun _ _ a ns hl _ hS => ⟨a, ns, rfl, hS, hl, fun _ => rfl⟩)
  case F =>
    intro w mg fa h KX G hmg
    refine' K11.all_mk KX G hmg ?nMOST_POSITIONS ?dInt ?dPos ?dEdge ?dAsc ?dCyc ?dForest ?dChkF ?dLists ?dIsTurn ?dIsTurns ?dSource ?dPick ?dShuf ?dGraph ?dNear ?dPerms ?dValid ?dChanged ?a13 ?l13 ?c13 ?k13 ?zisinstance ?zint ?zbool ?ztuple ?zlen ?zlist ?zall ?zzip ?zrange ?zmax ?zabs ?zmin ?zsorted ?zrepr
    (case nMOST_POSITIONS => k_is)
    (case dInt => refine' K11.Def.of ?a ?l ?c ?k; (case a => k_is); (case l => k_is); (case c => k_is); (case k => k_is))
    (case dPos => refine' K11.Def.of ?a ?l ?c ?k; (case a => k_is); (case l => k_is); (case c => k_is); (case k => k_is))
    (case dEdge => refine' K11.Def.of ?a ?l ?c ?k; (case a => k_is); (case l => k_is); (case c => k_is); (case k => k_is))
    (case dAsc => refine' K11.Def.of ?a ?l ?c ?k; (case a => k_is); (case l => k_is); (case c => k_is); (case k => k_is))
    (case dCyc => refine' K11.Def.of ?a ?l ?c ?k; (case a => k_is); (case l => k_is); (case c => k_is); (case k => k_is))
    (case dForest => refine' K11.Def.of ?a ?l ?c ?k; (case a => k_is); (case l => k_is); (case c => k_is); (case k => k_is))
    (case dChkF => refine' K11.Def.of ?a ?l ?c ?k; (case a => k_is); (case l => k_is); (case c => k_is); (case k => k_is))
    (case dLists => refine' K11.Def.of ?a ?l ?c ?k; (case a => k_is); (case l => k_is); (case c => k_is); (case k => k_is))
    (case dIsTurn => refine' K11.Def.of ?a ?l ?c ?k; (case a => k_is); (case l => k_is); (case c => k_is); (case k => k_is))
    (case dIsTurns => refine' K11.Def.of ?a ?l ?c ?k; (case a => k_is); (case l => k_is); (case c => k_is); (case k => k_is))
    (case dSource => refine' K11.Def.of ?a ?l ?c ?k; (case a => k_is); (case l => k_is); (case c => k_is); (case k => k_is))
    (case dPick => refine' K11.Def.of ?a ?l ?c ?k; (case a => k_is); (case l => k_is); (case c => k_is); (case k => k_is))
    (case dShuf => refine' K11.Def.of ?a ?l ?c ?k; (case a => k_is); (case l => k_is); (case c => k_is); (case k => k_is))
    (case dGraph => refine' K11.Def.of ?a ?l ?c ?k; (case a => k_is); (case l => k_is); (case c => k_is); (case k => k_is))
    (case dNear => refine' K11.Def.of ?a ?l ?c ?k; (case a => k_is); (case l => k_is); (case c => k_is); (case k => k_is))
    (case dPerms => refine' K11.Def.of ?a ?l ?c ?k; (case a => k_is); (case l => k_is); (case c => k_is); (case k => k_is))
    (case dValid => refine' K11.Def.of ?a ?l ?c ?k; (case a => k_is); (case l => k_is); (case c => k_is); (case k => k_is))
    (case dChanged => refine' K11.Def.of ?a ?l ?c ?k; (case a => k_is); (case l => k_is); (case c => k_is); (case k => k_is))
    (case a13 => k_is); (case l13 => k_is); (case c13 => k_is); (case k13 => k_is)
    (case zisinstance => k_is); (case zint => k_is); (case zbool => k_is); (case ztuple => k_is); (case zlen => k_is); (case zlist => k_is); (case zall => k_is); (case zzip => k_is); (case zrange => k_is); (case zmax => k_is); (case zabs => k_is); (case zmin => k_is); (case zsorted => k_is); (case zrepr => k_is)
