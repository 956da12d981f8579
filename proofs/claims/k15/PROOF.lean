import PyProof.Rows.All
import Wide.All
import OpenK.AllK
import Wide.FinOn
import HandS.ForMost
import HandS.Wide
import HandS.IsInst
import HandS.Strs
import PyProof.ReprRoads
import PyProof.StrBlock2
import HandS.Evl
import HandS.Walk
import HandS.Conv
import HandS.Style
import HandS.TupSets
import PyProof.P3Eq
import PyProof.StrLawsRepr
import PyProof.Rows.StrCase
import PyProof.Rows.TmSorted
import HandS.Zip
import HandS.SortInts
import HandS.Deep
import HandS.List
import KE.DataMinMax
import KE.DataFind
import PyProof.ListStr
import PyProof.Rows.StrBin
import PyProof.Rows.StrDigitsNeg
import HandS.Gcd
import HandS.TupLen
import HandS.WideBits
import KE.SortData
import HandS.ForExc
import HandS.ExcIs
import KE.RegKIsAll
import OpenK.KOwn
import KE.KTryMore
import PySem.Challenge.RW_onceswapped_k15_errors_of_turns
set_option Elab.async false
set_option linter.all false
set_option maxRecDepth 100000
set_option maxHeartbeats 8000000
/-! guarded defs: a def's promise where no repr is under way (what repr of a list asks) -/
namespace Os
open PySem PySem.Spec PyProof.Rows L2

section
variable (P : Program) (w : World) (K : PySem.W.Frag) (mg : Str → Option Value) (base : Heap)
/-- the def at f keeps sp at every call that is made while no repr runs -/
structure FnG (k : Nat) (f : Addr) (fd : FuncData) (ps : List Str) (sp : Sp) : Prop where
  arity : ∀ vs H Q E, sp vs H Q E → vs.length = ps.length
  runs : ∀ (B : Around) (out : List Env) (st : Shared) (H : Hp) (ar : Args) (us : List Value) (vs : List V) (Q : VK) (E : XK),
    B.guards = some [] → Room k B → Env0 P w K mg base B out st H →
    BindsTo st fd ar (ps.zip us) → Vals vs us → sp vs H Q E →
    codeAny (model P w) B (.call (.ref f) ar) (CR CX0 out P w H st Q E) st
end

section
variable {P : Program} {w : World} {K : PySem.W.Frag} {mg : Str → Option Value} {base : Heap}

theorem FnG.of {k : Nat} {f : Addr} {fd : FuncData} {ps : List Str} {sp : Sp}
    (F : FnOk P w K mg base CX0 k f fd ps sp) : FnG P w K mg base k f fd ps sp :=
  ⟨F.len, fun B out st H ar us vs Q E _ => F.run B out st H ar us vs Q E⟩

theorem FnG.mono {j k : Nat} {f : Addr} {fd : FuncData} {ps : List Str} {sp : Sp} (F : FnG P w K mg base j f fd ps sp) (h : j ≤ k) : FnG P w K mg base k f fd ps sp :=
  ⟨F.arity, fun B out st H ar us vs Q E gd hr => F.runs B out st H ar us vs Q E gd (hr.mono h)⟩
/-- the rule for a def, the guards told to its body -/
theorem okG {x qual : Str} {st : Stmt} {f : Addr} {fd : FuncData} {N ps : List Str} {k : Nat} {sp : Sp}
    (F : Fun K x qual st f fd) (S : FnScope N ps (defScope st))
    (ar : ∀ vs H Q E, sp vs H Q E → vs.length = ps.length)
    (body : ∀ (cdv : Value) (B : Around) (out : List Env) (s : Shared) (H : Hp) (vs : List V) (Q : VK) (E : XK),
      B.guards = some [] → Room k (B.deeper (envOfC qual (defScope st) s.heap.objs.size f cdv)) → sp vs H Q E →
      ∃ t, PSs (cxOf CX0 P w K mg base N qual (defScope st) f cdv B out s H E).nox (defBody st) t ∧
        t { nx := fun _ H' => Q .non H', rt := Q } (start N vs) H) :
    FnG P w K mg base (k + 1) f fd ps sp := by
  obtain ⟨oc, od, kV, doc, pm, an, cd, ct, sl, efd, look, code⟩ := F.ex
  subst efd
  refine ⟨ar, ?_⟩
  intro B out s H args us vs Q E gd hr e0 hb rel hsp
  have hlen := ar _ _ _ _ hsp
  have inK : K.In s.heap := e0.mod.kin.keeps fun b o q => (e0.bs b o q).1
  have lim : s.heap.NoLimit :=
    e0.mod.nolimit.keeps fun b o q => (e0.bs b o q).1
  have kinds : ∀ y ∈ ps.zip us, (defScope st).names.lookup y.1 = some .local ∨
      ((defScope st).names.lookup y.1 = some .cell ∧ ((cellsFrom (s.heap.objs.size + 1) (defScope st).names []).lookup y.1).isSome = true) := by
    rintro ⟨n, v⟩ hy
    cases S.par n (List.of_mem_zip hy).1 with
    | inl q => exact .inl q
    | inr q => exact .inr ⟨q, PySem.W.cellsFrom_some _ _ _ (.inl q)⟩
  refine codeAny_call_function hr.depth (inK _ _ look) rfl S.co S.gen rfl (PySem.W.codeRec_of inK code) (hb _ _ _ _ ?_)
  refine wpAny_newFunctionEnv_cells S.kind kinds fun env ee s1 x => ?_
  cases ee
  refine ⟨lim.keeps x.toInCall.keep, codeAny_func ?_⟩
  obtain ⟨t, ht, hq⟩ := body cd B out s H vs Q E gd (hr.deeper _) hsp
  have I := inv_start (CX := CX0) (E := E) S hr.hd e0 hlen rel x
  refine wpAny_mono (ht.nox.run [] s1 (start N vs) H _ I hq) (fun fl s' hs => ?_) (fun _ _ z => z)
  cases fl with
  | ret u =>
    obtain ⟨v, sg, H', J, rv, q⟩ := hs
    exact ⟨v, H', J.os, J.bare, J.base, J.hok, rv, q⟩
  | next =>
    obtain ⟨sg, H', J, q⟩ := hs
    exact ⟨V.non, H', J.os, J.bare, J.base, J.hok, rfl, q⟩
  | brk => exact (hs.elim fun _ z => z.elim fun _ z => z.2).elim
  | cont => exact (hs.elim fun _ z => z.elim fun _ z => z.2).elim
end

section
variable {X : Cx} {k : Nat} {f : Addr} {fd : FuncData} {ps : List Str} {sp : Sp} {x : Str} {p pos : Pos} {e : Expr} {es : List Expr} {t : TA}
/-- a call of such a def -/
theorem pe_callG (F : FnG X.prog X.w X.K X.mg X.base k f fd ps sp) (gd : X.A.guards = some []) (hr : Room k X.A) (hg : Gl X x)
    (hm : X.mg x = some (.ref f)) (hk : PySem.W.keepIn X.K (.ref f) = true) (hb : Binds X.K fd ps [])
    (ha : PA X (e :: es) t) (hdb : (x == ("__debug__" : Str)) = false := by decide)
    (he : starEach (e :: es) X.env = (false, eval e X.env) :: starEach es X.env := by rfl)
    (hpl : (backTo pos (starEach es X.env)).any (·.1) = false := by rfl) :
    PE X (.Call (.Name x p) (e :: es) [] pos) (tCall sp [] E0 t) := by
  constructor
  intro pins s sg H Q I h
  refine wpAny_Call_Name_kw (ld_glob I hg hm ?_ hdb)
  refine PySem.W.callWith_K (h₀ := X.base) I.ok.mod.kin hk (thn (ha.run pos pins s sg H _ I h) ?_) he hpl
  rintro us s1 ⟨vs, H1, I1, r, q⟩
  refine ⟨I1.kIn, ?_⟩
  have r2 : Vals (vs ++ []) (us ++ []) := r.append .nil
  have hl : (us ++ []).length = ps.length := by
    rw [← r2.length]
    exact F.arity _ _ _ _ q
  refine wpAny_call (codeAny_mono (F.runs X.A X.stack s1 H1 ⟨us, []⟩ (us ++ []) (vs ++ []) Q E0 gd hr I1.env0 (hb s1 us I1.kIn hl) r2 q) ?_)
  intro rr s' hq
  match rr, hq with
  | .ok (.ret u), hq => exact I1.after hq
  | .ok .next, hq => exact hq.elim
  | .ok .brk, hq => exact hq.elim
  | .ok .cont, hq => exact hq.elim
  | .error _, hq => exact hq.elim
end

section
variable {P : Program} {w : World} {K : PySem.W.Frag} {mg mb : Str → Option Value} {k : Nat} {fa a : Addr} {fd : FuncData} {x : Str} {sp : Sp} {s1 : Shared} {vs : List Value} {ns : List Int}
/-- the heap that tracks at most the script -/
structure Bare (K : PySem.W.Frag) (a : Addr) (o : Obj) (h : Heap) (H : Hp) : Prop where
  only : Only H
  at' : ∀ b, H b ≠ none → b = a
  out : H a ≠ none → K.lookup a = none
theorem Bare.stay {o : Obj} {h : Heap} {H : Hp} (B : Bare K a o h H) (ho : h.get? a = some o) {b : Addr} {q : Obj} (e : h.get? b = some q) (no : b = a → q ≠ o) : H b = none :=
  Decidable.byContradiction fun z => by
    have eb := B.at' b z
    rw [eb, ho] at e
    exact no eb (Option.some.inj e).symm
theorem law_run (KX : K.In s1.heap) (hns : s1.heap.Ns mainGlobals mg) (hb : s1.heap.Ns builtinsNs mb)
    (hbb : ∀ x : Str, x ≠ "__name__" → mb x = bootBuiltins x) (hlim : s1.heap.NoLimit) (hg : s1.gens = #[])
    (ha : s1.heap.get? a = some { cls := .type "list", data := .seq vs.toArray }) {H : Hp} (B : Bare K a { cls := .type "list", data := .seq vs.toArray } s1.heap H)
    (ok : HOk P w H s1.heap) (hr : Room k callerA)
    (F : ∀ base : Heap, K.In base → base.Ns mainGlobals mg → FnG P w K mg base k fa fd [x] sp)
    (hbind : ∀ (s : Shared) (u : Value), BindsTo s fd ⟨[u], []⟩ [(x, u)])
    (hsp : sp [.ref a] H (fun v _ => v = .bl true) fun _ _ _ => False) :
    codeAny (model P w) callerA (.call (.ref fa) ⟨[.ref a], []⟩)
      (fun r s' => r = .ok (.ret (.bool true)) ∧ OldK s1.heap s'.heap ∧ s'.os = s1.os ∧ AllBare s'.gens) s1 := by
  have dictStays : ∀ {b : Addr} {m : Str → Option Value}, s1.heap.Ns b m → (hidT s1.heap H).Ns b m := by
    rintro b m ⟨o, es, ep, e, d, r⟩
    refine ⟨o, es, ep, hidT_get e (B.stay ha e fun _ z => ?_), d, r⟩
    subst z
    exact nomatch (show Data.seq vs.toArray _ = Data.dict es ep from d)
  have keptK : K.In (hidT s1.heap H) := fun b o e => hidT_get (KX b o e) <| Decidable.byContradiction fun z => by
    have eb := B.at' b z
    subst eb
    have := B.out z
    rw [e] at this
    cases this
  have M : Mod K mg (hidT s1.heap H) := by
    obtain ⟨mc, h1, h2⟩ := hlim
    exact ⟨keptK, dictStays hns, ⟨mb, dictStays hb, hbb⟩, ⟨mc, dictStays h1, h2⟩⟩
  have e0 : Env0 P w K mg (hidT s1.heap H) callerA [] s1 H := {
    frames := rfl, mod := M, bs := fun b o e => of_hidT e, bsz := Nat.le_of_eq (hidT_size _ _), funs := trivial,
    frf := fun b z => absurd (show b ∈ ([] : List Addr) from z) (by simp), hok := ok, bare := .of_eq hg }
  refine codeAny_mono ((F _ keptK (dictStays hns)).runs callerA [] s1 H ⟨[.ref a], []⟩ [.ref a] [.ref a] _ _ rfl hr e0 (hbind s1 (.ref a)) (.cons rfl .nil) hsp) ?_
  intro r s' hq
  match r, hq with
  | .error _, hq => exact hq.elim
  | .ok .next, hq => exact hq.elim
  | .ok .brk, hq => exact hq.elim
  | .ok .cont, hq => exact hq.elim
  | .ok (.ret u), ⟨v, H', os, bare, un, ok', r', q⟩ =>
    have q1 : v = .bl true := q
    subst q1
    have ru : u = Value.bool true := r'
    subst ru
    refine ⟨rfl, OldK.of_keep fun b o e => ?_, os, bare⟩
    rcases B.only b with z | ⟨ob, xs, z⟩
    · exact un.keep b o e z (fun y => absurd (show b ∈ ([] : List Addr) from y) (by simp)) (by simp)
    · have e1 := (ok b _ z).1
      have e2 := (ok' b _ (un.frzs b ob _ z)).1
      rw [e] at e1
      rw [e2, e1]
theorem law_callG (KX : K.In s1.heap) (hns : s1.heap.Ns mainGlobals mg) (hb : s1.heap.Ns builtinsNs mb)
    (hbb : ∀ x : Str, x ≠ "__name__" → mb x = bootBuiltins x) (hlim : s1.heap.NoLimit) (hg : s1.gens = #[])
    (ha : s1.heap.get? a = some { cls := .type "list", data := .seq vs.toArray }) (hi : IntsAre vs ns) (hl : ns.length ≤ sizeLine) (hr : Room k callerA)
    (F : ∀ base : Heap, K.In base → base.Ns mainGlobals mg → FnG P w K mg base k fa fd [x] sp)
    (hbind : ∀ (s : Shared) (u : Value), BindsTo s fd ⟨[u], []⟩ [(x, u)])
    (hsp : ∀ H : Hp, Only H → SqL K H a (ns.map V.int) → sp [.ref a] H (fun v _ => v = .bl true) fun _ _ _ => False) :
    codeAny (model P w) callerA (.call (.ref fa) ⟨[.ref a], []⟩)
      (fun r s' => r = .ok (.ret (.bool true)) ∧ OldK s1.heap s'.heap ∧ s'.os = s1.os ∧ AllBare s'.gens) s1 := by
  have rv : Vals (ns.map V.int) vs := vals_ints hi
  have hlen : vs.length = ns.length := hi.length
  by_cases hk : ∃ o, K.lookup a = some o
  · obtain ⟨o, hk⟩ := hk
    have e := KX a o hk
    rw [ha] at e
    have eo := Option.some.inj e
    subst eo
    have hO : Only (fun _ => none) := fun _ => .inl rfl
    refine law_run KX hns hb hbb hlim hg ha (H := fun _ => none) ⟨hO, fun b z => absurd rfl z, fun z => absurd rfl z⟩ (fun b u z => nomatch (show (none : Option HO) = some u from z)) hr F hbind (hsp _ hO ?_)
    exact .inr ⟨_, vs.toArray, _, hk, rfl, rfl, rfl, by rw [List.size_toArray, hlen]; exact hl, by simpa using rv⟩
  · have hk0 : K.lookup a = none := Option.eq_none_iff_forall_ne_some.mpr fun o q => hk ⟨o, q⟩
    let H1 : Hp := upd (fun _ => none) a (.frz { cls := .type "list", data := .seq vs.toArray } (.lst (ns.map V.int)))
    have at1 : ∀ b, H1 b ≠ none → b = a := fun b z => Decidable.byContradiction fun n => z (upd_ne n)
    have hO : Only H1 := fun b => by
      by_cases n : b = a
      · exact .inr ⟨_, _, by rw [n]; exact upd_same⟩
      · exact .inl (upd_ne n)
    refine law_run KX hns hb hbb hlim hg ha (H := H1) ⟨hO, at1, fun _ => hk0⟩ (fun b u z => ?_) hr F hbind (hsp _ hO (.inl (.inr ⟨_, upd_same⟩)))
    have eb := at1 b (by rw [z]; exact fun q => nomatch q)
    subst eb
    have z2 : some (HO.frz { cls := .type "list", data := .seq vs.toArray } (.lst (ns.map V.int))) = some u := upd_same.symm.trans z
    cases z2
    exact ⟨ha, by rw [List.length_map]; exact hl, vs, _, rv, ha⟩

/-- the goal that k_head leaves, from the law's guarded promise -/
theorem walk_ofG {l : PySem.W.OpenLaw} {n k : Nat} {q : Program} {loose : List Str} {XP : (Str → Option Value) → Heap → Prop} {YP : World → Heap → Prop}
    {d : DefRec} {K : Params → PySem.W.Frag} {sp : World → Sp} {x : Str}
    (hn : l.most = some n) (hn2 : n ≤ sizeLine) (hdf : d.params.defaults = []) (hr : Room k callerA)
    (hY : ∀ (w : World) (h : Heap), YP w h → (K w.params).In h)
    (F : ∀ (w : World) (mg : Str → Option Value) (fa : Addr) (h : Heap), (K w.params).In h → h.Ns mainGlobals mg → mg d.name = some (.ref fa) →
      ∃ fd : FuncData, (∀ (s : Shared) (u : Value), BindsTo s fd ⟨[u], []⟩ [(x, u)]) ∧
        ∀ base : Heap, (K w.params).In base → base.Ns mainGlobals mg → FnG l.prog w (K w.params) mg base k fa fd [x] (sp w))
    (hsp : ∀ (w : World) (H : Hp) (a : Addr) (ns : List Int), ns.length ≤ n → Only H → SqL (K w.params) H a (ns.map V.int) →
      sp w [.ref a] H (fun v _ => v = .bl true) fun _ _ _ => False) :
    PySem.W.WalkO q loose XP YP l.row.toRowW d [] (fun f vs => PySem.call f vs) :=
  Att.attach_call hn hdf fun w s₀ s₁ mg mb fa o pm cd doc a vs ns G Y ho hd hcd hmg hobj hints hlen hg =>
    have KX := hY w _ Y
    match F w mg fa _ KX G.T.g hmg with
    | ⟨_, hb, hF⟩ => law_callG KX G.T.g G.T.b G.T.builtins G.T.nolimit hg hobj hints (Nat.le_trans hlen hn2) hr hF hb
        (fun H hO hS => hsp w H a ns hlen hO hS)
end

/-! ### a call by keywords alone, in the opposite order of the parameters -/
def revG (us ws : List Value) : List Value := match us with
  | [] => ws.reverse
  | _ => []
def revV (us ws : List V) : List V := match us with
  | [] => ws.reverse
  | _ => []
theorem Vals.rev : ∀ {vs : List V} {us : List Value}, Vals vs us → Vals vs.reverse us.reverse
  | _, _, .nil => .nil
  | _, _, .cons r t => by
    rw [List.reverse_cons, List.reverse_cons]
    exact Vals.append (Vals.rev t) (.cons r .nil)
theorem revK {K : PySem.W.Frag} {fd : FuncData} {ps ks : List Str} (hp : ps ≠ []) (h : ∀ ws : List Value, ws.length = ps.length → bindArgs fd ⟨[], ks.zip ws⟩ = pure (ps.zip ws.reverse)) : KBinds K fd ps ks revG revV where
  to := fun s us ws _ hl => by
    cases us with
    | nil => exact .of_eq (h ws (by rw [← hl]; exact (List.length_reverse).symm))
    | cons u us =>
      have hl' : ([] : List Value).length = ps.length := hl
      exact absurd (List.length_eq_zero_iff.mp hl'.symm) hp
  rel := fun {vs us zs ws} r1 r2 => by
    cases r1 with
    | nil => exact Vals.rev r2
    | cons _ _ => exact .nil
theorem funRevK {K : PySem.W.Frag} {x qual : Str} {st : Stmt} {f : Addr} {fd : FuncData} {ps ks : List Str} (F : Fun K x qual st f fd) (hp : ps ≠ [])
    (h : ∀ (kV doc pm : Value) (an : Option Addr) (cdv ct : Value) (ws : List Value), ws.length = ps.length →
      bindArgs (PySem.W.fnOf x qual (defArgs st) (defBody st) (defScope st) .none kV doc pm an cdv ct) ⟨[], ks.zip ws⟩ = pure (ps.zip ws.reverse)) : KBinds K fd ps ks revG revV := by
  obtain ⟨oc, od, kV, doc, pm, an, cd, ct, sl, efd, look, code⟩ := F.ex
  subst efd
  exact revK hp (h kV doc pm an cd ct)
section
variable {X : Cx} {CX : CXT} {k : Nat} {f : Addr} {fd : FuncData} {ps ks : List Str} {sp : Sp} {E : XK} {x : Str} {p pos : Pos} {kws : List Keyword} {tk : TA} {g : List Value → List Value → List Value} {gV : List V → List V → List V}
theorem pe_callK0 (F : FnOk X.prog X.w X.K X.mg X.base CX k f fd ps sp) (hr : Room k X.A) (hg : Gl X x) (hm : X.mg x = some (.ref f)) (hk : PySem.W.keepIn X.K (.ref f) = true)
    (hb : KBinds X.K fd ps ks g gV) (hx : Passes CX X E) (hkw : PK X kws tk)
    (hall : (backToKw pos (keywordEach kws X.env)).all (·.1.isSome) = true := by rfl)
    (hks : (backToKw pos (keywordEach kws X.env)).filterMap (·.1) = ks := by rfl)
    (hdb : (x == ("__debug__" : Str)) = false := by decide)
    (hpl : ((backTo pos (starEach [] X.env)).any (·.1) || (backToKw pos (keywordEach kws X.env)).any (·.1.isNone)) = false := by rfl) :
    PE X (.Call (.Name x p) [] kws pos) (tCallK sp gV E tNil tk) := by
  constructor
  intro pins s sg H Q I h
  refine wpAny_Call_Name_kw (ld_glob I hg hm ?_ hdb)
  refine PySem.W.callWith_KW0 (h₀ := X.base) I.ok.mod.kin hk hall (thn (hkw.run pos pins s sg H _ I h) ?_) hpl
  rintro ws s2 ⟨zs, H2, I2, rz, q2⟩
  refine ⟨I2.kIn, ?_⟩
  rw [hks]
  exact run_fnk (us := []) (vs := []) F hr hb hx I2 .nil rz q2
end
end Os
/-! further rules by values: ** of great ints, repr of data, len(set(texts)), text * int, a call by keywords alone -/
namespace Os
open PySem PySem.Spec PyProof.Rows L2

/-! ### great powers -/
section
variable {X : Cx}
theorem op_powW : OpR X (binaryOp .Pow) (rI (fun i j => 0 ≤ j ∧ (Builtin.Int.intBits i : Int) * j ≤ 2 ^ 27) fun i j => .int (i ^ j.toNat)) :=
  opI fun _ _ _ _ _ _ _ hc q => pow_int hc.1 hc.2 q
end
theorem cube_ok {i : Int} {n : Nat} (h : i.natAbs < 2 ^ n) (h0 : 0 < n) (hn : n ≤ 1000000) : (0 : Int) ≤ 3 ∧ (Builtin.Int.intBits i : Int) * 3 ≤ 2 ^ 27 := by
  have hl := PySem.Flt.log2_lt_of h0 h
  have hb : Builtin.Int.intBits i ≤ i.natAbs.log2 + 1 := by
    unfold Builtin.Int.intBits
    split <;> omega
  omega

/-! ### text * int -/
section
variable {X : Cx}
def rMulS : R2 := fun x y H Q => ∃ (z : Str) (n : Int), x = .str z ∧ y = .int n ∧ MulOk z n ∧ Q (.str (Txt.mul z n)) H
theorem op_mulS : OpR X (binaryOp .Mult) rMulS := by
  intro pins s sg H x y v u Q I rx ry h
  obtain ⟨z, n, rfl, rfl, ok, q⟩ := h
  obtain ⟨t, rfl⟩ := rx
  obtain ⟨t', rfl⟩ := ry
  exact PySem.SB.mul ok fun t2 k => ⟨.str _, H, I.tok _, ⟨_, rfl⟩, q⟩
theorem mul_small {z : Str} {n : Int} (h0 : 0 ≤ n) (h1 : n ≤ 1000) (hz : z.length ≤ 1000) : MulOk z n := by
  refine ⟨?_, fun h _ => ?_, fun h _ => ?_⟩
  · rw [decide_eq_false (by omega), decide_eq_false (by omega)]
    rfl
  · have hn : 0 < n := by omega
    have : (1000 : Int) ≤ (2 ^ 63 - 1) / n := (Int.le_ediv_iff_mul_le hn).mpr (by omega)
    omega
  · have hm : z.length * n.toNat ≤ 1000 * 1000 := Nat.mul_le_mul hz (by omega)
    unfold Builtin.Str.tooLong
    have hl : (1000 * 1000 : Nat) ≤ sizeLine := by decide
    simp only [decide_eq_false_iff_not]
    omega
end

/-! ### data that stands in the tracked heap -/
mutual
inductive Dt (H : Hp) : V → PyData → Prop
  | non : Dt H .non .none
  | bl (b : Bool) : Dt H (.bl b) (.bool b)
  | int (i : Int) : Dt H (.int i) (.int i)
  | str (x : Str) : Dt H (.str x) (.str x)
  | lst {a : Addr} {xs : List V} {ds : List PyData} : H a = some (.lst xs) → Dts H xs ds → Dt H (.ref a) (.list ds)
  | tup {a : Addr} {xs : List V} {ds : List PyData} : H a = some (.tup xs) → Dts H xs ds → Dt H (.ref a) (.tuple ds)
inductive Dts (H : Hp) : List V → List PyData → Prop
  | nil : Dts H [] []
  | cons {v : V} {vs : List V} {d : PyData} {ds : List PyData} : Dt H v d → Dts H vs ds → Dts H (v :: vs) (d :: ds)
end
section
variable {H H' : Hp}
mutual
theorem Dt.same (e : Same H H') : ∀ {d : PyData} {v : V}, Dt H v d → Dt H' v d
  | _, _, .non => .non
  | _, _, .bl b => .bl b
  | _, _, .int i => .int i
  | _, _, .str x => .str x
  | _, _, .lst h t => .lst (e _ _ h) (Dts.same e t)
  | _, _, .tup h t => .tup (e _ _ h) (Dts.same e t)
theorem Dts.same (e : Same H H') : ∀ {ds : List PyData} {vs : List V}, Dts H vs ds → Dts H' vs ds
  | _, _, .nil => .nil
  | _, _, .cons h t => .cons (Dt.same e h) (Dts.same e t)
end
mutual
theorem Dt.dp {K : PySem.W.Frag} : ∀ {d : PyData} {v : V}, Dt H v d → Dp K H v d
  | _, _, .non => .non
  | _, _, .bl b => .bl b
  | _, _, .int i => .int i
  | _, _, .str x => .str x
  | _, _, .lst h t => .lst (.inl (.inl h)) (Dts.dp t)
  | _, _, .tup h t => .tup (.inl (.inl h)) (Dts.dp t)
theorem Dts.dp {K : PySem.W.Frag} : ∀ {ds : List PyData} {vs : List V}, Dts H vs ds → DpAll K H vs ds
  | _, _, .nil => .nil
  | _, _, .cons h t => .cons (Dt.dp h) (Dts.dp t)
end
theorem Dts.length : ∀ {ds : List PyData} {vs : List V}, Dts H vs ds → vs.length = ds.length
  | _, _, .nil => rfl
  | _, _, .cons _ t => congrArg (· + 1) (Dts.length t)
theorem Dts.get : ∀ {ds : List PyData} {vs : List V} {i : Nat} {v : V}, Dts H vs ds → vs[i]? = some v → ∃ d, ds[i]? = some d ∧ Dt H v d
  | _, _, _, _, .nil, e => by simp at e
  | _, _, 0, _, .cons h _, e => by simp at e; subst e; exact ⟨_, rfl, h⟩
  | _, _, i + 1, v, .cons _ t, e => by
    obtain ⟨d, h1, h2⟩ := Dts.get (i := i) (v := v) t (by simpa using e)
    exact ⟨d, by simpa using h1, h2⟩
end

/-! ### repr of such data -/
section
variable {X : Cx}
/-- how large data is when it is shown -/
structure Fit (n : Nat) (d : PyData) : Prop where
  long : d.shown.length ≤ n
  deep : d.depth ≤ 40
  show' : d.showable = true
  flat : d.hasDict = false
def rRepr : List V → Hp → VK → Prop := fun xs H Q => ∃ (x : V) (d : PyData), xs = [x] ∧ Dt H x d ∧ Fit sizeLine d ∧ Q (.str d.shown) H
theorem call_repr (gd : X.A.guards = some []) (hu : X.A.units + 64 < cLine) : CallR X (.builtin "repr") rRepr := by
  intro pins s sg H xs us Q I r h
  obtain ⟨x, d, e, hd, fit, q⟩ := h
  subst e
  obtain ⟨u, rfl, ru⟩ := Vals.one r
  have line : d.shown.length ≤ sizeLine := fit.long
  match d, x, hd with
  | _, _, .non =>
    cases ru
    exact PySem.P.repr_of_none ⟨.str _, H, I.tok _, ⟨_, rfl⟩, by simpa only [PyData.shown] using q⟩
  | _, _, .bl b =>
    cases ru
    exact PySem.P.repr_of_bool ⟨.str _, H, I.tok _, ⟨_, rfl⟩, by simpa only [PyData.shown] using q⟩
  | _, _, .int i =>
    obtain ⟨t, rfl⟩ := ru
    have hz : i.natAbs.log2 < 1920 := of_decide_eq_true (by simpa only [PyData.showable] using fit.show')
    exact PySem.P.repr_of_int hz ⟨.str _, H, I.tok _, ⟨_, rfl⟩, by simpa only [PyData.shown] using q⟩
  | _, _, .str z =>
    obtain ⟨t, rfl⟩ := ru
    exact PySem.P.repr_of_str ⟨.str _, H, I.tok _, ⟨_, rfl⟩, by simpa only [PyData.shown] using q⟩ (by simpa only [PyData.shown] using line)
  | _, _, .lst ha ht =>
    obtain ⟨as, rd⟩ := Dp.reads I _ _ u (Dt.dp (.lst ha ht)) ru
    cases ru
    refine PySem.repr_of_reads' rd fit.show' (PyData.noDict_hsm fit.flat) gd (by have := fit.deep; omega) (fun _ _ z => z) (fun h' u' tk k => ?_) line
    exact ⟨.str _, H, I.kept k, ⟨_, rfl⟩, q⟩
  | _, _, .tup ha ht =>
    obtain ⟨as, rd⟩ := Dp.reads I _ _ u (Dt.dp (.tup ha ht)) ru
    cases ru
    refine PySem.repr_of_reads' rd fit.show' (PyData.noDict_hsm fit.flat) gd (by have := fit.deep; omega) (fun _ _ z => z) (fun h' u' tk k => ?_) line
    exact ⟨.str _, H, I.kept k, ⟨_, rfl⟩, q⟩
end
end Os
/-! len(set(xs)), xs a list of texts of any number below 4000 -/
namespace Os
open PySem PySem.Spec PyProof.Rows L2

/-- the texts met so far, each once -/
def once : List Str → List Str
  | [] => []
  | x :: r => if x ∈ once r then once r else x :: once r
/-- the same from the left, over the first i of them -/
def met (xs : List Str) (i : Nat) : List Str := once (xs.take i).reverse
theorem met_zero (xs : List Str) : met xs 0 = [] := rfl
theorem met_succ {xs : List Str} {i : Nat} {x : Str} (h : xs[i]? = some x) : met xs (i + 1) = if x ∈ met xs i then met xs i else x :: met xs i := by
  unfold met
  rw [List.take_add_one, h]
  show once ((xs.take i ++ [x]).reverse) = _
  rw [List.reverse_append]
  rfl
theorem once_mem : ∀ {l : List Str} {x : Str}, x ∈ once l ↔ x ∈ l
  | [], _ => Iff.rfl
  | y :: r, x => by
    have ih := @once_mem r
    unfold once
    split
    · rename_i hy
      rw [ih, List.mem_cons]
      exact ⟨.inr, fun z => z.elim (fun e => by rw [e]; exact ih.mp hy) id⟩
    · rw [List.mem_cons, List.mem_cons, ih]
theorem once_le : ∀ l : List Str, (once l).length ≤ l.length
  | [] => Nat.le_refl _
  | y :: r => by
    have ih := once_le r
    unfold once
    split
    · exact Nat.le_succ_of_le ih
    · exact Nat.succ_le_succ ih
theorem once_nodup : ∀ l : List Str, (once l).length = l.length ↔ l.Nodup
  | [] => ⟨fun _ => .nil, fun _ => rfl⟩
  | y :: r => by
    have ih := once_nodup r
    have le := once_le r
    unfold once
    rw [List.nodup_cons]
    split
    · rename_i hy
      constructor
      · intro e
        rw [List.length_cons] at e
        omega
      · intro e
        exact absurd (once_mem.mp hy) e.1
    · rename_i hy
      rw [List.length_cons, List.length_cons]
      constructor
      · intro e
        exact ⟨fun z => hy (once_mem.mpr z), ih.mp (Nat.succ.inj e)⟩
      · intro e
        rw [ih.mpr e.2]
theorem met_le (xs : List Str) (i : Nat) : (met xs i).length ≤ i := by
  refine Nat.le_trans (once_le _) ?_
  rw [List.length_reverse, List.length_take]
  exact Nat.min_le_left _ _
theorem met_all (xs : List Str) : (met xs xs.length).length = xs.length ↔ xs.Nodup := by
  unfold met
  rw [List.take_length]
  have := once_nodup xs.reverse
  rw [List.length_reverse] at this
  rw [this]
  unfold List.Nodup
  rw [List.pairwise_reverse]
  exact ⟨fun h => h.imp fun a => a.symm, fun h => h.imp fun a => a.symm⟩

section
variable {prog : Program} {w : World} {A : Around} {R : Result → Shared → Prop} {I : Addr} {fp wr : List Addr} {G : Array GenState → Array GenState → Prop} {n : Nat} {P : Nat → Value → Prop} {St : Nat → Shared → Prop}
/-- what the set at S holds behind i turns -/
abbrev Holds (prog : Program) (w : World) (xs : List Str) (S : Addr) (i : Nat) (h : Heap) : Prop :=
  h.SetOf (PySem.strKind prog w) S (fun k => decide (k ∈ met xs i)) (met xs i).length
theorem set_fill (W : WalksS prog w A.in1 I fp wr G n P St) (S : Addr) (out : S ∉ fp) (xs : List Str)
    (ln : xs.length = n) (val : ∀ i v, P i v → ∃ x t, xs[i]? = some x ∧ v = .str x t) (room : n + 1 < scanBound) :
    ∀ (left i : Nat) (s : Shared), i + left = n → St i s → Holds prog w xs S i s.heap →
      (∀ s', Moved (S :: wr) G s s' → Holds prog w xs S n s'.heap → R (.ok (.ret .none)) s') →
      codeAny (model prog w) A (.builtin "set.update.loop" ⟨[.ref S, .ref I], []⟩) R s := by
  have noS : S ∉ wr := fun z => out (W.sub _ z)
  have more : ∀ b ∈ wr, b ∈ S :: wr := fun _ z => List.mem_cons_of_mem _ z
  have carried : ∀ {i : Nat} {s s' : Shared}, Moved wr G s s' → Holds prog w xs S i s.heap → Holds prog w xs S i s'.heap := by
    rintro i s s' mv ⟨o, es, ep, t, ho, rest⟩
    exact ⟨o, es, ep, t, mv.heap S _ noS ho, rest⟩
  intro left
  induction left with
  | zero =>
    intro i s e st hS fin
    have ein : i = n := e
    subst ein
    refine codeAny_builtin PyProof.Rows.F.entry_set_update_loop ?_
    rw [Around.under_plainId PyProof.Rows.F.plain_set_update_loop _]
    refine wpAny_bind (m := pyNext (.ref I)) (W.done s _ _ st fun s' mv => ?_)
    exact wpAny_pure (fin s' (mv.mono more) (carried mv hS))
  | succ left ih =>
    intro i s e st hS fin
    have lt : i < n := by omega
    refine codeAny_builtin PyProof.Rows.F.entry_set_update_loop ?_
    rw [Around.under_plainId PyProof.Rows.F.plain_set_update_loop _]
    refine wpAny_bind (m := pyNext (.ref I)) (W.item i s _ _ lt st fun v s' hP st' mv => ?_)
    obtain ⟨x, t, hx, ev⟩ := val i v hP
    subst ev
    have hS1 := carried mv hS
    show wpAny _ A.in1 (holding [Value.str x t] (setAdd S (.str x t)) >>= _) _ _ s'
    refine wpAny_bind (wpAny_holding ?_)
    unfold setAdd
    refine wpAny_holding (wpAny_bind ((PySem.strKind prog w).pyHash (k := x) (strKind_is _ _ _ _) ?_))
    have fits : (met xs i).length + 1 < scanBound := by
      have := met_le xs i
      omega
    refine wpAny_setAddHashed_of (knd := PySem.strKind prog w) (s := { s' with toks := s'.toks + 1 }) (strKind_is _ _ _ _) rfl hS1 fits fun h' same hS2 => ?_
    have hS3 : Holds prog w xs S (i + 1) h' := by
      refine PyProof.Rows.SetOf_congr hS2 (fun k => ?_) ?_
      · rw [met_succ hx]
        by_cases m : x ∈ met xs i
        · rw [if_pos m]
          by_cases ek : k = x
          · subst ek
            simp [m]
          · simp [ek]
        · rw [if_neg m]
          by_cases ek : k = x
          · subst ek
            simp
          · simp [ek]
      · rw [met_succ hx]
        by_cases m : x ∈ met xs i
        · simp [m]
        · simp [m]
    refine wpAny_pure ⟨plainId_quiet PyProof.Rows.F.plain_set_update_loop _, ih (i + 1) _ (by omega) (W.frame _ s' _ _ st' (Nat.le_succ _) fun b hb o q => ?_) hS3 fun s2 mv2 hS4 => ?_⟩
    · rw [same.2 b (fun z : b = S => out (by rw [← z]; exact hb))]
      exact q
    · refine fin s2 (Moved.trans W.gtrans ((mv.mono more).then_heap (Nat.le_succ _) fun b o hb q => ?_) mv2) hS4
      rw [same.2 b (fun z : b = S => hb (by rw [z]; exact List.mem_cons_self))]
      exact q
end

section
variable {prog : Program} {w : World} {A : Around} {E : Value → Shared → Prop} {s : Shared}
/-- a new set -/
abbrev freshSet (led : Bool) : Obj := { cls := .type "set", dict := none, data := .set #[] 0 (.fresh 0 0 led) }
/-- its __init__ over a list of texts -/
theorem init_set_strs {l : Addr} {items : Array Value} {xs : List Str} {led : Bool} {R : Result → Shared → Prop} (hh : A.handled = none)
    (hl : s.heap.IsList l items) (hi : PyProof.Rows.StrsAre items.toList xs) (room : xs.length + 1 < scanBound)
    (h : ∀ (h' : Heap) (tk : Nat), Holds prog w xs s.heap.objs.size xs.length h' →
      (∀ b o, b < s.heap.objs.size → s.heap.get? b = some o → h'.get? b = some o) → R (.ok (.ret .none)) { s with heap := h', toks := tk }) :
    wpAny (model prog w) A.in1 (Builtin.«set.__init__» ⟨[.ref s.heap.objs.size, .ref l], []⟩) (fun fin s' => match fin with
        | .done f => R (.ok f) s'
        | .again c => c.quiet = true ∧ codeAny (model prog w) A c R s')
      (fun e s' => R (.error e) s') { s with heap := s.heap.push (freshSet led) } := by
  obtain ⟨⟨_, od, _, osl⟩, hol, rfl, nl, rfl⟩ := hl
  have there : (s.heap.push (freshSet led)).get? l = some ⟨.type "list", od, .seq items nl, osl⟩ := Heap.get?_push_of_some _ hol
  have newAt : (s.heap.push (freshSet led)).get? s.heap.objs.size = some (freshSet led) := Heap.get?_push_size _ rfl
  have lst1 : (s.heap.push (freshSet led)).IsList l items := ⟨_, there, rfl, nl, rfl⟩
  have hT : Shared.TypeIs { s with heap := s.heap.push (freshSet led) } (.ref s.heap.objs.size) "set" := ⟨_, newAt, rfl⟩
  have subS := PySem.F.sub_list_set
  have subF := PySem.F.sub_list_frozenset
  have notD : (Value.type "list" == Value.type "dict") = false := by decide
  unfold Builtin.«set.__init__» noKeywords Builtin.Frozenset.updateFrom
  generalize hPI : pyIter = PI
  wp_walk
  subst hPI
  refine wpAny_pyIter_list lst1 ?_
  refine wpAny_bind (wpAny_runValue ?_)
  have lS : l < s.heap.objs.size := Heap.lt_size hol
  have hh2 : A.in1.in1.handled = none := by simp [hh]
  have apart : l ≠ (s.heap.push (freshSet led)).objs.size := by
    rw [Heap.size_push]
    exact Nat.ne_of_lt (Nat.lt_succ_of_lt lS)
  have outer : s.heap.objs.size ∉ [(s.heap.push (freshSet led)).objs.size, l] := by
    rw [Heap.size_push]
    intro z
    rcases List.mem_cons.mp z with z | z
    · exact absurd z (Nat.ne_of_lt (Nat.lt_succ_self _))
    · exact absurd (List.mem_singleton.mp z) (Nat.ne_of_gt lS)
  have hsz : xs.length = items.size := by rw [← StrsAre.len_eq hi, Array.length_toList]
  have vals : ∀ (i : Nat) (v : Value), items[i]? = some v → ∃ x t, xs[i]? = some x ∧ v = .str x t := fun i v hv => by
    rw [← Array.getElem?_toList] at hv
    obtain ⟨t, e⟩ := SS.strs_at hi i v hv
    have lt : i < xs.length := by
      rw [← StrsAre.len_eq hi]
      exact (List.getElem?_eq_some_iff.mp hv).1
    refine ⟨xs[i], t, List.getElem?_eq_getElem lt, ?_⟩
    rw [e, List.getD_eq_getElem?_getD, List.getElem?_eq_getElem lt]
    rfl
  refine set_fill ((Walks.list hh2 _ l apart items).toS) s.heap.objs.size outer xs hsz vals (by rw [← hsz]; exact room) items.size 0 _ (Nat.zero_add _)
    ?start ?first ?last
  case start => exact ⟨⟨_, Heap.get?_push_size _ rfl, rfl, rfl⟩, (lst1.push _)⟩
  case first =>
    refine PyProof.Rows.SetOf_congr ((PyProof.Rows.setObjOf_fresh (knd := PySem.strKind prog w) led).setOf (Heap.get?_push_of_some _ newAt) (by unfold scanBound; omega)) (fun k => ?_) rfl
    rw [met_zero]
    rfl
  case last =>
    intro s' mv hS
    obtain ⟨h', g', d', tk', os'⟩ := s'
    have e1 : g' = s.gens := mv.gens
    have e2 : d' = s.drawn := mv.drawn
    have e3 : os' = s.os := mv.os
    subst e1 e2 e3
    show wpAny _ _ _ _ _ _
    refine wpAny_pure ?_
    refine wpAny_pure (h h' tk' (by rw [hsz]; exact hS) fun b o hb q => ?_)
    refine mv.heap b o (fun z => ?_) (Heap.get?_push_of_some _ (Heap.get?_push_of_some _ q))
    rcases List.mem_cons.mp z with z | z
    · exact absurd z (Nat.ne_of_lt hb)
    · rw [List.mem_singleton, Heap.size_push] at z
      exact absurd z (Nat.ne_of_lt (Nat.lt_succ_of_lt hb))

/-- set(xs), xs a list of texts -/
theorem call_set_strs {l : Addr} {items : Array Value} {xs : List Str} {Q : Value → Shared → Prop} (hh : A.handled = none)
    (hl : s.heap.IsList l items) (hi : PyProof.Rows.StrsAre items.toList xs) (room : xs.length + 1 < scanBound)
    (h : ∀ (h' : Heap) (tk : Nat), Holds prog w xs s.heap.objs.size xs.length h' →
      (∀ b o, b < s.heap.objs.size → s.heap.get? b = some o → h'.get? b = some o) → Q (.ref s.heap.objs.size) { s with heap := h', toks := tk }) :
    wpAny (model prog w) A (call (.type "set") [.ref l]) Q E s := by
  obtain ⟨c, tl, mro⟩ := PySem.F.called_set.mro
  have made := PySem.F.called_set.made
  have sub := PySem.F.called_set.sub
  have noTy := PySem.F.called_set.notType
  have creates := PySem.F.called_set.canCreate
  have typeCall := PySem.F.typeCall_set_1 (.ref l)
  refine wpAny_call (codeAny_of_tree ?_)
  show wpAny _ _ (callAny (.type "set") _) _ _ _
  refine wpAny_pure ⟨Code.quiet_builtin _ (by decide +kernel), codeAny_builtin PySem.F.entry_type_call ?_⟩
  rw [Around.under_plain (weight_type_call_type "set" [.ref l] []) rfl]
  repeat (any_goals (first | assumption | wp_step))
  refine codeAny_mono (code_set_new_1 (.ref l) (E := E) (Q₁ := fun v s₁ => ∃ led : Bool, v = .ref s.heap.objs.size ∧ s₁ = { s with heap := s.heap.push (freshSet led) }) fun led => ⟨led, rfl, rfl⟩) ?_
  intro r s1 hr
  match r, hr with
  | .error _, hr => exact hr
  | .ok .next, hr => exact hr.elim
  | .ok .brk, hr => exact hr.elim
  | .ok .cont, hr => exact hr.elim
  | .ok (.ret v), ⟨led, ev, es⟩ =>
    subst ev es
    have newAt : (s.heap.push (freshSet led)).get? s.heap.objs.size = some (freshSet led) := Heap.get?_push_size _ rfl
    have hT : Shared.TypeIs { s with heap := s.heap.push (freshSet led) } (.ref s.heap.objs.size) "set" := ⟨_, newAt, rfl⟩
    have initLook := PySem.F.called_set.init.lookup
    have initBind := PySem.F.called_set.init.bind (.ref s.heap.objs.size)
    repeat (any_goals (first | assumption | wp_step))
    refine codeAny_mono (codeAny_call_builtin (R := wants (fun v s2 => v = .none ∧ ∃ h' tk, s2 = { s with heap := h', toks := tk } ∧ Holds prog w xs s.heap.objs.size xs.length h' ∧
      (∀ b o, b < s.heap.objs.size → s.heap.get? b = some o → h'.get? b = some o)) E) PySem.F.called_set.init.plain PySem.F.entry_set_init (check_set_init_1 hT (init_set_strs (by simp [hh]) hl hi room fun h' tk a b => ⟨rfl, h', tk, rfl, a, b⟩))) ?_
    intro r2 s2 hr2
    match r2, hr2 with
    | .error _, hr2 => exact hr2
    | .ok .next, hr2 => exact hr2.elim
    | .ok .brk, hr2 => exact hr2.elim
    | .ok .cont, hr2 => exact hr2.elim
    | .ok (.ret v2), ⟨ev2, h', tk, es2, a, b⟩ =>
      subst ev2 es2
      repeat (any_goals (first | assumption | wp_step))
      exact h _ _ a b
end

/-- len(set(xs)) -/
def tLenSetS (K : PySem.W.Frag) (ta : TE) : TE := fun σ H Q => ta σ H fun x H1 => ∃ (l : Addr) (xs : List Str), x = .ref l ∧ SqL K H1 l (xs.map V.str) ∧ xs.length ≤ 4000 ∧ Q (.int (met xs xs.length).length) H1
theorem pe_lenSetS {X : Cx} {a : Expr} {ta : TE} {p p2 q pos : Pos} (hg : Gl X "len") (hm : X.mg "len" = none) (hg2 : Gl X "set") (hm2 : X.mg "set" = none) (ha : PE X a ta) (hc : X.calm = true := by rfl)
    (na : starEach [a] X.env = (false, eval a X.env) :: starEach [] X.env := by rfl) : PE X (.Call (.Name "len" p) [.Call (.Name "set" p2) [a] [] q] [] pos) (tLenSetS X.K ta) := by
  constructor
  intro pins s sg H Q I h
  refine Call_ (ld_blt I hg hm boot_len ?_)
  refine PyProof.Rows.callWith_builtin1 (PyProof.Rows.args_cons ?_ rfl) rfl rfl
  refine Call_ (ld_blt I hg2 hm2 boot_set ?_)
  refine PyProof.Rows.callWith_type1 (PyProof.Rows.args_cons (thn (ha.run pins s sg H _ I h) ?_) na) na rfl
  rintro v s1 ⟨x, H1, I1, r1, l, xs, ex, hq, hl, q1⟩
  refine PyProof.Rows.args_nil ?_
  subst ex
  cases r1
  obtain ⟨its, r, pl, hz⟩ := I1.list hq
  refine call_set_strs (I1.ok.hd hc) pl.isList (by simpa using Vals.strs r) (by unfold scanBound; omega) fun h' tk hS hk => ?_
  refine PyProof.Rows.args_nil ?_
  obtain ⟨o, es, ep, t, ho, hex, hd, _, _, _, hf, hn⟩ := hS
  have I2 : Inv X pins sg H1 { s1 with heap := h', toks := tk } := I1.kept fun b o e => hk b o (Heap.lt_size e) e
  have small : (met xs xs.length).length ≤ 4000 := Nat.le_trans (met_le xs _) hl
  exact call_len_set ho hex hd hf (by rw [hn]; omega) ⟨.int (met xs xs.length).length, H1, I2.tok _, ⟨_, by rw [hn]⟩, q1⟩
end Os
namespace Os
open PySem PySem.Spec PyProof.Rows L2

/-! ### kinds of data -/
def tyName : PyData → String
  | .none => "NoneType"
  | .bool _ => "bool"
  | .int _ => "int"
  | .str _ => "str"
  | .list _ => "list"
  | .tuple _ => "tuple"
  | .dict _ => "dict"
def isStrD : PyData → Bool
  | .str _ => true
  | _ => false
def isListD : PyData → Bool
  | .list _ => true
  | _ => false
def isTupD : PyData → Bool
  | .tuple _ => true
  | _ => false
theorem kit_str (d : PyData) : kitB (tyName d) "str" = some (isStrD d) := by
  cases d <;> (simp only [tyName, isStrD, isListD, isTupD]; decide +kernel)
theorem kit_list (d : PyData) : kitB (tyName d) "list" = some (isListD d) := by
  cases d <;> (simp only [tyName, isStrD, isListD, isTupD]; decide +kernel)
theorem kit_tup (d : PyData) : kitB (tyName d) "tuple" = some (isTupD d) := by
  cases d <;> (simp only [tyName, isStrD, isListD, isTupD]; decide +kernel)
section
variable {H H' : Hp} {v : V} {d : PyData} {K : PySem.W.Frag}
theorem Dt.ty (h : Dt H v d) : TyOf K H v (.type (tyName d)) := by
  cases h with
  | non => exact .non
  | bl b => exact .bl b
  | int i => exact .int i
  | str x => exact .str x
  | lst ha _ => exact .lst ha
  | tup ha _ => exact .tup ha
theorem isi_of {T : String} {b : Bool} {Q : VK} (h : Dt H v d) (e : kitB (tyName d) T = some b) (q : Q (.bl b) H) : rIsi K [v, .ty T] H Q :=
  ⟨v, .ty T, _, _, b, rfl, .ty T, .base h.ty, kit_ty e, q⟩
theorem Dt.str_or (h : Dt H v d) : (∃ z, v = .str z ∧ d = .str z) ∨ isStrD d = false := by
  cases h with
  | str x => exact .inl ⟨x, rfl, rfl⟩
  | _ => exact .inr rfl
theorem Dt.list_or (h : Dt H v d) : (∃ a xs ds, v = .ref a ∧ H a = some (.lst xs) ∧ Dts H xs ds ∧ d = .list ds) ∨ isListD d = false := by
  cases h with
  | lst ha t => exact .inl ⟨_, _, _, rfl, ha, t, rfl⟩
  | _ => exact .inr rfl
theorem Dt.tup_or (h : Dt H v d) : (∃ a xs ds, v = .ref a ∧ H a = some (.tup xs) ∧ Dts H xs ds ∧ d = .tuple ds) ∨ isTupD d = false := by
  cases h with
  | tup ha t => exact .inl ⟨_, _, _, rfl, ha, t, rfl⟩
  | _ => exact .inr rfl
end
/-! ### heaps but for one address -/
/-- H without what stands at s -/
def hide (s : Addr) (H : Hp) : Hp := fun b => if b = s then none else H b
theorem hide_ne {s b : Addr} {H : Hp} (h : b ≠ s) : hide s H b = H b := if_neg h
theorem hide_at {s : Addr} {H : Hp} : hide s H s = none := if_pos rfl
theorem hide_of {s b : Addr} {H : Hp} {o : HO} (h : hide s H b = some o) : b ≠ s ∧ H b = some o := by
  unfold hide at h
  split at h
  · cases h
  · exact ⟨by assumption, h⟩
theorem hide_same {s : Addr} {H : Hp} : Same (hide s H) H := fun _ _ h => (hide_of h).2
theorem Same.hide {s : Addr} {H H' : Hp} (e : Same H H') : Same (Os.hide s H) (Os.hide s H') := fun b o h => by
  obtain ⟨h1, h2⟩ := hide_of h
  rw [hide_ne h1]
  exact e b o h2
theorem hide_upd {s : Addr} {H : Hp} {o : HO} : Os.hide s (upd H s o) = Os.hide s H := by
  funext b
  by_cases e : b = s
  · rw [e, hide_at, hide_at]
  · rw [hide_ne e, hide_ne e, upd_ne e]
theorem same_new {H : Hp} {p : Addr} {o : HO} (h : H p = none) : Same H (upd H p o) := fun b u e => by
  rw [upd_ne (ne_of_none e h)]
  exact e
/-- what H does not know may change -/
theorem same_mut {H H' : Hp} {p : Addr} {o : HO} (e : Same H H') (h : H p = none) : Same H (upd H' p o) := fun b u q => by
  rw [upd_ne (ne_of_none q h)]
  exact e b u q
theorem Same.none {H H' : Hp} (e : Same H H') {p : Addr} (h : H' p = Option.none) : H p = Option.none := e.free h
theorem hide_none {s p : Addr} {H : Hp} (h : H p = Option.none) : Os.hide s H p = Option.none := by
  unfold Os.hide
  split
  · rfl
  · exact h
end Os
namespace Os
open PySem PySem.Spec PyProof.Rows L2 Evl

/-! ### more of what evaluates to what -/
section
variable {K : PySem.W.Frag} {σ : L2.St} {H H' : Hp} {ta tb tc te : TE} {t : TT} {x y z v : V} {r r' : R2}
theorem same_ex (e : Ex H H') : Same H H' := e
theorem ev_isi {T : String} {b : Bool} {d : PyData} (h : Ev ta σ H v) (hd : Dt H v d) (e : kitB (tyName d) T = some b) :
    Ev (tCB (rIsi K) (tCons ta (tCons (tC (.ty T)) tNil))) σ H (.bl b) := fun H1 e1 Q q =>
  h H1 e1 _ fun H2 e2 => isi_of (hd.same (same_ex (e1.trans e2))) e (q H2 e2)
theorem ev_lenS {s : Str} (h : Ev ta σ H (.str s)) (hl : s.length ≤ 100000) :
    Ev (tCB (fun xs H Q => ∃ z, xs = [.str z] ∧ z.length ≤ sizeLine ∧ Q (.int z.length) H) (tCons ta tNil)) σ H (.int s.length) := fun H1 e1 Q q =>
  h H1 e1 _ fun H2 e2 => ⟨s, rfl, sz_of hl, q H2 e2⟩
theorem ev_chain {b c : Bool} (h1 : Ev ta σ H x) (h2 : Ev tb σ H y) (hr : RV r x y H (.bl b)) (h3 : b = true → ∃ z, Ev tc σ H z ∧ RV r' y z H (.bl c)) :
    Ev (tChain r r' ta tb tc) σ H (.bl (b && c)) := fun H1 e Q q =>
  h1 H1 e _ fun H2 e2 => h2 H2 (e.trans e2) _ fun H3 e3 => hr H3 ((e.trans e2).trans e3) _ fun H4 e4 => ⟨b, rfl, by
    cases b with
    | true =>
      obtain ⟨z, hz, hs⟩ := h3 rfl
      show tc σ H4 _
      exact hz H4 (((e.trans e2).trans e3).trans e4) _ fun H5 e5 => hs H5 ((((e.trans e2).trans e3).trans e4).trans e5) Q fun H6 e6 => q H6 ((((e2.trans e3).trans e4).trans e5).trans e6)
    | false =>
      show Q (.bl false) H4
      exact q H4 ((e2.trans e3).trans e4)⟩
theorem rv_leS {i j : Str} : RV (fun x y H Q => ∃ i j, x = .str i ∧ y = .str j ∧ Q (.bl (!decide (j.cps.toList < i.cps.toList))) H) (.str i) (.str j) H (.bl (!decide (j.cps.toList < i.cps.toList))) :=
  fun H1 _ _ q => ⟨i, j, rfl, rfl, q H1 (Ex.refl H1)⟩
theorem rv_notInSign {c : Nat} {s : Str} : RV (fun x y H Q => ∃ (c : Nat) (z : Str), x = .str ⟨#[c]⟩ ∧ y = .str z ∧ Q (.bl (!decide (c ∈ z.cps.toList))) H) (.str ⟨#[c]⟩) (.str s) H (.bl (!decide (c ∈ s.cps.toList))) :=
  fun H1 _ _ q => ⟨c, s, rfl, rfl, q H1 (Ex.refl H1)⟩
theorem ev_abs {i : Int} (h : Ev ta σ H (.int i)) : Ev (tCB (fun xs H Q => ∃ i, xs = [V.int i] ∧ Q (.int (if i < 0 then -i else i)) H) (tCons ta tNil)) σ H (.int (if i < 0 then -i else i)) := fun H1 e1 Q q =>
  h H1 e1 _ fun H2 e2 => ⟨i, rfl, q H2 e2⟩
theorem ev_max {i j : Int} (ha : Ev ta σ H (.int i)) (hb : Ev tb σ H (.int j)) : Ev (tCB (fun xs H Q => ∃ i j, xs = [V.int i, .int j] ∧ Q (.int (if j > i then j else i)) H) (tCons ta (tCons tb tNil))) σ H (.int (if j > i then j else i)) := fun H1 e1 Q q =>
  ha H1 e1 _ fun H2 e2 => hb H2 (e1.trans e2) _ fun H3 e3 => ⟨i, j, rfl, q H3 (e2.trans e3)⟩
theorem ev_min {i j : Int} (ha : Ev ta σ H (.int i)) (hb : Ev tb σ H (.int j)) : Ev (tCB (fun xs H Q => ∃ i j, xs = [V.int i, .int j] ∧ Q (.int (if j < i then j else i)) H) (tCons ta (tCons tb tNil))) σ H (.int (if j < i then j else i)) := fun H1 e1 Q q =>
  ha H1 e1 _ fun H2 e2 => hb H2 (e1.trans e2) _ fun H3 e3 => ⟨i, j, rfl, q H3 (e2.trans e3)⟩
theorem ev_all {bs : List Bool} (h : EvL ta σ H (bs.map V.bl)) : Ev (tCB (rAll K) (tCons ta tNil)) σ H (.bl (bs.all id)) := fun H1 e Q q =>
  h H1 e _ fun p H2 _ e2 hp => ⟨p, bs, rfl, sq_of hp, q H2 e2⟩
theorem ev_repr {d : PyData} (h : Ev ta σ H v) (hd : Dt H v d) (fit : Fit sizeLine d) : Ev (tCB rRepr (tCons ta tNil)) σ H (.str d.shown) := fun H1 e Q q =>
  h H1 e _ fun H2 e2 => ⟨v, d, rfl, hd.same (same_ex (e.trans e2)), fit, q H2 e2⟩
theorem ev_reprL {xs : List V} {ds : List PyData} (h : EvL ta σ H xs) (hd : Dts H xs ds) (fit : Fit sizeLine (.list ds)) : Ev (tCB rRepr (tCons ta tNil)) σ H (.str (PyData.list ds).shown) := fun H1 e Q q =>
  h H1 e _ fun p H2 _ e2 hp => ⟨.ref p, .list ds, rfl, .lst hp (hd.same (same_ex (e.trans e2))), fit, q H2 e2⟩
/-- two lists, the left a new one, the right a new one, of data -/
theorem ev_eqLL {xs ys : List V} {ds es : List PyData} (ha : EvL ta σ H xs) (hb : EvL tb σ H ys) (hx : Dts H xs ds) (hy : Dts H ys es) (s1 : SeqAt.shaped (.list ds) = true) (s2 : SeqAt.shaped (.list es) = true) :
    Ev (tOp (rEqD K) ta tb) σ H (.bl (PyData.eqv (.list ds) (.list es))) :=
  ev_opLL ha hb fun p q H1 hp hq e => fun H2 e2 Q k => ⟨.list ds, .list es, Dt.dp (.lst (e2 _ _ hp) (hx.same (same_ex (e.trans e2)))), Dt.dp (.lst (e2 _ _ hq) (hy.same (same_ex (e.trans e2)))), s1, s2, k H2 (Ex.refl H2)⟩
/-- a call of a def that makes nothing but a value -/
theorem ev_sp {sp : Sp} {dvs vs : List V} {E : XK} {ta : TA} (h : EvA ta σ H vs) (hs : ∀ H1, Ex H H1 → ∀ Q : VK, (∀ H2, Ex H1 H2 → Q z H2) → sp (vs ++ dvs) H1 Q E) : Ev (tCall sp dvs E ta) σ H z := fun H1 e Q q =>
  h H1 e _ fun H2 e2 => hs H2 (e.trans e2) Q fun H3 e3 => q H3 (e2.trans e3)
/-- a comprehension over a text -/
theorem el_lcS {s : Str} {j : Nat} {vs : List Nat} {tl : TE} (f : Nat → Bool) (v : Nat → V) (h : Ev tl σ H (.str s)) (hz : s.length ≤ 40000) (hw : ∀ x, wipe ((wipe σ vs).set j (some x)) vs = wipe σ vs)
    (ht : ∀ (i c : Nat) H1, Ex H H1 → s.cps.toList[i]? = some c → EvT t ((wipe σ vs).set j (some (.str ⟨#[c]⟩))) H1 (f i))
    (he : ∀ (i c : Nat) H1, Ex H H1 → s.cps.toList[i]? = some c → f i = true → Ev te ((wipe σ vs).set j (some (.str ⟨#[c]⟩))) H1 (v i)) :
    EvL (tLc (iStr tl) (gName j) t te vs) σ H (given s.length f v) := fun H0 e Q q => h H0 e _ fun H1 e1 => ⟨s, rfl, fun Dl hD =>
  lc_it (walk_str (z := s)) (Cw H1 f v Dl) ⟨hD, Ex.new hD, upd_same⟩ (fun _ _ _ _ => trivial) (fun i x Ha Hb hi p y => by
    obtain ⟨rfl, c, hc, rfl⟩ := y
    have hc' : s.cps.toList[i]? = some c := by rw [Array.getElem?_toList]; exact hc
    have hi2 : i < s.length := hi
    exact ⟨hw _, cw_turn p (by omega) (ht i c H1 (e.trans e1) hc') (fun hf => he i c H1 (e.trans e1) hc' hf)⟩)
    (fun Hc p => q Dl Hc (fresh_back e1 p.1) (e1.trans p.2.1) p.2.2)⟩
end

/-! ### what a comprehension gives, by the items -/
theorem given_map {α : Type} (xs : List α) (g : α → V) (v : Nat → V) (h : ∀ i x, xs[i]? = some x → v i = g x) : given xs.length (fun _ => true) v = xs.map g := by
  unfold given
  rw [List.filter_eq_self.mpr (fun _ _ => rfl)]
  refine List.ext_getElem? fun i => ?_
  rw [List.getElem?_map, List.getElem?_map]
  by_cases hi : i < xs.length
  · rw [List.getElem?_range hi, List.getElem?_eq_getElem hi]
    exact congrArg some (h i _ (List.getElem?_eq_getElem hi))
  · rw [List.getElem?_eq_none (by rw [List.length_range]; omega), List.getElem?_eq_none (by omega)]
    rfl
theorem given_part {α : Type} (g : α → V) (p : α → Bool) (f : Nat → Bool) (v : Nat → V) (xs : List α) (hf : ∀ i x, xs[i]? = some x → f i = p x) (hv : ∀ i x, xs[i]? = some x → v i = g x) :
    ∀ n, n ≤ xs.length → given n f v = ((xs.take n).filter p).map g
  | 0, _ => rfl
  | n + 1, hn => by
    have lt : n < xs.length := hn
    have e := List.getElem?_eq_getElem lt
    have ih := given_part g p f v xs hf hv n (Nat.le_of_lt lt)
    rw [List.take_add_one, e]
    show _ = ((xs.take n ++ [xs[n]]).filter p).map g
    rw [List.filter_append, List.map_append, ← ih]
    cases hp : p xs[n] with
    | true =>
      rw [given_yes (by rw [hf _ _ e]; exact hp), hv _ _ e, List.filter_cons, if_pos hp]
      rfl
    | false =>
      rw [given_no (by rw [hf _ _ e]; exact hp), List.filter_cons, if_neg (by rw [hp]; decide)]
      rw [List.filter_nil, List.map_nil, List.append_nil]
theorem given_filter {α : Type} (g : α → V) (p : α → Bool) (f : Nat → Bool) (v : Nat → V) (xs : List α) (hf : ∀ i x, xs[i]? = some x → f i = p x) (hv : ∀ i x, xs[i]? = some x → v i = g x) :
    given xs.length f v = (xs.filter p).map g := by
  rw [given_part g p f v xs hf hv _ (Nat.le_refl _), List.take_length]
theorem given_eq {n : Nat} {f g : Nat → Bool} {v u : Nat → V} (hf : ∀ i, i < n → f i = g i) (hv : ∀ i, i < n → v i = u i) : given n f v = given n g u := by
  unfold given
  rw [List.filter_congr (q := g) (fun i hi => hf i (List.mem_range.mp hi))]
  exact List.map_congr_left fun i hi => hv i (List.mem_range.mp (List.mem_filter.mp hi).1)
end Os
/-! forests: the mathematics, and pairs of ints in the heap -/
namespace Os
open PySem PySem.Spec PyProof.Rows L2 Evl

abbrev Pr := Nat × Nat
/-! ### labels that are merged: the program's search for a cycle -/
def merge (t : List Nat) (e : Pr) : List Nat := t.map fun x => if x = t.getD e.2 0 then t.getD e.1 0 else x
def cycB : List Pr → List Nat → Bool
  | [], _ => false
  | e :: r, t => if t.getD e.1 0 = t.getD e.2 0 then true else cycB r (merge t e)
/-- each edge has a side that all other edges respect -/
def Bridges (es : List Pr) : Prop := ∀ e ∈ es, ∃ S : Nat → Bool, S e.1 ≠ S e.2 ∧ ∀ f ∈ es, f ≠ e → S f.1 = S f.2
theorem merge_length (t : List Nat) (e : Pr) : (merge t e).length = t.length := List.length_map ..
theorem getD_map {f : Nat → Nat} {t : List Nat} {i : Nat} (h : i < t.length) : (t.map f).getD i 0 = f (t.getD i 0) := by
  rw [List.getD_eq_getElem?_getD, List.getD_eq_getElem?_getD, List.getElem?_map, List.getElem?_eq_getElem h]
  rfl
/-- labels are equal only where every respected side is -/
def Fine (t : List Nat) (done : List Pr) : Prop := ∀ x y, x < t.length → y < t.length → t.getD x 0 = t.getD y 0 → ∀ S : Nat → Bool, (∀ f ∈ done, S f.1 = S f.2) → S x = S y
theorem fine_start (n : Nat) : Fine (List.range n) [] := fun x y hx hy e S _ => by
  rw [List.length_range] at hx hy
  rw [List.getD_eq_getElem?_getD, List.getD_eq_getElem?_getD, List.getElem?_range hx, List.getElem?_range hy] at e
  have e2 : x = y := e
  rw [e2]
theorem fine_merge {t : List Nat} {done : List Pr} {e : Pr} (h : Fine t done) (h1 : e.1 < t.length) (h2 : e.2 < t.length) : Fine (merge t e) (done ++ [e]) := fun x y hx hy q S hS => by
  rw [merge_length] at hx hy
  unfold merge at q
  rw [getD_map hx, getD_map hy] at q
  have hd : ∀ f ∈ done, S f.1 = S f.2 := fun f hf => hS f (List.mem_append_left _ hf)
  have he : S e.1 = S e.2 := hS e (by simp)
  by_cases a : t.getD x 0 = t.getD e.2 0
  · have sx := h x e.2 hx h2 a S hd
    by_cases b : t.getD y 0 = t.getD e.2 0
    · rw [sx, h y e.2 hy h2 b S hd]
    · rw [if_pos a, if_neg b] at q
      rw [sx, ← he, h e.1 y h1 hy q S hd]
  · by_cases b : t.getD y 0 = t.getD e.2 0
    · rw [if_neg a, if_pos b] at q
      rw [h x e.1 hx h1 q S hd, he, h y e.2 hy h2 b S hd]
    · rw [if_neg a, if_neg b] at q
      exact h x y hx hy q S hd
theorem cyc_none {es : List Pr} (br : Bridges es) (nd : es.Nodup) : ∀ (r done : List Pr) (t : List Nat), es = done ++ r → (∀ e ∈ r, e.1 < t.length ∧ e.2 < t.length) → Fine t done → cycB r t = false
  | [], _, _, _, _, _ => rfl
  | e :: r, done, t, he, hb, hf => by
    obtain ⟨b1, b2⟩ := hb e List.mem_cons_self
    obtain ⟨S, s1, s2⟩ := br e (by rw [he]; simp)
    have ne : ¬ t.getD e.1 0 = t.getD e.2 0 := fun q => s1 (hf e.1 e.2 b1 b2 q S fun f hf' => s2 f (by rw [he]; exact List.mem_append_left _ hf') fun z => by
      rw [he] at nd
      exact (List.nodup_append.mp nd).2.2 f hf' e List.mem_cons_self z)
    unfold cycB
    rw [if_neg ne]
    refine cyc_none br nd r (done ++ [e]) (merge t e) (by rw [he, List.append_assoc]; rfl) (fun f hf' => ?_) (fine_merge hf b1 b2)
    rw [merge_length]
    exact hb f (List.mem_cons_of_mem _ hf')
/-! ### order of pairs -/
def ltP (e f : Pr) : Bool := decide (e.1 < f.1) || (decide (e.1 = f.1) && decide (e.2 < f.2))
def ascB : List Pr → Bool
  | e :: f :: r => ltP e f && ascB (f :: r)
  | _ => true
/-- a forest's edges -/
structure Edges (n : Nat) (es : List Pr) : Prop where
  inn : ∀ e ∈ es, e.1 < e.2 ∧ e.2 < n
  asc : es.Pairwise fun e f => ltP e f = true
  br : Bridges es
theorem ltP_irr (e : Pr) : ltP e e = false := by
  unfold ltP
  rw [decide_eq_false (Nat.lt_irrefl _), decide_eq_false (Nat.lt_irrefl _), Bool.and_false]
  rfl
theorem ltP_iff {e f : Pr} : ltP e f = true ↔ e.1 < f.1 ∨ (e.1 = f.1 ∧ e.2 < f.2) := by
  unfold ltP
  simp only [Bool.or_eq_true, Bool.and_eq_true, decide_eq_true_eq]
theorem ltP_trans {e f g : Pr} (h1 : ltP e f = true) (h2 : ltP f g = true) : ltP e g = true := by
  rw [ltP_iff] at *
  omega
theorem Edges.nodup {n : Nat} {es : List Pr} (h : Edges n es) : es.Nodup := h.asc.imp fun {a b} q e => by
  rw [e, ltP_irr] at q
  cases q
theorem asc_of : ∀ {es : List Pr}, es.Pairwise (fun e f => ltP e f = true) → ascB es = true
  | [], _ => rfl
  | [_], _ => rfl
  | e :: f :: r, h => by
    obtain ⟨h1, h2⟩ := List.pairwise_cons.mp h
    show (ltP e f && ascB (f :: r)) = true
    rw [h1 f List.mem_cons_self, asc_of h2]
    rfl
theorem Edges.no_cyc {n : Nat} {es : List Pr} (h : Edges n es) : cycB es (List.range n) = false :=
  cyc_none h.br h.nodup es [] _ rfl (fun e he => by
    rw [List.length_range]
    have := h.inn e he
    omega) (fine_start n)

/-! ### pairs in the heap -/
/-- v is a tuple of the two ints -/
def PrV (G : Hp) (v : V) (e : Pr) : Prop := ∃ t, v = .ref t ∧ G t = some (.tup [.int (e.1 : Int), .int (e.2 : Int)])
inductive PrsV (G : Hp) : List V → List Pr → Prop
  | nil : PrsV G [] []
  | cons {v : V} {vs : List V} {e : Pr} {es : List Pr} : PrV G v e → PrsV G vs es → PrsV G (v :: vs) (e :: es)
theorem PrV.ex {G G' : Hp} (h : Ex G G') {v : V} {e : Pr} (p : PrV G v e) : PrV G' v e := by
  obtain ⟨t, e1, e2⟩ := p
  exact ⟨t, e1, h _ _ e2⟩
theorem PrsV.ex {G G' : Hp} (h : Ex G G') : ∀ {vs : List V} {es : List Pr}, PrsV G vs es → PrsV G' vs es
  | _, _, .nil => .nil
  | _, _, .cons p r => .cons (p.ex h) (PrsV.ex h r)
theorem PrsV.length {G : Hp} : ∀ {vs : List V} {es : List Pr}, PrsV G vs es → vs.length = es.length
  | _, _, .nil => rfl
  | _, _, .cons _ r => congrArg (· + 1) (PrsV.length r)
theorem PrsV.get {G : Hp} : ∀ {vs : List V} {es : List Pr} {i : Nat} {v : V}, PrsV G vs es → vs[i]? = some v → ∃ e, es[i]? = some e ∧ PrV G v e
  | _, _, _, _, .nil, h => by simp at h
  | _, _, 0, _, .cons p _, h => by simp at h; subst h; exact ⟨_, rfl, p⟩
  | _, _, i + 1, v, .cons _ r, h => by
    obtain ⟨e, h1, h2⟩ := PrsV.get (i := i) (v := v) r (by simpa using h)
    exact ⟨e, by simpa using h1, h2⟩
theorem PrsV.get' {G : Hp} : ∀ {vs : List V} {es : List Pr} {i : Nat} {e : Pr}, PrsV G vs es → es[i]? = some e → ∃ v, vs[i]? = some v ∧ PrV G v e
  | _, _, _, _, .nil, h => by simp at h
  | _, _, 0, _, .cons p _, h => by simp at h; subst h; exact ⟨_, rfl, p⟩
  | _, _, i + 1, e, .cons _ r, h => by
    obtain ⟨v, h1, h2⟩ := PrsV.get' (i := i) (e := e) r (by simpa using h)
    exact ⟨v, by simpa using h1, h2⟩
theorem PrsV.append {G : Hp} : ∀ {vs us : List V} {es fs : List Pr}, PrsV G vs es → PrsV G us fs → PrsV G (vs ++ us) (es ++ fs)
  | _, _, _, _, .nil, r => r
  | _, _, _, _, .cons p q, r => .cons p (PrsV.append q r)
theorem PrsV.drop {G : Hp} : ∀ {vs : List V} {es : List Pr} (i : Nat), PrsV G vs es → PrsV G (vs.drop i) (es.drop i)
  | _, _, 0, h => h
  | _, _, _ + 1, .nil => .nil
  | _, _, i + 1, .cons _ r => PrsV.drop i r
theorem PrsV.take {G : Hp} : ∀ {vs : List V} {es : List Pr} (i : Nat), PrsV G vs es → PrsV G (vs.take i) (es.take i)
  | _, _, 0, _ => .nil
  | _, _, _ + 1, .nil => .nil
  | _, _, i + 1, .cons p r => .cons p (PrsV.take i r)
theorem PrsV.reverse {G : Hp} : ∀ {vs : List V} {es : List Pr}, PrsV G vs es → PrsV G vs.reverse es.reverse
  | _, _, .nil => .nil
  | _, _, .cons p r => by
    rw [List.reverse_cons, List.reverse_cons]
    exact PrsV.append (PrsV.reverse r) (.cons p .nil)
theorem PrsV.perm {G : Hp} {vs us : List V} (h : vs.Perm us) : ∀ {es : List Pr}, PrsV G us es → ∃ fs, PrsV G vs fs ∧ fs.Perm es := by
  induction h with
  | nil => exact fun h => ⟨_, h, List.Perm.refl _⟩
  | cons x _ ih =>
    intro es h
    cases h with
    | cons p r =>
      obtain ⟨fs, h1, h2⟩ := ih r
      exact ⟨_, .cons p h1, h2.cons _⟩
  | swap x y l =>
    intro es h
    cases h with
    | cons p r =>
      cases r with
      | cons q r => exact ⟨_, .cons q (.cons p r), List.Perm.swap _ _ _⟩
  | trans _ _ ih1 ih2 =>
    intro es h
    obtain ⟨fs, h1, h2⟩ := ih2 h
    obtain ⟨gs, h3, h4⟩ := ih1 h1
    exact ⟨gs, h3, h4.trans h2⟩
def prD (e : Pr) : PyData := .tuple [.int (e.1 : Int), .int (e.2 : Int)]
theorem PrV.dt {G : Hp} {v : V} {e : Pr} (p : PrV G v e) : Dt G v (prD e) := by
  obtain ⟨t, rfl, h⟩ := p
  exact .tup h (.cons (.int _) (.cons (.int _) .nil))
theorem PrsV.dts {G : Hp} : ∀ {vs : List V} {es : List Pr}, PrsV G vs es → Dts G vs (es.map prD)
  | _, _, .nil => .nil
  | _, _, .cons p r => .cons p.dt (PrsV.dts r)
end Os
namespace K15
open PySem PySem.Spec PyProof.Rows L2 Os Evl
def topS (i : Nat) : Stmt := PySem.Challenge.pw_onceswapped_k15_errors_of_turns.main.body.getD i (.Pass ⟨0, 0, 0, 0⟩)
abbrev sInt : Stmt := topS 17
theorem scInt : FnScope ["thing"] ["thing"] (defScope sInt) := ⟨rfl, rfl, rfl, by decide +kernel, rfl, by decide +kernel, by decide +kernel⟩
abbrev sPos : Stmt := topS 18
theorem scPos : FnScope ["n", "thing"] ["n", "thing"] (defScope sPos) := ⟨rfl, rfl, rfl, by decide +kernel, rfl, by decide +kernel, by decide +kernel⟩
abbrev sEdge : Stmt := topS 19
theorem scEdge : FnScope ["n", "thing", "p", "q"] ["n", "thing"] (defScope sEdge) := ⟨rfl, rfl, rfl, by decide +kernel, rfl, by decide +kernel, by decide +kernel⟩
abbrev sForest : Stmt := topS 20
theorem scForest : FnScope ["thing", "n", "edges", "edge"] ["thing"] (defScope sForest) := ⟨rfl, rfl, rfl, by decide +kernel, rfl, by decide +kernel, by decide +kernel⟩
abbrev sAsc : Stmt := topS 21
theorem scAsc : FnScope ["edges", "edge", "following"] ["edges"] (defScope sAsc) := ⟨rfl, rfl, rfl, by decide +kernel, rfl, by decide +kernel, by decide +kernel⟩
abbrev sCyc : Stmt := topS 22
theorem scCyc : FnScope ["n", "edges", "tree_of", "p", "q", "kept", "joined", "tree"] ["n", "edges"] (defScope sCyc) := ⟨rfl, rfl, rfl, by decide +kernel, rfl, by decide +kernel, by decide +kernel⟩

section
variable {P : Program} {w : World} {K : PySem.W.Frag} {mg : Str → Option Value} {base : Heap}
def intB : PyData → Bool
  | .int _ => true
  | _ => false
def numB : PyData → Bool
  | .int _ => true
  | .bool _ => true
  | _ => false
def isBlD : PyData → Bool
  | .bool _ => true
  | _ => false
theorem kit_int (d : PyData) : kitB (tyName d) "int" = some (numB d) := by
  cases d <;> (simp only [tyName, numB]; decide +kernel)
theorem kit_bool (d : PyData) : kitB (tyName d) "bool" = some (isBlD d) := by
  cases d <;> (simp only [tyName, isBlD]; decide +kernel)
def spInt : Sp := fun vs H Q _ => ∃ v d, vs = [v] ∧ Dt H v d ∧ ∀ H', Ex H H' → Q (.bl (intB d)) H'
theorem ok_int {f : Addr} {fd : FuncData} {k : Nat} (F : Fun K "is_integer" "is_integer" sInt f fd) (mIsi : mg "isinstance" = none) (mInt : mg "int" = none) (mBool : mg "bool" = none) : FnOk P w K mg base CX0 (k + 1) f fd ["thing"] spInt := by
  refine F.ok scInt (fun vs H Q E h => ?_) (fun cdv A outer s H vs Q E hr h => ?_)
  · obtain ⟨v, d, rfl, _⟩ := h
    rfl
  · obtain ⟨v, d, rfl, hd, q⟩ := h
    refine ⟨_, (pss_one (ps_ret (pe_and (pe_callB call_isi (by rfl) mIsi boot_isinstance (pa_cons (pv 0) (pa_cons (pe_bltn (v := .ty "int") (by rfl) mInt boot_int rfl) pa_nil))) (pe_one (pe_not (pe_callB call_isi (by rfl) mIsi boot_isinstance (pa_cons (pv 0) (pa_cons (pe_bltn (v := .ty "bool") (by rfl) mBool boot_bool rfl) pa_nil)))))))), ?_⟩
    refine s_ret (v := .bl (intB d)) (ev_is (ev_andV (ev_isi (ev_var rfl) hd (kit_int d)) fun _ => ev_notV (ev_isi (ev_var rfl) hd (kit_bool d))) (by cases d <;> rfl)) fun H1 e1 => q H1 e1
def posB (n : Int) : PyData → Bool
  | .int i => decide (0 ≤ i) && decide (i < n)
  | _ => false
def spPos : Sp := fun vs H Q _ => ∃ n v d, vs = [.int n, v] ∧ Dt H v d ∧ ∀ H', Ex H H' → Q (.bl (posB n d)) H'
theorem ok_pos {f fI : Addr} {fd fdI : FuncData} {k : Nat} (F : Fun K "is_position" "is_position" sPos f fd) (GI : FnOk P w K mg base CX0 k fI fdI ["thing"] spInt) (FI : Fun K "is_integer" "is_integer" sInt fI fdI) (bI : Binds K fdI ["thing"] []) (gI : mg "is_integer" = some (.ref fI)) :
    FnOk P w K mg base CX0 (k + 1) f fd ["n", "thing"] spPos := by
  refine F.ok scPos (fun vs H Q E h => ?_) (fun cdv A outer s H vs Q E hr h => ?_)
  · obtain ⟨n, v, d, rfl, _⟩ := h
    rfl
  · obtain ⟨n, v, d, rfl, hd, q⟩ := h
    refine ⟨_, (pss_one (ps_ret (pe_and (pe_call GI hr (by rfl) gI FI.kp bI .nil pass0 (pa_cons (pv 1) pa_nil)) (pe_one (pe_chain op_le op_lt pe_int (pv 1) (pv 0)))))), ?_⟩
    have e1 : Ev (tCall spInt [] E0 (tCons (tVar 1) tNil)) (start ["n", "thing"] [.int n, v]) H (.bl (intB d)) := ev_sp (ea_cons (ev_var rfl) ea_nil) fun H2 e2 Q q => ⟨v, d, rfl, hd.same (same_ex e2), fun H3 e3 => q H3 e3⟩
    cases hd with
    | int i => exact s_ret (v := .bl (posB n (.int i))) (ev_is (ev_andV (a := true) e1 fun _ => ev_chain ev_c (ev_var rfl) rv_I0 fun _ => ⟨_, ev_var rfl, rv_I0⟩) rfl) fun H2 e2 => q H2 e2
    | _ => exact s_ret (v := .bl false) (ev_andV (b := false) e1 fun h => nomatch h) fun H2 e2 => q H2 e2
def edgeB (n : Int) : PyData → Bool
  | .tuple [.int p, .int q] => posB n (.int p) && (posB n (.int q) && decide (p < q))
  | _ => false
def spEdge : Sp := fun vs H Q _ => ∃ n v d, vs = [.int n, v] ∧ Dt H v d ∧ ∀ H', Ex H H' → Q (.bl (edgeB n d)) H'
theorem edgeB_tup (n : Int) (d1 d2 : PyData) : edgeB n (.tuple [d1, d2]) = (posB n d1 && (posB n d2 && (match d1, d2 with | .int p, .int q => decide (p < q) | _, _ => false))) := by
  cases d1 <;> cases d2 <;> simp [edgeB, posB]
theorem edgeB_len (n : Int) : ∀ {ds : List PyData}, ds.length ≠ 2 → edgeB n (.tuple ds) = false
  | [], _ => rfl
  | [d], _ => by cases d <;> rfl
  | [_, _], h => absurd rfl h
  | d :: e :: _ :: _, _ => by cases d <;> cases e <;> rfl
theorem ev_lenT {K : PySem.W.Frag} {σ : L2.St} {H : Hp} {ta : TE} {p : Addr} {xs : List V} (ha : Ev ta σ H (.ref p)) (h : H p = some (.tup xs)) :
    Ev (tCB (fun xs H Q => ∃ p ys, xs = [V.ref p] ∧ (SqL K H p ys ∨ SqT K H p ys) ∧ Q (.int ys.length) H) (tCons ta tNil)) σ H (.int (xs.length : Int)) := fun H1 e Q q =>
  ha H1 e _ fun H2 e2 => ⟨p, xs, rfl, .inr (st_of ((e.trans e2) _ _ h)), q H2 e2⟩
theorem ok_edge {f fP : Addr} {fd fdP : FuncData} {k : Nat} (F : Fun K "is_edge" "is_edge" sEdge f fd) (GP : FnOk P w K mg base CX0 k fP fdP ["n", "thing"] spPos) (FP : Fun K "is_position" "is_position" sPos fP fdP) (bP : Binds K fdP ["n", "thing"] []) (gP : mg "is_position" = some (.ref fP))
    (mIsi : mg "isinstance" = none) (mTup : mg "tuple" = none) (mLen : mg "len" = none) : FnOk P w K mg base CX0 (k + 1) f fd ["n", "thing"] spEdge := by
  refine F.ok scEdge (fun vs H Q E h => ?_) (fun cdv A outer s H vs Q E hr h => ?_)
  · obtain ⟨n, v, d, rfl, _⟩ := h
    rfl
  · obtain ⟨n, v, d, rfl, hd, q⟩ := h
    refine ⟨_, (pss_cons (ps_if (PW.pt (pw_or (pt_not (pt_val (pe_callB call_isi (by rfl) mIsi boot_isinstance (pa_cons (pv 1) (pa_cons (pe_bltn (v := .ty "tuple") (by rfl) mTup boot_tuple rfl) pa_nil))))) (pw_or1 (pt_cmpR op_ne (pe_callB call_len_seq (by rfl) mLen boot_len (pa_cons (pv 1) pa_nil)) pe_int (nomark _))))) (pss_one (ps_ret pe_bl)) pss_nil)
      (pss_cons (ps_asg (pv 1) (pg_tup rfl (pgs_cons (pg_name (i := 2) scEdge.nd rfl (Or.inl rfl)) (pgs_cons (pg_name (i := 3) scEdge.nd rfl (Or.inl rfl)) pgs_nil))))
      (pss_one (ps_ret (pe_and (pe_call GP hr (by rfl) gP FP.kp bP .nil pass0 (pa_cons (pv 0) (pa_cons (pv 2) pa_nil))) (pe_and (pe_call GP hr (by rfl) gP FP.kp bP .nil pass0 (pa_cons (pv 0) (pa_cons (pv 3) pa_nil))) (pe_one (pe_cmpR op_lt (pv 2) (pv 3) (nomark _))))))))), ?_⟩
    have e0 : Ev (tVar 1) (start ["n", "thing", "p", "q"] [.int n, v]) H v := ev_var rfl
    rcases hd.tup_or with ⟨a, xs, ds, rfl, ha, ht, rfl⟩ | hn
    · have hlen : xs.length = ds.length := ht.length
      refine q_when (b := !true || !decide (V.int xs.length = V.int 2)) (et_or (et_not (et_B (ev_isi e0 hd (kit_tup _)))) fun _ => et_test (ev_op (ev_lenT e0 ha) ev_c (rv_ne rfl))) ?_ ?_
      · intro hb H1 e1
        have hb2 : (!decide (V.int xs.length = V.int 2)) = true := hb
        have hb3 := of_decide_eq_false ((Bool.not_eq_true' _).mp hb2)
        have e2 := edgeB_len n (ds := ds) fun z => hb3 (by rw [hlen, z]; rfl)
        refine s_ret (v := .bl false) ev_c fun H2 e3 => ?_
        rw [← e2]
        exact q H2 (e1.trans e3)
      · intro hb H1 e1
        have hb2 : (!decide (V.int xs.length = V.int 2)) = false := hb
        have hb3 := V.int.inj (of_decide_eq_true ((Bool.not_eq_false' _).mp hb2))
        have t1 := ht.same (same_ex e1)
        have ha1 := e1 _ _ ha
        match xs, ds, t1, hb3, ha1 with
        | [x, y], [d1, d2], .cons h1 (.cons h2 .nil), _, ha1 =>
          refine ⟨.ref a, rfl, a, [x, y], rfl, st_of ha1, rfl, x, [y], rfl, y, [], rfl, rfl, ?_⟩
          have ep : ∀ {i : Nat} {z : V} {d : PyData} {σ : L2.St}, σ[0]? = some (some (.int n)) → σ[i]? = some (some z) → Dt H1 z d → Ev (tCall spPos [] E0 (tCons (tVar 0) (tCons (tVar i) tNil))) σ H1 (.bl (posB n d)) := fun g1 g2 g3 =>
            ev_sp (ea_cons (ev_var g1) (ea_cons (ev_var g2) ea_nil)) fun H2 e2 Q q => ⟨n, _, _, rfl, g3.same (same_ex e2), fun H3 e3 => q H3 e3⟩
          dsimp only
          refine s_ret (v := .bl (edgeB n (.tuple [d1, d2]))) ?_ fun H2 e2 => q H2 (e1.trans e2)
          rw [edgeB_tup]
          refine ev_andV (ep rfl rfl h1) fun p1 => ev_andV (ep rfl rfl h2) fun p2 => ?_
          cases h1 with
          | int i =>
            cases h2 with
            | int j => exact ev_op (ev_var rfl) (ev_var rfl) rv_I0
            | _ => cases p2
          | _ => cases p1
    · refine q_when (b := true) (et_is (et_or (b := true) (et_not (et_B (ev_isi e0 hd (kit_tup _)))) fun hs => ?_) ?_) ?_ ?_
      · rw [hn] at hs
        cases hs
      · rw [hn]
        rfl
      · intro _ H1 e1
        have : edgeB n d = false := by
          cases d <;> first | rfl | cases hn
        refine s_ret (v := .bl false) ev_c fun H2 e3 => ?_
        rw [← this]
        exact q H2 (e1.trans e3)
      · intro hb
        cases hb
end
end K15
namespace K15
open PySem PySem.Spec PyProof.Rows L2 Os Evl
def ascL : List Pr → List Bool
  | e :: f :: r => Os.ltP e f :: ascL (f :: r)
  | _ => []
theorem ascL_len : ∀ es : List Pr, (ascL es).length = es.length - 1
  | [] => rfl
  | [_] => rfl
  | e :: f :: r => by
    show (ascL (f :: r)).length + 1 = r.length + 2 - 1
    rw [ascL_len (f :: r)]
    show (r.length + 1 - 1) + 1 = _
    omega
theorem ascL_at : ∀ {es : List Pr} {i : Nat} {e f : Pr}, es[i]? = some e → es[i + 1]? = some f → (ascL es)[i]? = some (Os.ltP e f)
  | [], _, _, _, h, _ => by simp at h
  | [_], _, _, _, _, h => by simp at h
  | a :: b :: r, 0, e, f, h1, h2 => by
    cases h1
    cases h2
    rfl
  | a :: b :: r, i + 1, e, f, h1, h2 => ascL_at (es := b :: r) (i := i) h1 h2
theorem ascL_all : ∀ es : List Pr, (ascL es).all id = ascB es
  | [] => rfl
  | [_] => rfl
  | e :: f :: r => by
    show (Os.ltP e f && (ascL (f :: r)).all id) = (Os.ltP e f && ascB (f :: r))
    rw [ascL_all (f :: r)]
theorem lex_pr (e f : Pr) : HT.lexLt [(e.1 : Int), (e.2 : Int)] [(f.1 : Int), (f.2 : Int)] = Os.ltP e f := by
  show (if (e.1 : Int) = (f.1 : Int) then (if (e.2 : Int) = (f.2 : Int) then false else decide ((e.2 : Int) < (f.2 : Int))) else decide ((e.1 : Int) < (f.1 : Int))) = Os.ltP e f
  unfold Os.ltP
  by_cases h1 : e.1 = f.1
  · rw [if_pos (by omega), decide_eq_true h1, decide_eq_false (show ¬ e.1 < f.1 by omega)]
    by_cases h2 : e.2 = f.2
    · rw [if_pos (by omega), decide_eq_false (show ¬ e.2 < f.2 by omega)]
      rfl
    · rw [if_neg (by omega), decide_eq_decide.mpr (show (e.2 : Int) < (f.2 : Int) ↔ e.2 < f.2 by omega)]
      cases decide (e.2 < f.2) <;> rfl
  · rw [if_neg (by omega), decide_eq_false h1, decide_eq_decide.mpr (show (e.1 : Int) < (f.1 : Int) ↔ e.1 < f.1 by omega)]
    cases decide (e.1 < f.1) <;> rfl
theorem cut_drop1 (xs : List V) : cutV xs (some 1) none = xs.drop 1 := by
  unfold cutV
  rw [HT.sIx_none, show HT.sIx xs.length 0 (some 1) = min 1 xs.length from HT.sIx_nat xs.length 0 1]
  cases xs with
  | nil => rfl
  | cons x r =>
    rw [show min 1 (x :: r).length = 1 by rw [List.length_cons]; omega]
    show List.take ((x :: r).length - 1) r = r
    rw [List.length_cons, Nat.add_sub_cancel, List.take_length]
section
variable {K : PySem.W.Frag} {σ : L2.St} {H : Hp} {ta tb : TE} {tz : TS} {D : Ends} {x y : V}
/-- i, j = a, b by a tuple -/
theorem q_asgPair {i j n : Nat} (ha : Ev ta σ H x) (hb : Ev tb σ H y) (hn : n = 2) (k : ∀ H1, Ex H H1 → tz D ((σ.set i (some x)).set j (some y)) H1) : tSeq (tAsg (tTup (tCons ta (tCons tb tNil))) (gTup K n (gCons (gName i) (gCons (gName j) gNil)))) tz D σ H :=
  ha H (Ex.refl H) _ fun H2 e2 => hb H2 e2 _ fun H3 e3 => ⟨(show 2 ≤ sizeLine by decide), fun p hp => ⟨p, [x, y], rfl, st_of upd_same, hn.symm, x, [y], rfl, y, [], rfl, rfl, k _ ((e2.trans e3).trans (Ex.new hp))⟩⟩
end
section
variable {P : Program} {w : World} {K : PySem.W.Frag} {mg : Str → Option Value} {base : Heap}
def spAsc : Sp := fun vs H Q _ => ∃ (a : Addr) (xs : List V) (es : List Pr), vs = [.ref a] ∧ H a = some (.lst xs) ∧ PrsV H xs es ∧ es.length ≤ 1000 ∧ ∀ H', Ex H H' → Q (.bl (ascB es)) H'
theorem ok_asc {f : Addr} {fd : FuncData} {k : Nat} (F : Fun K "_is_ascending" "_is_ascending" sAsc f fd) (mAll : mg "all" = none) (mZip : mg "zip" = none) : FnOk P w K mg base CX0 (k + 1) f fd ["edges"] spAsc := by
  refine F.ok scAsc (fun vs H Q E h => ?_) (fun cdv A outer s H vs Q E hr h => ?_)
  · obtain ⟨a, xs, es, rfl, _⟩ := h
    rfl
  · obtain ⟨a, xs, es, rfl, ha, hp, hl, q⟩ := h
    refine ⟨_, (pss_one (ps_ret (pe_callB (cr_all rfl) (by rfl) mAll boot_all (pa_cons (pe_lc (own := [("edge", 1), ("following", 2)]) (g := gTup K 2 (gCons (gName 1) (gCons (gName 2) gNil))) (tt := tYes) (te := tOp (rLtT K) (tVar 1) (tVar 2)) rfl scAsc.nd (pi_zip (by rfl) mZip (pa_cons (pv 0) (pa_cons (pe_slice sl_list (pv 0) (po_some pe_int) po_none) pa_nil))) (blkOk_by (N := ["edges", "edge", "following"]) (sc := defScope sAsc) (by decide +kernel)) (fun _ _ _ _ _ => pg_tup rfl (pgs_cons (pg_name (i := 1) scAsc.nd rfl (Or.inl rfl)) (pgs_cons (pg_name (i := 2) scAsc.nd rfl (Or.inl rfl)) pgs_nil))) (fun _ _ _ _ _ => pts_nil) (fun _ _ _ _ _ => pe_cmpR (op_ltT hr.units0) (pv 1) (pv 2) (nomark _))) pa_nil)))), ?_⟩
    have hlen := hp.length
    refine s_ret (v := .bl (ascB es)) (ev_is (ev_all (bs := ascL es) ?_) (by rw [ascL_all])) fun H1 e1 => q H1 e1
    intro H0 e0 Q' q'
    refine ⟨.ref a, rfl, .ref a, rfl, 1, rfl, a, xs, rfl, sq_of (e0 _ _ ha), fun c nc => ?_⟩
    rw [cut_drop1]
    have e1 : Ex H0 (upd H0 c (.lst (xs.drop 1))) := Ex.new nc
    refine ⟨a, c, xs, xs.drop 1, rfl, sq_of (e1 _ _ (e0 _ _ ha)), sq_of upd_same, fun D hD => ?_⟩
    have hD0 : H0 D = none := fresh_back e1 hD
    refine lc_it (walk_zip (n := es.length - 1) (by rw [List.length_drop]; omega)) (fun i Hh => Ex (upd H0 c (.lst (xs.drop 1))) Hh ∧ Hh D = some (.lst (((ascL es).take i).map V.bl))) ⟨Ex.new hD, upd_same⟩ (fun i Hh _ p => ⟨sq_of (p.1 _ _ (e1 _ _ (e0 _ _ ha))), sq_of (p.1 _ _ upd_same)⟩) ?_ ?_
    · rintro i v Ha Hb hi ⟨p1, p2⟩ ⟨T, x, y, rfl, nT, rfl, hx, hy⟩
      have hx' : xs[i]? = some x := hx
      have hy' : (xs.drop 1)[i]? = some y := hy
      rw [List.getElem?_drop, Nat.add_comm 1 i] at hy'
      obtain ⟨e, he, t1, rfl, ht1⟩ := hp.get hx'
      obtain ⟨g, hg, t2, rfl, ht2⟩ := hp.get hy'
      have eT : Ex Ha (upd Ha T (.tup [.ref t1, .ref t2])) := Ex.new nT
      have eA : Ex H (upd Ha T (.tup [.ref t1, .ref t2])) := ((e0.trans e1).trans p1).trans eT
      refine ⟨T, [.ref t1, .ref t2], rfl, st_of upd_same, rfl, .ref t1, [.ref t2], rfl, .ref t2, [], rfl, rfl, rfl, ?_⟩
      show tOp (rLtT K) (tVar 1) (tVar 2) _ _ _
      refine ⟨.ref t1, rfl, .ref t2, rfl, t1, t2, [(e.1 : Int), (e.2 : Int)], [(g.1 : Int), (g.2 : Int)], rfl, rfl, st_of (eA _ _ ht1), st_of (eA _ _ ht2), ((ascL es).take i).map V.bl, eT _ _ p2, sz_lt (by rw [List.length_map, List.length_take]; omega), Ex.mut (p1.trans eT) hD, ?_⟩
      rw [lex_pr, List.take_add_one, ascL_at he hg, List.map_append]
      exact upd_same
    · rintro Hh ⟨p1, p2⟩
      rw [List.take_of_length_le (by rw [ascL_len]; omega)] at p2
      exact q' D Hh hD0 (e1.trans p1) p2
def spCyc : Sp := fun vs H Q _ => ∃ (n : Nat) (a : Addr) (xs : List V) (es : List Pr), vs = [.int (n : Int), .ref a] ∧ H a = some (.lst xs) ∧ PrsV H xs es ∧ n ≤ 1000 ∧ (∀ e ∈ es, e.1 < n ∧ e.2 < n) ∧ ∀ H', Ex H H' → Q (.bl (cycB es (List.range n))) H'
theorem ok_cyc {f : Addr} {fd : FuncData} {k : Nat} (F : Fun K "_has_cycle" "_has_cycle" sCyc f fd) (mList : mg "list" = none) (mRange : mg "range" = none) : FnOk P w K mg base CX0 (k + 1) f fd ["n", "edges"] spCyc := by
  refine F.ok scCyc (fun vs H Q E h => ?_) (fun cdv A outer s H vs Q E hr h => ?_)
  · obtain ⟨n, a, xs, es, rfl, _⟩ := h
    rfl
  · obtain ⟨n, a, xs, es, rfl, ha, hp, hn, hb, q⟩ := h
    refine ⟨_, (pss_cons (ps_set (i := 2) scCyc.nd rfl (.inl rfl) (pe_listRg rfl (by rfl) mList (prg_1 (by rfl) mRange (pv 0))))
      (pss_cons (ps_for PassesOwn.never rfl (pi_list (pv 1)) (pg_tup rfl (pgs_cons (pg_name (i := 3) scCyc.nd rfl (Or.inl rfl)) (pgs_cons (pg_name (i := 4) scCyc.nd rfl (Or.inl rfl)) pgs_nil)))
      (pss_cons (ps_asg (pe_tup (pa_cons (pe_ix ix_list (pv 2) (pv 3) (fun _ _ => rfl)) (pa_cons (pe_ix ix_list (pv 2) (pv 4) (fun _ _ => rfl)) pa_nil))) (pg_tup rfl (pgs_cons (pg_name (i := 5) scCyc.nd rfl (Or.inr rfl)) (pgs_cons (pg_name (i := 6) scCyc.nd rfl (Or.inr rfl)) pgs_nil))))
      (pss_cons (ps_if (pt_cmpR op_eq (pv 5) (pv 6) (nomark _)) (pss_one (ps_ret pe_bl)) pss_nil)
      (pss_one (ps_setLc (i := 2) (own := [("tree", 7)]) (g := gName 7) (tt := tYes) rfl scCyc.nd rfl rfl (sw_true rfl rfl rfl (by decide +kernel)) (pi_list (pv 2)) (blkOk_by (N := ["n", "edges", "tree_of", "p", "q", "kept", "joined", "tree"]) (sc := defScope sCyc) (by decide +kernel)) (fun _ _ _ _ _ => pg_name (i := 7) scCyc.nd rfl (Or.inl rfl)) (fun _ _ _ _ _ => pts_nil) (fun _ _ _ _ _ => pe_ifExp (pt_cmpR op_eq (pv 7) (pv 6) (nomark _)) (pv 5) (pv 7)))))))
      (pss_one (ps_ret pe_bl)))), ?_⟩
    have hlen := hp.length
    refine ⟨.int (n : Int), rfl, (n : Int), rfl, RgOk.of_le (by omega) (by omega) (by omega) (by omega), fun L hL => ?_⟩
    have e1 : Ex H (upd H L (.lst (rgV 0 (n : Int)))) := Ex.new hL
    have rg : rgV 0 (n : Int) = (List.range n).map fun x : Nat => V.int (x : Int) := by
      unfold rgV
      rw [show ((n : Int) - 0).toNat = n by omega]
      exact List.map_congr_left fun i _ => congrArg V.int (by omega)
    have hb' : ∀ e ∈ es, e.1 < n ∧ e.2 < n := hb
    refine q_forL (xs := xs) (ev_var rfl) (sq_of (e1 _ _ ha)) (fun i σ' H' => Ex H H' ∧ ∃ (t : List Nat) (M : Addr) (y3 y4 y5 y6 y7 : Option V), σ' = [some (.int (n : Int)), some (.ref a), some (.ref M), y3, y4, y5, y6, y7] ∧ H' M = some (.lst (t.map fun x : Nat => V.int (x : Int))) ∧ t.length = n ∧ cycB (es.drop i) t = cycB es (List.range n))
      (fun H2 e2 => ⟨e1.trans e2, List.range n, L, _, _, _, _, _, rfl, e2 _ _ (by rw [← rg]; exact upd_same), List.length_range, rfl⟩) (fun i σ' H' _ h => sq_of (h.1 _ _ ha)) ?_ ?_
    · rintro i x σ' H2 hx ⟨e2, t, M, y3, y4, y5, y6, y7, rfl, hM, tl, cy⟩
      obtain ⟨e, he, tp, rfl, htp⟩ := hp.get hx
      obtain ⟨b1, b2⟩ := hb e (List.mem_of_getElem? he)
      refine ⟨tp, _, rfl, st_of (e2 _ _ htp), rfl, _, _, rfl, _, [], rfl, rfl, ?_⟩
      have at' : ∀ {j : Nat}, j < n → (t.map fun x : Nat => V.int (x : Int))[j]? = some (.int ((t.getD j 0 : Nat) : Int)) := fun {j} hj => by
        rw [List.getElem?_map, List.getD_eq_getElem?_getD, List.getElem?_eq_getElem (by omega)]
        rfl
      refine q_asgPair (x := .int ((t.getD e.1 0 : Nat) : Int)) (y := .int ((t.getD e.2 0 : Nat) : Int)) (ev_op (ev_var rfl) (ev_var rfl) (rv_ixL (sq_of hM) (atI_nat (at' b1)))) (ev_op (ev_var rfl) (ev_var rfl) (rv_ixL (sq_of hM) (atI_nat (at' b2)))) rfl fun H3 e3 => ?_
      have hd : es.drop i = e :: es.drop (i + 1) := by
        have lt := (List.getElem?_eq_some_iff.mp he).1
        rw [List.drop_eq_getElem_cons lt, (List.getElem?_eq_some_iff.mp he).2]
      rw [hd] at cy
      refine q_when (b := decide (V.int ((t.getD e.1 0 : Nat) : Int) = V.int ((t.getD e.2 0 : Nat) : Int))) (et_test (ev_op (ev_var rfl) (ev_var rfl) (rv_eq rfl))) (fun hq H4 e4 => ?_) (fun hq H4 e4 => ?_)
      · have eq : t.getD e.1 0 = t.getD e.2 0 := by
          have := V.int.inj (of_decide_eq_true hq)
          omega
        have c1 : cycB (e :: es.drop (i + 1)) t = true := if_pos eq
        rw [c1] at cy
        refine s_ret (v := .bl true) ev_c fun H5 e5 => ?_
        rw [cy]
        exact q H5 (((e2.trans e3).trans e4).trans e5)
      · have ne : ¬ t.getD e.1 0 = t.getD e.2 0 := fun z => of_decide_eq_false hq (by rw [z])
        have c1 : cycB (e :: es.drop (i + 1)) t = cycB (es.drop (i + 1)) (merge t e) := if_neg ne
        rw [c1] at cy
        have hM4 := e4 _ _ (e3 _ _ hM)
        refine s_asgL (xs := (merge t e).map fun x : Nat => V.int (x : Int)) ?_ fun M' H5 hM' e5 h5 => ?_
        · unfold merge
          rw [List.map_map, ← given_map t ((fun x : Nat => V.int (x : Int)) ∘ fun x => if x = t.getD e.2 0 then t.getD e.1 0 else x) (fun i => .int ((if t.getD i 0 = t.getD e.2 0 then t.getD e.1 0 else t.getD i 0 : Nat) : Int)) (fun i x e => by
            rw [List.getD_eq_getElem?_getD, e]
            rfl)]
          rw [show t.length = (t.map fun x : Nat => V.int (x : Int)).length by rw [List.length_map]]
          refine el_lcL (f := fun _ => true) (v := _) (ev_var rfl) (sq_of hM4) (by rw [List.length_map]; omega) (fun _ => rfl) (fun i c H2 _ _ => fun H3 e3 Q q => q H3 (Ex.refl H3)) (fun i x H6 e6 hx' _ => ?_)
          rw [List.getElem?_map] at hx'
          cases hti : t[i]? with
          | none => rw [hti] at hx'; cases hx'
          | some z =>
            rw [hti] at hx'
            cases hx'
            have ez : t.getD i 0 = z := by rw [List.getD_eq_getElem?_getD, hti]; rfl
            rw [ez]
            refine ev_if (b := decide (V.int (z : Int) = V.int ((t.getD e.2 0 : Nat) : Int))) (et_test (ev_op (ev_var rfl) (ev_var rfl) (rv_eq rfl))) (fun hb => ?_) (fun hb => ?_)
            · have : z = t.getD e.2 0 := by
                have := V.int.inj (of_decide_eq_true hb)
                omega
              rw [if_pos this]
              exact ev_var rfl
            · have : ¬ z = t.getD e.2 0 := fun y => of_decide_eq_false hb (by rw [y])
              rw [if_neg this]
              exact ev_var rfl
        · exact ⟨((e2.trans e3).trans e4).trans e5, merge t e, M', _, _, _, _, _, rfl, h5, by rw [merge_length, tl], cy⟩
    · rintro σ' H2 ⟨e2, t, M, y3, y4, y5, y6, y7, rfl, hM, tl, cy⟩
      rw [hlen, List.drop_length] at cy
      refine s_ret (v := .bl false) ev_c fun H3 e3 => ?_
      rw [show false = cycB es (List.range n) from cy]
      exact q H3 (e2.trans e3)
end
end K15
namespace K15
open PySem PySem.Spec PyProof.Rows L2 Os Evl
/-- a pair of a size and a list of edges -/
def GraphV (G : Hp) (v : V) (n : Nat) (es : List Pr) : Prop := ∃ (g a : Addr) (xs : List V), v = .ref g ∧ G g = some (.tup [.int (n : Int), .ref a]) ∧ G a = some (.lst xs) ∧ PrsV G xs es
theorem GraphV.ex {G G' : Hp} {v : V} {n : Nat} {es : List Pr} (h : GraphV G v n es) (e : Ex G G') : GraphV G' v n es := by
  obtain ⟨g, a, xs, h1, h2, h3, h4⟩ := h
  exact ⟨g, a, xs, h1, e _ _ h2, e _ _ h3, h4.ex e⟩
theorem GraphV.dt {G : Hp} {v : V} {n : Nat} {es : List Pr} (h : GraphV G v n es) : Dt G v (.tuple [.int (n : Int), .list (es.map Os.prD)]) := by
  obtain ⟨g, a, xs, rfl, h2, h3, h4⟩ := h
  exact .tup h2 (.cons (.int _) (.cons (.lst h3 h4.dts) .nil))
/-- a forest, no larger than the document's -/
structure IsForest (n : Nat) (es : List Pr) : Prop where
  edges : Edges n es
  n1 : 1 ≤ n
  n40 : n ≤ 40
  few : es.length ≤ 60
theorem edge_ok {n : Nat} {es : List Pr} (h : IsForest n es) {e : Pr} (he : e ∈ es) : edgeB (n : Int) (Os.prD e) = true := by
  obtain ⟨h1, h2⟩ := h.edges.inn e he
  show (decide (0 ≤ (e.1 : Int)) && decide ((e.1 : Int) < (n : Int)) && (decide (0 ≤ (e.2 : Int)) && decide ((e.2 : Int) < (n : Int)) && decide ((e.1 : Int) < (e.2 : Int)))) = true
  rw [decide_eq_true (show 0 ≤ (e.1 : Int) by omega), decide_eq_true (show (e.1 : Int) < (n : Int) by omega), decide_eq_true (show 0 ≤ (e.2 : Int) by omega), decide_eq_true (show (e.2 : Int) < (n : Int) by omega), decide_eq_true (show (e.1 : Int) < (e.2 : Int) by omega)]
  rfl
section
variable {P : Program} {w : World} {K : PySem.W.Frag} {mg : Str → Option Value} {base : Heap}
def spForest : Sp := fun vs H Q _ => ∃ (v : V) (n : Nat) (es : List Pr), vs = [v] ∧ GraphV H v n es ∧ IsForest n es ∧ ∀ H', Ex H H' → Q (.bl true) H'
theorem ok_forest {f fI fE fA fC : Addr} {fd fdI fdE fdA fdC : FuncData} {k : Nat} (F : Fun K "is_forest" "is_forest" sForest f fd)
    (GI : FnOk P w K mg base CX0 k fI fdI ["thing"] spInt) (FI : Fun K "is_integer" "is_integer" sInt fI fdI) (bI : Binds K fdI ["thing"] []) (gI : mg "is_integer" = some (.ref fI))
    (GE : FnOk P w K mg base CX0 k fE fdE ["n", "thing"] spEdge) (FE : Fun K "is_edge" "is_edge" sEdge fE fdE) (bE : Binds K fdE ["n", "thing"] []) (gE : mg "is_edge" = some (.ref fE))
    (GA : FnOk P w K mg base CX0 k fA fdA ["edges"] spAsc) (FA : Fun K "_is_ascending" "_is_ascending" sAsc fA fdA) (bA : Binds K fdA ["edges"] []) (gA : mg "_is_ascending" = some (.ref fA))
    (GC : FnOk P w K mg base CX0 k fC fdC ["n", "edges"] spCyc) (FC : Fun K "_has_cycle" "_has_cycle" sCyc fC fdC) (bC : Binds K fdC ["n", "edges"] []) (gC : mg "_has_cycle" = some (.ref fC))
    (mIsi : mg "isinstance" = none) (mTup : mg "tuple" = none) (mLen : mg "len" = none) (mList : mg "list" = none) (mAll : mg "all" = none) {t40 : Tok} (m40 : mg "MOST_POSITIONS" = some (.int 40 t40)) : FnOk P w K mg base CX0 (k + 1) f fd ["thing"] spForest := by
  refine F.ok scForest (fun vs H Q E h => ?_) (fun cdv A outer s H vs Q E hr h => ?_)
  · obtain ⟨v, n, es, rfl, _⟩ := h
    rfl
  · obtain ⟨v, n, es, rfl, hg, ok, q⟩ := h
    refine ⟨_, (pss_cons (ps_if (PW.pt (pw_or (pt_not (pt_val (pe_callB call_isi (by rfl) mIsi boot_isinstance (pa_cons (pv 0) (pa_cons (pe_bltn (v := .ty "tuple") (by rfl) mTup boot_tuple rfl) pa_nil))))) (pw_or1 (pt_cmpR op_ne (pe_callB call_len_seq (by rfl) mLen boot_len (pa_cons (pv 0) pa_nil)) pe_int (nomark _))))) (pss_one (ps_ret pe_bl)) pss_nil)
      (pss_cons (ps_asg (pv 0) (pg_tup rfl (pgs_cons (pg_name (i := 1) scForest.nd rfl (Or.inr rfl)) (pgs_cons (pg_name (i := 2) scForest.nd rfl (Or.inl rfl)) pgs_nil))))
      (pss_cons (ps_if (PW.pt (pw_or (pt_not (pt_val (pe_call GI hr (by rfl) gI FI.kp bI .nil pass0 (pa_cons (pv 1) pa_nil)))) (pw_or1 (pt_not (pt_chain op_le op_le pe_int (pv 1) (pe_glob (v := .int 40) (by rfl) m40 ⟨_, rfl⟩)))))) (pss_one (ps_ret pe_bl)) pss_nil)
      (pss_cons (ps_if (PW.pt (pw_or (pt_not (pt_val (pe_callB call_isi (by rfl) mIsi boot_isinstance (pa_cons (pv 2) (pa_cons (pe_bltn (v := .ty "list") (by rfl) mList boot_list rfl) pa_nil))))) (pw_or1 (pt_not (pt_val (pe_callB (cr_all rfl) (by rfl) mAll boot_all (pa_cons (pe_lc (own := [("edge", 3)]) (g := gName 3) (tt := tYes) rfl scForest.nd (pi_list (pv 2)) (blkOk_by (N := ["thing", "n", "edges", "edge"]) (sc := defScope sForest) (by decide +kernel)) (fun _ _ _ _ _ => pg_name (i := 3) scForest.nd rfl (Or.inl rfl)) (fun _ _ _ _ _ => pts_nil) (fun _ _ _ _ _ => (pe_call GE hr (by rfl) gE FE.kp bE .nil pass0 (pa_cons (pv 1) (pa_cons (pv 3) pa_nil))))) pa_nil))))))) (pss_one (ps_ret pe_bl)) pss_nil)
      (pss_one (ps_ret (pe_and (pe_call GA hr (by rfl) gA FA.kp bA .nil pass0 (pa_cons (pv 2) pa_nil)) (pe_one (pe_not (pe_call GC hr (by rfl) gC FC.kp bC .nil pass0 (pa_cons (pv 1) (pa_cons (pv 2) pa_nil)))))))))))), ?_⟩
    have hd := hg.dt
    obtain ⟨g, a, xs, rfl, h2, h3, h4⟩ := hg
    have hlen := h4.length
    refine q_when (b := false) (et_is (et_or (a := !true) (b := false) (et_not (et_B (ev_isi (ev_var rfl) hd (kit_tup _)))) fun _ => et_test (ev_is (ev_op (ev_lenT (ev_var rfl) h2) ev_c (rv_ne rfl)) rfl)) rfl) (fun h => nomatch h) fun _ H1 e1 => ?_
    refine ⟨.ref g, rfl, g, _, rfl, st_of (e1 _ _ h2), rfl, .int (n : Int), _, rfl, .ref a, [], rfl, rfl, ?_⟩
    have eint : ∀ {σ : L2.St} {H2 : Hp}, σ[1]? = some (some (.int (n : Int))) → Ev (tCall spInt [] E0 (tCons (tVar 1) tNil)) σ H2 (.bl true) := fun g1 =>
      ev_sp (ea_cons (ev_var g1) ea_nil) fun H3 e3 Q q => ⟨_, .int (n : Int), rfl, .int _, fun H4 e4 => q H4 e4⟩
    have n1 := ok.n1
    have n40 := ok.n40
    refine q_when (b := false) (et_is (et_or (a := !true) (b := !(decide ((1 : Int) ≤ (n : Int)) && decide ((n : Int) ≤ 40))) (et_not (et_B (eint rfl))) fun _ => et_not (et_test (ev_chain ev_c (ev_var rfl) rv_I0 fun _ => ⟨_, ev_c, rv_I0⟩)))
      (by rw [decide_eq_true (show (1 : Int) ≤ (n : Int) by omega), decide_eq_true (show (n : Int) ≤ 40 by omega)]; rfl)) (fun h => nomatch h) fun _ H2 e2 => ?_
    have e12 := e1.trans e2
    have hl2 : Dt H2 (.ref a) (.list (es.map Os.prD)) := .lst (e12 _ _ h3) (h4.ex e12).dts
    refine q_when (b := false) (et_is (et_or (a := !true) (b := !true) (et_not (et_B (ev_isi (ev_var rfl) hl2 (kit_list _)))) fun _ => et_not (et_B (ev_is (ev_all (bs := es.map fun _ => true) ?_) ?_))) rfl) (fun h => nomatch h) fun _ H3 e3 => ?_
    · rw [List.map_map, ← given_map es (V.bl ∘ fun _ => true) (fun _ => .bl true) (fun _ _ _ => rfl), ← hlen]
      refine el_lcL (f := fun _ => true) (v := _) (ev_var rfl) (sq_of (e12 _ _ h3)) (by rw [hlen]; have := ok.few; omega) (fun _ => rfl) (fun i c H2 _ _ => fun H3 e3 Q q => q H3 (Ex.refl H3)) (fun i x H4 e4 hx _ => ?_)
      obtain ⟨e, he, pe⟩ := h4.get hx
      refine ev_sp (ea_cons (ev_var rfl) (ea_cons (ev_var rfl) ea_nil)) fun H5 e5 Q q => ⟨(n : Int), x, Os.prD e, rfl, (pe.ex ((e12.trans e4).trans e5)).dt, fun H6 e6 => ?_⟩
      rw [edge_ok ok (List.mem_of_getElem? he)]
      exact q H6 e6
    · rw [List.all_eq_true.mpr (fun b hb => by
        obtain ⟨_, _, rfl⟩ := List.mem_map.mp hb
        rfl)]
    · have e13 := e12.trans e3
      refine s_ret (v := .bl true) (ev_is (ev_andV (a := true) (b := !false) (ev_sp (ea_cons (ev_var rfl) ea_nil) fun H4 e4 Q q => ⟨a, xs, es, rfl, e4 _ _ (e13 _ _ h3), (h4.ex e13).ex e4, by have := ok.few; omega, fun H5 e5 => by rw [asc_of ok.edges.asc]; exact q H5 e5⟩)
        fun _ => ev_notV (ev_sp (ea_cons (ev_var rfl) (ea_cons (ev_var rfl) ea_nil)) fun H4 e4 Q q => ⟨n, a, xs, es, rfl, e4 _ _ (e13 _ _ h3), (h4.ex e13).ex e4, by omega, (fun e he => by have := ok.edges.inn e he; omega), fun H5 e5 => by rw [ok.edges.no_cyc]; exact q H5 e5⟩)) rfl) fun H4 e4 => q H4 (e13.trans e4)
end
end K15
/-! the law's drawn numbers: what a source holds -/
namespace Os
open PySem PySem.Spec PyProof.Rows L2 Evl

/-- at s a source: the digits left, the seed, the number of mixed draws (at most B) -/
def Src (H : Hp) (s : Addr) (B : Nat) : Prop := ∃ x y z : Int, H s = some (.lst [.int x, .int y, .int z]) ∧ 0 ≤ x ∧ 0 ≤ y ∧ y < 2 ^ 140 ∧ 0 ≤ z ∧ z ≤ (B : Int)
theorem Src.mono {H : Hp} {s : Addr} {B C : Nat} (h : Src H s B) (le : B ≤ C) : Src H s C := by
  obtain ⟨x, y, z, h1, h2, h3, h4, h5, h6⟩ := h
  exact ⟨x, y, z, h1, h2, h3, h4, h5, by omega⟩
theorem Src.ex {H H' : Hp} {s : Addr} {B : Nat} (h : Src H s B) (e : Ex H H') : Src H' s B := by
  obtain ⟨x, y, z, h1, h2⟩ := h
  exact ⟨x, y, z, e _ _ h1, h2⟩
theorem Src.at {H : Hp} {s : Addr} {B : Nat} (h : Src H s B) : ∃ o, H s = some o := by
  obtain ⟨x, y, z, h1, _⟩ := h
  exact ⟨_, h1⟩
/-- all but the source stands as it was; the source has made at most n more mixed draws -/
structure Drew (s : Addr) (B : Nat) (H H' : Hp) : Prop where
  kept : Ex (hide s H) (hide s H')
  src : Src H' s B
theorem Drew.refl {s : Addr} {B : Nat} {H : Hp} (h : Src H s B) : Drew s B H H := ⟨Ex.refl _, h⟩
theorem Drew.trans {s : Addr} {B C : Nat} {H H1 H2 : Hp} (a : Drew s B H H1) (b : Drew s C H1 H2) : Drew s C H H2 := ⟨a.kept.trans b.kept, b.src⟩
theorem Drew.ex {s : Addr} {B : Nat} {H H1 H2 : Hp} (a : Drew s B H H1) (e : Ex H1 H2) : Drew s B H H2 := ⟨a.kept.trans (Same.hide (same_ex e)), a.src.ex e⟩
theorem Drew.get {s : Addr} {B : Nat} {H H' : Hp} (a : Drew s B H H') {b : Addr} {o : HO} (n : b ≠ s) (h : H b = some o) : H' b = some o := by
  have := a.kept b o (by rw [hide_ne n]; exact h)
  exact (hide_of this).2
theorem Drew.mono {s : Addr} {B C : Nat} {H H' : Hp} (a : Drew s B H H') (le : B ≤ C) : Drew s C H H' := ⟨a.kept, a.src.mono le⟩
/-- what is free behind was free before -/
theorem Drew.none {s : Addr} {B : Nat} {H H' : Hp} (a : Drew s B H H') (h0 : ∃ o, H s = some o) {p : Addr} (h : H' p = Option.none) : H p = Option.none := by
  obtain ⟨o, so⟩ := a.src.at
  have np : p ≠ s := fun e => by rw [e, so] at h; cases h
  cases q : H p with
  | none => rfl
  | some u =>
    rw [a.get np q] at h
    cases h
/-- a new object, or one that H did not know, is changed -/
theorem Drew.mut {s : Addr} {B : Nat} {H H' : Hp} (a : Drew s B H H') {p : Addr} {o : HO} (hs : ∃ u, H s = some u) (h : H p = Option.none) : Drew s B H (upd H' p o) := by
  obtain ⟨u, hu⟩ := hs
  have np : s ≠ p := ne_of_none hu h
  refine ⟨fun b v q => ?_, ?_⟩
  · obtain ⟨q1, q2⟩ := hide_of q
    rw [hide_ne q1, upd_ne (ne_of_none q2 h)]
    exact a.get q1 q2
  · obtain ⟨x, y, z, h1, h2⟩ := a.src
    exact ⟨x, y, z, by rw [upd_ne np]; exact h1, h2⟩

/-! ### data beside a source -/
theorem Dt.drew {s : Addr} {B : Nat} {H H' : Hp} {v : V} {d : PyData} (h : Dt (hide s H) v d) (a : Drew s B H H') : Dt (hide s H') v d := h.same (same_ex a.kept)
theorem Dt.seen {s : Addr} {H : Hp} {v : V} {d : PyData} (h : Dt (hide s H) v d) : Dt H v d := h.same hide_same
theorem Dts.seen {s : Addr} {H : Hp} {vs : List V} {ds : List PyData} (h : Dts (hide s H) vs ds) : Dts H vs ds := h.same hide_same

/-! ### the numbers -/
theorem mix_bound {y z : Int} (hy0 : 0 ≤ y) (hy : y < 2 ^ 140) (hz0 : 0 ≤ z) (hz : z < 2 ^ 80) (c : Int) (hc0 : 0 ≤ c) (hc : c < 2 ^ 30) : (y + c * z).natAbs < 2 ^ 141 := by
  have h1 : 0 ≤ c * z := Int.mul_nonneg hc0 hz0
  have h2 : c * z ≤ 2 ^ 30 * 2 ^ 80 := Int.mul_le_mul (by omega) (by omega) hz0 (by decide)
  have h3 : (2 : Int) ^ 30 * 2 ^ 80 ≤ 2 ^ 140 := by decide
  omega
theorem cube_nonneg {i : Int} (h : 0 ≤ i) : 0 ≤ i ^ (3 : Int).toNat := Int.pow_nonneg h
end Os
namespace K15
open PySem PySem.Spec PyProof.Rows L2 Os Evl
abbrev sSource : Stmt := topS 42
theorem scSource : FnScope ["script", "k", "cell"] ["script", "k"] (defScope sSource) := ⟨rfl, rfl, rfl, by decide +kernel, rfl, by decide +kernel, by decide +kernel⟩
abbrev sPick : Stmt := topS 43
theorem scPick : FnScope ["source", "wide", "digit", "mixed"] ["source", "wide"] (defScope sPick) := ⟨rfl, rfl, rfl, by decide +kernel, rfl, by decide +kernel, by decide +kernel⟩
def cellOf (ns : List Int) (k : Nat) : Int := if (k : Int) < (ns.length : Int) then ns.getD k 0 else 0
section
variable {P : Program} {w : World} {K : PySem.W.Frag} {mg : Str → Option Value} {base : Heap}
def spSource (K : PySem.W.Frag) : Sp := fun vs H Q _ => ∃ (a : Addr) (ns : List Int) (k : Nat), vs = [.ref a, .int (k : Int)] ∧ SqL K H a (ns.map V.int) ∧ k ≤ 1000 ∧
  ∀ H' p, Ex H H' → H p = none → Src H' p 0 → Q (.ref p) H'
theorem ok_source {f : Addr} {fd : FuncData} {k : Nat} (F : Fun K "_law_source" "_law_source" sSource f fd) (mL : mg "len" = none) (mM : mg "max" = none) (mA : mg "abs" = none) :
    FnOk P w K mg base CX0 (k + 1) f fd ["script", "k"] (spSource K) := by
  refine F.ok scSource (fun vs H Q E h => ?_) (fun cdv A outer s H vs Q E hr h => ?_)
  · obtain ⟨a, ns, k, rfl, _⟩ := h
    rfl
  · obtain ⟨a, ns, k, rfl, hS, hk, q⟩ := h
    refine ⟨_, (pss_cons (ps_set (i := 2) scSource.nd rfl (.inl rfl) pe_int)
      (pss_cut (ps_if (pt_cmpR op_lt (pv 1) (pe_callB call_len_seq (by rfl) mL boot_len (pa_cons (pv 0) pa_nil)) (nomark _)) (pss_one (ps_set (i := 2) scSource.nd rfl (.inl rfl) (pe_ix ix_list (pv 0) (pv 1) (fun _ _ => rfl)))) pss_nil)
      (pss_one (ps_ret (pe_lst (pa_cons (pe_callB (call_max2 rfl) (by rfl) mM boot_max (pa_cons pe_int (pa_cons (pe_op op_sub (pe_callB call_abs (by rfl) mA boot_abs (pa_cons (pv 2) pa_nil)) (pe_op op_pow pe_int pe_int)) pa_nil))) (pa_cons (pe_op op_mod (pe_op op_add (pe_op op_add (pe_op op_mul (pv 2) pe_int) (pe_op op_mul pe_int (pv 1))) pe_int) pe_int) (pa_cons pe_int pa_nil)))))))), ?_⟩
    refine q_asg (v := .int 0) ev_c fun H0 e0 => ?_
    refine ⟨fun σ H' => Ex H H' ∧ ∃ c : Int, σ = [some (.ref a), some (.int (k : Int)), some (.int c)], ?_, ?_⟩
    · refine s_when (b := decide ((k : Int) < (ns.length : Int))) (et_test (ev_op (ev_var rfl) (ev_is (ev_len (ev_var rfl) (ex_l e0 hS)) (by rw [List.length_map])) rv_I0)) (fun hb H1 e1 => ?_) (fun hb H1 e1 => ⟨e0.trans e1, _, rfl⟩)
      have hb2 := of_decide_eq_true hb
      refine s_asg (v := .int (ns.getD k 0)) (ev_op (ev_var rfl) (ev_var rfl) (rv_ixL (ex_l (e0.trans e1) hS) (atI_nat (j := k) ?_))) fun H2 e2 => ⟨(e0.trans e1).trans e2, _, rfl⟩
      rw [List.getElem?_map, List.getElem?_eq_getElem (by omega), List.getD_eq_getElem?_getD, List.getElem?_eq_getElem (by omega)]
      rfl
    · rintro σ' H1 ⟨e1, c, rfl⟩
      have ec := ev_var (σ := [some (.ref a), some (.int (k : Int)), some (.int c)]) (H := H1) (i := 2) (v := .int c) rfl
      have pow : ∀ n : Int, 0 ≤ n → n ≤ 100 → CPow 10 n := fun n h1 h2 => ⟨h1, by omega, by decide⟩
      have e18 : (10 : Int) ^ (18 : Int).toNat = 1000000000000000000 := by decide
      refine s_retL (el_lst (ea_cons (ev_max ev_c (ev_op (ev_abs ec) (ev_op ev_c ev_c (rv_I (pow 18 (by decide) (by decide)))) rv_I0))
        (ea_cons (ev_op (ev_op (ev_op (ev_op ec ev_c (rv_I (.inr (by decide)))) (ev_op ev_c (ev_var rfl) (rv_I (.inl (by decide)))) rv_I0) ev_c rv_I0) ev_c (rv_I (by decide)))
        (ea_cons ev_c ea_nil))) (show 3 ≤ 100000 by decide)) fun p H2 hp e2 h2 => q H2 p (e1.trans e2) (fresh_back e1 hp) ?_
      rw [e18] at h2
      refine ⟨_, _, 0, h2, ?_, ?_, ?_, Int.le_refl _, Int.le_refl _⟩
      · split <;> omega
      · exact Int.emod_nonneg _ (by decide)
      · have := Int.emod_lt_of_pos (c * 67 + 7919 * (k : Int) + 13) (show (0 : Int) < 2305843009213693951 by decide)
        exact Int.lt_trans this (by decide)

def spPick : Sp := fun vs H Q _ => ∃ (s : Addr) (n : Int) (B : Nat), vs = [.ref s, .int n] ∧ Src H s B ∧ B ≤ 1000000 ∧ 0 < n ∧ n ≤ 1000000 ∧
  ∀ H' r, Drew s (B + 1) H H' → 0 ≤ r → r < n → Q (.int r) H'
theorem ok_pick {f : Addr} {fd : FuncData} {k : Nat} (F : Fun K "_law_pick" "_law_pick" sPick f fd) : FnOk P w K mg base CX0 (k + 1) f fd ["source", "wide"] spPick := by
  refine F.ok scPick (fun vs H Q E h => ?_) (fun cdv A outer s H vs Q E hr h => ?_)
  · obtain ⟨a, n, B, rfl, _⟩ := h
    rfl
  · obtain ⟨a, n, B, rfl, hS, hB, hn0, hn1, q⟩ := h
    refine ⟨_, (pss_cons (ps_if (pt_cmpR op_gt (pe_ix ix_list (pv 0) pe_int (fun _ _ => rfl)) pe_int (nomark _)) (pss_cons (ps_set (i := 2) scPick.nd rfl (.inl rfl) (pe_op op_mod (pe_ix ix_list (pv 0) pe_int (fun _ _ => rfl)) (pv 1)))
      (pss_cons (ps_asg (pe_op op_fdivW (pe_ix ix_list (pv 0) pe_int (fun _ _ => rfl)) (pv 1)) (pg_sub (pv 0) pe_int set_list))
      (pss_one (ps_ret (pv 2))))) pss_nil)
      (pss_cons (ps_asg (pe_op op_add (pe_ix ix_list (pv 0) pe_int (fun _ _ => rfl)) pe_int) (pg_sub (pv 0) pe_int set_list))
      (pss_cons (ps_set (i := 3) scPick.nd rfl (.inl rfl) (pe_op op_mod (pe_op op_add (pe_ix ix_list (pv 0) pe_int (fun _ _ => rfl)) (pe_op op_mul pe_int (pe_ix ix_list (pv 0) pe_int (fun _ _ => rfl)))) pe_int))
      (pss_cons (ps_set (i := 3) scPick.nd rfl (.inl rfl) (pe_op op_mod (pe_op op_add (pe_op op_add (pe_op op_mul (pv 3) (pv 3)) (pe_op op_mul (pe_op op_mul pe_int (pe_ix ix_list (pv 0) pe_int (fun _ _ => rfl))) (pv 3))) pe_int) pe_int))
      (pss_cons (ps_set (i := 3) scPick.nd rfl (.inl rfl) (pe_op op_mod (pe_op op_add (pe_op op_add (pe_op op_powW (pv 3) pe_int) (pe_ix ix_list (pv 0) pe_int (fun _ _ => rfl))) (pe_ix ix_list (pv 0) pe_int (fun _ _ => rfl))) pe_int))
      (pss_one (ps_ret (pe_op op_mod (pe_op op_fdivW (pv 3) pe_int) (pv 1))))))))), ?_⟩
    obtain ⟨x, y, z, h1, hx, hy0, hy1, hz0, hz1⟩ := hS
    have at0 : ∀ {H' : Hp} {x' y' z' : Int}, H' a = some (.lst [.int x', .int y', .int z']) → ∀ {σ : L2.St}, σ[0]? = some (some (.ref a)) →
        Ev (tOp (rIxL K) (tVar 0) (tC (.int 0))) σ H' (.int x') ∧ Ev (tOp (rIxL K) (tVar 0) (tC (.int 1))) σ H' (.int y') ∧ Ev (tOp (rIxL K) (tVar 0) (tC (.int 2))) σ H' (.int z') := fun h σ e =>
      ⟨ev_op (ev_var e) ev_c (rv_ixL (sq_of h) (atI_nat (j := 0) rfl)), ev_op (ev_var e) ev_c (rv_ixL (sq_of h) (atI_nat (j := 1) rfl)), ev_op (ev_var e) ev_c (rv_ixL (sq_of h) (atI_nat (j := 2) rfl))⟩
    have upd_drew : ∀ {H1 : Hp} {x' z' : Int}, Ex H H1 → 0 ≤ x' → 0 ≤ z' → z' ≤ ((B + 1 : Nat) : Int) → Drew a (B + 1) H (upd H1 a (.lst [.int x', .int y, .int z'])) := fun e p1 p2 p3 =>
      ⟨by rw [hide_upd]; exact Same.hide (same_ex e), _, y, _, upd_same, p1, hy0, hy1, p2, p3⟩
    refine q_when (b := decide (0 < x)) (et_test (ev_op (at0 h1 rfl).1 ev_c rv_I0)) ?_ ?_
    · intro hb H1 e1
      refine q_asg (v := .int (x % n)) (ev_op (at0 (e1 _ _ h1) rfl).1 (ev_var rfl) (rv_I hn0)) fun H2 e2 => ?_
      refine q_setL (j := 0) (xs := [.int x, .int y, .int z]) (v := .int (x / n)) (e2 _ _ (e1 _ _ h1)) (ev_op (at0 (e2 _ _ (e1 _ _ h1)) rfl).1 (ev_var rfl) (rv_I (wide_div (b := 30) hn0 (by omega) (by decide) (by decide)))) (ev_var rfl) ev_c (show 0 < 3 by decide) fun H3 e3 => ?_
      refine s_ret (v := .int (x % n)) (ev_var rfl) fun H4 e4 => ?_
      exact q H4 _ ((upd_drew ((e1.trans e2).trans e3) (Int.ediv_nonneg hx (by omega)) hz0 (by omega)).ex e4) (Int.emod_nonneg x (by omega)) (Int.emod_lt_of_pos x hn0)
    · intro hb H1 e1
      refine q_setL (j := 2) (xs := [.int x, .int y, .int z]) (v := .int (z + 1)) (e1 _ _ h1) (ev_op (at0 (e1 _ _ h1) rfl).2.2 ev_c rv_I0) (ev_var rfl) ev_c (show 2 < 3 by decide) fun H2 e2 => ?_
      have d2 : Drew a (B + 1) H (upd H2 a (.lst [.int x, .int y, .int (z + 1)])) := upd_drew (e1.trans e2) hx (by omega) (by omega)
      have h3 : (upd H2 a (.lst [.int x, .int y, .int (z + 1)])) a = some (.lst [.int x, .int y, .int (z + 1)]) := upd_same
      show tSeq _ _ _ _ (upd H2 a (.lst [.int x, .int y, .int (z + 1)]))
      generalize (upd H2 a (.lst [.int x, .int y, .int (z + 1)])) = H3 at d2 h3
      have bnd : ∀ i : Int, 0 ≤ i % 2305843009213693951 ∧ i % 2305843009213693951 < 2305843009213693951 := fun i => ⟨Int.emod_nonneg i (by decide), Int.emod_lt_of_pos i (by decide)⟩
      refine q_asg (v := .int ((y + 104729 * (z + 1)) % 2305843009213693951)) (ev_op (ev_op (at0 h3 rfl).2.1 (ev_op ev_c (at0 h3 rfl).2.2 (rv_I (.inl (by decide)))) rv_I0) ev_c (rv_I (by decide))) fun H4 e4 => ?_
      obtain ⟨m1, m2⟩ := bnd (y + 104729 * (z + 1))
      generalize (y + 104729 * (z + 1)) % 2305843009213693951 = m at m1 m2
      have mW : -(2 ^ 64 : Int) < m ∧ m < 2 ^ 64 := by omega
      refine q_asg (v := .int ((m * m + 65537 * (z + 1) * m + 31) % 2305843009213693951)) (ev_op (ev_op (ev_op (ev_op (ev_var rfl) (ev_var rfl) (rv_I (.inl mW))) (ev_op (ev_op ev_c (at0 (e4 _ _ h3) rfl).2.2 (rv_I (.inl (by decide)))) (ev_var rfl) (rv_I (.inr mW))) rv_I0) ev_c rv_I0) ev_c (rv_I (by decide))) fun H5 e5 => ?_
      obtain ⟨m3, m4⟩ := bnd (m * m + 65537 * (z + 1) * m + 31)
      generalize (m * m + 65537 * (z + 1) * m + 31) % 2305843009213693951 = m' at m3 m4
      have h5 := e5 _ _ (e4 _ _ h3)
      refine q_asg (v := .int ((m' ^ (3 : Int).toNat + y + (z + 1)) % 2305843009213693951)) (ev_op (ev_op (ev_op (ev_op (ev_var rfl) ev_c (rv_I (cube_ok (n := 62) (by omega) (by decide) (by decide)))) (at0 h5 rfl).2.1 rv_I0) (at0 h5 rfl).2.2 rv_I0) ev_c (rv_I (by decide))) fun H6 e6 => ?_
      generalize (m' ^ (3 : Int).toNat + y + (z + 1)) % 2305843009213693951 = u
      refine s_ret (v := .int (u / 4099 % n)) (ev_op (ev_op (ev_var rfl) ev_c (rv_I (wide_div (b := 30) (by decide) (by decide) (by decide) (by decide)))) (ev_var rfl) (rv_I hn0)) fun H7 e7 => ?_
      exact q H7 _ ((((d2.ex e4).ex e5).ex e6).ex e7) (Int.emod_nonneg _ (by omega)) (Int.emod_lt_of_pos _ hn0)
end
end K15
namespace K15
open PySem PySem.Spec PyProof.Rows L2 Os Evl
abbrev sShuf : Stmt := topS 44
theorem scShuf : FnScope ["source", "values", "left", "k"] ["source", "values"] (defScope sShuf) := ⟨rfl, rfl, rfl, by decide +kernel, rfl, by decide +kernel, by decide +kernel⟩
theorem perm_pop {α : Type} {l : List α} {k : Nat} {y : α} (acc : List α) (h : l[k]? = some y) : ((acc ++ [y]) ++ l.eraseIdx k).Perm (acc ++ l) := by
  obtain ⟨lt, e⟩ := List.getElem?_eq_some_iff.mp h
  rw [List.append_assoc]
  refine List.Perm.append_left acc ?_
  have e2 := List.drop_eq_getElem_cons lt
  rw [e] at e2
  rw [List.eraseIdx_eq_take_drop_succ]
  refine List.Perm.trans (l₂ := l.take k ++ y :: l.drop (k + 1)) (show (y :: (l.take k ++ l.drop (k + 1))).Perm _ from List.perm_middle.symm) ?_
  rw [← e2, List.take_append_drop]
section
variable {P : Program} {w : World} {K : PySem.W.Frag} {mg : Str → Option Value} {base : Heap}
def spShuf : Sp := fun vs H Q _ => ∃ (s a : Addr) (xs : List V) (B : Nat), vs = [.ref s, .ref a] ∧ Src H s B ∧ H a = some (.lst xs) ∧ a ≠ s ∧ xs.length ≤ 1000 ∧ B ≤ 900000 ∧
  ∀ H' p ys, Drew s (B + xs.length) H H' → H p = none → H' p = some (.lst ys) → ys.Perm xs → Q (.ref p) H'
theorem ok_shuf {f fP : Addr} {fd fdP : FuncData} {k : Nat} (F : Fun K "_law_shuffle" "_law_shuffle" sShuf f fd) (GP : FnOk P w K mg base CX0 k fP fdP ["source", "wide"] spPick) (FP : Fun K "_law_pick" "_law_pick" sPick fP fdP) (bP : Binds K fdP ["source", "wide"] [])
    (gP : mg "_law_pick" = some (.ref fP)) (mS : mg "list" = none) (mL : mg "len" = none) (mR : mg "range" = none) : FnOk P w K mg base CX0 (k + 1) f fd ["source", "values"] spShuf := by
  refine F.ok scShuf (fun vs H Q E h => ?_) (fun cdv A outer s H vs Q E hr h => ?_)
  · obtain ⟨s, a, xs, B, rfl, _⟩ := h
    rfl
  · obtain ⟨s, a, xs, B, rfl, hS, ha, nas, hl, hB, q⟩ := h
    refine ⟨_, pss_cons (ps_set (i := 2) scShuf.nd rfl (.inr rfl) (pe_callTy call_list_of (by rfl) mS boot_list (pa_cons (pv 1) pa_nil)))
      (pss_one (ps_ret (pe_lc (own := [("k", 3)]) (g := gName 3) (tt := tYes) (te := tBM K "list" rPopAt (tVar 2) (tCons (tCall spPick [] E0 (tCons (tVar 0) (tCons (tCB (rLenS K) (tCons (tVar 2) tNil)) tNil))) tNil)) rfl scShuf.nd (pi_range1 (by rfl) mR (pa_cons (pe_callB call_len_seq (by rfl) mL boot_len (pa_cons (pv 1) pa_nil)) pa_nil))
          (blkOk_by (N := ["source", "values", "left", "k"]) (sc := defScope sShuf) (by decide +kernel))
          (fun _ _ _ _ _ => pg_name (i := 3) scShuf.nd rfl (Or.inl rfl)) (fun _ _ _ _ _ => pts_nil)
          (fun _ _ _ _ _ => pe_bm PySem.F.plainAttrs_list PySem.F.slot_list_pop PySem.F.type_list_pop mt_popAt (pv 2)
            (pa_cons (pe_call GP hr (by rfl) gP FP.kp bP .nil pass0 (pa_cons (pv 0) (pa_cons (pe_callB call_len_seq (by rfl) mL boot_len (pa_cons (pv 2) pa_nil)) pa_nil))) pa_nil))))), ?_⟩
    -- left = list(row)
    refine ⟨.ref a, rfl, a, xs, rfl, .inl (sq_of ha), fun L hL => ?_⟩
    have e1 : Ex H (upd H L (.lst xs)) := Ex.new hL
    have src0 := hS.at
    -- range(len(row))
    refine ⟨.ref a, rfl, a, xs, rfl, .inl (sq_of (e1 _ _ ha)), (xs.length : Int), rfl, by omega, by omega, fun D hD => ?_⟩
    have nLD : D ≠ L := fun e => by
      rw [e, upd_same] at hD
      cases hD
    have hD0 : H D = none := fresh_back e1 hD
    refine lc_range (lo := 0) (n := (xs.length : Int).toNat) (fun i Hh => ∃ l acc, Hh L = some (.lst l) ∧ Hh D = some (.lst acc) ∧ (acc ++ l).Perm xs ∧ l.length + i = xs.length ∧ acc.length = i ∧ Drew s (B + i) H Hh) ?_ ?_ ?_
    · refine ⟨xs, [], ?_, upd_same, List.Perm.refl _, rfl, rfl, (((Drew.refl hS).ex e1).mut src0 hD0)⟩
      rw [upd_ne nLD.symm]
      exact upd_same
    · rintro i Hh hi ⟨l, acc, hl1, hD1, pm, len, len2, dr⟩
      have hi' : i < xs.length := by omega
      refine ⟨rfl, ?_⟩
      show tBM K "list" rPopAt (tVar 2) _ _ _ _
      refine ⟨.ref L, rfl, .inl ⟨rfl, _, sq_of hl1⟩, .ref s, rfl, .ref L, rfl, L, l, rfl, .inl (sq_of hl1), s, (l.length : Int), B + i, rfl, dr.src, by omega, by omega, by omega, fun H2 r dr2 r0 r1 => ?_⟩
      have nLs : L ≠ s := fun e => by
        obtain ⟨o, ho⟩ := src0
        rw [e, ho] at hL
        cases hL
      have nDs : D ≠ s := fun e => by
        obtain ⟨o, ho⟩ := src0
        rw [e, ho] at hD0
        cases hD0
      have hl2 : H2 L = some (.lst l) := dr2.get nLs hl1
      have hD2 : H2 D = some (.lst acc) := dr2.get nDs hD1
      have lt : r.toNat < l.length := by omega
      have er : r = (r.toNat : Int) := by omega
      refine ⟨L, l, r, r.toNat, l[r.toNat], rfl, rfl, hl2, by omega, by omega, (ixN_seq (by rw [er]; exact ixN_nat lt)).1, List.getElem?_eq_getElem lt, acc, ?_, ?_, ?_⟩
      · rw [upd_ne nLD]
        exact hD2
      · exact sz_lt (by omega)
      · refine ⟨l.eraseIdx r.toNat, acc ++ [l[r.toNat]], ?_, upd_same, (perm_pop acc (List.getElem?_eq_getElem lt)).trans pm, ?_, ?_, ?_⟩
        · rw [upd_ne nLD.symm]
          exact upd_same
        · rw [List.length_eraseIdx_of_lt lt]
          omega
        · rw [List.length_append, len2]
          rfl
        · exact ((dr.trans dr2).mut src0 hL).mut src0 hD0
    · rintro Hh ⟨l, acc, hl1, hD1, pm, len, len2, dr⟩
      have hn : l.length = 0 := by omega
      rw [List.length_eq_zero_iff.mp hn, List.append_nil] at pm
      exact q Hh D acc (by simpa using dr) hD0 hD1 pm
end
end K15
/-! the drawn forests: each later label is tied to an earlier one at most once -/
namespace Os
open PySem PySem.Spec PyProof.Rows L2 Evl
theorem snd_inj : ∀ {ks : List Pr}, ks.Pairwise (fun p q => p.2 < q.2) → ∀ {p q : Pr}, p ∈ ks → q ∈ ks → p.2 = q.2 → p = q
  | x :: r, h, p, q, hp, hq, e => by
    obtain ⟨h1, h2⟩ := List.pairwise_cons.mp h
    rcases List.mem_cons.mp hp with ep | hp
    · rcases List.mem_cons.mp hq with eq | hq
      · rw [ep, eq]
      · have := h1 q hq
        rw [ep] at e
        omega
    · rcases List.mem_cons.mp hq with eq | hq
      · have := h1 p hp
        rw [eq] at e
        omega
      · exact snd_inj h2 hp hq e
def edgeOf (lab : List Nat) (p : Pr) : Pr := (min (lab.getD p.1 0) (lab.getD p.2 0), max (lab.getD p.1 0) (lab.getD p.2 0))
/-- the places that hang below those of T -/
def below : List Pr → (Nat → Bool) → Nat → Bool
  | [], T => T
  | p :: r, T => below r fun x => T x || (decide (x = p.2) && T p.1)
theorem below_out : ∀ {ks : List Pr} {T : Nat → Bool} {x : Nat}, (∀ p ∈ ks, p.2 ≠ x) → below ks T x = T x
  | [], _, _, _ => rfl
  | p :: r, T, x, h => by
    show below r _ x = T x
    rw [below_out fun q hq => h q (List.mem_cons_of_mem _ hq), decide_eq_false fun e => h p List.mem_cons_self e.symm, Bool.false_and, Bool.or_false]
theorem below_tie : ∀ {ks : List Pr} {T : Nat → Bool} {a k : Nat}, (∀ p ∈ ks, p.1 < p.2) → ks.Pairwise (fun p q => p.2 < q.2) → (a, k) ∈ ks → below ks T k = (T k || below ks T a)
  | p :: r, T, a, k, hl, inc, hm => by
    obtain ⟨i1, i2⟩ := List.pairwise_cons.mp inc
    rcases List.mem_cons.mp hm with e | hm
    · subst e
      have lt : a < k := hl _ List.mem_cons_self
      show below r _ k = (T k || below r _ a)
      rw [below_out (x := k) fun q hq e => by have := i1 q hq; omega, below_out (x := a) fun q hq e => by have := i1 q hq; omega]
      rw [decide_eq_true rfl, decide_eq_false (show ¬ a = k by omega), Bool.true_and, Bool.false_and, Bool.or_false]
    · have gt : p.2 < k := i1 _ hm
      show below r _ k = (T k || below r _ a)
      rw [below_tie (fun q hq => hl q (List.mem_cons_of_mem _ hq)) i2 hm, decide_eq_false (show ¬ k = p.2 by omega), Bool.false_and, Bool.or_false]
theorem below_up : ∀ {ks : List Pr} {T : Nat → Bool} {x : Nat}, T x = true → below ks T x = true
  | [], _, _, h => h
  | p :: r, T, x, h => below_up (ks := r) (by rw [h]; rfl)
theorem below_ge : ∀ {ks : List Pr} {T : Nat → Bool} {c : Nat}, (∀ p ∈ ks, p.1 < p.2) → (∀ x, T x = true → c ≤ x) → ∀ x, below ks T x = true → c ≤ x
  | [], _, _, _, h => h
  | p :: r, T, c, hl, h => below_ge (ks := r) (fun q hq => hl q (List.mem_cons_of_mem _ hq)) fun x hx => by
    rw [Bool.or_eq_true, Bool.and_eq_true] at hx
    rcases hx with hx | ⟨h1, h2⟩
    · exact h x hx
    · have e := of_decide_eq_true h1
      have := h p.1 h2
      have := hl p List.mem_cons_self
      omega
theorem perm_nats {l : List Nat} {ys : List V} (h : ys.Perm (l.map fun x : Nat => V.int (x : Int))) : ∃ us : List Nat, ys = us.map (fun x : Nat => V.int (x : Int)) ∧ us.Perm l := by
  have back : ∀ x ∈ ys, ∃ z : Nat, x = V.int (z : Int) := fun x hx => by
    obtain ⟨z, _, e⟩ := List.mem_map.mp (h.mem_iff.mp hx)
    exact ⟨z, e.symm⟩
  let un : V → Nat := fun v => match v with
    | .int z => z.toNat
    | _ => 0
  refine ⟨ys.map un, ?_, ?_⟩
  · rw [List.map_map]
    have : ys.map ((fun x : Nat => V.int (x : Int)) ∘ un) = ys.map id := List.map_congr_left fun x hx => by
      obtain ⟨z, e⟩ := back x hx
      rw [e]
      rfl
    rw [this, List.map_id]
  · have := h.map un
    rw [List.map_map] at this
    have e : l.map (un ∘ fun x : Nat => V.int (x : Int)) = l := by
      have : l.map (un ∘ fun x : Nat => V.int (x : Int)) = l.map id := List.map_congr_left fun x _ => rfl
      rw [this, List.map_id]
    rwa [e] at this
section
variable {lab : List Nat} {n : Nat}
theorem lab_len (pm : lab.Perm (List.range n)) : lab.length = n := by rw [pm.length_eq, List.length_range]
theorem lab_lt (pm : lab.Perm (List.range n)) {i : Nat} (h : i < n) : lab.getD i 0 < n := by
  rw [List.getD_eq_getElem?_getD, List.getElem?_eq_getElem (by rw [lab_len pm]; exact h)]
  exact List.mem_range.mp (pm.mem_iff.mp (List.getElem_mem _))
theorem lab_inj (pm : lab.Perm (List.range n)) {i j : Nat} (hi : i < n) (hj : j < n) (e : lab.getD i 0 = lab.getD j 0) : i = j := by
  have nd : lab.Nodup := pm.nodup_iff.mpr List.nodup_range
  have li : i < lab.length := by rw [lab_len pm]; exact hi
  have lj : j < lab.length := by rw [lab_len pm]; exact hj
  rw [List.getD_eq_getElem?_getD, List.getD_eq_getElem?_getD, List.getElem?_eq_getElem li, List.getElem?_eq_getElem lj] at e
  have e' : lab[i] = lab[j] := e
  refine Decidable.byContradiction fun ne => ?_
  rcases Nat.lt_or_gt_of_ne ne with h | h
  · exact List.pairwise_iff_getElem.mp nd i j li lj h e'
  · exact List.pairwise_iff_getElem.mp nd j i lj li h e'.symm
/-- a property of places, said of labels -/
def onLab (lab : List Nat) (n : Nat) (T : Nat → Bool) (x : Nat) : Bool := (List.range n).any fun i => decide (lab.getD i 0 = x) && T i
theorem onLab_at (pm : lab.Perm (List.range n)) (T : Nat → Bool) {i : Nat} (hi : i < n) : onLab lab n T (lab.getD i 0) = T i := by
  unfold onLab
  cases h : T i with
  | true => exact List.any_eq_true.mpr ⟨i, List.mem_range.mpr hi, by rw [decide_eq_true rfl, h]; rfl⟩
  | false =>
    refine List.any_eq_false.mpr fun j hj z => ?_
    rw [Bool.and_eq_true] at z
    have e := lab_inj pm (List.mem_range.mp hj) hi (of_decide_eq_true z.1)
    rw [e, h] at z
    cases z.2
theorem minmax (S : Nat → Bool) (u v : Nat) : (S (min u v) = S (max u v)) ↔ S u = S v := by
  by_cases h : u ≤ v
  · rw [Nat.min_eq_left h, Nat.max_eq_right h]
  · rw [Nat.min_eq_right (by omega), Nat.max_eq_left (by omega)]
    exact ⟨Eq.symm, Eq.symm⟩
theorem drawn_edges {ks : List Pr} (pm : lab.Perm (List.range n)) (hl : ∀ p ∈ ks, p.1 < p.2 ∧ p.2 < n) (inc : ks.Pairwise fun p q => p.2 < q.2) :
    (∀ e ∈ ks.map (edgeOf lab), e.1 < e.2 ∧ e.2 < n) ∧ (ks.map (edgeOf lab)).Nodup ∧ Bridges (ks.map (edgeOf lab)) := by
  refine ⟨fun e he => ?_, ?_, fun e he => ?_⟩
  · obtain ⟨p, hp, rfl⟩ := List.mem_map.mp he
    obtain ⟨h1, h2⟩ := hl p hp
    have a := lab_lt pm (show p.1 < n by omega)
    have b := lab_lt pm h2
    have ne : lab.getD p.1 0 ≠ lab.getD p.2 0 := fun z => by
      have := lab_inj pm (show p.1 < n by omega) h2 z
      omega
    show min _ _ < max _ _ ∧ max _ _ < n
    omega
  · unfold List.Nodup
    rw [List.pairwise_map]
    refine List.Pairwise.imp_of_mem (fun {p q} hp hq lt e => ?_) inc
    obtain ⟨h1, h2⟩ := hl p hp
    obtain ⟨h3, h4⟩ := hl q hq
    have e1 : min (lab.getD p.1 0) (lab.getD p.2 0) = min (lab.getD q.1 0) (lab.getD q.2 0) := congrArg Prod.fst e
    have e2 : max (lab.getD p.1 0) (lab.getD p.2 0) = max (lab.getD q.1 0) (lab.getD q.2 0) := congrArg Prod.snd e
    have or : (lab.getD p.1 0 = lab.getD q.1 0 ∧ lab.getD p.2 0 = lab.getD q.2 0) ∨ (lab.getD p.1 0 = lab.getD q.2 0 ∧ lab.getD p.2 0 = lab.getD q.1 0) := by omega
    rcases or with ⟨_, z⟩ | ⟨z1, z2⟩
    · have := lab_inj pm h2 h4 z
      omega
    · have := lab_inj pm (by omega) h4 z1
      have := lab_inj pm h2 (by omega) z2
      omega
  · obtain ⟨p, hp, rfl⟩ := List.mem_map.mp he
    obtain ⟨h1, h2⟩ := hl p hp
    have hl1 : ∀ q ∈ ks, q.1 < q.2 := fun q hq => (hl q hq).1
    refine ⟨onLab lab n (below ks fun x => decide (x = p.2)), ?_, fun f hf ne => ?_⟩
    · intro z
      have z2 := (minmax _ _ _).mp z
      rw [onLab_at pm _ (show p.1 < n by omega), onLab_at pm _ h2, below_up (x := p.2) (decide_eq_true rfl)] at z2
      have := below_ge (c := p.2) hl1 (fun x hx => by have := of_decide_eq_true hx; omega) p.1 z2
      omega
    · obtain ⟨q, hq, rfl⟩ := List.mem_map.mp hf
      obtain ⟨h3, h4⟩ := hl q hq
      refine (minmax _ _ _).mpr ?_
      rw [onLab_at pm _ (show q.1 < n by omega), onLab_at pm _ h4]
      have nk : q.2 ≠ p.2 := fun z => by
        have : p = q := snd_inj inc hp hq z.symm
        rw [this] at ne
        exact ne rfl
      have t := below_tie (T := fun x => decide (x = p.2)) hl1 inc (show (q.1, q.2) ∈ ks from hq)
      rw [decide_eq_false nk, Bool.false_or] at t
      exact t.symm
end
/-! ### sorted -/
theorem Bridges.perm {es fs : List Pr} (h : Bridges es) (pm : fs.Perm es) : Bridges fs := fun e he => by
  obtain ⟨S, h1, h2⟩ := h e (pm.mem_iff.mp he)
  exact ⟨S, h1, fun f hf => h2 f (pm.mem_iff.mp hf)⟩
theorem asc_strict {es : List Pr} (nd : es.Nodup) (small : ∀ e ∈ es, e.1 < 64 ∧ e.2 < 64) (h : es.Pairwise fun e f => (e.1 : Int) * 64 + (e.2 : Int) ≤ (f.1 : Int) * 64 + (f.2 : Int)) : es.Pairwise fun e f => ltP e f = true := by
  have h2 := h.and nd
  refine List.Pairwise.imp_of_mem (fun {e f} he hf z => ?_) h2
  obtain ⟨a1, a2⟩ := small e he
  obtain ⟨b1, b2⟩ := small f hf
  rw [ltP_iff]
  by_cases q : e.1 = f.1
  · by_cases q2 : e.2 = f.2
    · exact absurd (Prod.ext q q2) z.2
    · have := z.1
      omega
  · have := z.1
    omega
end Os
/-! what evaluates to something of a kind: displays, sums and slices whose items are new objects themselves -/
namespace Os
open PySem PySem.Spec PyProof.Rows L2 Evl

/-- R is kept by more heap -/
def Up (R : Hp → V → Prop) : Prop := ∀ G G' v, Ex G G' → R G v → R G' v
section
variable (s : Addr) (R : Hp → V → Prop)
def EvR (te : TE) (σ : L2.St) (H : Hp) : Prop := ∀ H1, Ex H H1 → ∀ Q : VK, (∀ v H2, Ex H1 H2 → R (hide s H2) v → Q v H2) → te σ H1 Q
def EvAR (ta : TA) (σ : L2.St) (H : Hp) (n : Nat) : Prop := ∀ H1, Ex H H1 → ∀ Q : List V → Hp → Prop, (∀ vs H2, Ex H1 H2 → vs.length = n → (∀ v ∈ vs, R (hide s H2) v) → Q vs H2) → ta σ H1 Q
/-- a new list of lo to hi such items -/
def EvLR (te : TE) (σ : L2.St) (H : Hp) (lo hi : Nat) : Prop := ∀ H1, Ex H H1 → ∀ Q : VK,
  (∀ p xs H2, H1 p = none → Ex H1 H2 → H2 p = some (.lst xs) → lo ≤ xs.length → xs.length ≤ hi → (∀ x ∈ xs, R (hide s H2) x) → Q (.ref p) H2) → te σ H1 Q
/-- a list that stands at p, the same of its items -/
def LsR (H : Hp) (p : Addr) (lo hi : Nat) : Prop := p ≠ s ∧ ∃ xs, H p = some (.lst xs) ∧ lo ≤ xs.length ∧ xs.length ≤ hi ∧ ∀ x ∈ xs, R (hide s H) x
end
section
variable {K : PySem.W.Frag} {s : Addr} {R : Hp → V → Prop} {σ : L2.St} {H H' : Hp} {ta tb te : TE} {tl tr : TA} {n m lo hi lo' hi' : Nat} {v : V}
theorem hide_ex (e : Ex H H') : Ex (hide s H) (hide s H') := Same.hide (same_ex e)
theorem er_of (up : Up R) (h : Ev te σ H v) (r : R (hide s H) v) : EvR s R te σ H := fun H1 e Q q =>
  h H1 e _ fun H2 e2 => q v H2 e2 (up _ _ _ (hide_ex (e.trans e2)) r)
theorem er_mono (e : Ex H H') (h : EvR s R te σ H) : EvR s R te σ H' := fun H1 a Q q => h H1 (e.trans a) Q q
theorem ear_nil : EvAR s R tNil σ H 0 := fun H1 _ Q q => q [] H1 (Ex.refl _) rfl fun _ h => nomatch h
theorem ear_cons (up : Up R) (h : EvR s R te σ H) (hr : EvAR s R tr σ H n) : EvAR s R (tCons te tr) σ H (n + 1) := fun H1 e Q q =>
  h H1 e _ fun v H2 e2 r => hr H2 (e.trans e2) _ fun vs H3 e3 hn hv => q (v :: vs) H3 (e2.trans e3) (by rw [List.length_cons, hn]) fun x hx => by
    rcases List.mem_cons.mp hx with rfl | hx
    · exact up _ _ _ (hide_ex e3) r
    · exact hv x hx
theorem new_apart (hs : ∃ o, H s = some o) {p : Addr} (h : H p = none) : p ≠ s := fun e => by
  obtain ⟨o, ho⟩ := hs
  rw [e, ho] at h
  cases h
theorem elr_lst (up : Up R) (h : EvAR s R tl σ H n) (hn : n ≤ 1000) : EvLR s R (tLst tl) σ H n n := fun H1 e Q q =>
  h H1 e _ fun vs H2 e2 hl hv => ⟨by rw [hl]; exact sz_of (by omega), fun p hp => q p vs _ (fresh_back e2 hp) (e2.trans (Ex.new hp)) upd_same (by omega) (by omega) fun x hx => up _ _ _ (hide_ex (Ex.new hp)) (hv x hx)⟩
theorem elr_cat (up : Up R) (h1 : EvLR s R ta σ H lo hi) (h2 : EvLR s R tb σ H lo' hi') (hn : hi + hi' ≤ 10000) : EvLR s R (tOp rCat ta tb) σ H (lo + lo') (hi + hi') := fun H1 e Q q =>
  h1 H1 e _ fun p xs H2 hp e2 hx l1 l2 rx => h2 H2 (e.trans e2) _ fun p' ys H3 hp' e3 hy l3 l4 ry =>
    ⟨p, p', xs, ys, rfl, rfl, e3 _ _ hx, hy, sz_of (by omega), fun r hr => q r (xs ++ ys) _ (fresh_back (e2.trans e3) hr) ((e2.trans e3).trans (Ex.new hr)) upd_same (by rw [List.length_append]; omega) (by rw [List.length_append]; omega) fun x hx => by
      rcases List.mem_append.mp hx with z | z
      · exact up _ _ _ (hide_ex (e3.trans (Ex.new hr))) (rx x z)
      · exact up _ _ _ (hide_ex (Ex.new hr)) (ry x z)⟩
/-- the left one stands there already -/
theorem elr_catV (up : Up R) {p : Addr} (h1 : Ev ta σ H (.ref p)) (hp : LsR s R H p lo hi) (h2 : EvLR s R tb σ H lo' hi') (hn : hi + hi' ≤ 10000) : EvLR s R (tOp rCat ta tb) σ H (lo + lo') (hi + hi') := fun H1 e Q q => by
  obtain ⟨_, xs, hx, l1, l2, rx⟩ := hp
  exact h1 H1 e _ fun H2 e2 => h2 H2 (e.trans e2) _ fun p' ys H3 hp' e3 hy l3 l4 ry =>
    ⟨p, p', xs, ys, rfl, rfl, ((e.trans e2).trans e3) _ _ hx, hy, sz_of (by omega), fun r hr => q r (xs ++ ys) _ (fresh_back (e2.trans e3) hr) ((e2.trans e3).trans (Ex.new hr)) upd_same (by rw [List.length_append]; omega) (by rw [List.length_append]; omega) fun x hx => by
      rcases List.mem_append.mp hx with z | z
      · exact up _ _ _ (hide_ex (((e.trans e2).trans e3).trans (Ex.new hr))) (rx x z)
      · exact up _ _ _ (hide_ex (Ex.new hr)) (ry x z)⟩
/-- a list that is known whole -/
theorem elr_of (up : Up R) {xs : List V} (h : EvL te σ H xs) (l1 : lo ≤ xs.length) (l2 : xs.length ≤ hi) (r : ∀ x ∈ xs, R (hide s H) x) : EvLR s R te σ H lo hi := fun H1 e Q q =>
  h H1 e _ fun p H2 hp e2 h2 => q p xs H2 hp e2 h2 l1 l2 fun x hx => up _ _ _ (hide_ex (e.trans e2)) (r x hx)
/-- such a list as a value of another kind -/
theorem er_list {R' : Hp → V → Prop} (hs : ∃ o, H s = some o) (h : EvLR s R te σ H lo hi) (f : ∀ p xs G, G p = some (.lst xs) → lo ≤ xs.length → xs.length ≤ hi → (∀ x ∈ xs, R G x) → R' G (.ref p)) : EvR s R' te σ H := fun H1 e Q q =>
  h H1 e _ fun p xs H2 hp e2 h2 l1 l2 r => q (.ref p) H2 e2 (f p xs _ (by
    rw [hide_ne (new_apart (by obtain ⟨o, ho⟩ := hs; exact ⟨o, e _ _ ho⟩) hp)]
    exact h2) l1 l2 r)
theorem er_tup {R' : Hp → V → Prop} (up : Up R) (hs : ∃ o, H s = some o) (h : EvAR s R tl σ H n) (hn : n ≤ 1000) (f : ∀ p xs G, G p = some (.tup xs) → xs.length = n → (∀ x ∈ xs, R G x) → R' G (.ref p)) : EvR s R' (tTup tl) σ H := fun H1 e Q q =>
  h H1 e _ fun vs H2 e2 hl hv => ⟨by rw [hl]; exact sz_of (by omega), fun p hp => q (.ref p) _ (e2.trans (Ex.new hp)) (f p vs _ (by
    rw [hide_ne (new_apart (by obtain ⟨o, ho⟩ := hs; exact ⟨o, e2 _ _ (e _ _ ho)⟩) hp)]
    exact upd_same) hl fun x hx => up _ _ _ (hide_ex (Ex.new hp)) (hv x hx))⟩
theorem er_imp {R' : Hp → V → Prop} (h : EvR s R te σ H) (f : ∀ G v, R G v → R' G v) : EvR s R' te σ H := fun H1 e Q q => h H1 e Q fun v H2 e2 r => q v H2 e2 (f _ _ r)
/-- statements -/
theorem q_asgR {i : Nat} {D : Ends} {tz : TS} (h : EvR s R te σ H) (k : ∀ v H1, Ex H H1 → R (hide s H1) v → tz D (σ.set i (some v)) H1) : tSeq (tAsg te (gName i)) tz D σ H := h H (Ex.refl H) _ fun v H1 e r => k v H1 e r
theorem q_asgLR {i : Nat} {D : Ends} {tz : TS} (hs : ∃ o, H s = some o) (h : EvLR s R te σ H lo hi) (k : ∀ p H1, H p = none → Ex H H1 → LsR s R H1 p lo hi → tz D (σ.set i (some (.ref p))) H1) : tSeq (tAsg te (gName i)) tz D σ H :=
  h H (Ex.refl H) _ fun p xs H1 hp e h1 l1 l2 r => k p H1 hp e ⟨new_apart hs hp, xs, h1, l1, l2, r⟩
theorem LsR.drew {B : Nat} (up : Up R) {p : Addr} (h : LsR s R H p lo hi) (d : Drew s B H H') : LsR s R H' p lo hi := by
  obtain ⟨np, xs, hx, l1, l2, r⟩ := h
  exact ⟨np, xs, d.get np hx, l1, l2, fun x hx => up _ _ _ d.kept (r x hx)⟩
theorem LsR.ex (up : Up R) {p : Addr} (h : LsR s R H p lo hi) (e : Ex H H') : LsR s R H' p lo hi := by
  obtain ⟨np, xs, hx, l1, l2, r⟩ := h
  exact ⟨np, xs, e _ _ hx, l1, l2, fun x hx => up _ _ _ (hide_ex e) (r x hx)⟩
theorem LsR.pick {Kf : PySem.W.Frag} {p : Addr} {r : Int} {Q : VK} (h : LsR s R H p lo hi) (r0 : 0 ≤ r) (r1 : r < (lo : Int)) (q : ∀ x, R (hide s H) x → Q x H) : rIxL Kf (.ref p) (.int r) H Q := by
  obtain ⟨_, xs, hx, l1, l2, hr⟩ := h
  have lt : r.toNat < xs.length := by omega
  have e : r = (r.toNat : Int) := by omega
  rw [e]
  exact ⟨p, xs, _, xs[r.toNat], rfl, rfl, sq_of hx, atI_nat (List.getElem?_eq_getElem lt), q _ (hr _ (List.getElem_mem lt))⟩
end
end Os
namespace K15
open PySem PySem.Spec PyProof.Rows L2 Os Evl
abbrev sGraph : Stmt := topS 45
theorem scGraph : FnScope ["source", "most", "size", "names", "style", "gaps", "pairs", "k", "parent"] ["source", "most"] (defScope sGraph) := ⟨rfl, rfl, rfl, by decide +kernel, rfl, by decide +kernel, by decide +kernel⟩
theorem PrsV.put {s p : Addr} {G : Hp} {xs' zs vs : List V} {es : List Pr} (h : PrsV (hide s G) vs es) (np : p ≠ s) (hp : G p = some (.lst xs')) : PrsV (hide s (upd G p (.lst zs))) vs es := by
  induction h with
  | nil => exact .nil
  | cons x _ ih =>
    obtain ⟨t, rfl, ht⟩ := x
    obtain ⟨n1, h1⟩ := hide_of ht
    refine .cons ⟨t, rfl, ?_⟩ ih
    rw [hide_ne n1, upd_ne fun e => by
      rw [e, hp] at h1
      cases h1]
    exact h1
theorem PrsV.mem {G : Hp} : ∀ {vs : List V} {es : List Pr} {e : Pr}, PrsV G vs es → e ∈ es → ∃ v ∈ vs, PrV G v e
  | _, _, _, .cons p r, h => by
    rcases List.mem_cons.mp h with rfl | h
    · exact ⟨_, List.mem_cons_self, p⟩
    · obtain ⟨v, h1, h2⟩ := PrsV.mem r h
      exact ⟨v, List.mem_cons_of_mem _ h1, h2⟩
theorem PrsV.pairwise {G : Hp} {R : V → V → Prop} {S : Pr → Pr → Prop} : ∀ {vs : List V} {es : List Pr}, PrsV G vs es → vs.Pairwise R → (∀ v u e f, R v u → PrV G v e → PrV G u f → S e f) → es.Pairwise S
  | _, _, .nil, _, _ => .nil
  | _, _, .cons p r, h, k => by
    obtain ⟨h1, h2⟩ := List.pairwise_cons.mp h
    refine List.pairwise_cons.mpr ⟨fun f hf => ?_, PrsV.pairwise r h2 k⟩
    obtain ⟨u, hu, pu⟩ := PrsV.mem r hf
    exact k _ _ _ _ (h1 u hu) p pu
theorem drawn_if {s : Addr} {C : Nat} {t : TT} {tu tw : TS} {D : Ends} {σ : L2.St} {H : Hp} (h : ∀ Q : Bool → Hp → Prop, (∀ H1, Drew s C H H1 → Q true H1) → (∀ H1, Drew s C H H1 → Q false H1) → t σ H Q) (k1 : ∀ H1, Drew s C H H1 → tu D σ H1) (k2 : ∀ H1, Drew s C H H1 → tw D σ H1) : tIfS t tu tw D σ H :=
  h _ (fun H1 d => k1 H1 d) (fun H1 d => k2 H1 d)
section
variable {P : Program} {w : World} {K : PySem.W.Frag} {mg : Str → Option Value} {base : Heap}
def spGraph : Sp := fun vs H Q _ => ∃ (s : Addr) (m B : Nat), vs = [.ref s, .int (m : Int)] ∧ 1 ≤ m ∧ m ≤ 40 ∧ Src H s B ∧ B ≤ 800000 ∧
  ∀ (H' : Hp) (v : V) (n : Nat) (es : List Pr), Drew s (B + 200) H H' → GraphV (hide s H') v n es → IsForest n es → Q v H'
theorem ok_graph {f fP fS : Addr} {fd fdP fdS : FuncData} {k : Nat} (F : Fun K "_law_graph" "_law_graph" sGraph f fd) (GP : FnOk P w K mg base CX0 k fP fdP ["source", "wide"] spPick) (FP : Fun K "_law_pick" "_law_pick" sPick fP fdP) (bP : Binds K fdP ["source", "wide"] [])
    (gP : mg "_law_pick" = some (.ref fP)) (GS : FnOk P w K mg base CX0 k fS fdS ["source", "values"] spShuf) (FS : Fun K "_law_shuffle" "_law_shuffle" sShuf fS fdS) (bS : Binds K fdS ["source", "values"] []) (gS : mg "_law_shuffle" = some (.ref fS))
    (mRange : mg "range" = none) (mList : mg "list" = none) (mMax : mg "max" = none) (mMin : mg "min" = none) (mSorted : mg "sorted" = none) :
    FnOk P w K mg base CX0 (k + 1) f fd ["source", "most"] spGraph := by
  refine F.ok scGraph (fun vs H Q E h => ?_) (fun cdv A outer s H vs Q E hr h => ?_)
  · obtain ⟨s, m, B, rfl, _⟩ := h
    rfl
  · obtain ⟨s, m, B, rfl, hm1, hm40, hS, hB, q⟩ := h
    refine ⟨_, (pss_cons (ps_set (i := 2) scGraph.nd rfl (.inl rfl) (pe_ix ix_list (pe_lst (pa_cons (pe_op op_add pe_int (pe_call GP hr (by rfl) gP FP.kp bP .nil pass0 (pa_cons (pv 0) (pa_cons (pv 1) pa_nil)))) (pa_cons (pv 1) (pa_cons (pe_op op_add pe_int (pe_call GP hr (by rfl) gP FP.kp bP .nil pass0 (pa_cons (pv 0) (pa_cons (pe_callB (call_min2 rfl) (by rfl) mMin boot_min (pa_cons (pv 1) (pa_cons pe_int pa_nil))) pa_nil)))) pa_nil)))) (pe_call GP hr (by rfl) gP FP.kp bP .nil pass0 (pa_cons (pv 0) (pa_cons pe_int pa_nil))) (fun _ _ => rfl)))
      (pss_cons (ps_set (i := 3) scGraph.nd rfl (.inl rfl) (pe_call GS hr (by rfl) gS FS.kp bS .nil pass0 (pa_cons (pv 0) (pa_cons (pe_listRg rfl (by rfl) mList (prg_1 (by rfl) mRange (pv 2))) pa_nil))))
      (pss_cons (ps_set (i := 4) scGraph.nd rfl (.inl rfl) (pe_call GP hr (by rfl) gP FP.kp bP .nil pass0 (pa_cons (pv 0) (pa_cons pe_int pa_nil))))
      (pss_cons (ps_set (i := 5) scGraph.nd rfl (.inl rfl) (pe_ix ix_list (pe_lst (pa_cons pe_int (pa_cons pe_int (pa_cons pe_int pa_nil)))) (pe_call GP hr (by rfl) gP FP.kp bP .nil pass0 (pa_cons (pv 0) (pa_cons pe_int pa_nil))) (fun _ _ => rfl)))
      (pss_cons (ps_set (i := 6) scGraph.nd rfl (.inl rfl) (pe_lst pa_nil))
      (pss_cons (ps_for PassesOwn.never rfl (pi_range2 (by rfl) mRange (pa_cons pe_int (pa_cons (pv 2) pa_nil))) (pg_name (i := 7) scGraph.nd rfl (Or.inl rfl))
      (pss_cons (ps_set (i := 8) scGraph.nd rfl (.inl rfl) (pe_ix ix_list (pv 3) (pe_ix ix_list (pe_lst (pa_cons (pe_op op_sub (pv 7) pe_int) (pa_cons pe_int (pa_cons (pe_call GP hr (by rfl) gP FP.kp bP .nil pass0 (pa_cons (pv 0) (pa_cons (pv 7) pa_nil))) (pa_cons (pe_callB (call_max2 rfl) (by rfl) mMax boot_max (pa_cons pe_int (pa_cons (pe_op op_sub (pe_op op_sub (pv 7) pe_int) (pe_call GP hr (by rfl) gP FP.kp bP .nil pass0 (pa_cons (pv 0) (pa_cons pe_int pa_nil)))) pa_nil))) pa_nil))))) (pv 4) (fun _ _ => rfl)) (fun _ _ => rfl)))
      (pss_one (ps_if (PW.pt (pw_or (pt_cmpR op_eq (pv 5) pe_int (nomark _)) (pw_or1 (pt_cmpR op_gt (pe_call GP hr (by rfl) gP FP.kp bP .nil pass0 (pa_cons (pv 0) (pa_cons (pv 5) pa_nil))) pe_int (nomark _))))) (pss_one (ps_expr (pe_bm PySem.F.plainAttrs_list PySem.F.slot_list_append PySem.F.type_list_append mt_append (pv 6) (pa_cons (pe_tup (pa_cons (pe_callB (call_min2 rfl) (by rfl) mMin boot_min (pa_cons (pe_ix ix_list (pv 3) (pv 7) (fun _ _ => rfl)) (pa_cons (pv 8) pa_nil))) (pa_cons (pe_callB (call_max2 rfl) (by rfl) mMax boot_max (pa_cons (pe_ix ix_list (pv 3) (pv 7) (fun _ _ => rfl)) (pa_cons (pv 8) pa_nil))) pa_nil))) pa_nil)))) pss_nil))))
      (pss_one (ps_ret (pe_tup (pa_cons (pv 2) (pa_cons (pe_callB (cr_sortT (d := 2) (B := 64) (by decide)) (by rfl) mSorted boot_sorted (pa_cons (pv 6) pa_nil)) pa_nil))))))))))), ?_⟩
    have src0 := hS.at
    have rgn : ∀ n : Nat, rgV 0 (n : Int) = (List.range n).map fun x : Nat => V.int (x : Int) := fun n => by
      unfold rgV
      rw [show ((n : Int) - 0).toNat = n by omega]
      exact List.map_congr_left fun i _ => congrArg V.int (by omega)
    -- size
    refine ⟨.ref s, rfl, .int (m : Int), rfl, s, (m : Int), B, rfl, hS, by omega, by omega, by omega, fun H1 r1 d1 r10 r11 => ⟨1, r1, rfl, rfl, .int (m : Int), rfl, ?_⟩⟩
    refine ⟨.ref s, rfl, .int (m : Int), rfl, (m : Int), 6, rfl, s, if (6 : Int) < (m : Int) then 6 else (m : Int), B + 1, rfl, d1.src, by omega, by split <;> omega, by split <;> omega, fun H2 r2 d2 r20 r21 => ⟨1, r2, rfl, rfl, show 3 ≤ sizeLine by decide, fun p1 hp1 => ?_⟩⟩
    have D3 := d1.trans d2
    have r21' : r2 < 40 := by split at r21 <;> omega
    have D4 := D3.ex (Ex.new (o := .lst [.int (1 + r1), .int (m : Int), .int (1 + r2)]) hp1)
    have np1 : p1 ≠ s := new_apart D3.src.at hp1
    refine ⟨.ref s, rfl, s, 3, B + 2, rfl, D4.src, by omega, by decide, by decide, fun H4 r4 d4 r40 r41 => ?_⟩
    obtain ⟨n, hn, n1, n40⟩ : ∃ n : Nat, ([.int (1 + r1), .int (m : Int), .int (1 + r2)] : List V)[r4.toNat]? = some (.int (n : Int)) ∧ 1 ≤ n ∧ n ≤ 40 := by
      obtain ⟨a1, rfl⟩ : ∃ a : Nat, r1 = (a : Int) := ⟨r1.toNat, by omega⟩
      obtain ⟨a2, rfl⟩ : ∃ a : Nat, r2 = (a : Int) := ⟨r2.toNat, by omega⟩
      have h4 : r4.toNat < 3 := by omega
      match r4.toNat, h4 with
      | 0, _ => exact ⟨1 + a1, rfl, by omega, by omega⟩
      | 1, _ => exact ⟨m, rfl, by omega, by omega⟩
      | 2, _ => exact ⟨1 + a2, rfl, by omega, by omega⟩
    obtain ⟨t4, rfl⟩ : ∃ a : Nat, r4 = (a : Int) := ⟨r4.toNat, by omega⟩
    refine ⟨p1, _, (t4 : Int), .int (n : Int), rfl, rfl, sq_of (d4.get np1 upd_same), atI_nat hn, ?_⟩
    have D7 := D4.trans d4
    -- names
    refine ⟨.ref s, rfl, .int (n : Int), rfl, (n : Int), rfl, RgOk.of_le (by omega) (by omega) (by omega) (by omega), fun L hL => ?_⟩
    have D8 := D7.ex (Ex.new (o := .lst (rgV 0 (n : Int))) hL)
    refine ⟨s, L, rgV 0 (n : Int), B + 3, rfl, D8.src, upd_same, new_apart D7.src.at hL, by rw [rgn, List.length_map, List.length_range]; omega, by omega, fun H7 La ys d7 hLa hys pm => ?_⟩
    rw [rgn, List.length_map, List.length_range] at d7
    rw [rgn] at pm D8 hLa
    obtain ⟨lab, rfl, pl⟩ := perm_nats pm
    have D9 := D8.trans d7
    have nLa : La ≠ s := fun e => by
      obtain ⟨o, ho⟩ := D8.src.at
      rw [e, ho] at hLa
      cases hLa
    -- style, gaps
    refine ⟨.ref s, rfl, s, 4, B + 3 + n, rfl, D9.src, by omega, by decide, by decide, fun H5 r5 d5 r50 r51 => ?_⟩
    refine ⟨show 3 ≤ sizeLine by decide, fun pg hpg => ?_⟩
    have D10 := (D9.trans d5).ex (Ex.new (o := .lst [.int 1, .int 12, .int 3]) hpg)
    have npg : pg ≠ s := new_apart (D9.trans d5).src.at hpg
    refine ⟨.ref s, rfl, s, 3, B + 4 + n, rfl, D10.src.mono (by omega), by omega, by decide, by decide, fun H6 r6 d6 r60 r61 => ?_⟩
    obtain ⟨gp, hgp, g1, g40⟩ : ∃ g : Nat, ([.int 1, .int 12, .int 3] : List V)[r6.toNat]? = some (.int (g : Int)) ∧ 1 ≤ g ∧ g ≤ 40 := by
      have h4 : r6.toNat < 3 := by omega
      match r6.toNat, h4 with
      | 0, _ => exact ⟨1, rfl, by omega, by omega⟩
      | 1, _ => exact ⟨12, rfl, by omega, by omega⟩
      | 2, _ => exact ⟨3, rfl, by omega, by omega⟩
    obtain ⟨t6, rfl⟩ : ∃ a : Nat, r6 = (a : Int) := ⟨r6.toNat, by omega⟩
    refine ⟨pg, _, (t6 : Int), .int (gp : Int), rfl, rfl, sq_of (d6.get npg upd_same), atI_nat hgp, ?_⟩
    have D11 := D10.trans d6
    have hysA : H6 La = some (.lst (lab.map fun x : Nat => V.int (x : Int))) := ((d5.ex (Ex.new (o := .lst [.int 1, .int 12, .int 3]) hpg)).trans d6).get nLa hys
    refine q_asgL (xs := []) (el_lst ea_nil (Nat.zero_le _)) fun Pa H8 hPa e8 hP8 => ?_
    have nPs : Pa ≠ s := new_apart D11.src.at hPa
    have nPL : La ≠ Pa := ne_of_none hysA hPa
    have D12 := D11.ex e8
    have hPH : H Pa = none := D11.none src0 hPa
    have ll := lab_len pl
    have labAt : ∀ {j : Nat}, j < n → (lab.map fun x : Nat => V.int (x : Int))[j]? = some (.int ((lab.getD j 0 : Nat) : Int)) := fun {j} hj => by
      rw [List.getElem?_map, List.getD_eq_getElem?_getD, List.getElem?_eq_getElem (by omega)]
      rfl
    refine q_forR2 (lo := 1) (n := (n : Int)) (ea_cons ev_c (ea_cons (ev_var rfl) ea_nil)) ⟨by omega, by omega, by omega, by omega⟩
      (fun i σ' H' => ∃ (ks : List Pr) (xs : List V) (y8 y9 : Option V), σ' = [some (.ref s), some (.int (m : Int)), some (.int (n : Int)), some (.ref La), some (.int r5), some (.int (gp : Int)), some (.ref Pa), y8, y9] ∧ H' La = some (.lst (lab.map fun x : Nat => V.int (x : Int))) ∧
        H' Pa = some (.lst xs) ∧ PrsV (hide s H') xs (ks.map (edgeOf lab)) ∧ (∀ p ∈ ks, p.1 < p.2 ∧ p.2 < 1 + i ∧ p.2 < n) ∧ (ks.Pairwise fun p q => p.2 < q.2) ∧ ks.length ≤ i ∧ i ≤ 40 ∧ Drew s (B + 6 + n + 3 * i) H H')
      (fun H9 e9 => ⟨[], [], _, _, rfl, e9 _ _ (e8 _ _ hysA), e9 _ _ hP8, .nil, (fun p hp => nomatch hp), .nil, Nat.le_refl _, Nat.zero_le _, (D12.ex e9).mono (by omega)⟩) ?_ ?_
    · rintro i σ' H9 hi ⟨ks, xs, y8, y9, rfl, hLa9, hPa9, prs, kin, inc, kl, i40, dr⟩
      have hk : (1 : Int) + (i : Int) = ((1 + i : Nat) : Int) := by omega
      rw [hk]
      have lt_n : 1 + i < n := by omega
      -- parent
      refine ⟨.ref La, rfl, .int ((1 + i : Nat) : Int), rfl, ((1 + i : Nat) : Int), 1, rfl, rfl, ?_⟩
      refine ⟨.ref s, rfl, .int ((1 + i : Nat) : Int), rfl, s, ((1 + i : Nat) : Int), B + 6 + n + 3 * i, rfl, dr.src, by omega, by omega, by omega, fun Ha ra da ra0 ra1 => ?_⟩
      refine ⟨.int ((1 + i : Nat) : Int), rfl, ((1 + i : Nat) : Int), 1, rfl, rfl, .ref s, rfl, s, 3, _, rfl, da.src, by omega, by decide, by decide, fun Hb rb db rb0 rb1 => ?_⟩
      refine ⟨_, rb, rfl, rfl, 0, _, rfl, show 4 ≤ sizeLine by decide, fun p4 hp4 => ?_⟩
      obtain ⟨ah, hah, ahlt⟩ : ∃ a : Nat, ([.int (((1 + i : Nat) : Int) - 1), .int 0, .int ra, .int (if ((1 + i : Nat) : Int) - 1 - rb > 0 then ((1 + i : Nat) : Int) - 1 - rb else 0)] : List V)[r5.toNat]? = some (.int (a : Int)) ∧ a < 1 + i := by
        have h4 : r5.toNat < 4 := by omega
        match r5.toNat, h4 with
        | 0, _ => exact ⟨i, congrArg some (congrArg V.int (show ((1 + i : Nat) : Int) - 1 = (i : Int) by omega)), by omega⟩
        | 1, _ => exact ⟨0, rfl, by omega⟩
        | 2, _ => exact ⟨ra.toNat, congrArg some (congrArg V.int (show ra = (ra.toNat : Int) by omega)), by omega⟩
        | 3, _ =>
          by_cases hc : ((1 + i : Nat) : Int) - 1 - rb > 0
          · refine ⟨(((1 + i : Nat) : Int) - 1 - rb).toNat, ?_, by omega⟩
            rw [if_pos hc]
            exact congrArg some (congrArg V.int (by omega))
          · refine ⟨0, ?_, by omega⟩
            rw [if_neg hc]
            rfl
      have e4 : Ex Hb _ := Ex.new (o := .lst [.int (((1 + i : Nat) : Int) - 1), .int 0, .int ra, .int (if ((1 + i : Nat) : Int) - 1 - rb > 0 then ((1 + i : Nat) : Int) - 1 - rb else 0)]) hp4
      have da' := (da.trans db).ex e4
      have hLa' := da'.get nLa hLa9
      refine ⟨.int r5, rfl, p4, _, r5, .int (ah : Int), rfl, rfl, sq_of upd_same, by rw [show r5 = (r5.toNat : Int) by omega]; exact atI_nat hah, ?_⟩
      refine ⟨La, _, (ah : Int), .int ((lab.getD ah 0 : Nat) : Int), rfl, rfl, sq_of hLa', atI_nat (labAt (by omega)), ?_⟩
      dsimp only [gName]
      refine drawn_if (s := s) (C := B + 6 + n + 3 * (i + 1)) (fun Q' q1 q2 => ?_) (fun Hc dc => ?_) (fun Hc dc => ?_)
      · refine ⟨.int (gp : Int), rfl, rfl, _, rfl, ite2 (fun _ => q1 _ (Drew.refl (da'.src.mono (by omega)))) (fun _ => ?_)⟩
        refine ⟨.ref s, rfl, .int (gp : Int), rfl, s, (gp : Int), _, rfl, da'.src, by omega, by omega, by omega, fun Hd rd dd rd0 rd1 => ⟨rd, 0, rfl, rfl, ?_⟩⟩
        refine ⟨_, rfl, ?_⟩
        cases hz : decide ((0 : Int) < rd) with
        | true => exact q1 _ (dd.mono (by omega))
        | false => exact q2 _ (dd.mono (by omega))
      · have dF := da'.trans dc
        have hLa10 := dF.get nLa hLa9
        have hPa10 := dF.get nPs hPa9
        have e1 : edgeOf lab (ah, 1 + i) = (min (lab.getD ah 0) (lab.getD (1 + i) 0), max (lab.getD ah 0) (lab.getD (1 + i) 0)) := rfl
        have m1 : (V.int (if ((lab.getD ah 0 : Nat) : Int) < ((lab.getD (1 + i) 0 : Nat) : Int) then ((lab.getD ah 0 : Nat) : Int) else ((lab.getD (1 + i) 0 : Nat) : Int))) = V.int (((edgeOf lab (ah, 1 + i)).1 : Nat) : Int) := by
          rw [e1]
          refine congrArg V.int ?_
          show _ = ((min (lab.getD ah 0) (lab.getD (1 + i) 0) : Nat) : Int)
          split <;> omega
        have m2 : (V.int (if ((lab.getD ah 0 : Nat) : Int) > ((lab.getD (1 + i) 0 : Nat) : Int) then ((lab.getD ah 0 : Nat) : Int) else ((lab.getD (1 + i) 0 : Nat) : Int))) = V.int (((edgeOf lab (ah, 1 + i)).2 : Nat) : Int) := by
          rw [e1]
          refine congrArg V.int ?_
          show _ = ((max (lab.getD ah 0) (lab.getD (1 + i) 0) : Nat) : Int)
          split <;> omega
        have exA : ∀ {σ : L2.St} {j c : Nat}, σ[3]? = some (some (.ref La)) → σ[c]? = some (some (.int (j : Int))) → j < n → Ev (tOp (rIxL K) (tVar 3) (tVar c)) σ Hc (.int ((lab.getD j 0 : Nat) : Int)) := fun {σ j c} g6 g7 hj => ev_op (ev_var g6) (ev_var g7) (rv_ixL (sq_of hLa10) (atI_nat (labAt hj)))
        refine s_appU (ys := [.int (((edgeOf lab (ah, 1 + i)).1 : Nat) : Int), .int (((edgeOf lab (ah, 1 + i)).2 : Nat) : Int)]) hPa10 (ev_var rfl) (eu_tup (ea_cons (ev_is (ev_min (exA rfl rfl (by omega)) (ev_var rfl)) m1) (ea_cons (ev_is (ev_max (exA rfl rfl (by omega)) (ev_var rfl)) m2) ea_nil)) (by show 2 ≤ 100000; decide)) (by have := prs.length; rw [List.length_map] at this; omega) fun pt Hd hpt ed hptd => ?_
        have npt : pt ≠ s := new_apart dF.src.at hpt
        have dG := dF.ex ed
        have nptPa : Pa ≠ pt := ne_of_none hPa10 hpt
        refine ⟨ks ++ [(ah, 1 + i)], xs ++ [.ref pt], _, _, rfl, ?_, upd_same, ?_, ?_, ?_, ?_, by omega, ?_⟩
        · rw [upd_ne nPL]
          exact ed _ _ hLa10
        · rw [List.map_append]
          have p1 : PrsV (hide s Hd) (xs ++ [.ref pt]) (ks.map (edgeOf lab) ++ [edgeOf lab (ah, 1 + i)]) := (prs.ex dG.kept).append (.cons ⟨pt, rfl, by rw [hide_ne npt]; exact hptd⟩ .nil)
          exact PrsV.put p1 nPs (ed _ _ hPa10)
        · intro p hp
          rcases List.mem_append.mp hp with hp | hp
          · have := kin p hp
            omega
          · rw [List.mem_singleton.mp hp]
            exact ⟨ahlt, by show 1 + i < 1 + (i + 1); omega, lt_n⟩
        · refine List.pairwise_append.mpr ⟨inc, List.pairwise_singleton _ _, fun p hp q hq => ?_⟩
          rw [List.mem_singleton.mp hq]
          exact (kin p hp).2.1
        · rw [List.length_append]
          show ks.length + 1 ≤ i + 1
          omega
        · exact (dr.trans dG).mut src0 hPH
      · have dF := da'.trans dc
        exact ⟨ks, xs, _, _, rfl, dF.get nLa hLa9, dF.get nPs hPa9, prs.ex dF.kept, fun p hp => by have := kin p hp; omega, inc, by omega, by omega, dr.trans dF⟩
    · rintro σ' H9 ⟨ks, xs, y8, y9, rfl, hLa9, hPa9, prs, kin, inc, kl, i40, dr⟩
      obtain ⟨g1, g2, g3⟩ := drawn_edges pl (fun p hp => ⟨(kin p hp).1, (kin p hp).2.2⟩) inc
      have xl := prs.length
      rw [List.length_map] at xl
      have small : ∀ e ∈ ks.map (edgeOf lab), e.1 < 64 ∧ e.2 < 64 := fun e he => by have := g1 e he; omega
      refine ⟨.int (n : Int), rfl, .ref Pa, rfl, Pa, xs, rfl, sq_of hPa9, by omega, fun x hx => ?_, fun ys p pm pw hp => ⟨show 2 ≤ sizeLine by decide, fun t ht => ?_⟩⟩
      · obtain ⟨j, hj⟩ := List.mem_iff_getElem?.mp hx
        obtain ⟨e, he, tt, rfl, htt⟩ := prs.get hj
        have se := small e (List.mem_of_getElem? he)
        exact ⟨[(e.1 : Int), (e.2 : Int)], ⟨tt, rfl, st_of (hide_of htt).2⟩, rfl, fun m hm => by
          rcases List.mem_cons.mp hm with rfl | hm
          · omega
          · rw [List.mem_singleton.mp hm]
            omega⟩
      · obtain ⟨fs, pf, pmf⟩ := prs.perm pm
        have sf : fs.Pairwise fun e f => (e.1 : Int) * 64 + (e.2 : Int) ≤ (f.1 : Int) * 64 + (f.2 : Int) := PrsV.pairwise pf pw fun v u e f r pv pu => by
          obtain ⟨tv, rfl, hv⟩ := pv
          obtain ⟨tu, rfl, hu⟩ := pu
          have := r [(e.1 : Int), (e.2 : Int)] [(f.1 : Int), (f.2 : Int)] ⟨tv, rfl, st_of (hide_of hv).2⟩ ⟨tu, rfl, st_of (hide_of hu).2⟩
          rwa [code_pair, code_pair] at this
        have np : p ≠ s := new_apart dr.src.at hp
        have dS := dr.ex (Ex.new (o := .lst ys) hp)
        have nt : t ≠ s := new_apart dS.src.at ht
        have eT := Ex.new (o := .tup [.int (n : Int), .ref p]) ht
        have dT := dS.ex eT
        refine q _ (.ref t) n fs (dT.mono (by omega)) ⟨t, p, ys, rfl, by rw [hide_ne nt]; exact upd_same, by rw [hide_ne np]; exact eT _ _ upd_same, (pf.ex (hide_ex (Ex.new hp))).ex (hide_ex eT)⟩ ⟨⟨fun e he => g1 e (pmf.mem_iff.mp he), asc_strict (pmf.nodup_iff.mpr g2) (fun e he => small e (pmf.mem_iff.mp he)) sf, g3.perm pmf⟩, n1, n40, by rw [pmf.length_eq, List.length_map]; omega⟩
end
end K15
/-! data of bounded text and depth; sorted texts; permutations -/
namespace Os
open PySem PySem.Spec PyProof.Rows L2 Evl
theorem listText_len (ts : List Str) : (listText ts).length ≤ 2 + piled ts := by
  cases ts with
  | nil => decide
  | cons t ts =>
    unfold listText
    show (textFrom 1 ((("[" : Str) ++ ("" : Str)) ++ t) ts ++ ("]" : Str)).length ≤ _
    rw [strLen_append, textFrom_length_pos ts 1 _ (by decide), strLen_append, strLen_append, piled_cons]
    have e1 : ("[" : Str).length = 1 := by decide
    have e2 : ("" : Str).length = 0 := by decide
    have e3 : ("]" : Str).length = 1 := by decide
    omega
theorem tupleText_len (ts : List Str) : (tupleText ts).length ≤ 3 + piled ts := by
  unfold tupleText
  rw [strLen_append, strLen_append]
  have e1 : ("(" : Str).length = 1 := by decide
  have e2 : ((if ts.length == 1 then ",)" else ")" : String) : Str).length ≤ 2 := by split <;> decide
  cases ts with
  | nil => decide
  | cons t ts =>
    have := join_length_add (t :: ts) (fun h => nomatch h)
    omega
theorem str_codes {z : Str} (h : PyData.strOk z = true) : ∀ c ∈ z.cps.toList, c < 1114112 := by
  unfold PyData.strOk at h
  rw [← Array.all_toList, List.all_eq_true] at h
  exact fun c hc => of_decide_eq_true (h c hc)
theorem str_of_codes {z : Str} (h : ∀ c ∈ z.cps.toList, c < 1114112) : PyData.strOk z = true := by
  unfold PyData.strOk
  rw [← Array.all_toList, List.all_eq_true]
  exact fun c hc => decide_eq_true (h c hc)
theorem int_shown : ∀ i, i < 64 → (PyData.int ((i : Nat) : Int)).shown.length ≤ 100 := by decide +kernel
theorem dts_strs {H : Hp} : ∀ zs : List Str, Dts H (zs.map V.str) (zs.map PyData.str)
  | [] => .nil
  | z :: zs => .cons (.str z) (dts_strs zs)

/-- data of ints, texts, lists and tuples -/
structure Sh (n : Nat) (d : PyData) : Prop where
  lay : d.canLay0 = true
  deep : d.depth ≤ n
theorem sh_all {n : Nat} : ∀ {ds : List PyData}, (∀ d ∈ ds, Sh n d) → PyData.canLayAll0 ds = true ∧ PyData.depthAll ds ≤ n
  | [], _ => ⟨rfl, Nat.zero_le _⟩
  | d :: ds, h => by
    obtain ⟨h1, h2⟩ := sh_all (ds := ds) fun x hx => h x (List.mem_cons_of_mem _ hx)
    have i := h d List.mem_cons_self
    refine ⟨?_, ?_⟩
    · show (d.canLay0 && PyData.canLayAll0 ds) = true
      rw [i.lay, h1]
      rfl
    · show max d.depth (PyData.depthAll ds) ≤ n
      have := i.deep
      omega
theorem Sh.lst {n : Nat} {ds : List PyData} (h : ∀ d ∈ ds, Sh n d) : Sh (n + 1) (.list ds) := ⟨(sh_all h).1, Nat.succ_le_succ (sh_all h).2⟩
theorem Sh.tup {n : Nat} {ds : List PyData} (h : ∀ d ∈ ds, Sh n d) : Sh (n + 1) (.tuple ds) := ⟨(sh_all h).1, Nat.succ_le_succ (sh_all h).2⟩
theorem Sh.int (n : Nat) (i : Int) : Sh n (.int i) := ⟨rfl, Nat.zero_le _⟩
theorem Sh.str (n : Nat) {z : Str} (h : PyData.strOk z = true) : Sh n (.str z) := ⟨h, Nat.zero_le _⟩
theorem Sh.mono {m n : Nat} {d : PyData} (h : Sh m d) (le : m ≤ n) : Sh n d := ⟨h.lay, Nat.le_trans h.deep le⟩
theorem Sh.shaped {n : Nat} {d : PyData} (h : Sh n d) (le : n ≤ 64) : SeqAt.shaped d = true := by
  show (d.canLay0 && decide (d.depth ≤ 64)) = true
  rw [h.lay, decide_eq_true (Nat.le_trans h.deep le)]
  rfl
theorem Sh.refl {n : Nat} {d : PyData} (h : Sh n d) : PyData.eqv d d = true := SeqAt.eqv_refl d h.lay
/-- data of bounded text -/
structure Lim (L D : Nat) (d : PyData) : Prop where
  long : d.shown.length ≤ L
  deep : d.depth ≤ D
  show' : d.showable = true
  flat : d.hasDict = false
theorem Lim.fit {L D : Nat} {d : PyData} (h : Lim L D d) (h1 : L ≤ 1000000) (h2 : D ≤ 40) : Fit sizeLine d := ⟨Nat.le_trans h.long (Nat.le_trans h1 (by decide)), Nat.le_trans h.deep h2, h.show', h.flat⟩
theorem Lim.mono {L D L' D' : Nat} {d : PyData} (h : Lim L D d) (h1 : L ≤ L') (h2 : D ≤ D') : Lim L' D' d := ⟨Nat.le_trans h.long h1, Nat.le_trans h.deep h2, h.show', h.flat⟩
theorem lim_all {L D : Nat} : ∀ {ds : List PyData}, (∀ d ∈ ds, Lim L D d) → piled (PyData.shownAll ds) ≤ (L + 2) * ds.length ∧ PyData.depthAll ds ≤ D ∧ PyData.showableAll ds = true ∧ PyData.hasDictAll ds = false
  | [], _ => ⟨Nat.le_refl _, Nat.zero_le _, rfl, rfl⟩
  | d :: ds, h => by
    obtain ⟨h1, h2, h3, h4⟩ := lim_all (ds := ds) fun x hx => h x (List.mem_cons_of_mem _ hx)
    have i := h d List.mem_cons_self
    refine ⟨?_, ?_, ?_, ?_⟩
    · show piled (d.shown :: PyData.shownAll ds) ≤ (L + 2) * (ds.length + 1)
      rw [piled_cons, Nat.mul_succ]
      have := i.long
      omega
    · show max d.depth (PyData.depthAll ds) ≤ D
      have := i.deep
      omega
    · show (d.showable && PyData.showableAll ds) = true
      rw [i.show', h3]
      rfl
    · show (d.hasDict || PyData.hasDictAll ds) = false
      rw [i.flat, h4]
      rfl
theorem Lim.lst {L D m : Nat} {ds : List PyData} (h : ∀ d ∈ ds, Lim L D d) (hm : ds.length ≤ m) : Lim (3 + (L + 2) * m) (D + 1) (.list ds) := by
  obtain ⟨h1, h2, h3, h4⟩ := lim_all h
  have := Nat.mul_le_mul_left (L + 2) hm
  refine ⟨?_, Nat.succ_le_succ h2, h3, h4⟩
  show (listText (PyData.shownAll ds)).length ≤ _
  have := listText_len (PyData.shownAll ds)
  omega
theorem Lim.tup {L D m : Nat} {ds : List PyData} (h : ∀ d ∈ ds, Lim L D d) (hm : ds.length ≤ m) : Lim (3 + (L + 2) * m) (D + 1) (.tuple ds) := by
  obtain ⟨h1, h2, h3, h4⟩ := lim_all h
  have := Nat.mul_le_mul_left (L + 2) hm
  refine ⟨?_, Nat.succ_le_succ h2, h3, h4⟩
  show (tupleText (PyData.shownAll ds)).length ≤ _
  have := tupleText_len (PyData.shownAll ds)
  omega
theorem Lim.str {z : Str} (h : z.length ≤ 8) (ok : PyData.strOk z = true) : Lim 100 0 (.str z) := by
  refine ⟨?_, Nat.zero_le _, rfl, rfl⟩
  show (reprText z).length ≤ _
  have := StrLaws.reprText_len z fun c hc => Nat.lt_trans (str_codes ok c hc) (by decide)
  omega
theorem Lim.int {i : Nat} (h : i < 64) : Lim 100 0 (.int (i : Int)) := by
  refine ⟨int_shown i h, Nat.zero_le _, ?_, rfl⟩
  show decide (((i : Int)).natAbs.log2 < 1920) = true
  refine decide_eq_true ?_
  have : ((i : Int)).natAbs = i := by omega
  rw [this]
  exact Nat.lt_of_le_of_lt (Nat.log2_le_self i) (by omega)
/-! ### sorted texts -/
theorem rising_pair : ∀ {p : Str} {l : List Str}, risingS p l = true → (p :: l).Pairwise fun a b => ¬ b.cps.toList < a.cps.toList
  | p, [], _ => List.pairwise_singleton _ _
  | p, x :: r, h => by
    have h' : (!ltCps x.cps.toList p.cps.toList && risingS x r) = true := h
    rw [Bool.and_eq_true, ltCps_eq, Bool.not_eq_true', decide_eq_false_iff_not] at h'
    have ih := rising_pair h'.2
    refine List.pairwise_cons.mpr ⟨fun b hb => ?_, ih⟩
    rcases List.mem_cons.mp hb with rfl | hb
    · exact h'.1
    · have h2 := List.rel_of_pairwise_cons ih hb
      exact fun z => h2 (Decidable.byContradiction fun n => h'.1 (by
        exact List.lt_of_le_of_lt (List.not_lt.mp n) z))
theorem sortedS_pair {l : List Str} (h : sortedS l = true) : l.Pairwise fun a b => ¬ b.cps.toList < a.cps.toList := by
  cases l with
  | nil => exact .nil
  | cons x r => exact rising_pair h
theorem sorted_same {l m : List Str} (p : l.Perm m) (h1 : sortedS l = true) (h2 : sortedS m = true) : l = m :=
  List.Perm.eq_of_pairwise (fun a b _ _ x y => by
    have e : a.cps.toList = b.cps.toList := List.le_antisymm (List.not_lt.mp x) (List.not_lt.mp y)
    cases a
    cases b
    exact congrArg Str.mk (Array.ext' e)) (sortedS_pair h1) (sortedS_pair h2) p
/-! ### swaps -/
def swp (zs : List Str) (e : Pr) : List Str := (zs.set e.1 (zs.getD e.2 ⟨#[]⟩)).set e.2 (zs.getD e.1 ⟨#[]⟩)
theorem swp_len (zs : List Str) (e : Pr) : (swp zs e).length = zs.length := by
  unfold swp
  rw [List.length_set, List.length_set]
theorem swp_perm {zs : List Str} {e : Pr} (h1 : e.1 < zs.length) (h2 : e.2 < zs.length) : (swp zs e).Perm zs := by
  unfold swp
  rw [List.getD_eq_getElem?_getD, List.getD_eq_getElem?_getD, List.getElem?_eq_getElem h1, List.getElem?_eq_getElem h2]
  exact List.set_set_perm h1 h2
def swps (zs : List Str) (es : List Pr) : List Str := es.foldl swp zs
theorem swps_perm {n : Nat} : ∀ {es : List Pr} {zs : List Str}, zs.length = n → (∀ e ∈ es, e.1 < n ∧ e.2 < n) → (swps zs es).Perm zs
  | [], _, _, _ => List.Perm.refl _
  | e :: r, zs, hl, h => by
    obtain ⟨a, b⟩ := h e List.mem_cons_self
    exact (swps_perm (by rw [swp_len, hl]) fun f hf => h f (List.mem_cons_of_mem _ hf)).trans (swp_perm (by omega) (by omega))
/-! ### two ascending lists of pairs with the same entries -/
theorem pairs_same {l m : List Pr} (p : l.Perm m) (h1 : l.Pairwise fun e f => (e.1 : Int) * 64 + (e.2 : Int) ≤ (f.1 : Int) * 64 + (f.2 : Int)) (h2 : m.Pairwise fun e f => ltP e f = true) (small : ∀ e ∈ m, e.1 < 64 ∧ e.2 < 64) : l = m := by
  refine List.Perm.eq_of_pairwise (le := fun e f => (e.1 : Int) * 64 + (e.2 : Int) ≤ (f.1 : Int) * 64 + (f.2 : Int)) (fun a b ha hb x y => ?_) h1 (List.Pairwise.imp_of_mem (fun {a b} ha hb h => ?_) h2) p
  · have sa := small a (p.mem_iff.mp ha)
    have sb := small b hb
    exact Prod.ext (by omega) (by omega)
  · have sa := small a ha
    have sb := small b hb
    rw [ltP_iff] at h
    omega
end Os
/-! the cycles of a permutation -/
namespace Os
open PySem PySem.Spec PyProof.Rows L2 Evl
theorem few_below : ∀ (n : Nat) {l : List Nat}, l.Nodup → (∀ x ∈ l, x < n) → l.length ≤ n
  | 0, l, _, h => by
    cases l with
    | nil => exact Nat.le_refl _
    | cons x r => exact absurd (h x List.mem_cons_self) (Nat.not_lt_zero x)
  | n + 1, l, nd, h => by
    have h1 : ∀ x ∈ l.erase n, x < n := fun x hx => by
      have m := List.mem_of_mem_erase hx
      have := h x m
      have ne : x ≠ n := fun e => by
        rw [e] at hx
        exact List.Nodup.not_mem_erase nd hx
      omega
    have ih := few_below n (nd.erase n) h1
    rw [List.length_erase] at ih
    split at ih <;> omega
def itr (f : List Nat) : Nat → Nat → Nat
  | 0, x => x
  | k + 1, x => f.getD (itr f k x) 0
/-- f is a permutation of the places below n -/
structure IsPerm (f : List Nat) (n : Nat) : Prop where
  len : f.length = n
  lt : ∀ i, i < n → f.getD i 0 < n
  inj : ∀ i j, i < n → j < n → f.getD i 0 = f.getD j 0 → i = j
section
variable {f : List Nat} {n : Nat}
theorem itr_lt (p : IsPerm f n) : ∀ (k : Nat) {x : Nat}, x < n → itr f k x < n
  | 0, _, h => h
  | k + 1, _, h => p.lt _ (itr_lt p k h)
theorem itr_back (p : IsPerm f n) {x : Nat} (hx : x < n) : ∀ (i j : Nat), itr f i x = itr f (i + j) x → x = itr f j x
  | 0, j, e => by rw [Nat.zero_add] at e; exact e
  | i + 1, j, e => by
    rw [show i + 1 + j = (i + j) + 1 by omega] at e
    exact itr_back p hx i j (p.inj _ _ (itr_lt p i hx) (itr_lt p (i + j) hx) e)
theorem itr_returns (p : IsPerm f n) {x : Nat} (hx : x < n) : ∃ j, j < n ∧ itr f (j + 1) x = x := Decidable.byContradiction fun no => by
  have nd : ((List.range (n + 1)).map fun i => itr f i x).Nodup := by
    unfold List.Nodup
    rw [List.pairwise_map]
    refine List.Pairwise.imp_of_mem (fun {i j} hi hj lt e => ?_) List.pairwise_lt_range
    have hj' := List.mem_range.mp hj
    have b := itr_back p hx i (j - i) (by rw [show i + (j - i) = j by omega]; exact e)
    exact no ⟨j - i - 1, by omega, by rw [show j - i - 1 + 1 = j - i by omega]; exact b.symm⟩
  have := few_below n nd fun y hy => by
    obtain ⟨i, _, rfl⟩ := List.mem_map.mp hy
    exact itr_lt p i hx
  rw [List.length_map, List.length_range] at this
  omega
def per (f : List Nat) (n x : Nat) : Nat := ((List.range n).find? fun j => itr f (j + 1) x == x).getD 0 + 1
theorem per_ok (p : IsPerm f n) {x : Nat} (hx : x < n) : 1 ≤ per f n x ∧ per f n x ≤ n ∧ itr f (per f n x) x = x ∧ ∀ j, 1 ≤ j → j < per f n x → itr f j x ≠ x := by
  obtain ⟨j, hj, e⟩ := itr_returns p hx
  unfold per
  cases hf : (List.range n).find? fun j => itr f (j + 1) x == x with
  | none => exact absurd (List.find?_eq_none.mp hf j (List.mem_range.mpr hj)) (by rw [e]; simp)
  | some m =>
    obtain ⟨h1, h2, h3⟩ := List.find?_range_eq_some.mp hf
    have hm := List.mem_range.mp h2
    show 1 ≤ m + 1 ∧ m + 1 ≤ n ∧ itr f (m + 1) x = x ∧ _
    refine ⟨by omega, by omega, by simpa using h1, fun j j1 jm z => ?_⟩
    have jm' : j < m + 1 := jm
    have := h3 (j - 1) (by omega)
    rw [show j - 1 + 1 = j by omega, z] at this
    simp at this
/-- the first k places on x's way -/
def way (f : List Nat) (k x : Nat) : List Nat := (List.range k).map fun i => itr f i x
theorem way_succ (f : List Nat) (k x : Nat) : way f (k + 1) x = way f k x ++ [itr f k x] := by
  unfold way
  rw [List.range_succ, List.map_append]
  rfl
theorem way_len (f : List Nat) (k x : Nat) : (way f k x).length = k := by
  unfold way
  rw [List.length_map, List.length_range]
def ringOf (f : List Nat) (n x : Nat) : List Nat := way f (per f n x) x
def lead (f : List Nat) (n x : Nat) : Bool := decide (∀ y ∈ ringOf f n x, x ≤ y)
def cycles (f : List Nat) (n : Nat) : List (List Nat) := ((List.range n).filter (lead f n)).map (ringOf f n)
theorem ring_head (p : IsPerm f n) {x : Nat} (hx : x < n) : (ringOf f n x)[0]? = some x ∧ x ∈ ringOf f n x := by
  have h := (per_ok p hx).1
  have e : (ringOf f n x)[0]? = some x := by
    unfold ringOf way
    rw [List.getElem?_map, List.getElem?_range (by omega)]
    rfl
  exact ⟨e, List.mem_of_getElem? e⟩
theorem lead_min (p : IsPerm f n) {x m : Nat} (hx : x < n) (hm : m ∈ ringOf f n x) (le : ∀ y ∈ ringOf f n x, m ≤ y) : decide (x = m) = lead f n x := by
  unfold lead
  refine decide_eq_decide.mpr ⟨fun e => e ▸ le, fun h => ?_⟩
  have := h m hm
  have := le x (ring_head p hx).2
  omega
theorem ring_lt (p : IsPerm f n) {x y : Nat} (hx : x < n) (hy : y ∈ ringOf f n x) : y < n := by
  obtain ⟨i, _, rfl⟩ := List.mem_map.mp hy
  exact itr_lt p i hx
theorem ring_len (p : IsPerm f n) {x : Nat} (hx : x < n) : (ringOf f n x).length ≤ n := by
  unfold ringOf
  rw [way_len]
  exact (per_ok p hx).2.1
/-- place 0 leads the first cycle -/
theorem lead_zero : lead f n 0 = true := decide_eq_true fun _ _ => Nat.zero_le _
end
/-! ### where the texts went -/
def went (zs us : List Str) : List Nat := zs.map fun z => us.idxOf z
theorem went_perm {zs us : List Str} {n : Nat} (p : us.Perm zs) (nd : zs.Nodup) (hl : zs.length = n) : IsPerm (went zs us) n := by
  have atW : ∀ {i : Nat} (h : i < zs.length), (went zs us).getD i 0 = us.idxOf zs[i] := fun {i} h => by
    unfold went
    rw [List.getD_eq_getElem?_getD, List.getElem?_map, List.getElem?_eq_getElem h]
    rfl
  have inU : ∀ {i : Nat} (h : i < zs.length), us.idxOf zs[i] < us.length := fun {i} h => List.idxOf_lt_length_iff.mpr (p.mem_iff.mpr (List.getElem_mem h))
  refine ⟨by unfold went; rw [List.length_map, hl], fun i hi => ?_, fun i j hi hj e => ?_⟩
  · rw [atW (by omega)]
    have := inU (i := i) (by omega)
    rw [p.length_eq] at this
    omega
  · rw [atW (by omega), atW (by omega)] at e
    have e1 := List.getElem_idxOf (inU (i := i) (by omega))
    have e2 := List.getElem_idxOf (inU (i := j) (by omega))
    have e3 : zs[i]'(by omega) = zs[j]'(by omega) := by
      rw [← e1, ← e2]
      simp only [e]
    refine Decidable.byContradiction fun ne => ?_
    rcases Nat.lt_or_gt_of_ne ne with h | h
    · exact List.pairwise_iff_getElem.mp nd i j _ _ h e3
    · exact List.pairwise_iff_getElem.mp nd j i _ _ h e3.symm
end Os
namespace K15
open PySem PySem.Spec PyProof.Rows L2 Os Evl
abbrev sChkF : Stmt := topS 23
theorem scChkF : FnScope ["forest"] ["forest"] (defScope sChkF) := ⟨rfl, rfl, rfl, by decide +kernel, rfl, by decide +kernel, by decide +kernel⟩
abbrev nats (l : List Nat) : List V := l.map fun x : Nat => V.int (x : Int)
theorem nats_ints (l : List Nat) : (l.map fun x : Nat => (x : Int)).map V.int = nats l := by
  rw [List.map_map]
  rfl
theorem hide_up {s : Addr} {H : Hp} : Ex (hide s H) H := hide_same
abbrev natsD (l : List Nat) : List PyData := l.map fun x : Nat => .int (x : Int)
theorem dts_nats {G : Hp} : ∀ c : List Nat, Dts G (nats c) (natsD c)
  | [] => .nil
  | x :: c => .cons (.int _) (dts_nats c)
theorem sh_nats (n : Nat) (c : List Nat) : Sh (n + 1) (.list (natsD c)) := .lst fun d hd => by
  obtain ⟨x, _, rfl⟩ := List.mem_map.mp hd
  exact .int n _
theorem eqD_of {K : PySem.W.Frag} {H : Hp} {x y : V} {d : PyData} {n : Nat} {Q : VK} (hx : Dt H x d) (hy : Dt H y d) (sh : Sh n d) (le : n ≤ 64) (q : Q (.bl true) H) : rEqD K x y H Q := by
  refine ⟨d, d, hx.dp, hy.dp, sh.shaped le, sh.shaped le, ?_⟩
  rw [sh.refl]
  exact q
theorem sh_prs (es : List Pr) : Sh 2 (.list (es.map Os.prD)) := .lst fun d hd => by
  obtain ⟨e, _, rfl⟩ := List.mem_map.mp hd
  refine .tup fun x hx => ?_
  rcases List.mem_cons.mp hx with rfl | hx
  · exact .int 0 _
  · rw [List.mem_singleton.mp hx]
    exact .int 0 _
section
variable {K : PySem.W.Frag} {σ : L2.St} {H : Hp} {ta : TE}
theorem ev_len' {p : Addr} {xs : List V} (ha : Ev ta σ H (.ref p)) (h : H p = some (.lst xs)) :
    Ev (tCB (fun xs H Q => ∃ p ys, xs = [V.ref p] ∧ (SqL K H p ys ∨ SqT K H p ys) ∧ Q (.int ys.length) H) (tCons ta tNil)) σ H (.int (xs.length : Int)) := ev_len ha (sq_of h)
end
section
variable {P : Program} {w : World} {K : PySem.W.Frag} {mg : Str → Option Value} {base : Heap}
def spChkF : Sp := fun vs H Q _ => ∃ (v : V) (n : Nat) (es : List Pr), vs = [v] ∧ GraphV H v n es ∧ IsForest n es ∧ ∀ H', Ex H H' → Q .non H'
theorem ok_chkF {f fF : Addr} {fd fdF : FuncData} {k : Nat} (F : Fun K "check_forest" "check_forest" sChkF f fd)
    (GF : FnOk P w K mg base CX0 k fF fdF ["thing"] spForest) (FF : Fun K "is_forest" "is_forest" sForest fF fdF) (bF : Binds K fdF ["thing"] []) (gF : mg "is_forest" = some (.ref fF)) : FnOk P w K mg base CX0 (k + 1) f fd ["forest"] spChkF := by
  refine F.ok scChkF (fun vs H Q E h => ?_) (fun cdv A outer s H vs Q E hr h => ?_)
  · obtain ⟨v, n, es, rfl, _⟩ := h
    rfl
  · obtain ⟨v, n, es, rfl, hg, ok, q⟩ := h
    refine ⟨_, (pss_one (ps_if (pt_not (pt_val (pe_call GF hr (by rfl) gF FF.kp bF .nil pass0 (pa_cons (pv 0) pa_nil)))) pss_never pss_nil)), ?_⟩
    refine s_when (b := !true) (et_not (et_B (ev_sp (ea_cons (ev_var rfl) ea_nil) fun H1 e1 Q q => ⟨_, n, es, rfl, hg.ex e1, ok, q⟩))) (fun h => nomatch h) fun _ H1 e1 => q H1 e1
/-- texts, numbers, and lists of such -/
def Plain : Nat → PyData → Prop
  | 0, _ => False
  | j + 1, d => (∃ i, d = .int i) ∨ (∃ z, d = .str z) ∨ ∃ ds, d = .list ds ∧ ds.length ≤ 1000 ∧ ∀ x ∈ ds, Plain j x
def spSame (j : Nat) : Sp := fun vs H Q _ => ∃ (v u : V) (d : PyData), vs = [v, u] ∧ Dt H v d ∧ Dt H u d ∧ Plain j d ∧ ∀ H', Ex H H' → Q (.bl true) H'
theorem Dts.at' {H : Hp} : ∀ {xs : List V} {ds : List PyData} {i : Nat} {x : V}, Dts H xs ds → xs[i]? = some x → ∃ d, ds[i]? = some d ∧ Dt H x d
  | _, _, _, _, .nil, h => by simp at h
  | _, _, 0, _, .cons h1 _, h => by
    simp at h
    subst h
    exact ⟨_, rfl, h1⟩
  | _, _, i + 1, _, .cons _ r, h => by
    have h' := Dts.at' (i := i) r (by simpa using h)
    simpa using h'
theorem kit_bool' (d : PyData) : kitB (tyName d) "bool" = some (isBlD d) := kit_bool d
theorem isiT_of {H : Hp} {v : V} {d : PyData} {tp : Addr} {Q : VK} (hd : Dt H v d) (ht : H tp = some (.tup [.ty "list", .ty "tuple"])) (q : Q (.bl (isListD d || isTupD d)) H) : rIsiT K [v, .ref tp] H Q := by
  refine ⟨v, tp, _, _, _, _, rfl, ht, .cons (.ty "list") (.cons (.ty "tuple") .nil), .base hd.ty, ?_, q⟩
  exact kitAny_cons (kit_ty (kit_list d)) (fun h => kitAny_cons (kit_ty (kit_tup d)) (fun h2 => by rw [h, h2]; rfl) (fun h2 => by rw [h2, Bool.or_true])) (fun h => by rw [h, Bool.true_or])
theorem ev_isiT {σ : L2.St} {H : Hp} {ta : TE} {v : V} {d : PyData} (h : Ev ta σ H v) (hd : Dt H v d) :
    Ev (tCB (rIsiT K) (tCons ta (tCons (tTup (tCons (tC (.ty "list")) (tCons (tC (.ty "tuple")) tNil))) tNil))) σ H (.bl (isListD d || isTupD d)) := fun H1 e1 Q q =>
  h H1 e1 _ fun H2 e2 => ⟨show 2 ≤ sizeLine by decide, fun tp htp => isiT_of (hd.same (same_ex ((e1.trans e2).trans (Ex.new htp)))) upd_same (q _ (e2.trans (Ex.new htp)))⟩
theorem rv_isN {H : Hp} {x : V} : RV (fun x y H Q => y = V.non ∧ Q (.bl (decide (x = .non))) H) x .non H (.bl (decide (x = .non))) := fun H1 _ _ q => ⟨rfl, q H1 (Ex.refl H1)⟩
end
theorem plain_nats (j : Nat) {c : List Nat} (h : c.length ≤ 1000) : Plain (j + 2) (.list (natsD c)) := .inr (.inr ⟨_, rfl, by rw [List.length_map]; exact h, fun d hd => by
  obtain ⟨z, _, rfl⟩ := List.mem_map.mp hd
  exact .inl ⟨_, rfl⟩⟩)
theorem ev_same {K : PySem.W.Frag} {σ : L2.St} {H : Hp} {ta tb : TA} {xs ys : List V} {ds : List PyData} (h1 : EvA ta σ H xs) (h2 : EvA tb σ H ys) (d1 : Dts H xs ds) (d2 : Dts H ys ds) (pl : Plain 4 (.list ds)) (few : ds.length ≤ 1000) :
    Ev (tCall (spSame 4) [] E0 (tCons (tLst ta) (tCons (tLst tb) tNil))) σ H (.bl true) := fun H1 e1 Q q => h1 H1 e1 _ fun H2 e2 => ⟨sz_of (by rw [d1.length]; omega), fun p hp => by
  have x1 := Ex.new (o := .lst xs) hp
  refine h2 _ ((e1.trans e2).trans x1) _ fun H3 e3 => ⟨sz_of (by rw [d2.length]; omega), fun r hr => ?_⟩
  have x2 := Ex.new (o := .lst ys) hr
  have eA := ((e1.trans e2).trans x1).trans (e3.trans x2)
  exact ⟨.ref p, .ref r, .list ds, rfl, .lst (x2 _ _ (e3 _ _ upd_same)) (d1.same (same_ex eA)), .lst upd_same (d2.same (same_ex eA)), pl, fun H4 e4 => q H4 ((e2.trans x1).trans ((e3.trans x2).trans e4))⟩⟩
def OrdV (G : Hp) (v : V) (os : List Pr) : Prop := ∃ (a : Addr) (xs : List V), v = .ref a ∧ G a = some (.lst xs) ∧ PrsV G xs os
theorem OrdV.ex {G G' : Hp} {v : V} {os : List Pr} (h : OrdV G v os) (e : Ex G G') : OrdV G' v os := by
  obtain ⟨a, xs, h1, h2, h3⟩ := h
  exact ⟨a, xs, h1, e _ _ h2, h3.ex e⟩
end K15
namespace K15
open PySem PySem.Spec PyProof.Rows L2 Os Evl
abbrev sLists : Stmt := topS 24
theorem scLists : FnScope ["forest", "n", "edges", "lists", "p", "q", "position"] ["forest"] (defScope sLists) := ⟨rfl, rfl, rfl, by decide +kernel, rfl, by decide +kernel, by decide +kernel⟩
/-- the other end, where j is one -/
def other (j : Nat) (e : Pr) : Option Nat := if e.1 = j then some e.2 else if e.2 = j then some e.1 else none
def adj (es : List Pr) (j : Nat) : List Nat := es.filterMap (other j)
theorem adj_snoc {es : List Pr} {i : Nat} {e : Pr} (h : es[i]? = some e) (lt : e.1 < e.2) (j : Nat) :
    adj (es.take (i + 1)) j = if j = e.2 then (if e.2 = e.1 then adj (es.take i) e.2 ++ [e.2] else adj (es.take i) e.2) ++ [e.1] else if j = e.1 then adj (es.take i) j ++ [e.2] else adj (es.take i) j := by
  unfold adj
  rw [List.take_add_one, h, List.filterMap_append]
  show _ ++ List.filterMap (other j) [e] = _
  unfold other
  by_cases h1 : j = e.2
  · rw [if_pos h1, if_neg (show ¬ e.2 = e.1 by omega)]
    subst h1
    simp [show ¬ e.1 = e.2 by omega]
  · rw [if_neg h1]
    by_cases h2 : j = e.1
    · rw [if_pos h2]
      subst h2
      simp
    · rw [if_neg h2]
      simp [show ¬ e.1 = j from fun z => h2 z.symm, show ¬ e.2 = j from fun z => h1 z.symm]
/-- n new lists of numbers -/
structure RwV (H0 G : Hp) (as : List Addr) (n : Nat) (f : Nat → List Nat) : Prop where
  len : as.length = n
  new : ∀ a ∈ as, H0 a = none
  at' : ∀ i a, as[i]? = some a → G a = some (.lst (nats (f i)))
  nd : as.Nodup
theorem RwV.ex {H0 G G' : Hp} {as : List Addr} {n : Nat} {f : Nat → List Nat} (h : RwV H0 G as n f) (e : Ex G G') : RwV H0 G' as n f := ⟨h.len, h.new, fun i a q => e _ _ (h.at' i a q), h.nd⟩
theorem RwV.weak {H0 H1 G : Hp} {as : List Addr} {n : Nat} {f : Nat → List Nat} (h : RwV H1 G as n f) (e : Ex H0 H1) : RwV H0 G as n f := ⟨h.len, fun a q => fresh_back e (h.new a q), h.at', h.nd⟩
theorem RwV.like {H0 G : Hp} {as : List Addr} {n : Nat} {f g : Nat → List Nat} (h : RwV H0 G as n f) (e : ∀ i, f i = g i) : RwV H0 G as n g := ⟨h.len, h.new, fun i a q => by rw [← e i]; exact h.at' i a q, h.nd⟩
theorem RwV.put {H0 G : Hp} {as : List Addr} {n p : Nat} {f : Nat → List Nat} {a : Addr} {l : List Nat} (h : RwV H0 G as n f) (ha : as[p]? = some a) : RwV H0 (upd G a (.lst (nats l))) as n (fun j => if j = p then l else f j) :=
  ⟨h.len, h.new, fun i b q => by
    by_cases e : i = p
    · subst e
      rw [ha] at q
      cases q
      rw [upd_same, if_pos rfl]
    · have ne : b ≠ a := fun z => by
        subst z
        obtain ⟨l1, e1⟩ := List.getElem?_eq_some_iff.mp q
        obtain ⟨l2, e2⟩ := List.getElem?_eq_some_iff.mp ha
        rcases Nat.lt_or_gt_of_ne e with lt | lt
        · exact List.pairwise_iff_getElem.mp h.nd i p l1 l2 lt (by rw [e1, e2])
        · exact List.pairwise_iff_getElem.mp h.nd p i l2 l1 lt (by rw [e1, e2])
      rw [upd_ne ne, if_neg e]
      exact h.at' i b q, h.nd⟩
theorem RwV.off {H0 G : Hp} {as : List Addr} {n : Nat} {f : Nat → List Nat} {p : Addr} {o u : HO} (h : RwV H0 G as n f) (hp : H0 p = some u) : RwV H0 (upd G p o) as n f := ⟨h.len, h.new, fun i a q => by
  rw [upd_ne fun e => by
    have := h.new a (List.mem_of_getElem? q)
    rw [e, hp] at this
    cases this]
  exact h.at' i a q, h.nd⟩
section
variable {P : Program} {w : World} {K : PySem.W.Frag} {mg : Str → Option Value} {base : Heap}
def spLists : Sp := fun vs H Q _ => ∃ (v : V) (n : Nat) (es : List Pr), vs = [v] ∧ GraphV H v n es ∧ IsForest n es ∧
  ∀ H' L as, Ex H H' → H L = none → H' L = some (.lst (as.map V.ref)) → RwV H H' as n (adj es) → Q (.ref L) H'
theorem ok_lists {f : Addr} {fd : FuncData} {k : Nat} (F : Fun K "neighbour_lists" "neighbour_lists" sLists f fd) (mRange : mg "range" = none) : FnOk P w K mg base CX0 (k + 1) f fd ["forest"] spLists := by
  refine F.ok scLists (fun vs H Q E h => ?_) (fun cdv A outer s H vs Q E hr h => ?_)
  · obtain ⟨v, n, es, rfl, _⟩ := h
    rfl
  · obtain ⟨v, n, es, rfl, hg, ok, q⟩ := h
    refine ⟨_, (pss_cons (ps_asg (pv 0) (pg_tup rfl (pgs_cons (pg_name (i := 1) scLists.nd rfl (Or.inl rfl)) (pgs_cons (pg_name (i := 2) scLists.nd rfl (Or.inl rfl)) pgs_nil))))
      (pss_cons (ps_setLc (i := 3) (own := [("position", 6)]) (g := gName 6) (tt := tYes) rfl scLists.nd rfl rfl (sw_true rfl rfl rfl (by decide +kernel)) (pi_range1 (by rfl) mRange (pa_cons (pv 1) pa_nil)) (blkOk_by (N := ["forest", "n", "edges", "lists", "p", "q", "position"]) (sc := defScope sLists) (by decide +kernel)) (fun _ _ _ _ _ => pg_name (i := 6) scLists.nd rfl (Or.inl rfl)) (fun _ _ _ _ _ => pts_nil) (fun _ _ _ _ _ => (pe_lst pa_nil)))
      (pss_cons (ps_for PassesOwn.never rfl (pi_list (pv 2)) (pg_tup rfl (pgs_cons (pg_name (i := 4) scLists.nd rfl (Or.inl rfl)) (pgs_cons (pg_name (i := 5) scLists.nd rfl (Or.inl rfl)) pgs_nil)))
      (pss_cons (ps_expr (pe_bm PySem.F.plainAttrs_list PySem.F.slot_list_append PySem.F.type_list_append mt_append (pe_ix ix_list (pv 3) (pv 4) (fun _ _ => rfl)) (pa_cons (pv 5) pa_nil)))
      (pss_one (ps_expr (pe_bm PySem.F.plainAttrs_list PySem.F.slot_list_append PySem.F.type_list_append mt_append (pe_ix ix_list (pv 3) (pv 5) (fun _ _ => rfl)) (pa_cons (pv 4) pa_nil))))))
      (pss_one (ps_ret (pv 3)))))), ?_⟩
    obtain ⟨g, a, xs, rfl, h2, h3, h4⟩ := hg
    have n40 := ok.n40
    have ein := ok.edges.inn
    have few := ok.few
    refine ⟨.ref g, rfl, g, _, rfl, st_of h2, rfl, .int (n : Int), _, rfl, .ref a, [], rfl, rfl, ?_⟩
    refine ⟨.int (n : Int), rfl, (n : Int), rfl, by omega, by omega, fun D hD => ?_⟩
    have eD := Ex.new (o := .lst []) hD
    refine lc_range (lo := 0) (n := ((n : Int)).toNat) (fun i Hh => Ex H Hh ∧ ∃ as : List Addr, Hh D = some (.lst (as.map V.ref)) ∧ RwV (upd H D (.lst [])) Hh as i (fun _ => [])) ⟨eD, [], upd_same, rfl, (fun a h => nomatch h), (fun i a h => by simp at h), List.nodup_nil⟩ ?_ ?_
    · rintro i Hh hi' ⟨x1, as, hrs, rg⟩
      have lt : i < n := by omega
      refine ⟨rfl, ?_⟩
      dsimp only [tYes]
      rw [if_pos rfl]
      refine ⟨Nat.zero_le _, fun b hb => ?_⟩
      have xb := Ex.new (o := .lst []) hb
      have nb : b ≠ D := fun e => by
        rw [e, hrs] at hb
        cases hb
      have hb0 : upd H D (.lst []) b = none := by
        rw [upd_ne nb]
        exact fresh_back x1 hb
      have al : ∀ {j : Nat} {c : Addr}, as[j]? = some c → c ≠ b := fun h => ne_of_none (rg.at' _ _ h) hb
      refine ⟨as.map V.ref, xb _ _ hrs, sz_lt (by rw [List.length_map, rg.len]; omega), (x1.trans xb).mut hD, as ++ [b], ?_, ?_⟩
      · rw [upd_same, List.map_append]
        rfl
      · refine RwV.off (u := .lst []) ⟨by rw [List.length_append, rg.len]; rfl, fun c hc => ?_, fun j c hc => ?_, ?_⟩ upd_same
        · rcases List.mem_append.mp hc with hc | hc
          · exact rg.new c hc
          · rw [List.mem_singleton.mp hc]
            exact hb0
        · by_cases hj : j < as.length
          · rw [List.getElem?_append_left hj] at hc
            exact xb _ _ (rg.at' j c hc)
          · rw [List.getElem?_append_right (by omega)] at hc
            have : c = b := by
              have := List.mem_of_getElem? hc
              exact List.mem_singleton.mp this
            rw [this]
            exact upd_same
        · refine List.nodup_append.mpr ⟨rg.nd, List.pairwise_singleton _ _, fun c hc d hd => ?_⟩
          rw [List.mem_singleton.mp hd]
          obtain ⟨j, hj⟩ := List.mem_iff_getElem?.mp hc
          exact al hj
    · rintro Hh ⟨x1, as, hrs, rg⟩
      rw [Int.toNat_natCast] at rg
      dsimp only [gName]
      have asH : ∀ c ∈ as, H c = none := fun c hc => fresh_back eD (rg.new c hc)
      refine q_forL (xs := xs) (ev_var rfl) (sq_of (x1 _ _ h3)) (fun i σ' H' => Ex H H' ∧ ∃ (y4 y5 y6 : Option V), σ' = [some (.ref g), some (.int (n : Int)), some (.ref a), some (.ref D), y4, y5, y6] ∧ H' D = some (.lst (as.map V.ref)) ∧ RwV (upd H D (.lst [])) H' as n (adj (es.take i)))
        (fun H4 e4 => ⟨x1.trans e4, _, _, _, rfl, e4 _ _ hrs, rg.ex e4⟩) (fun i σ' H' _ h => sq_of (h.1 _ _ h3)) ?_ ?_
      · rintro i x σ' H4 hx ⟨e4, y4, y5, y6, rfl, hD4, rw4⟩
        obtain ⟨e, he, tp, rfl, htp⟩ := h4.get hx
        have ein := ein e (List.mem_of_getElem? he)
        have il : i < es.length := (List.getElem?_eq_some_iff.mp he).1
        have adl : ∀ j, (adj (es.take i) j).length ≤ 60 := fun j => by
          unfold adj
          have h1 := List.length_filterMap_le (other j) (es.take i)
          have h2 := List.length_take_le i es
          omega
        obtain ⟨c1, hc1⟩ : ∃ c, as[e.1]? = some c := ⟨_, List.getElem?_eq_getElem (by rw [rw4.len]; omega)⟩
        obtain ⟨c2, hc2⟩ : ∃ c, as[e.2]? = some c := ⟨_, List.getElem?_eq_getElem (by rw [rw4.len]; omega)⟩
        have at' : ∀ {j : Nat} {c : Addr}, as[j]? = some c → (as.map V.ref)[j]? = some (.ref c) := fun h => by
          rw [List.getElem?_map, h]
          rfl
        refine ⟨tp, _, rfl, st_of (e4 _ _ htp), rfl, _, _, rfl, _, [], rfl, rfl, ?_⟩
        have nD : ∀ {c : Addr}, c ∈ as → D ≠ c := fun hc z => by
          have := rg.new _ hc
          rw [← z, upd_same] at this
          cases this
        refine q_app (v := .int (e.2 : Int)) (rw4.at' _ _ hc1) (ev_op (ev_var rfl) (ev_var rfl) (rv_ixL (sq_of hD4) (atI_nat (at' hc1)))) (ev_var rfl) (by rw [List.length_map]; have := adl e.1; omega) fun H5 e5 => ?_
        have m1 := List.mem_of_getElem? hc1
        have m2 := List.mem_of_getElem? hc2
        have e1 : nats (adj (es.take i) e.1) ++ [V.int (e.2 : Int)] = nats (adj (es.take i) e.1 ++ [e.2]) := by
          unfold nats
          rw [List.map_append]
          rfl
        rw [e1]
        have rw5 := (rw4.ex e5).put (l := adj (es.take i) e.1 ++ [e.2]) hc1
        have hD5 : upd H5 c1 (.lst (nats (adj (es.take i) e.1 ++ [e.2]))) D = some (.lst (as.map V.ref)) := by
          rw [upd_ne (nD m1)]
          exact e5 _ _ hD4
        have f2 := rw5.at' _ _ hc2
        rw [if_neg (show ¬ e.2 = e.1 by omega)] at f2
        refine s_app (v := .int (e.1 : Int)) f2 (ev_op (ev_var rfl) (ev_var rfl) (rv_ixL (sq_of hD5) (atI_nat (at' hc2)))) (ev_var rfl) (by rw [List.length_map]; have := adl e.2; omega) fun H6 e6 => ?_
        have e2 : nats (adj (es.take i) e.2) ++ [V.int (e.1 : Int)] = nats (adj (es.take i) e.2 ++ [e.1]) := by
          unfold nats
          rw [List.map_append]
          rfl
        rw [e2]
        have rw6 := (rw5.ex e6).put (l := adj (es.take i) e.2 ++ [e.1]) hc2
        refine ⟨((((e4.trans e5).mut (asH _ m1)).trans e6).mut (asH _ m2)), _, _, _, rfl, ?_, rw6.like fun j => ?_⟩
        · rw [upd_ne (nD m2)]
          exact e6 _ _ hD5
        · rw [adj_snoc he ein.1]
          by_cases j2 : j = e.2
          · rw [if_pos j2, if_pos j2, if_neg (show ¬ e.2 = e.1 by omega)]
          · rw [if_neg j2, if_neg j2]
            by_cases j1 : j = e.1
            · rw [if_pos j1, if_pos j1, j1]
            · rw [if_neg j1, if_neg j1]
      · rintro σ' H4 ⟨e4, y4, y5, y6, rfl, hD4, rw4⟩
        rw [h4.length, List.take_length] at rw4
        exact s_ret (v := .ref D) (ev_var rfl) fun H5 e5 => q H5 D as (e4.trans e5) hD (e5 _ _ hD4) ((rw4.ex e5).weak eD)
end
end K15
namespace K15
open PySem PySem.Spec PyProof.Rows L2 Os Evl
abbrev sIsTurn : Stmt := topS 34
theorem scIsTurn : FnScope ["n", "nearby", "thing", "entry"] ["n", "nearby", "thing"] (defScope sIsTurn) := ⟨rfl, rfl, rfl, by decide +kernel, rfl, by decide +kernel, by decide +kernel⟩
abbrev sIsTurns : Stmt := topS 35
theorem scIsTurns : FnScope ["forest", "thing", "n", "nearby", "turn"] ["forest", "thing"] (defScope sIsTurns) := ⟨rfl, rfl, rfl, by decide +kernel, rfl, by decide +kernel, by decide +kernel⟩
theorem adj_asc {n : Nat} {es : List Pr} (E : Edges n es) (h : Nat) : (adj es h).Pairwise (· < ·) := by
  unfold adj
  refine List.pairwise_filterMap.mpr (List.Pairwise.imp_of_mem (fun {e f} he hf lt b hb b' hb' => ?_) E.asc)
  have := E.inn e he
  have := E.inn f hf
  rw [ltP_iff] at lt
  unfold other at hb hb'
  by_cases a1 : e.1 = h
  · rw [if_pos a1] at hb
    cases hb
    by_cases c1 : f.1 = h
    · rw [if_pos c1] at hb'
      cases hb'
      omega
    · rw [if_neg c1] at hb'
      by_cases c2 : f.2 = h
      · rw [if_pos c2] at hb'
        cases hb'
        omega
      · rw [if_neg c2] at hb'
        cases hb'
  · rw [if_neg a1] at hb
    by_cases a2 : e.2 = h
    · rw [if_pos a2] at hb
      cases hb
      by_cases c1 : f.1 = h
      · rw [if_pos c1] at hb'
        cases hb'
        omega
      · rw [if_neg c1] at hb'
        by_cases c2 : f.2 = h
        · rw [if_pos c2] at hb'
          cases hb'
          omega
        · rw [if_neg c2] at hb'
          cases hb'
    · rw [if_neg a2] at hb
      cases hb
def intD : PyData → Int
  | .int i => i
  | _ => 0
def turnB (n : Int) (near : List Nat) : PyData → Bool
  | .list ds => ds.all (posB n) && (ds.map intD).isPerm (near.map fun x : Nat => (x : Int))
  | _ => false
def turnsB (n : Nat) (es : List Pr) : PyData → Bool
  | .list ds => decide (ds.length = n) && (List.range n).all fun i => turnB (n : Int) (adj es i) (ds.getD i .none)
  | _ => false
def intsD (l : List Int) : List PyData := l.map .int
theorem dts_ints {G : Hp} : ∀ c : List Int, Dts G (c.map V.int) (intsD c)
  | [] => .nil
  | x :: c => .cons (.int _) (dts_ints c)
theorem sh_ints (n : Nat) (c : List Int) : Sh (n + 1) (.list (intsD c)) := .lst fun d hd => by
  obtain ⟨x, _, rfl⟩ := List.mem_map.mp hd
  exact .int n _
theorem eqv_ints : ∀ a b : List Int, PyData.eqvAll (intsD a) (intsD b) = decide (a = b)
  | [], [] => rfl
  | [], _ :: _ => rfl
  | _ :: _, [] => rfl
  | x :: a, y :: b => by
    show (PyData.eqv (.int x) (.int y) && PyData.eqvAll (intsD a) (intsD b)) = _
    rw [eqv_ints a b, show PyData.eqv (.int x) (.int y) = (x == y) from rfl]
    by_cases h1 : x = y
    · subst h1
      rw [beq_self_eq_true, Bool.true_and]
      exact decide_eq_decide.mpr ⟨fun h => by rw [h], fun h => (List.cons.inj h).2⟩
    · rw [beq_eq_false_iff_ne.mpr h1, Bool.false_and, decide_eq_false fun z => h1 (List.cons.inj z).1]
theorem natsD_ints (l : List Nat) : natsD l = intsD (l.map fun x : Nat => (x : Int)) := by
  unfold natsD intsD
  rw [List.map_map]
  rfl
theorem all_ints {H : Hp} {n : Int} : ∀ {xs : List V} {ds : List PyData}, Dts H xs ds → ds.all (posB n) = true → xs = (ds.map intD).map V.int
  | _, _, .nil, _ => rfl
  | _, _, .cons h t, p => by
    rw [List.all_cons, Bool.and_eq_true] at p
    have e := all_ints t p.2
    cases h with
    | int i => rw [e]; rfl
    | _ => cases p.1
theorem sorted_is {ns' ns near : List Int} (pm : ns'.Perm ns) (h1 : ns'.Pairwise (· ≤ ·)) (h2 : near.Pairwise (· ≤ ·)) : decide (ns' = near) = ns.isPerm near := by
  by_cases h : ns.Perm near
  · rw [List.isPerm_iff.mpr h]
    exact decide_eq_true (List.Perm.eq_of_pairwise (le := (· ≤ ·)) (fun a b _ _ x y => by omega) h1 h2 (pm.trans h))
  · have : ns.isPerm near = false := by
      cases e : ns.isPerm near with
      | false => rfl
      | true => exact absurd (List.isPerm_iff.mp e) h
    rw [this]
    exact decide_eq_false fun z => h (pm.symm.trans (by rw [z]))
/-- lists are no longer than a thousand -/
def Short : PyData → Prop
  | .list ds => ds.length ≤ 1000
  | _ => True
def Short2 : PyData → Prop
  | .list ds => ds.length ≤ 1000 ∧ ∀ d ∈ ds, Short d
  | _ => True
theorem Dt.list_or {H : Hp} {v : V} {d : PyData} (h : Dt H v d) : (∃ a xs ds, v = .ref a ∧ H a = some (.lst xs) ∧ Dts H xs ds ∧ d = .list ds) ∨ isListD d = false := by
  cases h with
  | lst h1 h2 => exact .inl ⟨_, _, _, rfl, h1, h2, rfl⟩
  | _ => exact .inr rfl
section
variable {P : Program} {w : World} {K : PySem.W.Frag} {mg : Str → Option Value} {base : Heap}
def spIsTurn : Sp := fun vs H Q _ => ∃ (n : Int) (b : Addr) (near : List Nat) (v : V) (d : PyData), vs = [.int n, .ref b, v] ∧ H b = some (.lst (nats near)) ∧ near.Pairwise (· < ·) ∧ Dt H v d ∧ Short d ∧ ∀ H', Ex H H' → Q (.bl (turnB n near d)) H'
def spIsTurns : Sp := fun vs H Q _ => ∃ (v t : V) (n : Nat) (es : List Pr) (d : PyData), vs = [v, t] ∧ GraphV H v n es ∧ IsForest n es ∧ Dt H t d ∧ Short2 d ∧ ∀ H', Ex H H' → Q (.bl (turnsB n es d)) H'
theorem ok_isturn {f fP : Addr} {fd fdP : FuncData} {k : Nat} (F : Fun K "_is_turn" "_is_turn" sIsTurn f fd)
    (GP : FnOk P w K mg base CX0 k fP fdP ["n", "thing"] spPos) (FP : Fun K "is_position" "is_position" sPos fP fdP) (bP : Binds K fdP ["n", "thing"] []) (gP : mg "is_position" = some (.ref fP))
    (mIsi : mg "isinstance" = none) (mList : mg "list" = none) (mAll : mg "all" = none) (mSorted : mg "sorted" = none) : FnOk P w K mg base CX0 (k + 1) f fd ["n", "nearby", "thing"] spIsTurn := by
  refine F.ok scIsTurn (fun vs H Q E h => ?_) (fun cdv A outer s H vs Q E hr h => ?_)
  · obtain ⟨n, b, near, v, d, rfl, _⟩ := h
    rfl
  · obtain ⟨n, b, near, v, d, rfl, hb, asc, hd, sh, q⟩ := h
    refine ⟨_, (pss_cons (ps_if (PW.pt (pw_or (pt_not (pt_val (pe_callB call_isi (by rfl) mIsi boot_isinstance (pa_cons (pv 2) (pa_cons (pe_bltn (v := .ty "list") (by rfl) mList boot_list rfl) pa_nil))))) (pw_or1 (pt_not (pt_val (pe_callB (cr_all rfl) (by rfl) mAll boot_all (pa_cons (pe_lc (own := [("entry", 3)]) (g := gName 3) (tt := tYes) rfl scIsTurn.nd (pi_list (pv 2)) (blkOk_by (N := ["n", "nearby", "thing", "entry"]) (sc := defScope sIsTurn) (by decide +kernel)) (fun _ _ _ _ _ => pg_name (i := 3) scIsTurn.nd rfl (Or.inl rfl)) (fun _ _ _ _ _ => pts_nil) (fun _ _ _ _ _ => (pe_call GP hr (by rfl) gP FP.kp bP .nil pass0 (pa_cons (pv 0) (pa_cons (pv 3) pa_nil))))) pa_nil))))))) (pss_one (ps_ret pe_bl)) pss_nil)
      (pss_one (ps_ret (pe_cmpR (op_eqD hr.units) (pe_callB cr_sortedI (by rfl) mSorted boot_sorted (pa_cons (pv 2) pa_nil)) (pv 1) (nomark _))))), ?_⟩
    have e0 : Ev (tVar 2) (start ["n", "nearby", "thing", "entry"] [.int n, .ref b, v]) H v := ev_var rfl
    rcases hd.list_or with ⟨a, xs, ds, rfl, ha, ht, rfl⟩ | hn
    · have hlen := ht.length
      have hl : ds.length ≤ 1000 := sh
      refine q_when (b := !true || !(ds.all (posB n))) (et_or (et_not (et_B (ev_isi e0 hd (kit_list _)))) fun _ => et_not (et_B (ev_is (ev_all (bs := ds.map (posB n)) ?_) (by rw [List.all_map]; rfl)))) (fun hb0 H1 e1 => ?_) (fun hb0 H1 e1 => ?_)
      · rw [List.map_map, ← given_map ds (V.bl ∘ posB n) (fun i => .bl (posB n (ds.getD i .none))) (fun i x e => by
          rw [List.getD_eq_getElem?_getD, e]
          rfl), ← hlen]
        refine el_lcL (f := fun _ => true) (v := _) (ev_var rfl) (sq_of ha) (by omega) (fun _ => rfl) (fun i c H2 _ _ => fun H3 e3 Q q => q H3 (Ex.refl H3)) (fun i x H4 e4 hx _ => ?_)
        obtain ⟨d1, hd1, dt1⟩ := ht.get hx
        rw [List.getD_eq_getElem?_getD, hd1]
        exact ev_sp (ea_cons (ev_var rfl) (ea_cons (ev_var rfl) ea_nil)) fun H5 e5 Q q => ⟨n, x, d1, rfl, dt1.same (same_ex (e4.trans e5)), fun H6 e6 => q H6 e6⟩
      · have hb1 : ds.all (posB n) = false := by simpa using hb0
        refine s_ret (v := .bl false) ev_c fun H2 e2 => ?_
        have : turnB n near (.list ds) = false := by
          show (ds.all (posB n) && _) = false
          rw [hb1, Bool.false_and]
        rw [← this]
        exact q H2 (e1.trans e2)
      · have hb1 : ds.all (posB n) = true := by simpa using hb0
        have ex := all_ints ht hb1
        refine ⟨.ref a, rfl, a, ds.map intD, rfl, sq_of (by rw [← ex]; exact e1 _ _ ha), fun ns' p pm pw hp => ?_⟩
        have x1 := Ex.new (o := .lst (ns'.map V.int)) hp
        refine ⟨.ref b, rfl, .list (intsD ns'), .list (natsD near), Dt.dp (.lst upd_same (dts_ints _)), Dt.dp (.lst (x1 _ _ (e1 _ _ hb)) (dts_nats _)), (sh_ints 0 ns').shaped (by decide), (sh_nats 0 near).shaped (by decide), ?_⟩
        have ee : PyData.eqv (.list (intsD ns')) (.list (natsD near)) = turnB n near (.list ds) := by
          show PyData.eqvAll (intsD ns') (natsD near) = (ds.all (posB n) && _)
          rw [natsD_ints, eqv_ints, hb1, Bool.true_and]
          exact sorted_is pm pw (List.pairwise_map.mpr (asc.imp fun {x y} h => by show (x : Int) ≤ (y : Int); omega))
        rw [ee]
        exact q _ (e1.trans x1)
    · refine q_when (b := true) (et_is (et_or (b := true) (et_not (et_B (ev_isi e0 hd (kit_list _)))) fun hs => ?_) ?_) (fun _ H1 e1 => ?_) (fun h => nomatch h)
      · rw [hn] at hs
        cases hs
      · rw [hn]
        rfl
      · have : turnB n near d = false := by
          cases d <;> first | rfl | cases hn
        refine s_ret (v := .bl false) ev_c fun H2 e2 => ?_
        rw [← this]
        exact q H2 (e1.trans e2)
theorem ok_isturns {f fF fL fT : Addr} {fd fdF fdL fdT : FuncData} {k : Nat} (F : Fun K "is_turns" "is_turns" sIsTurns f fd)
    (GF : FnOk P w K mg base CX0 k fF fdF ["forest"] spChkF) (FF : Fun K "check_forest" "check_forest" sChkF fF fdF) (bF : Binds K fdF ["forest"] []) (gF : mg "check_forest" = some (.ref fF))
    (GL : FnOk P w K mg base CX0 k fL fdL ["forest"] spLists) (FL : Fun K "neighbour_lists" "neighbour_lists" sLists fL fdL) (bL : Binds K fdL ["forest"] []) (gL : mg "neighbour_lists" = some (.ref fL))
    (GT : FnOk P w K mg base CX0 k fT fdT ["n", "nearby", "thing"] spIsTurn) (FT : Fun K "_is_turn" "_is_turn" sIsTurn fT fdT) (bT : Binds K fdT ["n", "nearby", "thing"] []) (gT : mg "_is_turn" = some (.ref fT))
    (mIsi : mg "isinstance" = none) (mList : mg "list" = none) (mAll : mg "all" = none) (mLen : mg "len" = none) (mZip : mg "zip" = none) : FnOk P w K mg base CX0 (k + 1) f fd ["forest", "thing"] spIsTurns := by
  refine F.ok scIsTurns (fun vs H Q E h => ?_) (fun cdv A outer s H vs Q E hr h => ?_)
  · obtain ⟨v, t, n, es, d, rfl, _⟩ := h
    rfl
  · obtain ⟨v, t, n, es, d, rfl, hg, ok, hd, sh, q⟩ := h
    refine ⟨_, (pss_cons (ps_expr (pe_call GF hr (by rfl) gF FF.kp bF .nil pass0 (pa_cons (pv 0) pa_nil)))
      (pss_cons (ps_set (i := 2) scIsTurns.nd rfl (.inr rfl) (pe_ix ix_tup (pv 0) pe_int (fun _ _ => rfl)))
      (pss_cons (ps_if (PW.pt (pw_or (pt_not (pt_val (pe_callB call_isi (by rfl) mIsi boot_isinstance (pa_cons (pv 1) (pa_cons (pe_bltn (v := .ty "list") (by rfl) mList boot_list rfl) pa_nil))))) (pw_or1 (pt_cmpR op_ne (pe_callB call_len_seq (by rfl) mLen boot_len (pa_cons (pv 1) pa_nil)) (pv 2) (nomark _))))) (pss_one (ps_ret pe_bl)) pss_nil)
      (pss_one (ps_ret (pe_callB (cr_all rfl) (by rfl) mAll boot_all (pa_cons (pe_lc (own := [("nearby", 3), ("turn", 4)]) (g := gTup K 2 (gCons (gName 3) (gCons (gName 4) gNil))) (tt := tYes) (te := tCall spIsTurn [] E0 (tCons (tVar 2) (tCons (tVar 3) (tCons (tVar 4) tNil)))) rfl scIsTurns.nd (pi_zip (by rfl) mZip (pa_cons (pe_call GL hr (by rfl) gL FL.kp bL .nil pass0 (pa_cons (pv 0) pa_nil)) (pa_cons (pv 1) pa_nil))) (blkOk_by (N := ["forest", "thing", "n", "nearby", "turn"]) (sc := defScope sIsTurns) (by decide +kernel)) (fun _ _ _ _ _ => pg_tup rfl (pgs_cons (pg_name (i := 3) scIsTurns.nd rfl (Or.inl rfl)) (pgs_cons (pg_name (i := 4) scIsTurns.nd rfl (Or.inl rfl)) pgs_nil))) (fun _ _ _ _ _ => pts_nil) (fun _ _ _ _ _ => (pe_call GT hr (by rfl) gT FT.kp bT .nil pass0 (pa_cons (pv 2) (pa_cons (pv 3) (pa_cons (pv 4) pa_nil)))))) pa_nil))))))), ?_⟩
    refine q_drop (v := .non) (ev_sp (ea_cons (ev_var rfl) ea_nil) fun H1 e1 Q q => ⟨_, n, es, rfl, hg.ex e1, ok, q⟩) fun H1 e1 => ?_
    have hg1 := hg.ex e1
    have hg0 := hg1
    obtain ⟨g, a, ys, rfl, h2, h3, h4⟩ := hg1
    have n40 := ok.n40
    refine q_asg (v := .int (n : Int)) (ev_op (ev_var rfl) ev_c (rv_ixT (st_of h2) (atI_nat (j := 0) rfl))) fun H2 e2 => ?_
    have e12 := e1.trans e2
    have hd2 := hd.same (same_ex e12)
    rcases hd2.list_or with ⟨b, xs, ds, rfl, hb, ht, rfl⟩ | hn
    · have hlen := ht.length
      obtain ⟨hl, hsh⟩ : ds.length ≤ 1000 ∧ ∀ d ∈ ds, Short d := sh
      refine q_when (b := !true || !decide (V.int (xs.length : Int) = V.int (n : Int))) (et_or (et_not (et_B (ev_isi (ev_var rfl) hd2 (kit_list _)))) fun _ => et_test (ev_op (ev_len' (ev_var rfl) hb) (ev_var rfl) (rv_ne rfl))) (fun hb0 H3 e3 => ?_) (fun hb0 H3 e3 => ?_)
      · have hb1 : (!decide (V.int (xs.length : Int) = V.int (n : Int))) = true := hb0
        have hb2 := of_decide_eq_false ((Bool.not_eq_true' _).mp hb1)
        have : turnsB n es (.list ds) = false := by
          show (decide (ds.length = n) && _) = false
          rw [decide_eq_false fun z => hb2 (by rw [hlen, z]), Bool.false_and]
        refine s_ret (v := .bl false) ev_c fun H4 e4 => ?_
        rw [← this]
        exact q H4 ((e12.trans e3).trans e4)
      · have hb1 : (!decide (V.int (xs.length : Int) = V.int (n : Int))) = false := hb0
        have hb2 := V.int.inj (of_decide_eq_true ((Bool.not_eq_false' _).mp hb1))
        have dl : ds.length = n := by omega
        have e13 := e12.trans e3
        refine s_ret (v := .bl (turnsB n es (.list ds))) (ev_is (ev_all (bs := (List.range n).map fun i => turnB (n : Int) (adj es i) (ds.getD i .none)) ?_) ?_) fun H4 e4 => q H4 (e13.trans e4)
        · intro H0 e0 Q' q'
          have e20 := (e2.trans e3).trans e0
          refine ⟨.ref g, rfl, .ref g, n, es, rfl, hg0.ex e20, ok, fun H5 L as e5 hL h5 rw5 => ?_⟩
          refine ⟨.ref b, rfl, L, b, as.map V.ref, xs, rfl, sq_of h5, sq_of (e5 _ _ (e0 _ _ (e3 _ _ hb))), fun D hD => ?_⟩
          have ht5 := ht.same (same_ex ((e3.trans e0).trans e5))
          have hb5 := e5 _ _ (e0 _ _ (e3 _ _ hb))
          have al : (as.map V.ref).length = n := by rw [List.length_map, rw5.len]
          refine lc_it (walk_zip (n := n) (by omega)) (fun i Hh => Ex H5 Hh ∧ Hh D = some (.lst (((List.range i).map fun i => turnB (n : Int) (adj es i) (ds.getD i .none)).map V.bl))) ⟨Ex.new hD, upd_same⟩ (fun i Hh _ p => ⟨sq_of (p.1 _ _ h5), sq_of (p.1 _ _ hb5)⟩) ?_ ?_
          · rintro i y Ha Hb hi ⟨p1, p2⟩ ⟨T, y1, y2, rfl, nT, rfl, hy1, hy2⟩
            have hy1' : (as.map V.ref)[i]? = some y1 := hy1
            rw [List.getElem?_map] at hy1'
            cases hai : as[i]? with
            | none => rw [hai] at hy1'; cases hy1'
            | some c =>
              rw [hai] at hy1'
              cases hy1'
              obtain ⟨d2, hd2, dt2⟩ := ht5.get hy2
              have eT : Ex Ha (upd Ha T (.tup [.ref c, y2])) := Ex.new nT
              have eA := p1.trans eT
              refine ⟨T, [.ref c, y2], rfl, st_of upd_same, rfl, .ref c, [y2], rfl, y2, [], rfl, rfl, rfl, ?_⟩
              show tCall spIsTurn [] E0 (tCons (tVar 2) (tCons (tVar 3) (tCons (tVar 4) tNil))) _ _ _
              refine ⟨.int (n : Int), rfl, .ref c, rfl, y2, rfl, (n : Int), c, adj es i, y2, d2, rfl, eA _ _ (rw5.at' _ _ hai), adj_asc ok.edges i, dt2.same (same_ex eA), hsh d2 (List.mem_of_getElem? hd2), fun H6 e6 => ⟨_, e6 _ _ (eT _ _ p2), sz_lt (by rw [List.length_map, List.length_map, List.length_range]; omega), (eA.trans e6).mut hD, ?_⟩⟩
              rw [List.range_succ, List.map_append, List.map_append]
              show _ = some (HO.lst (_ ++ [V.bl (turnB (n : Int) (adj es i) (ds.getD i .none))]))
              rw [List.getD_eq_getElem?_getD, hd2]
              exact upd_same
          · rintro Hh ⟨p1, p2⟩
            exact q' D Hh (fresh_back e5 hD) (e5.trans p1) p2
        · show _ = V.bl (decide (ds.length = n) && _)
          rw [decide_eq_true dl, Bool.true_and, List.all_map]
          rfl
    · refine q_when (b := true) (et_is (et_or (b := true) (et_not (et_B (ev_isi (ev_var rfl) hd2 (kit_list _)))) fun hs => ?_) ?_) (fun _ H3 e3 => ?_) (fun h => nomatch h)
      · rw [hn] at hs
        cases hs
      · rw [hn]
        rfl
      · have : turnsB n es d = false := by
          cases d <;> first | rfl | cases hn
        refine s_ret (v := .bl false) ev_c fun H4 e4 => ?_
        rw [← this]
        exact q H4 ((e12.trans e3).trans e4)
end
end K15
/-! min of a list of pairs, remove of a pair -/
namespace Os
open PySem PySem.Spec PyProof.Rows L2 Evl

theorem prs_lay : ∀ es : List Pr, PyData.canLayAll0 (es.map Os.prD) = true
  | [] => by simp [PyData.canLayAll0]
  | e :: es => by simp [PyData.canLayAll0, PyData.canLay0, Os.prD, prs_lay es]
theorem pr_lay (e : Pr) : (Os.prD e).canLay0 = true := by simp [Os.prD, PyData.canLay0, PyData.canLayAll0]
theorem pr_depth (e : Pr) : (Os.prD e).depth = 1 := by simp [Os.prD, PyData.depth, PyData.depthAll]
theorem prs_depth : ∀ es : List Pr, PyData.depthAll (es.map Os.prD) ≤ 1
  | [] => by simp [PyData.depthAll]
  | e :: es => by
    have h1 := prs_depth es
    have h2 := pr_depth e
    simp only [List.map_cons, PyData.depthAll]
    omega
theorem lt_pr (e f : Pr) : PySem.W.dataLt (Os.prD e) (Os.prD f) = ltP e f := by
  show PyProof.Rows.lexLt itemOrd [.inl 1, .inl (e.1 : Int), .inl 1, .inl (e.2 : Int), .inl 0] [.inl 1, .inl (f.1 : Int), .inl 1, .inl (f.2 : Int), .inl 0] = ltP e f
  have hb : ∀ a b : Nat, itemOrd.blt (.inl (a : Int)) (.inl (b : Int)) = decide (a < b) := fun a b => decide_eq_decide.mpr (show (a : Int) < (b : Int) ↔ a < b by omega)
  have hn : ∀ {a b : Nat}, a ≠ b → (Sum.inl (a : Int) : Int ⊕ List Nat) ≠ .inl (b : Int) := fun h z => h (by have := Sum.inl.inj z; omega)
  rw [lex_self]
  unfold ltP
  by_cases h1 : e.1 = f.1
  · rw [h1, lex_self, lex_self, decide_eq_false (Nat.lt_irrefl _), decide_eq_true rfl, Bool.false_or, Bool.true_and]
    by_cases h2 : e.2 = f.2
    · rw [h2, lex_irrefl, decide_eq_false (Nat.lt_irrefl _)]
    · rw [lex_diff (O := itemOrd) (hn h2)]
      exact hb _ _
  · rw [lex_diff (O := itemOrd) (hn h1), decide_eq_false h1, Bool.false_and, Bool.or_false]
    exact hb _ _
/-- the least of e and es, the first of equal ones -/
def minP (e : Pr) (es : List Pr) : Pr := es.foldl (fun a y => if ltP y a = true then y else a) e
theorem minD_pr : ∀ (es : List Pr) (e : Pr), PySem.W.minD (Os.prD e) (es.map Os.prD) = Os.prD (minP e es)
  | [], _ => rfl
  | y :: es, e => by
    show PySem.W.minD (if PySem.W.dataLt (Os.prD y) (Os.prD e) = true then Os.prD y else Os.prD e) (es.map Os.prD) = Os.prD (minP (if ltP y e = true then y else e) es)
    rw [lt_pr]
    by_cases h : ltP y e = true
    · rw [if_pos h, if_pos h]
      exact minD_pr es y
    · rw [if_neg h, if_neg h]
      exact minD_pr es e
theorem minP_least : ∀ (es : List Pr) (e : Pr), ∀ f ∈ e :: es, ltP f (minP e es) = false
  | [], e, f, hf => by
    rw [List.mem_singleton.mp hf]
    show ltP e e = false
    rw [← Bool.not_eq_true, ltP_iff]
    omega
  | y :: es, e, f, hf => by
    show ltP f (minP (if ltP y e = true then y else e) es) = false
    by_cases h : ltP y e = true
    · rw [if_pos h]
      have ih := minP_least es y
      have iy := ih y List.mem_cons_self
      rcases List.mem_cons.mp hf with rfl | hf
      · rw [ltP_iff] at h
        rw [← Bool.not_eq_true, ltP_iff] at iy ⊢
        omega
      · exact ih f hf
    · rw [if_neg h]
      have ih := minP_least es e
      have ie := ih e List.mem_cons_self
      rcases List.mem_cons.mp hf with rfl | hf
      · exact ie
      · rcases List.mem_cons.mp hf with rfl | hf
        · rw [ltP_iff] at h
          rw [← Bool.not_eq_true, ltP_iff] at ie ⊢
          omega
        · exact ih f (List.mem_cons_of_mem _ hf)
theorem prD_inj {e f : Pr} (h : Os.prD e = Os.prD f) : e = f := by
  unfold Os.prD at h
  injection h with h
  injection h with h1 h
  injection h with h2 _
  injection h1 with h1
  injection h2 with h2
  exact Prod.ext (by omega) (by omega)
theorem alike_pr (e f : Pr) : PySem.W.alike (Os.prD e) (Os.prD f) = true := by simp [Os.prD, PySem.W.alike, PySem.W.alikeAll]
section
variable {X : Cx}
def rMinP (K : PySem.W.Frag) : List V → Hp → VK → Prop := fun vs H Q => ∃ (a : Addr) (xs : List V) (es : List Pr), vs = [V.ref a] ∧ H a = some (.lst xs) ∧ PrsV H xs es ∧ es ≠ [] ∧
  ∀ (i : Nat) (v : V) (e : Pr), xs[i]? = some v → es[i]? = some e → (∀ f ∈ es, ltP f e = false) → Q v H
theorem cr_minP (hc : X.calm = true) (hu : X.A.units + 64 < cLine) : CallR X (.builtin "min") (rMinP X.K) := by
  intro pins s σ H vs us Q I r h
  obtain ⟨a, xs, es, rfl, ha, hp, ne, q⟩ := h
  obtain ⟨its, rv, hl, _⟩ := I.list (sq_of ha)
  rw [Vals.ref1 r]
  cases es with
  | nil => exact absurd rfl ne
  | cons e es =>
    obtain ⟨as, rd⟩ := Dp.readsAll I ((e :: es).map Os.prD) xs its hp.dts.dp rv
    refine PySem.W.min_list_data (x := Os.prD e) (xs := es.map Os.prD) (I.ok.hd hc) hl.isList rd ⟨fun x hx y hy => ?_, fun x hx => ?_⟩ (by have : PyData.depthAll (Os.prD e :: es.map Os.prD) ≤ 1 := prs_depth (e :: es); omega) fun i v h' tk bs hv rdm hk => ?_
    · have hx' : x ∈ (e :: es).map Os.prD := hx
      have hy' : y ∈ (e :: es).map Os.prD := hy
      obtain ⟨x1, _, rfl⟩ := List.mem_map.mp hx'
      obtain ⟨y1, _, rfl⟩ := List.mem_map.mp hy'
      exact alike_pr x1 y1
    · have hx' : x ∈ (e :: es).map Os.prD := hx
      obtain ⟨x1, _, rfl⟩ := List.mem_map.mp hx'
      exact fun z => nomatch z
    · have hv' : its[i]? = some v := by simpa using hv
      have il : i < xs.length := by
        rw [rv.length]
        exact (List.getElem?_eq_some_iff.mp hv').1
      have hx : xs[i]? = some xs[i] := List.getElem?_eq_getElem il
      generalize xs[i] = x at hx
      obtain ⟨u, hu1, ru⟩ := rv.get hx
      rw [hv'] at hu1
      cases hu1
      obtain ⟨e', he', pe⟩ := hp.get hx
      obtain ⟨bs', rd'⟩ := Dp.reads I (Os.prD e') x v pe.dt.dp ru
      have r1 := SeqAt.readOf_eq (pr_lay e') (PySem.W.reads_keeps hk rd')
      rw [minD_pr] at rdm
      have r2 := SeqAt.readOf_eq (pr_lay _) rdm
      have ee : e' = minP e es := prD_inj (r1.symm.trans r2)
      subst ee
      exact ⟨x, H, I.kept hk, ru, q i x _ hx he' (minP_least es e)⟩
/-- l.remove(x) of a list of pairs -/
def rRemP : V → List V → Hp → VK → Prop := fun x vs H Q => ∃ (l : Addr) (xs : List V) (es : List Pr) (v : V) (e : Pr) (j : Nat), x = .ref l ∧ vs = [v] ∧ H l = some (.lst xs) ∧ PrsV H xs es ∧ PrV H v e ∧ es[j]? = some e ∧ (∀ m, m < j → es[m]? ≠ some e) ∧
  Q .non (upd H l (.lst (xs.eraseIdx j)))
theorem eqv_prs (e f : Pr) : PyData.eqv (Os.prD e) (Os.prD f) = decide (e = f) := by
  have h : PyData.eqv (Os.prD e) (Os.prD f) = ((e.1 : Int) == (f.1 : Int) && ((e.2 : Int) == (f.2 : Int) && true)) := by
    simp [Os.prD, PyData.eqv, PyData.eqvAll]
  rw [h, Bool.and_true]
  by_cases h1 : e.1 = f.1
  · by_cases h2 : e.2 = f.2
    · rw [decide_eq_true (Prod.ext h1 h2), h1, h2, beq_self_eq_true, beq_self_eq_true]
      rfl
    · rw [decide_eq_false (fun z => h2 (congrArg Prod.snd z)), show ((e.2 : Int) == (f.2 : Int)) = false from beq_eq_false_iff_ne.mpr (by omega), Bool.and_false]
  · rw [decide_eq_false (fun z => h1 (congrArg Prod.fst z)), show ((e.1 : Int) == (f.1 : Int)) = false from beq_eq_false_iff_ne.mpr (by omega), Bool.false_and]
theorem mt_remP (hu : X.A.units + 64 < cLine) : MtR X "list.remove" rRemP := by
  intro pins s σ H x xs v us Q I rx rxs h
  obtain ⟨l, zs, es, y, e, j, rfl, rfl, hH, hp, hy, hj, hno, q⟩ := h
  cases rx
  obtain ⟨u, rfl, ru⟩ := rxs.one
  obtain ⟨z, its, n, r, hl, e0⟩ := I.lstM hH
  obtain ⟨bs, r1⟩ := Dp.reads I (Os.prD e) y u hy.dt.dp ru
  obtain ⟨as, h4⟩ := Dp.readsAll I (es.map Os.prD) zs its hp.dts.dp r
  have hxs := prs_lay es
  have hle := hp.length
  have hmap : its.map (SeqAt.readOf s.heap) = es.map Os.prD := SeqAt.readsAll_map (es.map Os.prD) its as hxs h4
  have jl : j < es.length := (List.getElem?_eq_some_iff.mp hj).1
  have hjs : j < its.toArray.size := by rw [List.size_toArray]; omega
  have at_ : ∀ (m : Nat) (hm : m < its.toArray.size) (f : Pr), es[m]? = some f → SeqAt.readOf s.heap its.toArray[m] = Os.prD f := by
    intro m hm f hf
    have hml : m < its.length := by simpa using hm
    have e1 : (its.map (SeqAt.readOf s.heap))[m]? = (es.map Os.prD)[m]? := by rw [hmap]
    rw [List.getElem?_map, List.getElem?_map, List.getElem?_eq_getElem hml, hf] at e1
    have e2 := Option.some.inj e1
    simpa using e2
  have dp := prs_depth es
  have de := pr_depth e
  refine call_meets PySem.F.slot_list_remove ⟨_, e0, rfl⟩ PySem.F.entry_list_remove (PySem.F.args_list_remove_2 _ _)
    (SeqAt.list_removeAt l its.toArray n none #[] u (fun w => PyData.eqv (SeqAt.readOf s.heap w) (Os.prD e)) j hjs ?_ ?_ (by rw [List.size_toArray, ← hl]; exact z)) ⟨e0, SeqAt.items_eqAt (vs := its.toArray) (show ReadsAll s.heap its.toArray.toList (es.map Os.prD) as from h4) r1 hxs (pr_lay e) (by omega), ?_⟩
  · show PyData.eqv (SeqAt.readOf s.heap its.toArray[j]) (Os.prD e) = true
    rw [at_ j hjs e hj, eqv_prs, decide_eq_true rfl]
  · intro m hm hmj
    have hf : es[m]? = some es[m] := List.getElem?_eq_getElem (by omega)
    show PyData.eqv (SeqAt.readOf s.heap its.toArray[m]) (Os.prD e) = false
    rw [at_ m hm _ hf, eqv_prs]
    refine decide_eq_false fun w => hno m hmj ?_
    rw [hf, w]
  · refine ⟨.non, _, I.lset (its' := its.eraseIdx j) hH e0 ?_ (r.eraseIdx j) ?_, rfl, q⟩
    · show its.toArray.eraseIdxIfInBounds j = (its.eraseIdx j).toArray
      rw [List.eraseIdxIfInBounds_toArray]
    · have := len_erase zs j
      omega
/-- list(x), x a text -/
def signsV (z : Str) : List V := z.cps.toList.map fun c => V.str ⟨#[c]⟩
def rListStr : List V → Hp → VK → Prop := fun vs H Q => ∃ z : Str, vs = [V.str z] ∧ z.length ≤ sizeLine ∧ ∀ l, H l = none → Q (.ref l) (upd H l (.lst (signsV z)))
theorem vals_at : ∀ {xs : List V} {us : List Value}, xs.length = us.length → (∀ (i : Nat) (x : V) (u : Value), xs[i]? = some x → us[i]? = some u → RelV x u) → Vals xs us
  | [], [], _, _ => .nil
  | x :: xs, u :: us, hl, h => .cons (h 0 x u rfl rfl) (vals_at (by simpa using hl) fun i y v h1 h2 => h (i + 1) y v (by simpa using h1) (by simpa using h2))
  | [], _ :: _, hl, _ => by simp at hl
  | _ :: _, [], hl, _ => by simp at hl
theorem call_listS (hc : X.calm = true) : CallR X (.type "list") rListStr := by
  intro pins s σ H vs us Q I r h
  obtain ⟨z, rfl, hz, q⟩ := h
  obtain ⟨u, rfl, t, rfl⟩ := vals1 r
  refine call_list_str (I.ok.hd hc) z t (fun h' tk acc' c' hk hS hacc => ?_) (hn := hz)
  have hsz : acc'.size = z.cps.size := hacc.1
  have hl : (signsV z).length = acc'.toList.length := by
    unfold signsV
    rw [List.length_map, Array.length_toList, Array.length_toList, hsz]
  refine ⟨.ref s.heap.objs.size, upd H s.heap.objs.size (.lst (signsV z)), I.laid (t' := tk) hk (Nat.le_refl _) ⟨?_, acc'.toList, c', vals_at hl fun i x v h1 h2 => ?_, by simpa using hS⟩, rfl, q _ (I.hok.fresh (Nat.le_refl _))⟩
  · unfold signsV
    rw [List.length_map, Array.length_toList]
    exact hz
  · obtain ⟨c, tk', hc', rfl⟩ := hacc.2 i v (by simpa using h2)
    unfold signsV at h1
    rw [List.getElem?_map, Array.getElem?_toList, hc'] at h1
    cases h1
    exact ⟨_, rfl⟩
end
end Os
/-! one more edge: a cycle exactly where its ends are joined already -/
namespace Os
open PySem PySem.Spec PyProof.Rows L2 Evl
def Resp (S : Nat → Bool) (es : List Pr) : Prop := ∀ f ∈ es, S f.1 = S f.2
def Conn (es : List Pr) (x y : Nat) : Prop := ∀ S : Nat → Bool, Resp S es → S x = S y
theorem bridges_add {es : List Pr} {e : Pr} {S : Nat → Bool} (h : Bridges es) (r : Resp S es) (s : S e.1 ≠ S e.2) : Bridges (es ++ [e]) := fun f hf => by
  rcases List.mem_append.mp hf with hf | hf
  · obtain ⟨T, t1, t2⟩ := h f hf
    by_cases q : T e.1 = T e.2
    · exact ⟨T, t1, fun g hg ne => by
        rcases List.mem_append.mp hg with hg | hg
        · exact t2 g hg ne
        · rw [List.mem_singleton.mp hg]
          exact q⟩
    · refine ⟨fun x => T x != S x, fun z => t1 ?_, fun g hg ne => ?_⟩
      · have rf := r f hf
        revert z
        show (T f.1 != S f.1) = (T f.2 != S f.2) → _
        rw [rf]
        cases T f.1 <;> cases T f.2 <;> cases S f.2 <;> simp
      · show (T g.1 != S g.1) = (T g.2 != S g.2)
        rcases List.mem_append.mp hg with hg | hg
        · rw [t2 g hg ne, r g hg]
        · rw [List.mem_singleton.mp hg]
          revert q s
          cases T e.1 <;> cases T e.2 <;> cases S e.1 <;> cases S e.2 <;> simp
  · rw [List.mem_singleton.mp hf]
    exact ⟨S, s, fun g hg ne => by
      rcases List.mem_append.mp hg with hg | hg
      · exact r g hg
      · exact absurd (List.mem_singleton.mp hg) ne⟩
theorem cyc_bridges : ∀ {r done : List Pr} {t : List Nat}, Bridges done → (∀ f ∈ done ++ r, f.1 < t.length ∧ f.2 < t.length) → (∀ f ∈ done, t.getD f.1 0 = t.getD f.2 0) → cycB r t = false → Bridges (done ++ r)
  | [], done, _, h, _, _, _ => by rw [List.append_nil]; exact h
  | e :: r, done, t, h, hb, hl, c => by
    unfold cycB at c
    split at c
    · cases c
    · rename_i ne
      obtain ⟨b1, b2⟩ := hb e (by simp)
      have h2 : Bridges (done ++ [e]) := bridges_add (S := fun x => decide (t.getD x 0 = t.getD e.1 0)) h (fun f hf => by
        show decide _ = decide _
        rw [hl f hf]) (by
        show decide _ ≠ decide _
        rw [decide_eq_true rfl, decide_eq_false (fun z => ne z.symm)]
        decide)
      have := cyc_bridges (r := r) (done := done ++ [e]) (t := merge t e) h2 (fun f hf => by
        rw [merge_length]
        exact hb f (by simpa using hf)) (fun f hf => ?_) c
      · rw [List.append_assoc] at this
        exact this
      · rcases List.mem_append.mp hf with hf | hf
        · obtain ⟨f1, f2⟩ := hb f (by simp [hf])
          unfold merge
          rw [getD_map f1, getD_map f2, hl f hf]
        · rw [List.mem_singleton.mp hf]
          unfold merge
          rw [getD_map b1, getD_map b2, if_neg ne, if_pos rfl]
/-- edges that a graph of n places may have, each once -/
structure Simple (n : Nat) (es : List Pr) : Prop where
  inn : ∀ e ∈ es, e.1 < e.2 ∧ e.2 < n
  asc : es.Pairwise fun e f => ltP e f = true
theorem Simple.nodup {n : Nat} {es : List Pr} (h : Simple n es) : es.Nodup := h.asc.imp fun {a b} q e => by
  rw [e, ltP_irr] at q
  cases q
theorem Simple.cyc {n : Nat} {es : List Pr} (h : Simple n es) : cycB es (List.range n) = false ↔ Bridges es := by
  constructor
  · intro c
    have := cyc_bridges (r := es) (done := []) (t := List.range n) (fun e he => nomatch he) (fun f hf => by
      have := h.inn f hf
      rw [List.length_range]
      omega) (fun f hf => nomatch hf) c
    exact this
  · intro b
    exact Edges.no_cyc ⟨h.inn, h.asc, b⟩
theorem Edges.simple {n : Nat} {es : List Pr} (h : Edges n es) : Simple n es := ⟨h.inn, h.asc⟩
theorem Simple.edges {n : Nat} {es : List Pr} (h : Simple n es) (b : Bridges es) : Edges n es := ⟨h.inn, h.asc, b⟩
theorem Simple.filter {n : Nat} {es : List Pr} (h : Simple n es) (p : Pr → Bool) : Simple n (es.filter p) := ⟨fun e he => h.inn e (List.mem_filter.mp he).1, h.asc.filter p⟩
theorem Bridges.filter {es : List Pr} (h : Bridges es) (p : Pr → Bool) : Bridges (es.filter p) := fun e he => by
  obtain ⟨S, h1, h2⟩ := h e (List.mem_filter.mp he).1
  exact ⟨S, h1, fun f hf => h2 f (List.mem_filter.mp hf).1⟩
/-- what can be reached from a place -/
structure Reach (es : List Pr) (x : Nat) (R : List Nat) : Prop where
  start : x ∈ R
  closed : ∀ f ∈ es, f.1 ∈ R ↔ f.2 ∈ R
  conn : ∀ v ∈ R, Conn es x v
theorem add_one {n : Nat} {es fs : List Pr} {e : Pr} {R : List Nat} (b : Bridges es) (nm : e ∉ es) (s : Simple n fs) (pm : fs.Perm (es ++ [e])) (rc : Reach es e.1 R) : (!cycB fs (List.range n)) = !decide (e.2 ∈ R) := by
  by_cases h : e.2 ∈ R
  · rw [decide_eq_true h]
    cases c : cycB fs (List.range n) with
    | true => rfl
    | false =>
      have bf := (s.cyc.mp c).perm pm.symm
      obtain ⟨S, h1, h2⟩ := bf e (by simp)
      exact absurd (rc.conn _ h S fun f hf => h2 f (by simp [hf]) fun z => nm (z ▸ hf)) h1
  · rw [decide_eq_false h]
    have : Bridges fs := (bridges_add (S := fun x => decide (x ∈ R)) b (fun f hf => decide_eq_decide.mpr (rc.closed f hf)) (by
      show decide _ ≠ decide _
      rw [decide_eq_true rc.start, decide_eq_false h]
      decide)).perm pm
    rw [s.cyc.mpr this]
end Os
/-! where an order takes the items: rings, and their neighbours in the order of the swaps -/
namespace Os
open PySem PySem.Spec PyProof.Rows L2 Evl
/-! ### joined places -/
theorem Conn.refl (es : List Pr) (x : Nat) : Conn es x x := fun _ _ => rfl
theorem Conn.symm {es : List Pr} {x y : Nat} (h : Conn es x y) : Conn es y x := fun S hS => (h S hS).symm
theorem Conn.trans {es : List Pr} {x y z : Nat} (h : Conn es x y) (k : Conn es y z) : Conn es x z := fun S hS => (h S hS).trans (k S hS)
theorem Conn.edge {es : List Pr} {e : Pr} (h : e ∈ es) : Conn es e.1 e.2 := fun S hS => hS e h
theorem Conn.more {es : List Pr} {e : Pr} {x y : Nat} (h : Conn es x y) : Conn (es ++ [e]) x y := fun S hS => h S fun f hf => hS f (List.mem_append_left _ hf)
theorem conn_add {es : List Pr} {e : Pr} {p x : Nat} : Conn (es ++ [e]) p x ↔ Conn es p x ∨ (Conn es p e.1 ∧ Conn es e.2 x) ∨ (Conn es p e.2 ∧ Conn es e.1 x) := by
  constructor
  · intro h
    classical
    let T : Nat → Prop := fun y => Conn es p y ∨ (Conn es p e.1 ∧ Conn es e.2 y) ∨ (Conn es p e.2 ∧ Conn es e.1 y)
    have inv : ∀ {y z : Nat}, Conn es y z → T y → T z := fun c t => by
      rcases t with t | ⟨t, u⟩ | ⟨t, u⟩
      · exact .inl (t.trans c)
      · exact .inr (.inl ⟨t, u.trans c⟩)
      · exact .inr (.inr ⟨t, u.trans c⟩)
    have ab : T e.1 ↔ T e.2 := by
      constructor
      · rintro (t | ⟨t, u⟩ | ⟨t, u⟩)
        · exact .inr (.inl ⟨t, .refl _ _⟩)
        · exact .inr (.inl ⟨t, .refl _ _⟩)
        · exact .inl t
      · rintro (t | ⟨t, u⟩ | ⟨t, u⟩)
        · exact .inr (.inr ⟨t, .refl _ _⟩)
        · exact .inl t
        · exact .inr (.inr ⟨t, .refl _ _⟩)
    have := h (fun y => decide (T y)) fun f hf => by
      rcases List.mem_append.mp hf with hf | hf
      · exact decide_eq_decide.mpr ⟨inv (.edge hf), inv (Conn.edge hf).symm⟩
      · rw [List.mem_singleton.mp hf]
        exact decide_eq_decide.mpr ab
    have tp : decide (T p) = true := decide_eq_true (.inl (.refl _ _))
    have tx : decide (T x) = true := this.symm.trans tp
    exact of_decide_eq_true tx
  · have ce : Conn (es ++ [e]) e.1 e.2 := .edge (by simp)
    rintro (h | ⟨h, k⟩ | ⟨h, k⟩)
    · exact h.more
    · exact (h.more.trans ce).trans k.more
    · exact (h.more.trans ce.symm).trans k.more
theorem conn_none {p x : Nat} : Conn [] p x ↔ x = p := by
  constructor
  · intro h
    have := h (fun y => decide (y = p)) fun f hf => nomatch hf
    have tp : decide (p = p) = true := decide_eq_true rfl
    exact of_decide_eq_true (this.symm.trans tp)
  · rintro rfl
    exact .refl _ _
/-! ### where the item of a place ends -/
def sw (e : Pr) (x : Nat) : Nat := if x = e.1 then e.2 else if x = e.2 then e.1 else x
def mvs (os : List Pr) (p : Nat) : Nat := os.foldl (fun x e => sw e x) p
theorem mvs_snoc (os : List Pr) (e : Pr) (p : Nat) : mvs (os ++ [e]) p = sw e (mvs os p) := by
  unfold mvs
  rw [List.foldl_append]
  rfl
theorem sw_ne {e : Pr} {x : Nat} (h1 : x ≠ e.1) (h2 : x ≠ e.2) : sw e x = x := by
  unfold sw
  rw [if_neg h1, if_neg h2]
theorem sw_one (e : Pr) : sw e e.1 = e.2 := if_pos rfl
theorem sw_two (e : Pr) : sw e e.2 = e.1 := by
  unfold sw
  by_cases h : e.2 = e.1
  · rw [if_pos h, h]
  · rw [if_neg h, if_pos rfl]
/-- f leads from x through l to y -/
def Ch (f : Nat → Nat) : Nat → List Nat → Nat → Prop
  | x, [], y => f x = y
  | x, a :: l, y => f x = a ∧ Ch f a l y
theorem Ch.app {f : Nat → Nat} : ∀ {l m : List Nat} {x a y : Nat}, Ch f x (l ++ a :: m) y ↔ Ch f x l a ∧ Ch f a m y
  | [], _, _, _, _ => Iff.rfl
  | b :: l, m, x, a, y => by
    show f x = b ∧ Ch f b (l ++ a :: m) y ↔ (f x = b ∧ Ch f b l a) ∧ Ch f a m y
    rw [Ch.app (l := l)]
    exact ⟨fun ⟨h, k, j⟩ => ⟨⟨h, k⟩, j⟩, fun ⟨⟨h, k⟩, j⟩ => ⟨h, k, j⟩⟩
theorem Ch.turn {f : Nat → Nat} {l m : List Nat} {x a : Nat} (h : Ch f x (l ++ a :: m) x) : Ch f a (m ++ x :: l) a := by
  obtain ⟨h1, h2⟩ := Ch.app.mp h
  exact Ch.app.mpr ⟨h2, h1⟩
theorem Ch.sw {os : List Pr} {e : Pr} : ∀ {l : List Nat} {x y : Nat}, Ch (mvs os) x l y → e.1 ∉ l → e.2 ∉ l → Ch (mvs (os ++ [e])) x l (Os.sw e y)
  | [], x, y, h, _, _ => by
    show mvs (os ++ [e]) x = _
    rw [mvs_snoc, show mvs os x = y from h]
  | a :: l, x, y, ⟨h1, h2⟩, n1, n2 => by
    refine ⟨?_, Ch.sw h2 (fun z => n1 (List.mem_cons_of_mem _ z)) fun z => n2 (List.mem_cons_of_mem _ z)⟩
    rw [mvs_snoc, h1, sw_ne (fun z => n1 (z ▸ List.mem_cons_self)) fun z => n2 (z ▸ List.mem_cons_self)]
/-! ### rings -/
/-- the turn of a place: its neighbours in the order of the swaps -/
def turnOf (p : Nat) (os : List Pr) : List Nat := os.filterMap fun e => if e.1 = p then some e.2 else if e.2 = p then some e.1 else none
theorem turn_conn {os : List Pr} {p x : Nat} (h : x ∈ turnOf p os) : Conn os p x := by
  obtain ⟨e, he, h⟩ := List.mem_filterMap.mp h
  split at h
  · rename_i h1
    cases h
    rw [← h1]
    exact .edge he
  · split at h
    · rename_i h1
      cases h
      rw [← h1]
      exact (Conn.edge he).symm
    · cases h
theorem turn_snoc (os : List Pr) (e : Pr) (p : Nat) : turnOf p (os ++ [e]) = turnOf p os ++ (if e.1 = p then [e.2] else if e.2 = p then [e.1] else []) := by
  unfold turnOf
  rw [List.filterMap_append]
  congr 1
  by_cases h1 : e.1 = p
  · simp [h1]
  · by_cases h2 : e.2 = p
    · simp [h1, h2]
    · simp [h1, h2]
/-- l is the ring of p, read behind p -/
structure RingAt (os : List Pr) (p : Nat) (l : List Nat) : Prop where
  runs : Ch (mvs os) p l p
  nd : (p :: l).Nodup
  all : ∀ x, x ∈ p :: l ↔ Conn os p x
  turn : (l.filter fun x => decide (x ∈ turnOf p os)) = turnOf p os
theorem ring_none (p : Nat) : RingAt [] p [] := ⟨rfl, List.pairwise_singleton _ _, fun x => by rw [conn_none]; simp, rfl⟩
theorem filter_none {l : List Nat} {q : Nat → Bool} (h : ∀ x ∈ l, q x = false) : l.filter q = [] := List.filter_eq_nil_iff.mpr fun x hx => by rw [h x hx]; decide
theorem filter_like {l : List Nat} {q r : Nat → Bool} (h : ∀ x ∈ l, q x = r x) : l.filter q = l.filter r := List.filter_congr h
/-- every place has its ring under every order of edges that join ever new trees -/
theorem rings_at : ∀ {os : List Pr}, (∀ pre e post, os = pre ++ e :: post → e.1 ≠ e.2 ∧ ¬ Conn pre e.1 e.2) → ∀ p, ∃ l, RingAt os p l := by
  intro os
  generalize hn : os.length = n
  induction n generalizing os with
  | zero =>
    intro _ p
    rw [List.length_eq_zero_iff.mp hn]
    exact ⟨[], ring_none p⟩
  | succ n ih =>
    intro h p
    have ne : os ≠ [] := fun z => by rw [z] at hn; cases hn
    obtain ⟨pre, e, rfl⟩ : ∃ pre e, os = pre ++ [e] := ⟨os.dropLast, os.getLast ne, (List.dropLast_concat_getLast ne).symm⟩
    obtain ⟨ab, nc⟩ := h pre e [] rfl
    have ih := ih (os := pre) (by rw [List.length_append] at hn; simpa using hn) fun p1 f p2 q => h p1 f (p2 ++ [e]) (by rw [q, List.append_assoc]; rfl)
    -- both ends, in either order
    have both : ∀ a b, (a = e.1 ∧ b = e.2 ∨ a = e.2 ∧ b = e.1) → ∀ p, Conn pre p a → ∃ l, RingAt (pre ++ [e]) p l := by
      intro a b hab p pa
      have nab : ¬ Conn pre a b := by
        rcases hab with ⟨rfl, rfl⟩ | ⟨rfl, rfl⟩
        · exact nc
        · exact fun z => nc z.symm
      have swa : sw e a = b := by
        rcases hab with ⟨rfl, rfl⟩ | ⟨rfl, rfl⟩
        · exact sw_one e
        · exact sw_two e
      have swb : sw e b = a := by
        rcases hab with ⟨rfl, rfl⟩ | ⟨rfl, rfl⟩
        · exact sw_two e
        · exact sw_one e
      have cadd : ∀ {x : Nat}, Conn (pre ++ [e]) p x ↔ Conn pre p x ∨ Conn pre b x := fun {x} => by
        rw [conn_add]
        rcases hab with ⟨rfl, rfl⟩ | ⟨rfl, rfl⟩
        · constructor
          · rintro (z | ⟨_, z⟩ | ⟨z, _⟩)
            · exact .inl z
            · exact .inr z
            · exact absurd (pa.symm.trans z) nc
          · rintro (z | z)
            · exact .inl z
            · exact .inr (.inl ⟨pa, z⟩)
        · constructor
          · rintro (z | ⟨z, _⟩ | ⟨_, z⟩)
            · exact .inl z
            · exact absurd (z.symm.trans pa) nc
            · exact .inr z
          · rintro (z | z)
            · exact .inl z
            · exact .inr (.inr ⟨pa, z⟩)
      have tsn : ∀ q, turnOf q (pre ++ [e]) = turnOf q pre ++ (if q = a then [b] else if q = b then [a] else []) := fun q => by
        rw [turn_snoc]
        congr 1
        rcases hab with ⟨rfl, rfl⟩ | ⟨rfl, rfl⟩
        · simp only [eq_comm (a := q)]
        · simp only [eq_comm (a := q)]
          by_cases h1 : e.1 = q
          · have h2 : ¬ e.2 = q := fun z => ab (h1.trans z.symm)
            rw [if_pos h1, if_neg h2, if_pos h1]
          · rw [if_neg h1]
            by_cases h2 : e.2 = q
            · rw [if_pos h2, if_pos h2]
            · rw [if_neg h2, if_neg h2, if_neg h1]
      obtain ⟨v, rv⟩ := ih b
      have vb : ∀ x ∈ b :: v, Conn pre b x := fun x hx => (rv.all x).mp hx
      have apart : ∀ {x : Nat}, Conn pre b x → ¬ Conn pre a x := fun hb ha => nab (ha.trans hb.symm)
      have ea : ∀ {l : List Nat}, a ∉ l → b ∉ l → e.1 ∉ l ∧ e.2 ∉ l := fun n1 n2 => by
        rcases hab with ⟨rfl, rfl⟩ | ⟨rfl, rfl⟩
        · exact ⟨n1, n2⟩
        · exact ⟨n2, n1⟩
      have av : a ∉ v := fun z => apart (vb a (List.mem_cons_of_mem _ z)) (.refl _ _)
      have bv : b ∉ v := fun z => (List.nodup_cons.mp rv.nd).1 z
      have chv : Ch (mvs (pre ++ [e])) b v a := by
        have := rv.runs.sw (ea av bv).1 (ea av bv).2
        rwa [swb] at this
      by_cases pe : p = a
      · subst pe
        obtain ⟨u, ru⟩ := ih p
        have ub : ∀ x ∈ p :: u, Conn pre p x := fun x hx => (ru.all x).mp hx
        have au : p ∉ u := (List.nodup_cons.mp ru.nd).1
        have bu : b ∉ u := fun z => nab (ub b (List.mem_cons_of_mem _ z))
        have chu : Ch (mvs (pre ++ [e])) p u b := by
          have := ru.runs.sw (ea au bu).1 (ea au bu).2
          rwa [swa] at this
        refine ⟨u ++ b :: v, Ch.app.mpr ⟨chu, chv⟩, ?_, fun x => ?_, ?_⟩
        · rw [← List.cons_append]
          exact List.nodup_append.mpr ⟨ru.nd, rv.nd, fun x hx y hy z => apart (vb y hy) (z ▸ ub x hx)⟩
        · rw [cadd, ← ru.all, ← rv.all, ← List.cons_append, List.mem_append]
        · rw [tsn, if_pos rfl, List.filter_append, List.filter_cons]
          rw [if_pos (by simp)]
          rw [filter_none (l := v) fun x hx => by
            refine decide_eq_false fun z => ?_
            rcases List.mem_append.mp z with z | z
            · exact apart (vb x (List.mem_cons_of_mem _ hx)) (turn_conn z)
            · rw [List.mem_singleton.mp z] at hx
              exact bv hx]
          have : u.filter (fun x => decide (x ∈ turnOf p pre ++ [b])) = turnOf p pre := (filter_like (r := fun x => decide (x ∈ turnOf p pre)) fun x hx => decide_eq_decide.mpr ⟨fun z => by
            rcases List.mem_append.mp z with z | z
            · exact z
            · rw [List.mem_singleton.mp z] at hx
              exact absurd hx bu, fun z => List.mem_append_left _ z⟩).trans ru.turn
          rw [this]
      · obtain ⟨l, rl⟩ := ih p
        have lb : ∀ x ∈ p :: l, Conn pre p x := fun x hx => (rl.all x).mp hx
        have al : a ∈ l := by
          rcases List.mem_cons.mp ((rl.all a).mpr pa) with z | z
          · exact absurd z.symm pe
          · exact z
        obtain ⟨l1, l2, rfl⟩ := List.append_of_mem al
        have pb : p ≠ b := fun z => nab (pa.symm.trans (z ▸ .refl _ _))
        have bl : b ∉ p :: (l1 ++ a :: l2) := fun z => apart (.refl _ _) (pa.symm.trans (lb b z))
        have nd0 := rl.nd
        have pm1 : (p :: (l1 ++ a :: l2)).Perm (a :: (l2 ++ p :: l1)) := by
          have h1 : (p :: l1 ++ a :: l2).Perm (a :: l2 ++ p :: l1) := List.perm_append_comm
          exact h1
        have nd1 : (a :: (l2 ++ p :: l1)).Nodup := pm1.nodup_iff.mp nd0
        have au : a ∉ l2 ++ p :: l1 := (List.nodup_cons.mp nd1).1
        have bu : b ∉ l2 ++ p :: l1 := fun z => bl (pm1.mem_iff.mpr (List.mem_cons_of_mem _ z))
        have chu : Ch (mvs (pre ++ [e])) a (l2 ++ p :: l1) b := by
          have := rl.runs.turn.sw (ea au bu).1 (ea au bu).2
          rwa [swa] at this
        have pm2 : (p :: ((l1 ++ b :: v) ++ a :: l2)).Perm ((p :: (l1 ++ a :: l2)) ++ b :: v) := by
          refine List.Perm.cons p ?_
          show ((l1 ++ b :: v) ++ a :: l2).Perm ((l1 ++ a :: l2) ++ (b :: v))
          rw [List.append_assoc, List.append_assoc]
          exact List.Perm.append_left l1 List.perm_append_comm
        have whole : Ch (mvs (pre ++ [e])) a (l2 ++ p :: (l1 ++ b :: v)) a := by
          have := Ch.app.mpr ⟨chu, chv⟩
          rwa [List.append_assoc, List.cons_append] at this
        refine ⟨(l1 ++ b :: v) ++ a :: l2, whole.turn, ?_, fun x => ?_, ?_⟩
        · refine pm2.nodup_iff.mpr (List.nodup_append.mpr ⟨nd0, rv.nd, fun x hx y hy z => apart (vb y hy) (z ▸ pa.symm.trans (lb x hx))⟩)
        · rw [pm2.mem_iff, List.mem_append, rl.all, rv.all, cadd]
        · have hn : (b :: v).filter (fun x => decide (x ∈ turnOf p pre)) = [] := filter_none fun x hx => decide_eq_false fun z => apart (vb x hx) (pa.symm.trans (turn_conn z))
          rw [tsn, if_neg pe, if_neg pb, List.append_nil, List.filter_append, List.filter_append, hn, List.append_nil, ← List.filter_append]
          exact rl.turn
    by_cases p1 : Conn pre p e.1
    · exact both e.1 e.2 (.inl ⟨rfl, rfl⟩) p p1
    · by_cases p2 : Conn pre p e.2
      · exact both e.2 e.1 (.inr ⟨rfl, rfl⟩) p p2
      · obtain ⟨l, rl⟩ := ih p
        have n1 : e.1 ∉ p :: l := fun z => p1 ((rl.all _).mp z)
        have n2 : e.2 ∉ p :: l := fun z => p2 ((rl.all _).mp z)
        refine ⟨l, ?_, rl.nd, fun x => ?_, ?_⟩
        · have := rl.runs.sw (fun z => n1 (List.mem_cons_of_mem _ z)) (fun z => n2 (List.mem_cons_of_mem _ z))
          rwa [sw_ne (fun z => n1 (z ▸ List.mem_cons_self)) (fun z => n2 (z ▸ List.mem_cons_self))] at this
        · rw [rl.all, conn_add]
          exact ⟨.inl, fun z => z.elim id fun z => z.elim (fun z => absurd z.1 p1) fun z => absurd z.1 p2⟩
        · have t : turnOf p (pre ++ [e]) = turnOf p pre := by
            rw [turn_snoc, if_neg (show ¬ e.1 = p from fun z => n1 (by rw [z]; exact List.mem_cons_self)), if_neg (show ¬ e.2 = p from fun z => n2 (by rw [z]; exact List.mem_cons_self)), List.append_nil]
          rw [t]
          exact rl.turn
end Os
/-! an order's rings, as the program and the law read them -/
namespace Os
open PySem PySem.Spec PyProof.Rows L2 Evl
/-- an order of a forest's edges joins ever new trees -/
theorem order_ok {n : Nat} {es os : List Pr} (E : Edges n es) (pm : os.Perm es) : ∀ pre e post, os = pre ++ e :: post → e.1 ≠ e.2 ∧ ¬ Conn pre e.1 e.2 := by
  intro pre e post h
  have me : e ∈ es := pm.mem_iff.mp (by rw [h]; simp)
  have nd : os.Nodup := pm.nodup_iff.mpr E.nodup
  have := E.inn e me
  refine ⟨by omega, fun c => ?_⟩
  obtain ⟨S, s1, s2⟩ := E.br e me
  refine s1 (c S fun f hf => s2 f (pm.mem_iff.mp (by rw [h]; simp [hf])) fun z => ?_)
  rw [h] at nd
  exact (List.nodup_append.mp nd).2.2 f hf e List.mem_cons_self z
theorem order_rings {n : Nat} {es os : List Pr} (E : Edges n es) (pm : os.Perm es) (p : Nat) : ∃ l, RingAt os p l := rings_at (order_ok E pm) p
theorem conn_perm {es os : List Pr} (pm : os.Perm es) {x y : Nat} : Conn os x y ↔ Conn es x y := ⟨fun h S hS => h S fun f hf => hS f (pm.mem_iff.mp hf), fun h S hS => h S fun f hf => hS f (pm.mem_iff.mpr hf)⟩
/-! ### the items -/
theorem swp_at {zs : List Str} {e : Pr} {p : Nat} (h1 : e.1 < zs.length) (h2 : e.2 < zs.length) (ne : e.1 ≠ e.2) (hp : p < zs.length) : (swp zs e)[sw e p]? = zs[p]? := by
  unfold swp sw
  by_cases c1 : p = e.1
  · rw [if_pos c1, List.getElem?_set_self (by rw [List.length_set]; exact h2), List.getD_eq_getElem?_getD, c1, List.getElem?_eq_getElem h1]
    rfl
  · rw [if_neg c1]
    by_cases c2 : p = e.2
    · rw [if_pos c2, List.getElem?_set_ne (fun z => ne z.symm), List.getElem?_set_self h1, List.getD_eq_getElem?_getD, c2, List.getElem?_eq_getElem h2]
      rfl
    · rw [if_neg c2, List.getElem?_set_ne (fun z => c2 z.symm), List.getElem?_set_ne (fun z => c1 z.symm)]
theorem sw_lt {e : Pr} {n p : Nat} (h1 : e.1 < n) (h2 : e.2 < n) (hp : p < n) : sw e p < n := by
  unfold sw
  split
  · exact h2
  · split
    · exact h1
    · exact hp
theorem mvs_lt {n : Nat} : ∀ {os : List Pr} {p : Nat}, (∀ e ∈ os, e.1 < n ∧ e.2 < n) → p < n → mvs os p < n
  | [], _, _, h => h
  | e :: r, p, h, hp => by
    obtain ⟨a, b⟩ := h e List.mem_cons_self
    exact mvs_lt (os := r) (fun f hf => h f (List.mem_cons_of_mem _ hf)) (sw_lt a b hp)
theorem swps_at {n : Nat} : ∀ {os : List Pr} {zs : List Str} {p : Nat}, zs.length = n → (∀ e ∈ os, e.1 < e.2 ∧ e.2 < n) → p < n → (swps zs os)[mvs os p]? = zs[p]?
  | [], _, _, _, _, _ => rfl
  | e :: r, zs, p, hl, h, hp => by
    obtain ⟨a, b⟩ := h e List.mem_cons_self
    show (swps (swp zs e) r)[mvs r (sw e p)]? = _
    rw [swps_at (n := n) (by rw [swp_len, hl]) (fun f hf => h f (List.mem_cons_of_mem _ hf)) (sw_lt (by omega) b hp), swp_at (by omega) (by omega) (by omega) (by omega)]
theorem idx_nodup {us : List Str} {i : Nat} {z : Str} (nd : us.Nodup) (h : us[i]? = some z) : us.idxOf z = i := by
  obtain ⟨lt, e⟩ := List.getElem?_eq_some_iff.mp h
  have m : z ∈ us := List.mem_of_getElem? h
  have lt2 := List.idxOf_lt_length_iff.mpr m
  have e2 := List.getElem_idxOf lt2
  refine Decidable.byContradiction fun ne => ?_
  rcases Nat.lt_or_gt_of_ne ne with c | c
  · exact List.pairwise_iff_getElem.mp nd _ _ lt2 lt c (e2.trans e.symm)
  · exact List.pairwise_iff_getElem.mp nd _ _ lt lt2 c (e.trans e2.symm)
theorem went_at {n : Nat} {os : List Pr} {zs : List Str} {p : Nat} (hl : zs.length = n) (nd : zs.Nodup) (h : ∀ e ∈ os, e.1 < e.2 ∧ e.2 < n) (hp : p < n) : (went zs (swps zs os)).getD p 0 = mvs os p := by
  have pm : (swps zs os).Perm zs := swps_perm hl fun e he => by have := h e he; omega
  unfold went
  rw [List.getD_eq_getElem?_getD, List.getElem?_map, List.getElem?_eq_getElem (by omega)]
  show (swps zs os).idxOf zs[p] = _
  refine idx_nodup (pm.nodup_iff.mpr nd) ?_
  rw [swps_at hl h hp, List.getElem?_eq_getElem]
theorem went_ok {n : Nat} {os : List Pr} {zs : List Str} (hl : zs.length = n) (nd : zs.Nodup) (h : ∀ e ∈ os, e.1 < e.2 ∧ e.2 < n) : IsPerm (went zs (swps zs os)) n := went_perm (swps_perm hl fun e he => by have := h e he; omega) nd hl
/-! ### the rings as they are read -/
theorem ch_itr {f : List Nat} {g : Nat → Nat} {n : Nat} (p : IsPerm f n) (fg : ∀ x, x < n → f.getD x 0 = g x) {x : Nat} (hx : x < n) : ∀ {l : List Nat} {k y z : Nat}, itr f k x = y → Ch g y l z → (∀ i, i < l.length → l[i]? = some (itr f (k + 1 + i) x)) ∧ itr f (k + 1 + l.length) x = z
  | [], k, y, z, e, c => by
    refine ⟨fun i h => absurd h (Nat.not_lt_zero i), ?_⟩
    show f.getD (itr f k x) 0 = z
    rw [fg _ (itr_lt p k hx), e]
    exact c
  | a :: l, k, y, z, e, ⟨c1, c2⟩ => by
    have e2 : itr f (k + 1) x = a := by
      show f.getD (itr f k x) 0 = a
      rw [fg _ (itr_lt p k hx), e, c1]
    obtain ⟨h1, h2⟩ := ch_itr p fg hx e2 c2
    refine ⟨fun i h => ?_, ?_⟩
    · cases i with
      | zero => exact congrArg some e2.symm
      | succ i =>
        rw [List.getElem?_cons_succ, h1 i (by simpa using h), show k + 1 + 1 + i = k + 1 + (i + 1) by omega]
    · rw [List.length_cons, show k + 1 + (l.length + 1) = k + 1 + 1 + l.length by omega]
      exact h2
theorem ring_of {f : List Nat} {n : Nat} {os : List Pr} {x : Nat} {l : List Nat} (p : IsPerm f n) (fg : ∀ x, x < n → f.getD x 0 = mvs os x) (hx : x < n) (r : RingAt os x l) : ringOf f n x = x :: l := by
  obtain ⟨h1, h2⟩ := ch_itr p fg hx (k := 0) rfl r.runs
  obtain ⟨p1, p2, p3, p4⟩ := per_ok p hx
  have at' : ∀ i, i ≤ l.length → (x :: l)[i]? = some (itr f i x) := fun i hi => by
    cases i with
    | zero => rfl
    | succ i =>
      rw [List.getElem?_cons_succ, h1 i (by omega), show 0 + 1 + i = i + 1 by omega]
  have e : per f n x = l.length + 1 := by
    rcases Nat.lt_trichotomy (per f n x) (l.length + 1) with c | c | c
    · have a0 := at' 0 (Nat.zero_le _)
      have a1 := at' (per f n x) (by omega)
      rw [p3] at a1
      obtain ⟨l0, e0⟩ := List.getElem?_eq_some_iff.mp a0
      obtain ⟨l1, e1⟩ := List.getElem?_eq_some_iff.mp a1
      exact absurd (e0.trans e1.symm) (List.pairwise_iff_getElem.mp r.nd 0 _ l0 l1 (by omega))
    · exact c
    · exact absurd (by rw [show l.length + 1 = 0 + 1 + l.length by omega]; exact h2) (p4 (l.length + 1) (by omega) c)
  unfold ringOf way
  rw [e]
  refine List.ext_getElem? fun i => ?_
  by_cases hi : i ≤ l.length
  · rw [at' i hi, List.getElem?_map, List.getElem?_range (by omega)]
    rfl
  · rw [List.getElem?_eq_none (by rw [List.length_map, List.length_range]; omega), List.getElem?_eq_none (by rw [List.length_cons]; omega)]
end Os
/-! orders reversed, exchanged, and without the last edge -/
namespace Os
open PySem PySem.Spec PyProof.Rows L2 Evl
theorem sw_sw (e : Pr) (x : Nat) : sw e (sw e x) = x := by
  by_cases h1 : x = e.1
  · rw [h1, sw_one, sw_two]
  · by_cases h2 : x = e.2
    · rw [h2, sw_two, sw_one]
    · rw [sw_ne h1 h2, sw_ne h1 h2]
theorem mvs_app (os ps : List Pr) (p : Nat) : mvs (os ++ ps) p = mvs ps (mvs os p) := by
  unfold mvs
  rw [List.foldl_append]
/-- the reversed order takes the items back -/
theorem mvs_back : ∀ (os : List Pr) (p : Nat), mvs os.reverse (mvs os p) = p
  | [], _ => rfl
  | e :: r, p => by
    rw [List.reverse_cons, mvs_app]
    show sw e (mvs r.reverse (mvs r (sw e p))) = p
    rw [mvs_back r, sw_sw]
theorem mvs_back' (os : List Pr) (p : Nat) : mvs os (mvs os.reverse p) = p := by
  have := mvs_back os.reverse p
  rwa [List.reverse_reverse] at this
theorem swps_app (zs : List Str) (os ps : List Pr) : swps zs (os ++ ps) = swps (swps zs os) ps := by
  unfold swps
  rw [List.foldl_append]
theorem swps_len {zs : List Str} : ∀ {os : List Pr}, (swps zs os).length = zs.length := by
  intro os
  induction os generalizing zs with
  | nil => rfl
  | cons e r ih =>
    show (swps (swp zs e) r).length = _
    rw [ih, swp_len]
theorem swp_swp {zs : List Str} {e : Pr} (h1 : e.1 < zs.length) (h2 : e.2 < zs.length) (ne : e.1 ≠ e.2) : swp (swp zs e) e = zs := by
  refine List.ext_getElem? fun i => ?_
  by_cases hi : i < zs.length
  · have a := swp_at (zs := swp zs e) (e := e) (p := sw e i) (by rw [swp_len]; exact h1) (by rw [swp_len]; exact h2) ne (by rw [swp_len]; exact sw_lt h1 h2 hi)
    rw [sw_sw] at a
    rw [a, swp_at h1 h2 ne hi]
  · rw [List.getElem?_eq_none (by rw [swp_len, swp_len]; omega), List.getElem?_eq_none (by omega)]
/-- the reversed order gives the arrangement back -/
theorem swps_back {n : Nat} : ∀ {os : List Pr} {zs : List Str}, zs.length = n → (∀ e ∈ os, e.1 < e.2 ∧ e.2 < n) → swps (swps zs os) os.reverse = zs
  | [], _, _, _ => rfl
  | e :: r, zs, hl, h => by
    obtain ⟨a, b⟩ := h e List.mem_cons_self
    rw [List.reverse_cons, swps_app]
    show swp (swps (swps (swp zs e) r) r.reverse) e = zs
    rw [swps_back (n := n) (by rw [swp_len, hl]) fun f hf => h f (List.mem_cons_of_mem _ hf), swp_swp (by omega) (by omega) (by omega)]
/-- two swaps without a common place may be exchanged -/
theorem sw_comm {e f : Pr} (h1 : e.1 ≠ f.1) (h2 : e.1 ≠ f.2) (h3 : e.2 ≠ f.1) (h4 : e.2 ≠ f.2) (x : Nat) : sw e (sw f x) = sw f (sw e x) := by
  by_cases a1 : x = e.1
  · rw [a1, sw_one, sw_ne h1 h2, sw_one, sw_ne h3 h4]
  · by_cases a2 : x = e.2
    · rw [a2, sw_two, sw_ne h3 h4, sw_two, sw_ne h1 h2]
    · rw [sw_ne a1 a2]
      by_cases b1 : x = f.1
      · rw [b1, sw_one, sw_ne (fun z => h2 z.symm) (fun z => h4 z.symm)]
      · by_cases b2 : x = f.2
        · rw [b2, sw_two, sw_ne (fun z => h1 z.symm) (fun z => h3 z.symm)]
        · rw [sw_ne b1 b2, sw_ne a1 a2]
/-- two with exactly one common place never: the item there ends elsewhere -/
theorem sw_apart {e f : Pr} (ne : e.1 ≠ e.2) (nf : f.1 ≠ f.2) (d : ¬ ((e.1 = f.1 ∧ e.2 = f.2) ∨ (e.1 = f.2 ∧ e.2 = f.1))) (c : e.1 = f.1 ∨ e.1 = f.2 ∨ e.2 = f.1 ∨ e.2 = f.2) : ∃ x, (x = e.1 ∨ x = e.2) ∧ sw e (sw f x) ≠ sw f (sw e x) := by
  rcases c with c | c | c | c
  · refine ⟨e.1, .inl rfl, ?_⟩
    have h : e.2 ≠ f.2 := fun z => d (.inl ⟨c, z⟩)
    rw [sw_one, c, sw_one, sw_ne (fun z => nf (c ▸ z).symm) (fun z => h z.symm), sw_ne (fun z => ne (c.trans z.symm)) h]
    exact fun z => h z.symm
  · refine ⟨e.1, .inl rfl, ?_⟩
    have h : e.2 ≠ f.1 := fun z => d (.inr ⟨c, z⟩)
    rw [sw_one, c, sw_two, sw_ne (fun z => nf (by rw [z, c])) (fun z => h z.symm), sw_ne h (fun z => ne (c.trans z.symm))]
    exact fun z => h z.symm
  · refine ⟨e.2, .inr rfl, ?_⟩
    have h : e.1 ≠ f.2 := fun z => d (.inr ⟨z, c⟩)
    rw [sw_two, c, sw_one, sw_ne (fun z => h z.symm) (fun z => nf (by rw [z, c])), sw_ne (fun z => ne (z.trans c.symm)) h]
    exact fun z => h z.symm
  · refine ⟨e.2, .inr rfl, ?_⟩
    have h : e.1 ≠ f.1 := fun z => d (.inl ⟨z, c⟩)
    rw [sw_two, c, sw_two, sw_ne (fun z => h z.symm) (fun z => nf (by rw [z, c])), sw_ne h (fun z => ne (z.trans c.symm))]
    exact fun z => h z.symm
/-! ### a place has one ring -/
theorem Ch.one {f : Nat → Nat} : ∀ {l m : List Nat} {x y : Nat}, Ch f x l y → Ch f x m y → y ∉ l → y ∉ m → l = m
  | [], [], _, _, _, _, _, _ => rfl
  | [], b :: m, x, y, h, ⟨k, _⟩, _, n => absurd (by rw [← (show f x = y from h), k]; exact List.mem_cons_self) n
  | a :: l, [], x, y, ⟨h, _⟩, k, n, _ => absurd (by rw [← (show f x = y from k), h]; exact List.mem_cons_self) n
  | a :: l, b :: m, x, y, ⟨h1, h2⟩, ⟨k1, k2⟩, n1, n2 => by
    have e : a = b := h1.symm.trans k1
    subst e
    rw [Ch.one h2 k2 (fun z => n1 (List.mem_cons_of_mem _ z)) fun z => n2 (List.mem_cons_of_mem _ z)]
theorem RingAt.one {os : List Pr} {p : Nat} {l m : List Nat} (h : RingAt os p l) (k : RingAt os p m) : l = m :=
  Ch.one h.runs k.runs (List.nodup_cons.mp h.nd).1 (List.nodup_cons.mp k.nd).1
/-- the last edge joins two rings -/
theorem last_joins {pre : List Pr} {e : Pr} {u v w : List Nat} (nc : ¬ Conn pre e.1 e.2) (ru : RingAt pre e.1 u) (rv : RingAt pre e.2 v) (rw' : RingAt (pre ++ [e]) e.1 w) : w = u ++ e.2 :: v := by
  have au : e.1 ∉ u := (List.nodup_cons.mp ru.nd).1
  have bv : e.2 ∉ v := (List.nodup_cons.mp rv.nd).1
  have bu : e.2 ∉ u := fun z => nc ((ru.all _).mp (List.mem_cons_of_mem _ z))
  have av : e.1 ∉ v := fun z => nc ((rv.all _).mp (List.mem_cons_of_mem _ z)).symm
  have c1 := ru.runs.sw au bu
  have c2 := rv.runs.sw av bv
  rw [sw_one] at c1
  rw [sw_two] at c2
  exact Ch.one rw'.runs (Ch.app.mpr ⟨c1, c2⟩) (List.nodup_cons.mp rw'.nd).1 fun z => by
    rcases List.mem_append.mp z with z | z
    · exact au z
    · rcases List.mem_cons.mp z with z | z
      · exact nc (z ▸ .refl _ _)
      · exact av z
end Os
/-! no two edges of an order cross on its rings -/
namespace Os
open PySem PySem.Spec PyProof.Rows L2 Evl
/-- of two pairs of places the first begins, then the second, then the first ends, then the second -/
def Cr (i1 i2 j1 j2 : Nat) : Prop := min i1 i2 < min j1 j2 ∧ min j1 j2 < max i1 i2 ∧ max i1 i2 < max j1 j2
theorem cr_turn {k n i1 i2 j1 j2 : Nat} (h1 : i1 < k + n) (h2 : i2 < k + n) (h3 : j1 < k + n) (h4 : j2 < k + n) (a : ¬ Cr i1 i2 j1 j2) (b : ¬ Cr j1 j2 i1 i2) :
    ¬ Cr (if i1 < k then i1 + n else i1 - k) (if i2 < k then i2 + n else i2 - k) (if j1 < k then j1 + n else j1 - k) (if j2 < k then j2 + n else j2 - k) := by
  unfold Cr at *
  split <;> split <;> split <;> split <;> omega
/-- no two edges that lie on m cross there -/
def NoCr (m : List Nat) (es : List Pr) : Prop := ∀ e ∈ es, ∀ f ∈ es, e.1 ∈ m → e.2 ∈ m → f.1 ∈ m → f.2 ∈ m → ¬ Cr (m.idxOf e.1) (m.idxOf e.2) (m.idxOf f.1) (m.idxOf f.2)
theorem idx_turn {U V : List Nat} {x : Nat} (nd : (U ++ V).Nodup) (h : x ∈ U ++ V) : (V ++ U).idxOf x = if (U ++ V).idxOf x < U.length then (U ++ V).idxOf x + V.length else (U ++ V).idxOf x - U.length := by
  rw [List.idxOf_append, List.idxOf_append]
  by_cases hu : x ∈ U
  · have hv : x ∉ V := fun z => (List.nodup_append.mp nd).2.2 x hu x z rfl
    rw [if_pos hu, if_neg hv, if_pos (List.idxOf_lt_length_iff.mpr hu)]
  · have hv : x ∈ V := (List.mem_append.mp h).resolve_left hu
    rw [if_neg hu, if_pos hv, if_neg (by omega)]
    omega
theorem NoCr.turn {U V : List Nat} {es : List Pr} (nd : (U ++ V).Nodup) (h : NoCr (U ++ V) es) : NoCr (V ++ U) es := fun e he f hf m1 m2 m3 m4 => by
  have sw' : ∀ {x : Nat}, x ∈ V ++ U → x ∈ U ++ V := fun z => (List.mem_append.mp z).elim (fun z => List.mem_append_right _ z) fun z => List.mem_append_left _ z
  have lt : ∀ {x : Nat}, x ∈ U ++ V → (U ++ V).idxOf x < U.length + V.length := fun z => by
    have := List.idxOf_lt_length_iff.mpr z
    rwa [List.length_append] at this
  rw [idx_turn nd (sw' m1), idx_turn nd (sw' m2), idx_turn nd (sw' m3), idx_turn nd (sw' m4)]
  exact cr_turn (lt (sw' m1)) (lt (sw' m2)) (lt (sw' m3)) (lt (sw' m4)) (h e he f hf (sw' m1) (sw' m2) (sw' m3) (sw' m4)) (h f hf e he (sw' m3) (sw' m4) (sw' m1) (sw' m2))
theorem no_cross : ∀ {os : List Pr}, (∀ pre e post, os = pre ++ e :: post → e.1 ≠ e.2 ∧ ¬ Conn pre e.1 e.2) → ∀ {p : Nat} {l : List Nat}, RingAt os p l → NoCr (p :: l) os := by
  intro os
  generalize hn : os.length = n
  induction n generalizing os with
  | zero =>
    intro _ p l _ e he
    rw [List.length_eq_zero_iff.mp hn] at he
    cases he
  | succ n ih =>
    intro h p l r
    have ne : os ≠ [] := fun z => by rw [z] at hn; cases hn
    obtain ⟨pre, e, rfl⟩ : ∃ pre e, os = pre ++ [e] := ⟨os.dropLast, os.getLast ne, (List.dropLast_concat_getLast ne).symm⟩
    obtain ⟨ab, nc⟩ := h pre e [] rfl
    have hpre : ∀ p1 f p2, pre = p1 ++ f :: p2 → f.1 ≠ f.2 ∧ ¬ Conn p1 f.1 f.2 := fun p1 f p2 q => h p1 f (p2 ++ [e]) (by rw [q, List.append_assoc]; rfl)
    have ih : ∀ {p : Nat} {l : List Nat}, RingAt pre p l → NoCr (p :: l) pre := ih (os := pre) (by rw [List.length_append] at hn; simpa using hn) hpre
    by_cases c : Conn (pre ++ [e]) p e.1
    · -- the joined ring
      obtain ⟨u, ru⟩ := rings_at hpre e.1
      obtain ⟨v, rv⟩ := rings_at hpre e.2
      obtain ⟨w, rw'⟩ := rings_at h e.1
      have ew := last_joins nc ru rv rw'
      subst ew
      have sep : ∀ {x : Nat}, x ∈ e.1 :: u → x ∉ e.2 :: v := fun hx hy => nc (((ru.all _).mp hx).trans ((rv.all _).mp hy).symm)
      have same : ∀ f ∈ pre, f.1 ∈ (e.1 :: u) ++ (e.2 :: v) → (f.1 ∈ e.1 :: u ∧ f.2 ∈ e.1 :: u) ∨ (f.1 ∈ e.2 :: v ∧ f.2 ∈ e.2 :: v) := fun f hf m => by
        rcases List.mem_append.mp m with m | m
        · exact .inl ⟨m, (ru.all _).mpr (((ru.all _).mp m).trans (.edge hf))⟩
        · exact .inr ⟨m, (rv.all _).mpr (((rv.all _).mp m).trans (.edge hf))⟩
      have i1 : ∀ {x : Nat}, x ∈ e.1 :: u → ((e.1 :: u) ++ (e.2 :: v)).idxOf x = (e.1 :: u).idxOf x ∧ (e.1 :: u).idxOf x < u.length + 1 := fun hx => ⟨by rw [List.idxOf_append, if_pos hx], List.idxOf_lt_length_iff.mpr hx⟩
      have i2 : ∀ {x : Nat}, x ∈ e.2 :: v → ((e.1 :: u) ++ (e.2 :: v)).idxOf x = (e.2 :: v).idxOf x + (u.length + 1) := fun hx => by
        rw [List.idxOf_append, if_neg fun z => sep z hx]
        rfl
      have ia : ((e.1 :: u) ++ (e.2 :: v)).idxOf e.1 = 0 := by
        rw [(i1 List.mem_cons_self).1, List.idxOf_cons_self]
      have ib : ((e.1 :: u) ++ (e.2 :: v)).idxOf e.2 = u.length + 1 := by
        rw [i2 List.mem_cons_self, List.idxOf_cons_self, Nat.zero_add]
      have joined : NoCr ((e.1 :: u) ++ (e.2 :: v)) (pre ++ [e]) := fun f hf g hg m1 m2 m3 m4 => by
        rcases List.mem_append.mp hf with hf | hf
        · rcases List.mem_append.mp hg with hg | hg
          · rcases same f hf m1 with ⟨f1, f2⟩ | ⟨f1, f2⟩
            · rcases same g hg m3 with ⟨g1, g2⟩ | ⟨g1, g2⟩
              · rw [(i1 f1).1, (i1 f2).1, (i1 g1).1, (i1 g2).1]
                exact ih ru f hf g hg f1 f2 g1 g2
              · rw [(i1 f1).1, (i1 f2).1, i2 g1, i2 g2]
                have := (i1 f1).2
                have := (i1 f2).2
                unfold Cr
                omega
            · rcases same g hg m3 with ⟨g1, g2⟩ | ⟨g1, g2⟩
              · rw [i2 f1, i2 f2, (i1 g1).1, (i1 g2).1]
                have := (i1 g1).2
                have := (i1 g2).2
                unfold Cr
                omega
              · rw [i2 f1, i2 f2, i2 g1, i2 g2]
                have := ih rv f hf g hg f1 f2 g1 g2
                unfold Cr at *
                omega
          · have eg := List.mem_singleton.mp hg
            subst eg
            rw [ia, ib]
            unfold Cr
            omega
        · have ef := List.mem_singleton.mp hf
          subst ef
          rcases List.mem_append.mp hg with hg | hg
          · rw [ia, ib]
            rcases same g hg m3 with ⟨g1, g2⟩ | ⟨g1, g2⟩
            · rw [(i1 g1).1, (i1 g2).1]
              have := (i1 g1).2
              have := (i1 g2).2
              unfold Cr
              omega
            · rw [i2 g1, i2 g2]
              unfold Cr
              omega
          · have eg := List.mem_singleton.mp hg
            rw [eg]
            unfold Cr
            omega
      have m1 := (r.all e.1).mpr c
      by_cases pe : p = e.1
      · subst pe
        rw [r.one rw']
        exact joined
      · have al : e.1 ∈ l := (List.mem_cons.mp m1).resolve_left fun z => pe z.symm
        obtain ⟨l1, l2, rfl⟩ := List.append_of_mem al
        have nd2 : (e.1 :: l2 ++ p :: l1).Nodup := by
          have h1 : (p :: l1 ++ e.1 :: l2).Perm (e.1 :: l2 ++ p :: l1) := List.perm_append_comm
          exact h1.nodup_iff.mp r.nd
        have ew : u ++ e.2 :: v = l2 ++ p :: l1 := Ch.one rw'.runs r.runs.turn (List.nodup_cons.mp rw'.nd).1 (List.nodup_cons.mp nd2).1
        have j2 : NoCr (e.1 :: l2 ++ p :: l1) (pre ++ [e]) := by
          have : (e.1 :: u) ++ (e.2 :: v) = e.1 :: l2 ++ p :: l1 := by
            rw [List.cons_append, ew, List.cons_append]
          rw [← this]
          exact joined
        exact NoCr.turn nd2 j2
    · have c2 : ¬ Conn (pre ++ [e]) p e.2 := fun z => c (z.trans (Conn.edge (show e ∈ pre ++ [e] by simp)).symm)
      have n1 : e.1 ∉ p :: l := fun z => c ((r.all _).mp z)
      have n2 : e.2 ∉ p :: l := fun z => c2 ((r.all _).mp z)
      obtain ⟨l', r'⟩ := rings_at hpre p
      have d1 : ¬ Conn pre p e.1 := fun z => c z.more
      have d2 : ¬ Conn pre p e.2 := fun z => c2 z.more
      have k1 : e.1 ∉ p :: l' := fun z => d1 ((r'.all _).mp z)
      have k2 : e.2 ∉ p :: l' := fun z => d2 ((r'.all _).mp z)
      have ch : Ch (mvs (pre ++ [e])) p l' p := by
        have := r'.runs.sw (fun z => k1 (List.mem_cons_of_mem _ z)) (fun z => k2 (List.mem_cons_of_mem _ z))
        rwa [sw_ne (fun z => k1 (z ▸ List.mem_cons_self)) (fun z => k2 (z ▸ List.mem_cons_self))] at this
      have el : l = l' := Ch.one r.runs ch (List.nodup_cons.mp r.nd).1 (List.nodup_cons.mp r'.nd).1
      subst el
      intro f hf g hg m1 m2 m3 m4
      have inp : ∀ f ∈ pre ++ [e], f.1 ∈ p :: l → f ∈ pre := fun f hf m => by
        rcases List.mem_append.mp hf with hf | hf
        · exact hf
        · rw [List.mem_singleton.mp hf] at m
          exact absurd m n1
      exact ih r' f (inp f hf m1) g (inp g hg m3) m1 m2 m3 m4
end Os
/-! where an item ends, from the turns alone -/
namespace Os
open PySem PySem.Spec PyProof.Rows L2 Evl
/-- an item that came from y (or began) at x ends at z, if tn are the turns -/
inductive Goes (tn : Nat → List Nat) : Option Nat → Nat → Nat → Prop
  | stay {x : Nat} : tn x = [] → Goes tn none x x
  | stop {x y : Nat} {A : List Nat} : tn x = A ++ [y] → Goes tn (some y) x x
  | first {x b z : Nat} {B : List Nat} : tn x = b :: B → Goes tn (some x) b z → Goes tn none x z
  | next {x y b z : Nat} {A B : List Nat} : tn x = A ++ y :: b :: B → Goes tn (some x) b z → Goes tn (some y) x z
theorem Goes.snoc {os : List Pr} {e : Pr} (ab : e.1 ≠ e.2) {s : Option Nat} {x z : Nat} (h : Goes (fun p => turnOf p os) s x z) : Goes (fun p => turnOf p (os ++ [e])) s x (sw e z) := by
  have tA : turnOf e.1 (os ++ [e]) = turnOf e.1 os ++ [e.2] := by rw [turn_snoc, if_pos rfl]
  have tB : turnOf e.2 (os ++ [e]) = turnOf e.2 os ++ [e.1] := by rw [turn_snoc, if_neg ab, if_pos rfl]
  have tO : ∀ {x : Nat}, x ≠ e.1 → x ≠ e.2 → turnOf x (os ++ [e]) = turnOf x os := fun h1 h2 => by
    rw [turn_snoc, if_neg (fun z => h1 z.symm), if_neg (fun z => h2 z.symm), List.append_nil]
  have more : ∀ x, ∃ E, turnOf x (os ++ [e]) = turnOf x os ++ E := fun x => ⟨_, turn_snoc os e x⟩
  induction h with
  | @stay x h =>
    have h : turnOf x os = [] := h
    by_cases h1 : x = e.1
    · subst h1
      rw [sw_one]
      exact .first (B := []) (by show turnOf _ _ = _; rw [tA, h]; rfl) (.stop (A := turnOf e.2 os) tB)
    · by_cases h2 : x = e.2
      · subst h2
        rw [sw_two]
        exact .first (B := []) (by show turnOf _ _ = _; rw [tB, h]; rfl) (.stop (A := turnOf e.1 os) tA)
      · rw [sw_ne h1 h2]
        exact .stay (by show turnOf _ _ = _; rw [tO h1 h2, h])
  | @stop x y A h =>
    have h : turnOf x os = A ++ [y] := h
    by_cases h1 : x = e.1
    · subst h1
      rw [sw_one]
      exact .next (A := A) (B := []) (by show turnOf _ _ = _; rw [tA, h, List.append_assoc]; rfl) (.stop (A := turnOf e.2 os) tB)
    · by_cases h2 : x = e.2
      · subst h2
        rw [sw_two]
        exact .next (A := A) (B := []) (by show turnOf _ _ = _; rw [tB, h, List.append_assoc]; rfl) (.stop (A := turnOf e.1 os) tA)
      · rw [sw_ne h1 h2]
        exact .stop (A := A) (by show turnOf _ _ = _; rw [tO h1 h2, h])
  | @first x b z B h _ ih =>
    obtain ⟨E, hE⟩ := more x
    exact .first (B := B ++ E) (by show turnOf _ _ = _; rw [hE, show turnOf x os = b :: B from h]; rfl) ih
  | @next x y b z A B h _ ih =>
    obtain ⟨E, hE⟩ := more x
    exact .next (A := A) (B := B ++ E) (by show turnOf _ _ = _; rw [hE, show turnOf x os = A ++ y :: b :: B from h, List.append_assoc]; rfl) ih
/-- the item of a place ends where its way by the turns ends -/
theorem goes_mvs : ∀ {os : List Pr}, (∀ e ∈ os, e.1 ≠ e.2) → ∀ p, Goes (fun p => turnOf p os) none p (mvs os p) := by
  intro os
  generalize hn : os.length = n
  induction n generalizing os with
  | zero =>
    intro _ p
    rw [List.length_eq_zero_iff.mp hn]
    exact .stay rfl
  | succ n ih =>
    intro h p
    have ne : os ≠ [] := fun z => by rw [z] at hn; cases hn
    obtain ⟨pre, e, rfl⟩ : ∃ pre e, os = pre ++ [e] := ⟨os.dropLast, os.getLast ne, (List.dropLast_concat_getLast ne).symm⟩
    rw [mvs_snoc]
    exact (ih (os := pre) (by rw [List.length_append] at hn; simpa using hn) (fun f hf => h f (List.mem_append_left _ hf)) p).snoc (h e (by simp))
theorem split_one {α : Type} {A A' : List α} {y : α} {R R' : List α} (nd : (A ++ y :: R).Nodup) (h : A ++ y :: R = A' ++ y :: R') : R = R' := by
  induction A generalizing A' with
  | nil =>
    cases A' with
    | nil => exact (List.cons.inj h).2
    | cons a A' =>
      obtain ⟨e1, e2⟩ := List.cons.inj (show y :: R = a :: (A' ++ y :: R') from h)
      have nd' : (y :: R).Nodup := nd
      exact absurd (by rw [e2]; simp) (List.nodup_cons.mp nd').1
  | cons a A ih =>
    cases A' with
    | nil =>
      obtain ⟨e1, e2⟩ := List.cons.inj (show a :: (A ++ y :: R) = y :: R' from h)
      have nd' : (a :: (A ++ y :: R)).Nodup := nd
      exact absurd (by rw [e1]; simp) (List.nodup_cons.mp nd').1
    | cons a' A' =>
      have nd' : (a :: (A ++ y :: R)).Nodup := nd
      exact ih (List.nodup_cons.mp nd').2 (List.cons.inj (show a :: (A ++ y :: R) = a' :: (A' ++ y :: R') from h)).2
/-- the way is the only one -/
theorem Goes.one {tn : Nat → List Nat} (nd : ∀ x, (tn x).Nodup) {s : Option Nat} {x z w : Nat} (h : Goes tn s x z) (k : Goes tn s x w) : z = w := by
  induction h with
  | stay h =>
    cases k with
    | stay _ => rfl
    | first k _ => rw [h] at k; cases k
  | @stop x y A h =>
    cases k with
    | stop _ => rfl
    | @next _ _ b _ A' B k _ =>
      have n0 := nd x
      rw [h] at n0 k
      cases split_one n0 k
  | @first x b z B h _ ih =>
    cases k with
    | stay k => rw [k] at h; cases h
    | first k k2 =>
      rw [h] at k
      cases k
      exact ih k2
  | @next x y b z A B h _ ih =>
    have n0 := nd x
    rw [h] at n0
    cases k with
    | @stop _ _ A' k =>
      rw [h] at k
      cases split_one n0 k
    | @next _ _ b' _ A' B' k k2 =>
      rw [h] at k
      cases split_one n0 k
      exact ih k2
end Os
/-! an outcome belongs to its turns -/
namespace Os
open PySem PySem.Spec PyProof.Rows L2 Evl
theorem turn_perm {os es : List Pr} (pm : os.Perm es) (p : Nat) : (turnOf p os).Perm (turnOf p es) := pm.filterMap _
theorem turn_rev (os : List Pr) (p : Nat) : turnOf p os.reverse = (turnOf p os).reverse := by
  unfold turnOf
  rw [List.filterMap_reverse]
theorem RingAt.nodup {os : List Pr} {p : Nat} {l : List Nat} (r : RingAt os p l) : (turnOf p os).Nodup := by
  rw [← r.turn]
  exact (List.nodup_cons.mp r.nd).2.filter _
theorem turn_nodup {n : Nat} {es os : List Pr} (E : Edges n es) (pm : os.Perm es) (p : Nat) : (turnOf p os).Nodup := by
  obtain ⟨l, r⟩ := order_rings E pm p
  exact r.nodup
theorem order_ne {n : Nat} {es os : List Pr} (E : Edges n es) (pm : os.Perm es) : ∀ e ∈ os, e.1 ≠ e.2 := fun e he => by
  have := E.inn e (pm.mem_iff.mp he)
  omega
/-- two orders move the items alike exactly if they have the same turns -/
theorem same_turns {n : Nat} {es os os' : List Pr} (E : Edges n es) (pm : os.Perm es) (pm' : os'.Perm es) : (∀ p, mvs os p = mvs os' p) ↔ ∀ p, turnOf p os = turnOf p os' := by
  constructor
  · intro h p
    have hf : mvs os = mvs os' := funext h
    obtain ⟨l, r⟩ := order_rings E pm p
    obtain ⟨l', r'⟩ := order_rings E pm' p
    have c := r.runs
    rw [hf] at c
    have e : l = l' := Ch.one c r'.runs (List.nodup_cons.mp r.nd).1 (List.nodup_cons.mp r'.nd).1
    rw [← r.turn, ← r'.turn, e]
    exact filter_like fun x _ => decide_eq_decide.mpr ((turn_perm (pm.trans pm'.symm) p).mem_iff)
  · intro h p
    have g := goes_mvs (order_ne E pm) p
    have g' := goes_mvs (order_ne E pm') p
    rw [← (funext h : (fun p => turnOf p os) = fun p => turnOf p os')] at g'
    exact Goes.one (fun x => turn_nodup E pm x) g g'
/-- two orders give the same arrangement exactly if they move the items alike -/
theorem same_swps {n : Nat} {os os' : List Pr} {zs : List Str} (hl : zs.length = n) (nd : zs.Nodup) (h : ∀ e ∈ os, e.1 < e.2 ∧ e.2 < n) (h' : ∀ e ∈ os', e.1 < e.2 ∧ e.2 < n) : swps zs os = swps zs os' ↔ ∀ p, p < n → mvs os p = mvs os' p := by
  constructor
  · intro e p hp
    rw [← went_at hl nd h hp, ← went_at hl nd h' hp, e]
  · intro e
    refine List.ext_getElem? fun i => ?_
    by_cases hi : i < n
    · have b := mvs_back' os i
      have lt : mvs os.reverse i < n := mvs_lt (fun f hf => by have := h f (List.mem_reverse.mp hf); omega) hi
      have a1 := swps_at (os := os) hl h lt
      have a2 := swps_at (os := os') hl h' lt
      rw [b] at a1
      rw [← e _ lt, b] at a2
      rw [a1, a2]
    · rw [List.getElem?_eq_none (by rw [swps_len]; omega), List.getElem?_eq_none (by rw [swps_len]; omega)]
/-- places beyond the forest's stay -/
theorem mvs_out {n : Nat} : ∀ {os : List Pr} {p : Nat}, (∀ e ∈ os, e.1 < n ∧ e.2 < n) → n ≤ p → mvs os p = p
  | [], _, _, _ => rfl
  | e :: r, p, h, hp => by
    obtain ⟨a, b⟩ := h e List.mem_cons_self
    show mvs r (sw e p) = p
    rw [sw_ne (by omega) (by omega), mvs_out (os := r) (fun f hf => h f (List.mem_cons_of_mem _ hf)) hp]
/-- an order produces the arrangement of another one exactly if it has the same turns -/
theorem same_outcome {n : Nat} {es os os' : List Pr} {zs : List Str} (E : Edges n es) (pm : os.Perm es) (pm' : os'.Perm es) (hl : zs.length = n) (nd : zs.Nodup) : swps zs os = swps zs os' ↔ ∀ p, turnOf p os = turnOf p os' := by
  have h : ∀ e ∈ os, e.1 < e.2 ∧ e.2 < n := fun e he => E.inn e (pm.mem_iff.mp he)
  have h' : ∀ e ∈ os', e.1 < e.2 ∧ e.2 < n := fun e he => E.inn e (pm'.mem_iff.mp he)
  rw [same_swps hl nd h h', ← same_turns E pm pm']
  constructor
  · intro k p
    by_cases hp : p < n
    · exact k p hp
    · rw [mvs_out (n := n) (fun e he => by have := h e he; omega) (by omega), mvs_out (n := n) (fun e he => by have := h' e he; omega) (by omega)]
  · exact fun k p _ => k p
end Os
/-! every choice of turns belongs to an order -/
namespace Os
open PySem PySem.Spec PyProof.Rows L2 Evl
def Ends2 (e : Pr) (a b : Nat) : Prop := (e.1 = a ∧ e.2 = b) ∨ (e.1 = b ∧ e.2 = a)
theorem Ends2.symm {e : Pr} {a b : Nat} (h : Ends2 e a b) : Ends2 e b a := h.elim .inr .inl
theorem mem_turn {es : List Pr} {a b : Nat} : b ∈ turnOf a es → ∃ e ∈ es, Ends2 e a b := fun h => by
  obtain ⟨e, he, h⟩ := List.mem_filterMap.mp h
  split at h
  · rename_i h1
    cases h
    exact ⟨e, he, .inl ⟨h1, rfl⟩⟩
  · split at h
    · rename_i h1
      cases h
      exact ⟨e, he, .inr ⟨rfl, h1⟩⟩
    · cases h
theorem turn_mem {es : List Pr} {e : Pr} (he : e ∈ es) (ne : e.1 ≠ e.2) {a b : Nat} (h : Ends2 e a b) : b ∈ turnOf a es := by
  refine List.mem_filterMap.mpr ⟨e, he, ?_⟩
  rcases h with ⟨h1, h2⟩ | ⟨h1, h2⟩
  · rw [if_pos h1, h2]
  · rw [if_neg (fun z => ne (z.trans h2.symm)), if_pos h2, h1]
theorem ends_one {n : Nat} {es : List Pr} (E : Edges n es) {e f : Pr} (he : e ∈ es) (hf : f ∈ es) {a b : Nat} (h : Ends2 e a b) (k : Ends2 f a b) : e = f := by
  have := E.inn e he
  have := E.inn f hf
  rcases h with ⟨h1, h2⟩ | ⟨h1, h2⟩ <;> rcases k with ⟨k1, k2⟩ | ⟨k1, k2⟩
  · exact Prod.ext (h1.trans k1.symm) (h2.trans k2.symm)
  · omega
  · omega
  · exact Prod.ext (h1.trans k1.symm) (h2.trans k2.symm)
/-- an edge that is last at both its ends -/
theorem last_both {n : Nat} {es : List Pr} (E : Edges n es) {last : Nat → Nat} (hl : ∀ a b, b ∈ turnOf a es → last a ∈ turnOf a es) : ∀ (m a : Nat) (e : Pr) (S : Nat → Bool), e ∈ es → Ends2 e a (last a) → S (last a) = true → S a = false → (∀ f ∈ es, f ≠ e → S f.1 = S f.2) → ((List.range n).filter S).length ≤ m →
    ∃ f ∈ es, ∃ c, Ends2 f c (last c) ∧ last (last c) = c := by
  intro m
  induction m with
  | zero =>
    intro a e S he en sb sa _ hm
    have hb : last a < n := by
      have := E.inn e he
      rcases en with ⟨_, h⟩ | ⟨h, _⟩ <;> omega
    have : last a ∈ (List.range n).filter S := List.mem_filter.mpr ⟨List.mem_range.mpr hb, sb⟩
    have := List.length_pos_of_mem this
    omega
  | succ m ih =>
    intro a e S he en sb sa rs hm
    have ein := E.inn e he
    by_cases q : last (last a) = a
    · exact ⟨e, he, a, en, q⟩
    · have hba : a ∈ turnOf (last a) es := turn_mem he (by omega) en.symm
      obtain ⟨g, hg, gn⟩ := mem_turn (hl _ _ hba)
      have ge : g ≠ e := fun z => by
        subst z
        rcases en with ⟨h1, h2⟩ | ⟨h1, h2⟩ <;> rcases gn with ⟨k1, k2⟩ | ⟨k1, k2⟩
        · omega
        · exact q (k1.symm.trans h1)
        · exact q (k2.symm.trans h2)
        · omega
      obtain ⟨T, t1, t2⟩ := E.br g hg
      have tbc : T (last a) ≠ T (last (last a)) := fun z => t1 (by
        rcases gn with ⟨k1, k2⟩ | ⟨k1, k2⟩
        · rw [k1, k2, z]
        · rw [k1, k2, z])
      have sc : S (last (last a)) = true := by
        have := rs g hg ge
        rcases gn with ⟨k1, k2⟩ | ⟨k1, k2⟩
        · rw [k1, k2] at this
          rw [← this, sb]
        · rw [k1, k2] at this
          rw [this, sb]
      refine ih (last a) g (fun x => S x && (T x == T (last (last a)))) hg gn ?_ ?_ (fun f hf fg => ?_) ?_
      · show (S _ && (T _ == T _)) = true
        rw [sc, beq_self_eq_true]
        rfl
      · show (S _ && (T _ == T _)) = false
        rw [beq_eq_false_iff_ne.mpr tbc, Bool.and_false]
      · show (S _ && (T _ == T _)) = (S _ && (T _ == T _))
        by_cases fe : f = e
        · subst fe
          rcases en with ⟨h1, h2⟩ | ⟨h1, h2⟩
          · rw [h1, h2, sa, beq_eq_false_iff_ne.mpr tbc, Bool.false_and, Bool.and_false]
          · rw [h1, h2, sa, beq_eq_false_iff_ne.mpr tbc, Bool.false_and, Bool.and_false]
        · rw [rs f hf fe, t2 f hf fg]
      · have hb : last a < n := by
          rcases en with ⟨_, h⟩ | ⟨h, _⟩ <;> omega
        have e1 : (List.range n).filter (fun x => S x && (T x == T (last (last a)))) = ((List.range n).filter S).filter fun x => T x == T (last (last a)) := by
          rw [List.filter_filter]
          exact List.filter_congr fun x _ => Bool.and_comm _ _
        have lt : (((List.range n).filter S).filter fun x => T x == T (last (last a))).length < ((List.range n).filter S).length := by
          refine Nat.lt_of_le_of_ne (List.length_filter_le _ _) fun z => ?_
          have := List.length_filter_eq_length_iff.mp z (last a) (List.mem_filter.mpr ⟨List.mem_range.mpr hb, sb⟩)
          exact tbc (eq_of_beq this)
        rw [e1]
        omega
theorem Bridges.sub {es fs : List Pr} (h : Bridges es) (s : ∀ e ∈ fs, e ∈ es) : Bridges fs := fun e he => by
  obtain ⟨S, h1, h2⟩ := h e (s e he)
  exact ⟨S, h1, fun f hf => h2 f (s f hf)⟩
theorem Edges.erase {n : Nat} {es : List Pr} (E : Edges n es) (f : Pr) : Edges n (es.erase f) :=
  ⟨fun e he => E.inn e (List.mem_of_mem_erase he), E.asc.sublist List.erase_sublist, E.br.sub fun e he => List.mem_of_mem_erase he⟩
def lastOf (tn : Nat → List Nat) (a : Nat) : Nat := (tn a).getLast?.getD 0
theorem last_split {l : List Nat} (h : l ≠ []) : l = l.dropLast ++ [l.getLast?.getD 0] := by
  rw [List.getLast?_eq_some_getLast h]
  exact (List.dropLast_concat_getLast h).symm
/-- every choice of turns belongs to an order -/
theorem turns_order : ∀ {n : Nat} {es : List Pr}, Edges n es → ∀ tn : Nat → List Nat, (∀ p, (tn p).Perm (turnOf p es)) → ∃ os, os.Perm es ∧ ∀ p, turnOf p os = tn p := by
  intro n es
  generalize hk : es.length = k
  induction k generalizing es with
  | zero =>
    intro _ tn h
    have e0 := List.length_eq_zero_iff.mp hk
    subst e0
    exact ⟨[], List.Perm.refl _, fun p => (List.perm_nil.mp (h p)).symm⟩
  | succ k ih =>
    intro E tn h
    have hl : ∀ a b, b ∈ turnOf a es → lastOf tn a ∈ turnOf a es := fun a b hb => by
      have hb' := (h a).mem_iff.mpr hb
      have ne : tn a ≠ [] := fun z => by rw [z] at hb'; cases hb'
      refine (h a).mem_iff.mp ?_
      have := last_split ne
      rw [this]
      exact List.mem_append_right _ (List.mem_singleton.mpr rfl)
    obtain ⟨e0, r, e1⟩ : ∃ e r, es = e :: r := by
      cases es with
      | nil => cases hk
      | cons e r => exact ⟨e, r, rfl⟩
    have m0 : e0 ∈ es := by rw [e1]; exact List.mem_cons_self
    have i0 := E.inn e0 m0
    have t0 : e0.2 ∈ turnOf e0.1 es := turn_mem m0 (by omega) (.inl ⟨rfl, rfl⟩)
    obtain ⟨g, hg, gn⟩ := mem_turn (hl _ _ t0)
    have gi := E.inn g hg
    obtain ⟨S, s1, s2⟩ := E.br g hg
    have sab : S e0.1 ≠ S (lastOf tn e0.1) := fun z => s1 (by
      rcases gn with ⟨k1, k2⟩ | ⟨k1, k2⟩
      · rw [k1, k2, z]
      · rw [k1, k2, z])
    obtain ⟨f, hf, c, fn, fl⟩ : ∃ f ∈ es, ∃ c, Ends2 f c (lastOf tn c) ∧ lastOf tn (lastOf tn c) = c := by
      refine last_both E hl _ e0.1 g (fun x => S x == S (lastOf tn e0.1)) hg gn (beq_self_eq_true _) (beq_eq_false_iff_ne.mpr sab) (fun f hf ne => ?_) (Nat.le_refl _)
      show (S _ == S _) = (S _ == S _)
      rw [s2 f hf ne]
    have fi := E.inn f hf
    have pmf : es.Perm (es.erase f ++ [f]) := (List.perm_cons_erase hf).trans (List.perm_append_comm (l₁ := [f]))
    have cd : c ≠ lastOf tn c := fun z => by
      rcases fn with ⟨k1, k2⟩ | ⟨k1, k2⟩ <;> omega
    have tsn : ∀ (os : List Pr) (p : Nat), turnOf p (os ++ [f]) = turnOf p os ++ (if p = c then [lastOf tn c] else if p = lastOf tn c then [c] else []) := fun os p => by
      rw [turn_snoc]
      congr 1
      rcases fn with ⟨k1, k2⟩ | ⟨k1, k2⟩
      · rw [k1, k2]
        simp only [eq_comm (a := p)]
      · rw [k1, k2]
        simp only [eq_comm (a := p)]
        by_cases h1 : c = p
        · rw [if_neg (fun z => cd (h1.trans z.symm)), if_pos h1, if_pos h1]
        · rw [if_neg h1, if_neg h1]
    have nonempty : ∀ {a : Nat}, a = c ∨ a = lastOf tn c → tn a ≠ [] := fun ha z => by
      have hm : ∀ {x y : Nat}, Ends2 f x y → tn x ≠ [] := fun en z => by
        have := (h _).mem_iff.mpr (turn_mem hf (by omega) en)
        rw [z] at this
        cases this
      rcases ha with rfl | rfl
      · exact hm fn z
      · exact hm fn.symm z
    obtain ⟨os, po, ho⟩ := ih (es := es.erase f) (by rw [List.length_erase_of_mem hf]; omega) (E.erase f) (fun p => if p = c ∨ p = lastOf tn c then (tn p).dropLast else tn p) fun p => by
      have hp := (h p).trans (turn_perm pmf p)
      rw [tsn] at hp
      show (if p = c ∨ p = lastOf tn c then (tn p).dropLast else tn p).Perm _
      by_cases pc : p = c
      · rw [if_pos (.inl pc)]
        rw [if_pos pc, last_split (nonempty (.inl pc))] at hp
        have el : (tn p).getLast?.getD 0 = lastOf tn c := by rw [pc]; rfl
        rw [el] at hp
        exact (List.perm_append_right_iff _).mp hp
      · by_cases pd : p = lastOf tn c
        · rw [if_pos (.inr pd)]
          rw [if_neg pc, if_pos pd, last_split (nonempty (.inr pd))] at hp
          have el : (tn p).getLast?.getD 0 = c := by rw [pd]; exact fl
          rw [el] at hp
          exact (List.perm_append_right_iff _).mp hp
        · rw [if_neg (fun z => z.elim pc pd)]
          rw [if_neg pc, if_neg pd, List.append_nil] at hp
          exact hp
    refine ⟨os ++ [f], (po.append_right [f]).trans pmf.symm, fun p => ?_⟩
    rw [tsn, ho]
    by_cases pc : p = c
    · rw [if_pos (.inl pc), if_pos pc]
      have el : lastOf tn c = (tn p).getLast?.getD 0 := by rw [pc]; rfl
      rw [el]
      exact (last_split (nonempty (.inl pc))).symm
    · by_cases pd : p = lastOf tn c
      · rw [if_pos (.inr pd), if_neg pc, if_pos pd]
        have el : c = (tn p).getLast?.getD 0 := by rw [pd]; exact fl.symm
        conv => lhs; rw [el]
        exact (last_split (nonempty (.inr pd))).symm
      · rw [if_neg (fun z => z.elim pc pd), if_neg pc, if_neg pd, List.append_nil]
end Os
/-! an order taken edge by edge from its turns -/
namespace Os
/-- what is done, what waits, and what is left of the turns -/
structure Greedy (es : List Pr) (tn : Nat → List Nat) (done ws : List Pr) (r : Nat → List Nat) : Prop where
  pm : (done ++ ws).Perm es
  tn : ∀ p, turnOf p done ++ r p = tn p
  ex : ∃ os, os.Perm ws ∧ ∀ p, turnOf p os = r p
section
variable {n : Nat} {es done ws : List Pr} {tn r : Nat → List Nat}
theorem Greedy.start (E : Edges n es) (h : ∀ p, (tn p).Perm (turnOf p es)) : Greedy es tn [] es tn :=
  ⟨List.Perm.refl _, fun p => rfl, turns_order E tn h⟩
theorem Greedy.fin (g : Greedy es tn done [] r) : done.Perm es ∧ ∀ p, turnOf p done = tn p := by
  obtain ⟨os, h1, h2⟩ := g.ex
  have e : os = [] := h1.eq_nil
  subst e
  refine ⟨by simpa using g.pm, fun p => ?_⟩
  have := g.tn p
  rw [← h2 p] at this
  simpa [turnOf] using this
theorem Greedy.inn (g : Greedy es tn done ws r) {e : Pr} (h : e ∈ ws) : e ∈ es := g.pm.mem_iff.mp (List.mem_append_right _ h)
theorem Greedy.some (E : Edges n es) (g : Greedy es tn done ws r) (ne : ws ≠ []) : ∃ e ∈ ws, (r e.1).head? = some e.2 ∧ (r e.2).head? = some e.1 := by
  obtain ⟨os, h1, h2⟩ := g.ex
  cases os with
  | nil => exact absurd h1.symm.eq_nil ne
  | cons e os =>
    have he := h1.mem_iff.mp List.mem_cons_self
    have := E.inn e (g.inn he)
    refine ⟨e, he, ?_, ?_⟩
    · rw [← h2]
      unfold turnOf
      rw [List.filterMap_cons, if_pos rfl]
      rfl
    · rw [← h2]
      unfold turnOf
      rw [List.filterMap_cons, if_neg (show ¬ e.1 = e.2 by omega), if_pos rfl]
      rfl
theorem Greedy.full (E : Edges n es) (g : Greedy es tn done ws r) {e : Pr} (he : e ∈ ws) : r e.1 ≠ [] ∧ r e.2 ≠ [] := by
  obtain ⟨os, h1, h2⟩ := g.ex
  have ne : e.1 ≠ e.2 := by have := E.inn e (g.inn he); omega
  have a := turn_mem (h1.mem_iff.mpr he) ne (a := e.1) (b := e.2) (.inl ⟨rfl, rfl⟩)
  have b := turn_mem (h1.mem_iff.mpr he) ne (a := e.2) (b := e.1) (.inr ⟨rfl, rfl⟩)
  rw [h2] at a b
  exact ⟨fun z => (by rw [z] at a; cases a), fun z => (by rw [z] at b; cases b)⟩
/-- an edge whose one end comes first at the other is one that waits -/
theorem Greedy.waits (E : Edges n es) (g : Greedy es tn done ws r) {e : Pr} (he : e ∈ es) (h : (r e.1).head? = .some e.2) : e ∈ ws := by
  obtain ⟨os, h1, h2⟩ := g.ex
  have m : e.2 ∈ turnOf e.1 os := by rw [h2]; exact List.mem_of_head? h
  obtain ⟨f, hf, k⟩ := mem_turn m
  have hf' := h1.mem_iff.mp hf
  have := ends_one E he (g.inn hf') (.inl ⟨rfl, rfl⟩) k
  rw [this]
  exact hf'
theorem head_split {α : Type} {A B : List α} {x : α} {R : List α} (h : A ++ x :: B = x :: R) (hx : A ≠ [] → x ∈ A) : A = [] ∨ x ∈ A := by
  cases A with
  | nil => exact .inl rfl
  | cons a A => exact .inr (hx (by simp))
theorem Greedy.step (E : Edges n es) (g : Greedy es tn done ws r) {e : Pr} {A B : List Nat} {ws' : List Pr} (h1 : r e.1 = e.2 :: A) (h2 : r e.2 = e.1 :: B) (hp : (e :: ws').Perm ws) :
    Greedy es tn (done ++ [e]) ws' (fun p => if p = e.2 then B else if p = e.1 then A else r p) := by
  have he : e ∈ ws := hp.mem_iff.mp List.mem_cons_self
  have hes := g.inn he
  have inn := E.inn e hes
  obtain ⟨os, o1, o2⟩ := g.ex
  obtain ⟨pre, post, rfl⟩ := List.append_of_mem (o1.mem_iff.mpr he)
  have nd : (pre ++ e :: post).Nodup := by
    refine o1.nodup_iff.mpr ?_
    have := g.pm.nodup_iff.mpr E.nodup
    exact (List.nodup_append.mp this).2.1
  have epre : e ∉ pre := fun z => (List.nodup_append.mp nd).2.2 e z e List.mem_cons_self rfl
  have sub : ∀ f ∈ pre, f ∈ es := fun f hf => g.inn (o1.mem_iff.mp (List.mem_append_left _ hf))
  have app : ∀ p, turnOf p (pre ++ e :: post) = turnOf p pre ++ ((if e.1 = p then [e.2] else if e.2 = p then [e.1] else []) ++ turnOf p post) := fun p => by
    rw [show pre ++ e :: post = (pre ++ [e]) ++ post by simp]
    have a2 : turnOf p ((pre ++ [e]) ++ post) = turnOf p (pre ++ [e]) ++ turnOf p post := by
      unfold turnOf
      rw [List.filterMap_append]
    rw [a2, turn_snoc, List.append_assoc]
  have nil1 : ∀ {a b : Nat} {R : List Nat}, Ends2 e a b → turnOf a pre ++ b :: turnOf a post = b :: R → turnOf a pre = [] := fun {a b R} k q => by
    cases hc : turnOf a pre with
    | nil => rfl
    | cons c C =>
      rw [hc] at q
      have cb : c = b := (List.cons.inj q).1
      have m : b ∈ turnOf a pre := by rw [hc, cb]; exact List.mem_cons_self
      obtain ⟨f, hf, kf⟩ := mem_turn m
      have := ends_one E hes (sub f hf) k kf
      exact absurd (this ▸ hf) epre
  have t1 := app e.1
  rw [o2, h1, if_pos rfl] at t1
  have t2 := app e.2
  rw [o2, h2, if_neg (show ¬ e.1 = e.2 by omega), if_pos rfl] at t2
  have n1 := nil1 (a := e.1) (b := e.2) (.inl ⟨rfl, rfl⟩) t1.symm
  have n2 := nil1 (a := e.2) (b := e.1) (.inr ⟨rfl, rfl⟩) t2.symm
  rw [n1] at t1
  rw [n2] at t2
  have a1 : turnOf e.1 post = A := (List.cons.inj t1).2.symm
  have b1 : turnOf e.2 post = B := (List.cons.inj t2).2.symm
  have pm' : (pre ++ post).Perm ws' := by
    have x1 : (e :: (pre ++ post)).Perm (pre ++ e :: post) := List.perm_middle.symm
    exact List.Perm.cons_inv ((x1.trans o1).trans hp.symm)
  have two : ∀ p, turnOf p (pre ++ post) = turnOf p pre ++ turnOf p post := fun p => by
    unfold turnOf
    rw [List.filterMap_append]
  refine ⟨?_, fun p => ?_, pre ++ post, pm', fun p => ?_⟩
  · rw [List.append_assoc]
    exact (List.Perm.append_left done hp).trans g.pm
  · have gt := g.tn p
    rw [turn_snoc, List.append_assoc, ← gt]
    congr 1
    by_cases c2 : p = e.2
    · subst c2
      rw [if_neg (show ¬ e.1 = e.2 by omega), if_pos rfl, if_pos rfl, h2]
      rfl
    · by_cases c1 : p = e.1
      · subst c1
        rw [if_pos rfl, if_neg c2, if_pos rfl, h1]
        rfl
      · rw [if_neg (fun z => c1 z.symm), if_neg (fun z => c2 z.symm), if_neg c2, if_neg c1]
        rfl
  · rw [two]
    by_cases c2 : p = e.2
    · subst c2
      rw [if_pos rfl, n2, b1]
      rfl
    · by_cases c1 : p = e.1
      · subst c1
        rw [if_neg c2, if_pos rfl, n1, a1]
        rfl
      · rw [if_neg c2, if_neg c1, ← o2, app, if_neg (fun z => c1 z.symm), if_neg (fun z => c2 z.symm)]
        rfl
end
end Os
namespace K15
open PySem PySem.Spec PyProof.Rows L2 Os Evl
abbrev sNear : Stmt := topS 46
theorem scNear : FnScope ["graph", "found", "low", "high", "k", "row"] ["graph"] (defScope sNear) := ⟨rfl, rfl, rfl, by decide +kernel, rfl, by decide +kernel, by decide +kernel⟩
abbrev sPerms : Stmt := topS 47
theorem scPerms : FnScope ["source", "graph", "row"] ["source", "graph"] (defScope sPerms) := ⟨rfl, rfl, rfl, by decide +kernel, rfl, by decide +kernel, by decide +kernel⟩
theorem iteF {A B : Prop} (h : B) : if (!true) = true then A else B := by
  rw [if_neg (by decide)]
  exact h
theorem Drew.old {s : Addr} {B : Nat} {H0 H H' : Hp} (e : Ex H0 H) (ns : H0 s = none) (d : Drew s B H H') : Ex H0 H' := fun b o h =>
  d.get (ne_of_none h ns) (e b o h)
theorem lim_pr {e : Pr} (h1 : e.1 < 64) (h2 : e.2 < 64) : Lim 207 1 (Os.prD e) := (Lim.tup (L := 100) (D := 0) (m := 2) (fun d hd => by
  rcases List.mem_cons.mp hd with rfl | hd
  · exact .int h1
  · rw [List.mem_singleton.mp hd]
    exact .int h2) (Nat.le_refl _)).mono (by decide) (Nat.le_refl _)
theorem lim_prs {os : List Pr} (h : ∀ e ∈ os, e.1 < 64 ∧ e.2 < 64) (hl : os.length ≤ 60) : Lim 12543 2 (.list (os.map Os.prD)) := (Lim.lst (L := 207) (D := 1) (m := 60) (fun d hd => by
  obtain ⟨e, he, rfl⟩ := List.mem_map.mp hd
  exact lim_pr (h e he).1 (h e he).2) (by rw [List.length_map]; exact hl)).mono (by decide) (Nat.le_refl _)
theorem lim_graph {n : Nat} {es : List Pr} (ok : IsForest n es) : Lim 25093 3 (.tuple [.int (n : Int), .list (es.map Os.prD)]) := (Lim.tup (L := 12543) (D := 2) (m := 2) (fun d hd => by
  rcases List.mem_cons.mp hd with rfl | hd
  · exact (Lim.int (by have := ok.n40; omega)).mono (by decide) (by decide)
  · rw [List.mem_singleton.mp hd]
    exact lim_prs (fun e he => by have := ok.edges.inn e he; have := ok.n40; omega) ok.few) (Nat.le_refl _)).mono (by decide) (Nat.le_refl _)

/-- rows of numbers as data -/
def rowsD (n : Nat) (f : Nat → List Nat) : List PyData := (List.range n).map fun i => .list (natsD (f i))
theorem rowsD_at {n i : Nat} {f : Nat → List Nat} (h : i < n) : (rowsD n f)[i]? = some (.list (natsD (f i))) := by
  unfold rowsD
  rw [List.getElem?_map, List.getElem?_range h]
  rfl
theorem dts_of {G : Hp} : ∀ {xs : List V} {ds : List PyData}, xs.length = ds.length → (∀ (i : Nat) (x : V) (d : PyData), xs[i]? = some x → ds[i]? = some d → Dt G x d) → Dts G xs ds
  | [], [], _, _ => .nil
  | x :: xs, d :: ds, hl, h => .cons (h 0 x d rfl rfl) (dts_of (by simpa using hl) fun i y e h1 h2 => h (i + 1) y e (by simpa using h1) (by simpa using h2))
  | [], _ :: _, hl, _ => by simp at hl
  | _ :: _, [], hl, _ => by simp at hl
theorem RwV.dt {H0 G : Hp} {L : Addr} {as : List Addr} {n : Nat} {f : Nat → List Nat} (h : RwV H0 G as n f) (hL : G L = some (.lst (as.map V.ref))) : Dt G (.ref L) (.list (rowsD n f)) :=
  .lst hL (dts_of (by unfold rowsD; rw [List.length_map, List.length_map, List.length_range, h.len]) fun i x d h1 h2 => by
    rw [List.getElem?_map] at h1
    cases hai : as[i]? with
    | none => rw [hai] at h1; cases h1
    | some c =>
      rw [hai] at h1
      cases h1
      have lt : i < n := by rw [← h.len]; exact (List.getElem?_eq_some_iff.mp hai).1
      rw [rowsD_at lt] at h2
      cases h2
      exact .lst (h.at' _ _ hai) (dts_nats _))
theorem plain_rows {n : Nat} {f : Nat → List Nat} (hn : n ≤ 1000) (hf : ∀ i, (f i).length ≤ 1000) (j : Nat) : Plain (j + 3) (.list (rowsD n f)) := .inr (.inr ⟨_, rfl, by unfold rowsD; rw [List.length_map, List.length_range]; exact hn, fun d hd => by
  obtain ⟨i, _, rfl⟩ := List.mem_map.mp hd
  exact plain_nats j (hf i)⟩)
theorem plain_two {d : PyData} {j : Nat} (h : Plain j d) : Plain (j + 1) (.list [d, d]) := .inr (.inr ⟨_, rfl, by show 2 ≤ 1000; decide, fun x hx => by
  rcases List.mem_cons.mp hx with rfl | hx
  · exact h
  · rw [List.mem_singleton.mp hx]
    exact h⟩)
theorem natsD_all {n : Nat} {l : List Nat} (h : ∀ x ∈ l, x < n) : (natsD l).all (posB (n : Int)) = true := by
  unfold natsD
  rw [List.all_map, List.all_eq_true]
  intro x hx
  show (decide (0 ≤ (x : Int)) && decide ((x : Int) < (n : Int))) = true
  have := h x hx
  rw [decide_eq_true (by omega), decide_eq_true (by omega)]
  rfl
theorem natsD_map (l : List Nat) : (natsD l).map intD = l.map fun x : Nat => (x : Int) := by
  unfold natsD
  rw [List.map_map]
  rfl
theorem adj_perm {es os : List Pr} (p : os.Perm es) (i : Nat) : (adj os i).Perm (adj es i) := p.filterMap _
theorem adj_in {n : Nat} {es : List Pr} (E : ∀ e ∈ es, e.1 < e.2 ∧ e.2 < n) {i x : Nat} (h : x ∈ adj es i) : x < n := by
  obtain ⟨e, he, h1⟩ := List.mem_filterMap.mp h
  have := E e he
  unfold other at h1
  by_cases a1 : e.1 = i
  · rw [if_pos a1] at h1
    cases h1
    omega
  · rw [if_neg a1] at h1
    by_cases a2 : e.2 = i
    · rw [if_pos a2] at h1
      cases h1
      omega
    · rw [if_neg a2] at h1
      cases h1
theorem adj_len {os : List Pr} {m : Nat} (h : os.length ≤ m) (i : Nat) : (adj os i).length ≤ m := by
  unfold adj
  exact Nat.le_trans (List.length_filterMap_le _ _) h
theorem adj_rev (os : List Pr) (i : Nat) : adj os.reverse i = (adj os i).reverse := by
  unfold adj
  rw [List.filterMap_reverse]
theorem turns_yes {n : Nat} {es os : List Pr} (ok : IsForest n es) (pm : os.Perm es) : turnsB n es (.list (rowsD n (adj os))) = true := by
  have hl : (rowsD n (adj os)).length = n := by unfold rowsD; rw [List.length_map, List.length_range]
  show (decide ((rowsD n (adj os)).length = n) && _) = true
  rw [decide_eq_true hl, Bool.true_and, List.all_eq_true]
  intro i hi
  have lt := List.mem_range.mp hi
  rw [List.getD_eq_getElem?_getD, rowsD_at lt]
  show ((natsD (adj os i)).all (posB (n : Int)) && ((natsD (adj os i)).map intD).isPerm _) = true
  rw [natsD_all fun x hx => adj_in (fun e he => ok.edges.inn e (pm.mem_iff.mp he)) hx, Bool.true_and, natsD_map]
  exact List.isPerm_iff.mpr ((adj_perm pm i).map _)
theorem rows_short {n : Nat} {f : Nat → List Nat} (hn : n ≤ 1000) (hf : ∀ i, (f i).length ≤ 1000) : Short2 (.list (rowsD n f)) := by
  refine ⟨by unfold rowsD; rw [List.length_map, List.length_range]; exact hn, fun d hd => ?_⟩
  obtain ⟨i, _, rfl⟩ := List.mem_map.mp hd
  show (natsD (f i)).length ≤ 1000
  unfold natsD
  rw [List.length_map]
  exact hf i
theorem PrsV.upd {G : Hp} {p : Addr} {xs' zs vs : List V} {es : List Pr} (h : PrsV G vs es) (hp : G p = some (.lst xs')) : PrsV (L2.upd G p (.lst zs)) vs es := by
  induction h with
  | nil => exact .nil
  | cons x _ ih =>
    obtain ⟨t, rfl, ht⟩ := x
    refine .cons ⟨t, rfl, ?_⟩ ih
    rw [upd_ne fun e => by
      rw [e, hp] at ht
      cases ht]
    exact ht
theorem PrsV.rev {G : Hp} {vs : List V} {es : List Pr} (h : PrsV G vs es) : PrsV G vs.reverse es.reverse := by
  induction h with
  | nil => exact .nil
  | cons x _ ih =>
    rw [List.reverse_cons, List.reverse_cons]
    exact ih.append (.cons x .nil)
/-- [row[::-1] for row in rows] -/
theorem lc_revs {K : PySem.W.Frag} {σ : L2.St} {H : Hp} {L : Addr} {as : List Addr} {n j i0 : Nat} {f : Nat → List Nat} {Q : VK} (hv0 : σ[i0]? = some (some (.ref L))) (hL : H L = some (.lst (as.map V.ref))) (len : as.length = n) (n40 : n ≤ 1000) (rw0 : ∀ i a, as[i]? = some a → H a = some (.lst (nats (f i))))
    (hw : ∀ x, wipe ((wipe σ [j]).set j (some x)) [j] = wipe σ [j]) (hv : ∀ x, ((wipe σ [j]).set j (some x))[j]? = some (some x))
    (q : ∀ D H' bs, Ex H H' → H D = none → H' D = some (.lst (bs.map V.ref)) → RwV H H' bs n (fun i => (f i).reverse) → Q (.ref D) H') : tLc (iList K (tVar i0)) (gName j) tYes (tRevL K (tVar j)) [j] σ H Q := by
  refine ⟨.ref L, hv0, L, rfl, ⟨_, sq_of hL⟩, fun D hD => ?_⟩
  have eD := Ex.new (o := .lst []) hD
  refine lc_list (xs := as.map V.ref) (fun i Hh => Ex H Hh ∧ ∃ bs : List Addr, Hh D = some (.lst (bs.map V.ref)) ∧ RwV (upd H D (.lst [])) Hh bs i (fun i => (f i).reverse)) ⟨eD, [], upd_same, rfl, (fun a h => nomatch h), (fun i a h => by simp at h), List.nodup_nil⟩ (fun i H' _ p => sq_of (p.1 _ _ hL)) ?_ ?_
  · rintro i x Hh hx ⟨x1, bs, hrs, rg⟩
    rw [List.getElem?_map] at hx
    cases hai : as[i]? with
    | none => rw [hai] at hx; cases hx
    | some c =>
      rw [hai] at hx
      cases hx
      have il : i < as.length := (List.getElem?_eq_some_iff.mp hai).1
      refine ⟨hw _, ?_⟩
      dsimp only [tYes]
      rw [if_pos rfl]
      refine ⟨.ref c, hv _, c, nats (f i), rfl, sq_of (x1 _ _ (rw0 _ _ hai)), fun b hb => ?_⟩
      have xb := Ex.new (o := .lst (nats (f i)).reverse) hb
      have nb : b ≠ D := fun e => by
        rw [e, hrs] at hb
        cases hb
      have hb0 : upd H D (.lst []) b = none := by
        rw [upd_ne nb]
        exact fresh_back x1 hb
      have al : ∀ {j : Nat} {c : Addr}, bs[j]? = some c → c ≠ b := fun h => ne_of_none (rg.at' _ _ h) hb
      have er : (nats (f i)).reverse = nats (f i).reverse := by
        unfold nats
        rw [List.map_reverse]
      refine ⟨bs.map V.ref, xb _ _ hrs, sz_lt (by rw [List.length_map, rg.len]; omega), (x1.trans xb).mut hD, bs ++ [b], ?_, ?_⟩
      · rw [upd_same, List.map_append]
        rfl
      · refine RwV.off (u := .lst []) ⟨by rw [List.length_append, rg.len]; rfl, fun c hc => ?_, fun j c hc => ?_, ?_⟩ upd_same
        · rcases List.mem_append.mp hc with hc | hc
          · exact rg.new c hc
          · rw [List.mem_singleton.mp hc]
            exact hb0
        · by_cases hj : j < bs.length
          · rw [List.getElem?_append_left hj] at hc
            exact xb _ _ (rg.at' j c hc)
          · rw [List.getElem?_append_right (by omega)] at hc
            have e1 : c = b := List.mem_singleton.mp (List.mem_of_getElem? hc)
            have e2 : j - bs.length < 1 := (List.getElem?_eq_some_iff.mp hc).1
            have e3 : j = i := by have := rg.len; omega
            rw [e1, e3, ← er]
            exact upd_same
        · refine List.nodup_append.mpr ⟨rg.nd, List.pairwise_singleton _ _, fun c hc d hd => ?_⟩
          rw [List.mem_singleton.mp hd]
          obtain ⟨j, hj⟩ := List.mem_iff_getElem?.mp hc
          exact al hj
  · rintro Hh ⟨x1, bs, hrs, rg⟩
    rw [List.length_map, len] at rg
    exact q D Hh bs x1 hD hrs (rg.weak eD)
theorem RwV.snoc' {H0 G : Hp} {as : List Addr} {n : Nat} {f g : Nat → List Nat} {b : Addr} (h : RwV H0 G as n f) (hb0 : H0 b = none) (al : ∀ c ∈ as, c ≠ b) (fg : ∀ j, j < n → f j = g j) (hb : G b = some (.lst (nats (g n)))) : RwV H0 G (as ++ [b]) (n + 1) g :=
  ⟨by rw [List.length_append, h.len]; rfl, fun c hc => by
    rcases List.mem_append.mp hc with hc | hc
    · exact h.new c hc
    · rw [List.mem_singleton.mp hc]
      exact hb0, fun j c hc => by
    by_cases hj : j < as.length
    · rw [List.getElem?_append_left hj] at hc
      rw [← fg j (by rw [← h.len]; exact hj)]
      exact h.at' j c hc
    · rw [List.getElem?_append_right (by omega)] at hc
      have e1 : c = b := List.mem_singleton.mp (List.mem_of_getElem? hc)
      have e2 : j - as.length < 1 := (List.getElem?_eq_some_iff.mp hc).1
      have e3 : j = n := by have := h.len; omega
      rw [e1, e3]
      exact hb, List.nodup_append.mpr ⟨h.nd, List.pairwise_singleton _ _, fun c hc d hd => by
    rw [List.mem_singleton.mp hd]
    exact al c hc⟩⟩
theorem RwV.snoc {H0 G G' : Hp} {as : List Addr} {n : Nat} {f : Nat → List Nat} {b : Addr} (h : RwV H0 G as n f) (x : Ex G G') (hb0 : H0 b = none) (al : ∀ c ∈ as, c ≠ b) (hb : G' b = some (.lst (nats (f n)))) : RwV H0 G' (as ++ [b]) (n + 1) f :=
  (h.ex x).snoc' hb0 al (fun _ _ => rfl) hb
/-- [sorted(row) for row in rows], the rows ascending already -/
theorem lc_sorts {K : PySem.W.Frag} {σ : L2.St} {H : Hp} {L : Addr} {as : List Addr} {n j i0 : Nat} {f : Nat → List Nat} {Q : VK} (hv0 : σ[i0]? = some (some (.ref L))) (hL : H L = some (.lst (as.map V.ref))) (len : as.length = n) (n40 : n ≤ 1000) (rw0 : ∀ i a, as[i]? = some a → H a = some (.lst (nats (f i))))
    (asc : ∀ i, (f i).Pairwise (· < ·)) (hw : ∀ x, wipe ((wipe σ [j]).set j (some x)) [j] = wipe σ [j]) (hv : ∀ x, ((wipe σ [j]).set j (some x))[j]? = some (some x))
    (q : ∀ D H' bs, Ex H H' → H D = none → H' D = some (.lst (bs.map V.ref)) → RwV H H' bs n f → Q (.ref D) H') : tLc (iList K (tVar i0)) (gName j) tYes (tCB (rSortedI K) (tCons (tVar j) tNil)) [j] σ H Q := by
  refine ⟨.ref L, hv0, L, rfl, ⟨_, sq_of hL⟩, fun D hD => ?_⟩
  have eD := Ex.new (o := .lst []) hD
  refine lc_list (xs := as.map V.ref) (fun i Hh => Ex H Hh ∧ ∃ bs : List Addr, Hh D = some (.lst (bs.map V.ref)) ∧ RwV (upd H D (.lst [])) Hh bs i f) ⟨eD, [], upd_same, rfl, (fun a h => nomatch h), (fun i a h => by simp at h), List.nodup_nil⟩ (fun i H' _ p => sq_of (p.1 _ _ hL)) ?_ ?_
  · rintro i x Hh hx ⟨x1, bs, hrs, rg⟩
    rw [List.getElem?_map] at hx
    cases hai : as[i]? with
    | none => rw [hai] at hx; cases hx
    | some c =>
      rw [hai] at hx
      cases hx
      have il : i < as.length := (List.getElem?_eq_some_iff.mp hai).1
      refine ⟨hw _, ?_⟩
      dsimp only [tYes]
      rw [if_pos rfl]
      refine ⟨.ref c, hv _, c, (f i).map (fun x : Nat => (x : Int)), rfl, by rw [nats_ints]; exact sq_of (x1 _ _ (rw0 _ _ hai)), fun ns' b pm pw hb => ?_⟩
      have same : ns' = (f i).map (fun x : Nat => (x : Int)) := List.Perm.eq_of_pairwise (le := (· ≤ ·)) (fun a b _ _ x y => by omega) pw (List.pairwise_map.mpr ((asc i).imp fun {x y} h => by show (x : Int) ≤ (y : Int); omega)) pm
      subst same
      rw [nats_ints]
      have xb := Ex.new (o := .lst (nats (f i))) hb
      have nb : b ≠ D := fun e => by
        rw [e, hrs] at hb
        cases hb
      have hb0 : upd H D (.lst []) b = none := by
        rw [upd_ne nb]
        exact fresh_back x1 hb
      have al : ∀ {j : Nat} {c : Addr}, bs[j]? = some c → c ≠ b := fun h => ne_of_none (rg.at' _ _ h) hb
      refine ⟨bs.map V.ref, xb _ _ hrs, sz_lt (by rw [List.length_map, rg.len]; omega), (x1.trans xb).mut hD, bs ++ [b], ?_, ?_⟩
      · rw [upd_same, List.map_append]
        rfl
      · exact RwV.off (u := .lst []) (rg.snoc xb hb0 (fun c hc => by
          obtain ⟨j, hj⟩ := List.mem_iff_getElem?.mp hc
          exact al hj) upd_same) upd_same
  · rintro Hh ⟨x1, bs, hrs, rg⟩
    rw [List.length_map, len] at rg
    exact q D Hh bs x1 hD hrs (rg.weak eD)
section
variable {P : Program} {w : World} {K : PySem.W.Frag} {mg : Str → Option Value} {base : Heap}
def spNear : Sp := fun vs H Q _ => ∃ (v : V) (n : Nat) (es : List Pr), vs = [v] ∧ GraphV H v n es ∧ IsForest n es ∧
  ∀ H' L as, Ex H H' → H L = none → H' L = some (.lst (as.map V.ref)) → RwV H H' as n (adj es) → Q (.ref L) H'
def spPerms : Sp := fun vs H Q _ => ∃ (s : Addr) (v : V) (n B : Nat) (es : List Pr), vs = [.ref s, v] ∧ Src H s B ∧ B ≤ 700000 ∧ GraphV (hide s H) v n es ∧ IsForest n es ∧
  ∀ H' L as (tn : Nat → List Nat), Drew s (B + 2400) H H' → H L = none → H' L = some (.lst (as.map V.ref)) → RwV H H' as n tn → (∀ i, (tn i).Perm (adj es i)) → Q (.ref L) H'
theorem ok_near {f : Addr} {fd : FuncData} {k : Nat} (F : Fun K "_law_near" "_law_near" sNear f fd) (mRange : mg "range" = none) (mSorted : mg "sorted" = none) : FnOk P w K mg base CX0 (k + 1) f fd ["graph"] spNear := by
  refine F.ok scNear (fun vs H Q E h => ?_) (fun cdv A outer s H vs Q E hr h => ?_)
  · obtain ⟨v, n, es, rfl, _⟩ := h
    rfl
  · obtain ⟨v, n, es, rfl, hg, ok, q⟩ := h
    refine ⟨_, (pss_cons (ps_setLc (i := 1) (own := [("k", 4)]) (g := gName 4) (tt := tYes) rfl scNear.nd rfl rfl (sw_true rfl rfl rfl (by decide +kernel)) (pi_range1 (by rfl) mRange (pa_cons (pe_ix ix_tup (pv 0) pe_int (fun _ _ => rfl)) pa_nil)) (blkOk_by (N := ["graph", "found", "low", "high", "k", "row"]) (sc := defScope sNear) (by decide +kernel)) (fun _ _ _ _ _ => pg_name (i := 4) scNear.nd rfl (Or.inl rfl)) (fun _ _ _ _ _ => pts_nil) (fun _ _ _ _ _ => (pe_lst pa_nil)))
      (pss_cons (ps_for PassesOwn.never rfl (pi_list (pe_ix ix_tup (pv 0) pe_int (fun _ _ => rfl))) (pg_tup rfl (pgs_cons (pg_name (i := 2) scNear.nd rfl (Or.inl rfl)) (pgs_cons (pg_name (i := 3) scNear.nd rfl (Or.inl rfl)) pgs_nil)))
      (pss_cons (ps_expr (pe_bm PySem.F.plainAttrs_list PySem.F.slot_list_append PySem.F.type_list_append mt_append (pe_ix ix_list (pv 1) (pv 2) (fun _ _ => rfl)) (pa_cons (pv 3) pa_nil)))
      (pss_one (ps_expr (pe_bm PySem.F.plainAttrs_list PySem.F.slot_list_append PySem.F.type_list_append mt_append (pe_ix ix_list (pv 1) (pv 3) (fun _ _ => rfl)) (pa_cons (pv 2) pa_nil))))))
      (pss_one (ps_ret (pe_lc (own := [("row", 5)]) (g := gName 5) (tt := tYes) (te := tCB (rSortedI K) (tCons (tVar 5) tNil)) rfl scNear.nd (pi_list (pv 1)) (blkOk_by (N := ["graph", "found", "low", "high", "k", "row"]) (sc := defScope sNear) (by decide +kernel)) (fun _ _ _ _ _ => pg_name (i := 5) scNear.nd rfl (Or.inl rfl)) (fun _ _ _ _ _ => pts_nil) (fun _ _ _ _ _ => (pe_callB cr_sortedI (by rfl) mSorted boot_sorted (pa_cons (pv 5) pa_nil)))))))), ?_⟩
    obtain ⟨g, a, xs, rfl, h2, h3, h4⟩ := hg
    have n40 := ok.n40
    have ein := ok.edges.inn
    have few := ok.few
    refine ⟨.ref g, rfl, g, _, 0, .int (n : Int), rfl, rfl, st_of h2, atI_nat (j := 0) rfl, (n : Int), rfl, by omega, by omega, fun D hD => ?_⟩
    have eD := Ex.new (o := .lst []) hD
    refine lc_range (lo := 0) (n := ((n : Int)).toNat) (fun i Hh => Ex H Hh ∧ ∃ as : List Addr, Hh D = some (.lst (as.map V.ref)) ∧ RwV (upd H D (.lst [])) Hh as i (fun _ => [])) ⟨eD, [], upd_same, rfl, (fun a h => nomatch h), (fun i a h => by simp at h), List.nodup_nil⟩ ?_ ?_
    · rintro i Hh hi' ⟨x1, as, hrs, rg⟩
      have lt : i < n := by omega
      refine ⟨rfl, ?_⟩
      dsimp only [tYes]
      rw [if_pos rfl]
      refine ⟨Nat.zero_le _, fun b hb => ?_⟩
      have xb := Ex.new (o := .lst []) hb
      have nb : b ≠ D := fun e => by
        rw [e, hrs] at hb
        cases hb
      have hb0 : upd H D (.lst []) b = none := by
        rw [upd_ne nb]
        exact fresh_back x1 hb
      have al : ∀ {j : Nat} {c : Addr}, as[j]? = some c → c ≠ b := fun h => ne_of_none (rg.at' _ _ h) hb
      refine ⟨as.map V.ref, xb _ _ hrs, sz_lt (by rw [List.length_map, rg.len]; omega), (x1.trans xb).mut hD, as ++ [b], ?_, ?_⟩
      · rw [upd_same, List.map_append]
        rfl
      · refine RwV.off (u := .lst []) ⟨by rw [List.length_append, rg.len]; rfl, fun c hc => ?_, fun j c hc => ?_, ?_⟩ upd_same
        · rcases List.mem_append.mp hc with hc | hc
          · exact rg.new c hc
          · rw [List.mem_singleton.mp hc]
            exact hb0
        · by_cases hj : j < as.length
          · rw [List.getElem?_append_left hj] at hc
            exact xb _ _ (rg.at' j c hc)
          · rw [List.getElem?_append_right (by omega)] at hc
            have : c = b := by
              have := List.mem_of_getElem? hc
              exact List.mem_singleton.mp this
            rw [this]
            exact upd_same
        · refine List.nodup_append.mpr ⟨rg.nd, List.pairwise_singleton _ _, fun c hc d hd => ?_⟩
          rw [List.mem_singleton.mp hd]
          obtain ⟨j, hj⟩ := List.mem_iff_getElem?.mp hc
          exact al hj
    · rintro Hh ⟨x1, as, hrs, rg⟩
      rw [Int.toNat_natCast] at rg
      dsimp only [gName]
      have asH : ∀ c ∈ as, H c = none := fun c hc => fresh_back eD (rg.new c hc)
      refine q_forL (xs := xs) (ev_op (ev_var rfl) ev_c (rv_ixT (st_of (x1 _ _ h2)) (atI_nat (j := 1) rfl))) (sq_of (x1 _ _ h3)) (fun i σ' H' => Ex H H' ∧ ∃ (y4 y5 y6 y7 : Option V), σ' = [some (.ref g), some (.ref D), y4, y5, y6, y7] ∧ H' D = some (.lst (as.map V.ref)) ∧ RwV (upd H D (.lst [])) H' as n (adj (es.take i)))
        (fun H4 e4 => ⟨x1.trans e4, _, _, _, _, rfl, e4 _ _ hrs, rg.ex e4⟩) (fun i σ' H' _ h => sq_of (h.1 _ _ h3)) ?_ ?_
      · rintro i x σ' H4 hx ⟨e4, y4, y5, y6, y7, rfl, hD4, rw4⟩
        obtain ⟨e, he, tp, rfl, htp⟩ := h4.get hx
        have ein := ein e (List.mem_of_getElem? he)
        have il : i < es.length := (List.getElem?_eq_some_iff.mp he).1
        have adl : ∀ j, (adj (es.take i) j).length ≤ 60 := fun j => by
          unfold adj
          have h1 := List.length_filterMap_le (other j) (es.take i)
          have h2 := List.length_take_le i es
          omega
        obtain ⟨c1, hc1⟩ : ∃ c, as[e.1]? = some c := ⟨_, List.getElem?_eq_getElem (by rw [rw4.len]; omega)⟩
        obtain ⟨c2, hc2⟩ : ∃ c, as[e.2]? = some c := ⟨_, List.getElem?_eq_getElem (by rw [rw4.len]; omega)⟩
        have at' : ∀ {j : Nat} {c : Addr}, as[j]? = some c → (as.map V.ref)[j]? = some (.ref c) := fun h => by
          rw [List.getElem?_map, h]
          rfl
        refine ⟨tp, _, rfl, st_of (e4 _ _ htp), rfl, _, _, rfl, _, [], rfl, rfl, ?_⟩
        have nD : ∀ {c : Addr}, c ∈ as → D ≠ c := fun hc z => by
          have := rg.new _ hc
          rw [← z, upd_same] at this
          cases this
        refine q_app (v := .int (e.2 : Int)) (rw4.at' _ _ hc1) (ev_op (ev_var rfl) (ev_var rfl) (rv_ixL (sq_of hD4) (atI_nat (at' hc1)))) (ev_var rfl) (by rw [List.length_map]; have := adl e.1; omega) fun H5 e5 => ?_
        have m1 := List.mem_of_getElem? hc1
        have m2 := List.mem_of_getElem? hc2
        have e1 : nats (adj (es.take i) e.1) ++ [V.int (e.2 : Int)] = nats (adj (es.take i) e.1 ++ [e.2]) := by
          unfold nats
          rw [List.map_append]
          rfl
        rw [e1]
        have rw5 := (rw4.ex e5).put (l := adj (es.take i) e.1 ++ [e.2]) hc1
        have hD5 : upd H5 c1 (.lst (nats (adj (es.take i) e.1 ++ [e.2]))) D = some (.lst (as.map V.ref)) := by
          rw [upd_ne (nD m1)]
          exact e5 _ _ hD4
        have f2 := rw5.at' _ _ hc2
        rw [if_neg (show ¬ e.2 = e.1 by omega)] at f2
        refine s_app (v := .int (e.1 : Int)) f2 (ev_op (ev_var rfl) (ev_var rfl) (rv_ixL (sq_of hD5) (atI_nat (at' hc2)))) (ev_var rfl) (by rw [List.length_map]; have := adl e.2; omega) fun H6 e6 => ?_
        have e2 : nats (adj (es.take i) e.2) ++ [V.int (e.1 : Int)] = nats (adj (es.take i) e.2 ++ [e.1]) := by
          unfold nats
          rw [List.map_append]
          rfl
        rw [e2]
        have rw6 := (rw5.ex e6).put (l := adj (es.take i) e.2 ++ [e.1]) hc2
        refine ⟨((((e4.trans e5).mut (asH _ m1)).trans e6).mut (asH _ m2)), _, _, _, _, rfl, ?_, rw6.like fun j => ?_⟩
        · rw [upd_ne (nD m2)]
          exact e6 _ _ hD5
        · rw [adj_snoc he ein.1]
          by_cases j2 : j = e.2
          · rw [if_pos j2, if_pos j2, if_neg (show ¬ e.2 = e.1 by omega)]
          · rw [if_neg j2, if_neg j2]
            by_cases j1 : j = e.1
            · rw [if_pos j1, if_pos j1, j1]
            · rw [if_neg j1, if_neg j1]
      · rintro σ' H4 ⟨e4, y4, y5, y6, y7, rfl, hD4, rw4⟩
        rw [h4.length, List.take_length] at rw4
        exact lc_sorts (n := n) (f := adj es) rfl hD4 rw4.len (by omega) rw4.at' (adj_asc ok.edges) (fun _ => rfl) (fun _ => rfl) fun p H5 bs e5 hp h5 rw5 => q H5 p bs (e4.trans e5) (fresh_back e4 hp) h5 (rw5.weak e4)

theorem adj_out {n : Nat} {es : List Pr} (E : ∀ e ∈ es, e.1 < e.2 ∧ e.2 < n) {i : Nat} (h : n ≤ i) : adj es i = [] := by
  unfold adj
  rw [List.filterMap_eq_nil_iff]
  intro e he
  have := E e he
  unfold other
  rw [if_neg (by omega), if_neg (by omega)]
theorem ok_perms {f fN fS : Addr} {fd fdN fdS : FuncData} {k : Nat} (F : Fun K "_law_perms" "_law_perms" sPerms f fd)
    (GN : FnOk P w K mg base CX0 k fN fdN ["graph"] spNear) (FN : Fun K "_law_near" "_law_near" sNear fN fdN) (bN : Binds K fdN ["graph"] []) (gN : mg "_law_near" = some (.ref fN))
    (GS : FnOk P w K mg base CX0 k fS fdS ["source", "values"] spShuf) (FS : Fun K "_law_shuffle" "_law_shuffle" sShuf fS fdS) (bS : Binds K fdS ["source", "values"] []) (gS : mg "_law_shuffle" = some (.ref fS)) : FnOk P w K mg base CX0 (k + 1) f fd ["source", "graph"] spPerms := by
  refine F.ok scPerms (fun vs H Q E h => ?_) (fun cdv A outer st H vs Q E hr h => ?_)
  · obtain ⟨s, v, n, B, es, rfl, _⟩ := h
    rfl
  · obtain ⟨s, v, n, B, es, rfl, hS, hB, hg, ok, q⟩ := h
    refine ⟨_, (pss_one (ps_ret (pe_lc (own := [("row", 2)]) (g := gName 2) (tt := tYes) (te := tCall spShuf [] E0 (tCons (tVar 0) (tCons (tVar 2) tNil))) rfl scPerms.nd (pi_list (pe_call GN hr (by rfl) gN FN.kp bN .nil pass0 (pa_cons (pv 1) pa_nil))) (blkOk_by (N := ["source", "graph", "row"]) (sc := defScope sPerms) (by decide +kernel)) (fun _ _ _ _ _ => pg_name (i := 2) scPerms.nd rfl (Or.inl rfl)) (fun _ _ _ _ _ => pts_nil) (fun _ _ _ _ _ => (pe_call GS hr (by rfl) gS FS.kp bS .nil pass0 (pa_cons (pv 0) (pa_cons (pv 2) pa_nil))))))), ?_⟩
    have src0 := hS.at
    have n40 := ok.n40
    have few := ok.few
    refine ⟨v, rfl, v, n, es, rfl, hg.ex hide_up, ok, fun H1 L as e1 hL h1 rw1 => ?_⟩
    have d1 : Drew s B H H1 := (Drew.refl hS).ex e1
    refine ⟨L, rfl, ⟨_, sq_of h1⟩, fun D hD => ?_⟩
    have hD0 : H D = none := fresh_back e1 hD
    have eD := Ex.new (o := .lst []) hD
    have nLs : L ≠ s := new_apart src0 hL
    refine lc_list (xs := as.map V.ref) (fun i Hh => ∃ (bs : List Addr) (T : List (List Nat)), Drew s (B + 60 * i) H1 Hh ∧ Hh D = some (.lst (bs.map V.ref)) ∧ RwV (upd H1 D (.lst [])) Hh bs i (fun j => T.getD j []) ∧ T.length = i ∧ ∀ j, j < i → (T.getD j []).Perm (adj es j))
      ⟨[], [], ((Drew.refl (hS.ex e1)).ex eD), upd_same, ⟨rfl, (fun a h => nomatch h), (fun i a h => by simp at h), List.nodup_nil⟩, rfl, fun j h => absurd h (Nat.not_lt_zero j)⟩ (fun i H' _ p => ?_) ?_ ?_
    · obtain ⟨bs, T, d, _⟩ := p
      exact sq_of (d.get nLs h1)
    · rintro i x Hh hx ⟨bs, T, d2, hrs, rg, tl, tp⟩
      rw [List.getElem?_map] at hx
      cases hai : as[i]? with
      | none => rw [hai] at hx; cases hx
      | some c =>
        rw [hai] at hx
        cases hx
        have il : i < n := by rw [← rw1.len]; exact (List.getElem?_eq_some_iff.mp hai).1
        have src1 := (hS.ex e1).at
        have ncs : c ≠ s := new_apart src0 (rw1.new c (List.mem_of_getElem? hai))
        have al := adj_len (os := es) few i
        refine ⟨rfl, ?_⟩
        dsimp only [tYes]
        rw [if_pos rfl]
        refine ⟨.ref s, rfl, .ref c, rfl, s, c, nats (adj es i), B + 60 * i, rfl, d2.src, d2.get ncs (rw1.at' _ _ hai), ncs, by rw [List.length_map]; omega, by omega, fun H3 b ys d3 hb hys pm => ?_⟩
        obtain ⟨l, rfl, pl⟩ := perm_nats pm
        have src2 := d2.src.at
        have nbs : b ≠ s := new_apart src2 hb
        have nDs : D ≠ s := new_apart src1 hD
        have nb : b ≠ D := fun e => by
          rw [e, hrs] at hb
          cases hb
        have hb1 : H1 b = none := d2.none src1 hb
        have hb0 : upd H1 D (.lst []) b = none := by
          rw [upd_ne nb]
          exact hb1
        have nw : ∀ c ∈ bs, c ≠ s := fun c hc => by
          have h0 := rg.new c hc
          by_cases e : c = D
          · rw [e]
            exact nDs
          · rw [upd_ne e] at h0
            exact new_apart src1 h0
        have al2 : ∀ c ∈ bs, c ≠ b := fun c hc => by
          obtain ⟨j, hj⟩ := List.mem_iff_getElem?.mp hc
          exact ne_of_none (rg.at' _ _ hj) hb
        have rg3 : RwV (upd H1 D (.lst [])) H3 bs i (fun j => T.getD j []) := ⟨rg.len, rg.new, fun j c hj => d3.get (nw c (List.mem_of_getElem? hj)) (rg.at' j c hj), rg.nd⟩
        have rg4 : RwV (upd H1 D (.lst [])) H3 (bs ++ [b]) (i + 1) (fun j => (T ++ [l]).getD j []) := by
          refine (rg3.like fun j => rfl).snoc' hb0 al2 (fun j hj => ?_) ?_
          · rw [List.getD_eq_getElem?_getD, List.getD_eq_getElem?_getD, List.getElem?_append_left (by omega)]
          · have e1 : (T ++ [l]).getD i [] = l := by
              rw [List.getD_eq_getElem?_getD, List.getElem?_append_right (by omega), tl, Nat.sub_self]
              rfl
            rw [e1]
            exact hys
        refine ⟨bs.map V.ref, d3.get nDs hrs, sz_lt (by rw [List.length_map, rg.len]; omega), bs ++ [b], T ++ [l], ?_, ?_, RwV.off (u := .lst []) rg4 upd_same, ?_, fun j hj => ?_⟩
        · exact ((d2.trans d3).mono (by rw [List.length_map]; omega)).mut src1 hD
        · rw [upd_same, List.map_append]
          rfl
        · rw [List.length_append, tl]
          rfl
        · by_cases e : j < i
          · have := tp j e
            rwa [List.getD_eq_getElem?_getD, List.getElem?_append_left (by omega), ← List.getD_eq_getElem?_getD]
          · have ej : j = i := by omega
            rw [List.getD_eq_getElem?_getD, List.getElem?_append_right (by omega), tl, ej, Nat.sub_self]
            exact pl
    · rintro Hh ⟨bs, T, d2, hrs, rg, tl, tp⟩
      rw [List.length_map, rw1.len] at rg tl tp d2
      refine q Hh D bs (fun j => T.getD j []) ((d1.trans d2).mono (by omega)) hD0 hrs ((rg.weak eD).weak e1) fun j => ?_
      by_cases e : j < n
      · exact tp j e
      · rw [adj_out ok.edges.inn (by omega), List.getD_eq_getElem?_getD, List.getElem?_eq_none (by omega)]
        exact List.Perm.refl _
end
end K15
namespace K15
open PySem PySem.Spec PyProof.Rows L2 Os Evl
abbrev sLeast : Stmt := topS 38
theorem scLeast : FnScope ["edges", "turns", "waiting", "rest", "order", "p", "q", "ready", "turn"] ["edges", "turns"] (defScope sLeast) := ⟨rfl, rfl, rfl, by decide +kernel, rfl, by decide +kernel, by decide +kernel⟩
theorem PrsV.era {G : Hp} : ∀ {vs : List V} {es : List Pr} (j : Nat), PrsV G vs es → PrsV G (vs.eraseIdx j) (es.eraseIdx j)
  | _, _, _, .nil => .nil
  | _, _, 0, .cons _ r => r
  | _, _, j + 1, .cons x r => .cons x (PrsV.era j r)
theorem era_perm {α : Type} {l : List α} {k : Nat} {y : α} (h : l[k]? = some y) : (y :: l.eraseIdx k).Perm l := by
  have := perm_pop [] h
  simpa using this
theorem first_nodup {α : Type} {l : List α} {j m : Nat} {y : α} (nd : l.Nodup) (h : l[j]? = some y) (lt : m < j) : l[m]? ≠ some y := fun z => by
  obtain ⟨l1, e1⟩ := List.getElem?_eq_some_iff.mp h
  obtain ⟨l2, e2⟩ := List.getElem?_eq_some_iff.mp z
  exact List.pairwise_iff_getElem.mp nd m j l2 l1 lt (by rw [e1, e2])
theorem PrsV.take_get {G : Hp} {vs : List V} {es : List Pr} {e : Pr} (h : PrsV G vs es) (he : e ∈ es) : ∃ (i : Nat) (v : V), vs[i]? = some v ∧ es[i]? = some e ∧ PrV G v e := by
  induction h with
  | nil => cases he
  | cons x r ih =>
    rcases List.mem_cons.mp he with rfl | he
    · exact ⟨0, _, rfl, rfl, x⟩
    · obtain ⟨i, v, h1, h2, h3⟩ := ih he
      exact ⟨i + 1, v, h1, h2, h3⟩
/-- whether an edge is the next one at both of its ends -/
def rdy (r : Nat → List Nat) (e : Pr) : Bool := decide ((r e.1).head? = some e.2) && decide ((r e.2).head? = some e.1)
theorem rdy_head {r : Nat → List Nat} {e : Pr} (h : rdy r e = true) : (∃ A, r e.1 = e.2 :: A) ∧ ∃ B, r e.2 = e.1 :: B := by
  unfold rdy at h
  rw [Bool.and_eq_true] at h
  have a := of_decide_eq_true h.1
  have b := of_decide_eq_true h.2
  refine ⟨?_, ?_⟩
  · cases hc : r e.1 with
    | nil => rw [hc] at a; cases a
    | cons x A => rw [hc] at a; cases a; exact ⟨A, rfl⟩
  · cases hc : r e.2 with
    | nil => rw [hc] at b; cases b
    | cons x A => rw [hc] at b; cases b; exact ⟨A, rfl⟩
/-- [list(row) for row in rows] -/
theorem lc_copies {K : PySem.W.Frag} {σ : L2.St} {H : Hp} {L : Addr} {as : List Addr} {n j i0 : Nat} {f : Nat → List Nat} {Q : VK} (hv0 : σ[i0]? = some (some (.ref L))) (hL : H L = some (.lst (as.map V.ref))) (len : as.length = n) (n40 : n ≤ 1000) (rw0 : ∀ i a, as[i]? = some a → H a = some (.lst (nats (f i))))
    (hw : ∀ x, wipe ((wipe σ [j]).set j (some x)) [j] = wipe σ [j]) (hv : ∀ x, ((wipe σ [j]).set j (some x))[j]? = some (some x))
    (q : ∀ D H' bs, Ex H H' → H D = none → H' D = some (.lst (bs.map V.ref)) → RwV (upd H D (.lst [])) H' bs n f → Q (.ref D) H') : tLc (iList K (tVar i0)) (gName j) tYes (tCB (rListS K) (tCons (tVar j) tNil)) [j] σ H Q := by
  refine ⟨.ref L, hv0, L, rfl, ⟨_, sq_of hL⟩, fun D hD => ?_⟩
  have eD := Ex.new (o := .lst []) hD
  refine lc_list (xs := as.map V.ref) (fun i Hh => Ex H Hh ∧ ∃ bs : List Addr, Hh D = some (.lst (bs.map V.ref)) ∧ RwV (upd H D (.lst [])) Hh bs i f) ⟨eD, [], upd_same, rfl, (fun a h => nomatch h), (fun i a h => by simp at h), List.nodup_nil⟩ (fun i H' _ p => sq_of (p.1 _ _ hL)) ?_ ?_
  · rintro i x Hh hx ⟨x1, bs, hrs, rg⟩
    rw [List.getElem?_map] at hx
    cases hai : as[i]? with
    | none => rw [hai] at hx; cases hx
    | some c =>
      rw [hai] at hx
      cases hx
      have il : i < as.length := (List.getElem?_eq_some_iff.mp hai).1
      refine ⟨hw _, ?_⟩
      dsimp only [tYes]
      rw [if_pos rfl]
      refine ⟨.ref c, hv _, c, nats (f i), rfl, .inl (sq_of (x1 _ _ (rw0 _ _ hai))), fun b hb => ?_⟩
      have xb := Ex.new (o := .lst (nats (f i))) hb
      have nb : b ≠ D := fun e => by
        rw [e, hrs] at hb
        cases hb
      have hb0 : upd H D (.lst []) b = none := by
        rw [upd_ne nb]
        exact fresh_back x1 hb
      have al : ∀ {j : Nat} {c : Addr}, bs[j]? = some c → c ≠ b := fun h => ne_of_none (rg.at' _ _ h) hb
      refine ⟨bs.map V.ref, xb _ _ hrs, sz_lt (by rw [List.length_map, rg.len]; omega), (x1.trans xb).mut hD, bs ++ [b], ?_, ?_⟩
      · rw [upd_same, List.map_append]
        rfl
      · exact RwV.off (u := .lst []) (rg.snoc xb hb0 (fun c hc => by
          obtain ⟨j, hj⟩ := List.mem_iff_getElem?.mp hc
          exact al hj) upd_same) upd_same
  · rintro Hh ⟨x1, bs, hrs, rg⟩
    rw [List.length_map, len] at rg
    exact q D Hh bs x1 hD hrs rg
theorem head_dec {l : List Nat} {y : Nat} {x : Nat} {t : List Nat} (h : l = x :: t) : decide (V.int (x : Int) = V.int (y : Int)) = decide (l.head? = some y) := by
  rw [h]
  refine decide_eq_decide.mpr ⟨fun e => ?_, fun e => ?_⟩
  · have := V.int.inj e
    show some x = some y
    congr 1
    omega
  · have e' : some x = some y := e
    rw [Option.some.inj e']
section
variable {P : Program} {w : World} {K : PySem.W.Frag} {mg : Str → Option Value} {base : Heap}
def spLeast : Sp := fun vs H Q _ => ∃ (a t : Addr) (n : Nat) (es : List Pr) (xs : List V) (as : List Addr) (tn : Nat → List Nat), vs = [.ref a, .ref t] ∧ IsForest n es ∧ H a = some (.lst xs) ∧ PrsV H xs es ∧ H t = some (.lst (as.map V.ref)) ∧ as.length = n ∧ (∀ i c, as[i]? = some c → H c = some (.lst (nats (tn i)))) ∧ (∀ i, (tn i).Perm (adj es i)) ∧
  ∀ H' p os, Ex H H' → H p = none → OrdV H' (.ref p) os → os.Perm es → (∀ i, adj os i = tn i) → Q (.ref p) H'
theorem q_te {i : Nat} {te : TE} {tz : TS} {D : Ends} {σ : L2.St} {H : Hp} (h : te σ H fun v H' => tz D (σ.set i (some v)) H') : tSeq (tAsg te (gName i)) tz D σ H := h
/-- the edges that are ready, as new pairs -/
theorem lc_ready {K : PySem.W.Frag} {σ : L2.St} {H : Hp} {Wt R : Addr} {xs : List V} {ws : List Pr} {bs : List Addr} {n : Nat} {r : Nat → List Nat} {Q : VK} (v2 : σ[2]? = some (some (.ref Wt)))
    (hW : H Wt = some (.lst xs)) (pr : PrsV H xs ws) (hR : H R = some (.lst (bs.map V.ref))) (bl : bs.length = n) (rw0 : ∀ i c, bs[i]? = some c → H c = some (.lst (nats (r i)))) (inn : ∀ e ∈ ws, e.1 < n ∧ e.2 < n) (full : ∀ e ∈ ws, r e.1 ≠ [] ∧ r e.2 ≠ []) (few : ws.length ≤ 1000)
    (hw : ∀ x y, wipe (((wipe σ [5, 6]).set 5 (some x)).set 6 (some y)) [5, 6] = wipe σ [5, 6]) (h3 : ∀ x y, (((wipe σ [5, 6]).set 5 (some x)).set 6 (some y))[3]? = some (some (.ref R))) (h5 : ∀ x y, (((wipe σ [5, 6]).set 5 (some x)).set 6 (some y))[5]? = some (some x)) (h6 : ∀ x y, (((wipe σ [5, 6]).set 5 (some x)).set 6 (some y))[6]? = some (some y))
    (q : ∀ D H' ys, Ex H H' → H D = none → H' D = some (.lst ys) → PrsV H' ys (ws.filter (rdy r)) → Q (.ref D) H') :
    tLc (iList K (tVar 2)) (gTup K 2 (gCons (gName 5) (gCons (gName 6) gNil))) (tAnd (tTest (tOp rEq (tOp (rIxL K) (tOp (rIxL K) (tVar 3) (tVar 5)) (tC (.int 0))) (tVar 6))) (tTest (tOp rEq (tOp (rIxL K) (tOp (rIxL K) (tVar 3) (tVar 6)) (tC (.int 0))) (tVar 5)))) (tTup (tCons (tVar 5) (tCons (tVar 6) tNil))) [5, 6] σ H Q := by
  refine ⟨.ref Wt, v2, Wt, rfl, ⟨_, sq_of hW⟩, fun D hD => ?_⟩
  have eD := Ex.new (o := .lst []) hD
  refine lc_list (xs := xs) (fun i Hh => Ex H Hh ∧ ∃ ys, Hh D = some (.lst ys) ∧ PrsV Hh ys ((ws.take i).filter (rdy r))) ⟨eD, [], upd_same, .nil⟩ (fun i H' _ p => sq_of (p.1 _ _ hW)) ?_ ?_
  · rintro i x Hh hx ⟨x1, ys, hys, py⟩
    obtain ⟨e, he, tp, rfl, htp⟩ := pr.get hx
    have em := List.mem_of_getElem? he
    obtain ⟨b1, b2⟩ := inn e em
    obtain ⟨f1, f2⟩ := full e em
    refine ⟨tp, _, rfl, st_of (x1 _ _ htp), rfl, _, _, rfl, _, [], rfl, rfl, hw _ _, ?_⟩
    have tk : (ws.take (i + 1)).filter (rdy r) = (ws.take i).filter (rdy r) ++ (if rdy r e = true then [e] else []) := by
      rw [List.take_add_one, he, List.filter_append]
      congr 1
      show List.filter (rdy r) [e] = _
      rw [List.filter_cons, List.filter_nil]
    have one : ∀ {p q0 : Nat} {u v : Nat}, p < n → r p ≠ [] → (((wipe σ [5, 6]).set 5 (some (.int (e.1 : Int)))).set 6 (some (.int (e.2 : Int))))[u]? = some (some (.int (p : Int))) → (((wipe σ [5, 6]).set 5 (some (.int (e.1 : Int)))).set 6 (some (.int (e.2 : Int))))[v]? = some (some (.int (q0 : Int))) →
        EvT (tTest (tOp rEq (tOp (rIxL K) (tOp (rIxL K) (tVar 3) (tVar u)) (tC (.int 0))) (tVar v))) (((wipe σ [5, 6]).set 5 (some (.int (e.1 : Int)))).set 6 (some (.int (e.2 : Int)))) Hh (decide ((r p).head? = some q0)) := fun {p q0 u v} hp hne hu hv => by
      obtain ⟨c, hc⟩ : ∃ c, bs[p]? = some c := ⟨_, List.getElem?_eq_getElem (by omega)⟩
      obtain ⟨y, t, hyt⟩ : ∃ y t, r p = y :: t := by
        cases hz : r p with
        | nil => exact absurd hz hne
        | cons y t => exact ⟨y, t, rfl⟩
      refine et_is (et_test (ev_op (ev_op (ev_op (ev_var (h3 _ _)) (ev_var hu) (rv_ixL (sq_of (x1 _ _ hR)) (atI_nat (by rw [List.getElem?_map, hc]; rfl)))) ev_c (rv_ixL (v := .int (y : Int)) (sq_of (x1 _ _ (rw0 _ _ hc))) (atI_nat (j := 0) (by rw [hyt]; rfl)))) (ev_var hv) (rv_eq rfl))) (head_dec hyt)
    refine (et_and (one b1 f1 (h5 _ _) (h6 _ _)) fun _ => one b2 f2 (h6 _ _) (h5 _ _)) Hh (Ex.refl Hh) _ fun H3 e3 => ?_
    show if rdy r e = true then _ else _
    cases hb : rdy r e with
    | true =>
      rw [if_pos rfl]
      refine ⟨_, h5 _ _, _, h6 _ _, show 2 ≤ sizeLine by decide, fun t2 ht2 => ?_⟩
      have e4 := Ex.new (o := .tup [.int (e.1 : Int), .int (e.2 : Int)]) ht2
      have ex := e3.trans e4
      have yl := py.length
      have fl := List.length_filter_le (rdy r) (ws.take i)
      have tl := List.length_take_le i ws
      have tl2 : (ws.take i).length ≤ ws.length := by rw [List.length_take]; omega
      refine ⟨ys, ex _ _ hys, sz_lt (by omega), (x1.trans ex).mut hD, ys ++ [.ref t2], upd_same, ?_⟩
      rw [tk, if_pos hb]
      exact PrsV.upd ((py.ex ex).append (.cons ⟨t2, rfl, upd_same⟩ .nil)) (ex _ _ hys)
    | false =>
      rw [if_neg (by decide)]
      refine ⟨x1.trans e3, ys, e3 _ _ hys, ?_⟩
      rw [tk, hb, if_neg (by decide), List.append_nil]
      exact py.ex e3
  · rintro Hh ⟨x1, ys, hys, py⟩
    rw [pr.length, List.take_length] at py
    exact q D Hh ys x1 hD hys py
theorem ok_least {f : Addr} {fd : FuncData} {k : Nat} (F : Fun K "_least_order" "_least_order" sLeast f fd) (mList : mg "list" = none) (mMin : mg "min" = none) : FnOk P w K mg base CX0 (k + 1) f fd ["edges", "turns"] spLeast := by
  refine F.ok scLeast (fun vs H Q E h => ?_) (fun cdv A outer st H vs Q E hr h => ?_)
  · obtain ⟨a, t, n, es, xs, as, tn, rfl, _⟩ := h
    rfl
  · obtain ⟨a, t, n, es, xs, as, tn, rfl, ok, ha, pa, ht, al, rwt, pm, q⟩ := h
    refine ⟨_, (pss_cons (ps_set (i := 2) scLeast.nd rfl (.inl rfl) (pe_callTy call_list_of (by rfl) mList boot_list (pa_cons (pv 0) pa_nil)))
      (pss_cons (ps_set (i := 3) scLeast.nd rfl (.inr rfl) (pe_lc (own := [("turn", 8)]) (g := gName 8) (tt := tYes) (te := tCB (rListS K) (tCons (tVar 8) tNil)) rfl scLeast.nd (pi_list (pv 1)) (blkOk_by (N := ["edges", "turns", "waiting", "rest", "order", "p", "q", "ready", "turn"]) (sc := defScope sLeast) (by decide +kernel)) (fun _ _ _ _ _ => pg_name (i := 8) scLeast.nd rfl (Or.inl rfl)) (fun _ _ _ _ _ => pts_nil) (fun _ _ _ _ _ => (pe_callTy call_list_of (by rfl) mList boot_list (pa_cons (pv 8) pa_nil)))))
      (pss_cons (ps_set (i := 4) scLeast.nd rfl (.inl rfl) (pe_lst pa_nil))
      (pss_cons (ps_while PassesOwn.never (pt_truth (pv 2) (fun _ => rfl)) (pss_cons (ps_setLc (i := 7) (own := [("p", 5), ("q", 6)]) (g := gTup K 2 (gCons (gName 5) (gCons (gName 6) gNil))) (tt := (tAnd (tTest (tOp rEq (tOp (rIxL K) (tOp (rIxL K) (tVar 3) (tVar 5)) (tC (.int 0))) (tVar 6))) (tTest (tOp rEq (tOp (rIxL K) (tOp (rIxL K) (tVar 3) (tVar 6)) (tC (.int 0))) (tVar 5))))) (te := tTup (tCons (tVar 5) (tCons (tVar 6) tNil))) rfl scLeast.nd rfl rfl (sw_true rfl rfl rfl (by decide +kernel)) (pi_list (pv 2)) (blkOk_by (N := ["edges", "turns", "waiting", "rest", "order", "p", "q", "ready", "turn"]) (sc := defScope sLeast) (by decide +kernel)) (fun _ _ _ _ _ => pg_tup rfl (pgs_cons (pg_name (i := 5) scLeast.nd rfl (Or.inl rfl)) (pgs_cons (pg_name (i := 6) scLeast.nd rfl (Or.inl rfl)) pgs_nil))) (fun _ _ _ _ _ => pts_one (PW.pt (pw_and (pt_cmpR op_eq (pe_ix ix_list (pe_ix ix_list (pv 3) (pv 5) (fun _ _ => rfl)) pe_int (fun _ _ => rfl)) (pv 6) (nomark _)) (pw_and1 (pt_cmpR op_eq (pe_ix ix_list (pe_ix ix_list (pv 3) (pv 6) (fun _ _ => rfl)) pe_int (fun _ _ => rfl)) (pv 5) (nomark _)))))) (fun _ _ _ _ _ => (pe_tup (pa_cons (pv 5) (pa_cons (pv 6) pa_nil)))))
      (pss_cons (ps_asg (pe_callB (cr_minP rfl hr.units) (by rfl) mMin boot_min (pa_cons (pv 7) pa_nil)) (pg_tup rfl (pgs_cons (pg_name (i := 5) scLeast.nd rfl (Or.inl rfl)) (pgs_cons (pg_name (i := 6) scLeast.nd rfl (Or.inl rfl)) pgs_nil))))
      (pss_cons (ps_expr (pe_bm PySem.F.plainAttrs_list PySem.F.slot_list_pop PySem.F.type_list_pop mt_popAt (pe_ix ix_list (pv 3) (pv 5) (fun _ _ => rfl)) (pa_cons pe_int pa_nil)))
      (pss_cons (ps_expr (pe_bm PySem.F.plainAttrs_list PySem.F.slot_list_pop PySem.F.type_list_pop mt_popAt (pe_ix ix_list (pv 3) (pv 6) (fun _ _ => rfl)) (pa_cons pe_int pa_nil)))
      (pss_cons (ps_expr (pe_bm PySem.F.plainAttrs_list PySem.F.slot_list_remove PySem.F.type_list_remove (mt_remP hr.units) (pv 2) (pa_cons (pe_tup (pa_cons (pv 5) (pa_cons (pv 6) pa_nil))) pa_nil)))
      (pss_one (ps_expr (pe_bm PySem.F.plainAttrs_list PySem.F.slot_list_append PySem.F.type_list_append mt_append (pv 4) (pa_cons (pe_tup (pa_cons (pv 5) (pa_cons (pv 6) pa_nil))) pa_nil))))))))))
      (pss_one (ps_ret (pv 4))))))), ?_⟩
    have n40 := ok.n40
    have few := ok.few
    have E' := ok.edges
    -- waiting
    refine q_asgL (xs := xs) (el_list (ev_var rfl) (sq_of ha)) fun Wt H1 hWt e1 h1 => ?_
    -- rest
    refine q_te (lc_copies (σ := [some (.ref a), some (.ref t), some (.ref Wt), none, none, none, none, none, none]) (j := 8) (i0 := 1) (n := n) (f := tn) rfl (e1 _ _ ht) al (by omega) (fun i c h => e1 _ _ (rwt i c h)) (fun _ => rfl) (fun _ => rfl) fun R H2 bs e2 hR h2 rw2 => ?_)
    have e12 := e1.trans e2
    -- order
    refine q_asgL (xs := []) (el_lst ea_nil (Nat.zero_le _)) fun O H3 hO e3 hO3 => ?_
    have e13 := e12.trans e3
    have hW2 : H2 Wt = some (.lst xs) := e2 _ _ h1
    have nWR : Wt ≠ R := ne_of_none h1 hR
    have nWO : Wt ≠ O := ne_of_none hW2 hO
    have nRO : R ≠ O := ne_of_none h2 hO
    have hR0 : H R = none := fresh_back e1 hR
    have hO0 : H O = none := fresh_back e12 hO
    have cR : ∀ {c : Addr}, c ∈ bs → c ≠ R := fun hc z => by
      have := rw2.new _ hc
      rw [z, upd_same] at this
      cases this
    have cH1 : ∀ {c : Addr}, c ∈ bs → H1 c = none := fun hc => by
      have := rw2.new _ hc
      rwa [upd_ne (cR hc)] at this
    have cW : ∀ {c : Addr}, c ∈ bs → c ≠ Wt := fun hc z => by
      have := cH1 hc
      rw [z, h1] at this
      cases this
    have cH : ∀ {c : Addr}, c ∈ bs → H c = none := fun hc => fresh_back e1 (cH1 hc)
    have cO : ∀ {c : Addr}, c ∈ bs → c ≠ O := fun hc => by
      obtain ⟨j, hj⟩ := List.mem_iff_getElem?.mp hc
      exact ne_of_none (rw2.at' _ _ hj) hO
    have g0 : Greedy es tn [] es tn := Greedy.start E' fun p => pm p
    refine q_while (fun m σ' H' => ∃ (done ws : List Pr) (r : Nat → List Nat) (zs ys : List V) (y5 y6 y7 y8 : Option V), σ' = [some (.ref a), some (.ref t), some (.ref Wt), some (.ref R), some (.ref O), y5, y6, y7, y8] ∧ ws.length = m ∧ Greedy es tn done ws r ∧ Ex H H' ∧ H' Wt = some (.lst zs) ∧ PrsV H' zs ws ∧ H' R = some (.lst (bs.map V.ref)) ∧ RwV (upd H1 R (.lst [])) H' bs n r ∧ H' O = some (.lst ys) ∧ PrsV H' ys done)
      es.length ⟨[], es, tn, xs, [], _, _, _, _, rfl, rfl, g0, e13, e3 _ _ hW2, pa.ex e13, e3 _ _ h2, rw2.ex e3, hO3, .nil⟩ ?_
    · rintro m σ' H4 ⟨done, ws, r, zs, ys, y5, y6, y7, y8, rfl, wl, gr, e4, hW, pz, hRt, rg, hOy, py⟩
      have wle : ws.length ≤ 60 := by
        have := gr.pm.length_eq
        rw [List.length_append] at this
        omega
      have dle : done.length ≤ 60 := by
        have := gr.pm.length_eq
        rw [List.length_append] at this
        omega
      have zl := pz.length
      refine ⟨!zs.isEmpty, (fun H5 e5 Q' q' => ⟨.ref Wt, rfl, _, .inl ⟨zs, sq_of (e5 _ _ hW), rfl⟩, q' H5 (Ex.refl H5)⟩), fun hb H5 e5 => ?_, fun hb H5 e5 => ?_⟩
      · have wne : ws ≠ [] := fun z => by
          rw [z] at zl
          rw [List.length_eq_zero_iff.mp zl] at hb
          cases hb
        refine ⟨fun σ2 H2 => ∃ m', m' < m ∧ ∃ (done ws : List Pr) (r : Nat → List Nat) (zs ys : List V) (y5 y6 y7 y8 : Option V), σ2 = [some (.ref a), some (.ref t), some (.ref Wt), some (.ref R), some (.ref O), y5, y6, y7, y8] ∧ ws.length = m' ∧ Greedy es tn done ws r ∧ Ex H H2 ∧ H2 Wt = some (.lst zs) ∧ PrsV H2 zs ws ∧ H2 R = some (.lst (bs.map V.ref)) ∧ RwV (upd H1 R (.lst [])) H2 bs n r ∧ H2 O = some (.lst ys) ∧ PrsV H2 ys done, fun _ _ h => h, ?_⟩
        have inn : ∀ e ∈ ws, e.1 < n ∧ e.2 < n := fun e he => by have := E'.inn e (gr.inn he); omega
        have e45 := e4.trans e5
        -- ready
        refine q_te (lc_ready (σ := [some (.ref a), some (.ref t), some (.ref Wt), some (.ref R), some (.ref O), y5, y6, y7, y8]) (n := n) (R := R) rfl (e5 _ _ hW) (pz.ex e5) (e5 _ _ hRt) rg.len (rg.ex e5).at' inn (fun e he => gr.full E' he) (by omega) (fun _ _ => rfl) (fun _ _ => rfl) (fun _ _ => rfl) (fun _ _ => rfl) fun D H6 fs e6 hD h6 pf => ?_)
        have x6 := e5.trans e6
        have X6 := e4.trans x6
        have fne : ws.filter (rdy r) ≠ [] := fun z => by
          obtain ⟨e, he, k1, k2⟩ := gr.some E' wne
          have : e ∈ ws.filter (rdy r) := List.mem_filter.mpr ⟨he, by unfold rdy; rw [decide_eq_true k1, decide_eq_true k2]; rfl⟩
          rw [z] at this
          cases this
        -- p, q = min(ready)
        refine ⟨.ref D, rfl, D, fs, ws.filter (rdy r), rfl, h6, pf, fne, fun i v e hv he _ => ?_⟩
        obtain ⟨e', he', tp, rfl, htp⟩ := pf.get hv
        rw [he] at he'
        cases he'
        obtain ⟨ew, er⟩ := List.mem_filter.mp (List.mem_of_getElem? he)
        obtain ⟨⟨A, hA⟩, B, hB⟩ := rdy_head er
        obtain ⟨b1, b2⟩ := inn e ew
        have lt12 := E'.inn e (gr.inn ew)
        refine ⟨tp, _, rfl, st_of htp, rfl, _, _, rfl, _, [], rfl, rfl, ?_⟩
        obtain ⟨c1, hc1⟩ : ∃ c, bs[e.1]? = some c := ⟨_, List.getElem?_eq_getElem (by rw [rg.len]; omega)⟩
        obtain ⟨c2, hc2⟩ : ∃ c, bs[e.2]? = some c := ⟨_, List.getElem?_eq_getElem (by rw [rg.len]; omega)⟩
        have m1 := List.mem_of_getElem? hc1
        have m2 := List.mem_of_getElem? hc2
        have rg6 := rg.ex x6
        have at' : ∀ {j : Nat} {c : Addr}, bs[j]? = some c → (bs.map V.ref)[j]? = some (.ref c) := fun h => by
          rw [List.getElem?_map, h]
          rfl
        have hr1 := rg6.at' _ _ hc1
        rw [hA] at hr1
        -- rest[p].pop(0)
        refine ⟨.ref R, rfl, .int (e.1 : Int), rfl, R, _, (e.1 : Int), .ref c1, rfl, rfl, sq_of (x6 _ _ hRt), atI_nat (at' hc1), .inl ⟨rfl, _, sq_of hr1⟩, c1, nats (e.2 :: A), 0, 0, .int (e.2 : Int), rfl, rfl, hr1, by decide, by decide, (ixN_seq (ixN_nat (j := 0) (Nat.zero_lt_succ _))).1, rfl, ?_⟩
        have rg7 := rg6.put (l := A) hc1
        have hR7 : upd H6 c1 (.lst (nats A)) R = some (.lst (bs.map V.ref)) := by
          rw [upd_ne (cR m1).symm]
          exact x6 _ _ hRt
        have hW7 : upd H6 c1 (.lst (nats A)) Wt = some (.lst zs) := by
          rw [upd_ne (cW m1).symm]
          exact x6 _ _ hW
        have hO7 : upd H6 c1 (.lst (nats A)) O = some (.lst ys) := by
          rw [upd_ne (cO m1).symm]
          exact x6 _ _ hOy
        have pz7 : PrsV (upd H6 c1 (.lst (nats A))) zs ws := PrsV.upd (pz.ex x6) hr1
        have py7 : PrsV (upd H6 c1 (.lst (nats A))) ys done := PrsV.upd (py.ex x6) hr1
        have X7 : Ex H (upd H6 c1 (.lst (nats A))) := X6.mut (cH m1)
        have hr2 := rg7.at' _ _ hc2
        rw [if_neg (show ¬ e.2 = e.1 by omega), hB] at hr2
        show tSeq _ _ _ _ (upd H6 c1 (.lst (nats A)))
        generalize upd H6 c1 (.lst (nats A)) = H7 at *
        -- rest[q].pop(0)
        refine ⟨.ref R, rfl, .int (e.2 : Int), rfl, R, _, (e.2 : Int), .ref c2, rfl, rfl, sq_of hR7, atI_nat (at' hc2), .inl ⟨rfl, _, sq_of hr2⟩, c2, nats (e.1 :: B), 0, 0, .int (e.1 : Int), rfl, rfl, hr2, by decide, by decide, (ixN_seq (ixN_nat (j := 0) (Nat.zero_lt_succ _))).1, rfl, ?_⟩
        have rg8 := rg7.put (l := B) hc2
        have hR8 : upd H7 c2 (.lst (nats B)) R = some (.lst (bs.map V.ref)) := by
          rw [upd_ne (cR m2).symm]
          exact hR7
        have hW8 : upd H7 c2 (.lst (nats B)) Wt = some (.lst zs) := by
          rw [upd_ne (cW m2).symm]
          exact hW7
        have hO8 : upd H7 c2 (.lst (nats B)) O = some (.lst ys) := by
          rw [upd_ne (cO m2).symm]
          exact hO7
        have pz8 : PrsV (upd H7 c2 (.lst (nats B))) zs ws := PrsV.upd pz7 hr2
        have py8 : PrsV (upd H7 c2 (.lst (nats B))) ys done := PrsV.upd py7 hr2
        have X8 : Ex H (upd H7 c2 (.lst (nats B))) := X7.mut (cH m2)
        show tSeq _ _ _ _ (upd H7 c2 (.lst (nats B)))
        generalize upd H7 c2 (.lst (nats B)) = H8 at *
        -- waiting.remove((p, q))
        obtain ⟨j, v, hzj, hwj, _⟩ := PrsV.take_get pz8 ew
        have wnd : ws.Nodup := (List.nodup_append.mp (gr.pm.nodup_iff.mpr E'.nodup)).2.1
        refine ⟨.ref Wt, rfl, .inl ⟨rfl, _, sq_of hW8⟩, .int (e.1 : Int), rfl, .int (e.2 : Int), rfl, show 2 ≤ sizeLine by decide, fun t2 ht2 => ?_⟩
        have eT := Ex.new (o := .tup [.int (e.1 : Int), .int (e.2 : Int)]) ht2
        refine ⟨Wt, zs, ws, .ref t2, e, j, rfl, rfl, eT _ _ hW8, pz8.ex eT, ⟨t2, rfl, upd_same⟩, hwj, fun m hm => first_nodup wnd hwj hm, ?_⟩
        have hR9 : upd (upd H8 t2 (.tup [.int (e.1 : Int), .int (e.2 : Int)])) Wt (.lst (zs.eraseIdx j)) R = some (.lst (bs.map V.ref)) := by
          rw [upd_ne nWR.symm]
          exact eT _ _ hR8
        have hO9 : upd (upd H8 t2 (.tup [.int (e.1 : Int), .int (e.2 : Int)])) Wt (.lst (zs.eraseIdx j)) O = some (.lst ys) := by
          rw [upd_ne nWO.symm]
          exact eT _ _ hO8
        have hW9 : upd (upd H8 t2 (.tup [.int (e.1 : Int), .int (e.2 : Int)])) Wt (.lst (zs.eraseIdx j)) Wt = some (.lst (zs.eraseIdx j)) := upd_same
        have pz9 : PrsV (upd (upd H8 t2 (.tup [.int (e.1 : Int), .int (e.2 : Int)])) Wt (.lst (zs.eraseIdx j))) (zs.eraseIdx j) (ws.eraseIdx j) := PrsV.upd ((PrsV.era j pz8).ex eT) (eT _ _ hW8)
        have py9 : PrsV (upd (upd H8 t2 (.tup [.int (e.1 : Int), .int (e.2 : Int)])) Wt (.lst (zs.eraseIdx j))) ys done := PrsV.upd (py8.ex eT) (eT _ _ hW8)
        have X9 : Ex H (upd (upd H8 t2 (.tup [.int (e.1 : Int), .int (e.2 : Int)])) Wt (.lst (zs.eraseIdx j))) := (X8.trans eT).mut hWt
        have rg9 : RwV (upd H1 R (.lst [])) (upd (upd H8 t2 (.tup [.int (e.1 : Int), .int (e.2 : Int)])) Wt (.lst (zs.eraseIdx j))) bs n _ := (rg8.ex eT).off (u := .lst xs) (by rw [upd_ne nWR]; exact h1)
        dsimp only
        generalize upd (upd H8 t2 (.tup [.int (e.1 : Int), .int (e.2 : Int)])) Wt (.lst (zs.eraseIdx j)) = H9 at *
        have yl := py9.length
        have jl : j < ws.length := (List.getElem?_eq_some_iff.mp hwj).1
        -- order.append((p, q))
        refine s_appU (ys := [.int (e.1 : Int), .int (e.2 : Int)]) hO9 (ev_var rfl) (eu_tup (ea_cons (ev_var rfl) (ea_cons (ev_var rfl) ea_nil)) (by show 2 ≤ 100000; decide)) (by omega) fun t3 Ha ht3 ea ht3' => ?_
        have Xa := X9.trans ea
        refine ⟨(ws.eraseIdx j).length, by rw [List.length_eraseIdx_of_lt jl]; omega, done ++ [e], ws.eraseIdx j, _, zs.eraseIdx j, ys ++ [.ref t3], _, _, _, _, rfl, rfl, gr.step E' hA hB (era_perm hwj), Xa.mut hO0, ?_, PrsV.upd (pz9.ex ea) (ea _ _ hO9), ?_, ?_, upd_same, PrsV.upd ((py9.ex ea).append (.cons ⟨t3, rfl, ht3'⟩ .nil)) (ea _ _ hO9)⟩
        · rw [upd_ne nWO]
          exact ea _ _ hW9
        · rw [upd_ne nRO]
          exact ea _ _ hR9
        · refine ⟨rg9.len, rg9.new, fun i c hc => ?_, rg9.nd⟩
          rw [upd_ne (cO (List.mem_of_getElem? hc))]
          exact ea _ _ (rg9.at' i c hc)
      · have we : ws = [] := by
          cases zs with
          | nil => exact List.length_eq_zero_iff.mp zl.symm
          | cons z zs => cases hb
        subst we
        obtain ⟨f1, f2⟩ := gr.fin
        exact s_ret (v := .ref O) (ev_var rfl) fun H6 e6 => q H6 O done ((e4.trans e5).trans e6) hO0 ⟨O, ys, rfl, e6 _ _ (e5 _ _ hOy), py.ex (e5.trans e6)⟩ f1 f2
end
end K15
namespace K15
open PySem PySem.Spec PyProof.Rows L2 Os Evl
abbrev sItem : Stmt := topS 27
abbrev sArr : Stmt := topS 28
theorem scItem : FnScope ["thing", "letter"] ["thing"] (defScope sItem) := ⟨rfl, rfl, rfl, by decide +kernel, rfl, by decide +kernel, by decide +kernel⟩
theorem scArr : FnScope ["n", "thing", "entry"] ["n", "thing"] (defScope sArr) := ⟨rfl, rfl, rfl, by decide +kernel, rfl, by decide +kernel, by decide +kernel⟩

/-- a letter's code -/
def letterB (c : Nat) : Bool := decide (97 ≤ c) && decide (c ≤ 122)
def nameB (z : Str) : Bool := decide (1 ≤ z.length) && decide (z.length ≤ 8) && z.cps.toList.all letterB
def itemB : PyData → Bool
  | .str z => nameB z
  | _ => false
/-- the texts among them are not too long -/
def ShortS : PyData → Prop
  | .str z => z.length ≤ 1000 ∧ PyData.strOk z = true
  | _ => True

/-- the length test as the program does it -/
def itemLen : PyData → Bool
  | .str z => decide ((1 : Int) ≤ (z.length : Int)) && decide ((z.length : Int) ≤ 8)
  | _ => false
theorem lenB (z : Str) : (decide (1 ≤ z.length) && decide (z.length ≤ 8)) = itemLen (.str z) := by
  show _ = (decide ((1 : Int) ≤ (z.length : Int)) && decide ((z.length : Int) ≤ 8))
  rw [decide_eq_decide.mpr (show 1 ≤ z.length ↔ (1 : Int) ≤ (z.length : Int) by omega), decide_eq_decide.mpr (show z.length ≤ 8 ↔ (z.length : Int) ≤ 8 by omega)]

section
variable {P : Program} {w : World} {K : PySem.W.Frag} {mg : Str → Option Value} {base : Heap}
def spItem : Sp := fun vs H Q _ => ∃ v d, vs = [v] ∧ Dt H v d ∧ ShortS d ∧ ∀ H', Same H H' → Q (.bl (itemB d)) H'

theorem sign_le (c : Nat) : (!decide ((⟨#[c]⟩ : Str).cps.toList < ("a" : Str).cps.toList)) = decide (97 ≤ c) := by
  have e : ("a" : Str).cps.toList = [97] := by decide
  rw [e]
  show (!decide ([c] < [97])) = _
  by_cases h : c < 97
  · rw [decide_eq_true (show [c] < [97] from List.Lex.rel h), decide_eq_false (by omega)]
    rfl
  · rw [decide_eq_false (show ¬ [c] < [97] from fun z => by
      cases z with
      | rel z => exact h z
      | cons z => cases z), decide_eq_true (by omega)]
    rfl
theorem le_sign (c : Nat) : (!decide (("z" : Str).cps.toList < (⟨#[c]⟩ : Str).cps.toList)) = decide (c ≤ 122) := by
  have e : ("z" : Str).cps.toList = [122] := by decide
  rw [e]
  show (!decide ([122] < [c])) = _
  by_cases h : 122 < c
  · rw [decide_eq_true (show [122] < [c] from List.Lex.rel h), decide_eq_false (by omega)]
    rfl
  · rw [decide_eq_false (show ¬ [122] < [c] from fun z => by
      cases z with
      | rel z => exact h z
      | cons z => cases z), decide_eq_true (by omega)]
    rfl

theorem ok_item {f : Addr} {fd : FuncData} {k : Nat} (F : Fun K "is_item" "is_item" sItem f fd) (mI : mg "isinstance" = none) (mS : mg "str" = none) (mL : mg "len" = none) (mA : mg "all" = none)
    {t8 : Tok} (m8 : mg "MOST_LETTERS" = some (.int 8 t8)) : FnOk P w K mg base CX0 (k + 1) f fd ["thing"] spItem := by
  refine F.ok scItem (fun vs H Q E h => ?_) (fun cdv A outer s H vs Q E hr h => ?_)
  · obtain ⟨v, d, rfl, _⟩ := h
    rfl
  · obtain ⟨v, d, rfl, hd, hz, q⟩ := h
    refine ⟨_, pss_cons (ps_if (PW.pt (pw_or (pt_not (pt_val (pe_callB call_isi (by rfl) mI boot_isinstance (pa_cons (pv 0) (pa_cons (pe_bltn (v := .ty "str") (by rfl) mS boot_str rfl) pa_nil)))))
        (pw_or1 (pt_not (pt_chain op_le op_le pe_int (pe_callB call_len_str (by rfl) mL boot_len (pa_cons (pv 0) pa_nil)) (pe_glob (v := .int 8) (by rfl) m8 ⟨_, rfl⟩))))))
        (pss_one (ps_ret pe_bl)) pss_nil)
      (pss_one (ps_ret (pe_callB (cr_all rfl) (by rfl) mA boot_all (pa_cons
        (pe_lc (own := [("letter", 1)]) (g := gName 1) (tt := tYes) rfl scItem.nd (pi_str (pv 0)) (blkOk_by (N := ["thing", "letter"]) (sc := defScope sItem) (by decide +kernel))
          (fun _ _ _ _ _ => pg_name (i := 1) scItem.nd rfl (Or.inl rfl)) (fun _ _ _ _ _ => pts_nil)
          (fun _ _ _ _ _ => pe_chain op_le_str op_le_str pe_str (pv 1) pe_str)) pa_nil)))), ?_⟩
    have e0 : Ev (tVar 0) (start ["thing", "letter"] [v]) H v := ev_var rfl
    refine q_when (b := !isStrD d || !(itemLen d)) (et_or (et_not (et_B (ev_isi e0 hd (kit_str d)))) fun hs => et_not (et_test ?_)) ?_ ?_
    · rcases hd.str_or with ⟨z, rfl, rfl⟩ | hn
      · exact ev_chain ev_c (ev_lenS e0 (Nat.le_trans hz.1 (by decide))) rv_I0 fun _ => ⟨_, ev_c, rv_I0⟩
      · rw [hn] at hs
        cases hs
    · intro hb H1 e1
      have : itemB d = false := by
        rcases hd.str_or with ⟨z, rfl, rfl⟩ | hn
        · have hb' : (!itemLen (.str z)) = true := hb
          show (_ && _) = false
          rw [show (decide (1 ≤ z.length) && decide (z.length ≤ 8)) = itemLen (.str z) from lenB z, (Bool.not_eq_true' _).mp hb']
          rfl
        · cases d <;> first | rfl | cases hn
      rw [← this]
      exact q H1 e1
    · intro hb H1 e1
      rcases hd.str_or with ⟨z, rfl, rfl⟩ | hn
      · have hb' : itemLen (.str z) = true := by
          have hb2 : (!itemLen (.str z)) = false := hb
          exact (Bool.not_eq_false' _).mp hb2
        refine s_ret (v := .bl (itemB (.str z))) (ev_is (ev_all (bs := z.cps.toList.map letterB) ?_) ?_) fun H2 e2 => q H2 (e1.trans e2)
        · rw [List.map_map, ← given_map z.cps.toList (V.bl ∘ letterB) (fun i => .bl (letterB (z.cps.toList.getD i 0))) (fun i x e => by
            rw [List.getD_eq_getElem?_getD, e]
            rfl)]
          rw [Array.length_toList]
          refine el_lcS (f := fun _ => true) (v := _) (ev_var rfl) (Nat.le_trans hz.1 (by decide)) (fun _ => rfl) (fun i c H2 _ _ => fun H3 e3 Q q => q H3 (Ex.refl H3)) (fun i c H2 e2 hc _ => ?_)
          rw [List.getD_eq_getElem?_getD, hc]
          show Ev _ _ _ (.bl (letterB c))
          have e4 : letterB c = ((!decide ((⟨#[c]⟩ : Str).cps.toList < ("a" : Str).cps.toList)) && (!decide (("z" : Str).cps.toList < (⟨#[c]⟩ : Str).cps.toList))) := by
            rw [sign_le, le_sign]
            rfl
          rw [e4]
          exact ev_chain ev_c (ev_var rfl) rv_leS fun _ => ⟨_, ev_c, rv_leS⟩
        · show V.bl _ = V.bl (_ && _)
          rw [show (decide (1 ≤ z.length) && decide (z.length ≤ 8)) = itemLen (.str z) from lenB z, hb', List.all_map]
          rfl
      · have hb2 : (!isStrD d || !itemLen d) = false := hb
        rw [hn] at hb2
        cases hb2
end
end K15
namespace K15
open PySem PySem.Spec PyProof.Rows L2 Os Evl

/-- the texts among them -/
def strsOf : List PyData → List Str
  | [] => []
  | .str z :: r => z :: strsOf r
  | _ :: r => strsOf r
theorem all_strs {H : Hp} : ∀ {ds : List PyData} {xs : List V}, Dts H xs ds → ds.all itemB = true → xs = (strsOf ds).map V.str ∧ ds = (strsOf ds).map PyData.str
  | [], _, .nil, _ => ⟨rfl, rfl⟩
  | d :: ds, _, .cons h t, e => by
    rw [List.all_cons, Bool.and_eq_true] at e
    obtain ⟨h1, h2⟩ := all_strs t e.2
    cases h with
    | str z =>
      show V.str z :: _ = V.str z :: _ ∧ PyData.str z :: _ = PyData.str z :: _
      exact ⟨by rw [← h1], by rw [← h2]⟩
    | _ => cases e.1
def rowB (n : Int) : PyData → Bool
  | .list ds => decide ((ds.length : Int) = n) && ds.all itemB && decide (strsOf ds).Nodup
  | _ => false
def ShortL : PyData → Prop
  | .list ds => ds.length ≤ 1000 ∧ ∀ d ∈ ds, ShortS d
  | _ => True
section
variable {K : PySem.W.Frag} {σ : L2.St} {H : Hp} {ta : TE}
theorem ev_lenSet {l : Addr} {zs : List Str} (h : Ev ta σ H (.ref l)) (hs : SqL K H l (zs.map V.str)) (hl : zs.length ≤ 4000) : Ev (tLenSetS K ta) σ H (.int (met zs zs.length).length) := fun H1 e Q q =>
  h H1 e _ fun H2 e2 => ⟨l, zs, rfl, ex_l (e.trans e2) hs, hl, q H2 e2⟩
end
section
variable {P : Program} {w : World} {K : PySem.W.Frag} {mg : Str → Option Value} {base : Heap}
def spArr : Sp := fun vs H Q _ => ∃ n v d, vs = [.int n, v] ∧ Dt H v d ∧ ShortL d ∧ ∀ H', Ex H H' → Q (.bl (rowB n d)) H'
theorem ok_arr {f fI : Addr} {fd fdI : FuncData} {k : Nat} (F : Fun K "is_arrangement" "is_arrangement" sArr f fd) (GI : FnOk P w K mg base CX0 k fI fdI ["thing"] spItem) (FI : Fun K "is_item" "is_item" sItem fI fdI) (bI : Binds K fdI ["thing"] [])
    (gI : mg "is_item" = some (.ref fI)) (mI : mg "isinstance" = none) (mS : mg "list" = none) (mL : mg "len" = none) (mA : mg "all" = none) (mT : mg "set" = none) : FnOk P w K mg base CX0 (k + 1) f fd ["n", "thing"] spArr := by
  refine F.ok scArr (fun vs H Q E h => ?_) (fun cdv A outer s H vs Q E hr h => ?_)
  · obtain ⟨n, v, d, rfl, _⟩ := h
    rfl
  · obtain ⟨n, v, d, rfl, hd, hz, q⟩ := h
    refine ⟨_, pss_cons (ps_if (PW.pt (pw_or (pt_not (pt_val (pe_callB call_isi (by rfl) mI boot_isinstance (pa_cons (pv 1) (pa_cons (pe_bltn (v := .ty "list") (by rfl) mS boot_list rfl) pa_nil)))))
        (pw_or1 (pt_cmpR op_ne (pe_callB call_len_seq (by rfl) mL boot_len (pa_cons (pv 1) pa_nil)) (pv 0) (nomark _)))))
        (pss_one (ps_ret pe_bl)) pss_nil)
      (pss_cons (ps_if (pt_not (pt_val (pe_callB (cr_all rfl) (by rfl) mA boot_all (pa_cons
        (pe_lc (own := [("entry", 2)]) (g := gName 2) (tt := tYes) rfl scArr.nd (pi_list (pv 1)) (blkOk_by (N := ["n", "thing", "entry"]) (sc := defScope sArr) (by decide +kernel))
          (fun _ _ _ _ _ => pg_name (i := 2) scArr.nd rfl (Or.inl rfl)) (fun _ _ _ _ _ => pts_nil)
          (fun _ _ _ _ _ => pe_call GI hr (by rfl) gI FI.kp bI .nil pass0 (pa_cons (pv 2) pa_nil))) pa_nil))))
        (pss_one (ps_ret pe_bl)) pss_nil)
      (pss_one (ps_ret (pe_cmpR op_eq (pe_lenSetS (by rfl) mL (by rfl) mT (pv 1)) (pv 0) (nomark _))))), ?_⟩
    have e0 : Ev (tVar 1) (start ["n", "thing", "entry"] [.int n, v]) H v := ev_var rfl
    have en : Ev (tVar 0) (start ["n", "thing", "entry"] [.int n, v]) H (.int n) := ev_var rfl
    rcases hd.list_or with ⟨a, xs, ds, rfl, ha, ht, rfl⟩ | hn
    · have hlen : xs.length = ds.length := ht.length
      refine q_when (b := !true || !decide (V.int xs.length = V.int n)) (et_or (et_not (et_B (ev_isi e0 hd (kit_list _)))) fun _ => et_test (ev_op (ev_len' e0 ha) en (rv_ne rfl))) ?_ ?_
      · intro hb H1 e1
        have : rowB n (.list ds) = false := by
          have hb2 : (!decide (V.int xs.length = V.int n)) = true := hb
          have hb3 := of_decide_eq_false ((Bool.not_eq_true' _).mp hb2)
          show (_ && _ && _) = false
          rw [decide_eq_false (show ¬ (ds.length : Int) = n from fun z => hb3 (by rw [hlen, z]))]
          rfl
        rw [← this]
        exact q H1 e1
      · intro hb H1 e1
        have hb2 : (!decide (V.int xs.length = V.int n)) = false := hb
        have hb3 := V.int.inj (of_decide_eq_true ((Bool.not_eq_false' _).mp hb2))
        have d1 := hd.same (same_ex e1)
        have items : ∀ i x, xs[i]? = some x → ∃ d, ds[i]? = some d ∧ Dt H1 x d ∧ ShortS d := fun i x e => by
          obtain ⟨d, h1, h2⟩ := ht.get e
          exact ⟨d, h1, h2.same (same_ex e1), hz.2 d (List.mem_of_getElem? h1)⟩
        refine q_when (b := !(ds.all itemB)) (et_not (et_B (ev_is (ev_all (bs := ds.map itemB) ?_) (by rw [List.all_map]; rfl)))) ?_ ?_
        · rw [List.map_map, ← given_map ds (V.bl ∘ itemB) (fun i => .bl (itemB (ds.getD i .none))) (fun i x e => by
            rw [List.getD_eq_getElem?_getD, e]
            rfl), ← hlen]
          refine el_lcL (f := fun _ => true) (v := _) (ev_var rfl) (sq_of (e1 _ _ ha)) (by rw [hlen]; exact Nat.le_trans hz.1 (by decide)) (fun _ => rfl) (fun i c H2 _ _ => fun H3 e3 Q q => q H3 (Ex.refl H3)) (fun i x H2 e2 hx _ => ?_)
          obtain ⟨d, h1, h2, h3⟩ := items i x hx
          rw [List.getD_eq_getElem?_getD, h1]
          exact ev_sp (ea_cons (ev_var rfl) ea_nil) fun H3 e3 Q q => ⟨x, d, rfl, h2.same (same_ex (e2.trans e3)), h3, fun H4 e4 => q H4 e4⟩
        · intro hb H2 e2
          have : rowB n (.list ds) = false := by
            show (_ && _ && _) = false
            rw [(Bool.not_eq_true' _).mp hb, Bool.and_false]
            rfl
          rw [← this]
          exact q H2 (e1.trans e2)
        · intro hb H2 e2
          have hall := (Bool.not_eq_false' _).mp hb
          obtain ⟨h1, h2⟩ := all_strs ht hall
          have hl2 : (strsOf ds).length = ds.length := by
            rw [← hlen, h1, List.length_map]
          refine s_ret (v := .bl (rowB n (.list ds))) (ev_is (ev_op (ev_lenSet (zs := strsOf ds) (ev_var rfl) (by rw [← h1]; exact sq_of (e2 _ _ (e1 _ _ ha))) (by rw [hl2]; exact Nat.le_trans hz.1 (by decide))) (ev_var rfl) (rv_eq rfl)) ?_) fun H3 e3 => q H3 ((e1.trans e2).trans e3)
          show V.bl _ = V.bl (_ && _ && _)
          rw [hall, decide_eq_true (show (ds.length : Int) = n by rw [← hlen]; exact hb3), Bool.true_and, Bool.true_and, ← hb3]
          refine congrArg V.bl (decide_eq_decide.mpr ?_)
          rw [← met_all, hl2, hlen]
          exact ⟨fun z => by have := V.int.inj z; omega, fun z => by rw [z]⟩
    · refine q_when (b := true) (et_is (et_or (b := true) (et_not (et_B (ev_isi e0 hd (kit_list _)))) fun hs => ?_) ?_) ?_ ?_
      · rw [hn] at hs
        cases hs
      · rw [hn]
        rfl
      · intro _ H1 e1
        have : rowB n d = false := by
          cases d <;> first | rfl | cases hn
        rw [← this]
        exact q H1 e1
      · intro hb
        cases hb
end
end K15
namespace K15
open PySem PySem.Spec PyProof.Rows L2 Os Evl
abbrev sChkA : Stmt := topS 30
theorem scChkA : FnScope ["n", "items"] ["n", "items"] (defScope sChkA) := ⟨rfl, rfl, rfl, by decide +kernel, rfl, by decide +kernel, by decide +kernel⟩
abbrev sLabels : Stmt := topS 48
theorem scLabels : FnScope ["source", "size", "letters", "pool", "k", "sign"] ["source", "size"] (defScope sLabels) := ⟨rfl, rfl, rfl, by decide +kernel, rfl, by decide +kernel, by decide +kernel⟩
abbrev sSwapped : Stmt := topS 32
theorem scSwapped : FnScope ["items", "edges", "result", "p", "q"] ["items", "edges"] (defScope sSwapped) := ⟨rfl, rfl, rfl, by decide +kernel, rfl, by decide +kernel, by decide +kernel⟩
def alphabet : Str := "abcdefghijklmnopqrstuvwxyz"
theorem rv_addS {H : Hp} {i j : Str} (h : i.length + j.length ≤ 100000) : RV (fun x y H Q => ∃ i j, x = .str i ∧ y = .str j ∧ i.length + j.length ≤ sizeLine ∧ Q (.str (i ++ j)) H) (.str i) (.str j) H (.str (i ++ j)) :=
  fun H1 _ _ q => ⟨i, j, rfl, rfl, sz_of h, q H1 (Ex.refl H1)⟩
theorem rv_mulS {H : Hp} {z : Str} {n : Int} (h : MulOk z n) : RV rMulS (.str z) (.int n) H (.str (Txt.mul z n)) :=
  fun H1 _ _ q => ⟨z, n, rfl, rfl, h, q H1 (Ex.refl H1)⟩
/-- a list of texts -/
def ArrV (G : Hp) (v : V) (zs : List Str) : Prop := ∃ a, v = .ref a ∧ G a = some (.lst (zs.map V.str))
theorem ArrV.ex {G G' : Hp} {v : V} {zs : List Str} (h : ArrV G v zs) (e : Ex G G') : ArrV G' v zs := by
  obtain ⟨a, h1, h2⟩ := h
  exact ⟨a, h1, e _ _ h2⟩
theorem ArrV.dt {G : Hp} {v : V} {zs : List Str} (h : ArrV G v zs) : Dt G v (.list (zs.map PyData.str)) := by
  obtain ⟨a, rfl, h2⟩ := h
  exact .lst h2 (dts_strs zs)
structure ArrOk (zs : List Str) (n : Nat) : Prop where
  len : zs.length = n
  ok : ∀ z ∈ zs, nameB z = true ∧ PyData.strOk z = true
  nd : zs.Nodup
theorem ArrOk.perm {zs us : List Str} {n : Nat} (h : ArrOk zs n) (p : us.Perm zs) : ArrOk us n := ⟨by rw [p.length_eq, h.len], fun z hz => h.ok z (p.mem_iff.mp hz), p.nodup_iff.mpr h.nd⟩
theorem strsOf_map : ∀ zs : List Str, strsOf (zs.map PyData.str) = zs
  | [] => rfl
  | z :: zs => congrArg (z :: ·) (strsOf_map zs)
theorem name_short {z : Str} (h : nameB z = true) : z.length ≤ 8 := by
  unfold nameB at h
  rw [Bool.and_eq_true, Bool.and_eq_true] at h
  exact of_decide_eq_true h.1.2
theorem ArrOk.row {zs : List Str} {n : Nat} (h : ArrOk zs n) : rowB (n : Int) (.list (zs.map PyData.str)) = true := by
  show (decide (((zs.map PyData.str).length : Int) = (n : Int)) && (zs.map PyData.str).all itemB && decide (strsOf (zs.map PyData.str)).Nodup) = true
  rw [strsOf_map, List.length_map, decide_eq_true (by rw [h.len]), decide_eq_true h.nd, Bool.true_and, Bool.and_true]
  refine List.all_eq_true.mpr fun d hd => ?_
  obtain ⟨z, hz, rfl⟩ := List.mem_map.mp hd
  exact (h.ok z hz).1
theorem ArrOk.short {zs : List Str} {n : Nat} (h : ArrOk zs n) (hn : n ≤ 40) : ShortL (.list (zs.map PyData.str)) := by
  refine ⟨by rw [List.length_map, h.len]; omega, fun d hd => ?_⟩
  obtain ⟨z, hz, rfl⟩ := List.mem_map.mp hd
  exact ⟨Nat.le_trans (name_short (h.ok z hz).1) (by decide), (h.ok z hz).2⟩
theorem sh_strs {zs : List Str} (h : ∀ z ∈ zs, PyData.strOk z = true) : Sh 1 (.list (zs.map PyData.str)) := .lst fun d hd => by
  obtain ⟨z, hz, rfl⟩ := List.mem_map.mp hd
  exact .str 0 (h z hz)
theorem dts_dummy : True := trivial

theorem alph_list : alphabet.cps.toList = (List.range 26).map fun k => 97 + k := by decide
theorem era_map {α β : Type} (f : α → β) : ∀ (l : List α) (j : Nat), (l.map f).eraseIdx j = (l.eraseIdx j).map f
  | [], _ => rfl
  | _ :: _, 0 => rfl
  | x :: l, j + 1 => congrArg (f x :: ·) (era_map f l j)
/-- the pool of items -/
def poolS : List Str := ((List.range 26).map fun k => (⟨#[97 + k]⟩ : Str)) ++ ((List.range 26).map fun k => Txt.mul ⟨#[97 + k]⟩ 8) ++ ((List.range 26).map fun k => ("a" : Str) ++ (⟨#[97 + k]⟩ : Str))
theorem pool_len : poolS.length = 78 := by decide +kernel
theorem pool_ok : (poolS.all fun z => nameB z && PyData.strOk z) = true ∧ poolS.Nodup := by decide +kernel
theorem el_listS {σ : L2.St} {H : Hp} {ta : TE} {z : Str} (h : Ev ta σ H (.str z)) (hz : z.length ≤ 100000) : EvL (tCB rListStr (tCons ta tNil)) σ H (signsV z) := fun H1 e Q q =>
  h H1 e _ fun H2 e2 => ⟨z, rfl, sz_of hz, fun l hl => q l _ (fresh_back e2 hl) (e2.trans (Ex.new hl)) upd_same⟩
theorem signs_alph : signsV alphabet = ((List.range 26).map fun k => (⟨#[97 + k]⟩ : Str)).map V.str := by
  unfold signsV
  rw [alph_list, List.map_map, List.map_map]
  rfl
section
variable {P : Program} {w : World} {K : PySem.W.Frag} {mg : Str → Option Value} {base : Heap}
def spChkA : Sp := fun vs H Q _ => ∃ (v : V) (n : Nat) (zs : List Str), vs = [.int (n : Int), v] ∧ ArrV H v zs ∧ ArrOk zs n ∧ n ≤ 40 ∧ ∀ H', Ex H H' → Q .non H'
theorem ok_chkA {f fA : Addr} {fd fdA : FuncData} {k : Nat} (F : Fun K "check_arrangement" "check_arrangement" sChkA f fd)
    (GA : FnOk P w K mg base CX0 k fA fdA ["n", "thing"] spArr) (FA : Fun K "is_arrangement" "is_arrangement" sArr fA fdA) (bA : Binds K fdA ["n", "thing"] []) (gA : mg "is_arrangement" = some (.ref fA)) : FnOk P w K mg base CX0 (k + 1) f fd ["n", "items"] spChkA := by
  refine F.ok scChkA (fun vs H Q E h => ?_) (fun cdv A outer s H vs Q E hr h => ?_)
  · obtain ⟨v, n, zs, rfl, _⟩ := h
    rfl
  · obtain ⟨v, n, zs, rfl, hv, ok, hn, q⟩ := h
    refine ⟨_, (pss_one (ps_if (pt_not (pt_val (pe_call GA hr (by rfl) gA FA.kp bA .nil pass0 (pa_cons (pv 0) (pa_cons (pv 1) pa_nil))))) pss_never pss_nil)), ?_⟩
    refine s_when (b := !true) (et_not (et_B (ev_sp (ea_cons (ev_var rfl) (ea_cons (ev_var rfl) ea_nil)) fun H1 e1 Q q => ⟨(n : Int), v, .list (zs.map PyData.str), rfl, (hv.ex e1).dt, ok.short hn, fun H2 e2 => by rw [ok.row]; exact q H2 e2⟩))) (fun h => nomatch h) fun _ H1 e1 => q H1 e1

def spLabels : Sp := fun vs H Q _ => ∃ (s : Addr) (n B : Nat), vs = [.ref s, .int (n : Int)] ∧ Src H s B ∧ n ≤ 40 ∧ B ≤ 800000 ∧
  ∀ (H' : Hp) (p : Addr) (zs : List Str), Drew s (B + n) H H' → H p = none → H' p = some (.lst (zs.map V.str)) → ArrOk zs n → Q (.ref p) H'
theorem ok_labels {f fP : Addr} {fd fdP : FuncData} {k : Nat} (F : Fun K "_law_labels" "_law_labels" sLabels f fd) (GP : FnOk P w K mg base CX0 k fP fdP ["source", "wide"] spPick) (FP : Fun K "_law_pick" "_law_pick" sPick fP fdP) (bP : Binds K fdP ["source", "wide"] [])
    (gP : mg "_law_pick" = some (.ref fP)) (mList : mg "list" = none) (mLen : mg "len" = none) (mRange : mg "range" = none) : FnOk P w K mg base CX0 (k + 1) f fd ["source", "size"] spLabels := by
  refine F.ok scLabels (fun vs H Q E h => ?_) (fun cdv A outer st H vs Q E hr h => ?_)
  · obtain ⟨s, n, B, rfl, _⟩ := h
    rfl
  · obtain ⟨s, n, B, rfl, hS, hn, hB, q⟩ := h
    refine ⟨_, (pss_cons (ps_set (i := 2) scLabels.nd rfl (.inl rfl) pe_str)
      (pss_cons (ps_set (i := 3) scLabels.nd rfl (.inr rfl) (pe_op op_cat (pe_op op_cat (pe_callTy (call_listS rfl) (by rfl) mList boot_list (pa_cons (pv 2) pa_nil)) (pe_lc (own := [("sign", 5)]) (g := gName 5) (tt := tYes) (te := tOp rMulS (tVar 5) (tC (.int 8))) rfl scLabels.nd (pi_str (pv 2)) (blkOk_by (N := ["source", "size", "letters", "pool", "k", "sign"]) (sc := defScope sLabels) (by decide +kernel)) (fun _ _ _ _ _ => pg_name (i := 5) scLabels.nd rfl (Or.inl rfl)) (fun _ _ _ _ _ => pts_nil) (fun _ _ _ _ _ => (pe_op op_mulS (pv 5) pe_int)))) (pe_lc (own := [("sign", 5)]) (g := gName 5) (tt := tYes) rfl scLabels.nd (pi_str (pv 2)) (blkOk_by (N := ["source", "size", "letters", "pool", "k", "sign"]) (sc := defScope sLabels) (by decide +kernel)) (fun _ _ _ _ _ => pg_name (i := 5) scLabels.nd rfl (Or.inl rfl)) (fun _ _ _ _ _ => pts_nil) (fun _ _ _ _ _ => (pe_op op_add_str pe_str (pv 5))))))
      (pss_one (ps_ret (pe_lc (own := [("k", 4)]) (g := gName 4) (tt := tYes) (te := tBM K "list" rPopAt (tVar 3) (tCons (tCall spPick [] E0 (tCons (tVar 0) (tCons (tCB (rLenS K) (tCons (tVar 3) tNil)) tNil))) tNil)) rfl scLabels.nd (pi_range1 (by rfl) mRange (pa_cons (pv 1) pa_nil)) (blkOk_by (N := ["source", "size", "letters", "pool", "k", "sign"]) (sc := defScope sLabels) (by decide +kernel)) (fun _ _ _ _ _ => pg_name (i := 4) scLabels.nd rfl (Or.inl rfl)) (fun _ _ _ _ _ => pts_nil) (fun _ _ _ _ _ => (pe_bm PySem.F.plainAttrs_list PySem.F.slot_list_pop PySem.F.type_list_pop mt_popAt (pv 3) (pa_cons (pe_call GP hr (by rfl) gP FP.kp bP .nil pass0 (pa_cons (pv 0) (pa_cons (pe_callB call_len_seq (by rfl) mLen boot_len (pa_cons (pv 3) pa_nil)) pa_nil))) pa_nil)))))))), ?_⟩
    have src0 := hS.at
    refine q_asg (v := .str alphabet) ev_c fun H1 e1 => ?_
    have sL : alphabet.length ≤ 100000 := by decide
    have sL2 : alphabet.length ≤ 40000 := by decide
    have l26 : alphabet.length = 26 := by decide
    have small : ∀ c : Nat, ((⟨#[c]⟩ : Str)).length = 1 := fun _ => rfl
    have at26 : ∀ {i c : Nat}, alphabet.cps.toList[i]? = some c → c = 97 + i ∧ i < 26 := fun {i c} h => by
      rw [alph_list, List.getElem?_map] at h
      cases hz : (List.range 26)[i]? with
      | none => rw [hz] at h; cases h
      | some y =>
        rw [hz] at h
        obtain ⟨lt, e⟩ := List.getElem?_eq_some_iff.mp hz
        rw [List.length_range] at lt
        rw [List.getElem_range] at e
        have h' : some (97 + y) = some c := h
        have h2 := Option.some.inj h'
        exact ⟨by omega, by omega⟩
    -- the pool
    refine q_te ((el_listS (ev_var rfl) sL) H1 (Ex.refl H1) _ fun p1 H2 hp1 e2 h2 => ?_)
    refine (el_lcS (j := 5) (vs := [5]) (t := tYes) (te := tOp rMulS (tVar 5) (tC (.int 8))) (fun _ => true) (fun i => .str (Txt.mul ⟨#[97 + i]⟩ 8)) (ev_var rfl) sL2 (fun _ => rfl) (fun i c H3 _ _ => fun H4 e4 Q q => q H4 (Ex.refl H4)) (fun i c H3 e3 hc _ => ?_)) H2 (Ex.refl H2) _ fun p2 H3 hp2 e3 h3 => ?_
    · obtain ⟨rfl, _⟩ := at26 hc
      exact ev_op (ev_var rfl) ev_c (rv_mulS (mul_small (by decide) (by decide) (by rw [small]; decide)))
    refine ⟨p1, p2, _, _, rfl, rfl, e3 _ _ h2, h3, ?_, fun p3 hp3 => ?_⟩
    · rw [signs_alph, List.length_map, List.length_map, List.length_range]
      have := given_len alphabet.length (fun _ => true) (fun i => V.str (Txt.mul ⟨#[97 + i]⟩ 8))
      rw [l26] at this
      exact sz_of (by rw [l26]; omega)
    have f3 := Ex.new (o := .lst (signsV alphabet ++ given alphabet.length (fun _ => true) (fun i => V.str (Txt.mul ⟨#[97 + i]⟩ 8)))) hp3
    refine (el_lcS (j := 5) (vs := [5]) (t := tYes) (te := tOp _ (tC (.str "a")) (tVar 5)) (fun _ => true) (fun i => .str (("a" : Str) ++ (⟨#[97 + i]⟩ : Str))) (ev_var rfl) sL2 (fun _ => rfl) (fun i c H3 _ _ => fun H4 e4 Q q => q H4 (Ex.refl H4)) (fun i c H3 e3 hc _ => ?_)) _ (Ex.refl _) _ fun p4 H4 hp4 e4 h4 => ?_
    · obtain ⟨rfl, _⟩ := at26 hc
      exact ev_op ev_c (ev_var rfl) (rv_addS (by rw [small]; decide))
    have gv : ∀ g : Nat → Str, given alphabet.length (fun _ => true) (fun i => V.str (g i)) = ((List.range 26).map g).map V.str := fun g => by
      unfold given
      rw [List.filter_eq_self.mpr (fun _ _ => rfl), l26, List.map_map]
      rfl
    have pe : (signsV alphabet ++ given alphabet.length (fun _ => true) (fun i => V.str (Txt.mul ⟨#[97 + i]⟩ 8))) ++ given alphabet.length (fun _ => true) (fun i => V.str (("a" : Str) ++ (⟨#[97 + i]⟩ : Str))) = poolS.map V.str := by
      rw [signs_alph, gv, gv]
      unfold poolS
      rw [List.map_append, List.map_append]
    refine ⟨p3, p4, _, _, rfl, rfl, e4 _ _ upd_same, h4, ?_, fun L hL => ?_⟩
    · rw [← List.length_append, pe, List.length_map, pool_len]
      exact sz_of (by decide)
    rw [pe]
    have eL : Ex H (upd H4 L (.lst (poolS.map V.str))) := (((e1.trans e2).trans e3).trans f3).trans (e4.trans (Ex.new hL))
    have hL0 : H L = none := fresh_back ((((e1.trans e2).trans e3).trans f3).trans e4) hL
    have nLs : L ≠ s := new_apart src0 hL0
    have hLp : upd H4 L (.lst (poolS.map V.str)) L = some (.lst (poolS.map V.str)) := upd_same
    generalize upd H4 L (.lst (poolS.map V.str)) = H5 at *
    -- the items
    refine ⟨.int (n : Int), rfl, (n : Int), rfl, by omega, by omega, fun D hD => ?_⟩
    have hD0 : H D = none := fresh_back eL hD
    have nLD : D ≠ L := fun e => by
      rw [e, hLp] at hD
      cases hD
    have nDs : D ≠ s := new_apart src0 hD0
    obtain ⟨po, pnd⟩ := pool_ok
    refine lc_range (lo := 0) (n := (n : Int).toNat) (fun i Hh => ∃ ls as : List Str, Hh L = some (.lst (ls.map V.str)) ∧ Hh D = some (.lst (as.map V.str)) ∧ (as ++ ls).Perm poolS ∧ as.length = i ∧ Drew s (B + i) H Hh) ?_ ?_ ?_
    · refine ⟨poolS, [], ?_, upd_same, List.Perm.refl _, rfl, ((Drew.refl hS).ex eL).mut src0 hD0⟩
      rw [upd_ne nLD.symm]
      exact hLp
    · rintro i Hh hi ⟨ls, as, hl1, hD1, pm, len, dr⟩
      have ll : ls.length + i = 78 := by
        have := pm.length_eq
        rw [List.length_append, pool_len] at this
        omega
      have lm : (ls.map V.str).length = ls.length := List.length_map ..
      refine ⟨rfl, ?_⟩
      dsimp only [tYes]
      rw [if_pos rfl]
      refine ⟨.ref L, rfl, .inl ⟨rfl, _, sq_of hl1⟩, .ref s, rfl, .ref L, rfl, L, _, rfl, .inl (sq_of hl1), s, ((ls.map V.str).length : Int), B + i, rfl, dr.src, by omega, by omega, by omega, fun H6 r dr2 r0 r1 => ?_⟩
      have hl2 := dr2.get nLs hl1
      have hD2 := dr2.get nDs hD1
      have lt : r.toNat < ls.length := by omega
      have er : r = (r.toNat : Int) := by omega
      have hz : ls[r.toNat]? = some ls[r.toNat] := List.getElem?_eq_getElem lt
      generalize ls[r.toNat] = z at hz
      refine ⟨L, _, r, r.toNat, .str z, rfl, rfl, hl2, by omega, by omega, (ixN_seq (by rw [er]; exact ixN_nat (by omega))).1, by rw [List.getElem?_map, hz]; rfl, as.map V.str, ?_, ?_, ?_⟩
      · rw [upd_ne nLD]
        exact hD2
      · exact sz_lt (by rw [List.length_map]; omega)
      · refine ⟨ls.eraseIdx r.toNat, as ++ [z], ?_, ?_, (perm_pop as hz).trans pm, by rw [List.length_append, len]; rfl, ((dr.trans dr2).mut src0 hL0).mut src0 hD0⟩
        · rw [upd_ne nLD.symm, upd_same, era_map]
        · rw [upd_same, List.map_append]
          rfl
    · rintro Hh ⟨ls, as, hl1, hD1, pm, len, dr⟩
      rw [Int.toNat_natCast] at len dr
      refine q Hh D as dr hD0 hD1 ⟨len, fun z hz => ?_, (List.nodup_append.mp (pm.nodup_iff.mpr pnd)).1⟩
      have := List.all_eq_true.mp po z (pm.mem_iff.mp (List.mem_append_left _ hz))
      rwa [Bool.and_eq_true] at this
def spSwap : Sp := fun vs H Q _ => ∃ (i o : V) (n : Nat) (zs : List Str) (os : List Pr), vs = [i, o] ∧ ArrV H i zs ∧ zs.length = n ∧ OrdV H o os ∧ (∀ e ∈ os, e.1 < n ∧ e.2 < n) ∧
  ∀ H' p, Ex H H' → H p = none → H' p = some (.lst ((swps zs os).map V.str)) → Q (.ref p) H'
theorem ok_swapped {f : Addr} {fd : FuncData} {k : Nat} (F : Fun K "swapped" "swapped" sSwapped f fd) (mList : mg "list" = none) : FnOk P w K mg base CX0 (k + 1) f fd ["items", "edges"] spSwap := by
  refine F.ok scSwapped (fun vs H Q E h => ?_) (fun cdv A outer s H vs Q E hr h => ?_)
  · obtain ⟨i, o, n, zs, os, rfl, _⟩ := h
    rfl
  · obtain ⟨i, o, n, zs, os, rfl, hi, zl, ho, ein, q⟩ := h
    refine ⟨_, (pss_cons (ps_set (i := 2) scSwapped.nd rfl (.inl rfl) (pe_callTy call_list_of (by rfl) mList boot_list (pa_cons (pv 0) pa_nil)))
      (pss_cons (ps_for PassesOwn.never rfl (pi_list (pv 1)) (pg_tup rfl (pgs_cons (pg_name (i := 3) scSwapped.nd rfl (Or.inl rfl)) (pgs_cons (pg_name (i := 4) scSwapped.nd rfl (Or.inl rfl)) pgs_nil)))
      (pss_one (ps_asg (pe_tup (pa_cons (pe_ix ix_list (pv 2) (pv 4) (fun _ _ => rfl)) (pa_cons (pe_ix ix_list (pv 2) (pv 3) (fun _ _ => rfl)) pa_nil))) (pg_tup rfl (pgs_cons (pg_sub (pv 2) (pv 3) set_list (fun _ => rfl)) (pgs_cons (pg_sub (pv 2) (pv 4) set_list (fun _ => rfl)) pgs_nil))))))
      (pss_one (ps_ret (pv 2))))), ?_⟩
    obtain ⟨b, rfl, hb⟩ := hi
    obtain ⟨c, ys, rfl, hc, hp⟩ := ho
    refine ⟨.ref b, rfl, b, _, rfl, .inl (sq_of hb), fun R hR0 => ?_⟩
    have eR : Ex H (upd H R (.lst (zs.map V.str))) := Ex.new hR0
    refine q_forL (xs := ys) (ev_var rfl) (sq_of (eR _ _ hc)) (fun i σ' H' => Ex H H' ∧ ∃ (y4 y5 : Option V), σ' = [some (.ref b), some (.ref c), some (.ref R), y4, y5] ∧ H' R = some (.lst ((swps zs (os.take i)).map V.str)))
      (fun H4 e4 => ⟨eR.trans e4, _, _, rfl, e4 _ _ upd_same⟩) (fun i σ' H' _ h => sq_of (h.1 _ _ hc)) ?_ ?_
    · rintro i x σ' H4 hx ⟨e4, y4, y5, rfl, hR4⟩
      obtain ⟨e, he, tp, rfl, htp⟩ := hp.get hx
      obtain ⟨a1, a2⟩ := ein e (List.mem_of_getElem? he)
      have cl : (swps zs (os.take i)).length = n := by
        rw [(swps_perm zl fun f hf => ein f (List.mem_of_mem_take hf)).length_eq, zl]
      have at' : ∀ {j : Nat}, j < n → ((swps zs (os.take i)).map V.str)[j]? = some (.str ((swps zs (os.take i)).getD j ⟨#[]⟩)) := fun {j} hj => by
        rw [List.getElem?_map, List.getD_eq_getElem?_getD, List.getElem?_eq_getElem (by omega)]
        rfl
      have l1 : ((swps zs (os.take i)).map V.str).length = n := by rw [List.length_map, cl]
      refine ⟨tp, _, rfl, st_of (e4 _ _ htp), rfl, _, _, rfl, _, [], rfl, rfl, ?_⟩
      refine ⟨.ref R, rfl, .int (e.2 : Int), rfl, R, _, (e.2 : Int), _, rfl, rfl, sq_of hR4, atI_nat (at' (by omega)), .ref R, rfl, .int (e.1 : Int), rfl, R, _, (e.1 : Int), _, rfl, rfl, sq_of hR4, atI_nat (at' (by omega)), show 2 ≤ sizeLine by decide, fun pt hpt => ?_⟩
      have ept := Ex.new (o := .tup [.str ((swps zs (os.take i)).getD e.2 ⟨#[]⟩), .str ((swps zs (os.take i)).getD e.1 ⟨#[]⟩)]) hpt
      refine ⟨pt, _, rfl, st_of upd_same, rfl, _, _, rfl, .ref R, rfl, .int (e.1 : Int), rfl, R, _, (e.1 : Int), e.1, rfl, rfl, ept _ _ hR4, ixN_nat (by omega), ?_⟩
      refine ⟨_, _, rfl, .ref R, rfl, .int (e.2 : Int), rfl, R, _, (e.2 : Int), e.2, rfl, rfl, upd_same, ixN_nat (by rw [List.length_set]; omega), rfl, ?_⟩
      refine ⟨((e4.trans ept).mut hR0).mut hR0, _, _, rfl, ?_⟩
      rw [upd_same, List.take_add_one, he]
      unfold swps
      rw [List.foldl_append]
      show _ = some (HO.lst ((swp (List.foldl swp zs (os.take i)) e).map V.str))
      unfold swp
      rw [List.map_set, List.map_set]
    · rintro σ' H4 ⟨e4, y4, y5, rfl, hR4⟩
      rw [hp.length, List.take_length] at hR4
      exact s_ret (v := .ref R) (ev_var rfl) fun H5 e5 => q H5 R (e4.trans e5) hR0 (e5 _ _ hR4)
end
end K15
namespace K15
open PySem PySem.Spec PyProof.Rows L2 Os Evl
theorem cut_front (xs : List V) (k : Nat) : cutV xs none (some (k : Int)) = xs.take k := by
  unfold cutV
  rw [HT.sIx_none, HT.sIx_nat, List.drop_zero, Nat.sub_zero]
  rcases Nat.le_total k xs.length with h | h
  · rw [Nat.min_eq_left h]
  · rw [Nat.min_eq_right h, List.take_length, List.take_of_length_le h]
theorem cut_back (xs : List V) (k : Nat) : cutV xs (some (k : Int)) none = xs.drop k := by
  unfold cutV
  rw [HT.sIx_none, HT.sIx_nat]
  rcases Nat.le_total k xs.length with h | h
  · rw [Nat.min_eq_left h]
    exact List.take_of_length_le (by rw [List.length_drop]; omega)
  · rw [Nat.min_eq_right h, List.drop_length, List.take_nil, List.drop_of_length_le h]
theorem nats_take (l : List Nat) (k : Nat) : (nats l).take k = nats (l.take k) := by
  unfold nats
  rw [List.map_take]
theorem nats_drop (l : List Nat) (k : Nat) : (nats l).drop k = nats (l.drop k) := by
  unfold nats
  rw [List.map_drop]
theorem ints_inj : ∀ {a b : List Nat}, a.map (fun x : Nat => (x : Int)) = b.map (fun x : Nat => (x : Int)) → a = b
  | [], [], _ => rfl
  | [], _ :: _, h => by cases h
  | _ :: _, [], h => by cases h
  | x :: a, y :: b, h => by
    have h1 : (x : Int) = (y : Int) := (List.cons.inj h).1
    rw [ints_inj (List.cons.inj h).2, show x = y by omega]
theorem eqv_nats (a b : List Nat) : PyData.eqv (.list (natsD a)) (.list (natsD b)) = decide (a = b) := by
  show PyData.eqvAll (natsD a) (natsD b) = _
  rw [natsD_ints, natsD_ints, eqv_ints]
  refine decide_eq_decide.mpr ⟨fun h => ?_, fun h => by rw [h]⟩
  exact ints_inj h
theorem take_head (l : List Nat) (q : Nat) : decide (l.take 1 = [q]) = decide (l.head? = some q) := by
  refine decide_eq_decide.mpr ?_
  cases l with
  | nil => exact ⟨fun h => (nomatch h), fun h => (nomatch h)⟩
  | cons x r =>
    show [x] = [q] ↔ some x = some q
    exact ⟨fun h => by rw [(List.cons.inj h).1], fun h => by rw [Option.some.inj h]⟩
theorem rows_dt {G : Hp} {L : Addr} {as : List Addr} {n : Nat} {f : Nat → List Nat} (hL : G L = some (.lst (as.map V.ref))) (len : as.length = n) (at' : ∀ i a, as[i]? = some a → G a = some (.lst (nats (f i)))) : Dt G (.ref L) (.list (rowsD n f)) :=
  .lst hL (dts_of (by unfold rowsD; rw [List.length_map, List.length_map, List.length_range, len]) fun i x d h1 h2 => by
    rw [List.getElem?_map] at h1
    cases hai : as[i]? with
    | none => rw [hai] at h1; cases h1
    | some c =>
      rw [hai] at h1
      cases h1
      have lt : i < n := by rw [← len]; exact (List.getElem?_eq_some_iff.mp hai).1
      rw [rowsD_at lt] at h2
      cases h2
      exact .lst (at' _ _ hai) (dts_nats _))
theorem turns_yes' {n : Nat} {es : List Pr} {tn : Nat → List Nat} (ok : IsForest n es) (pm : ∀ i, (tn i).Perm (adj es i)) : turnsB n es (.list (rowsD n tn)) = true := by
  have hl : (rowsD n tn).length = n := by unfold rowsD; rw [List.length_map, List.length_range]
  show (decide ((rowsD n tn).length = n) && _) = true
  rw [decide_eq_true hl, Bool.true_and, List.all_eq_true]
  intro i hi
  have lt := List.mem_range.mp hi
  rw [List.getD_eq_getElem?_getD, rowsD_at lt]
  show ((natsD (tn i)).all (posB (n : Int)) && ((natsD (tn i)).map intD).isPerm _) = true
  rw [natsD_all fun x hx => adj_in ok.edges.inn ((pm i).mem_iff.mp hx), Bool.true_and, natsD_map]
  exact List.isPerm_iff.mpr ((pm i).map _)
theorem PrsV.drew {s : Addr} {B C : Nat} {H H' : Hp} {vs : List V} {es : List Pr} (h : PrsV H vs es) (hs : Src H s C) (d : Drew s B H H') : PrsV H' vs es := by
  induction h with
  | nil => exact .nil
  | cons x _ ih =>
    obtain ⟨t, rfl, ht⟩ := x
    refine .cons ⟨t, rfl, d.get (fun e => ?_) ht⟩ ih
    obtain ⟨x, y, z, h1, _⟩ := hs
    rw [e, h1] at ht
    cases ht
theorem PrsV.hide' {s : Addr} {C : Nat} {H : Hp} {vs : List V} {es : List Pr} (h : PrsV H vs es) (hs : Src H s C) : PrsV (hide s H) vs es := by
  induction h with
  | nil => exact .nil
  | cons x _ ih =>
    obtain ⟨t, rfl, ht⟩ := x
    refine .cons ⟨t, rfl, ?_⟩ ih
    rw [hide_ne fun e => ?_]
    · exact ht
    obtain ⟨x, y, z, h1, _⟩ := hs
    rw [e, h1] at ht
    cases ht
/-- the pairs that are ready, themselves -/
theorem lc_ready2 {K : PySem.W.Frag} {σ : L2.St} {H : Hp} {g a R : Addr} {n0 : V} {xs : List V} {ws : List Pr} {bs : List Addr} {n : Nat} {r : Nat → List Nat} {Q : VK} (v1 : σ[1]? = some (some (.ref g))) (hg : H g = some (.tup [n0, .ref a]))
    (hW : H a = some (.lst xs)) (pr : PrsV H xs ws) (hR : H R = some (.lst (bs.map V.ref))) (bl : bs.length = n) (rw0 : ∀ i c, bs[i]? = some c → H c = some (.lst (nats (r i)))) (inn : ∀ e ∈ ws, e.1 < n ∧ e.2 < n) (few : ws.length ≤ 1000)
    (hw : ∀ x, wipe ((wipe σ [10]).set 10 (some x)) [10] = wipe σ [10]) (h3 : ∀ x, ((wipe σ [10]).set 10 (some x))[3]? = some (some (.ref R))) (h10 : ∀ x, ((wipe σ [10]).set 10 (some x))[10]? = some (some x))
    (q : ∀ D H' ys, Ex H H' → H D = none → H' D = some (.lst ys) → PrsV H' ys (ws.filter (rdy r)) → Q (.ref D) H') :
    tLc (iList K (tOp (rIxT K) (tVar 1) (tC (.int 1)))) (gName 10) (tAnd (tTest (tOp (rEqD K) (tSl (rSlL K) (tOp (rIxL K) (tVar 3) (tOp (rIxT K) (tVar 10) (tC (.int 0)))) tNoPart (tPart (tC (.int 1)))) (tLst (tCons (tOp (rIxT K) (tVar 10) (tC (.int 1))) tNil)))) (tTest (tOp (rEqD K) (tSl (rSlL K) (tOp (rIxL K) (tVar 3) (tOp (rIxT K) (tVar 10) (tC (.int 1)))) tNoPart (tPart (tC (.int 1)))) (tLst (tCons (tOp (rIxT K) (tVar 10) (tC (.int 0))) tNil))))) (tVar 10) [10] σ H Q := by
  refine ⟨.ref g, v1, g, _, 1, .ref a, rfl, rfl, st_of hg, atI_nat (j := 1) rfl, a, rfl, ⟨_, sq_of hW⟩, fun D hD => ?_⟩
  have eD := Ex.new (o := .lst []) hD
  refine lc_list (xs := xs) (fun i Hh => Ex H Hh ∧ ∃ ys, Hh D = some (.lst ys) ∧ PrsV Hh ys ((ws.take i).filter (rdy r))) ⟨eD, [], upd_same, .nil⟩ (fun i H' _ p => sq_of (p.1 _ _ hW)) ?_ ?_
  · rintro i x Hh hx ⟨x1, ys, hys, py⟩
    obtain ⟨e, he, tp, rfl, htp⟩ := pr.get hx
    have em := List.mem_of_getElem? he
    obtain ⟨b1, b2⟩ := inn e em
    refine ⟨hw _, ?_⟩
    have tk : (ws.take (i + 1)).filter (rdy r) = (ws.take i).filter (rdy r) ++ (if rdy r e = true then [e] else []) := by
      rw [List.take_add_one, he, List.filter_append]
      congr 1
      show List.filter (rdy r) [e] = _
      rw [List.filter_cons, List.filter_nil]
    have ix0 : Ev (tOp (rIxT K) (tVar 10) (tC (.int 0))) ((wipe σ [10]).set 10 (some (.ref tp))) Hh (.int (e.1 : Int)) := ev_op (ev_var (h10 _)) ev_c (rv_ixT (st_of (x1 _ _ htp)) (atI_nat (j := 0) rfl))
    have ix1 : Ev (tOp (rIxT K) (tVar 10) (tC (.int 1))) ((wipe σ [10]).set 10 (some (.ref tp))) Hh (.int (e.2 : Int)) := ev_op (ev_var (h10 _)) ev_c (rv_ixT (st_of (x1 _ _ htp)) (atI_nat (j := 1) rfl))
    have one : ∀ {p q0 : Nat} {tu tv : TE}, p < n → Ev tu ((wipe σ [10]).set 10 (some (.ref tp))) Hh (.int (p : Int)) → Ev tv ((wipe σ [10]).set 10 (some (.ref tp))) Hh (.int (q0 : Int)) →
        EvT (tTest (tOp (rEqD K) (tSl (rSlL K) (tOp (rIxL K) (tVar 3) tu) tNoPart (tPart (tC (.int 1)))) (tLst (tCons tv tNil)))) ((wipe σ [10]).set 10 (some (.ref tp))) Hh (decide ((r p).head? = some q0)) := fun {p q0 tu tv} hp hu hv => by
      obtain ⟨c, hc⟩ : ∃ c, bs[p]? = some c := ⟨_, List.getElem?_eq_getElem (by omega)⟩
      have sl := el_sl (lo := none) (hi := some ((1 : Nat) : Int)) (ev_op (ev_var (h3 (.ref tp))) hu (rv_ixL (K := K) (v := .ref c) (sq_of (x1 _ _ hR)) (atI_nat (by rw [List.getElem?_map, hc]; rfl)))) eo_none (eo_some ev_c) (sq_of (K := K) (x1 _ _ (rw0 _ _ hc)))
      rw [cut_front, nats_take] at sl
      refine et_is (et_test (ev_eqLL sl (el_lst (ea_cons hv ea_nil) (by show 1 ≤ 100000; decide)) (dts_nats _) (dts_nats [q0]) ((sh_nats 0 _).shaped (by decide)) ((sh_nats 0 [q0]).shaped (by decide)))) ?_
      rw [eqv_nats, take_head]
    refine (et_and (one b1 ix0 ix1) fun _ => one b2 ix1 ix0) Hh (Ex.refl Hh) _ fun H3 e3 => ?_
    show if rdy r e = true then _ else _
    cases hb : rdy r e with
    | true =>
      rw [if_pos rfl]
      have yl := py.length
      have fl := List.length_filter_le (rdy r) (ws.take i)
      have tl2 : (ws.take i).length ≤ ws.length := by rw [List.length_take]; omega
      refine ⟨_, h10 _, ys, e3 _ _ hys, sz_lt (by omega), (x1.trans e3).mut hD, ys ++ [.ref tp], upd_same, ?_⟩
      rw [tk, if_pos hb]
      exact PrsV.upd ((py.ex e3).append (.cons ⟨tp, rfl, e3 _ _ (x1 _ _ htp)⟩ .nil)) (e3 _ _ hys)
    | false =>
      rw [if_neg (by decide)]
      refine ⟨x1.trans e3, ys, e3 _ _ hys, ?_⟩
      rw [tk, hb, if_neg (by decide), List.append_nil]
      exact py.ex e3
  · rintro Hh ⟨x1, ys, hys, py⟩
    rw [pr.length, List.take_length] at py
    exact q D Hh ys x1 hD hys py
section
variable {P : Program} {w : World} {K : PySem.W.Frag} {mg : Str → Option Value} {base : Heap}
def spSeq : Sp := fun vs H Q _ => ∃ (s t : Addr) (v : V) (n B : Nat) (es : List Pr) (as : List Addr) (tn : Nat → List Nat), vs = [.ref s, v, .ref t] ∧ Src H s B ∧ B ≤ 700000 ∧ GraphV (hide s H) v n es ∧ IsForest n es ∧ (hide s H) t = some (.lst (as.map V.ref)) ∧ as.length = n ∧ (∀ i c, as[i]? = some c → (hide s H) c = some (.lst (nats (tn i)))) ∧ (∀ i, (tn i).Perm (adj es i)) ∧
  ∀ H' p os, Drew s (B + 60) H H' → H p = none → OrdV (hide s H') (.ref p) os → os.Perm es → (∀ i, adj os i = tn i) → Q (.ref p) H'
end
end K15
namespace K15
open PySem PySem.Spec PyProof.Rows L2 Os Evl
abbrev sChkT : Stmt := topS 36
theorem scChkT : FnScope ["forest", "turns"] ["forest", "turns"] (defScope sChkT) := ⟨rfl, rfl, rfl, by decide +kernel, rfl, by decide +kernel, by decide +kernel⟩
abbrev sAfter : Stmt := topS 39
theorem scAfter : FnScope ["forest", "items", "turns"] ["forest", "items", "turns"] (defScope sAfter) := ⟨rfl, rfl, rfl, by decide +kernel, rfl, by decide +kernel, by decide +kernel⟩
/-- Goes, with the number of its steps -/
inductive GoesN (tn : Nat → List Nat) : Nat → Option Nat → Nat → Nat → Prop
  | stay {x : Nat} : tn x = [] → GoesN tn 0 none x x
  | stop {x y : Nat} {A : List Nat} : tn x = A ++ [y] → GoesN tn 0 (some y) x x
  | first {m x b z : Nat} {B : List Nat} : tn x = b :: B → GoesN tn m (some x) b z → GoesN tn (m + 1) none x z
  | next {m x y b z : Nat} {A B : List Nat} : tn x = A ++ y :: b :: B → GoesN tn m (some x) b z → GoesN tn (m + 1) (some y) x z
theorem goes_n {tn : Nat → List Nat} {s : Option Nat} {x z : Nat} (h : Goes tn s x z) : ∃ m, GoesN tn m s x z := by
  induction h with
  | stay h => exact ⟨0, .stay h⟩
  | stop h => exact ⟨0, .stop h⟩
  | first h _ ih => obtain ⟨m, k⟩ := ih; exact ⟨m + 1, .first h k⟩
  | next h _ ih => obtain ⟨m, k⟩ := ih; exact ⟨m + 1, .next h k⟩
def AtT (tn : Nat → List Nat) (x : Nat) (l : List Nat) : Option Nat → Prop
  | none => l = tn x
  | some y => ∃ A, tn x = A ++ y :: l
theorem goes_on {tn : Nat → List Nat} (nd : ∀ x, (tn x).Nodup) {m x z : Nat} {s : Option Nat} {l : List Nat} (g : GoesN tn m s x z) (h : AtT tn x l s) (ne : l ≠ []) : ∃ m' b B, m = m' + 1 ∧ l = b :: B ∧ b ∈ tn x ∧ GoesN tn m' (some x) b z ∧ ∃ A R, tn b = A ++ x :: R := by
  have tail : ∀ {m b : Nat}, GoesN tn m (some x) b z → ∃ A R, tn b = A ++ x :: R := fun k => by
    cases k with
    | stop e => exact ⟨_, [], e⟩
    | next e _ => exact ⟨_, _, e⟩
  cases g with
  | stay e => exact absurd (h.trans e) ne
  | stop e =>
    obtain ⟨A, k⟩ := h
    exact absurd (split_one (R' := []) (k ▸ nd x) (k.symm.trans e)) ne
  | first e k => exact ⟨_, _, _, rfl, h.trans e, by rw [e]; exact List.mem_cons_self, k, tail k⟩
  | next e k =>
    obtain ⟨A, q⟩ := h
    exact ⟨_, _, _, rfl, split_one (q ▸ nd x) (q.symm.trans e), by rw [e]; simp, k, tail k⟩
theorem goes_end {tn : Nat → List Nat} (nd : ∀ x, (tn x).Nodup) {m x z : Nat} {s : Option Nat} (g : GoesN tn m s x z) (h : AtT tn x [] s) : z = x := by
  cases g with
  | stay e => rfl
  | stop e => rfl
  | first e k =>
    have h' : [] = tn x := h
    rw [← h'] at e
    cases e
  | next e k =>
    obtain ⟨A, q⟩ := h
    have := split_one (q ▸ nd x) (q.symm.trans e)
    cases this
theorem ev_indexN {K : PySem.W.Frag} {σ : L2.St} {H : Hp} {ta te : TE} {a : Addr} {A R : List Nat} {x : Nat} (h : Ev ta σ H (.ref a)) (ha : H a = some (.lst (nats (A ++ x :: R)))) (he : Ev te σ H (.int (x : Int))) (hx : x ∉ A) :
    Ev (tBM K "list" (rIndex K) ta (tCons te tNil)) σ H (.int ((A.length : Nat) : Int)) := fun H1 e1 Q q =>
  h H1 e1 _ fun H2 e2 => ⟨.inl ⟨rfl, _, sq_of ((e1.trans e2) _ _ ha)⟩, he H2 (e1.trans e2) _ fun H3 e3 => by
    refine ⟨a, nats (A ++ x :: R), .int (x : Int), A.length, .int (x : Int), rfl, rfl, sq_of (((e1.trans e2).trans e3) _ _ ha), rfl, ?_, ?_, ?_, fun m z' hm hz' => ?_, q H3 (e2.trans e3)⟩
    · refine List.all_eq_true.mpr fun y hy => ?_
      obtain ⟨z, _, rfl⟩ := List.mem_map.mp hy
      rfl
    · unfold nats
      rw [List.getElem?_map, List.getElem?_append_right (Nat.le_refl _), Nat.sub_self]
      rfl
    · show ((x : Int) == (x : Int)) = true
      exact beq_self_eq_true _
    · unfold nats at hz'
      rw [List.getElem?_map, List.getElem?_append_left hm, List.getElem?_eq_getElem hm] at hz'
      cases hz'
      show ((A[m] : Int) == (x : Int)) = false
      refine beq_eq_false_iff_ne.mpr fun e => hx ?_
      have : A[m] = x := by omega
      rw [← this]
      exact List.getElem_mem hm⟩
section
variable {P : Program} {w : World} {K : PySem.W.Frag} {mg : Str → Option Value} {base : Heap}
def spEnd : Sp := fun vs H Q _ => ∃ (t : Addr) (n x z : Nat) (as : List Addr) (tn : Nat → List Nat), vs = [.ref t, .int (x : Int)] ∧ H t = some (.lst (as.map V.ref)) ∧ as.length = n ∧ (∀ i c, as[i]? = some c → H c = some (.lst (nats (tn i)))) ∧ (∀ i, (tn i).Nodup) ∧ (∀ i, ∀ y ∈ tn i, y < n) ∧ x < n ∧ Goes tn none x z ∧
  ∀ H', Ex H H' → Q (.int (z : Int)) H'
def spChkT : Sp := fun vs H Q _ => ∃ (v t : V) (n : Nat) (es : List Pr) (d : PyData), vs = [v, t] ∧ GraphV H v n es ∧ IsForest n es ∧ Dt H t d ∧ Short2 d ∧ turnsB n es d = true ∧ ∀ H', Ex H H' → Q .non H'
theorem ok_chkT {f fI : Addr} {fd fdI : FuncData} {k : Nat} (F : Fun K "check_turns" "check_turns" sChkT f fd)
    (GI : FnOk P w K mg base CX0 k fI fdI ["forest", "thing"] spIsTurns) (FI : Fun K "is_turns" "is_turns" sIsTurns fI fdI) (bI : Binds K fdI ["forest", "thing"] []) (gI : mg "is_turns" = some (.ref fI)) : FnOk P w K mg base CX0 (k + 1) f fd ["forest", "turns"] spChkT := by
  refine F.ok scChkT (fun vs H Q E h => ?_) (fun cdv A outer st H vs Q E hr h => ?_)
  · obtain ⟨v, t, n, es, d, rfl, _⟩ := h
    rfl
  · obtain ⟨v, t, n, es, d, rfl, hg, ok, hd, sh, tb, q⟩ := h
    refine ⟨_, (pss_one (ps_if (pt_not (pt_val (pe_call GI hr (by rfl) gI FI.kp bI .nil pass0 (pa_cons (pv 0) (pa_cons (pv 1) pa_nil))))) pss_never pss_nil)), ?_⟩
    refine s_when (b := !true) (et_not (et_B (ev_sp (ea_cons (ev_var rfl) (ea_cons (ev_var rfl) ea_nil)) fun H1 e1 Q q => ⟨_, _, n, es, d, rfl, hg.ex e1, ok, hd.same (same_ex e1), sh, by rw [tb]; exact q⟩))) (fun h => nomatch h) fun _ H1 e1 => q H1 e1
/-- rows that stand at t -/
structure RowsAt (G : Hp) (t : Addr) (as : List Addr) (n : Nat) (tn : Nat → List Nat) : Prop where
  top : G t = some (.lst (as.map V.ref))
  len : as.length = n
  at' : ∀ i c, as[i]? = some c → G c = some (.lst (nats (tn i)))
theorem RowsAt.ex {G G' : Hp} {t : Addr} {as : List Addr} {n : Nat} {tn : Nat → List Nat} (h : RowsAt G t as n tn) (e : Ex G G') : RowsAt G' t as n tn := ⟨e _ _ h.top, h.len, fun i c q => e _ _ (h.at' i c q)⟩
def spAfter : Sp := fun vs H Q _ => ∃ (v i : V) (t : Addr) (n : Nat) (es : List Pr) (zs : List Str) (as : List Addr) (tn : Nat → List Nat), vs = [v, i, .ref t] ∧ GraphV H v n es ∧ IsForest n es ∧ ArrV H i zs ∧ ArrOk zs n ∧ RowsAt H t as n tn ∧ (∀ i, (tn i).Perm (adj es i)) ∧
  ∀ H' p os, Ex H H' → H p = none → os.Perm es → (∀ i, adj os i = tn i) → H' p = some (.lst ((swps zs os).map V.str)) → Q (.ref p) H'
theorem ok_after {f fF fA fT fW fL : Addr} {fd fdF fdA fdT fdW fdL : FuncData} {k : Nat} (F : Fun K "after_turns" "after_turns" sAfter f fd)
    (GF : FnOk P w K mg base CX0 k fF fdF ["forest"] spChkF) (FF : Fun K "check_forest" "check_forest" sChkF fF fdF) (bF : Binds K fdF ["forest"] []) (gF : mg "check_forest" = some (.ref fF))
    (GA : FnOk P w K mg base CX0 k fA fdA ["n", "items"] spChkA) (FA : Fun K "check_arrangement" "check_arrangement" sChkA fA fdA) (bA : Binds K fdA ["n", "items"] []) (gA : mg "check_arrangement" = some (.ref fA))
    (GT : FnOk P w K mg base CX0 k fT fdT ["forest", "turns"] spChkT) (FT : Fun K "check_turns" "check_turns" sChkT fT fdT) (bT : Binds K fdT ["forest", "turns"] []) (gT : mg "check_turns" = some (.ref fT))
    (GW : FnOk P w K mg base CX0 k fW fdW ["items", "edges"] spSwap) (FW : Fun K "swapped" "swapped" sSwapped fW fdW) (bW : Binds K fdW ["items", "edges"] []) (gW : mg "swapped" = some (.ref fW))
    (GL : FnOk P w K mg base CX0 k fL fdL ["edges", "turns"] spLeast) (FL : Fun K "_least_order" "_least_order" sLeast fL fdL) (bL : Binds K fdL ["edges", "turns"] []) (gL : mg "_least_order" = some (.ref fL)) : FnOk P w K mg base CX0 (k + 1) f fd ["forest", "items", "turns"] spAfter := by
  refine F.ok scAfter (fun vs H Q E h => ?_) (fun cdv A outer st H vs Q E hr h => ?_)
  · obtain ⟨v, i, t, n, es, zs, as, tn, rfl, _⟩ := h
    rfl
  · obtain ⟨v, i, t, n, es, zs, as, tn, rfl, hg, ok, hi, az, ra, pm, q⟩ := h
    refine ⟨_, (pss_cons (ps_expr (pe_call GF hr (by rfl) gF FF.kp bF .nil pass0 (pa_cons (pv 0) pa_nil)))
      (pss_cons (ps_expr (pe_call GA hr (by rfl) gA FA.kp bA .nil pass0 (pa_cons (pe_ix ix_tup (pv 0) pe_int (fun _ _ => rfl)) (pa_cons (pv 1) pa_nil))))
      (pss_cons (ps_expr (pe_call GT hr (by rfl) gT FT.kp bT .nil pass0 (pa_cons (pv 0) (pa_cons (pv 2) pa_nil))))
      (pss_one (ps_ret (pe_call GW hr (by rfl) gW FW.kp bW .nil pass0 (pa_cons (pv 1) (pa_cons (pe_call GL hr (by rfl) gL FL.kp bL .nil pass0 (pa_cons (pe_ix ix_tup (pv 0) pe_int (fun _ _ => rfl)) (pa_cons (pv 2) pa_nil))) pa_nil)))))))), ?_⟩
    have n40 := ok.n40
    have few := ok.few
    have tb := turns_yes' ok pm
    have tl : ∀ i, (tn i).length ≤ 1000 := fun i => by
      rw [(pm i).length_eq]
      have := adj_len (os := es) few i
      omega
    refine q_drop (v := .non) (ev_sp (ea_cons (ev_var rfl) ea_nil) fun H1 e1 Q q => ⟨_, n, es, rfl, hg.ex e1, ok, q⟩) fun H1 e1 => ?_
    have hg0 := hg
    obtain ⟨g, a, xs, rfl, h2, h3, h4⟩ := hg
    refine q_drop (v := .non) (ev_sp (ea_cons (ev_op (ev_var rfl) ev_c (rv_ixT (st_of (e1 _ _ h2)) (atI_nat (j := 0) rfl))) (ea_cons (ev_var rfl) ea_nil)) fun H2 e2 Q q => ⟨_, n, zs, rfl, hi.ex (e1.trans e2), az, n40, q⟩) fun H2 e2 => ?_
    refine q_drop (v := .non) (ev_sp (ea_cons (ev_var rfl) (ea_cons (ev_var rfl) ea_nil)) fun H3 e3 Q q => ⟨_, _, n, es, .list (rowsD n tn), rfl, hg0.ex ((e1.trans e2).trans e3), ok, rows_dt (((e1.trans e2).trans e3) _ _ ra.top) ra.len (fun i c h => ((e1.trans e2).trans e3) _ _ (ra.at' i c h)), rows_short (by omega) tl, tb, q⟩) fun H3 e3 => ?_
    have e13 := (e1.trans e2).trans e3
    refine ⟨i, rfl, .ref g, rfl, g, _, 1, .ref a, rfl, rfl, st_of (e13 _ _ h2), atI_nat (j := 1) rfl, .ref t, rfl, a, t, n, es, xs, as, tn, rfl, ok, e13 _ _ h3, h4.ex e13, e13 _ _ ra.top, ra.len, (fun i c h => e13 _ _ (ra.at' i c h)), pm, fun H4 p os e4 hp ho po ht => ?_⟩
    have e14 := e13.trans e4
    exact ⟨i, .ref p, n, zs, os, rfl, hi.ex e14, az.len, ho, (fun e he => by have := ok.edges.inn e (po.mem_iff.mp he); omega), fun H5 p5 e5 hp5 h5 => q H5 p5 os (e14.trans e5) (fresh_back e14 hp5) po ht h5⟩
end
end K15
/-! counting: permutations of a list, choices row by row, different values of a list -/
namespace Os
open PySem PySem.Spec PyProof.Rows
def fac : Nat → Nat
  | 0 => 1
  | n + 1 => (n + 1) * fac n
theorem fac_pos : ∀ n, 1 ≤ fac n
  | 0 => Nat.le_refl _
  | n + 1 => Nat.mul_le_mul (Nat.succ_le_succ (Nat.zero_le n)) (fac_pos n)
/-! ### permutations -/
def insAll (x : Nat) : List Nat → List (List Nat)
  | [] => [[x]]
  | y :: l => (x :: y :: l) :: (insAll x l).map (y :: ·)
def permsL : List Nat → List (List Nat)
  | [] => [[]]
  | x :: l => (permsL l).flatMap (insAll x)
theorem insAll_len (x : Nat) : ∀ l : List Nat, (insAll x l).length = l.length + 1
  | [] => rfl
  | y :: l => by
    show ((insAll x l).map (y :: ·)).length + 1 = _
    rw [List.length_map, insAll_len x l]
    rfl
theorem insAll_mem {x : Nat} : ∀ {l m : List Nat}, m ∈ insAll x l ↔ ∃ A B, l = A ++ B ∧ m = A ++ x :: B
  | [], m => by
    constructor
    · intro h
      rw [List.mem_singleton.mp h]
      exact ⟨[], [], rfl, rfl⟩
    · rintro ⟨A, B, h, rfl⟩
      obtain ⟨rfl, rfl⟩ := List.append_eq_nil_iff.mp h.symm
      exact List.mem_singleton.mpr rfl
  | y :: l, m => by
    constructor
    · intro h
      rcases List.mem_cons.mp h with rfl | h
      · exact ⟨[], y :: l, rfl, rfl⟩
      · obtain ⟨m', h', rfl⟩ := List.mem_map.mp h
        obtain ⟨A, B, rfl, rfl⟩ := insAll_mem.mp h'
        exact ⟨y :: A, B, rfl, rfl⟩
    · rintro ⟨A, B, h, rfl⟩
      cases A with
      | nil => rw [show B = y :: l from h.symm]; exact List.mem_cons_self
      | cons a A =>
        injection h with h1 h2
        subst h1
        exact List.mem_cons_of_mem _ (List.mem_map.mpr ⟨A ++ x :: B, insAll_mem.mpr ⟨A, B, h2, rfl⟩, rfl⟩)
theorem perms_mem : ∀ {l m : List Nat}, m ∈ permsL l ↔ m.Perm l
  | [], m => by
    constructor
    · intro h
      rw [List.mem_singleton.mp h]
    · intro h
      rw [h.eq_nil]
      exact List.mem_singleton.mpr rfl
  | x :: l, m => by
    constructor
    · intro h
      obtain ⟨k, hk, h⟩ := List.mem_flatMap.mp h
      obtain ⟨A, B, rfl, rfl⟩ := insAll_mem.mp h
      exact List.perm_middle.trans ((perms_mem.mp hk).cons x)
    · intro h
      obtain ⟨A, B, rfl⟩ := List.append_of_mem (h.mem_iff.mpr List.mem_cons_self)
      exact List.mem_flatMap.mpr ⟨A ++ B, perms_mem.mpr ((List.perm_middle.symm.trans h).cons_inv), insAll_mem.mpr ⟨A, B, rfl, rfl⟩⟩
theorem flat_sum {α β : Type} {f : α → List β} {m : Nat} : ∀ {l : List α}, (∀ x ∈ l, (f x).length = m) → (l.flatMap f).length = l.length * m
  | [], _ => by rw [List.flatMap_nil, List.length_nil, List.length_nil, Nat.zero_mul]
  | x :: l, h => by
    rw [List.flatMap_cons, List.length_append, h x List.mem_cons_self, flat_sum fun y hy => h y (List.mem_cons_of_mem _ hy), List.length_cons, Nat.succ_mul, Nat.add_comm]
theorem perms_len : ∀ l : List Nat, (permsL l).length = fac l.length
  | [] => rfl
  | x :: l => by
    show ((permsL l).flatMap (insAll x)).length = (l.length + 1) * fac l.length
    rw [flat_sum (m := l.length + 1) fun m hm => by rw [insAll_len, (perms_mem.mp hm).length_eq], perms_len l, Nat.mul_comm]
theorem ins_inj {x : Nat} {A B C D : List Nat} (h1 : x ∉ A) (h2 : x ∉ C) (h : A ++ x :: B = C ++ x :: D) : A = C ∧ B = D := by
  induction A generalizing C with
  | nil =>
    cases C with
    | nil => exact ⟨rfl, List.tail_eq_of_cons_eq h⟩
    | cons c C =>
      injection h with e _
      exact (h2 (e ▸ List.mem_cons_self)).elim
  | cons a A ih =>
    cases C with
    | nil =>
      injection h with e _
      exact (h1 (e ▸ List.mem_cons_self)).elim
    | cons c C =>
      injection h with e h
      obtain ⟨r1, r2⟩ := ih (fun z => h1 (List.mem_cons_of_mem _ z)) (fun z => h2 (List.mem_cons_of_mem _ z)) h
      exact ⟨by rw [e, r1], r2⟩
theorem insAll_nodup {x : Nat} : ∀ {l : List Nat}, x ∉ l → (insAll x l).Nodup
  | [], _ => List.nodup_cons.mpr ⟨List.not_mem_nil, List.nodup_nil⟩
  | y :: l, h => by
    refine List.nodup_cons.mpr ⟨fun z => ?_, ?_⟩
    · obtain ⟨m, _, e⟩ := List.mem_map.mp z
      injection e with e _
      exact h (e ▸ List.mem_cons_self)
    · exact List.Pairwise.map (y :: ·) (R := (· ≠ ·)) (S := (· ≠ ·)) (fun a b ne e => ne (by injection e)) (insAll_nodup fun z => h (List.mem_cons_of_mem _ z))
theorem nodup_flat {α β : Type} {f : α → List β} : ∀ {l : List α}, l.Nodup → (∀ x ∈ l, (f x).Nodup) → (∀ x ∈ l, ∀ y ∈ l, ∀ b, b ∈ f x → b ∈ f y → x = y) → (l.flatMap f).Nodup
  | [], _, _, _ => List.nodup_nil
  | x :: l, nd, h, k => by
    rw [List.flatMap_cons]
    obtain ⟨n1, n2⟩ := List.nodup_cons.mp nd
    refine List.nodup_append.mpr ⟨h x List.mem_cons_self, nodup_flat n2 (fun y hy => h y (List.mem_cons_of_mem _ hy)) (fun y hy z hz => k y (List.mem_cons_of_mem _ hy) z (List.mem_cons_of_mem _ hz)), fun a ha b hb e => ?_⟩
    obtain ⟨y, hy, hb⟩ := List.mem_flatMap.mp hb
    exact n1 (k x List.mem_cons_self y (List.mem_cons_of_mem _ hy) a ha (e ▸ hb) ▸ hy)
theorem perms_nodup : ∀ {l : List Nat}, l.Nodup → (permsL l).Nodup
  | [], _ => List.nodup_cons.mpr ⟨List.not_mem_nil, List.nodup_nil⟩
  | x :: l, nd => by
    obtain ⟨n1, n2⟩ := List.nodup_cons.mp nd
    have out : ∀ m ∈ permsL l, x ∉ m := fun m hm z => n1 ((perms_mem.mp hm).mem_iff.mp z)
    refine nodup_flat (perms_nodup n2) (fun m hm => insAll_nodup (out m hm)) fun a ha b hb c h1 h2 => ?_
    obtain ⟨A, B, rfl, rfl⟩ := insAll_mem.mp h1
    obtain ⟨C, D, rfl, e⟩ := insAll_mem.mp h2
    have oa := out _ ha
    have ob := out _ hb
    obtain ⟨rfl, rfl⟩ := ins_inj (fun z => oa (List.mem_append_left _ z)) (fun z => ob (List.mem_append_left _ z)) e
    rfl
/-! ### one of each row -/
def cart : List (List (List Nat)) → List (List (List Nat))
  | [] => [[]]
  | P :: Ps => P.flatMap fun x => (cart Ps).map (x :: ·)
def prodL : List Nat → Nat
  | [] => 1
  | x :: l => x * prodL l
theorem cart_len : ∀ Ps : List (List (List Nat)), (cart Ps).length = prodL (Ps.map List.length)
  | [] => rfl
  | P :: Ps => by
    show (P.flatMap fun x => (cart Ps).map (x :: ·)).length = P.length * prodL (Ps.map List.length)
    rw [flat_sum (m := prodL (Ps.map List.length)) fun x _ => by rw [List.length_map, cart_len Ps]]
inductive Picks : List (List Nat) → List (List (List Nat)) → Prop
  | nil : Picks [] []
  | cons {x : List Nat} {P : List (List Nat)} {m : List (List Nat)} {Ps : List (List (List Nat))} : x ∈ P → Picks m Ps → Picks (x :: m) (P :: Ps)
theorem cart_mem : ∀ {Ps : List (List (List Nat))} {m : List (List Nat)}, m ∈ cart Ps ↔ Picks m Ps
  | [], m => by
    constructor
    · intro h
      rw [List.mem_singleton.mp h]
      exact .nil
    · intro h
      cases h
      exact List.mem_singleton.mpr rfl
  | P :: Ps, m => by
    constructor
    · intro h
      obtain ⟨x, hx, h⟩ := List.mem_flatMap.mp h
      obtain ⟨m', h', rfl⟩ := List.mem_map.mp h
      exact .cons hx (cart_mem.mp h')
    · intro h
      cases h with
      | cons a b => exact List.mem_flatMap.mpr ⟨_, a, List.mem_map.mpr ⟨_, cart_mem.mpr b, rfl⟩⟩
theorem cart_nodup : ∀ {Ps : List (List (List Nat))}, (∀ P ∈ Ps, P.Nodup) → (cart Ps).Nodup
  | [], _ => List.nodup_cons.mpr ⟨List.not_mem_nil, List.nodup_nil⟩
  | P :: Ps, h => by
    refine nodup_flat (h P List.mem_cons_self) (fun x _ => List.Pairwise.map (x :: ·) (R := (· ≠ ·)) (S := (· ≠ ·)) (fun a b ne e => ne (by injection e)) (cart_nodup fun Q hQ => h Q (List.mem_cons_of_mem _ hQ))) fun x _ y _ b h1 h2 => ?_
    obtain ⟨m1, _, rfl⟩ := List.mem_map.mp h1
    obtain ⟨m2, _, e⟩ := List.mem_map.mp h2
    injection e with e _
    exact e.symm
/-! ### different values -/
section
variable {α β γ : Type} [DecidableEq α] [DecidableEq β]
def addN (acc : List α) (x : α) : List α := if x ∈ acc then acc else acc ++ [x]
def ded (l : List α) : List α := l.foldl addN []
theorem ded_snoc (l : List α) (x : α) : ded (l ++ [x]) = addN (ded l) x := by
  unfold ded
  rw [List.foldl_append]
  rfl
theorem add_mem {acc : List α} {x y : α} : y ∈ addN acc x ↔ y ∈ acc ∨ y = x := by
  unfold addN
  by_cases h : x ∈ acc
  · rw [if_pos h]
    exact ⟨.inl, fun k => k.elim id fun e => e ▸ h⟩
  · rw [if_neg h, List.mem_append, List.mem_singleton]
theorem fold_mem : ∀ {l acc : List α} {y : α}, y ∈ l.foldl addN acc ↔ y ∈ acc ∨ y ∈ l
  | [], acc, y => by rw [List.foldl_nil]; exact ⟨.inl, fun h => h.elim id fun z => nomatch z⟩
  | x :: l, acc, y => by
    rw [List.foldl_cons, fold_mem, add_mem, List.mem_cons, or_assoc]
theorem ded_mem {l : List α} {y : α} : y ∈ ded l ↔ y ∈ l := by
  unfold ded
  rw [fold_mem]
  exact ⟨fun h => h.elim (fun z => nomatch z) id, .inr⟩
theorem fold_nodup : ∀ {l acc : List α}, acc.Nodup → (l.foldl addN acc).Nodup
  | [], _, h => h
  | x :: l, acc, h => by
    rw [List.foldl_cons]
    refine fold_nodup ?_
    unfold addN
    by_cases k : x ∈ acc
    · rw [if_pos k]
      exact h
    · rw [if_neg k]
      refine List.nodup_append.mpr ⟨h, List.nodup_cons.mpr ⟨List.not_mem_nil, List.nodup_nil⟩, fun a ha b hb e => k ?_⟩
      rw [← List.mem_singleton.mp hb, ← e]
      exact ha
theorem ded_nodup (l : List α) : (ded l).Nodup := fold_nodup List.nodup_nil
theorem ded_like {f : γ → α} {g : γ → β} : ∀ l : List γ, (∀ a ∈ l, ∀ b ∈ l, f a = f b ↔ g a = g b) → (ded (l.reverse.map f)).length = (ded (l.reverse.map g)).length
  | [], _ => rfl
  | x :: l, h => by
    rw [List.reverse_cons, List.map_append, List.map_append, List.map_singleton, List.map_singleton, ded_snoc, ded_snoc]
    have ih := ded_like l fun a ha b hb => h a (List.mem_cons_of_mem _ ha) b (List.mem_cons_of_mem _ hb)
    have e : f x ∈ ded (l.reverse.map f) ↔ g x ∈ ded (l.reverse.map g) := by
      rw [ded_mem, ded_mem, List.mem_map, List.mem_map]
      constructor
      · rintro ⟨b, hb, e⟩
        exact ⟨b, hb, (h b (List.mem_cons_of_mem _ (List.mem_reverse.mp hb)) x List.mem_cons_self).mp e⟩
      · rintro ⟨b, hb, e⟩
        exact ⟨b, hb, (h b (List.mem_cons_of_mem _ (List.mem_reverse.mp hb)) x List.mem_cons_self).mpr e⟩
    unfold addN
    by_cases k : f x ∈ ded (l.reverse.map f)
    · rw [if_pos k, if_pos (e.mp k), ih]
    · rw [if_neg k, if_neg (fun z => k (e.mpr z)), List.length_append, List.length_append, ih]
      rfl
theorem ded_same {f : γ → α} {g : γ → β} {l : List γ} (h : ∀ a ∈ l, ∀ b ∈ l, f a = f b ↔ g a = g b) : (ded (l.map f)).length = (ded (l.map g)).length := by
  have := ded_like l.reverse fun a ha b hb => h a (List.mem_reverse.mp ha) b (List.mem_reverse.mp hb)
  rwa [List.reverse_reverse] at this
end
/-! ### swaps of numbers -/
def swpN (zs : List Nat) (e : Pr) : List Nat := (zs.set e.1 (zs.getD e.2 0)).set e.2 (zs.getD e.1 0)
def swpsN (zs : List Nat) (os : List Pr) : List Nat := os.foldl swpN zs
def strN (k : Nat) : Str := ⟨#[k]⟩
theorem strN_inj {i j : Nat} (h : strN i = strN j) : i = j := by
  have : #[i] = #[j] := congrArg Str.cps h
  simpa using this
theorem swpN_len (zs : List Nat) (e : Pr) : (swpN zs e).length = zs.length := by
  unfold swpN
  rw [List.length_set, List.length_set]
theorem swpsN_len : ∀ (os : List Pr) (zs : List Nat), (swpsN zs os).length = zs.length
  | [], _ => rfl
  | e :: os, zs => (swpsN_len os (swpN zs e)).trans (swpN_len zs e)
theorem swpN_map {zs : List Nat} {e : Pr} (h1 : e.1 < zs.length) (h2 : e.2 < zs.length) : swp (zs.map strN) e = (swpN zs e).map strN := by
  unfold swp swpN
  rw [List.map_set, List.map_set]
  congr 2
  · rw [List.getD_eq_getElem?_getD, List.getD_eq_getElem?_getD, List.getElem?_map, List.getElem?_eq_getElem h2]
    rfl
  · rw [List.getD_eq_getElem?_getD, List.getD_eq_getElem?_getD, List.getElem?_map, List.getElem?_eq_getElem h1]
    rfl
theorem swpsN_map : ∀ {os : List Pr} {zs : List Nat}, (∀ e ∈ os, e.1 < zs.length ∧ e.2 < zs.length) → swps (zs.map strN) os = (swpsN zs os).map strN
  | [], _, _ => rfl
  | e :: os, zs, h => by
    obtain ⟨h1, h2⟩ := h e List.mem_cons_self
    show swps (swp (zs.map strN) e) os = (swpsN (swpN zs e) os).map strN
    rw [swpN_map h1 h2]
    exact swpsN_map fun f hf => by
      rw [swpN_len]
      exact h f (List.mem_cons_of_mem _ hf)
theorem mapN_inj : ∀ {a b : List Nat}, a.map strN = b.map strN → a = b
  | [], [], _ => rfl
  | [], _ :: _, h => nomatch h
  | _ :: _, [], h => nomatch h
  | x :: a, y :: b, h => by
    injection h with h1 h2
    rw [strN_inj h1, mapN_inj h2]
theorem same_result {n : Nat} {es os os' : List Pr} (E : Edges n es) (pm : os.Perm es) (pm' : os'.Perm es) : swpsN (List.range n) os = swpsN (List.range n) os' ↔ ∀ p, turnOf p os = turnOf p os' := by
  have inn : ∀ {qs : List Pr}, qs.Perm es → ∀ e ∈ qs, e.1 < (List.range n).length ∧ e.2 < (List.range n).length := fun q e he => by
    obtain ⟨h1, h2⟩ := E.inn e (q.mem_iff.mp he)
    rw [List.length_range]
    omega
  have nd : ((List.range n).map strN).Nodup := List.Pairwise.map strN (R := (· ≠ ·)) (S := (· ≠ ·)) (fun a b ne e => ne (strN_inj e)) List.nodup_range
  have key := same_outcome (zs := (List.range n).map strN) E pm pm' (by rw [List.length_map, List.length_range]) nd
  rw [swpsN_map (inn pm), swpsN_map (inn pm')] at key
  exact ⟨fun h => key.mp (by rw [h]), fun h => mapN_inj (key.mpr h)⟩
/-- the turns of an order, row by row -/
def rowsOf (n : Nat) (os : List Pr) : List (List Nat) := (List.range n).map fun p => turnOf p os
theorem rows_same {n : Nat} {es os os' : List Pr} (E : Edges n es) (pm : os.Perm es) (pm' : os'.Perm es) : rowsOf n os = rowsOf n os' ↔ ∀ p, turnOf p os = turnOf p os' := by
  constructor
  · intro h p
    by_cases lt : p < n
    · have := congrArg (fun l => l[p]?) h
      simp only [rowsOf, List.getElem?_map, List.getElem?_range lt, Option.map_some, Option.some.injEq] at this
      exact this
    · have none : ∀ {qs : List Pr}, qs.Perm es → turnOf p qs = [] := fun q => by
        refine List.eq_nil_iff_forall_not_mem.mpr fun x hx => ?_
        obtain ⟨e, he, k⟩ := mem_turn hx
        have := E.inn e (q.mem_iff.mp he)
        rcases k with ⟨k1, k2⟩ | ⟨k1, k2⟩ <;> omega
      rw [none pm, none pm']
  · intro h
    unfold rowsOf
    exact List.map_congr_left fun p _ => h p
theorem picks_of {n : Nat} {es os : List Pr} (pm : os.Perm es) : Picks (rowsOf n os) ((List.range n).map fun p => permsL (turnOf p es)) := by
  unfold rowsOf
  induction (List.range n) with
  | nil => exact .nil
  | cons p l ih => exact .cons (perms_mem.mpr (turn_perm pm p)) ih
theorem picks_rows : ∀ {l : List Nat} {m : List (List Nat)} {f : Nat → List Nat}, Picks m (l.map fun p => permsL (f p)) → m.length = l.length ∧ ∀ (i : Nat) (x : List Nat) (p : Nat), m[i]? = some x → l[i]? = some p → x.Perm (f p)
  | [], m, f, h => by
    cases h
    exact ⟨rfl, fun i x p e => nomatch e⟩
  | q :: l, m, f, h => by
    cases h with
    | cons a b =>
      obtain ⟨h1, h2⟩ := picks_rows b
      refine ⟨congrArg (· + 1) h1, fun i x p e1 e2 => ?_⟩
      cases i with
      | zero =>
        cases e1
        cases e2
        exact perms_mem.mp a
      | succ i => exact h2 i x p e1 e2
/-- as many results as turns -/
theorem results_count {n : Nat} {es : List Pr} {L : List (List Pr)} (E : Edges n es) (hL : ∀ os, os ∈ L ↔ os.Perm es) : (ded (L.map (swpsN (List.range n)))).length = prodL ((List.range n).map fun p => fac (turnOf p es).length) := by
  rw [ded_same (g := rowsOf n) fun a ha b hb => (same_result E ((hL a).mp ha) ((hL b).mp hb)).trans (rows_same E ((hL a).mp ha) ((hL b).mp hb)).symm]
  have pm : (ded (L.map (rowsOf n))).Perm (cart ((List.range n).map fun p => permsL (turnOf p es))) := by
    refine (List.perm_ext_iff_of_nodup (ded_nodup _) (cart_nodup fun P hP => ?_)).mpr fun m => ?_
    · obtain ⟨p, _, rfl⟩ := List.mem_map.mp hP
      exact perms_nodup (turn_nodup E (List.Perm.refl es) p)
    · rw [ded_mem, cart_mem, List.mem_map]
      constructor
      · rintro ⟨os, ho, rfl⟩
        exact picks_of ((hL os).mp ho)
      · intro h
        obtain ⟨hl, hp⟩ := picks_rows h
        rw [List.length_range] at hl
        have tp : ∀ p, (m.getD p []).Perm (turnOf p es) := fun p => by
          by_cases lt : p < n
          · rw [List.getD_eq_getElem?_getD, List.getElem?_eq_getElem (by omega)]
            exact hp p _ p (List.getElem?_eq_getElem (by omega)) (List.getElem?_range lt)
          · rw [List.getD_eq_getElem?_getD, List.getElem?_eq_none (by omega)]
            have none : turnOf p es = [] := by
              refine List.eq_nil_iff_forall_not_mem.mpr fun x hx => ?_
              obtain ⟨e, he, k⟩ := mem_turn hx
              have := E.inn e he
              rcases k with ⟨k1, k2⟩ | ⟨k1, k2⟩ <;> omega
            rw [none]
            exact List.Perm.refl _
        obtain ⟨os, po, ht⟩ := turns_order E (fun p => m.getD p []) tp
        refine ⟨os, (hL os).mpr po, ?_⟩
        refine List.ext_getElem? fun i => ?_
        unfold rowsOf
        by_cases lt : i < n
        · rw [List.getElem?_map, List.getElem?_range lt, Option.map_some, ht, List.getD_eq_getElem?_getD, List.getElem?_eq_getElem (by omega)]
          rfl
        · rw [List.getElem?_eq_none (by rw [List.length_map, List.length_range]; omega), List.getElem?_eq_none (by omega)]
  rw [pm.length_eq, cart_len, List.map_map]
  refine congrArg prodL (List.map_congr_left fun p _ => ?_)
  exact perms_len _
/-! ### products of factorials are small -/
theorem fac_mul : ∀ a b, fac a * fac b ≤ fac (a + b)
  | 0, b => by
    rw [Nat.zero_add]
    exact Nat.le_of_eq (Nat.one_mul _)
  | a + 1, b => by
    rw [Nat.add_right_comm]
    show (a + 1) * fac a * fac b ≤ (a + b + 1) * fac (a + b)
    rw [Nat.mul_assoc]
    exact Nat.mul_le_mul (by omega) (fac_mul a b)
theorem fac_mono {a b : Nat} (h : a ≤ b) : fac a ≤ fac b := by
  obtain ⟨c, rfl⟩ := Nat.le.dest h
  exact Nat.le_trans (Nat.le_mul_of_pos_right _ (fac_pos c)) (fac_mul a c)
theorem prod_fac : ∀ l : List Nat, prodL (l.map fac) ≤ fac l.sum
  | [] => Nat.le_refl _
  | x :: l => by
    show fac x * prodL (l.map fac) ≤ fac (x :: l).sum
    rw [List.sum_cons]
    exact Nat.le_trans (Nat.mul_le_mul_left _ (prod_fac l)) (fac_mul x l.sum)
theorem prod_pos : ∀ l : List Nat, 1 ≤ prodL (l.map fac)
  | [] => Nat.le_refl _
  | x :: l => Nat.mul_le_mul (fac_pos x) (prod_pos l)
theorem prod_app : ∀ a b : List Nat, prodL (a ++ b) = prodL a * prodL b
  | [], b => (Nat.one_mul _).symm
  | x :: a, b => by
    show x * prodL (a ++ b) = x * prodL a * prodL b
    rw [prod_app a b, Nat.mul_assoc]
theorem sum_add {f g : Nat → Nat} : ∀ l : List Nat, (l.map fun p => f p + g p).sum = (l.map f).sum + (l.map g).sum
  | [] => rfl
  | x :: l => by
    rw [List.map_cons, List.map_cons, List.map_cons, List.sum_cons, List.sum_cons, List.sum_cons, sum_add l]
    omega
theorem sum_one {q : Nat} : ∀ {l : List Nat}, l.Nodup → (l.map fun p => if q = p then 1 else 0).sum ≤ 1
  | [], _ => Nat.zero_le _
  | x :: l, nd => by
    obtain ⟨n1, n2⟩ := List.nodup_cons.mp nd
    rw [List.map_cons, List.sum_cons]
    by_cases e : q = x
    · rw [if_pos e]
      have z : ∀ m : List Nat, q ∉ m → (m.map fun p => if q = p then 1 else 0).sum = 0 := fun m => by
        induction m with
        | nil => exact fun _ => rfl
        | cons y m ih =>
          intro h
          rw [List.map_cons, List.sum_cons, if_neg (fun k : q = y => h (k ▸ List.mem_cons_self)), ih fun k => h (List.mem_cons_of_mem _ k)]
      rw [z l (e ▸ n1)]
      exact Nat.le_refl _
    · rw [if_neg e]
      have := sum_one (q := q) n2
      omega
theorem degs_sum {n : Nat} : ∀ es : List Pr, ((List.range n).map fun p => (turnOf p es).length).sum ≤ 2 * es.length
  | [] => by
    have : ∀ l : List Nat, (l.map fun p => (turnOf p []).length).sum = 0 := fun l => by
      induction l with
      | nil => rfl
      | cons x l ih =>
        rw [List.map_cons, List.sum_cons, ih]
        rfl
    rw [this]
    exact Nat.zero_le _
  | e :: es => by
    have step : ∀ p, (turnOf p (e :: es)).length ≤ ((if e.1 = p then 1 else 0) + (if e.2 = p then 1 else 0)) + (turnOf p es).length := fun p => by
      unfold turnOf
      rw [List.filterMap_cons]
      by_cases h1 : e.1 = p
      · rw [if_pos h1, if_pos h1]
        simp only [List.length_cons]
        omega
      · rw [if_neg h1, if_neg h1]
        by_cases h2 : e.2 = p
        · rw [if_pos h2, if_pos h2]
          simp only [List.length_cons]
          omega
        · rw [if_neg h2, if_neg h2]
          simp only
          omega
    have le : ∀ (f g : Nat → Nat) (l : List Nat), (∀ p, f p ≤ g p) → (l.map f).sum ≤ (l.map g).sum := fun f g l h => by
      induction l with
      | nil => exact Nat.le_refl _
      | cons x l ih =>
        rw [List.map_cons, List.map_cons, List.sum_cons, List.sum_cons]
        have := h x
        omega
    have h := le _ _ (List.range n) step
    rw [sum_add, sum_add] at h
    have s1 := sum_one (q := e.1) (List.nodup_range (n := n))
    have s2 := sum_one (q := e.2) (List.nodup_range (n := n))
    have ih := degs_sum (n := n) es
    rw [List.length_cons]
    omega
theorem fac78 : fac 78 < 10 ^ 200 := by decide +kernel
theorem count_small {n : Nat} {es : List Pr} (h : es.length ≤ 39) : prodL ((List.range n).map fun p => fac (turnOf p es).length) < 10 ^ 200 := by
  have e : ((List.range n).map fun p => fac (turnOf p es).length) = ((List.range n).map fun p => (turnOf p es).length).map fac := by
    rw [List.map_map]
    rfl
  rw [e]
  have h1 := prod_fac ((List.range n).map fun p => (turnOf p es).length)
  have h2 := fac_mono (Nat.le_trans (degs_sum (n := n) es) (show 2 * es.length ≤ 78 by omega))
  have := fac78
  omega
/-! ### how long a great number is written -/
theorem nat_shown {i k : Nat} (hk : 1 ≤ k) (h : i < 10 ^ k) : (PyData.int (i : Int)).shown.length ≤ k := by
  show (Str.ofString (toString (i : Int))).length ≤ k
  rw [ofString_len]
  exact (Nat.length_repr_le_iff hk).mpr h
theorem Lim.nat {i k : Nat} (hk : 1 ≤ k) (hk' : k ≤ 570) (h : i < 10 ^ k) : Lim k 0 (.int (i : Int)) := by
  refine ⟨nat_shown hk h, Nat.zero_le _, ?_, rfl⟩
  show decide (((i : Int)).natAbs.log2 < 1920) = true
  refine decide_eq_true ?_
  have : ((i : Int)).natAbs = i := by omega
  rw [this]
  by_cases z : i = 0
  · rw [z]
    decide
  · refine (Nat.log2_lt z).mpr (Nat.lt_of_lt_of_le h (Nat.le_trans (Nat.pow_le_pow_right (by decide) hk') ?_))
    decide +kernel
end Os
/-! texts of words: join and split, lists of texts and None, a loop over enumerate -/
namespace Os
open PySem PySem.Spec PyProof.Rows L2 Evl

def isBlO : PyData → Bool
  | .bool _ => true
  | _ => false
theorem kit_boolO (d : PyData) : kitB (tyName d) "bool" = some (isBlO d) := by
  cases d <;> (simp only [tyName, isBlO]; decide +kernel)
/-! ### texts and None -/
def oV : Option Str → V
  | none => .non
  | some z => .str z
def oD : Option Str → PyData
  | none => .none
  | some z => .str z
def oW : Option Str → Str
  | none => "?"
  | some z => z
theorem dt_o {H : Hp} : ∀ o : Option Str, Dt H (oV o) (oD o)
  | none => .non
  | some z => .str z
theorem dts_o {H : Hp} : ∀ os : List (Option Str), Dts H (os.map oV) (os.map oD)
  | [] => .nil
  | o :: os => .cons (dt_o o) (dts_o os)
theorem some_V (zs : List Str) : (zs.map some).map oV = zs.map V.str := by
  rw [List.map_map]
  rfl
theorem some_D (zs : List Str) : (zs.map some).map oD = zs.map PyData.str := by
  rw [List.map_map]
  rfl
theorem some_W (zs : List Str) : (zs.map some).map oW = zs := by
  rw [List.map_map]
  exact List.map_id' zs
theorem flat_o : ∀ os : List (Option Str), (os.map oV).all flatV = true
  | [] => rfl
  | none :: os => flat_o os
  | some _ :: os => flat_o os
theorem inV_o (z : Str) : ∀ os : List (Option Str), inV (.str z) (os.map oV) = decide (some z ∈ os)
  | [] => rfl
  | none :: os => by
    have ih := inV_o z os
    unfold inV at ih ⊢
    rw [List.map_cons, List.any_cons, ih]
    show (false || decide (some z ∈ os)) = _
    rw [Bool.false_or]
    exact decide_eq_decide.mpr ⟨fun h => List.mem_cons_of_mem _ h, fun h => by
      rcases List.mem_cons.mp h with h | h
      · cases h
      · exact h⟩
  | some y :: os => by
    have ih := inV_o z os
    unfold inV at ih ⊢
    rw [List.map_cons, List.any_cons, ih]
    show ((y == z) || decide (some z ∈ os)) = decide (some z ∈ some y :: os)
    by_cases h : y = z
    · subst h
      simp
    · have h2 : ¬ z = y := fun e => h e.symm
      simp [h, h2]
theorem inV_strs' (z : Str) (zs : List Str) : inV (.str z) (zs.map V.str) = decide (z ∈ zs) := by
  rw [← some_V, inV_o]
  refine decide_eq_decide.mpr ⟨fun h => ?_, fun h => List.mem_map.mpr ⟨z, h, rfl⟩⟩
  obtain ⟨y, hy, e⟩ := List.mem_map.mp h
  rw [← Option.some.inj e]
  exact hy

theorem cut_drop (xs : List V) (k : Nat) : cutV xs (some (k : Int)) none = xs.drop k := by
  unfold cutV
  rw [HT.sIx_none, HT.sIx_nat]
  by_cases h : k ≤ xs.length
  · rw [Nat.min_eq_left h, List.take_of_length_le (by rw [List.length_drop]; exact Nat.le_refl _)]
  · rw [Nat.min_eq_right (by omega), List.drop_of_length_le (Nat.le_refl _), List.drop_of_length_le (by omega), List.take_nil]
/-! ### words -/
/-- few words that are not long -/
structure WOk (ws : List Str) : Prop where
  few : ws.length ≤ 100
  short : ∀ w ∈ ws, w.length ≤ 200
abbrev page (ws : List Str) : Str := Txt.join (" " : Str) ws
theorem sum_len {ws : List Str} {b : Nat} (h : ∀ w ∈ ws, w.length ≤ b) : (ws.map (·.length)).sum ≤ b * ws.length := by
  induction ws with
  | nil => exact Nat.le_refl _
  | cons z r ih =>
    rw [List.map_cons, List.sum_cons, List.length_cons, Nat.mul_succ]
    have := ih fun y hy => h y (List.mem_cons_of_mem _ hy)
    have := h z List.mem_cons_self
    omega
theorem WOk.sum {ws : List Str} (h : WOk ws) : (ws.map (·.length)).sum ≤ 20000 := by
  have h1 := sum_len h.short
  have h2 := Nat.mul_le_mul_left 200 h.few
  omega
theorem len_sp : (" " : Str).length = 1 := by decide
theorem len_nl : ("\n" : Str).length = 1 := by decide
theorem join_len_le {sep : Str} {ws : List Str} (hs : sep.length = 1) (h : WOk ws) : (Txt.join sep ws).length ≤ 20100 := by
  have e : Txt.join sep ws = Str.join sep ws := StrLaws.glued_eq_join _ _
  rw [e]
  have h1 := StrLaws.join_length_le sep ws
  have h2 := h.sum
  have h3 := h.few
  rw [hs] at h1
  omega
theorem join_snoc (sep : Str) : ∀ (ws : List Str) (w : Str), ws ≠ [] → Txt.join sep (ws ++ [w]) = Txt.join sep ws ++ sep ++ w
  | [], _, h => absurd rfl h
  | [x], w, _ => by
    rw [TL.join_eq, TL.join_eq]
    rfl
  | x :: y :: r, w, _ => by
    have ih := join_snoc sep (y :: r) w (fun h => nomatch h)
    rw [TL.join_eq, TL.join_eq] at ih
    rw [TL.join_eq, TL.join_eq]
    show x ++ sep ++ Str.join sep (y :: r ++ [w]) = x ++ sep ++ Str.join sep (y :: r) ++ sep ++ w
    rw [show (y :: r ++ [w]) = (y :: r) ++ [w] from rfl, ih]
    refine TL.ext_tl ?_
    simp only [TL.tl_append, List.append_assoc]
theorem join_one (sep w : Str) : Txt.join sep [w] = w := by
  rw [TL.join_eq]
  rfl
/-- a joined text, split -/
theorem split_page {ws : List Str} (ne : ws ≠ []) (h : ∀ w ∈ ws, 32 ∉ w.cps.toList) : Txt.split (page ws) (" " : Str) = ws :=
  TL.split_join (s := 32) (S := []) (by decide) (by decide +kernel) ne h
theorem split_lines {ws : List Str} (ne : ws ≠ []) (h : ∀ w ∈ ws, 10 ∉ w.cps.toList) : Txt.split (Txt.join ("\n" : Str) ws) ("\n" : Str) = ws :=
  TL.split_join (s := 10) (S := []) (by decide) (by decide +kernel) ne h
theorem codes_join {sep : Str} : ∀ {zs : List Str} {c : Nat}, c ∈ (Str.join sep zs).cps.toList → c ∈ sep.cps.toList ∨ ∃ z ∈ zs, c ∈ z.cps.toList
  | [], c, h => by simp [Str.join, Str.empty] at h
  | [x], c, h => .inr ⟨x, List.mem_cons_self, h⟩
  | x :: y :: r, c, h => by
    have h : c ∈ (x ++ sep ++ Str.join sep (y :: r)).cps.toList := h
    rw [PyProof.Rows.cps_toList_append, PyProof.Rows.cps_toList_append] at h
    rcases List.mem_append.mp h with h | h
    · rcases List.mem_append.mp h with h | h
      · exact .inr ⟨x, List.mem_cons_self, h⟩
      · exact .inl h
    · rcases codes_join h with h | ⟨z, h1, h2⟩
      · exact .inl h
      · exact .inr ⟨z, List.mem_cons_of_mem _ h1, h2⟩
theorem page_codes {sep : Str} {zs : List Str} {c : Nat} (h : c ∈ (Txt.join sep zs).cps.toList) : c ∈ sep.cps.toList ∨ ∃ z ∈ zs, c ∈ z.cps.toList := by
  rw [TL.join_eq] at h
  exact codes_join h

/-! ### what evaluates to what -/
section
variable {K : PySem.W.Frag} {σ : L2.St} {H H' : Hp} {ta tb tc te : TE} {x y z v : V} {a : Addr} {D : Ends} {tu tw tz : TS}
def rJoin (K : PySem.W.Frag) : V → List V → Hp → VK → Prop := fun x xs H Q => ∃ a p, ∃ ys : List Str, x = V.str a ∧ xs = [.ref p] ∧ (SqL K H p (ys.map V.str) ∨ SqT K H p (ys.map V.str)) ∧ (ys.map (·.length)).sum + ys.length * a.length ≤ 16777216 ∧ Q (.str (Txt.join a ys)) H
theorem ev_joinV {sep : Str} {zs : List Str} (hs : sep.length = 1) (h : Ev te σ H (.str sep)) (h2 : Ev ta σ H (.ref a)) (ha : H a = some (.lst (zs.map V.str))) (hz : WOk zs) :
    Ev (tM1 (rJoin K) te ta) σ H (.str (Txt.join sep zs)) := fun H1 e Q q =>
  h H1 e _ fun H2 e2 => ⟨⟨_, rfl⟩, h2 H2 (e.trans e2) _ fun H3 e3 => ⟨sep, a, zs, rfl, rfl, .inl (sq_of (((e.trans e2).trans e3) _ _ ha)), by have := hz.sum; have := hz.few; rw [hs]; omega, q H3 (e2.trans e3)⟩⟩
theorem ev_joinL {sep : Str} {zs : List Str} (hs : sep.length = 1) (h : Ev te σ H (.str sep)) (h2 : EvL ta σ H (zs.map V.str)) (hz : WOk zs) :
    Ev (tM1 (rJoin K) te ta) σ H (.str (Txt.join sep zs)) := fun H1 e Q q =>
  h H1 e _ fun H2 e2 => ⟨⟨_, rfl⟩, h2 H2 (e.trans e2) _ fun p H3 _ e3 hp => ⟨sep, p, zs, rfl, rfl, .inl (sq_of hp), by have := hz.sum; have := hz.few; rw [hs]; omega, q H3 (e2.trans e3)⟩⟩
def rSplit : V → List V → Hp → VK → Prop := fun x xs H Q => ∃ a b, x = .str a ∧ xs = [.str b] ∧ (b.length == 0) = false ∧ a.length + 2 ≤ sizeLine ∧ rNewStrs (Txt.split a b) H Q
theorem el_split {p sep : Str} {ws : List Str} (h : Ev te σ H (.str p)) (h2 : Ev ta σ H (.str sep)) (hs : sep.length = 1) (hl : p.length ≤ 90000) (e : Txt.split p sep = ws) : EvL (tM1 rSplit te ta) σ H (ws.map V.str) := fun H1 e1 Q q =>
  h H1 e1 _ fun H2 e2 => ⟨⟨_, rfl⟩, h2 H2 (e1.trans e2) _ fun H3 e3 => ⟨p, sep, rfl, rfl, by rw [hs]; rfl, sz_of (by omega), fun r hr => by
    rw [e]
    exact q r _ (fresh_back (e2.trans e3) hr) ((e2.trans e3).trans (Ex.new hr)) upd_same⟩⟩
theorem rv_addS' {H : Hp} {i j : Str} (h : i.length + j.length ≤ 100000) : RV (fun x y H Q => ∃ i j, x = .str i ∧ y = .str j ∧ i.length + j.length ≤ sizeLine ∧ Q (.str (i ++ j)) H) (.str i) (.str j) H (.str (i ++ j)) :=
  fun H1 _ _ q => ⟨i, j, rfl, rfl, sz_of h, q H1 (Ex.refl H1)⟩
theorem rv_isN' {H : Hp} {x : V} : RV (fun x y H Q => y = V.non ∧ Q (.bl (decide (x = .non))) H) x .non H (.bl (decide (x = .non))) := fun H1 _ _ q => ⟨rfl, q H1 (Ex.refl H1)⟩
/-- a call by keywords alone of a def that makes nothing but a value -/
theorem ev_spK {sp : Sp} {gV : List V → List V → List V} {vs zs : List V} {E : XK} {tk : TA} (h : EvA tk σ H zs) (e : gV [] zs = vs) (hs : ∀ H1, Ex H H1 → ∀ Q : VK, (∀ H2, Ex H1 H2 → Q z H2) → sp vs H1 Q E) : Ev (tCallK sp gV E tNil tk) σ H z := fun H1 e1 Q q =>
  h H1 e1 _ fun H2 e2 => by
    rw [e]
    exact hs H2 (e1.trans e2) Q fun H3 e3 => q H3 (e2.trans e3)
/-- a call that gives a new list -/
theorem el_sp {sp : Sp} {dvs vs xs : List V} {E : XK} {ta : TA} (h : EvA ta σ H vs) (hs : ∀ H1, Ex H H1 → ∀ Q : VK, (∀ p H2, H1 p = none → Ex H1 H2 → H2 p = some (.lst xs) → Q (.ref p) H2) → sp (vs ++ dvs) H1 Q E) : EvL (tCall sp dvs E ta) σ H xs := fun H1 e Q q =>
  h H1 e _ fun H2 e2 => hs H2 (e.trans e2) Q fun p H3 hp e3 h3 => q p H3 (fresh_back e2 hp) (e2.trans e3) h3
/-- a call whose argument is a new list -/
theorem ev_spL {sp : Sp} {xs : List V} {E : XK} (h : EvL te σ H xs) (hs : ∀ p H1, H1 p = some (.lst xs) → Ex H H1 → ∀ Q : VK, (∀ H2, Ex H1 H2 → Q z H2) → sp [.ref p] H1 Q E) : Ev (tCall sp [] E (tCons te tNil)) σ H z := fun H1 e Q q =>
  h H1 e _ fun p H2 _ e2 hp => hs p H2 hp (e.trans e2) Q fun H3 e3 => q H3 (e2.trans e3)
theorem el_spK {sp : Sp} {gV : List V → List V → List V} {vs zs xs : List V} {E : XK} {tk : TA} (h : EvA tk σ H zs) (e : gV [] zs = vs) (hs : ∀ H1, Ex H H1 → ∀ Q : VK, (∀ p H2, H1 p = none → Ex H1 H2 → H2 p = some (.lst xs) → Q (.ref p) H2) → sp vs H1 Q E) : EvL (tCallK sp gV E tNil tk) σ H xs := fun H1 e1 Q q =>
  h H1 e1 _ fun H2 e2 => by
    rw [e]
    exact hs H2 (e1.trans e2) Q fun p H3 hp e3 h3 => q p H3 (fresh_back e2 hp) (e2.trans e3) h3
/-- equal data -/
theorem rv_eqD {d : PyData} {n : Nat} (hx : Dt H x d) (hy : Dt H y d) (sh : Sh n d) (le : n ≤ 64) : RV (rEqD K) x y H (.bl true) := fun H1 e Q q =>
  ⟨d, d, (hx.same (same_ex e)).dp, (hy.same (same_ex e)).dp, sh.shaped le, sh.shaped le, by
    rw [sh.refl]
    exact q H1 (Ex.refl H1)⟩
theorem ev_eqD {d : PyData} {n : Nat} (ha : Ev ta σ H x) (hb : Ev tb σ H y) (hx : Dt H x d) (hy : Dt H y d) (sh : Sh n d) (le : n ≤ 64) : Ev (tOp (rEqD K) ta tb) σ H (.bl true) := ev_op ha hb (rv_eqD hx hy sh le)
theorem ev_eqD1 {xs : List V} {ds : List PyData} {n : Nat} (ha : EvL ta σ H xs) (hb : ∀ H1, Ex H H1 → Ev tb σ H1 y) (hx : Dts H xs ds) (hy : Dt H y (.list ds)) (sh : Sh n (.list ds)) (le : n ≤ 64) : Ev (tOp (rEqD K) ta tb) σ H (.bl true) :=
  ev_opL1 ha hb fun p H1 hp e => rv_eqD (.lst hp (hx.same (same_ex e))) (hy.same (same_ex e)) sh le
theorem q_clear {l : Addr} {xs : List V} (hl : H l = some (.lst xs)) (ha : Ev ta σ H (.ref l)) (k : ∀ H1, Ex H H1 → tz D σ (upd H1 l (.lst []))) : tSeq (tDrop (tBM0 K "list" rClear ta)) tz D σ H :=
  ha H (Ex.refl H) _ fun H1 e1 => ⟨Or.inl ⟨rfl, xs, sq_of (e1 l _ hl)⟩, l, xs, rfl, rfl, e1 l _ hl, k H1 e1⟩
theorem q_reverse {l : Addr} {xs : List V} (hl : H l = some (.lst xs)) (ha : Ev ta σ H (.ref l)) (k : ∀ H1, Ex H H1 → tz D σ (upd H1 l (.lst xs.reverse))) : tSeq (tDrop (tBM0 K "list" rReverse ta)) tz D σ H :=
  ha H (Ex.refl H) _ fun H1 e1 => ⟨Or.inl ⟨rfl, xs, sq_of (e1 l _ hl)⟩, l, xs, rfl, rfl, e1 l _ hl, k H1 e1⟩
/-- a for over enumerate of a new list -/
theorem s_forE {xs : List V} {tl : TE} {i j : Nat} (h : EvL tl σ H xs) (Pv : Addr → Nat → L2.St → Hp → Prop) (h0 : ∀ p H1, H p = none → Ex H H1 → H1 p = some (.lst xs) → Pv p 0 σ H1) (hl : ∀ p n σ' H', Pv p n σ' H' → SqL K H' p xs)
    (hs : ∀ p n x σ' H' H2, xs[n]? = some x → Pv p n σ' H' → Ex H' H2 → tu { D with nx := Pv p (n + 1), ct := Pv p (n + 1), bk := D.nx } ((σ'.set i (some (.int (n : Int)))).set j (some x)) H2)
    (hd : ∀ p σ' H', Pv p xs.length σ' H' → D.nx σ' H') : tFor (iEnum K (tCons tl tNil)) (gTup K 2 (gCons (gName i) (gCons (gName j) gNil))) tu D σ H :=
  h H (Ex.refl H) _ fun p H1 hp e h1 => ⟨p, xs, rfl, sq_of h1, for_it walk_enum (Pv p) (h0 p H1 hp e h1) (fun n σ H _ q => hl p n σ H q) (fun n v σ' H' H2 hn q y => by
    obtain ⟨T, x, z, rfl, nT, rfl, hx, hz⟩ := y
    cases hx
    exact ⟨T, [.int (n : Int), z], rfl, st_of upd_same, rfl, .int (n : Int), [z], rfl, z, [], rfl, rfl, hs p n z σ' H' _ hz q (Ex.new nT)⟩) (hd p)⟩
theorem q_forE {xs : List V} {tl : TE} {i j : Nat} (h : EvL tl σ H xs) (Pv : Addr → Nat → L2.St → Hp → Prop) (h0 : ∀ p H1, H p = none → Ex H H1 → H1 p = some (.lst xs) → Pv p 0 σ H1) (hl : ∀ p n σ' H', Pv p n σ' H' → SqL K H' p xs)
    (hs : ∀ p n x σ' H' H2, xs[n]? = some x → Pv p n σ' H' → Ex H' H2 → tu { D with nx := Pv p (n + 1), ct := Pv p (n + 1), bk := tz D } ((σ'.set i (some (.int (n : Int)))).set j (some x)) H2)
    (hd : ∀ p σ' H', Pv p xs.length σ' H' → tz D σ' H') : tSeq (tFor (iEnum K (tCons tl tNil)) (gTup K 2 (gCons (gName i) (gCons (gName j) gNil))) tu) tz D σ H := s_forE (D := { D with nx := tz D }) h Pv h0 hl hs hd
end
/-- lists of texts and None -/
theorem lay_o : ∀ os : List (Option Str), (∀ z, some z ∈ os → PyData.strOk z = true) → ∀ d ∈ os.map oD, Sh 0 d := fun os h d hd => by
  obtain ⟨o, ho, rfl⟩ := List.mem_map.mp hd
  cases o with
  | none => exact ⟨rfl, Nat.zero_le _⟩
  | some z => exact .str 0 (h z ho)
theorem sh_o {os : List (Option Str)} (h : ∀ z, some z ∈ os → PyData.strOk z = true) : Sh 1 (.list (os.map oD)) := .lst (lay_o os h)
end Os
namespace Os
open PySem PySem.Spec PyProof.Rows L2 Evl
/-! ### more comprehensions, truth of lists -/
section
variable {K : PySem.W.Frag} {σ : L2.St} {H H' : Hp} {ta tb tc te tl : TE} {x y z v : V} {a : Addr} {D : Ends} {tu tw tz : TS}
def tTru (K : PySem.W.Frag) (ta : TE) : TT := fun σ H Q => ta σ H fun x H' => ∃ k, TruV K x H' k ∧ Q k H'
theorem et_tru {xs : List V} (h : Ev ta σ H (.ref a)) (hx : SqL K H a xs) : EvT (tTru K ta) σ H (!xs.isEmpty) := fun H1 e Q q =>
  h H1 e _ fun H2 e2 => ⟨!xs.isEmpty, .inl ⟨xs, ex_l (e.trans e2) hx, rfl⟩, q H2 e2⟩
theorem getD_map' {α : Type} [Inhabited α] {xs : List α} {i : Nat} {x : α} (h : xs[i]? = some x) : xs.getD i default = x := by
  rw [List.getD_eq_getElem?_getD, h]
  rfl
/-- over a list of things told by xs -/
theorem el_lcMapL {α : Type} [Inhabited α] {xs : List α} {fV : α → V} {j : Nat} {vs : List Nat} (v : α → V) (h : Ev tl σ H (.ref a)) (hx : SqL K H a (xs.map fV)) (hz : xs.length ≤ 40000) (hw : ∀ x, wipe ((wipe σ vs).set j (some x)) vs = wipe σ vs)
    (he : ∀ x H1, Ex H H1 → x ∈ xs → Ev te ((wipe σ vs).set j (some (fV x))) H1 (v x)) : EvL (tLc (iList K tl) (gName j) tYes te vs) σ H (xs.map v) := by
  rw [← given_map xs v (fun i => v (xs.getD i default)) (fun i x e => by rw [getD_map' e]), ← List.length_map (f := fV) (as := xs)]
  refine el_lcL (fun _ => true) _ h hx (by rw [List.length_map]; exact hz) hw (fun i x H2 _ _ => fun H3 e3 Q q => q H3 (Ex.refl H3)) (fun i x H2 e2 hx' _ => ?_)
  rw [List.getElem?_map] at hx'
  obtain ⟨y, hy, rfl⟩ := Option.map_eq_some_iff.mp hx'
  rw [getD_map' hy]
  exact he y H2 e2 (List.mem_of_getElem? hy)
theorem el_lcMapN {α : Type} [Inhabited α] {xs : List α} {fV : α → V} {j : Nat} {vs : List Nat} (v : α → V) (h : EvL tl σ H (xs.map fV)) (hz : xs.length ≤ 40000) (hw : ∀ x, wipe ((wipe σ vs).set j (some x)) vs = wipe σ vs)
    (he : ∀ x H1, Ex H H1 → x ∈ xs → Ev te ((wipe σ vs).set j (some (fV x))) H1 (v x)) : EvL (tLc (iList K tl) (gName j) tYes te vs) σ H (xs.map v) := by
  rw [← given_map xs v (fun i => v (xs.getD i default)) (fun i x e => by rw [getD_map' e]), ← List.length_map (f := fV) (as := xs)]
  refine el_lcNL (fun _ => true) _ h (by rw [List.length_map]; exact hz) hw (fun i x H2 _ _ => fun H3 e3 Q q => q H3 (Ex.refl H3)) (fun i x H2 e2 hx' _ => ?_)
  rw [List.getElem?_map] at hx'
  obtain ⟨y, hy, rfl⟩ := Option.map_eq_some_iff.mp hx'
  rw [getD_map' hy]
  exact he y H2 e2 (List.mem_of_getElem? hy)
/-- over a list of pairs, the pair's parts in two names -/
theorem el_lcPr {xs : List V} {es : List Pr} {i j n : Nat} {vs : List Nat} (v : Pr → V) (hn : n = 2) (h : Ev tl σ H (.ref a)) (hx : H a = some (.lst xs)) (hp : PrsV H xs es) (hz : es.length ≤ 40000) (hw : ∀ x y, wipe (((wipe σ vs).set i (some x)).set j (some y)) vs = wipe σ vs)
    (he : ∀ e H1, Ex H H1 → e ∈ es → Ev te (((wipe σ vs).set i (some (.int (e.1 : Int)))).set j (some (.int (e.2 : Int)))) H1 (v e)) : EvL (tLc (iList K tl) (gTup K n (gCons (gName i) (gCons (gName j) gNil))) tYes te vs) σ H (es.map v) := fun H0 e0 Q q => h H0 e0 _ fun H1 e1 => ⟨a, rfl, ⟨xs, sq_of ((e0.trans e1) _ _ hx)⟩, fun Dl hD => by
  have hx1 := (e0.trans e1) _ _ hx
  have hlen := hp.length
  have eg : given xs.length (fun _ => true) (fun i => v (es.getD i (0, 0))) = es.map v := by
    rw [hlen]
    exact given_map es v _ fun i x e => by rw [List.getD_eq_getElem?_getD, e]; rfl
  refine lc_list (xs := xs) (Cw H1 (fun _ => true) (fun i => v (es.getD i (0, 0))) Dl) ⟨hD, Ex.new hD, upd_same⟩ (fun k H' _ p => sq_of (p.2.1 _ _ hx1)) (fun k x H' hk p => ?_) (fun H' p => q Dl H' (fresh_back e1 p.1) (e1.trans p.2.1) (by rw [← eg]; exact p.2.2))
  obtain ⟨e, hek, t, rfl, ht⟩ := hp.get hk
  have ht1 := p.2.1 _ _ ((e0.trans e1) _ _ ht)
  refine ⟨t, [.int (e.1 : Int), .int (e.2 : Int)], rfl, st_of ht1, hn.symm, .int (e.1 : Int), [.int (e.2 : Int)], rfl, .int (e.2 : Int), [], rfl, rfl, hw _ _, ?_⟩
  refine cw_turn p (by have := (List.getElem?_eq_some_iff.mp hk).1; omega) (fun H3 e3 Q q => q H3 (Ex.refl H3)) (fun _ => ?_)
  show Ev te _ H1 (v (es.getD k (0, 0)))
  rw [List.getD_eq_getElem?_getD, hek]
  exact he e H1 (e0.trans e1) (List.mem_of_getElem? hek)⟩
/-- a for over enumerate of a list that stands -/
theorem s_forEV {xs : List V} {i j : Nat} (h : Ev tl σ H (.ref a)) (hx : SqL K H a xs) (Pv : Nat → L2.St → Hp → Prop) (h0 : ∀ H1, Ex H H1 → Pv 0 σ H1) (hl : ∀ n σ' H', Pv n σ' H' → SqL K H' a xs)
    (hs : ∀ n x σ' H' H2, xs[n]? = some x → Pv n σ' H' → Ex H' H2 → tu { D with nx := Pv (n + 1), ct := Pv (n + 1), bk := D.nx } ((σ'.set i (some (.int (n : Int)))).set j (some x)) H2)
    (hd : ∀ σ' H', Pv xs.length σ' H' → D.nx σ' H') : tFor (iEnum K (tCons tl tNil)) (gTup K 2 (gCons (gName i) (gCons (gName j) gNil))) tu D σ H :=
  h H (Ex.refl H) _ fun H1 e => ⟨a, xs, rfl, ex_l e hx, for_it walk_enum Pv (h0 H1 e) (fun n σ H _ q => hl n σ H q) (fun n v σ' H' H2 hn q y => by
    obtain ⟨T, x, z, rfl, nT, rfl, hx, hz⟩ := y
    cases hx
    exact ⟨T, [.int (n : Int), z], rfl, st_of upd_same, rfl, .int (n : Int), [z], rfl, z, [], rfl, rfl, hs n z σ' H' _ hz q (Ex.new nT)⟩) hd⟩
theorem q_forEV {xs : List V} {i j : Nat} (h : Ev tl σ H (.ref a)) (hx : SqL K H a xs) (Pv : Nat → L2.St → Hp → Prop) (h0 : ∀ H1, Ex H H1 → Pv 0 σ H1) (hl : ∀ n σ' H', Pv n σ' H' → SqL K H' a xs)
    (hs : ∀ n x σ' H' H2, xs[n]? = some x → Pv n σ' H' → Ex H' H2 → tu { D with nx := Pv (n + 1), ct := Pv (n + 1), bk := tz D } ((σ'.set i (some (.int (n : Int)))).set j (some x)) H2)
    (hd : ∀ σ' H', Pv xs.length σ' H' → tz D σ' H') : tSeq (tFor (iEnum K (tCons tl tNil)) (gTup K 2 (gCons (gName i) (gCons (gName j) gNil))) tu) tz D σ H := s_forEV (D := { D with nx := tz D }) h hx Pv h0 hl hs hd
def rStrI : List V → Hp → VK → Prop := fun xs H Q => ∃ i : Int, xs = [.int i] ∧ i.natAbs.log2 < 1920 ∧ Q (.str (toString i)) H
theorem ev_strI {n : Nat} (h : Ev ta σ H (.int (n : Int))) (hn : n < 1000) : Ev (tCB rStrI (tCons ta tNil)) σ H (.str (toString ((n : Nat) : Int))) := fun H1 e Q q =>
  h H1 e _ fun H2 e2 => ⟨_, rfl, by rw [Int.natAbs_natCast]; exact Nat.lt_of_le_of_lt (Nat.log2_le_self n) (by omega), q H2 e2⟩
def rIntS : List V → Hp → VK → Prop := fun xs H Q => ∃ (a : Str) (n : Int), xs = [.str a] ∧ PySem.intText? a = some n ∧ a.length ≤ 640 ∧ Q (.int n) H
theorem ev_intS {z : Str} {n : Int} (h : Ev ta σ H (.str z)) (hz : z.length ≤ 640) (hn : PySem.intText? z = some n) : Ev (tCB rIntS (tCons ta tNil)) σ H (.int n) := fun H1 e Q q =>
  h H1 e _ fun H2 e2 => ⟨z, n, rfl, hn, hz, q H2 e2⟩
end
end Os
namespace Os
open PySem PySem.Spec PyProof.Rows L2 Evl
theorem sh_prs' (es : List Pr) : Sh 2 (.list (es.map prD)) := .lst fun d hd => by
  obtain ⟨e, _, rfl⟩ := List.mem_map.mp hd
  refine .tup fun x hx => ?_
  rcases List.mem_cons.mp hx with rfl | hx
  · exact .int 0 _
  · rw [List.mem_singleton.mp hx]
    exact .int 0 _
theorem prs_snoc {G : Hp} {v : V} {e : Pr} : ∀ {xs : List V} {es : List Pr}, PrsV G xs es → PrV G v e → PrsV G (xs ++ [v]) (es ++ [e])
  | _, _, .nil, h => .cons h .nil
  | _, _, .cons p r, h => .cons p (prs_snoc r h)
theorem prs_map {G G' : Hp} (k : ∀ v e, PrV G v e → PrV G' v e) : ∀ {xs : List V} {es : List Pr}, PrsV G xs es → PrsV G' xs es
  | _, _, .nil => .nil
  | _, _, .cons p r => .cons (k _ _ p) (prs_map k r)
end Os
namespace Os
open PySem PySem.Spec PyProof.Rows L2 Evl
theorem room65 {k : Nat} {A : Around} (r : Room k A) : A.units + 65 < cLine := by have := r.un; omega
end Os
namespace Os
open PySem PySem.Spec PyProof.Rows L2 Evl
theorem el_rg {σ : L2.St} {H : Hp} {ta : TE} {n : Nat} (h : Ev ta σ H (.int (n : Int))) (hn : n ≤ 100000) : EvL (tLstRg (tRg1 ta)) σ H ((List.range n).map fun x : Nat => V.int (x : Int)) := fun H1 e Q q =>
  h H1 e _ fun H2 e2 => ⟨(n : Int), rfl, RgOk.of_le (by omega) (by omega) (by omega) (by omega), fun L hL => q L _ (fresh_back e2 hL) (e2.trans (Ex.new hL)) (by
    rw [upd_same]
    have : rgV 0 (n : Int) = (List.range n).map fun x : Nat => V.int (x : Int) := by
      unfold rgV
      rw [show ((n : Int) - 0).toNat = n by omega]
      exact List.map_congr_left fun i _ => congrArg V.int (by omega)
    rw [this])⟩
theorem PrsV.put0 {p : Addr} {G : Hp} {xs' zs vs : List V} {es : List Pr} (h : PrsV G vs es) (hp : G p = some (.lst xs')) : PrsV (upd G p (.lst zs)) vs es := by
  induction h with
  | nil => exact .nil
  | cons x _ ih =>
    obtain ⟨t, rfl, ht⟩ := x
    refine .cons ⟨t, rfl, ?_⟩ ih
    rw [upd_ne fun e => by
      rw [e, hp] at ht
      cases ht]
    exact ht
theorem PrsV.putH {s p : Addr} {G : Hp} {xs' zs vs : List V} {es : List Pr} (h : PrsV (hide s G) vs es) (np : p ≠ s) (hp : G p = some (.lst xs')) : PrsV (hide s (upd G p (.lst zs))) vs es := by
  induction h with
  | nil => exact .nil
  | cons x _ ih =>
    obtain ⟨t, rfl, ht⟩ := x
    obtain ⟨n1, h1⟩ := hide_of ht
    refine .cons ⟨t, rfl, ?_⟩ ih
    rw [hide_ne n1, upd_ne fun e => by
      rw [e, hp] at h1
      cases h1]
    exact h1
theorem PrsV.newH {s p : Addr} {G : Hp} {o : HO} {vs : List V} {es : List Pr} (h : PrsV (hide s G) vs es) (hs : ∃ u, G s = some u) (hp : G p = none) : PrsV (hide s (upd G p o)) vs es :=
  h.ex (hide_ex (Ex.new hp))
theorem perm_pop' {α : Type} {l : List α} {k : Nat} {y : α} (acc : List α) (h : l[k]? = some y) : ((acc ++ [y]) ++ l.eraseIdx k).Perm (acc ++ l) := by
  obtain ⟨lt, e⟩ := List.getElem?_eq_some_iff.mp h
  rw [List.append_assoc]
  refine List.Perm.append_left acc ?_
  have e2 := List.drop_eq_getElem_cons lt
  rw [e] at e2
  rw [List.eraseIdx_eq_take_drop_succ]
  refine List.Perm.trans (l₂ := l.take k ++ y :: l.drop (k + 1)) (show (y :: (l.take k ++ l.drop (k + 1))).Perm _ from List.perm_middle.symm) ?_
  rw [← e2, List.take_append_drop]
end Os
namespace Os
open PySem PySem.Spec PyProof.Rows L2 Evl
/-! ### what evaluates to data, wherever it stands -/
def EvD (te : TE) (σ : L2.St) (H : Hp) (d : PyData) : Prop := ∀ H1, Ex H H1 → ∀ Q : VK, (∀ v H2, Ex H1 H2 → Dt H2 v d → Q v H2) → te σ H1 Q
def EvDs (ta : TA) (σ : L2.St) (H : Hp) (ds : List PyData) : Prop := ∀ H1, Ex H H1 → ∀ Q : List V → Hp → Prop, (∀ vs H2, Ex H1 H2 → Dts H2 vs ds → Q vs H2) → ta σ H1 Q
section
variable {K : PySem.W.Frag} {σ : L2.St} {H H' : Hp} {ta tb te : TE} {tr : TA} {x y v : V} {d : PyData} {ds : List PyData}
theorem ed_of (h : Ev te σ H v) (hd : Dt H v d) : EvD te σ H d := fun H1 e Q q => h H1 e _ fun H2 e2 => q v H2 e2 (hd.same (same_ex (e.trans e2)))
theorem ed_l {xs : List V} (h : EvL te σ H xs) (hd : Dts H xs ds) : EvD te σ H (.list ds) := fun H1 e Q q => h H1 e _ fun p H2 _ e2 hp => q _ H2 e2 (.lst hp (hd.same (same_ex (e.trans e2))))
theorem eds_nil : EvDs tNil σ H [] := fun H1 _ Q q => q [] H1 (Ex.refl H1) .nil
theorem eds_cons (h : EvD te σ H d) (hr : EvDs tr σ H ds) : EvDs (tCons te tr) σ H (d :: ds) := fun H1 e Q q =>
  h H1 e _ fun v H2 e2 hv => hr H2 (e.trans e2) _ fun vs H3 e3 hvs => q _ H3 (e2.trans e3) (.cons (hv.same (same_ex e3)) hvs)
theorem ed_lst (h : EvDs tr σ H ds) (hl : ds.length ≤ 100000) : EvD (tLst tr) σ H (.list ds) := fun H1 e Q q =>
  h H1 e _ fun vs H2 e2 hvs => ⟨sz_of (by rw [hvs.length]; exact hl), fun p hp => q (.ref p) _ (e2.trans (Ex.new hp)) (.lst upd_same (hvs.same (same_ex (Ex.new hp))))⟩
theorem ed_tup (h : EvDs tr σ H ds) (hl : ds.length ≤ 100000) : EvD (tTup tr) σ H (.tuple ds) := fun H1 e Q q =>
  h H1 e _ fun vs H2 e2 hvs => ⟨sz_of (by rw [hvs.length]; exact hl), fun p hp => q (.ref p) _ (e2.trans (Ex.new hp)) (.tup upd_same (hvs.same (same_ex (Ex.new hp))))⟩
/-- a call that gives data -/
theorem ed_sp {sp : Sp} {dvs vs : List V} {E : XK} (h : EvA tr σ H vs) (hs : ∀ H1, Ex H H1 → ∀ Q : VK, (∀ v H2, Ex H1 H2 → Dt H2 v d → Q v H2) → sp (vs ++ dvs) H1 Q E) : EvD (tCall sp dvs E tr) σ H d := fun H1 e Q q =>
  h H1 e _ fun H2 e2 => hs H2 (e.trans e2) Q fun v H3 e3 => q v H3 (e2.trans e3)
theorem ed_spK {sp : Sp} {gV : List V → List V → List V} {vs zs : List V} {E : XK} {tk : TA} (h : EvA tk σ H zs) (e : gV [] zs = vs) (hs : ∀ H1, Ex H H1 → ∀ Q : VK, (∀ v H2, Ex H1 H2 → Dt H2 v d → Q v H2) → sp vs H1 Q E) : EvD (tCallK sp gV E tNil tk) σ H d := fun H1 e1 Q q =>
  h H1 e1 _ fun H2 e2 => by
    rw [e]
    exact hs H2 (e1.trans e2) Q fun v H3 e3 => q v H3 (e2.trans e3)
theorem ev_eqDD {n : Nat} (ha : EvD ta σ H d) (hb : EvD tb σ H d) (sh : Sh n d) (le : n ≤ 64) : Ev (tOp (rEqD K) ta tb) σ H (.bl true) := fun H1 e Q q =>
  ha H1 e _ fun v H2 e2 hv => hb H2 (e.trans e2) _ fun u H3 e3 hu => ⟨d, d, (hv.same (same_ex e3)).dp, hu.dp, sh.shaped le, sh.shaped le, by
    rw [sh.refl]
    exact q H3 (e2.trans e3)⟩
theorem ev_neDD {n : Nat} (ha : EvD ta σ H d) (hb : EvD tb σ H d) (sh : Sh n d) (le : n ≤ 64) : Ev (tOp (rNeD K) ta tb) σ H (.bl false) := fun H1 e Q q =>
  ha H1 e _ fun v H2 e2 hv => hb H2 (e.trans e2) _ fun u H3 e3 hu => ⟨d, d, (hv.same (same_ex e3)).dp, hu.dp, sh.shaped le, sh.shaped le, by
    rw [sh.refl]
    exact q H3 (e2.trans e3)⟩
end
end Os
namespace Os
open PySem PySem.Spec PyProof.Rows L2 Evl
theorem last_of (xs : List V) (y : V) : atI (xs ++ [y]) (-1) = some y := by
  unfold atI
  have : ixN (xs ++ [y]).length (-1) = some xs.length := by
    unfold ixN
    rw [if_neg (by decide), List.length_append]
    show (if _ then _ else _) = _
    rw [if_pos (by simp; omega)]
    simp
    omega
  rw [this]
  show (xs ++ [y])[xs.length]? = some y
  rw [List.getElem?_append_right (Nat.le_refl _), Nat.sub_self]
  rfl
end Os
namespace Os
theorem nodup_at {α : Type} {l : List α} (h : l.Nodup) {i j : Nat} {x : α} (hi : l[i]? = some x) (hj : l[j]? = some x) : i = j := by
  obtain ⟨li, ei⟩ := List.getElem?_eq_some_iff.mp hi
  obtain ⟨lj, ej⟩ := List.getElem?_eq_some_iff.mp hj
  rcases Nat.lt_trichotomy i j with lt | e | lt
  · exact absurd (ei.trans ej.symm) (List.pairwise_iff_getElem.mp h i j li lj lt)
  · exact e
  · exact absurd (ej.trans ei.symm) (List.pairwise_iff_getElem.mp h j i lj li lt)
end Os
/-! products in place, factorials, dicts with tuples as keys -/
namespace Os
open PySem PySem.Spec PyProof.Rows L2 Evl
section
variable {X : Cx}
def ipC (C : Int → Int → Prop) (f : Int → Int → Int) : TIp := fun x y H Q => ∃ i j, x = .int i ∧ y = .int j ∧ C i j ∧ Q (.int (f i j)) H
theorem ip_mulW : PIp X .Mult (ipC CMulW fun i j => i * j) := by
  intro pins s σ H x y v u Q I r1 r2 h
  obtain ⟨i, j, e1, e2, c, q⟩ := h
  subst e1; subst e2
  obtain ⟨t, rfl⟩ := r1
  obtain ⟨t', rfl⟩ := r2
  exact imul_int ⟨.int _, H, I.tok _, ⟨_, rfl⟩, q⟩ c.ok
theorem fact_fac (n : Nat) : Builtin.Math.factorialNat n = fac n := by
  induction n with
  | zero => rfl
  | succ n ih =>
    have s : Builtin.Math.factorialNat (n + 1) = Builtin.Math.factorialNat n * (n + 1) := by
      unfold Builtin.Math.factorialNat
      rw [List.range_succ, List.foldl_append]
      rfl
    rw [s, ih, Nat.mul_comm]
    rfl
def rFact : List V → Hp → VK → Prop := fun vs H Q => ∃ n : Nat, vs = [.int (n : Int)] ∧ n ≤ 60 ∧ Q (.int ((fac n : Nat) : Int)) H
theorem fac60 : fac 60 < 2 ^ 300 := by decide +kernel
theorem fac_bits {n : Nat} (h : n ≤ 60) : ((fac n : Nat) : Int).natAbs < 2 ^ 300 := by
  have h1 : ((fac n : Nat) : Int).natAbs = fac n := by omega
  rw [h1]
  exact Nat.lt_of_le_of_lt (fac_mono h) fac60
theorem cr_fact : CallR X (.builtin "math.factorial") rFact := by
  intro pins s σ H vs us Q I r h
  obtain ⟨n, rfl, hn, q⟩ := h
  obtain ⟨u, rfl, ru⟩ := Vals.one r
  obtain ⟨t, rfl⟩ := ru
  have e : Builtin.Math.factorialNat ((n : Int)).toNat = fac n := by rw [Int.toNat_natCast, fact_fac]
  refine PySem.W.mg_factorial_v (c := ((fac n : Nat) : Int)) ?_ ?_ ?_ (by rw [e]) ?_ ⟨.int _, H, I.tok _, ⟨_, rfl⟩, q⟩
  · have : Builtin.Math.maxSsize = 9223372036854775807 := by decide
    omega
  · omega
  · have : (60 : Int) ≤ Builtin.Math.manyFactors := by decide
    omega
  · exact Nat.lt_of_lt_of_le (PySem.Flt.log2_lt_of (by decide) (fac_bits hn)) (by decide)
end
section
variable {K : PySem.W.Frag} {σ : L2.St} {H : Hp} {D : Ends} {ta tb te : TE} {tz : TS}
theorem ev_fact {n : Nat} (h : Ev ta σ H (.int (n : Int))) (hn : n ≤ 60) : Ev (tCB rFact (tCons ta tNil)) σ H (.int ((fac n : Nat) : Int)) := fun H1 e Q q =>
  h H1 e _ fun H2 e2 => ⟨n, rfl, hn, q H2 e2⟩
theorem s_augC {i : Nat} {C : Int → Int → Prop} {f : Int → Int → Int} {a b : Int} (hx : σ[i]? = some (some (.int a))) (h : Ev te σ H (.int b)) (c : C a b) (k : ∀ H1, Ex H H1 → D.nx (σ.set i (some (.int (f a b)))) H1) : tAug i te (ipC C f) D σ H :=
  ⟨_, hx, h H (Ex.refl H) _ fun H1 e => ⟨a, b, rfl, rfl, c, k H1 e⟩⟩
theorem q_augC {i : Nat} {C : Int → Int → Prop} {f : Int → Int → Int} {a b : Int} (hx : σ[i]? = some (some (.int a))) (h : Ev te σ H (.int b)) (c : C a b) (k : ∀ H1, Ex H H1 → tz D (σ.set i (some (.int (f a b)))) H1) : tSeq (tAug i te (ipC C f)) tz D σ H :=
  s_augC (D := { D with nx := tz D }) hx h c k
theorem rv_mulW {i j : Int} (c : CMulW i j) : RV (rI CMulW fun i j => .int (i * j)) (.int i) (.int j) H (.int (i * j)) := fun H1 _ _ q => ⟨i, j, rfl, rfl, c, q H1 (Ex.refl H1)⟩
theorem ev_lenDT {p : Addr} {kvs : List (List Key × V)} (h : Ev ta σ H (.ref p)) (hp : H p = some (.dT kvs)) : Ev (tCB rLenT (tCons ta tNil)) σ H (.int ((kvs.length : Nat) : Int)) := fun H1 e Q q =>
  h H1 e _ fun H2 e2 => ⟨p, kvs, rfl, e2 _ _ (e _ _ hp), q H2 e2⟩
/-! ### the keys of a dict -/
def intKey (l : List Nat) : List Key := l.map fun x : Nat => Sum.inl (x : Int)
theorem intKey_inj : ∀ {a b : List Nat}, intKey a = intKey b → a = b
  | [], [], _ => rfl
  | [], _ :: _, h => nomatch h
  | _ :: _, [], h => nomatch h
  | x :: a, y :: b, h => by
    have h1 := (List.cons.inj h).1
    have h2 := (List.cons.inj h).2
    have h3 : (x : Int) = (y : Int) := Sum.inl.inj h1
    rw [Int.ofNat.inj h3, intKey_inj h2]
def trueAll (l : List (List Nat)) : List (List Key × V) := l.map fun k => (intKey k, V.bl true)
theorem put_true (l : List (List Nat)) (x : List Nat) : putK (trueAll l) (intKey x) (.bl true) = trueAll (addN l x) := by
  unfold putK addN
  have e : ((trueAll l).any fun kv => decide (kv.1 = intKey x)) = decide (x ∈ l) := by
    unfold trueAll
    rw [List.any_map]
    by_cases h : x ∈ l
    · rw [decide_eq_true h, List.any_eq_true]
      exact ⟨x, h, decide_eq_true rfl⟩
    · rw [decide_eq_false h, List.any_eq_false]
      intro y hy z
      exact h (intKey_inj (of_decide_eq_true z) ▸ hy)
  rw [e]
  by_cases h : x ∈ l
  · rw [decide_eq_true h, if_pos rfl, if_pos h]
    unfold trueAll
    rw [List.map_map]
    refine List.map_congr_left fun y _ => ?_
    show (if intKey y = intKey x then (intKey y, V.bl true) else (intKey y, V.bl true)) = _
    rw [ite_self]
  · rw [decide_eq_false h, if_neg (by decide), if_neg h]
    unfold trueAll
    rw [List.map_append]
    rfl
end
end Os
/-! loops over what a call returns; simple forests by computation -/
namespace Os
open PySem PySem.Spec PyProof.Rows L2 Evl
section
variable {K : PySem.W.Frag} {σ : L2.St} {H : Hp} {D : Ends} {tl : TE} {tu tz : TS} {g : TG}
theorem s_forC (R : Addr → List V → Hp → Prop) (h : ∀ Q : VK, (∀ p xs H1, R p xs H1 → Q (.ref p) H1) → tl σ H Q) (Pv : Addr → List V → Nat → L2.St → Hp → Prop) (h0 : ∀ p xs H1, R p xs H1 → H1 p = some (.lst xs) ∧ Pv p xs 0 σ H1) (hl : ∀ p xs i σ' H', Pv p xs i σ' H' → H' p = some (.lst xs))
    (hs : ∀ p xs i x σ' H', xs[i]? = some x → Pv p xs i σ' H' → g x σ' H' fun σ2 H2 => tu { D with nx := Pv p xs (i + 1), ct := Pv p xs (i + 1), bk := D.nx } σ2 H2) (hd : ∀ p xs σ' H', Pv p xs xs.length σ' H' → D.nx σ' H') : tFor (iList K tl) g tu D σ H :=
  h _ fun p xs H1 r => ⟨p, rfl, ⟨xs, sq_of (h0 p xs H1 r).1⟩, for_list (Pv p xs) (h0 p xs H1 r).2 (fun i σ' H' _ q => sq_of (hl p xs i σ' H' q)) (hs p xs) (hd p xs)⟩
theorem q_forC (R : Addr → List V → Hp → Prop) (h : ∀ Q : VK, (∀ p xs H1, R p xs H1 → Q (.ref p) H1) → tl σ H Q) (Pv : Addr → List V → Nat → L2.St → Hp → Prop) (h0 : ∀ p xs H1, R p xs H1 → H1 p = some (.lst xs) ∧ Pv p xs 0 σ H1) (hl : ∀ p xs i σ' H', Pv p xs i σ' H' → H' p = some (.lst xs))
    (hs : ∀ p xs i x σ' H', xs[i]? = some x → Pv p xs i σ' H' → g x σ' H' fun σ2 H2 => tu { D with nx := Pv p xs (i + 1), ct := Pv p xs (i + 1), bk := tz D } σ2 H2) (hd : ∀ p xs σ' H', Pv p xs xs.length σ' H' → tz D σ' H') : tSeq (tFor (iList K tl) g tu) tz D σ H :=
  s_forC (D := { D with nx := tz D }) R h Pv h0 hl hs hd
end
section
variable {K : PySem.W.Frag} {σ : L2.St} {H : Hp} {D : Ends} {t : TT} {tu tz : TS}
theorem q_whenR {b : Bool} (R : L2.St → Hp → Prop) (k : ∀ σ' H', R σ' H' → tz D σ' H') (h : EvT t σ H b) (h1 : (∀ σ' H', R σ' H' → tz D σ' H') → b = true → ∀ H1, Ex H H1 → tu { D with nx := tz D } σ H1) (h2 : b = false → ∀ H1, Ex H H1 → R σ H1) : tSeq (tIfS t tu tNext) tz D σ H :=
  q_when h (h1 k) fun hb H1 e => k _ _ (h2 hb H1 e)
theorem q_te' {i : Nat} {te : TE} (h : te σ H fun v H' => D.nx (σ.set i (some v)) H') : tAsg te (gName i) D σ H := h
theorem q_te {i : Nat} {te : TE} (h : te σ H fun v H' => tz D (σ.set i (some v)) H') : tSeq (tAsg te (gName i)) tz D σ H := h
theorem q_asgG {te : TE} {g : TG} (h : te σ H fun v H1 => g v σ H1 fun σ2 H2 => tz D σ2 H2) : tSeq (tAsg te g) tz D σ H := h
theorem cb_one {te : TE} {r : List V → Hp → VK → Prop} {Q : VK} (h : te σ H fun v H1 => r [v] H1 Q) : tCB r (tCons te tNil) σ H Q := h
theorem room1 {k : Nat} {A : Around} (r : Room k A) : A.units + 1 < cLine := by have := r.un; omega
end
theorem rgV_nat (n : Nat) : rgV 0 (n : Int) = (List.range n).map fun x : Nat => V.int (x : Int) := by
  unfold rgV
  rw [show ((n : Int) - 0).toNat = n by omega]
  exact List.map_congr_left fun i _ => congrArg V.int (by omega)
/-! ### forests by computation -/
def pairB : List Pr → Bool
  | [] => true
  | e :: r => r.all (fun f => ltP e f) && pairB r
theorem pairB_ok : ∀ {es : List Pr}, pairB es = true → es.Pairwise (fun e f => ltP e f = true)
  | [], _ => .nil
  | e :: r, h => by
    have h' : (r.all (fun f => ltP e f) && pairB r) = true := h
    rw [Bool.and_eq_true] at h'
    exact List.pairwise_cons.mpr ⟨fun f hf => List.all_eq_true.mp h'.1 f hf, pairB_ok h'.2⟩
def forB (n : Nat) (es : List Pr) : Bool := (es.all fun e => decide (e.1 < e.2) && decide (e.2 < n)) && pairB es && !cycB es (List.range n)
theorem forB_edges {n : Nat} {es : List Pr} (h : forB n es = true) : Edges n es := by
  have h' : ((es.all fun e => decide (e.1 < e.2) && decide (e.2 < n)) && pairB es && !cycB es (List.range n)) = true := h
  rw [Bool.and_eq_true, Bool.and_eq_true] at h'
  obtain ⟨⟨h1, h2⟩, h3⟩ := h'
  have s : Simple n es := ⟨fun e he => by
    have := List.all_eq_true.mp h1 e he
    rw [Bool.and_eq_true] at this
    exact ⟨of_decide_eq_true this.1, of_decide_eq_true this.2⟩, pairB_ok h2⟩
  exact s.edges (s.cyc.mp (by
    cases hc : cycB es (List.range n) with
    | false => rfl
    | true => rw [hc] at h3; cases h3))
end Os
/-! the search of a tree: steps towards a goal -/
namespace Os
open PySem PySem.Spec PyProof.Rows L2 Evl
def stepV : Option Nat → V
  | none => .non
  | some y => .int (y : Int)
def stepK (ks : List (Nat × Option Nat)) : List (Key × V) := ks.map fun k => (Sum.inl (k.1 : Int), stepV k.2)
theorem step_any (ks : List (Nat × Option Nat)) (x : Nat) : ((stepK ks).any fun kv => decide (kv.1 = (Sum.inl (x : Int) : Key))) = decide (x ∈ ks.map (·.1)) := by
  unfold stepK
  rw [List.any_map]
  by_cases h : x ∈ ks.map (·.1)
  · rw [decide_eq_true h, List.any_eq_true]
    obtain ⟨k, hk, rfl⟩ := List.mem_map.mp h
    exact ⟨k, hk, decide_eq_true rfl⟩
  · rw [decide_eq_false h, List.any_eq_false]
    intro k hk z
    have e : (Sum.inl (k.1 : Int) : Key) = Sum.inl (x : Int) := of_decide_eq_true z
    have e2 : (k.1 : Int) = (x : Int) := Sum.inl.inj e
    exact h (List.mem_map.mpr ⟨k, hk, Int.ofNat.inj e2⟩)
theorem step_val (ks : List (Nat × Option Nat)) (x : Nat) : (valV (stepK ks) (Sum.inl (x : Int))).isSome = decide (x ∈ ks.map (·.1)) := by
  unfold valV
  rw [Option.isSome_map, ← step_any]
  cases hf : (stepK ks).find? (fun kv => decide (kv.1 = (Sum.inl (x : Int) : Key))) with
  | none =>
    symm
    rw [List.find?_eq_none] at hf
    exact List.any_eq_false.mpr hf
  | some kv =>
    symm
    exact List.any_eq_true.mpr ⟨kv, List.mem_of_find?_eq_some hf, List.find?_some (p := fun kv : Key × V => decide (kv.1 = (Sum.inl (x : Int) : Key))) hf⟩
theorem step_put {ks : List (Nat × Option Nat)} {x y : Nat} (h : x ∉ ks.map (·.1)) : putK (stepK ks) (Sum.inl (x : Int)) (.int (y : Int)) = stepK (ks ++ [(x, some y)]) := by
  unfold putK
  rw [step_any, decide_eq_false h, if_neg (by decide)]
  unfold stepK
  rw [List.map_append]
  rfl
structure Stp (n : Nat) (es : List Pr) (goal : Nat) (ks : List (Nat × Option Nat)) (op : List Nat) : Prop where
  nd : (ks.map (·.1)).Nodup
  gk : goal ∈ ks.map (·.1)
  lt : ∀ x ∈ ks.map (·.1), x < n
  con : ∀ x ∈ ks.map (·.1), Conn es goal x
  wk : ∀ x ∈ op, x ∈ ks.map (·.1)
  cl : ∀ x ∈ ks.map (·.1), x ∉ op → ∀ y ∈ turnOf x es, y ∈ ks.map (·.1)
  par : ∀ (i x y : Nat), ks[i]? = some (x, some y) → x ∈ turnOf y es ∧ ∃ j, j < i ∧ (ks.map (·.1))[j]? = some y
  root : ∀ x, (x, none) ∈ ks → x = goal
theorem Stp.start {n : Nat} {es : List Pr} {g : Nat} (h : g < n) : Stp n es g [(g, none)] [g] := by
  have m : ∀ x, x ∈ [(g, (none : Option Nat))].map (·.1) → x = g := fun x hx => List.mem_singleton.mp hx
  refine ⟨List.nodup_cons.mpr ⟨List.not_mem_nil, List.nodup_nil⟩, List.mem_singleton.mpr rfl, fun x hx => by rw [m x hx]; exact h, fun x hx => by rw [m x hx]; exact Conn.refl es g, fun x hx => by rw [List.mem_singleton.mp hx]; exact List.mem_singleton.mpr rfl, fun x hx no => (no (by rw [m x hx]; exact List.mem_singleton.mpr rfl)).elim, fun i x y e => ?_, fun x hx => ?_⟩
  · cases i with
    | zero => cases e
    | succ i => cases e
  · have := List.mem_singleton.mp hx
    exact congrArg Prod.fst this
theorem Stp.few {n : Nat} {es : List Pr} {g : Nat} {ks : List (Nat × Option Nat)} {op : List Nat} (h : Stp n es g ks op) : ks.length ≤ n := by
  have := few_below n h.nd h.lt
  rwa [List.length_map] at this
theorem Stp.like {n : Nat} {es : List Pr} {g : Nat} {ks : List (Nat × Option Nat)} {op op' : List Nat} (h : Stp n es g ks op) (e : ∀ x, x ∈ op ↔ x ∈ op') : Stp n es g ks op' :=
  ⟨h.nd, h.gk, h.lt, h.con, fun x hx => h.wk x ((e x).mpr hx), fun x hx no => h.cl x hx fun z => no ((e x).mp z), h.par, h.root⟩
theorem Stp.close {n : Nat} {es : List Pr} {g x : Nat} {ks : List (Nat × Option Nat)} {op : List Nat} (h : Stp n es g ks (x :: op)) (all : ∀ y ∈ turnOf x es, y ∈ ks.map (·.1)) : Stp n es g ks op :=
  ⟨h.nd, h.gk, h.lt, h.con, fun y hy => h.wk y (List.mem_cons_of_mem _ hy), fun y hy no => by
    by_cases e : y = x
    · rw [e]
      exact all
    · exact h.cl y hy fun z => (List.mem_cons.mp z).elim e no, h.par, h.root⟩
theorem Stp.add {n : Nat} {es : List Pr} {g x y : Nat} {ks : List (Nat × Option Nat)} {op : List Nat} (h : Stp n es g ks op) (hy : y ∈ ks.map (·.1)) (hx : x ∈ turnOf y es) (no : x ∉ ks.map (·.1)) (lt : x < n) : Stp n es g (ks ++ [(x, some y)]) (op ++ [x]) := by
  have mk : ∀ z, z ∈ (ks ++ [(x, some y)]).map (·.1) ↔ z ∈ ks.map (·.1) ∨ z = x := fun z => by
    rw [List.map_append, List.mem_append]
    show _ ∨ z ∈ [x] ↔ _
    rw [List.mem_singleton]
  have cx : Conn es g x := (h.con y hy).trans (turn_conn hx)
  refine ⟨?_, (mk g).mpr (.inl h.gk), fun z hz => ((mk z).mp hz).elim (h.lt z) fun e => e ▸ lt, fun z hz => ((mk z).mp hz).elim (h.con z) fun e => e ▸ cx, fun z hz => (mk z).mpr ((List.mem_append.mp hz).elim (fun k => .inl (h.wk z k)) fun k => .inr (List.mem_singleton.mp k)), fun z hz nz w hw => ?_, fun i a b e => ?_, fun z hz => ?_⟩
  · rw [List.map_append]
    refine List.nodup_append.mpr ⟨h.nd, List.nodup_cons.mpr ⟨List.not_mem_nil, List.nodup_nil⟩, fun a ha b hb e => no ?_⟩
    have eb : b = x := List.mem_singleton.mp hb
    rw [← eb, ← e]
    exact ha
  · rcases (mk z).mp hz with hz | rfl
    · exact (mk w).mpr (.inl (h.cl z hz (fun k => nz (List.mem_append_left _ k)) w hw))
    · exact (nz (List.mem_append_right _ (List.mem_singleton.mpr rfl))).elim
  · by_cases il : i < ks.length
    · rw [List.getElem?_append_left il] at e
      obtain ⟨h1, j, h2, h3⟩ := h.par i a b e
      refine ⟨h1, j, h2, ?_⟩
      rw [List.map_append, List.getElem?_append_left (by rw [List.length_map]; omega)]
      exact h3
    · rw [List.getElem?_append_right (by omega)] at e
      have i0 : i - ks.length = 0 := by
        have := (List.getElem?_eq_some_iff.mp e).1
        rw [List.length_singleton] at this
        omega
      rw [i0] at e
      cases e
      refine ⟨hx, ?_⟩
      obtain ⟨j, hj⟩ := List.mem_iff_getElem?.mp hy
      have jl := (List.getElem?_eq_some_iff.mp hj).1
      rw [List.length_map] at jl
      refine ⟨j, by omega, ?_⟩
      rw [List.map_append, List.getElem?_append_left (by rw [List.length_map]; exact jl)]
      exact hj
  · rcases List.mem_append.mp hz with hz | hz
    · exact h.root z hz
    · cases List.mem_singleton.mp hz
/-- what was found at the end: the tree -/
theorem Stp.tree {n : Nat} {es : List Pr} {g : Nat} {ks : List (Nat × Option Nat)} (h : Stp n es g ks []) (x : Nat) : x ∈ ks.map (·.1) ↔ Conn es g x := by
  refine ⟨h.con x, fun c => ?_⟩
  have r : Resp (fun z => decide (z ∈ ks.map (·.1))) es := fun f hf => by
    show decide (f.1 ∈ ks.map (·.1)) = decide (f.2 ∈ ks.map (·.1))
    have t1 : f.2 ∈ turnOf f.1 es := List.mem_filterMap.mpr ⟨f, hf, if_pos rfl⟩
    have t2 : f.1 ∈ turnOf f.2 es := List.mem_filterMap.mpr ⟨f, hf, by
      by_cases e : f.1 = f.2
      · rw [if_pos e, e]
      · rw [if_neg e, if_pos rfl]⟩
    exact decide_eq_decide.mpr ⟨fun k => h.cl _ k List.not_mem_nil _ t1, fun k => h.cl _ k List.not_mem_nil _ t2⟩
  have := c _ r
  exact of_decide_eq_true (this ▸ decide_eq_true h.gk)
end Os
/-! what is judged of an arrangement that an order produced -/
namespace Os
open PySem PySem.Spec PyProof.Rows
section
variable {n : Nat} {es os : List Pr} {zs : List Str}
theorem order_in (E : Edges n es) (pm : os.Perm es) : ∀ e ∈ os, e.1 < e.2 ∧ e.2 < n := fun e he => E.inn e (pm.mem_iff.mp he)
theorem ring_is (E : Edges n es) (pm : os.Perm es) (hl : zs.length = n) (nd : zs.Nodup) {x : Nat} (hx : x < n) : ∃ l, RingAt os x l ∧ ringOf (went zs (swps zs os)) n x = x :: l := by
  obtain ⟨l, r⟩ := order_rings E pm x
  exact ⟨l, r, ring_of (went_ok hl nd (order_in E pm)) (fun y hy => went_at hl nd (order_in E pm) hy) hx r⟩
theorem ring_first {os : List Pr} {x : Nat} {l : List Nat} (r : RingAt os x l) : mvs os x ∈ x :: l := by
  have h := r.runs
  cases l with
  | nil =>
    have h' : mvs os x = x := h
    rw [h']
    exact List.mem_cons_self
  | cons a l =>
    have h' : mvs os x = a := h.1
    rw [h']
    exact List.mem_cons_of_mem _ List.mem_cons_self
theorem moved_in (E : Edges n es) (pm : os.Perm es) {x : Nat} : Conn es x (mvs os x) := by
  obtain ⟨l, r⟩ := order_rings E pm x
  exact (conn_perm pm).mp ((r.all _).mp (ring_first r))
theorem ring_tree (E : Edges n es) (pm : os.Perm es) {x : Nat} {l t : List Nat} (r : RingAt os x l) (ht : t.Pairwise (· < ·)) (mt : ∀ y, y ∈ t ↔ Conn es x y) : (x :: l).length = t.length := by
  have pe : (x :: l).Perm t := (List.perm_ext_iff_of_nodup r.nd (ht.imp fun {a b} h => by omega)).mpr fun y => by
    rw [r.all, mt, conn_perm pm]
  exact pe.length_eq
theorem ring_nocr (E : Edges n es) (pm : os.Perm es) {x : Nat} {l : List Nat} (r : RingAt os x l) : NoCr (x :: l) es := fun e he f hf =>
  no_cross (order_ok E pm) r e (pm.mem_iff.mpr he) f (pm.mem_iff.mpr hf)
theorem ring_turn (E : Edges n es) (pm : os.Perm es) {x : Nat} {l : List Nat} (r : RingAt os x l) : (x :: l).filter (fun y => decide (y ∈ turnOf x es)) = turnOf x os := by
  have nx : x ∉ turnOf x es := fun h => by
    obtain ⟨e, he, k⟩ := mem_turn h
    have := E.inn e he
    rcases k with ⟨k1, k2⟩ | ⟨k1, k2⟩ <;> omega
  rw [List.filter_cons, if_neg (by rw [decide_eq_false nx]; decide)]
  refine Eq.trans (List.filter_congr fun y _ => ?_) r.turn
  exact decide_eq_decide.mpr (turn_perm pm x).mem_iff.symm
end
end Os
/-! what meets at an edge, and what happens without it -/
namespace Os
open PySem PySem.Spec PyProof.Rows
theorem split_front {α : Type} {A A' : List α} {y : α} {R R' : List α} (nd : (A ++ y :: R).Nodup) (h : A ++ y :: R = A' ++ y :: R') : A = A' := by
  have h1 := congrArg List.reverse h
  rw [List.reverse_append, List.reverse_append, List.reverse_cons, List.reverse_cons, List.append_assoc, List.append_assoc] at h1
  have n1 : (R.reverse ++ y :: A.reverse).Nodup := by
    have p : (R.reverse ++ y :: A.reverse).Perm (A ++ y :: R) := by
      have e : R.reverse ++ y :: A.reverse = (A ++ y :: R).reverse := by
        rw [List.reverse_append, List.reverse_cons, List.append_assoc]
        rfl
      rw [e]
      exact List.reverse_perm _
    exact p.nodup_iff.mpr nd
  have h2 := split_one (A := R.reverse) (A' := R'.reverse) (y := y) (R := A.reverse) (R' := A'.reverse) n1 h1
  exact List.reverse_inj.mp h2
/-- where the item that is at p behind these swaps began -/
def src (A : List Pr) (p : Nat) : Nat := A.foldr sw p
theorem src_app (A B : List Pr) (p : Nat) : src (A ++ B) p = src A (src B p) := List.foldr_append
theorem mvs_src : ∀ (A : List Pr) (p : Nat), mvs A (src A p) = p
  | [], _ => rfl
  | x :: A, p => by
    show mvs A (sw x (sw x (src A p))) = p
    rw [sw_sw]
    exact mvs_src A p
theorem src_mvs : ∀ (A : List Pr) (p : Nat), src A (mvs A p) = p
  | [], _ => rfl
  | x :: A, p => by
    show sw x (src A (mvs A (sw x p))) = p
    rw [src_mvs A (sw x p), sw_sw]
theorem src_lt {n : Nat} : ∀ {A : List Pr} {p : Nat}, (∀ e ∈ A, e.1 < n ∧ e.2 < n) → p < n → src A p < n
  | [], _, _, h => h
  | x :: A, p, h, hp => sw_lt (h x List.mem_cons_self).1 (h x List.mem_cons_self).2 (src_lt (fun e he => h e (List.mem_cons_of_mem _ he)) hp)
theorem swps_src {n : Nat} {A : List Pr} {zs : List Str} {p : Nat} (hl : zs.length = n) (h : ∀ e ∈ A, e.1 < e.2 ∧ e.2 < n) (hp : p < n) : (swps zs A)[p]? = zs[src A p]? := by
  have := swps_at (os := A) (zs := zs) (p := src A p) hl h (src_lt (fun e he => by have := h e he; omega) hp)
  rwa [mvs_src] at this
theorem turn_cons (p : Nat) (e : Pr) (A : List Pr) : turnOf p (e :: A) = (if e.1 = p then [e.2] else if e.2 = p then [e.1] else []) ++ turnOf p A := by
  show List.filterMap _ (e :: A) = _
  rw [List.filterMap_cons]
  by_cases h1 : e.1 = p
  · rw [if_pos h1, if_pos h1]
    rfl
  · rw [if_neg h1, if_neg h1]
    by_cases h2 : e.2 = p
    · rw [if_pos h2, if_pos h2]
      rfl
    · rw [if_neg h2, if_neg h2]
      rfl
theorem turn_append (p : Nat) (A B : List Pr) : turnOf p (A ++ B) = turnOf p A ++ turnOf p B := List.filterMap_append
theorem src_idle : ∀ {A : List Pr} {p : Nat}, turnOf p A = [] → src A p = p
  | [], _, _ => rfl
  | x :: A, p, h => by
    rw [turn_cons] at h
    obtain ⟨h1, h2⟩ := List.append_eq_nil_iff.mp h
    show sw x (src A p) = p
    rw [src_idle h2]
    by_cases a : x.1 = p
    · rw [if_pos a] at h1; cases h1
    · rw [if_neg a] at h1
      by_cases b : x.2 = p
      · rw [if_pos b] at h1; cases h1
      · exact sw_ne (fun z => a z.symm) (fun z => b z.symm)
/-- p and q are the ends of e -/
def Tch (e : Pr) (p q : Nat) : Prop := (e.1 = p ∧ e.2 = q) ∨ (e.2 = p ∧ e.1 = q)
theorem Tch.sw {e : Pr} {p q : Nat} (h : Tch e p q) : Os.sw e p = q := by
  rcases h with ⟨rfl, rfl⟩ | ⟨rfl, rfl⟩
  · exact sw_one e
  · exact sw_two e
theorem Tch.symm {e : Pr} {p q : Nat} (h : Tch e p q) : Tch e q p := by
  rcases h with ⟨a, b⟩ | ⟨a, b⟩
  · exact .inr ⟨b, a⟩
  · exact .inl ⟨b, a⟩
theorem Tch.turn {e : Pr} {p q : Nat} (h : Tch e p q) (ne : e.1 ≠ e.2) (A : List Pr) : turnOf p (e :: A) = q :: turnOf p A := by
  rw [turn_cons]
  rcases h with ⟨a, b⟩ | ⟨a, b⟩
  · rw [if_pos a, b]
    rfl
  · rw [if_neg (fun z => ne (z.trans a.symm)), if_pos a, b]
    rfl
theorem Tch.eq {e f : Pr} {p q : Nat} (he : Tch e p q) (hf : Tch f p q) (le : e.1 < e.2) (lf : f.1 < f.2) : e = f := by
  rcases he with ⟨a, b⟩ | ⟨a, b⟩ <;> rcases hf with ⟨c, d⟩ | ⟨c, d⟩ <;> refine Prod.ext ?_ ?_ <;> omega
theorem last_touch {p r : Nat} {A : List Pr} {T : List Nat} (h : turnOf p A = T ++ [r]) : ∃ A1 f A2, A = A1 ++ f :: A2 ∧ Tch f p r ∧ turnOf p A2 = [] := by
  obtain ⟨l1, l2, rfl, _, h2⟩ := List.filterMap_eq_append_iff.mp h
  obtain ⟨m1, f, m2, rfl, _, hf, hm⟩ := List.filterMap_eq_cons_iff.mp h2
  refine ⟨l1 ++ m1, f, m2, by rw [List.append_assoc], ?_, hm⟩
  by_cases h1 : f.1 = p
  · rw [if_pos h1] at hf
    exact .inl ⟨h1, Option.some.inj hf⟩
  · rw [if_neg h1] at hf
    by_cases h2 : f.2 = p
    · rw [if_pos h2] at hf
      exact .inr ⟨h2, Option.some.inj hf⟩
    · rw [if_neg h2] at hf
      cases hf
theorem snoc_cases {α : Type} (l : List α) : l = [] ∨ ∃ T r, l = T ++ [r] := by
  rcases h : l.reverse with _ | ⟨r, T⟩
  · exact .inl (List.reverse_eq_nil_iff.mp h)
  · refine .inr ⟨T.reverse, r, ?_⟩
    have := congrArg List.reverse h
    rwa [List.reverse_reverse, List.reverse_cons] at this
/-- what stands at an edge's ends when it is its turn began where the turns say -/
theorem src_same {n : Nat} {es os os' : List Pr} (E : Edges n es) (pm : os.Perm es) (pm' : os'.Perm es) (same : ∀ p, turnOf p os = turnOf p os') :
    ∀ m, ∀ (A : List Pr) (e : Pr) (B A' B' : List Pr) (p q : Nat), A.length ≤ m → os = A ++ e :: B → os' = A' ++ e :: B' → Tch e p q → src A p = src A' p := by
  intro m
  induction m with
  | zero =>
    intro A e B A' B' p q hm h1 h2 t
    have hA : A = [] := List.eq_nil_of_length_eq_zero (by omega)
    subst hA
    have ne : e.1 ≠ e.2 := by
      have := E.inn e (pm.mem_iff.mp (by rw [h1]; exact List.mem_append_right _ List.mem_cons_self))
      omega
    have s := same p
    have nd := turn_nodup E pm p
    rw [h1, h2, turn_append, turn_append, t.turn ne, t.turn ne] at s
    rw [h1, turn_append, t.turn ne] at nd
    have f := split_front nd s
    rw [src_idle (A := A') (p := p) f.symm]
    rfl
  | succ m ih =>
    intro A e B A' B' p q hm h1 h2 t
    have ne : e.1 ≠ e.2 := by
      have := E.inn e (pm.mem_iff.mp (by rw [h1]; exact List.mem_append_right _ List.mem_cons_self))
      omega
    have s := same p
    have nd := turn_nodup E pm p
    rw [h1, h2, turn_append, turn_append, t.turn ne, t.turn ne] at s
    rw [h1, turn_append, t.turn ne] at nd
    have f := split_front nd s
    rcases snoc_cases (turnOf p A) with hz | ⟨T, r, hz⟩
    · rw [src_idle hz, src_idle (A := A') (p := p) (by rw [← f, hz])]
    · obtain ⟨A1, g, A2, rfl, tg, i2⟩ := last_touch hz
      obtain ⟨A1', g', A2', rfl, tg', i2'⟩ := last_touch (f ▸ hz)
      have gl : g.1 < g.2 := (E.inn g (pm.mem_iff.mp (by rw [h1, List.append_assoc]; exact List.mem_append_right _ List.mem_cons_self))).1
      have gl' : g'.1 < g'.2 := (E.inn g' (pm'.mem_iff.mp (by rw [h2, List.append_assoc]; exact List.mem_append_right _ List.mem_cons_self))).1
      have gg := tg.eq tg' gl gl'
      subst gg
      have one : ∀ (U V : List Pr), turnOf p V = [] → src (U ++ g :: V) p = src U r := fun U V hV => by
        rw [src_app]
        show src U (sw g (src V p)) = src U r
        rw [src_idle hV, tg.sw]
      rw [one A1 A2 i2, one A1' A2' i2']
      rw [List.length_append, List.length_cons] at hm
      exact ih A1 g (A2 ++ e :: B) A1' (A2' ++ e :: B') r p (by omega) (by rw [h1, List.append_assoc]; rfl) (by rw [h2, List.append_assoc]; rfl) tg.symm
/-- the two items that meet at e -/
def metA (zs : List Str) (os : List Pr) (e : Pr) : Str := (swps zs (os.take (os.idxOf e))).getD e.1 ⟨#[]⟩
def metB (zs : List Str) (os : List Pr) (e : Pr) : Str := (swps zs (os.take (os.idxOf e))).getD e.2 ⟨#[]⟩
theorem cut_at {os : List Pr} {e : Pr} (h : e ∈ os) : os = os.take (os.idxOf e) ++ e :: os.drop (os.idxOf e + 1) := by
  have lt := List.idxOf_lt_length_of_mem h
  have h1 : os[os.idxOf e] = e := List.getElem_idxOf lt
  have h2 : os.drop (os.idxOf e) = e :: os.drop (os.idxOf e + 1) := by rw [List.drop_eq_getElem_cons lt, h1]
  rw [← h2, List.take_append_drop]
theorem met_same {n : Nat} {es os os' : List Pr} {zs : List Str} (E : Edges n es) (pm : os.Perm es) (pm' : os'.Perm es) (same : ∀ p, turnOf p os = turnOf p os') (hl : zs.length = n) {e : Pr} (he : e ∈ es) : metA zs os e = metA zs os' e ∧ metB zs os e = metB zs os' e := by
  have h1 := cut_at (pm.mem_iff.mpr he)
  have h2 := cut_at (pm'.mem_iff.mpr he)
  obtain ⟨ei, en⟩ := E.inn e he
  have inn : ∀ {l : List Pr}, l.Perm es → ∀ k, ∀ f ∈ l.take k, f.1 < f.2 ∧ f.2 < n := fun p k f hf => E.inn f (p.mem_iff.mp (List.mem_of_mem_take hf))
  have one : ∀ {p q : Nat}, Tch e p q → p < n → (swps zs (os.take (os.idxOf e))).getD p ⟨#[]⟩ = (swps zs (os'.take (os'.idxOf e))).getD p ⟨#[]⟩ := fun t hp => by
    rw [List.getD_eq_getElem?_getD, List.getD_eq_getElem?_getD, swps_src hl (inn pm _) hp, swps_src hl (inn pm' _) hp, src_same E pm pm' same _ _ e _ _ _ _ _ (Nat.le_refl _) h1 h2 t]
  exact ⟨one (.inl ⟨rfl, rfl⟩) (by omega), one (.inr ⟨rfl, rfl⟩) en⟩
/-- a for b, b for a -/
def rn (a b z : Str) : Str := if z = a then b else if z = b then a else z
theorem rn_rn (a b z : Str) : rn a b (rn a b z) = z := by
  unfold rn
  by_cases h1 : z = a
  · rw [if_pos h1]
    by_cases h2 : b = a
    · rw [if_pos h2, h1, h2]
    · rw [if_neg h2, if_pos rfl, h1]
  · rw [if_neg h1]
    by_cases h2 : z = b
    · rw [if_pos h2, if_pos rfl, h2]
    · rw [if_neg h2, if_neg h1, if_neg h2]
theorem rn_comm {a b : Str} (z : Str) : rn a b z = rn b a z := by
  unfold rn
  by_cases h1 : z = a <;> by_cases h2 : z = b
  · rw [if_pos h1, if_pos h2, ← h1, ← h2]
  · rw [if_pos h1, if_neg h2, if_pos h1]
  · rw [if_neg h1, if_pos h2, if_pos h2]
  · rw [if_neg h1, if_neg h2, if_neg h2, if_neg h1]
theorem swp_rn {w : List Str} {e : Pr} (nd : w.Nodup) (h1 : e.1 < w.length) (h2 : e.2 < w.length) : swp w e = w.map (rn (w.getD e.1 ⟨#[]⟩) (w.getD e.2 ⟨#[]⟩)) := by
  have g : ∀ {i : Nat}, i < w.length → w.getD i ⟨#[]⟩ = w[i]! ∧ w[i]? = some (w.getD i ⟨#[]⟩) := fun {i} h => by
    rw [List.getD_eq_getElem?_getD, List.getElem?_eq_getElem h]
    refine ⟨?_, rfl⟩
    rw [getElem!_pos w i h]
    rfl
  refine List.ext_getElem? fun j => ?_
  by_cases hj : j < w.length
  · have ej := (g hj).2
    have inj : ∀ {i : Nat}, i < w.length → w.getD j ⟨#[]⟩ = w.getD i ⟨#[]⟩ → j = i := fun {i} hi e => by
      have a := ej
      rw [e, ← (g hi).2] at a
      exact (List.getElem?_inj hj nd).mp a
    rw [List.getElem?_map, ej]
    unfold swp
    show _ = some (rn _ _ _)
    unfold rn
    by_cases a : j = e.2
    · subst a
      rw [List.getElem?_set_self (by rw [List.length_set]; exact h2)]
      by_cases b : w.getD e.2 ⟨#[]⟩ = w.getD e.1 ⟨#[]⟩
      · rw [if_pos b, b]
      · rw [if_neg b, if_pos rfl]
    · rw [List.getElem?_set_ne (fun z => a z.symm)]
      by_cases b : j = e.1
      · subst b
        rw [List.getElem?_set_self h1, if_pos rfl]
      · rw [List.getElem?_set_ne (fun z => b z.symm), ej, if_neg (fun z => b (inj h1 z)), if_neg (fun z => a (inj h2 z))]
  · rw [List.getElem?_eq_none (by rw [swp_len]; omega), List.getElem?_eq_none (by rw [List.length_map]; omega)]
theorem swp_map {w : List Str} {e : Pr} (g : Str → Str) (h1 : e.1 < w.length) (h2 : e.2 < w.length) : swp (w.map g) e = (swp w e).map g := by
  have k : ∀ {i : Nat}, i < w.length → (w.map g).getD i ⟨#[]⟩ = g (w.getD i ⟨#[]⟩) := fun {i} h => by
    rw [List.getD_eq_getElem?_getD, List.getD_eq_getElem?_getD, List.getElem?_map, List.getElem?_eq_getElem h]
    rfl
  unfold swp
  rw [k h1, k h2, List.map_set, List.map_set]
theorem swps_map {n : Nat} (g : Str → Str) : ∀ {B : List Pr} {w : List Str}, w.length = n → (∀ e ∈ B, e.1 < n ∧ e.2 < n) → swps (w.map g) B = (swps w B).map g
  | [], _, _, _ => rfl
  | e :: B, w, hl, h => by
    obtain ⟨a, b⟩ := h e List.mem_cons_self
    show swps (swp (w.map g) e) B = (swps (swp w e) B).map g
    rw [swp_map g (by omega) (by omega)]
    exact swps_map g (by rw [swp_len, hl]) fun f hf => h f (List.mem_cons_of_mem _ hf)
theorem swps_append (zs : List Str) (A B : List Pr) : swps zs (A ++ B) = swps (swps zs A) B := List.foldl_append
theorem left_eq {n : Nat} {A B : List Pr} {e : Pr} {zs : List Str} (hl : zs.length = n) (nd : zs.Nodup) (h : ∀ f ∈ A ++ e :: B, f.1 < n ∧ f.2 < n) :
    swps zs (A ++ B) = (swps zs (A ++ e :: B)).map (rn ((swps zs A).getD e.1 ⟨#[]⟩) ((swps zs A).getD e.2 ⟨#[]⟩)) := by
  have hA : ∀ f ∈ A, f.1 < n ∧ f.2 < n := fun f hf => h f (List.mem_append_left _ hf)
  have hB : ∀ f ∈ B, f.1 < n ∧ f.2 < n := fun f hf => h f (List.mem_append_right _ (List.mem_cons_of_mem _ hf))
  obtain ⟨e1, e2⟩ := h e (List.mem_append_right _ List.mem_cons_self)
  have pA := swps_perm hl hA
  have wl : (swps zs A).length = n := by rw [pA.length_eq, hl]
  have wnd := pA.nodup_iff.mpr nd
  rw [swps_append, swps_append]
  generalize swps zs A = w at wl wnd
  show swps w B = (swps (swp w e) B).map _
  rw [swp_rn wnd (by omega) (by omega), swps_map _ wl hB, List.map_map]
  refine (List.map_id _).symm.trans (List.map_congr_left fun z _ => ?_)
  exact (rn_rn _ _ z).symm
theorem filter_cut {A B : List Pr} {e : Pr} (nd : (A ++ e :: B).Nodup) : (A ++ e :: B).filter (fun f => decide (f ≠ e)) = A ++ B := by
  obtain ⟨nA, nB, dis⟩ := List.nodup_append.mp nd
  rw [List.filter_append, List.filter_cons, if_neg (by rw [decide_eq_false (fun h => h rfl)]; decide)]
  have fa : A.filter (fun f => decide (f ≠ e)) = A := List.filter_eq_self.mpr fun f hf => decide_eq_true (dis f hf e List.mem_cons_self)
  have fb : B.filter (fun f => decide (f ≠ e)) = B := List.filter_eq_self.mpr fun f hf => decide_eq_true fun z => by
    rw [z] at hf
    exact (List.nodup_cons.mp nB).1 hf
  rw [fa, fb]
theorem met_ne {n : Nat} {es os : List Pr} {zs : List Str} (E : Edges n es) (pm : os.Perm es) (hl : zs.length = n) (nd : zs.Nodup) {e : Pr} (he : e ∈ es) : metA zs os e ≠ metB zs os e ∧ metA zs os e ∈ zs ∧ metB zs os e ∈ zs := by
  obtain ⟨e1, e2⟩ := E.inn e he
  have hA : ∀ f ∈ os.take (os.idxOf e), f.1 < n ∧ f.2 < n := fun f hf => by
    have := E.inn f (pm.mem_iff.mp (List.mem_of_mem_take hf))
    omega
  have pA := swps_perm hl hA
  unfold metA metB
  have wl : (swps zs (os.take (os.idxOf e))).length = n := by rw [pA.length_eq, hl]
  have wnd := pA.nodup_iff.mpr nd
  generalize swps zs (os.take (os.idxOf e)) = w at *
  have g : ∀ {i : Nat}, i < n → w[i]? = some (w.getD i ⟨#[]⟩) := fun {i} h => by
    rw [List.getD_eq_getElem?_getD, List.getElem?_eq_getElem (by omega)]
    rfl
  refine ⟨fun z => ?_, pA.mem_iff.mp (List.mem_of_getElem? (g (by omega))), pA.mem_iff.mp (List.mem_of_getElem? (g e2))⟩
  have a := g (i := e.1) (by omega)
  rw [z, ← g e2] at a
  have := (List.getElem?_inj (by omega) wnd).mp a
  omega
end Os
/-! the least order of turns -/
namespace Os
def ltL : List Pr → List Pr → Bool
  | [], [] => false
  | [], _ :: _ => true
  | _ :: _, [] => false
  | x :: a, y :: b => if x = y then ltL a b else ltP x y
theorem ltP_self (e : Pr) : ltP e e = false := by
  rw [← Bool.not_eq_true, ltP_iff]
  omega
theorem ltP_tot {e f : Pr} (h : ltP f e = false) (ne : e ≠ f) : ltP e f = true := by
  rw [← Bool.not_eq_true, ltP_iff] at h
  rw [ltP_iff]
  have : e.1 ≠ f.1 ∨ e.2 ≠ f.2 := by
    rcases Decidable.em (e.1 = f.1) with a | a
    · exact .inr fun b => ne (Prod.ext a b)
    · exact .inl a
  omega
theorem ltP_asym {e f : Pr} (h : ltP e f = true) : ltP f e = false := by
  rw [ltP_iff] at h
  rw [← Bool.not_eq_true, ltP_iff]
  omega
theorem ltP_ne {e f : Pr} (h : ltP e f = true) : e ≠ f := fun z => by
  rw [z, ltP_self] at h
  cases h
theorem ltL_irr : ∀ a : List Pr, ltL a a = false
  | [] => rfl
  | x :: a => by
    unfold ltL
    rw [if_pos rfl]
    exact ltL_irr a
theorem ltL_one : ∀ {a b : List Pr}, ltL a b = false → ltL b a = false → a = b
  | [], [], _, _ => rfl
  | [], _ :: _, h, _ => by cases h
  | _ :: _, [], _, h => by cases h
  | x :: a, y :: b, h, k => by
    unfold ltL at h k
    by_cases e : x = y
    · subst e
      rw [if_pos rfl] at h k
      rw [ltL_one h k]
    · rw [if_neg e] at h
      rw [if_neg (Ne.symm e)] at k
      have := ltP_tot h (Ne.symm e)
      rw [this] at k
      cases k
theorem ltL_pre : ∀ (p a b : List Pr), ltL (p ++ a) (p ++ b) = ltL a b
  | [], _, _ => rfl
  | x :: p, a, b => by
    show (if x = x then ltL (p ++ a) (p ++ b) else ltP x x) = _
    rw [if_pos rfl]
    exact ltL_pre p a b
/-- an order with these turns, and none is less -/
structure LeastO (es : List Pr) (tn : Nat → List Nat) (os : List Pr) : Prop where
  pm : os.Perm es
  trn : ∀ p, turnOf p os = tn p
  least : ∀ o : List Pr, o.Perm es → (∀ p, turnOf p o = tn p) → ltL o os = false
theorem LeastO.one {es o1 o2 : List Pr} {tn : Nat → List Nat} (a : LeastO es tn o1) (b : LeastO es tn o2) : o1 = o2 := ltL_one (b.least o1 a.pm a.trn) (a.least o2 b.pm b.trn)
/-- every order with these turns goes on from what is done, or is greater at some place of it -/
def Led (es : List Pr) (tn : Nat → List Nat) (done : List Pr) : Prop := ∀ o : List Pr, o.Perm es → (∀ p, turnOf p o = tn p) → (∃ rest, o = done ++ rest) ∨ ∃ pre x y d r, done = pre ++ x :: d ∧ o = pre ++ y :: r ∧ ltP x y = true
section
variable {n : Nat} {es done ws : List Pr} {tn r : Nat → List Nat}
theorem Led.start : Led es tn [] := fun o _ _ => .inl ⟨o, rfl⟩
theorem turn_app (p : Nat) (a b : List Pr) : turnOf p (a ++ b) = turnOf p a ++ turnOf p b := by
  unfold turnOf
  rw [List.filterMap_append]
theorem Led.step (E : Edges n es) (g : Greedy es tn done ws r) (l : Led es tn done) {e : Pr} (he : e ∈ ws) (least : ∀ f ∈ ws, (r f.1).head? = some f.2 → (r f.2).head? = some f.1 → ltP f e = false) : Led es tn (done ++ [e]) := fun o po to => by
  rcases l o po to with ⟨rest, rfl⟩ | ⟨pre, x, y, d, r', rfl, rfl, h⟩
  · have pr : rest.Perm ws := (List.perm_append_left_iff done).mp (po.trans g.pm.symm)
    cases rest with
    | nil => rw [pr.symm.eq_nil] at he; cases he
    | cons f rest =>
      have tr : ∀ p, turnOf p (f :: rest) = r p := fun p => by
        have a := to p
        rw [turn_app, ← g.tn p] at a
        exact List.append_cancel_left a
      have hf := pr.mem_iff.mp List.mem_cons_self
      have := E.inn f (g.inn hf)
      have h1 : (r f.1).head? = some f.2 := by
        rw [← tr]
        unfold turnOf
        rw [List.filterMap_cons, if_pos rfl]
        rfl
      have h2 : (r f.2).head? = some f.1 := by
        rw [← tr]
        unfold turnOf
        rw [List.filterMap_cons, if_neg (show ¬ f.1 = f.2 by omega), if_pos rfl]
        rfl
      have lf := least f hf h1 h2
      by_cases ef : e = f
      · subst ef
        exact .inl ⟨rest, by rw [List.append_assoc]; rfl⟩
      · exact .inr ⟨done, e, f, [], rest, rfl, rfl, ltP_tot lf ef⟩
  · exact .inr ⟨pre, x, y, d ++ [e], r', by rw [List.append_assoc]; rfl, rfl, h⟩
theorem Led.fin (l : Led es tn done) (pm : done.Perm es) (tn' : ∀ p, turnOf p done = tn p) : LeastO es tn done := ⟨pm, tn', fun o po to => by
  rcases l o po to with ⟨rest, rfl⟩ | ⟨pre, x, y, d, r', rfl, rfl, h⟩
  · have := po.length_eq.trans pm.length_eq.symm
    rw [List.length_append] at this
    have e : rest = [] := List.length_eq_zero_iff.mp (by omega)
    rw [e, List.append_nil]
    exact ltL_irr done
  · rw [ltL_pre]
    show (if y = x then _ else ltP y x) = false
    rw [if_neg (Ne.symm (ltP_ne h))]
    exact ltP_asym h⟩
end
/-! ### all sequences -/
def seqsOf (es : List Pr) : Nat → List (List Pr)
  | 0 => [[]]
  | k + 1 => (seqsOf es k).flatMap fun l => (es.filter fun e => decide (e ∉ l)).map fun e => l ++ [e]
theorem seqs_in {es : List Pr} : ∀ {k : Nat} {l : List Pr}, l ∈ seqsOf es k → l.length = k ∧ ∃ rest, (l ++ rest).Perm es
  | 0, l, h => by
    rw [List.mem_singleton.mp h]
    exact ⟨rfl, es, List.Perm.refl _⟩
  | k + 1, l, h => by
    obtain ⟨l0, h0, h1⟩ := List.mem_flatMap.mp h
    obtain ⟨e, he, rfl⟩ := List.mem_map.mp h1
    obtain ⟨e1, e2⟩ := List.mem_filter.mp he
    have e2 := of_decide_eq_true e2
    obtain ⟨hl, rest, pm⟩ := seqs_in h0
    refine ⟨by rw [List.length_append, hl]; rfl, ?_⟩
    have er : e ∈ rest := (List.mem_append.mp (pm.mem_iff.mpr e1)).resolve_left e2
    obtain ⟨r1, r2, rfl⟩ := List.append_of_mem er
    refine ⟨r1 ++ r2, List.Perm.trans ?_ pm⟩
    rw [List.append_assoc]
    exact List.Perm.append_left l0 (show (e :: (r1 ++ r2)).Perm (r1 ++ e :: r2) from List.perm_middle.symm)
theorem seqs_perm {es l : List Pr} (h : l ∈ seqsOf es es.length) : l.Perm es := by
  obtain ⟨hl, rest, pm⟩ := seqs_in h
  have := pm.length_eq
  rw [List.length_append] at this
  have e : rest = [] := List.length_eq_zero_iff.mp (by omega)
  rwa [e, List.append_nil] at pm
theorem seqs_all {es : List Pr} {l : List Pr} (nd : es.Nodup) (pm : l.Perm es) : ∀ k, k ≤ l.length → l.take k ∈ seqsOf es k
  | 0, _ => by
    show [] ∈ [[]]
    exact List.mem_singleton.mpr rfl
  | k + 1, h => by
    have ih := seqs_all nd pm k (by omega)
    refine List.mem_flatMap.mpr ⟨l.take k, ih, List.mem_map.mpr ⟨l[k], List.mem_filter.mpr ⟨pm.mem_iff.mp (List.getElem_mem (by omega)), decide_eq_true fun z => ?_⟩, ?_⟩⟩
    · have nl := pm.nodup_iff.mpr nd
      obtain ⟨j, hj⟩ := List.mem_iff_getElem?.mp z
      rw [List.getElem?_take] at hj
      split at hj
      · rename_i lt
        obtain ⟨l1, e1⟩ := List.getElem?_eq_some_iff.mp hj
        exact List.pairwise_iff_getElem.mp nl j k l1 (by omega) lt e1
      · cases hj
    · rw [List.take_add_one, List.getElem?_eq_getElem (by omega)]
      rfl
theorem flat_len {α β : Type} {f : α → List β} {m : Nat} : ∀ {l : List α}, (∀ x ∈ l, (f x).length ≤ m) → (l.flatMap f).length ≤ l.length * m
  | [], _ => by simp
  | x :: l, h => by
    rw [List.flatMap_cons, List.length_append, List.length_cons, Nat.succ_mul]
    have a := h x List.mem_cons_self
    have b := flat_len (l := l) fun y hy => h y (List.mem_cons_of_mem _ hy)
    omega
theorem seqs_len {es : List Pr} {m : Nat} (h : es.length ≤ m) : ∀ k, (seqsOf es k).length ≤ m ^ k
  | 0 => Nat.le_refl _
  | k + 1 => by
    have ih := seqs_len h k
    have a : (seqsOf es (k + 1)).length ≤ (seqsOf es k).length * m := flat_len fun l _ => by
      rw [List.length_map]
      exact Nat.le_trans (List.length_filter_le _ _) h
    rw [Nat.pow_succ]
    exact Nat.le_trans a (Nat.mul_le_mul_right m ih)
end Os
/-! slices from the front, to the end -/
namespace Os
open PySem PySem.Spec PyProof.Rows L2 Evl
theorem cut_front (xs : List V) (k : Nat) : cutV xs none (some (k : Int)) = xs.take k := by
  unfold cutV
  rw [HT.sIx_none, HT.sIx_nat, List.drop_zero, Nat.sub_zero]
  rcases Nat.le_total k xs.length with h | h
  · rw [Nat.min_eq_left h]
  · rw [Nat.min_eq_right h, List.take_length, List.take_of_length_le h]
theorem cut_back (xs : List V) (k : Nat) : cutV xs (some (k : Int)) none = xs.drop k := by
  unfold cutV
  rw [HT.sIx_none, HT.sIx_nat]
  rcases Nat.le_total k xs.length with h | h
  · rw [Nat.min_eq_left h]
    exact List.take_of_length_le (by rw [List.length_drop]; omega)
  · rw [Nat.min_eq_right h, List.drop_length, List.take_nil, List.drop_of_length_le h]
theorem perm_pop {α : Type} {l : List α} {k : Nat} {y : α} (acc : List α) (h : l[k]? = some y) : ((acc ++ [y]) ++ l.eraseIdx k).Perm (acc ++ l) := by
  obtain ⟨lt, e⟩ := List.getElem?_eq_some_iff.mp h
  rw [List.append_assoc]
  refine List.Perm.append_left acc ?_
  have e2 := List.drop_eq_getElem_cons lt
  rw [e] at e2
  rw [List.eraseIdx_eq_take_drop_succ]
  refine List.Perm.trans (l₂ := l.take k ++ y :: l.drop (k + 1)) (show (y :: (l.take k ++ l.drop (k + 1))).Perm _ from List.perm_middle.symm) ?_
  rw [← e2, List.take_append_drop]
end Os
/-! readings that give a new list of pairs -/
namespace Os
open PySem PySem.Spec PyProof.Rows L2 Evl
/-- a reading that gives a new list of these pairs -/
def EvP (te : TE) (σ : L2.St) (H : Hp) (es : List Pr) : Prop := ∀ H1, Ex H H1 → ∀ Q : VK, (∀ p xs H2, H1 p = none → Ex H1 H2 → H2 p = some (.lst xs) → PrsV H2 xs es → Q (.ref p) H2) → te σ H1 Q
section
variable {K : PySem.W.Frag} {σ : L2.St} {H : Hp} {D : Ends} {ta tb tl te : TE} {tr : TA} {tz : TS} {a : Addr} {i j : Nat} {vs : List Nat}
theorem EvP.ex {H' : Hp} {es : List Pr} (h : EvP te σ H es) (e : Ex H H') : EvP te σ H' es := fun H1 e1 => h H1 (e.trans e1)
theorem evp_lst0 : EvP (tLst tNil) σ H [] := fun H1 e Q q => ⟨Nat.zero_le _, fun p hp => q p [] _ hp (Ex.new hp) upd_same .nil⟩
theorem evp_rng (f : Nat → Pr) {lo n : Nat} (hn : n ≤ 100000) (hw : ∀ x, wipe ((wipe σ vs).set j (some x)) vs = wipe σ vs)
    (h1 : ∀ i, i < n → ∀ H1, Ex H H1 → Ev ta ((wipe σ vs).set j (some (.int ((lo + i : Nat) : Int)))) H1 (.int ((f i).1 : Int))) (h2 : ∀ i, i < n → ∀ H1, Ex H H1 → Ev tb ((wipe σ vs).set j (some (.int ((lo + i : Nat) : Int)))) H1 (.int ((f i).2 : Int)))
    {Q : VK} (q : ∀ p xs H2, H p = none → Ex H H2 → H2 p = some (.lst xs) → PrsV H2 xs ((List.range n).map f) → Q (.ref p) H2) : ∀ D, H D = none → ∃ W : Nat → Nat → Hp → Prop, (∃ m, W 0 m (upd H D (.lst []))) ∧ ∀ i m H', W i m H' →
      ((Itr (lo : Int) n).stop i H' ∧ Q (.ref D) H') ∨ ((Itr (lo : Int) n).go i H' ∧ ∃ Nx : Hp → Prop, (∀ H', Nx H' → ∃ m', m' < m ∧ W (i + 1) m' H') ∧ ∀ x H'', (Itr (lo : Int) n).yld i H' x H'' → (gName j) x (wipe σ vs) H'' fun σ2 H2 => wipe σ2 vs = wipe σ vs ∧ tYes σ2 H2 fun b H3 =>
        if b = true then (tTup (tCons ta (tCons tb tNil))) σ2 H3 fun y H4 => ∃ acc, H4 D = some (.lst acc) ∧ acc.length < sizeLine ∧ Nx (upd H4 D (.lst (acc ++ [y]))) else Nx H3) := fun D hD => by
  refine lc_range (lo := (lo : Int)) (n := n) (fun k Hh => Ex H Hh ∧ ∃ zs, Hh D = some (.lst zs) ∧ PrsV Hh zs ((List.range k).map f)) ⟨Ex.new hD, [], upd_same, .nil⟩ ?_ ?_
  · rintro k Hh hk ⟨x1, zs, hzs, pz⟩
    have e0 : (lo : Int) + (k : Int) = ((lo + k : Nat) : Int) := by omega
    rw [e0]
    refine ⟨hw _, ?_⟩
    dsimp only [tYes]
    rw [if_pos rfl]
    refine h1 k hk Hh x1 _ (Ex.refl _) _ fun H3 e3 => h2 k hk H3 (x1.trans e3) _ (Ex.refl _) _ fun H4 e4 => ⟨show 2 ≤ sizeLine by decide, fun t ht => ?_⟩
    have et := Ex.new (o := .tup [.int ((f k).1 : Int), .int ((f k).2 : Int)]) ht
    have X := (e3.trans e4).trans et
    have zl := pz.length
    rw [List.length_map, List.length_range] at zl
    refine ⟨zs, X _ _ hzs, sz_lt (by omega), (x1.trans X).mut hD, zs ++ [.ref t], upd_same, ?_⟩
    rw [List.range_succ, List.map_append]
    exact PrsV.put0 (prs_snoc (pz.ex X) ⟨t, rfl, upd_same⟩) (X _ _ hzs)
  · rintro Hh ⟨x1, zs, hzs, pz⟩
    exact q D zs Hh hD x1 hzs pz
theorem evp_rng1 (f : Nat → Pr) {n : Nat} (hs : EvA tr σ H [.int (n : Int)]) (hn : n ≤ 100000) (hw : ∀ x, wipe ((wipe σ vs).set j (some x)) vs = wipe σ vs)
    (h1 : ∀ i, i < n → ∀ H1, Ex H H1 → Ev ta ((wipe σ vs).set j (some (.int (i : Int)))) H1 (.int ((f i).1 : Int))) (h2 : ∀ i, i < n → ∀ H1, Ex H H1 → Ev tb ((wipe σ vs).set j (some (.int (i : Int)))) H1 (.int ((f i).2 : Int))) :
    EvP (tLc (iRng1 tr) (gName j) tYes (tTup (tCons ta (tCons tb tNil))) vs) σ H ((List.range n).map f) := fun H1 e Q q => hs H1 e _ fun H2 e2 => ⟨(n : Int), rfl, by omega, by omega, by
  have := evp_rng (σ := σ) (H := H2) (vs := vs) (j := j) (ta := ta) (tb := tb) (lo := 0) (Q := Q) f hn hw (fun i hi H3 e3 => by rw [Nat.zero_add]; exact h1 i hi H3 ((e.trans e2).trans e3)) (fun i hi H3 e3 => by rw [Nat.zero_add]; exact h2 i hi H3 ((e.trans e2).trans e3))
    fun p xs H3 hp e3 => q p xs H3 (fresh_back e2 hp) (e2.trans e3)
  have en : ((n : Int)).toNat = n := Int.toNat_natCast n
  rw [en]
  exact this⟩
theorem evp_rng2 (f : Nat → Pr) {lo hi n : Nat} (hs : EvA tr σ H [.int (lo : Int), .int (hi : Int)]) (hn : hi - lo = n) (hh : hi ≤ 100000) (hl : lo ≤ 100000) (hw : ∀ x, wipe ((wipe σ vs).set j (some x)) vs = wipe σ vs)
    (h1 : ∀ i, i < n → ∀ H1, Ex H H1 → Ev ta ((wipe σ vs).set j (some (.int ((lo + i : Nat) : Int)))) H1 (.int ((f i).1 : Int))) (h2 : ∀ i, i < n → ∀ H1, Ex H H1 → Ev tb ((wipe σ vs).set j (some (.int ((lo + i : Nat) : Int)))) H1 (.int ((f i).2 : Int))) :
    EvP (tLc (iRng2 tr) (gName j) tYes (tTup (tCons ta (tCons tb tNil))) vs) σ H ((List.range n).map f) := fun H1 e Q q => hs H1 e _ fun H2 e2 => ⟨(lo : Int), (hi : Int), rfl, ⟨by omega, by omega, by omega, by omega⟩, by
  have h := evp_rng (σ := σ) (H := H2) (vs := vs) (j := j) (ta := ta) (tb := tb) (lo := lo) (Q := Q) f (n := n) (by omega) hw (fun i hi H3 e3 => h1 i hi H3 ((e.trans e2).trans e3)) (fun i hi H3 e3 => h2 i hi H3 ((e.trans e2).trans e3))
    fun p xs H3 hp e3 => q p xs H3 (fresh_back e2 hp) (e2.trans e3)
  have e1 : ((hi : Int) - (lo : Int)).toNat = n := by omega
  rw [e1]
  exact h⟩
/-- over a list of pairs, new pairs -/
theorem evp_prs (f : Pr → Pr) {xs : List V} {es : List Pr} {n : Nat} (hn : n = 2) (h : Ev tl σ H (.ref a)) (hx : H a = some (.lst xs)) (hp : PrsV H xs es) (hz : es.length ≤ 40000) (hw : ∀ x y, wipe (((wipe σ vs).set i (some x)).set j (some y)) vs = wipe σ vs)
    (h1 : ∀ e, e ∈ es → ∀ H1, Ex H H1 → Ev ta (((wipe σ vs).set i (some (.int (e.1 : Int)))).set j (some (.int (e.2 : Int)))) H1 (.int ((f e).1 : Int))) (h2 : ∀ e, e ∈ es → ∀ H1, Ex H H1 → Ev tb (((wipe σ vs).set i (some (.int (e.1 : Int)))).set j (some (.int (e.2 : Int)))) H1 (.int ((f e).2 : Int))) :
    EvP (tLc (iList K tl) (gTup K n (gCons (gName i) (gCons (gName j) gNil))) tYes (tTup (tCons ta (tCons tb tNil))) vs) σ H (es.map f) := fun H0 e0 Q q => h H0 e0 _ fun H1 e1 => ⟨a, rfl, ⟨xs, sq_of ((e0.trans e1) _ _ hx)⟩, fun Dl hD => by
  have X1 := e0.trans e1
  have hlen := hp.length
  refine lc_list (xs := xs) (fun k Hh => Ex H1 Hh ∧ ∃ zs, Hh Dl = some (.lst zs) ∧ PrsV Hh zs ((es.take k).map f)) ⟨Ex.new hD, [], upd_same, .nil⟩ (fun k H' _ p => sq_of (p.1 _ _ (X1 _ _ hx))) (fun k x H' hk p => ?_) (fun H' p => ?_)
  · obtain ⟨x1, zs, hzs, pz⟩ := p
    obtain ⟨e, hek, t, rfl, ht⟩ := hp.get hk
    have ht1 := x1 _ _ (X1 _ _ ht)
    have he := List.mem_of_getElem? hek
    have kl := (List.getElem?_eq_some_iff.mp hek).1
    refine ⟨t, [.int (e.1 : Int), .int (e.2 : Int)], rfl, st_of ht1, hn.symm, .int (e.1 : Int), [.int (e.2 : Int)], rfl, .int (e.2 : Int), [], rfl, rfl, hw _ _, ?_⟩
    dsimp only [tYes]
    rw [if_pos rfl]
    refine h1 e he H' (X1.trans x1) _ (Ex.refl _) _ fun H3 e3 => h2 e he H3 ((X1.trans x1).trans e3) _ (Ex.refl _) _ fun H4 e4 => ⟨show 2 ≤ sizeLine by decide, fun t' ht' => ?_⟩
    have et := Ex.new (o := .tup [.int ((f e).1 : Int), .int ((f e).2 : Int)]) ht'
    have X := (e3.trans e4).trans et
    have zl := pz.length
    rw [List.length_map, List.length_take] at zl
    refine ⟨zs, X _ _ hzs, sz_lt (by omega), (x1.trans X).mut hD, zs ++ [.ref t'], upd_same, ?_⟩
    rw [List.take_add_one, hek, List.map_append]
    exact PrsV.put0 (prs_snoc (pz.ex X) ⟨t', rfl, upd_same⟩) (X _ _ hzs)
  · obtain ⟨x1, zs, hzs, pz⟩ := p
    rw [hlen, List.take_length] at pz
    exact q Dl zs H' (fresh_back e1 hD) (e1.trans x1) hzs pz⟩
/-- list + list -/
theorem evp_cat {es fs : List Pr} {xs : List V} (h1 : Ev ta σ H (.ref a)) (hx : H a = some (.lst xs)) (px : PrsV H xs es) (h2 : EvP tb σ H fs) (hz : es.length + fs.length ≤ 100000) : EvP (tOp rCat ta tb) σ H (es ++ fs) := fun H1 e Q q =>
  h1 H1 e _ fun H2 e2 => h2 H2 (e.trans e2) _ fun p ys H3 hp e3 hy py => by
    have X := (e.trans e2).trans e3
    have l1 := px.length
    have l2 := py.length
    refine ⟨a, p, xs, ys, rfl, rfl, X _ _ hx, hy, sz_of (by omega), fun r hr => ?_⟩
    exact q r _ _ (fresh_back (e2.trans e3) hr) ((e2.trans e3).trans (Ex.new hr)) upd_same (((px.ex X).append py).ex (Ex.new hr))
theorem q_asgP {es : List Pr} (h : EvP te σ H es) (k : ∀ p xs H1, H p = none → Ex H H1 → H1 p = some (.lst xs) → PrsV H1 xs es → tz D (σ.set i (some (.ref p))) H1) : tSeq (tAsg te (gName i)) tz D σ H :=
  h H (Ex.refl H) _ fun p xs H1 hp e h1 h2 => k p xs H1 hp e h1 h2
end
end Os
/-! what pairs keep of their values -/
namespace Os
open PySem PySem.Spec PyProof.Rows L2 Evl
theorem PrsV.mem {G : Hp} : ∀ {vs : List V} {es : List Pr} {e : Pr}, PrsV G vs es → e ∈ es → ∃ v ∈ vs, PrV G v e
  | _, _, _, .cons p r, h => by
    rcases List.mem_cons.mp h with rfl | h
    · exact ⟨_, List.mem_cons_self, p⟩
    · obtain ⟨v, h1, h2⟩ := PrsV.mem r h
      exact ⟨v, List.mem_cons_of_mem _ h1, h2⟩
theorem PrsV.pairwise {G : Hp} {R : V → V → Prop} {S : Pr → Pr → Prop} : ∀ {vs : List V} {es : List Pr}, PrsV G vs es → vs.Pairwise R → (∀ v u e f, R v u → PrV G v e → PrV G u f → S e f) → es.Pairwise S
  | _, _, .nil, _, _ => .nil
  | _, _, .cons p r, h, k => by
    obtain ⟨h1, h2⟩ := List.pairwise_cons.mp h
    refine List.pairwise_cons.mpr ⟨fun f hf => ?_, PrsV.pairwise r h2 k⟩
    obtain ⟨u, hu, pu⟩ := PrsV.mem r hf
    exact k _ _ _ _ (h1 u hu) p pu
end Os
/-! pairs in lists: in, index, filters -/
namespace Os
open PySem PySem.Spec PyProof.Rows L2 Evl
theorem any_pr (es : List Pr) (f : Pr) : ((es.map Os.prD).any fun z => PyData.eqv z (Os.prD f)) = decide (f ∈ es) := by
  rw [List.any_map]
  by_cases h : f ∈ es
  · rw [decide_eq_true h, List.any_eq_true]
    exact ⟨f, h, by show PyData.eqv (Os.prD f) (Os.prD f) = true; rw [eqv_prs, decide_eq_true rfl]⟩
  · rw [decide_eq_false h, List.any_eq_false]
    intro e he z
    have z' : PyData.eqv (Os.prD e) (Os.prD f) = true := z
    rw [eqv_prs] at z'
    exact h (of_decide_eq_true z' ▸ he)
theorem sh_pr (e : Pr) : Sh 1 (Os.prD e) := .tup fun x hx => by
  rcases List.mem_cons.mp hx with rfl | hx
  · exact .int 0 _
  · rw [List.mem_singleton.mp hx]
    exact .int 0 _
section
variable {K : PySem.W.Frag} {σ : L2.St} {H : Hp} {D : Ends} {ta tb tl te : TE} {tt : TT} {tz : TS} {a : Addr} {i j : Nat} {vs : List Nat} {v u : V} {e f : Pr} {es : List Pr} {xs : List V}
theorem rv_inP (hv : PrV H v e) (ha : H a = some (.lst xs)) (px : PrsV H xs es) : RV (rInD K) v (.ref a) H (.bl (decide (e ∈ es))) := fun H1 e1 Q q =>
  ⟨prD e, es.map prD, ((hv.ex e1).dt).dp, (Dt.lst (e1 _ _ ha) ((px.ex e1).dts)).dp, (sh_pr e).shaped (by decide), (sh_prs' es).shaped (by decide), by
    rw [any_pr]
    exact q H1 (Ex.refl H1)⟩
theorem rv_ninP (hv : PrV H v e) (ha : H a = some (.lst xs)) (px : PrsV H xs es) : RV (rNotInD K) v (.ref a) H (.bl (!decide (e ∈ es))) := fun H1 e1 Q q =>
  ⟨prD e, es.map prD, ((hv.ex e1).dt).dp, (Dt.lst (e1 _ _ ha) ((px.ex e1).dts)).dp, (sh_pr e).shaped (by decide), (sh_prs' es).shaped (by decide), by
    rw [any_pr]
    exact q H1 (Ex.refl H1)⟩
theorem eqD_pr (hv : PrV H v e) (hu : PrV H u f) : RV (rEqD K) v u H (.bl (decide (e = f))) := fun H1 e1 Q q =>
  ⟨prD e, prD f, ((hv.ex e1).dt).dp, ((hu.ex e1).dt).dp, (sh_pr e).shaped (by decide), (sh_pr f).shaped (by decide), by
    rw [eqv_prs]
    exact q H1 (Ex.refl H1)⟩
theorem neD_pr (hv : PrV H v e) (hu : PrV H u f) : RV (rNeD K) v u H (.bl (!decide (e = f))) := fun H1 e1 Q q =>
  ⟨prD e, prD f, ((hv.ex e1).dt).dp, ((hu.ex e1).dt).dp, (sh_pr e).shaped (by decide), (sh_pr f).shaped (by decide), by
    rw [eqv_prs]
    exact q H1 (Ex.refl H1)⟩
theorem ev_indexP (h : Ev ta σ H (.ref a)) (ha : H a = some (.lst xs)) (px : PrsV H xs es) (he : Ev te σ H v) (hv : PrV H v e) (hx : e ∈ es) : Ev (tBM K "list" (rIndexD K) ta (tCons te tNil)) σ H (.int ((es.idxOf e : Nat) : Int)) := fun H1 e1 Q q =>
  h H1 e1 _ fun H2 e2 => ⟨Or.inl ⟨rfl, _, sq_of ((e1.trans e2) _ _ ha)⟩, he H2 (e1.trans e2) _ fun H3 e3 => by
    have x3 := (e1.trans e2).trans e3
    have lt := List.idxOf_lt_length_of_mem hx
    refine ⟨a, v, prD e, es.map prD, es.idxOf e, prD e, rfl, rfl, (Dt.lst (x3 _ _ ha) ((px.ex x3).dts)).dp, ((hv.ex x3).dt).dp, (sh_prs' es).shaped (by decide), (sh_pr e).shaped (by decide), ?_, (sh_pr e).refl, ?_, q H3 (e2.trans e3)⟩
    · rw [List.getElem?_map, List.getElem?_eq_getElem lt, List.getElem_idxOf]
      rfl
    · intro m z hm hz
      rw [List.getElem?_map] at hz
      obtain ⟨g, hg, rfl⟩ := Option.map_eq_some_iff.mp hz
      rw [eqv_prs]
      refine decide_eq_false fun z => ?_
      obtain ⟨ml, me⟩ := List.getElem?_eq_some_iff.mp hg
      have := List.not_of_lt_findIdx (p := fun z => z == e) (xs := es) hm
      rw [me, z, beq_self_eq_true] at this
      cases this⟩
/-- [x for x in a list of pairs if ..] -/
theorem evp_filter (f : Pr → Bool) (h : Ev tl σ H (.ref a)) (hx : H a = some (.lst xs)) (px : PrsV H xs es) (few : es.length ≤ 40000) (hw : ∀ x, wipe ((wipe σ vs).set j (some x)) vs = wipe σ vs)
    (hj : ∀ x, ((wipe σ vs).set j (some x))[j]? = some (some x))
    (ht : ∀ e v H1, Ex H H1 → e ∈ es → PrV H1 v e → EvT tt ((wipe σ vs).set j (some v)) H1 (f e)) : EvP (tLc (iList K tl) (gName j) tt (tVar j) vs) σ H (es.filter f) := fun H0 e0 Q q => h H0 e0 _ fun H1 e1 => ⟨a, rfl, ⟨xs, sq_of ((e0.trans e1) _ _ hx)⟩, fun Dl hD => by
  have X1 := e0.trans e1
  have hlen := px.length
  have px1 := px.ex X1
  refine lc_list (xs := xs) (fun k Hh => Ex H1 Hh ∧ ∃ zs, Hh Dl = some (.lst zs) ∧ PrsV Hh zs ((es.take k).filter f)) ⟨Ex.new hD, [], upd_same, .nil⟩ (fun k H' _ p => sq_of (p.1 _ _ (X1 _ _ hx))) (fun k x H' hk p => ?_) (fun H' p => ?_)
  · obtain ⟨x1, zs, hzs, pz⟩ := p
    obtain ⟨e, hek, pe⟩ := px1.get hk
    have kl := (List.getElem?_eq_some_iff.mp hek).1
    have tk : (es.take (k + 1)).filter f = (es.take k).filter f ++ (if f e = true then [e] else []) := by
      rw [List.take_add_one, hek, List.filter_append]
      show _ ++ List.filter f [e] = _
      rw [List.filter_cons]
      rfl
    refine ⟨hw _, ?_⟩
    refine ht e x H' (X1.trans x1) (List.mem_of_getElem? hek) (pe.ex x1) H' (Ex.refl _) _ fun H3 e3 => ?_
    have zl := pz.length
    have fl := List.length_filter_le f (es.take k)
    rw [List.length_take] at fl
    cases hf : f e with
    | true =>
      rw [if_pos rfl]
      refine ⟨x, hj x, zs, e3 _ _ hzs, sz_lt (by omega), (x1.trans e3).mut hD, zs ++ [x], upd_same, ?_⟩
      rw [tk, hf, if_pos rfl]
      exact PrsV.put0 (prs_snoc (pz.ex e3) ((pe.ex x1).ex e3)) (e3 _ _ hzs)
    | false =>
      rw [if_neg (by decide)]
      refine ⟨x1.trans e3, zs, e3 _ _ hzs, ?_⟩
      rw [tk, hf, if_neg (by decide), List.append_nil]
      exact pz.ex e3
  · obtain ⟨x1, zs, hzs, pz⟩ := p
    rw [hlen, List.take_length] at pz
    exact q Dl zs H' (fresh_back e1 hD) (e1.trans x1) hzs pz⟩
end
end Os
/-! min of a list of lists of pairs -/
namespace Os
open PySem PySem.Spec PyProof.Rows L2 Evl
theorem ltL_trans : ∀ {a b c : List Pr}, ltL a b = true → ltL b c = true → ltL a c = true
  | [], [], _, h, _ => by cases h
  | [], _ :: _, [], _, k => by cases k
  | [], _ :: _, _ :: _, _, _ => rfl
  | _ :: _, [], _, h, _ => by cases h
  | _ :: _, _ :: _, [], _, k => by cases k
  | x :: a, y :: b, z :: c, h, k => by
    unfold ltL at h k ⊢
    by_cases e1 : x = y
    · subst e1
      rw [if_pos rfl] at h
      by_cases e2 : x = z
      · subst e2
        rw [if_pos rfl] at k ⊢
        exact ltL_trans h k
      · rw [if_neg e2] at k ⊢
        exact k
    · rw [if_neg e1] at h
      by_cases e2 : y = z
      · subst e2
        rw [if_neg e1]
        exact h
      · rw [if_neg e2] at k
        have lt : Os.ltP x z = true := by
          rw [ltP_iff] at h k ⊢
          omega
        rw [if_neg (ltP_ne lt)]
        exact lt
def minL (e : List Pr) (es : List (List Pr)) : List Pr := es.foldl (fun a y => if ltL y a = true then y else a) e
theorem minL_least : ∀ (es : List (List Pr)) (e : List Pr), ∀ f ∈ e :: es, ltL f (minL e es) = false
  | [], e, f, hf => by
    rw [List.mem_singleton.mp hf]
    exact ltL_irr e
  | y :: es, e, f, hf => by
    show ltL f (minL (if ltL y e = true then y else e) es) = false
    by_cases h : ltL y e = true
    · rw [if_pos h]
      have ih := minL_least es y
      have iy := ih y List.mem_cons_self
      rcases List.mem_cons.mp hf with rfl | hf
      · rw [← Bool.not_eq_true]
        intro z
        rw [ltL_trans h z] at iy
        cases iy
      · exact ih f hf
    · rw [if_neg h]
      have ih := minL_least es e
      have ie := ih e List.mem_cons_self
      rcases List.mem_cons.mp hf with rfl | hf
      · exact ie
      · rcases List.mem_cons.mp hf with rfl | hf
        · rw [← Bool.not_eq_true]
          intro z
          have h' : ltL f e = false := by
            rw [← Bool.not_eq_true]
            exact h
          cases k : ltL e f with
          | true =>
            rw [ltL_trans k z] at ie
            cases ie
          | false =>
            have := ltL_one h' k
            rw [this] at z
            rw [z] at ie
            cases ie
        · exact ih f (List.mem_cons_of_mem _ hf)
def prsD (l : List Pr) : PyData := .list (l.map Os.prD)
theorem lt_prs : ∀ a b : List Pr, PyProof.Rows.lexLt itemOrd (PySem.W.keyToksAll (a.map Os.prD)) (PySem.W.keyToksAll (b.map Os.prD)) = ltL a b
  | [], [] => lex_irrefl _
  | [], y :: b => by
    show PyProof.Rows.lexLt itemOrd [.inl 0] (.inl 1 :: _) = true
    exact lex_diff (O := itemOrd) (x := .inl 0) (y := .inl 1) (by decide)
  | x :: a, [] => by
    show PyProof.Rows.lexLt itemOrd (.inl 1 :: _) [.inl 0] = false
    exact lex_diff (O := itemOrd) (x := .inl 1) (y := .inl 0) (by decide)
  | x :: a, y :: b => by
    show PyProof.Rows.lexLt itemOrd (PySem.W.keyToksAll (Os.prD x :: a.map Os.prD)) (PySem.W.keyToksAll (Os.prD y :: b.map Os.prD)) = if x = y then ltL a b else Os.ltP x y
    by_cases e : x = y
    · subst e
      rw [if_pos rfl, PySem.W.dataLt_all_yes (alike_pr x x) (by rw [eqv_prs, decide_eq_true rfl])]
      exact lt_prs a b
    · rw [if_neg e, PySem.W.dataLt_all_no (alike_pr x y) (by rw [eqv_prs, decide_eq_false e])]
      exact lt_pr x y
theorem lt_prsD (a b : List Pr) : PySem.W.dataLt (prsD a) (prsD b) = ltL a b := lt_prs a b
theorem minD_prs : ∀ (es : List (List Pr)) (e : List Pr), PySem.W.minD (prsD e) (es.map prsD) = prsD (minL e es)
  | [], _ => rfl
  | y :: es, e => by
    show PySem.W.minD (if PySem.W.dataLt (prsD y) (prsD e) = true then prsD y else prsD e) (es.map prsD) = prsD (minL (if ltL y e = true then y else e) es)
    rw [lt_prsD]
    by_cases h : ltL y e = true
    · rw [if_pos h, if_pos h]
      exact minD_prs es y
    · rw [if_neg h, if_neg h]
      exact minD_prs es e
theorem prs_inj : ∀ {a b : List Pr}, a.map Os.prD = b.map Os.prD → a = b
  | [], [], _ => rfl
  | [], _ :: _, h => by cases h
  | _ :: _, [], h => by cases h
  | x :: a, y :: b, h => by
    rw [prD_inj (List.cons.inj h).1, prs_inj (List.cons.inj h).2]
theorem prsD_inj {a b : List Pr} (h : prsD a = prsD b) : a = b := prs_inj (PyData.list.inj h)
theorem alike_prs : ∀ a b : List Pr, PySem.W.alikeAll (a.map Os.prD) (b.map Os.prD) = true
  | [], [] => by simp [PySem.W.alikeAll]
  | [], _ :: _ => by simp [PySem.W.alikeAll]
  | _ :: _, [] => by simp [PySem.W.alikeAll]
  | x :: a, y :: b => by
    show PySem.W.alikeAll (Os.prD x :: a.map Os.prD) (Os.prD y :: b.map Os.prD) = true
    rw [PySem.W.alikeAll, alike_pr, alike_prs a b]
    rfl
theorem prsD_lay (l : List Pr) : (prsD l).canLay0 = true := by
  unfold prsD
  simp only [PyData.canLay0]
  exact prs_lay l
theorem prsD_depth : ∀ Ls : List (List Pr), PyData.depthAll (Ls.map prsD) ≤ 2
  | [] => by simp [PyData.depthAll]
  | l :: Ls => by
    have h1 := prsD_depth Ls
    have h2 := prs_depth l
    show max (prsD l).depth (PyData.depthAll (Ls.map prsD)) ≤ 2
    have h3 : (prsD l).depth ≤ 2 := by
      unfold prsD
      simp only [PyData.depth]
      omega
    omega
/-- lists of pairs -/
inductive SqsV (G : Hp) : List V → List (List Pr) → Prop
  | nil : SqsV G [] []
  | cons {a : Addr} {xs : List V} {l : List Pr} {vs : List V} {L : List (List Pr)} : G a = some (.lst xs) → PrsV G xs l → SqsV G vs L → SqsV G (.ref a :: vs) (l :: L)
theorem SqsV.length {G : Hp} : ∀ {vs : List V} {L : List (List Pr)}, SqsV G vs L → vs.length = L.length
  | _, _, .nil => rfl
  | _, _, .cons _ _ t => congrArg (· + 1) (SqsV.length t)
theorem SqsV.dts {G : Hp} : ∀ {vs : List V} {L : List (List Pr)}, SqsV G vs L → Dts G vs (L.map prsD)
  | _, _, .nil => .nil
  | _, _, .cons h p t => .cons (.lst h p.dts) (SqsV.dts t)
theorem SqsV.get {G : Hp} : ∀ {vs : List V} {L : List (List Pr)} {i : Nat} {v : V}, SqsV G vs L → vs[i]? = some v → ∃ l a xs, L[i]? = some l ∧ v = .ref a ∧ G a = some (.lst xs) ∧ PrsV G xs l
  | _, _, _, _, .nil, e => by simp at e
  | _, _, 0, _, .cons h p _, e => by
    simp at e
    subst e
    exact ⟨_, _, _, rfl, rfl, h, p⟩
  | _, _, i + 1, v, .cons _ _ t, e => by
    obtain ⟨l, a, xs, h1, h2⟩ := SqsV.get (i := i) (v := v) t (by simpa using e)
    exact ⟨l, a, xs, by simpa using h1, h2⟩
section
variable {X : Cx}
def rMinL : List V → Hp → VK → Prop := fun vs H Q => ∃ (a : Addr) (xs : List V) (Ls : List (List Pr)), vs = [V.ref a] ∧ H a = some (.lst xs) ∧ SqsV H xs Ls ∧ Ls ≠ [] ∧
  ∀ (i : Nat) (v : V) (l : List Pr), xs[i]? = some v → Ls[i]? = some l → (∀ f ∈ Ls, ltL f l = false) → Q v H
theorem cr_minL (hc : X.calm = true) (hu : X.A.units + 64 < cLine) : CallR X (.builtin "min") rMinL := by
  intro pins s σ H vs us Q I r h
  obtain ⟨a, xs, es, rfl, ha, hp, ne, q⟩ := h
  obtain ⟨its, rv, hl, _⟩ := I.list (sq_of ha)
  rw [Vals.ref1 r]
  cases es with
  | nil => exact absurd rfl ne
  | cons e es =>
    obtain ⟨as, rd⟩ := Dp.readsAll I ((e :: es).map prsD) xs its hp.dts.dp rv
    refine PySem.W.min_list_data (x := prsD e) (xs := es.map prsD) (I.ok.hd hc) hl.isList rd ⟨fun x hx y hy => ?_, fun x hx => ?_⟩ (by have : PyData.depthAll (prsD e :: es.map prsD) ≤ 2 := prsD_depth (e :: es); omega) fun i v h' tk bs hv rdm hk => ?_
    · have hx' : x ∈ (e :: es).map prsD := hx
      have hy' : y ∈ (e :: es).map prsD := hy
      obtain ⟨x1, _, rfl⟩ := List.mem_map.mp hx'
      obtain ⟨y1, _, rfl⟩ := List.mem_map.mp hy'
      show PySem.W.alike (.list _) (.list _) = true
      rw [PySem.W.alike]
      exact alike_prs x1 y1
    · have hx' : x ∈ (e :: es).map prsD := hx
      obtain ⟨x1, _, rfl⟩ := List.mem_map.mp hx'
      exact fun z => nomatch z
    · have hv' : its[i]? = some v := by simpa using hv
      have il : i < xs.length := by
        rw [rv.length]
        exact (List.getElem?_eq_some_iff.mp hv').1
      have hx : xs[i]? = some xs[i] := List.getElem?_eq_getElem il
      generalize xs[i] = x at hx
      obtain ⟨u, hu1, ru⟩ := rv.get hx
      rw [hv'] at hu1
      cases hu1
      obtain ⟨l, b, ys, he', rfl, hb, pe⟩ := hp.get hx
      obtain ⟨bs', rd'⟩ := Dp.reads I (prsD l) (.ref b) v (Dt.dp (.lst hb pe.dts)) ru
      have r1 := SeqAt.readOf_eq (prsD_lay l) (PySem.W.reads_keeps hk rd')
      rw [minD_prs] at rdm
      have r2 := SeqAt.readOf_eq (prsD_lay _) rdm
      have ee : l = minL e es := prsD_inj (r1.symm.trans r2)
      subst ee
      exact ⟨.ref b, H, I.kept hk, ru, q i _ _ hx he' (minL_least es e)⟩
end
end Os
/-! sorted of tuples of any data -/
namespace Os
open PySem PySem.Spec PyProof.Rows L2 Evl
open PySem.W (EachIs dataLe AllAlike Sortable)
theorem each_at {α β : Type} {R : α → β → Prop} : ∀ {as : List α} {bs : List β}, as.length = bs.length → (∀ (i : Nat) (a : α) (b : β), as[i]? = some a → bs[i]? = some b → R a b) → EachIs R as bs
  | [], [], _, _ => .nil
  | [], _ :: _, h, _ => nomatch h
  | _ :: _, [], h, _ => nomatch h
  | a :: as, b :: bs, h, k => .cons (k 0 a b rfl rfl) (each_at (Nat.succ.inj h) fun i x y hx hy => k (i + 1) x y hx hy)
theorem each_get {α β : Type} {R : α → β → Prop} : ∀ {as : List α} {bs : List β} {i : Nat} {a : α}, EachIs R as bs → as[i]? = some a → ∃ b, bs[i]? = some b ∧ R a b
  | _, _, 0, _, .cons r _, h => by
    cases h
    exact ⟨_, rfl, r⟩
  | _, _, i + 1, _, .cons _ t, h => each_get (i := i) t h
section
variable {X : Cx} {β : Type}
/-- sorted(xs): the items are tuples that read as the data of bs -/
def rSortE (K : PySem.W.Frag) (enc : β → PyData) : List V → Hp → VK → Prop := fun vs H Q => ∃ (a : Addr) (xs : List V) (bs : List β), vs = [V.ref a] ∧ H a = some (.lst xs) ∧ Dts H xs (bs.map enc) ∧ (∀ x ∈ xs, ∃ t, x = V.ref t) ∧ AllAlike (bs.map enc) ∧ Sortable (bs.map enc) ∧ (∀ b ∈ bs, (enc b).depth ≤ 40) ∧ xs.length ≤ 100000 ∧
  ∀ (ys : List V) (p : Addr), ys.length = bs.length → (∀ (j : Nat) (y : V), ys[j]? = some y → ∃ (i : Nat) (b : β), xs[i]? = some y ∧ bs[i]? = some b ∧ (bs.mergeSort (dataLe false enc))[j]? = some b) → H p = none → Q (.ref p) (upd H p (.lst ys))
theorem cr_sortE (enc : β → PyData) (hu : X.A.units + 64 < cLine) : CallR X (.builtin "sorted") (rSortE X.K enc) := by
  intro pins s σ H vs us Q I r h
  obtain ⟨a, xs, bs, rfl, ha, hd, hrf, al, so, dep, hz0, q⟩ := h
  obtain ⟨its, rv, hl, hz⟩ := I.list (sq_of ha)
  rw [Vals.ref1 r]
  obtain ⟨e1, e2⟩ := bkV_refs rv hrf
  obtain ⟨as, rd⟩ := Dp.readsAll I (bs.map enc) xs its hd.dp rv
  have lx : xs.length = bs.length := by rw [hd.length, List.length_map]
  have li : its.length = bs.length := by rw [← lx, e1, List.length_map]
  refine PySem.W.sorted_data (R := fun v b => ∃ i, its[i]? = some v ∧ bs[i]? = some b) (enc := enc) (bs := bs) hl.isList (each_at li fun i v b hv hb => ⟨i, hv, hb⟩) (PySem.W.readsAll_each enc rd) al so (by rw [← lx]; exact sz_of hz0) (fun b hb => by have := dep b hb; omega) fun out ol eo => ?_
  obtain ⟨ep, he'⟩ := PyProof.Rows.sortedAll_at s.heap its (List.toArray out)
  have h3 : ∀ u ∈ out, ∃ a, u = Value.ref a := fun u hu => by
    obtain ⟨j, hj⟩ := List.mem_iff_getElem?.mp hu
    obtain ⟨b, _, i, hi, _⟩ := each_get eo hj
    exact e2 u (List.mem_of_getElem? hi)
  have hlen : (out.map bkV).length ≤ sizeLine := by
    rw [List.length_map, ol, ← lx]
    exact hz
  refine ⟨.ref _, upd H (s.heap.objs.size + 1) (.lst (out.map bkV)), I.laid (t' := s.toks) (fun _ _ => PyProof.Rows.sortedAll_old) (Nat.le_succ _) ⟨hlen, out, ep, bkV_vals h3, by simpa using he'⟩, rfl, q _ _ (by rw [List.length_map, ol]) (fun j y hy => ?_) (I.hok.fresh (Nat.le_succ _))⟩
  rw [List.getElem?_map] at hy
  obtain ⟨u, hu, rfl⟩ := Option.map_eq_some_iff.mp hy
  obtain ⟨b, hb, i, hi, hbi⟩ := each_get eo hu
  exact ⟨i, b, by rw [e1, List.getElem?_map, hi]; rfl, hbi, hb⟩
end
/-! ### pairs of pairs -/
abbrev PP := Pr × Pr
def ppD (q : PP) : PyData := .tuple [prD q.1, prD q.2]
def PPV (G : Hp) (v : V) (q : PP) : Prop := ∃ t v1 v2, v = .ref t ∧ G t = some (.tup [v1, v2]) ∧ PrV G v1 q.1 ∧ PrV G v2 q.2
def PPsV (G : Hp) (xs : List V) (L : List PP) : Prop := xs.length = L.length ∧ ∀ (i : Nat) (x : V) (q : PP), xs[i]? = some x → L[i]? = some q → PPV G x q
theorem PPV.ex {G G' : Hp} {v : V} {q : PP} (h : PPV G v q) (e : Ex G G') : PPV G' v q := by
  obtain ⟨t, v1, v2, h1, h2, h3, h4⟩ := h
  exact ⟨t, v1, v2, h1, e _ _ h2, h3.ex e, h4.ex e⟩
theorem PPV.dt {G : Hp} {v : V} {q : PP} (h : PPV G v q) : Dt G v (ppD q) := by
  obtain ⟨t, v1, v2, rfl, h2, h3, h4⟩ := h
  exact .tup h2 (.cons h3.dt (.cons h4.dt .nil))
theorem PPsV.ex {G G' : Hp} {xs : List V} {L : List PP} (h : PPsV G xs L) (e : Ex G G') : PPsV G' xs L := ⟨h.1, fun i x q hx hq => (h.2 i x q hx hq).ex e⟩
theorem PPsV.get {G : Hp} {xs : List V} {L : List PP} {i : Nat} {x : V} (h : PPsV G xs L) (hx : xs[i]? = some x) : ∃ q, L[i]? = some q ∧ PPV G x q := by
  obtain ⟨il, _⟩ := List.getElem?_eq_some_iff.mp hx
  have il2 : i < L.length := by have := h.1; omega
  have hq : L[i]? = some L[i] := List.getElem?_eq_getElem il2
  exact ⟨_, hq, h.2 i x _ hx hq⟩
theorem pps_nil {G : Hp} : PPsV G [] [] := ⟨rfl, fun i x q h => nomatch h⟩
theorem pps_snoc {G : Hp} {xs : List V} {L : List PP} {v : V} {q : PP} (h : PPsV G xs L) (hv : PPV G v q) : PPsV G (xs ++ [v]) (L ++ [q]) := by
  refine ⟨by rw [List.length_append, List.length_append, h.1]; rfl, fun i x r hx hr => ?_⟩
  by_cases il : i < xs.length
  · rw [List.getElem?_append_left il] at hx
    rw [List.getElem?_append_left (by have := h.1; omega)] at hr
    exact h.2 i x r hx hr
  · rw [List.getElem?_append_right (by omega)] at hx
    rw [List.getElem?_append_right (by have := h.1; omega)] at hr
    have e1 := List.mem_singleton.mp (List.mem_of_getElem? hx)
    have e2 := List.mem_singleton.mp (List.mem_of_getElem? hr)
    rw [e1, e2]
    exact hv
theorem PPsV.app {G : Hp} {xs ys : List V} {L M : List PP} (h : PPsV G xs L) (k : PPsV G ys M) : PPsV G (xs ++ ys) (L ++ M) := by
  refine ⟨by rw [List.length_append, List.length_append, h.1, k.1], fun i x r hx hr => ?_⟩
  by_cases il : i < xs.length
  · rw [List.getElem?_append_left il] at hx
    rw [List.getElem?_append_left (by have := h.1; omega)] at hr
    exact h.2 i x r hx hr
  · rw [List.getElem?_append_right (by omega)] at hx
    rw [List.getElem?_append_right (by have := h.1; omega)] at hr
    rw [h.1] at hx
    exact k.2 _ x r hx hr
/-- an object that is no tuple may change -/
theorem PPsV.put0 {p : Addr} {G : Hp} {xs' zs vs : List V} {L : List PP} (h : PPsV G vs L) (hp : G p = some (.lst xs')) : PPsV (L2.upd G p (.lst zs)) vs L := ⟨h.1, fun i x q hx hq => by
  obtain ⟨t, v1, v2, rfl, h2, ⟨t1, rfl, h3⟩, ⟨t2, rfl, h4⟩⟩ := h.2 i x q hx hq
  have off : ∀ {y : Addr} {ws : List V}, G y = some (.tup ws) → (L2.upd G p (.lst zs)) y = some (.tup ws) := fun {y ws} hy => by
    rw [L2.upd_ne fun e => by
      rw [e, hp] at hy
      cases hy]
    exact hy
  exact ⟨t, _, _, rfl, off h2, ⟨t1, rfl, off h3⟩, ⟨t2, rfl, off h4⟩⟩⟩
theorem PPsV.dts {G : Hp} : ∀ {xs : List V} {L : List PP}, PPsV G xs L → Dts G xs (L.map ppD)
  | [], [], _ => .nil
  | [], _ :: _, h => nomatch h.1
  | _ :: _, [], h => nomatch h.1
  | x :: xs, q :: L, h => .cons (h.2 0 x q rfl rfl).dt (PPsV.dts (xs := xs) (L := L) ⟨Nat.succ.inj h.1, fun i y r hy hr => h.2 (i + 1) y r hy hr⟩)
theorem pp_alike (L : List PP) : AllAlike (L.map ppD) := AllAlike.of fun p q => by
  show PySem.W.alike (.tuple _) (.tuple _) = true
  rw [PySem.W.alike]
  show PySem.W.alikeAll [prD p.1, prD p.2] [prD q.1, prD q.2] = true
  rw [PySem.W.alikeAll, PySem.W.alikeAll, alike_pr, alike_pr]
  simp [PySem.W.alikeAll]
theorem pp_sortable (L : List PP) : Sortable (L.map ppD) := Sortable.tuples fun q => ⟨_, _, rfl⟩
theorem pp_depth (q : PP) : (ppD q).depth ≤ 40 := by
  show (PyData.tuple [prD q.1, prD q.2]).depth ≤ 40
  simp [PyData.depth, PyData.depthAll, prD]
/-- pairs of pairs in ascending order -/
def ordPP (L : List PP) : List PP := L.mergeSort (dataLe false ppD)
theorem ord_perm (L : List PP) : (ordPP L).Perm L := List.mergeSort_perm L _
theorem ord_mem {L : List PP} {q : PP} : q ∈ ordPP L ↔ q ∈ L := (ord_perm L).mem_iff
section
variable {K : PySem.W.Frag} {σ : L2.St} {H : Hp} {te : TE}
/-- sorted of a list of pairs of pairs, behind what gives the list -/
theorem sort_pp {a : Addr} {xs : List V} {L : List PP} {Q : VK} (ha : H a = some (.lst xs)) (hp : PPsV H xs L) (few : L.length ≤ 100000)
    (q : ∀ p ys, H p = none → PPsV (L2.upd H p (.lst ys)) ys (ordPP L) → Q (.ref p) (L2.upd H p (.lst ys))) : rSortE K ppD [.ref a] H Q := by
  refine ⟨a, xs, L, rfl, ha, hp.dts, fun x hx => ?_, pp_alike L, pp_sortable L, fun b _ => pp_depth b, by rw [hp.1]; exact few, fun ys p yl at' hpn => q p ys hpn (PPsV.ex ⟨?_, fun j y r hy hr => ?_⟩ (Ex.new hpn))⟩
  · obtain ⟨i, hi⟩ := List.mem_iff_getElem?.mp hx
    obtain ⟨r, _, t, _, _, h, _⟩ := hp.get hi
    exact ⟨t, h⟩
  · rw [yl, (ord_perm L).length_eq]
  · obtain ⟨i, b, h1, h2, h3⟩ := at' j y hy
    have h3' : (ordPP L)[j]? = some b := h3
    rw [hr] at h3'
    cases h3'
    exact hp.2 i y r h1 h2
end
end Os
/-! which swap comes directly before which; what follows what -/
namespace Os
open PySem PySem.Spec PyProof.Rows
def eb (p q : Nat) : Pr := (min p q, max p q)
theorem eb_touch {e : Pr} {p q : Nat} (h : Tch e p q) (lt : e.1 < e.2) : eb p q = e := by
  rcases h with ⟨a, b⟩ | ⟨a, b⟩ <;> refine Prod.ext ?_ ?_ <;> simp only [eb] <;> omega
theorem eb_tch {p q : Nat} (ne : p ≠ q) : Tch (eb p q) p q := by
  unfold Tch eb
  rcases Nat.lt_or_gt_of_ne ne with h | h
  · exact .inl ⟨by simp only []; omega, by simp only []; omega⟩
  · exact .inr ⟨by simp only []; omega, by simp only []; omega⟩
/-- the pairs of edges that directly follow one another at p -/
def folT (p : Nat) (t : List Nat) : List PP := (t.zip t.tail).map fun ab => (eb p ab.1, eb p ab.2)
def folN (n : Nat) (tn : Nat → List Nat) : List PP := (List.range n).flatMap fun p => folT p (tn p)
theorem zip_tail {α : Type} : ∀ {l : List α} {a b : α}, (a, b) ∈ l.zip l.tail ↔ ∃ T1 T2, l = T1 ++ a :: b :: T2
  | [], a, b => ⟨fun h => (by simp at h), fun ⟨T1, T2, h⟩ => (by simp at h)⟩
  | [x], a, b => ⟨fun h => (by simp at h), fun ⟨T1, T2, h⟩ => by
      have := congrArg List.length h
      simp at this
      omega⟩
  | x :: y :: l, a, b => by
    show (a, b) ∈ (x, y) :: (y :: l).zip l ↔ _
    rw [List.mem_cons]
    have ih := zip_tail (l := y :: l) (a := a) (b := b)
    constructor
    · rintro (h | h)
      · cases h
        exact ⟨[], l, rfl⟩
      · obtain ⟨T1, T2, e⟩ := ih.mp h
        exact ⟨x :: T1, T2, by rw [e]; rfl⟩
    · rintro ⟨T1, T2, e⟩
      cases T1 with
      | nil =>
        have e' : x :: y :: l = a :: b :: T2 := e
        cases e'
        exact .inl rfl
      | cons z T1 =>
        have e' : x :: y :: l = z :: (T1 ++ a :: b :: T2) := e
        injection e' with e1 e2
        exact .inr (ih.mpr ⟨T1, T2, e2⟩)
theorem mem_folT {p : Nat} {t : List Nat} {q : PP} : q ∈ folT p t ↔ ∃ T1 a b T2, t = T1 ++ a :: b :: T2 ∧ q = (eb p a, eb p b) := by
  unfold folT
  rw [List.mem_map]
  constructor
  · rintro ⟨⟨a, b⟩, h, rfl⟩
    obtain ⟨T1, T2, e⟩ := zip_tail.mp h
    exact ⟨T1, a, b, T2, e, rfl⟩
  · rintro ⟨T1, a, b, T2, e, rfl⟩
    exact ⟨(a, b), zip_tail.mpr ⟨T1, T2, e⟩, rfl⟩
theorem mem_folN {n : Nat} {tn : Nat → List Nat} {q : PP} : q ∈ folN n tn ↔ ∃ p, p < n ∧ ∃ T1 a b T2, tn p = T1 ++ a :: b :: T2 ∧ q = (eb p a, eb p b) := by
  unfold folN
  rw [List.mem_flatMap]
  constructor
  · rintro ⟨p, hp, h⟩
    exact ⟨p, List.mem_range.mp hp, mem_folT.mp h⟩
  · rintro ⟨p, hp, h⟩
    exact ⟨p, List.mem_range.mpr hp, mem_folT.mpr h⟩
/-- e comes before f -/
def Bef (os : List Pr) (e f : Pr) : Prop := ∃ A B C, os = A ++ e :: (B ++ f :: C)
theorem turn_edge {n : Nat} {es : List Pr} (E : Edges n es) {p a : Nat} (h : a ∈ turnOf p es) : eb p a ∈ es ∧ Tch (eb p a) p a ∧ p ≠ a ∧ p < n := by
  obtain ⟨e, he, t⟩ := mem_turn h
  have t' : Tch e p a := by
    rcases t with ⟨h1, h2⟩ | ⟨h1, h2⟩
    · exact .inl ⟨h1, h2⟩
    · exact .inr ⟨h2, h1⟩
  have := E.inn e he
  have ee := eb_touch t' this.1
  rw [ee]
  refine ⟨he, t', ?_, ?_⟩ <;> rcases t' with ⟨h1, h2⟩ | ⟨h1, h2⟩ <;> omega
section
variable {n : Nat} {es os : List Pr}
theorem some_touch {p a : Nat} {e : Pr} (h : (if e.1 = p then some e.2 else if e.2 = p then some e.1 else none) = some a) : Tch e p a := by
  by_cases h1 : e.1 = p
  · rw [if_pos h1] at h
    exact .inl ⟨h1, Option.some.inj h⟩
  · rw [if_neg h1] at h
    by_cases h2 : e.2 = p
    · rw [if_pos h2] at h
      exact .inr ⟨h2, Option.some.inj h⟩
    · rw [if_neg h2] at h
      cases h
theorem turn_two {p a b : Nat} {T1 T2 : List Nat} (h : turnOf p os = T1 ++ a :: b :: T2) : ∃ A e B f C, os = A ++ e :: (B ++ f :: C) ∧ Tch e p a ∧ Tch f p b := by
  obtain ⟨l1, l2, rfl, _, h2⟩ := List.filterMap_eq_append_iff.mp h
  obtain ⟨m1, e, m2, rfl, _, he, hm⟩ := List.filterMap_eq_cons_iff.mp h2
  obtain ⟨k1, f, k2, rfl, _, hf, _⟩ := List.filterMap_eq_cons_iff.mp hm
  exact ⟨l1 ++ m1, e, k1, f, k2, by simp [List.append_assoc], some_touch he, some_touch hf⟩
/-- what a pair is -/
theorem fol_is (E : Edges n es) (pm : os.Perm es) {e f : Pr} (h : (e, f) ∈ folN n fun p => turnOf p os) : e ∈ es ∧ f ∈ es ∧ Bef os e f ∧ ∃ p a b T1 T2, turnOf p os = T1 ++ a :: b :: T2 ∧ Tch e p a ∧ Tch f p b := by
  obtain ⟨p, hp, T1, a, b, T2, ht, q⟩ := mem_folN.mp h
  have ht' : turnOf p os = T1 ++ a :: b :: T2 := ht
  obtain ⟨A, e', B, f', C, ho, te, tf⟩ := turn_two ht'
  have me : e' ∈ es := pm.mem_iff.mp (by rw [ho]; simp)
  have mf : f' ∈ es := pm.mem_iff.mp (by rw [ho]; simp)
  have q1 : e = eb p a := congrArg Prod.fst q
  have q2 : f = eb p b := congrArg Prod.snd q
  rw [eb_touch te (E.inn e' me).1] at q1
  rw [eb_touch tf (E.inn f' mf).1] at q2
  rw [q1, q2]
  exact ⟨me, mf, ⟨A, B, C, ho⟩, p, a, b, T1, T2, ht', te, tf⟩
theorem Bef.idx (nd : os.Nodup) {e f : Pr} (h : Bef os e f) : os.idxOf e < os.idxOf f := by
  obtain ⟨A, B, C, rfl⟩ := h
  obtain ⟨n1, n2, dis⟩ := List.nodup_append.mp nd
  have eA : e ∉ A := fun z => dis e z e List.mem_cons_self rfl
  have fA : f ∉ A := fun z => dis f z f (List.mem_cons_of_mem _ (List.mem_append_right _ List.mem_cons_self)) rfl
  have ef : e ≠ f := fun z => (List.nodup_cons.mp n2).1 (z ▸ List.mem_append_right _ List.mem_cons_self)
  rw [List.idxOf_append, List.idxOf_append, if_neg eA, if_neg fA, List.idxOf_cons_self, List.idxOf_cons, beq_eq_false_iff_ne.mpr ef]
  show 0 + A.length < List.idxOf f (B ++ f :: C) + 1 + A.length
  omega
/-- one after the other, through the pairs -/
inductive Rch (S : List PP) : Pr → Pr → Prop
  | refl (e : Pr) : Rch S e e
  | step {e g f : Pr} : (e, g) ∈ S → Rch S g f → Rch S e f
theorem Rch.snoc {S : List PP} {e g f : Pr} (h : Rch S e g) (k : (g, f) ∈ S) : Rch S e f := by
  induction h with
  | refl e => exact .step k (.refl _)
  | step a _ ih => exact .step a (ih k)
theorem Rch.last {S : List PP} {e f : Pr} (h : Rch S e f) : e = f ∨ ∃ g, Rch S e g ∧ (g, f) ∈ S := by
  induction h with
  | refl e => exact .inl rfl
  | step a r ih =>
    rcases ih with rfl | ⟨g, h1, h2⟩
    · exact .inr ⟨_, .refl _, a⟩
    · exact .inr ⟨g, .step a h1, h2⟩
theorem Rch.trans {S : List PP} {e g f : Pr} (h : Rch S e g) (k : Rch S g f) : Rch S e f := by
  induction h with
  | refl e => exact k
  | step a _ ih => exact .step a (ih k)
variable (E : Edges n es) (pm : os.Perm es)
include E pm
theorem rch_idx {e f : Pr} (h : Rch (folN n fun p => turnOf p os) e f) : os.idxOf e ≤ os.idxOf f := by
  induction h with
  | refl e => exact Nat.le_refl _
  | step a _ ih =>
    have := (fol_is E pm a).2.2.1.idx (pm.nodup_iff.mpr E.nodup)
    omega
theorem rch_in {e f : Pr} (h : Rch (folN n fun p => turnOf p os) e f) (he : e ∈ es) : f ∈ es := by
  induction h with
  | refl e => exact he
  | step a _ ih => exact ih (fol_is E pm a).2.1
/-- what is reached without an edge stays on its side -/
theorem rch_side {e x f : Pr} (h : Rch (folN n fun p => turnOf p os) e x) (he : e ∈ es) (hi : os.idxOf x < os.idxOf f) {S : Nat → Bool} (hS : ∀ g ∈ es, g ≠ f → S g.1 = S g.2) : S e.1 = S x.1 := by
  induction h with
  | refl e => rfl
  | @step e g x a r ih =>
    obtain ⟨h1, h2, h3, p, u, v, _, _, _, t1, t2⟩ := fol_is E pm a
    have i1 := h3.idx (pm.nodup_iff.mpr E.nodup)
    have i2 := rch_idx E pm r
    have e1 := hS e h1 (fun z => by rw [z] at i1; omega)
    have e2 := hS g h2 (fun z => by rw [z] at i2; omega)
    rw [← ih h2 hi]
    have a1 : S e.1 = S p := by rcases t1 with ⟨z, _⟩ | ⟨z, _⟩ <;> rw [← z] <;> simp_all
    have a2 : S g.1 = S p := by rcases t2 with ⟨z, _⟩ | ⟨z, _⟩ <;> rw [← z] <;> simp_all
    rw [a1, a2]
/-- of what one edge reaches, one alone comes directly before another one -/
theorem one_before {w x y f : Pr} (hw : w ∈ es) (hx : Rch (folN n fun p => turnOf p os) w x) (hy : Rch (folN n fun p => turnOf p os) w y) (kx : (x, f) ∈ folN n fun p => turnOf p os) (ky : (y, f) ∈ folN n fun p => turnOf p os) : x = y := by
  obtain ⟨x1, f1, bx, p, a, b, T1, T2, ht, tx, tf⟩ := fol_is E pm kx
  obtain ⟨y1, _, by', q, c, d, U1, U2, hu, ty, tf'⟩ := fol_is E pm ky
  have nd := pm.nodup_iff.mpr E.nodup
  by_cases pq : p = q
  · subst pq
    have bd : b = d := by
      have := E.inn f f1
      rcases tf with ⟨z1, z2⟩ | ⟨z1, z2⟩ <;> rcases tf' with ⟨z3, z4⟩ | ⟨z3, z4⟩ <;> omega
    subst bd
    have nt := turn_nodup E pm p
    have h1 : (T1 ++ [a]) ++ b :: T2 = (U1 ++ [c]) ++ b :: U2 := by
      rw [List.append_assoc, List.append_assoc]
      exact ht.symm.trans hu
    have h2 : ((T1 ++ [a]) ++ b :: T2).Nodup := by
      rw [List.append_assoc]
      have := nt
      rw [ht] at this
      exact this
    have h3 := split_front h2 h1
    have ac : a = c := by
      have := congrArg List.getLast? h3
      simpa using this
    subst ac
    exact tx.eq ty (E.inn x x1).1 (E.inn y y1).1
  · obtain ⟨S, hS, hS2⟩ := E.br f f1
    exfalso
    have cut : ∀ g ∈ es, g ≠ f → S g.1 = S g.2 := fun g hg ne => hS2 g hg ne
    have sx := rch_side E pm hx hw (bx.idx nd) cut
    have sy := rch_side E pm hy hw (by'.idx nd) cut
    have ex : S x.1 = S p := by
      have := cut x x1 (fun z => by have := bx.idx nd; rw [z] at this; omega)
      rcases tx with ⟨z, _⟩ | ⟨z, _⟩ <;> rw [← z] <;> simp_all
    have ey : S y.1 = S q := by
      have := cut y y1 (fun z => by have := by'.idx nd; rw [z] at this; omega)
      rcases ty with ⟨z, _⟩ | ⟨z, _⟩ <;> rw [← z] <;> simp_all
    have pq' : S p = S q := by rw [← ex, ← ey, ← sx, ← sy]
    have fin : (f.1 = p ∧ f.2 = q) ∨ (f.2 = p ∧ f.1 = q) := by
      rcases tf with ⟨z1, z2⟩ | ⟨z1, z2⟩ <;> rcases tf' with ⟨z3, z4⟩ | ⟨z3, z4⟩ <;> omega
    rcases fin with ⟨z1, z2⟩ | ⟨z1, z2⟩ <;> rw [← z1, ← z2] at pq' <;> simp_all
end
end Os
/-! the search through the pairs, the greedy order -/
namespace Os
open PySem PySem.Spec PyProof.Rows
theorem nodup_sub {α : Type} [DecidableEq α] : ∀ {l m : List α}, l.Nodup → (∀ x ∈ l, x ∈ m) → l.length ≤ m.length
  | [], _, _, _ => Nat.zero_le _
  | x :: l, m, nd, h => by
    obtain ⟨n1, n2⟩ := List.nodup_cons.mp nd
    have hx := h x List.mem_cons_self
    have ih := nodup_sub (m := m.erase x) n2 fun y hy => (List.mem_erase_of_ne fun z => by rw [z] at hy; exact n1 hy).mpr (h y (List.mem_cons_of_mem _ hy))
    have := List.length_erase_of_mem hx
    have pos := List.length_pos_of_mem hx
    rw [List.length_cons]
    omega
theorem nodup_full {α : Type} [DecidableEq α] {l m : List α} (nd : l.Nodup) (h : ∀ x ∈ l, x ∈ m) (len : m.length ≤ l.length) {x : α} (hx : x ∈ m) : x ∈ l := Decidable.byContradiction fun ne => by
  have := nodup_sub (l := x :: l) (m := m) (List.nodup_cons.mpr ⟨ne, nd⟩) fun y hy => by
    rcases List.mem_cons.mp hy with rfl | hy
    · exact hx
    · exact h y hy
  rw [List.length_cons] at this
  omega
theorem eb_inj {p a b : Nat} (ha : p ≠ a) (hb : p ≠ b) (h : eb p a = eb p b) : a = b := by
  have t1 := eb_tch ha
  have t2 := eb_tch hb
  rw [h] at t1
  rcases t1 with ⟨x, y⟩ | ⟨x, y⟩ <;> rcases t2 with ⟨z, w⟩ | ⟨z, w⟩ <;> omega
section
variable {n : Nat} {es os : List Pr} (E : Edges n es) (pm : os.Perm es)
include E pm
theorem turn_ne {p a : Nat} (h : a ∈ turnOf p os) : p ≠ a := (turn_edge E ((turn_perm pm p).mem_iff.mp h)).2.2.1
theorem folT_nodup (p : Nat) : (folT p (turnOf p os)).Nodup := by
  unfold folT
  refine List.pairwise_map.mpr (List.pairwise_iff_getElem.mpr fun i j hi hj ij z => ?_)
  have nd := turn_nodup E pm p
  rw [List.length_zip, List.length_tail] at hi hj
  rw [List.getElem_zip, List.getElem_zip] at z
  have z1 : eb p (turnOf p os)[i] = eb p (turnOf p os)[j] := congrArg Prod.fst z
  have e := eb_inj (turn_ne E pm (List.getElem_mem (by omega))) (turn_ne E pm (List.getElem_mem (by omega))) z1
  exact List.pairwise_iff_getElem.mp nd i j (by omega) (by omega) ij e
theorem folN_nodup : (folN n fun p => turnOf p os).Nodup := by
  unfold folN
  refine List.pairwise_flatMap.mpr ⟨fun p _ => folT_nodup E pm p, (List.nodup_range (n := n)).imp fun {p q} pq x hx y hy z => ?_⟩
  obtain ⟨T1, a, b, T2, h1, h2⟩ := mem_folT.mp hx
  obtain ⟨U1, c, d, U2, k1, k2⟩ := mem_folT.mp hy
  have h1 : turnOf p os = T1 ++ a :: b :: T2 := h1
  have k1 : turnOf q os = U1 ++ c :: d :: U2 := k1
  have nd := turn_nodup E pm p
  have ha := turn_ne E pm (show a ∈ turnOf p os by rw [h1]; simp)
  have hb := turn_ne E pm (show b ∈ turnOf p os by rw [h1]; simp)
  have hc := turn_ne E pm (show c ∈ turnOf q os by rw [k1]; simp)
  have hd := turn_ne E pm (show d ∈ turnOf q os by rw [k1]; simp)
  rw [z, k2] at h2
  have e1 : eb q c = eb p a := congrArg Prod.fst h2
  have e2 : eb q d = eb p b := congrArg Prod.snd h2
  have t1 := eb_tch ha
  have t2 := eb_tch hc
  rw [e1] at t2
  have t3 := eb_tch hb
  have t4 := eb_tch hd
  rw [e2] at t4
  have aq : a = q := by rcases t1 with ⟨x, y⟩ | ⟨x, y⟩ <;> rcases t2 with ⟨z, w⟩ | ⟨z, w⟩ <;> omega
  have bq : b = q := by rcases t3 with ⟨x, y⟩ | ⟨x, y⟩ <;> rcases t4 with ⟨z, w⟩ | ⟨z, w⟩ <;> omega
  rw [h1, aq, bq] at nd
  have := (List.nodup_append.mp nd).2.1
  exact (List.nodup_cons.mp this).1 List.mem_cons_self
end
/-! ### the search -/
def succs (S : List PP) (x : Pr) : List Pr := (S.filter fun q => decide (q.1 = x)).map (·.2)
theorem mem_succs {S : List PP} {x f : Pr} : f ∈ succs S x ↔ (x, f) ∈ S := by
  unfold succs
  rw [List.mem_map]
  constructor
  · rintro ⟨⟨a, b⟩, h, rfl⟩
    obtain ⟨h1, h2⟩ := List.mem_filter.mp h
    have := of_decide_eq_true h2
    have e : a = x := this
    rw [← e]
    exact h1
  · intro h
    exact ⟨(x, f), List.mem_filter.mpr ⟨h, decide_eq_true rfl⟩, rfl⟩
theorem succs_nodup {S : List PP} (nd : S.Nodup) (x : Pr) : (succs S x).Nodup := by
  unfold succs
  refine List.pairwise_map.mpr ((nd.sublist List.filter_sublist).imp_of_mem fun {a b} ha hb ab z => ab ?_)
  have h1 : a.1 = x := of_decide_eq_true (List.mem_filter.mp ha).2
  have h2 : b.1 = x := of_decide_eq_true (List.mem_filter.mp hb).2
  exact Prod.ext (h1.trans h2.symm) z
structure Srch (S : List PP) (w : Pr) (later waiting : List Pr) : Prop where
  nl : later.Nodup
  nw : waiting.Nodup
  no : w ∉ later
  sub : ∀ x ∈ waiting, x = w ∨ x ∈ later
  rc : ∀ x ∈ later, Rch S w x
  don : ∀ f ∈ later, ∃ z, (z = w ∨ z ∈ later) ∧ (z, f) ∈ S ∧ z ∉ waiting
  all : ∀ z, (z = w ∨ z ∈ later) → z ∉ waiting → ∀ f, (z, f) ∈ S → f ∈ later
/-- what the pairs of an order are like -/
structure PairsOk (S : List PP) (es os : List Pr) : Prop where
  nd : S.Nodup
  inn : ∀ q ∈ S, q.1 ∈ es ∧ q.2 ∈ es ∧ os.idxOf q.1 < os.idxOf q.2
  one : ∀ {w x y f : Pr}, w ∈ es → Rch S w x → Rch S w y → (x, f) ∈ S → (y, f) ∈ S → x = y
theorem Rch.mono {S T : List PP} (h : ∀ q ∈ S, q ∈ T) {e f : Pr} (r : Rch S e f) : Rch T e f := by
  induction r with
  | refl e => exact .refl e
  | step a _ ih => exact .step (h _ a) ih
theorem pairs_ok {n : Nat} {es os : List Pr} (E : Edges n es) (pm : os.Perm es) : PairsOk (ordPP (folN n fun p => turnOf p os)) es os := by
  have sub : ∀ q ∈ ordPP (folN n fun p => turnOf p os), q ∈ folN n fun p => turnOf p os := fun q h => ord_mem.mp h
  refine ⟨(ord_perm _).nodup_iff.mpr (folN_nodup E pm), fun q hq => ?_, fun hw hx hy kx ky => one_before E pm hw (hx.mono sub) (hy.mono sub) (sub _ kx) (sub _ ky)⟩
  obtain ⟨h1, h2, h3, _⟩ := fol_is E pm (e := q.1) (f := q.2) (sub q hq)
  exact ⟨h1, h2, h3.idx (pm.nodup_iff.mpr E.nodup)⟩
section
variable {S : List PP} {es os : List Pr} (ok : PairsOk S es os) {w : Pr}
include ok
theorem PairsOk.idx {e f : Pr} (h : Rch S e f) : os.idxOf e ≤ os.idxOf f := by
  induction h with
  | refl e => exact Nat.le_refl _
  | step a _ ih =>
    have := (ok.inn _ a).2.2
    exact Nat.le_trans (Nat.le_of_lt this) ih
theorem PairsOk.mem {e f : Pr} (h : Rch S e f) (he : e ∈ es) : f ∈ es := by
  induction h with
  | refl e => exact he
  | step a _ ih => exact ih (ok.inn _ a).2.1
theorem Srch.start (hw : w ∈ es) : Srch S w [] [w] := ⟨List.nodup_nil, List.pairwise_singleton _ _, fun h => (by cases h), fun x hx => .inl (List.mem_singleton.mp hx), fun x h => (by cases h), fun x h => (by cases h), fun z hz hn => by
  rcases hz with rfl | hz
  · exact absurd List.mem_cons_self hn
  · cases hz⟩
theorem Srch.step (hw : w ∈ es) {later ws : List Pr} {x : Pr} (h : Srch S w later (ws ++ [x])) : Srch S w (later ++ succs S x) (ws ++ succs S x) := by
  obtain ⟨nl, nw, no, sub, rc, don, all⟩ := h
  obtain ⟨nws, _, dws⟩ := List.nodup_append.mp nw
  have xw : x ∉ ws := fun z => dws x z x (List.mem_singleton.mpr rfl) rfl
  have xin : x ∈ ws ++ [x] := List.mem_append_right _ (List.mem_singleton.mpr rfl)
  have rall : ∀ z, (z = w ∨ z ∈ later) → Rch S w z := fun z hz => by
    rcases hz with rfl | hz
    · exact .refl _
    · exact rc z hz
  have rx := rall x (sub x xin)
  have fnew : ∀ f ∈ succs S x, f ∉ later := fun f hf hl => by
    obtain ⟨z, hz, hzf, hzn⟩ := don f hl
    have := ok.one hw (rall z hz) rx hzf (mem_succs.mp hf)
    exact hzn (this ▸ xin)
  have fw : ∀ f ∈ succs S x, f ≠ w := fun f hf z => by
    have h1 := (ok.inn _ (mem_succs.mp hf)).2.2
    have h2 := ok.idx rx
    rw [z] at h1
    have h1' : os.idxOf x < os.idxOf w := h1
    omega
  have fold : ∀ z, (z = w ∨ z ∈ later) → z ∉ succs S x := fun z hz hf => by
    rcases hz with rfl | hz
    · exact fw _ hf rfl
    · exact fnew z hf hz
  have sn := succs_nodup ok.nd x
  refine ⟨List.nodup_append.mpr ⟨nl, sn, fun a ha b hb z => fnew b hb (z ▸ ha)⟩, List.nodup_append.mpr ⟨nws, sn, fun a ha b hb z => ?_⟩, fun z => ?_, fun z hz => ?_, fun z hz => ?_, fun f hf => ?_, fun z hz hn f hf => ?_⟩
  · exact fold a (sub a (List.mem_append_left _ ha)) (z ▸ hb)
  · rcases List.mem_append.mp z with z | z
    · exact no z
    · exact fw w z rfl
  · rcases List.mem_append.mp hz with hz | hz
    · rcases sub z (List.mem_append_left _ hz) with h | h
      · exact .inl h
      · exact .inr (List.mem_append_left _ h)
    · exact .inr (List.mem_append_right _ hz)
  · rcases List.mem_append.mp hz with hz | hz
    · exact rc z hz
    · exact rx.snoc (mem_succs.mp hz)
  · rcases List.mem_append.mp hf with hf | hf
    · obtain ⟨z, hz, hzf, hzn⟩ := don f hf
      refine ⟨z, hz.elim .inl fun h => .inr (List.mem_append_left _ h), hzf, fun m => ?_⟩
      rcases List.mem_append.mp m with m | m
      · exact hzn (List.mem_append_left _ m)
      · exact fold z hz m
    · refine ⟨x, (sub x xin).elim .inl fun h => .inr (List.mem_append_left _ h), mem_succs.mp hf, fun m => ?_⟩
      rcases List.mem_append.mp m with m | m
      · exact xw m
      · exact fold x (sub x xin) m
  · have zf : z ∉ succs S x := fun m => hn (List.mem_append_right _ m)
    have zw : z ∉ ws := fun m => hn (List.mem_append_left _ m)
    have hz' : z = w ∨ z ∈ later := by
      rcases hz with h | h
      · exact .inl h
      · exact .inr ((List.mem_append.mp h).resolve_right zf)
    by_cases zx : z = x
    · rw [zx] at hf
      exact List.mem_append_right _ (mem_succs.mpr hf)
    · refine List.mem_append_left _ (all z hz' (fun m => ?_) f hf)
      rcases List.mem_append.mp m with m | m
      · exact zw m
      · exact zx (List.mem_singleton.mp m)
theorem Srch.len (hw : w ∈ es) {later ws : List Pr} (nes : es.Nodup) (h : Srch S w later ws) : later.length ≤ es.length ∧ ws.length ≤ es.length + 1 := by
  have l1 : later.length ≤ es.length := nodup_sub h.nl fun x hx => ok.mem (h.rc x hx) hw
  have l2 : ws.length ≤ (w :: later).length := nodup_sub h.nw fun x hx => by
    rcases h.sub x hx with rfl | h
    · exact List.mem_cons_self
    · exact List.mem_cons_of_mem _ h
  rw [List.length_cons] at l2
  exact ⟨l1, by omega⟩
theorem Srch.fin {later : List Pr} (h : Srch S w later []) {f : Pr} : f ∈ later ↔ Rch S w f ∧ f ≠ w := by
  constructor
  · intro hf
    exact ⟨h.rc f hf, fun z => h.no (z ▸ hf)⟩
  · rintro ⟨r, ne⟩
    have key : ∀ {x f : Pr}, Rch S x f → (x = w ∨ x ∈ later) → f = w ∨ f ∈ later := fun {x f} r => by
      induction r with
      | refl e => exact fun h => h
      | step a _ ih => exact fun hx => ih (.inr (h.all _ hx (fun z => by cases z) _ a))
    exact (key r (.inl rfl)).resolve_left ne
end
/-! ### the greedy order of the law -/
def aheadG (S : List PP) (found : List Pr) : List Pr := (S.filter fun q => decide (q.1 ∉ found)).map (·.2)
theorem mem_ahead {S : List PP} {found : List Pr} {f : Pr} : f ∈ aheadG S found ↔ ∃ x, (x, f) ∈ S ∧ x ∉ found := by
  unfold aheadG
  rw [List.mem_map]
  constructor
  · rintro ⟨⟨a, b⟩, h, rfl⟩
    obtain ⟨h1, h2⟩ := List.mem_filter.mp h
    exact ⟨a, h1, of_decide_eq_true h2⟩
  · rintro ⟨x, h1, h2⟩
    exact ⟨(x, f), List.mem_filter.mpr ⟨h1, decide_eq_true h2⟩, rfl⟩
def readyG (S : List PP) (wt : Option Pr) (found : List Pr) (e : Pr) : Bool := decide (e ∉ found) && (decide (e ∉ aheadG S found) && decide (some e ≠ wt))
theorem readyG_iff {S : List PP} {wt : Option Pr} {found : List Pr} {e : Pr} : readyG S wt found e = true ↔ e ∉ found ∧ (∀ x, (x, e) ∈ S → x ∈ found) ∧ some e ≠ wt := by
  unfold readyG
  rw [Bool.and_eq_true, Bool.and_eq_true, decide_eq_true_iff, decide_eq_true_iff, decide_eq_true_iff]
  refine and_congr_right fun _ => and_congr_left fun _ => ?_
  rw [mem_ahead]
  constructor
  · intro h x hx
    exact Decidable.byContradiction fun z => h ⟨x, hx, z⟩
  · rintro h ⟨x, hx, z⟩
    exact z (h x hx)
def stepG (es : List Pr) (S : List PP) (wt : Option Pr) (found : List Pr) : List Pr := match es.filter (readyG S wt found) with
  | [] => found
  | e :: _ => found ++ [e]
def grdG (es : List Pr) (S : List PP) (wt : Option Pr) : Nat → List Pr
  | 0 => []
  | k + 1 => stepG es S wt (grdG es S wt k)
theorem grd_len (es : List Pr) (S : List PP) (wt : Option Pr) : ∀ k, (grdG es S wt k).length ≤ k
  | 0 => Nat.le_refl _
  | k + 1 => by
    have := grd_len es S wt k
    show (stepG es S wt _).length ≤ k + 1
    unfold stepG
    split
    · omega
    · rw [List.length_append]
      show _ + 1 ≤ _
      omega
theorem grd_stops {S : List PP} {es os : List Pr} (ok : PairsOk S es os) (nes : es.Nodup) {w : Pr} : ∀ k, (∀ e ∈ grdG es S (some w) k, e ∈ es ∧ ¬ Rch S w e) ∧ (grdG es S (some w) k).Nodup ∧ ((grdG es S (some w) k).length = k ∨ ∀ e ∈ es, ¬ Rch S w e → e ∈ grdG es S (some w) k)
  | 0 => ⟨fun e h => (by cases h), List.nodup_nil, .inl rfl⟩
  | k + 1 => by
    obtain ⟨h1, h2, h3⟩ := grd_stops ok nes (w := w) k
    show (∀ e ∈ stepG es S (some w) (grdG es S (some w) k), _) ∧ (stepG es S (some w) (grdG es S (some w) k)).Nodup ∧ ((stepG es S (some w) (grdG es S (some w) k)).length = k + 1 ∨ ∀ e ∈ es, ¬ Rch S w e → e ∈ stepG es S (some w) (grdG es S (some w) k))
    generalize grdG es S (some w) k = found at h1 h2 h3
    cases hr : es.filter (readyG S (some w) found) with
    | nil =>
      have se : stepG es S (some w) found = found := by unfold stepG; rw [hr]
      rw [se]
      refine ⟨h1, h2, .inr ?_⟩
      have key : ∀ m, ∀ e ∈ es, os.idxOf e ≤ m → ¬ Rch S w e → e ∈ found := by
        intro m
        induction m with
        | zero =>
          intro e he hi hn
          refine Decidable.byContradiction fun ne => ?_
          have : e ∈ es.filter (readyG S (some w) found) := List.mem_filter.mpr ⟨he, readyG_iff.mpr ⟨ne, fun x hx => ?_, fun z => hn (by cases z; exact .refl _)⟩⟩
          · rw [hr] at this
            cases this
          · have := (ok.inn _ hx).2.2
            have this' : os.idxOf x < os.idxOf e := this
            omega
        | succ m ih =>
          intro e he hi hn
          refine Decidable.byContradiction fun ne => ?_
          have : e ∈ es.filter (readyG S (some w) found) := List.mem_filter.mpr ⟨he, readyG_iff.mpr ⟨ne, fun x hx => ?_, fun z => hn (by cases z; exact .refl _)⟩⟩
          · rw [hr] at this
            cases this
          · have := (ok.inn _ hx).2.2
            have this' : os.idxOf x < os.idxOf e := this
            exact ih x (ok.inn _ hx).1 (by omega) fun r => hn (r.snoc hx)
      exact fun e he hn => key _ e he (Nat.le_refl _) hn
    | cons e rest =>
      have se : stepG es S (some w) found = found ++ [e] := by unfold stepG; rw [hr]
      rw [se]
      have he : e ∈ es.filter (readyG S (some w) found) := by rw [hr]; exact List.mem_cons_self
      obtain ⟨e1, e2⟩ := List.mem_filter.mp he
      obtain ⟨r1, r2, r3⟩ := readyG_iff.mp e2
      have nr : ¬ Rch S w e := fun r => by
        rcases r.last with z | ⟨g, g1, g2⟩
        · exact r3 (by rw [z])
        · exact (h1 g (r2 g g2)).2 g1
      refine ⟨fun f hf => ?_, List.nodup_append.mpr ⟨h2, List.pairwise_singleton _ _, fun a ha b hb z => ?_⟩, ?_⟩
      · rcases List.mem_append.mp hf with hf | hf
        · exact h1 f hf
        · rw [List.mem_singleton.mp hf]
          exact ⟨e1, nr⟩
      · rw [z, List.mem_singleton.mp hb] at ha
        exact r1 ha
      · rcases h3 with h3 | h3
        · left
          rw [List.length_append, h3]
          rfl
        · exact .inr fun f hf hn => List.mem_append_left _ (h3 f hf hn)
theorem grd_none {S : List PP} {es os : List Pr} (ok : PairsOk S es os) (nes : es.Nodup) {w : Pr} {e : Pr} (he : e ∈ es) : e ∈ grdG es S (some w) es.length ↔ ¬ Rch S w e := by
  obtain ⟨h1, h2, h3⟩ := grd_stops ok nes (w := w) es.length
  refine ⟨fun h => (h1 e h).2, fun hn => ?_⟩
  rcases h3 with h3 | h3
  · exact nodup_full h2 (fun x hx => (h1 x hx).1) (Nat.le_of_eq h3.symm) he
  · exact h3 e he hn
section
variable {n : Nat} {es os : List Pr} (E : Edges n es) (pm : os.Perm es)
include E pm
/-- what is ready is first at both ends -/
theorem ready_heads {done ws : List Pr} {r : Nat → List Nat} (g : Greedy es (fun p => turnOf p os) done ws r) {e : Pr} (he : e ∈ es) :
    readyG (ordPP (folN n fun p => turnOf p os)) none done e = true ↔ e ∈ ws ∧ (r e.1).head? = some e.2 ∧ (r e.2).head? = some e.1 := by
  have nd : (done ++ ws).Nodup := g.pm.nodup_iff.mpr E.nodup
  have dis := (List.nodup_append.mp nd).2.2
  have el := E.inn e he
  obtain ⟨oz, oz1, oz2⟩ := g.ex
  have inR : ∀ {p u : Nat}, u ∈ r p → eb p u ∈ ws := fun {p u} hu => by
    have hu' : u ∈ turnOf p oz := by rw [oz2]; exact hu
    obtain ⟨f, hf, t⟩ := mem_turn hu'
    have t' : Tch f p u := by
      rcases t with ⟨h1, h2⟩ | ⟨h1, h2⟩
      · exact .inl ⟨h1, h2⟩
      · exact .inr ⟨h2, h1⟩
    have fw := oz1.mem_iff.mp hf
    rw [eb_touch t' (E.inn f (g.inn fw)).1]
    exact fw
  have inD : ∀ {p u : Nat}, u ∈ turnOf p done → eb p u ∈ done := fun {p u} hu => by
    obtain ⟨f, hf, t⟩ := mem_turn hu
    have t' : Tch f p u := by
      rcases t with ⟨h1, h2⟩ | ⟨h1, h2⟩
      · exact .inl ⟨h1, h2⟩
      · exact .inr ⟨h2, h1⟩
    rw [eb_touch t' (E.inn f (g.pm.mem_iff.mp (List.mem_append_left _ hf))).1]
    exact hf
  rw [readyG_iff]
  constructor
  · rintro ⟨h1, h2, _⟩
    have ew : e ∈ ws := (List.mem_append.mp (g.pm.mem_iff.mpr he)).resolve_left h1
    have one : ∀ {p q : Nat}, Tch e p q → p < n → (r p).head? = some q := fun {p q} t hp => by
      have qr : q ∈ r p := by
        rw [← oz2]
        refine turn_mem (oz1.mem_iff.mpr ew) (by omega) ?_
        rcases t with ⟨a, b⟩ | ⟨a, b⟩
        · exact .inl ⟨a, b⟩
        · exact .inr ⟨b, a⟩
      cases hrp : r p with
      | nil => rw [hrp] at qr; cases qr
      | cons c rest =>
        by_cases cq : c = q
        · rw [cq]
          rfl
        · exfalso
          rw [hrp] at qr
          have qrest : q ∈ rest := (List.mem_cons.mp qr).resolve_left fun z => cq z.symm
          obtain ⟨U, V, rfl⟩ := List.append_of_mem qrest
          rcases snoc_cases (c :: U) with hz | ⟨T, u, hz⟩
          · cases hz
          · have ur : u ∈ r p := by
              rw [hrp, show c :: (U ++ q :: V) = (c :: U) ++ q :: V from rfl, hz]
              simp
            have tp := g.tn p
            rw [hrp, show c :: (U ++ q :: V) = (c :: U) ++ q :: V from rfl, hz] at tp
            have m : (eb p u, eb p q) ∈ folN n fun p => turnOf p os := mem_folN.mpr ⟨p, hp, turnOf p done ++ T, u, q, V, by rw [← tp]; simp, rfl⟩
            rw [eb_touch t el.1] at m
            exact dis _ (h2 _ (ord_mem.mpr m)) _ (inR ur) rfl
    exact ⟨ew, one (.inl ⟨rfl, rfl⟩) (by omega), one (.inr ⟨rfl, rfl⟩) el.2⟩
  · rintro ⟨ew, k1, k2⟩
    refine ⟨fun z => dis e z e ew rfl, fun x hx => ?_, fun z => by cases z⟩
    obtain ⟨p, hp, T1, a, b, T2, ht, q⟩ := mem_folN.mp (ord_mem.mp hx)
    have ht' : turnOf p os = T1 ++ a :: b :: T2 := ht
    have q1 : x = eb p a := congrArg Prod.fst q
    have q2 : e = eb p b := congrArg Prod.snd q
    have pb := turn_ne E pm (show b ∈ turnOf p os by rw [ht']; simp)
    have t := eb_tch pb
    rw [← q2] at t
    have hd : (r p).head? = some b := by
      rcases t with ⟨z1, z2⟩ | ⟨z1, z2⟩
      · rw [← z1, ← z2]
        exact k1
      · rw [← z1, ← z2]
        exact k2
    have tp := g.tn p
    have tp' : turnOf p done ++ r p = turnOf p os := tp
    cases hrp : r p with
    | nil => rw [hrp] at hd; cases hd
    | cons c rest =>
      rw [hrp] at hd tp'
      have cb : c = b := Option.some.inj hd
      subst cb
      have n1 := turn_nodup E pm p
      have e1 : turnOf p done ++ c :: rest = (T1 ++ [a]) ++ c :: T2 := by
        rw [tp', ht', List.append_assoc]
        rfl
      rw [← tp'] at n1
      have e2 := split_front n1 e1
      rw [q1]
      exact inD (by rw [e2]; simp)
theorem grd_least_at : ∀ k, k ≤ es.length → ∃ ws r, Greedy es (fun p => turnOf p os) (grdG es (ordPP (folN n fun p => turnOf p os)) none k) ws r ∧ Led es (fun p => turnOf p os) (grdG es (ordPP (folN n fun p => turnOf p os)) none k) ∧ (grdG es (ordPP (folN n fun p => turnOf p os)) none k).length = k
  | 0, _ => ⟨es, _, Greedy.start E (fun p => turn_perm pm p), Led.start, rfl⟩
  | k + 1, hk => by
    obtain ⟨ws, r, g, l, len⟩ := grd_least_at k (by omega)
    show ∃ ws r, Greedy es _ (stepG es _ none _) ws r ∧ Led es _ (stepG es _ none _) ∧ (stepG es _ none _).length = k + 1
    generalize grdG es (ordPP (folN n fun p => turnOf p os)) none k = done at g l len
    have wne : ws ≠ [] := fun z => by
      have := g.pm.length_eq
      rw [z, List.append_nil, len] at this
      omega
    obtain ⟨e0, he0, a1, a2⟩ := g.some E wne
    cases hr : es.filter (readyG (ordPP (folN n fun p => turnOf p os)) none done) with
    | nil =>
      have : e0 ∈ es.filter (readyG (ordPP (folN n fun p => turnOf p os)) none done) := List.mem_filter.mpr ⟨g.inn he0, (ready_heads E pm g (g.inn he0)).mpr ⟨he0, a1, a2⟩⟩
      rw [hr] at this
      cases this
    | cons e rest =>
      have se : stepG es (ordPP (folN n fun p => turnOf p os)) none done = done ++ [e] := by unfold stepG; rw [hr]
      rw [se]
      have he : e ∈ es.filter (readyG (ordPP (folN n fun p => turnOf p os)) none done) := by rw [hr]; exact List.mem_cons_self
      obtain ⟨e1, e2⟩ := List.mem_filter.mp he
      obtain ⟨ew, b1, b2⟩ := (ready_heads E pm g e1).mp e2
      obtain ⟨A, hA⟩ : ∃ A, r e.1 = e.2 :: A := by
        cases h : r e.1 with
        | nil => rw [h] at b1; cases b1
        | cons c A => rw [h] at b1; exact ⟨A, by rw [Option.some.inj b1]⟩
      obtain ⟨B, hB⟩ : ∃ B, r e.2 = e.1 :: B := by
        cases h : r e.2 with
        | nil => rw [h] at b2; cases b2
        | cons c A => rw [h] at b2; exact ⟨A, by rw [Option.some.inj b2]⟩
      refine ⟨ws.erase e, _, g.step E hA hB (List.perm_cons_erase ew).symm, l.step E g ew fun f hf f1 f2 => ?_, by rw [List.length_append, len]; rfl⟩
      have hff : f ∈ es.filter (readyG (ordPP (folN n fun p => turnOf p os)) none done) := List.mem_filter.mpr ⟨g.inn hf, (ready_heads E pm g (g.inn hf)).mpr ⟨hf, f1, f2⟩⟩
      have asc := E.asc.sublist (List.filter_sublist (p := readyG (ordPP (folN n fun p => turnOf p os)) none done))
      rw [hr] at hff asc
      rcases List.mem_cons.mp hff with rfl | hff
      · exact ltP_irr f
      · exact ltP_asym ((List.pairwise_cons.mp asc).1 f hff)
theorem grd_least : LeastO es (fun p => turnOf p os) (grdG es (ordPP (folN n fun p => turnOf p os)) none es.length) := by
  obtain ⟨ws, r, g, l, len⟩ := grd_least_at E pm es.length (Nat.le_refl _)
  have wz : ws = [] := by
    have := g.pm.length_eq
    rw [List.length_append, len] at this
    exact List.length_eq_zero_iff.mp (by omega)
  subst wz
  exact l.fin g.fin.1 g.fin.2
end
end Os
/-! an order without one of its swaps -/
namespace Os
open PySem PySem.Spec PyProof.Rows
def wo (e : Pr) (os : List Pr) : List Pr := os.filter fun f => decide (f ≠ e)
theorem wo_mem {e f : Pr} {os : List Pr} : f ∈ wo e os ↔ f ∈ os ∧ f ≠ e := by
  unfold wo
  rw [List.mem_filter, decide_eq_true_iff]
theorem wo_perm {e : Pr} {os es : List Pr} (h : os.Perm es) : (wo e os).Perm (wo e es) := h.filter _
theorem wo_edges {n : Nat} {es : List Pr} (E : Edges n es) (e : Pr) : Edges n (wo e es) := by
  have sub : (wo e es).Sublist es := List.filter_sublist
  exact ⟨fun f hf => E.inn f (sub.subset hf), E.asc.sublist sub, Bridges.sub E.br fun f hf => sub.subset hf⟩
theorem wo_comm (e f : Pr) (os : List Pr) : wo e (wo f os) = wo f (wo e os) := by
  unfold wo
  rw [List.filter_filter, List.filter_filter]
  exact List.filter_congr fun x _ => Bool.and_comm _ _
theorem wo_app (e : Pr) (A B : List Pr) : wo e (A ++ B) = wo e A ++ wo e B := List.filter_append _ _
theorem wo_cons_ne {e f : Pr} (h : f ≠ e) (A : List Pr) : wo e (f :: A) = f :: wo e A := by
  unfold wo
  rw [List.filter_cons, if_pos (decide_eq_true h)]
theorem wo_cons_eq (e : Pr) (A : List Pr) : wo e (e :: A) = wo e A := by
  unfold wo
  rw [List.filter_cons, if_neg (by rw [decide_eq_false (fun h => h rfl)]; decide)]
theorem turn_filter {e : Pr} (p : Nat) : ∀ {os : List Pr}, (∀ f ∈ os, f.1 < f.2) → turnOf p (wo e os) = (turnOf p os).filter fun q => decide (eb p q ≠ e)
  | [], _ => rfl
  | f :: os, h => by
    have ih := turn_filter p (e := e) (os := os) fun g hg => h g (List.mem_cons_of_mem _ hg)
    have lf := h f List.mem_cons_self
    by_cases fe : f = e
    · subst fe
      rw [wo_cons_eq, turn_cons, List.filter_append, ih]
      have z : (if f.1 = p then [f.2] else if f.2 = p then [f.1] else []).filter (fun q => decide (eb p q ≠ f)) = [] := by
        by_cases h1 : f.1 = p
        · rw [if_pos h1, List.filter_cons, if_neg (by rw [eb_touch (.inl ⟨h1, rfl⟩) lf, decide_eq_false (fun h => h rfl)]; decide)]
          rfl
        · rw [if_neg h1]
          by_cases h2 : f.2 = p
          · rw [if_pos h2, List.filter_cons, if_neg (by rw [eb_touch (.inr ⟨h2, rfl⟩) lf, decide_eq_false (fun h => h rfl)]; decide)]
            rfl
          · rw [if_neg h2]
            rfl
      rw [z, List.nil_append]
    · rw [wo_cons_ne fe, turn_cons, turn_cons, List.filter_append, ih]
      refine congrArg (· ++ _) ?_
      by_cases h1 : f.1 = p
      · rw [if_pos h1, List.filter_cons, if_pos (by rw [eb_touch (.inl ⟨h1, rfl⟩) lf]; exact decide_eq_true fe)]
        rfl
      · rw [if_neg h1]
        by_cases h2 : f.2 = p
        · rw [if_pos h2, List.filter_cons, if_pos (by rw [eb_touch (.inr ⟨h2, rfl⟩) lf]; exact decide_eq_true fe)]
          rfl
        · rw [if_neg h2]
          rfl
section
variable {n : Nat} {es os : List Pr} (E : Edges n es) (pm : os.Perm es)
include E pm
theorem os_lt : ∀ f ∈ os, f.1 < f.2 := fun f hf => (E.inn f (pm.mem_iff.mp hf)).1
/-- what follows nothing may come last -/
theorem last_moves {zs : List Str} {e : Pr} (hl : zs.length = n) (nd : zs.Nodup) (he : e ∈ es) (no : ∀ f, (e, f) ∉ folN n fun p => turnOf p os) : swps zs (wo e os ++ [e]) = swps zs os := by
  have cut := cut_at (pm.mem_iff.mpr he)
  have nos : os.Nodup := pm.nodup_iff.mpr E.nodup
  have le := E.inn e he
  have fc : wo e os = os.take (os.idxOf e) ++ os.drop (os.idxOf e + 1) := by
    have h0 := nos
    rw [cut] at h0
    have := filter_cut h0
    rw [← cut] at this
    exact this
  generalize os.take (os.idxOf e) = A at *
  generalize os.drop (os.idxOf e + 1) = B at *
  have pm' : (wo e os ++ [e]).Perm es := by
    refine List.Perm.trans ?_ pm
    rw [fc, cut, List.append_assoc]
    exact List.Perm.append_left A (List.perm_append_comm (l₁ := B) (l₂ := [e]))
  refine (same_outcome E pm' pm hl nd).mpr fun p => ?_
  rw [fc, cut, turn_append, turn_append, turn_append, List.append_assoc]
  refine congrArg (turnOf p A ++ ·) ?_
  by_cases tp : e.1 = p ∨ e.2 = p
  · obtain ⟨q, t⟩ : ∃ q, Tch e p q := by
      rcases tp with h | h
      · exact ⟨_, .inl ⟨h, rfl⟩⟩
      · exact ⟨_, .inr ⟨h, rfl⟩⟩
    have pn : p < n := by rcases t with ⟨a, b⟩ | ⟨a, b⟩ <;> omega
    have ne : e.1 ≠ e.2 := by omega
    rw [t.turn ne, t.turn ne]
    cases hB : turnOf p B with
    | nil => rfl
    | cons b rest =>
      exfalso
      refine no (eb p b) (mem_folN.mpr ⟨p, pn, turnOf p A, q, b, rest, ?_, by rw [eb_touch t le.1]⟩)
      show turnOf p os = _
      rw [cut, turn_append, t.turn ne, hB]
  · have z : ∀ X : List Pr, turnOf p (e :: X) = turnOf p X := fun X => by
      rw [turn_cons, if_neg fun h => tp (.inl h), if_neg fun h => tp (.inr h), List.nil_append]
    rw [z, z]
    show turnOf p B ++ [] = _
    rw [List.append_nil]
/-- what nothing comes before may come first -/
theorem first_moves {zs : List Str} {e : Pr} (hl : zs.length = n) (nd : zs.Nodup) (he : e ∈ es) (no : ∀ f, (f, e) ∉ folN n fun p => turnOf p os) : swps (swp zs e) (wo e os) = swps zs os := by
  have cut := cut_at (pm.mem_iff.mpr he)
  have nos : os.Nodup := pm.nodup_iff.mpr E.nodup
  have le := E.inn e he
  have fc : wo e os = os.take (os.idxOf e) ++ os.drop (os.idxOf e + 1) := by
    have h0 := nos
    rw [cut] at h0
    have := filter_cut h0
    rw [← cut] at this
    exact this
  generalize os.take (os.idxOf e) = A at *
  generalize os.drop (os.idxOf e + 1) = B at *
  have pm' : (e :: wo e os).Perm es := by
    refine List.Perm.trans ?_ pm
    rw [fc, cut]
    exact List.perm_middle.symm
  refine (same_outcome (os := e :: wo e os) E pm' pm hl nd).mpr fun p => ?_
  by_cases tp : e.1 = p ∨ e.2 = p
  · obtain ⟨q, t⟩ : ∃ q, Tch e p q := by
      rcases tp with h | h
      · exact ⟨_, .inl ⟨h, rfl⟩⟩
      · exact ⟨_, .inr ⟨h, rfl⟩⟩
    have pn : p < n := by rcases t with ⟨a, b⟩ | ⟨a, b⟩ <;> omega
    have ne : e.1 ≠ e.2 := by omega
    rw [t.turn ne, fc, cut, turn_append, turn_append, t.turn ne]
    rcases snoc_cases (turnOf p A) with hA | ⟨T, r, hA⟩
    · rw [hA]
      rfl
    · exfalso
      refine no (eb p r) (mem_folN.mpr ⟨p, pn, T, r, q, turnOf p B, ?_, by rw [eb_touch t le.1]⟩)
      show turnOf p os = _
      rw [cut, turn_append, t.turn ne, hA, List.append_assoc]
      rfl
  · have z : ∀ X : List Pr, turnOf p (e :: X) = turnOf p X := fun X => by
      rw [turn_cons, if_neg fun h => tp (.inl h), if_neg fun h => tp (.inr h), List.nil_append]
    rw [z, fc, cut, turn_append, turn_append, z]
theorem src_wo {e : Pr} : ∀ m, ∀ (A : List Pr) (f : Pr) (B : List Pr) (p q : Nat), A.length ≤ m → os = A ++ f :: B → Tch f p q → ¬ Rch (folN n fun p => turnOf p os) e f → src A p = src (wo e A) p := by
  intro m
  induction m with
  | zero =>
    intro A f B p q hm h1 t hn
    have hA : A = [] := List.eq_nil_of_length_eq_zero (by omega)
    subst hA
    rfl
  | succ m ih =>
    intro A f B p q hm h1 t hn
    have lt := os_lt E pm
    have ltA : ∀ g ∈ A, g.1 < g.2 := fun g hg => lt g (by rw [h1]; exact List.mem_append_left _ hg)
    have lf := lt f (by rw [h1]; simp)
    rcases snoc_cases (turnOf p A) with hz | ⟨T, r, hz⟩
    · rw [src_idle hz, src_idle (A := wo e A) (p := p) (by rw [turn_filter p ltA, hz]; rfl)]
    · obtain ⟨A1, g, A2, rfl, tg, i2⟩ := last_touch hz
      have lg := ltA g (by simp)
      have pn : p < n := by
        have := E.inn f (pm.mem_iff.mp (by rw [h1]; simp))
        rcases t with ⟨a, b⟩ | ⟨a, b⟩ <;> omega
      have kg : (g, f) ∈ folN n fun p => turnOf p os := mem_folN.mpr ⟨p, pn, T, r, q, turnOf p B, by
        show turnOf p os = _
        rw [h1, turn_append, hz, t.turn (by omega), List.append_assoc]
        rfl, by rw [eb_touch tg lg, eb_touch t lf]⟩
      have ng : ¬ Rch (folN n fun p => turnOf p os) e g := fun z => hn (z.snoc kg)
      have ge : g ≠ e := fun z => ng (by rw [z]; exact .refl _)
      have one : ∀ (U V : List Pr), turnOf p V = [] → src (U ++ g :: V) p = src U r := fun U V hV => by
        rw [src_app]
        show src U (sw g (src V p)) = src U r
        rw [src_idle hV, tg.sw]
      have i2' : turnOf p (wo e A2) = [] := by
        rw [turn_filter p fun x hx => ltA x (by simp [hx]), i2]
        rfl
      rw [one A1 A2 i2, wo_app, wo_cons_ne ge, one (wo e A1) (wo e A2) i2']
      rw [List.length_append, List.length_cons] at hm
      exact ih A1 g (A2 ++ f :: B) r p (by omega) (by rw [h1, List.append_assoc]; rfl) tg.symm ng
theorem met_wo {zs : List Str} {e f : Pr} (hl : zs.length = n) (hf : f ∈ es) (hn : ¬ Rch (folN n fun p => turnOf p os) e f) : metA zs (wo e os) f = metA zs os f ∧ metB zs (wo e os) f = metB zs os f := by
  have fe : f ≠ e := fun z => hn (by rw [z]; exact .refl _)
  have h1 := cut_at (pm.mem_iff.mpr hf)
  have nos : os.Nodup := pm.nodup_iff.mpr E.nodup
  have hf' : f ∈ wo e os := wo_mem.mpr ⟨pm.mem_iff.mpr hf, fe⟩
  have h2 := cut_at hf'
  have nw : (wo e os).Nodup := nos.sublist List.filter_sublist
  have h3 : wo e os = wo e (os.take (os.idxOf f)) ++ f :: wo e (os.drop (os.idxOf f + 1)) := by
    conv => lhs; rw [h1]
    rw [wo_app, wo_cons_ne fe]
  have same : (wo e os).take ((wo e os).idxOf f) = wo e (os.take (os.idxOf f)) := by
    have n2 := nw
    rw [h2] at n2
    exact split_front n2 (h2.symm.trans h3)
  obtain ⟨ei, en⟩ := E.inn f hf
  have inn : ∀ g ∈ os.take (os.idxOf f), g.1 < g.2 ∧ g.2 < n := fun g hg => E.inn g (pm.mem_iff.mp (List.mem_of_mem_take hg))
  have inn2 : ∀ g ∈ wo e (os.take (os.idxOf f)), g.1 < g.2 ∧ g.2 < n := fun g hg => inn g (wo_mem.mp hg).1
  unfold metA metB
  rw [same]
  have one : ∀ {p q : Nat}, Tch f p q → p < n → (swps zs (wo e (os.take (os.idxOf f)))).getD p ⟨#[]⟩ = (swps zs (os.take (os.idxOf f))).getD p ⟨#[]⟩ := fun t hp => by
    rw [List.getD_eq_getElem?_getD, List.getD_eq_getElem?_getD, swps_src hl inn2 hp, swps_src hl inn hp, src_wo E pm _ _ f _ _ _ (Nat.le_refl _) h1 t hn]
  exact ⟨one (.inl ⟨rfl, rfl⟩) (by omega), one (.inr ⟨rfl, rfl⟩) en⟩
/-! ### one more ring -/
theorem lead_iff {zs : List Str} (hl : zs.length = n) (nd : zs.Nodup) {x : Nat} (hx : x < n) : lead (went zs (swps zs os)) n x = true ↔ ∀ y, Conn es x y → x ≤ y := by
  obtain ⟨l, r, er⟩ := ring_is E pm hl nd hx
  unfold lead
  rw [decide_eq_true_iff, er]
  exact ⟨fun h y hy => h y ((r.all y).mpr ((conn_perm pm).mpr hy)), fun h y hy => h y ((conn_perm pm).mp ((r.all y).mp hy))⟩
end
theorem filter_one {p p' : Nat → Bool} {m : Nat} : ∀ {l : List Nat}, l.Nodup → m ∈ l → p m = false → (∀ x ∈ l, p' x = (p x || decide (x = m))) → (l.filter p').length = (l.filter p).length + 1
  | [], _, h, _, _ => (by cases h)
  | x :: l, nd, h, hp, k => by
    obtain ⟨n1, n2⟩ := List.nodup_cons.mp nd
    have kx := k x List.mem_cons_self
    by_cases xm : x = m
    · subst xm
      rw [hp, decide_eq_true rfl, Bool.or_true] at kx
      rw [List.filter_cons, if_pos kx, List.filter_cons, if_neg (by rw [hp]; decide), List.length_cons]
      refine congrArg (· + 1) (congrArg List.length (List.filter_congr fun y hy => ?_))
      rw [k y (List.mem_cons_of_mem _ hy), decide_eq_false (fun z => n1 (by rw [← z]; exact hy)), Bool.or_false]
    · have hm := (List.mem_cons.mp h).resolve_left fun z => xm z.symm
      have ih := filter_one n2 hm hp fun y hy => k y (List.mem_cons_of_mem _ hy)
      rw [decide_eq_false xm, Bool.or_false] at kx
      rw [List.filter_cons, List.filter_cons, kx]
      cases p x with
      | true =>
        rw [if_pos rfl, if_pos rfl, List.length_cons, List.length_cons, ih]
      | false => exact ih
theorem has_least (R : Nat → Prop) : ∀ k x : Nat, x ≤ k → R x → ∃ m, R m ∧ ∀ y, R y → m ≤ y
  | 0, x, hx, h => ⟨x, h, fun y _ => by omega⟩
  | k + 1, x, hx, h => by
    by_cases c : ∃ y, R y ∧ y ≤ k
    · obtain ⟨y, hy, le⟩ := c
      exact has_least R k y le hy
    · exact ⟨x, h, fun y hy => by
        have : ¬ y ≤ k := fun z => c ⟨y, hy, z⟩
        omega⟩
theorem rings_one {n : Nat} {es os : List Pr} {zs : List Str} {e : Pr} (E : Edges n es) (pm : os.Perm es) (hl : zs.length = n) (nd : zs.Nodup) (he : e ∈ es) :
    (cycles (went zs (swps zs (wo e os))) n).length = (cycles (went zs (swps zs os)) n).length + 1 := by
  have E' := wo_edges E e
  have pm' := wo_perm (e := e) pm
  have le := E.inn e he
  have cut := cut_at he
  have nes := E.nodup
  have pe : (wo e es ++ [e]).Perm es := by
    have fc : wo e es = es.take (es.idxOf e) ++ es.drop (es.idxOf e + 1) := by
      have h0 := nes
      rw [cut] at h0
      have := filter_cut h0
      rw [← cut] at this
      exact this
    rw [fc, List.append_assoc]
    conv => rhs; rw [cut]
    exact List.Perm.append_left _ (List.perm_append_comm (l₁ := es.drop (es.idxOf e + 1)) (l₂ := [e]))
  have cadd : ∀ {x y : Nat}, Conn es x y ↔ Conn (wo e es) x y ∨ (Conn (wo e es) x e.1 ∧ Conn (wo e es) e.2 y) ∨ (Conn (wo e es) x e.2 ∧ Conn (wo e es) e.1 y) := fun {x y} => by
    rw [← conn_perm pe]
    exact conn_add
  have nc : ¬ Conn (wo e es) e.1 e.2 := fun h => by
    obtain ⟨S, hS, hS2⟩ := E.br e he
    exact hS (h S fun f hf => hS2 f (wo_mem.mp hf).1 (wo_mem.mp hf).2)
  obtain ⟨m1, c1, l1⟩ := has_least (fun y => Conn (wo e es) e.1 y) _ e.1 (Nat.le_refl _) (Conn.refl _ _)
  obtain ⟨m2, c2, l2⟩ := has_least (fun y => Conn (wo e es) e.2 y) _ e.2 (Nat.le_refl _) (Conn.refl _ _)
  have m12 : m1 ≠ m2 := fun z => nc (c1.trans (z ▸ c2.symm))
  have b1 : m1 < n := by have := l1 e.1 (Conn.refl _ _); omega
  have b2 : m2 < n := by have := l2 e.2 (Conn.refl _ _); omega
  have only : ∀ {a m x : Nat}, Conn (wo e es) a m → (∀ y, Conn (wo e es) a y → m ≤ y) → Conn (wo e es) x a → (∀ y, Conn (wo e es) x y → x ≤ y) → x = m := fun {a m x} ca la cx lx => by
    have h1 := lx m (cx.trans ca)
    have h2 := la x cx.symm
    omega
  unfold cycles
  rw [List.length_map, List.length_map]
  -- the greater of the two least ones is new
  have main : ∀ {a b ma mb : Nat}, Conn (wo e es) a ma → (∀ y, Conn (wo e es) a y → ma ≤ y) → Conn (wo e es) b mb → (∀ y, Conn (wo e es) b y → mb ≤ y) → ma < mb → mb < n → (∀ {x y : Nat}, Conn es x y ↔ Conn (wo e es) x y ∨ (Conn (wo e es) x a ∧ Conn (wo e es) b y) ∨ (Conn (wo e es) x b ∧ Conn (wo e es) a y)) →
      ((List.range n).filter (lead (went zs (swps zs (wo e os))) n)).length = ((List.range n).filter (lead (went zs (swps zs os)) n)).length + 1 := by
    intro a b ma mb ca la cb lb lt bn add
    refine filter_one List.nodup_range (m := mb) (List.mem_range.mpr bn) ?_ fun x hx => ?_
    · rw [← Bool.not_eq_true, lead_iff E pm hl nd bn]
      intro h
      have := h ma (add.mpr (.inr (.inr ⟨cb.symm, ca⟩)))
      omega
    · have xn := List.mem_range.mp hx
      rw [Bool.eq_iff_iff, Bool.or_eq_true, decide_eq_true_iff, lead_iff E' pm' hl nd xn, lead_iff E pm hl nd xn]
      constructor
      · intro h
        by_cases xm : x = mb
        · exact .inr xm
        · left
          intro y hy
          rcases add.mp hy with k | ⟨k1, k2⟩ | ⟨k1, k2⟩
          · exact h y k
          · have := only ca la k1 h
            have := lb y k2
            omega
          · exact absurd (only cb lb k1 h) xm
      · rintro (h | rfl)
        · exact fun y hy => h y (add.mpr (.inl hy))
        · exact fun y hy => lb y (cb.trans hy)
  rcases Nat.lt_or_gt_of_ne m12 with lt | lt
  · exact main c1 l1 c2 l2 lt b2 cadd
  · refine main c2 l2 c1 l1 lt b1 ?_
    intro x y
    rw [cadd]
    constructor
    · rintro (k | k | k)
      · exact .inl k
      · exact .inr (.inr k)
      · exact .inr (.inl k)
    · rintro (k | k | k)
      · exact .inl k
      · exact .inr (.inr k)
      · exact .inr (.inl k)
end Os
/-! all orders of one outcome: which swap always comes ahead of which -/
namespace Os
open PySem PySem.Spec PyProof.Rows
open PySem.W (dataLe)
theorem turn_filterP (P : Pr → Bool) (p : Nat) : ∀ {os : List Pr}, (∀ f ∈ os, f.1 < f.2) → turnOf p (os.filter P) = (turnOf p os).filter fun q => P (eb p q)
  | [], _ => rfl
  | f :: os, h => by
    have ih := turn_filterP P p (os := os) fun g hg => h g (List.mem_cons_of_mem _ hg)
    have lf := h f List.mem_cons_self
    have z : (if f.1 = p then [f.2] else if f.2 = p then [f.1] else []).filter (fun q => P (eb p q)) = if P f = true then (if f.1 = p then [f.2] else if f.2 = p then [f.1] else []) else [] := by
      by_cases h1 : f.1 = p
      · have e : eb p f.2 = f := eb_touch (.inl ⟨h1, rfl⟩) lf
        rw [if_pos h1, List.filter_cons, e]
        rfl
      · rw [if_neg h1]
        by_cases h2 : f.2 = p
        · have e : eb p f.1 = f := eb_touch (.inr ⟨h2, rfl⟩) lf
          rw [if_pos h2, List.filter_cons, e]
          rfl
        · rw [if_neg h2]
          split <;> rfl
    rw [turn_cons, List.filter_append, z, List.filter_cons]
    by_cases hP : P f = true
    · rw [if_pos hP, if_pos hP, turn_cons, ih]
    · rw [if_neg hP, if_neg hP, ih]
      rfl
theorem up_all {R : Nat → Bool} : ∀ {L : List Nat} {x : Nat}, (∀ A a b B, x :: L = A ++ a :: b :: B → R a = true → R b = true) → R x = true → ∀ z ∈ L, R z = true
  | [], _, _, _, z, hz => by cases hz
  | y :: L, x, h, hx, z, hz => by
    have hy := h [] x y L rfl hx
    rcases List.mem_cons.mp hz with rfl | hz
    · exact hy
    · exact up_all (L := L) (x := y) (fun A a b B e => h (x :: A) a b B (by rw [e]; rfl)) hy z hz
theorem up_split {R : Nat → Bool} : ∀ {L : List Nat}, (∀ A a b B, L = A ++ a :: b :: B → R a = true → R b = true) → (L.filter fun x => !R x) ++ L.filter R = L
  | [], _ => rfl
  | x :: L, h => by
    cases hx : R x with
    | false =>
      have ih := up_split (L := L) fun A a b B e => h (x :: A) a b B (by rw [e]; rfl)
      rw [List.filter_cons, if_pos (by rw [hx]; rfl), List.filter_cons, if_neg (by rw [hx]; decide), List.cons_append, ih]
    | true =>
      have al := up_all h hx
      have e1 : ((x :: L).filter fun x => !R x) = [] := List.filter_eq_nil_iff.mpr fun z hz => by
        rcases List.mem_cons.mp hz with rfl | hz
        · rw [hx]; decide
        · rw [al z hz]; decide
      have e2 : (x :: L).filter R = x :: L := List.filter_eq_self.mpr fun z hz => by
        rcases List.mem_cons.mp hz with rfl | hz
        · exact hx
        · exact al z hz
      rw [e1, e2]
      rfl
/-- what holds R comes last -/
def lateO (R : Pr → Bool) (os : List Pr) : List Pr := (os.filter fun g => !R g) ++ os.filter R
theorem late_perm (R : Pr → Bool) (os : List Pr) : (lateO R os).Perm os := List.perm_append_comm.trans (List.filter_append_perm R os)
theorem late_idx {R : Pr → Bool} {os : List Pr} {e f : Pr} (he : R e = true) (hf : R f = false) (mf : f ∈ os) : (lateO R os).idxOf f < (lateO R os).idxOf e := by
  have f1 : f ∈ os.filter fun g => !R g := List.mem_filter.mpr ⟨mf, by rw [hf]; rfl⟩
  have e1 : e ∉ os.filter fun g => !R g := fun h => by
    have := (List.mem_filter.mp h).2
    rw [he] at this
    cases this
  unfold lateO
  rw [List.idxOf_append, if_pos f1, List.idxOf_append, if_neg e1]
  have := List.idxOf_lt_length_of_mem f1
  omega
theorem bef_of {os : List Pr} {e f : Pr} (nd : os.Nodup) (he : e ∈ os) (hf : f ∈ os) (h : os.idxOf e < os.idxOf f) : Bef os e f := by
  obtain ⟨A, R, rfl⟩ := List.append_of_mem he
  rcases List.mem_append.mp hf with a | a
  · obtain ⟨A1, A2, rfl⟩ := List.append_of_mem a
    have b : Bef (A1 ++ f :: A2 ++ e :: R) f e := ⟨A1, A2, R, by rw [List.append_assoc]; rfl⟩
    have := b.idx nd
    omega
  · rcases List.mem_cons.mp a with rfl | a
    · omega
    · obtain ⟨B, C, rfl⟩ := List.append_of_mem a
      exact ⟨A, B, C, rfl⟩
section
variable {n : Nat} {es os : List Pr} (E : Edges n es) (pm : os.Perm es)
include E pm
theorem late_turn {R : Pr → Bool} (h : ∀ g k, (g, k) ∈ (folN n fun p => turnOf p os) → R g = true → R k = true) (p : Nat) : turnOf p (lateO R os) = turnOf p os := by
  have lt := os_lt E pm
  unfold lateO
  rw [turn_app, turn_filterP _ p lt, turn_filterP _ p lt]
  refine up_split (R := fun q => R (eb p q)) fun A a b B e ha => ?_
  have ha' : a ∈ turnOf p os := by rw [e]; exact List.mem_append_right _ List.mem_cons_self
  have pn := (turn_edge E ((turn_perm pm p).mem_iff.mp ha')).2.2.2
  exact h (eb p a) (eb p b) (mem_folN.mpr ⟨p, pn, A, a, b, B, e, rfl⟩) ha
/-- one comes ahead of the other in all orders of the outcome: there is a chain between them -/
theorem always_iff {e f : Pr} (he : e ∈ es) (hf : f ∈ es) (ne : e ≠ f) : (∀ o : List Pr, o.Perm es → (∀ p, turnOf p o = turnOf p os) → ¬ o.idxOf f < o.idxOf e) ↔ Rch (folN n fun p => turnOf p os) e f := by
  classical
  constructor
  · intro h
    refine Decidable.byContradiction fun nr => ?_
    refine h (lateO (fun g => decide (Rch (folN n fun p => turnOf p os) e g)) os) ((late_perm _ _).trans pm) (late_turn E pm fun g k m hg => ?_) (late_idx (decide_eq_true (.refl e)) (decide_eq_false nr) (pm.mem_iff.mpr hf))
    exact decide_eq_true ((of_decide_eq_true hg).snoc m)
  · intro r o po to lt
    have tf : (fun p => turnOf p o) = fun p => turnOf p os := funext to
    rw [← tf] at r
    have := rch_idx E po r
    omega
/-- two swaps that meet at p follow each other there, or another stands between them -/
theorem fol_iff {e f : Pr} {p a b : Nat} (ta : Tch e p a) (tb : Tch f p b) (ne : e ≠ f) (he : e ∈ es) (hf : f ∈ es) :
    (e, f) ∈ (folN n fun p => turnOf p os) ↔ os.idxOf e < os.idxOf f ∧ ∀ g ∈ es, ∀ c, Tch g p c → ¬ (os.idxOf e < os.idxOf g ∧ os.idxOf g < os.idxOf f) := by
  have nd : os.Nodup := pm.nodup_iff.mpr E.nodup
  have turn1 : ∀ {g : Pr} {c : Nat}, g ∈ es → Tch g p c → turnOf p [g] = [c] := fun {g c} hg t => by
    have lg := (E.inn g hg).1
    rw [turn_cons]
    rcases t with ⟨h1, h2⟩ | ⟨h1, h2⟩
    · rw [if_pos h1, h2]; rfl
    · rw [if_neg (by omega), if_pos h1, h2]; rfl
  have e1 : eb p a = e := eb_touch ta (E.inn e he).1
  have f1 : eb p b = f := eb_touch tb (E.inn f hf).1
  constructor
  · intro h
    refine ⟨(fol_is E pm h).2.2.1.idx nd, fun g hg c tc ⟨l1, l2⟩ => ?_⟩
    obtain ⟨p', pn', T1, x, y, T2, ht, he'⟩ := mem_folN.mp h
    obtain ⟨A, e', B, f', C, ho, te', tf'⟩ := turn_two ht
    have x1 : e' ∈ es := pm.mem_iff.mp (by rw [ho]; exact List.mem_append_right _ List.mem_cons_self)
    have y1 : f' ∈ es := pm.mem_iff.mp (by rw [ho]; exact List.mem_append_right _ (List.mem_cons_of_mem _ (List.mem_append_right _ List.mem_cons_self)))
    have ee : e' = e := by
      rw [← eb_touch te' (E.inn e' x1).1]
      exact (congrArg Prod.fst he').symm
    have ff : f' = f := by
      rw [← eb_touch tf' (E.inn f' y1).1]
      exact (congrArg Prod.snd he').symm
    subst ee
    subst ff
    -- the position is the same
    have pp : p' = p := by
      refine Decidable.byContradiction fun np => ne ?_
      have i1 := E.inn e' he
      have i2 := E.inn f' hf
      unfold Tch at ta tb te' tf'
      refine Prod.ext ?_ ?_ <;> omega
    subst pp
    have nT : (turnOf p' os).Nodup := turn_nodup E pm p'
    have eA : turnOf p' os = turnOf p' A ++ x :: (turnOf p' B ++ y :: turnOf p' C) := by
      rw [ho, turn_app, show e' :: (B ++ f' :: C) = [e'] ++ (B ++ ([f'] ++ C)) from rfl, turn_app, turn_app, turn_app, turn1 x1 te', turn1 y1 tf']
      rfl
    have h2 := split_one (A := T1) (A' := turnOf p' A) (y := x) (R := y :: T2) (R' := turnOf p' B ++ y :: turnOf p' C) (by rw [← ht]; exact nT) (by rw [← ht, eA])
    have nB : turnOf p' B = [] := by
      have nd2 : (turnOf p' B ++ y :: turnOf p' C).Nodup := by
        have : (turnOf p' A ++ x :: (turnOf p' B ++ y :: turnOf p' C)).Nodup := by rw [← eA]; exact nT
        exact (List.nodup_cons.mp (List.nodup_append.mp this).2.1).2
      have t2 : turnOf p' B ++ y :: turnOf p' C = y :: T2 := h2.symm
      cases hB : turnOf p' B with
      | nil => rfl
      | cons z zs =>
        rw [hB] at t2 nd2
        have z1 : z = y := (List.cons.inj t2).1
        rw [z1] at nd2
        exact absurd (List.mem_append_right zs List.mem_cons_self) (List.nodup_cons.mp nd2).1
    -- g lies between
    have hg' : g ∈ os := pm.mem_iff.mpr hg
    have gB : g ∈ B := by
      rw [ho] at hg'
      rcases List.mem_append.mp hg' with a | a
      · obtain ⟨A1, A2, rfl⟩ := List.append_of_mem a
        have b : Bef os g e' := ⟨A1, A2, B ++ f' :: C, by rw [ho, List.append_assoc]; rfl⟩
        have := b.idx nd
        omega
      · rcases List.mem_cons.mp a with rfl | a
        · omega
        · rcases List.mem_append.mp a with a | a
          · exact a
          · rcases List.mem_cons.mp a with rfl | a
            · omega
            · obtain ⟨C1, C2, rfl⟩ := List.append_of_mem a
              have b : Bef os f' g := ⟨A ++ e' :: B, C1, C2, by rw [ho, List.append_assoc]; rfl⟩
              have := b.idx nd
              omega
    obtain ⟨B1, B2, rfl⟩ := List.append_of_mem gB
    rw [turn_app, show g :: B2 = [g] ++ B2 from rfl, turn_app, turn1 hg tc] at nB
    have := congrArg List.length nB
    rw [List.length_append, List.length_append] at this
    simp at this
  · rintro ⟨l, no⟩
    obtain ⟨A, B, C, ho⟩ := bef_of nd (pm.mem_iff.mpr he) (pm.mem_iff.mpr hf) l
    have nB : turnOf p B = [] := by
      cases hB : turnOf p B with
      | nil => rfl
      | cons z zs =>
        obtain ⟨g, hg, hz⟩ := List.mem_filterMap.mp (show z ∈ turnOf p B by rw [hB]; exact List.mem_cons_self)
        have tg : Tch g p z := some_touch hz
        obtain ⟨B1, B2, rfl⟩ := List.append_of_mem hg
        have b1 : Bef os e g := ⟨A, B1, B2 ++ f :: C, by rw [ho]; simp⟩
        have b2 : Bef os g f := ⟨A ++ e :: B1, B2, C, by rw [ho]; simp⟩
        have hge : g ∈ es := pm.mem_iff.mp (by rw [ho]; simp)
        exact absurd ⟨b1.idx nd, b2.idx nd⟩ (no g hge z tg)
    have pn : p < n := by
      have i1 := E.inn e he
      unfold Tch at ta
      omega
    refine mem_folN.mpr ⟨p, pn, turnOf p A, a, b, turnOf p C, ?_, by rw [e1, f1]⟩
    rw [ho, turn_app, show e :: (B ++ f :: C) = [e] ++ (B ++ ([f] ++ C)) from rfl, turn_app, turn_app, turn_app, turn1 he ta, turn1 hf tb, nB]
    rfl
end
/-! ### one ascending list -/
theorem le_pp (p q : PP) (h1 : dataLe false ppD p q = true) (h2 : dataLe false ppD q p = true) : p = q := by
  have al : ∀ e f : Pr, PySem.W.alike (prD e) (prD f) = true := alike_pr
  have f1 : PySem.W.dataLt (ppD q) (ppD p) = false := by
    have : (!PySem.W.dataLt (ppD q) (ppD p)) = true := h1
    cases h : PySem.W.dataLt (ppD q) (ppD p) with
    | true => rw [h] at this; cases this
    | false => rfl
  have f2 : PySem.W.dataLt (ppD p) (ppD q) = false := by
    have : (!PySem.W.dataLt (ppD p) (ppD q)) = true := h2
    cases h : PySem.W.dataLt (ppD p) (ppD q) with
    | true => rw [h] at this; cases this
    | false => rfl
  have lt : ∀ {e f : Pr}, PySem.W.dataLt (prD e) (prD f) = false → PySem.W.dataLt (prD f) (prD e) = false → e = f := fun {e f} a b => by
    unfold prD at a b
    rw [PySem.W.dataLt_ii] at a b
    have a := of_decide_eq_false a
    have b := of_decide_eq_false b
    refine Prod.ext ?_ ?_ <;> omega
  unfold ppD at f1 f2
  rw [PySem.W.dataLt_pair (al _ _) (al _ _), eqv_prs, eqv_prs] at f1 f2
  obtain ⟨p1, p2⟩ := p
  obtain ⟨q1, q2⟩ := q
  dsimp only at f1 f2
  by_cases e1 : q1 = p1
  · subst e1
    rw [if_pos (decide_eq_true rfl)] at f1 f2
    by_cases e2 : q2 = p2
    · rw [e2]
    · rw [if_neg (by rw [decide_eq_false e2]; decide)] at f1
      rw [if_neg (by rw [decide_eq_false (Ne.symm e2)]; decide)] at f2
      exact absurd (lt f1 f2) e2
  · rw [if_neg (by rw [decide_eq_false e1]; decide)] at f1
    rw [if_neg (by rw [decide_eq_false (Ne.symm e1)]; decide)] at f2
    exact absurd (lt f1 f2) e1
theorem ord_asc (L : List PP) : (ordPP L).Pairwise fun p q => dataLe false ppD p q = true := PySem.W.sort_pairwise (PySem.W.sortLe_total _ false _) L
theorem ord_same {L M : List PP} (p : L.Perm M) : ordPP L = ordPP M :=
  List.Perm.eq_of_pairwise (fun a b _ _ x y => le_pp a b x y) (ord_asc L) (ord_asc M) ((ord_perm L).trans (p.trans (ord_perm M).symm))
/-- the pairs of a list that follow, one after the other -/
def pairsL (es : List Pr) (C : Pr → Pr → Bool) : List PP := es.flatMap fun e => (es.filter (C e)).map fun f => (e, f)
theorem mem_pairs {es : List Pr} {C : Pr → Pr → Bool} {q : PP} : q ∈ pairsL es C ↔ q.1 ∈ es ∧ q.2 ∈ es ∧ C q.1 q.2 = true := by
  unfold pairsL
  rw [List.mem_flatMap]
  constructor
  · rintro ⟨e, he, h⟩
    obtain ⟨f, hf, rfl⟩ := List.mem_map.mp h
    exact ⟨he, (List.mem_filter.mp hf).1, (List.mem_filter.mp hf).2⟩
  · rintro ⟨h1, h2, h3⟩
    exact ⟨q.1, h1, List.mem_map.mpr ⟨q.2, List.mem_filter.mpr ⟨h2, h3⟩, rfl⟩⟩
theorem pairs_nodup {es : List Pr} {C : Pr → Pr → Bool} (nd : es.Nodup) : (pairsL es C).Nodup := by
  have g : ∀ {l : List Pr}, l.Nodup → (l.flatMap fun e => (es.filter (C e)).map fun f => ((e, f) : PP)).Nodup := by
    intro l
    induction l with
    | nil => intro _; exact List.nodup_nil
    | cons e l ih =>
      intro h
      obtain ⟨h1, h2⟩ := List.nodup_cons.mp h
      rw [List.flatMap_cons]
      refine List.nodup_append.mpr ⟨?_, ih h2, fun x hx y hy z => ?_⟩
      · exact List.Pairwise.map _ (fun a b ab z => ab (congrArg Prod.snd z)) (nd.filter _)
      · subst z
        obtain ⟨f, _, rfl⟩ := List.mem_map.mp hx
        obtain ⟨e', he', h'⟩ := List.mem_flatMap.mp hy
        obtain ⟨f', _, hq⟩ := List.mem_map.mp h'
        have ee : e' = e := congrArg Prod.fst hq
        subst ee
        exact h1 he'
  exact g nd
end Os
/-! heaps but for some addresses -/
namespace Os
open PySem PySem.Spec PyProof.Rows L2 Evl
def hds (L : List Addr) (H : Hp) : Hp := fun b => if b ∈ L then none else H b
section
variable {L M : List Addr} {H H' : Hp} {a b s : Addr} {o : HO} {v : V} {d : PyData} {xs : List V} {ds : List PyData}
theorem hds_ne (h : b ∉ L) : hds L H b = H b := if_neg h
theorem hds_of (h : hds L H b = some o) : b ∉ L ∧ H b = some o := by
  unfold hds at h
  split at h
  · cases h
  · exact ⟨by assumption, h⟩
theorem hds_ex (e : Ex H H') : Ex (hds L H) (hds L H') := fun b o h => by
  obtain ⟨h1, h2⟩ := hds_of h
  rw [hds_ne h1]
  exact e _ _ h2
theorem hds_up : Ex (hds L H) H := fun b o h => (hds_of h).2
theorem hds_upd (h : a ∈ L) : hds L (upd H a o) = hds L H := by
  funext b
  unfold hds
  split
  · rfl
  · rename_i n
    exact upd_ne fun z => n (z ▸ h)
/-- what stands but for fewer places -/
theorem hds_sub (h : ∀ b ∈ M, b ∈ L) (e : Ex (hds M H) (hds M H')) : Ex (hds L H) (hds L H') := fun b o q => by
  obtain ⟨h1, h2⟩ := hds_of q
  rw [hds_ne h1]
  exact (hds_of (e b o (by rw [hds_ne fun z => h1 (h b z)]; exact h2))).2
theorem hds_new (h : H a = none) : Ex (hds L H) (hds L (upd H a o)) := hds_ex (Ex.new h)
theorem hds_drew {B : Nat} (d : Drew s B H H') (h : s ∈ L) : Ex (hds L H) (hds L H') := fun b o q => by
  obtain ⟨h1, h2⟩ := hds_of q
  rw [hds_ne h1]
  exact d.get (fun z => h1 (z ▸ h)) h2
theorem Dt.hex (h : Dt H v d) (e : Ex H H') : Dt H' v d := h.same (same_ex e)
theorem Dts.hex (h : Dts H xs ds) (e : Ex H H') : Dts H' xs ds := h.same (same_ex e)
theorem prs_hds {es : List Pr} (h : PrsV H xs es) (hl : ∀ b ∈ L, ∃ ys, H b = some (.lst ys)) : PrsV (hds L H) xs es := prs_map (fun v e hv => by
  obtain ⟨t, rfl, ht⟩ := hv
  refine ⟨t, rfl, ?_⟩
  rw [hds_ne fun z => ?_]
  · exact ht
  · obtain ⟨ys, hy⟩ := hl t z
    rw [hy] at ht
    cases ht) h
end
/-- all but the source and the list at a stands as it was -/
structure Drw2 (s a : Addr) (B : Nat) (H H' : Hp) : Prop where
  kept : Ex (hds [s, a] H) (hds [s, a] H')
  src : Src H' s B
section
variable {s a : Addr} {B C : Nat} {H H1 H2 : Hp}
theorem Drw2.refl (h : Src H s B) : Drw2 s a B H H := ⟨Ex.refl _, h⟩
theorem Drw2.trans (x : Drw2 s a B H H1) (y : Drw2 s a C H1 H2) : Drw2 s a C H H2 := ⟨x.kept.trans y.kept, y.src⟩
theorem Drw2.ex (x : Drw2 s a B H H1) (e : Ex H1 H2) : Drw2 s a B H H2 := ⟨x.kept.trans (hds_ex e), x.src.ex e⟩
theorem Drw2.mono (x : Drw2 s a B H H1) (le : B ≤ C) : Drw2 s a C H H1 := ⟨x.kept, x.src.mono le⟩
theorem Drew.two (x : Drew s B H H1) : Drw2 s a B H H1 := ⟨hds_drew x (by simp), x.src⟩
theorem Drw2.get (x : Drw2 s a B H H1) {b : Addr} {o : HO} (n1 : b ≠ s) (n2 : b ≠ a) (h : H b = some o) : H1 b = some o :=
  (hds_of (x.kept b o (by rw [hds_ne (by simp [n1, n2])]; exact h))).2
/-- the list itself changes -/
theorem Drw2.row (x : Drw2 s a B H H1) {o : HO} (n : a ≠ s) : Drw2 s a B H (upd H1 a o) := by
  refine ⟨by rw [hds_upd (by simp)]; exact x.kept, ?_⟩
  obtain ⟨p, q, r, h1, h2⟩ := x.src
  exact ⟨p, q, r, by rw [upd_ne n.symm]; exact h1, h2⟩
/-- an object that H does not know changes -/
theorem Drw2.mut (x : Drw2 s a B H H1) {p : Addr} {o : HO} (hs : ∃ u, H s = some u) (h : H p = none) : Drw2 s a B H (upd H1 p o) := by
  obtain ⟨u, hu⟩ := hs
  have np : s ≠ p := ne_of_none hu h
  refine ⟨fun b v q => ?_, ?_⟩
  · obtain ⟨q1, q2⟩ := hds_of q
    rw [hds_ne q1, upd_ne (ne_of_none q2 h)]
    exact (hds_of (x.kept b v q)).2
  · obtain ⟨y, z, w, h1, h2⟩ := x.src
    exact ⟨y, z, w, by rw [upd_ne np]; exact h1, h2⟩
/-- of a list that H does not know -/
theorem Drw2.off (y : Drw2 s a C H1 H2) {B : Nat} (x : Drew s B H H1) (h : H a = none) : Drew s C H H2 := by
  refine ⟨fun b o q => ?_, y.src⟩
  obtain ⟨q1, q2⟩ := hide_of q
  rw [hide_ne q1]
  exact y.get q1 (ne_of_none q2 h) (x.get q1 q2)
end
end Os
namespace Os
open PySem PySem.Spec PyProof.Rows L2 Evl
section
variable {G : Hp}
theorem Dts.app : ∀ {xs ys : List V} {ds es : List PyData}, Dts G xs ds → Dts G ys es → Dts G (xs ++ ys) (ds ++ es)
  | _, _, _, _, .nil, h => h
  | _, _, _, _, .cons h t, h2 => .cons h (Dts.app t h2)
theorem Dts.tk : ∀ {ds : List PyData} {xs : List V} (i : Nat), Dts G xs ds → Dts G (xs.take i) (ds.take i)
  | _, _, 0, _ => .nil
  | _, _, _ + 1, .nil => .nil
  | _, _, i + 1, .cons h t => .cons h (Dts.tk i t)
theorem Dts.dr : ∀ {ds : List PyData} {xs : List V} (i : Nat), Dts G xs ds → Dts G (xs.drop i) (ds.drop i)
  | _, _, 0, h => h
  | _, _, _ + 1, .nil => .nil
  | _, _, i + 1, .cons h t => Dts.dr i t
theorem Dts.st {v : V} {d : PyData} (hv : Dt G v d) : ∀ {ds : List PyData} {xs : List V} (i : Nat), Dts G xs ds → Dts G (xs.set i v) (ds.set i d)
  | _, _, _, .nil => .nil
  | _, _, 0, .cons h t => .cons hv t
  | _, _, i + 1, .cons h t => .cons h (Dts.st hv i t)
theorem Dts.er : ∀ {ds : List PyData} {xs : List V} (i : Nat), Dts G xs ds → Dts G (xs.eraseIdx i) (ds.eraseIdx i)
  | _, _, _, .nil => .nil
  | _, _, 0, .cons h t => t
  | _, _, i + 1, .cons h t => .cons h (Dts.er i t)
theorem Dts.at2 : ∀ {xs : List V} {ds : List PyData} {i : Nat} {x : V}, Dts G xs ds → xs[i]? = some x → ∃ d, ds[i]? = some d ∧ Dt G x d
  | _, _, _, _, .nil, h => by simp at h
  | _, _, 0, _, .cons h1 _, h => by
    simp at h
    subst h
    exact ⟨_, rfl, h1⟩
  | _, _, i + 1, _, .cons _ r, h => by
    have h' := Dts.at2 (i := i) r (by simpa using h)
    simpa using h'
end
end Os
namespace Os
open PySem PySem.Spec PyProof.Rows L2 Evl
section
variable {σ : L2.St} {H : Hp} {ta tb : TE} {x y : V} {D : Ends} {tz : TS} {i j : Nat}
theorem q_par (ha : Ev ta σ H x) (hb : Ev tb σ H y) (k : ∀ H1, Ex H H1 → tz D ((σ.set i (some x)).set j (some y)) H1) : tSeq (tPar i j (tCons ta (tCons tb tNil))) tz D σ H :=
  ha H (Ex.refl H) _ fun H1 e1 => hb H1 e1 _ fun H2 e2 => ⟨x, y, rfl, k H2 (e1.trans e2)⟩
end
end Os
namespace Os
open PySem PySem.Spec PyProof.Rows L2 Evl
section
variable {K : PySem.W.Frag} {σ : L2.St} {H : Hp} {ta tb te : TE} {t u : TT} {tu tz : TS} {D : Ends}
/-- if a and b: .., b told by hand -/
theorem q_andIf {b : Bool} (h : EvT t σ H b) (h2 : b = true → ∀ H1, Ex H H1 → u σ H1 fun c H2 => if c = true then tu { D with nx := tz D } σ H2 else tz D σ H2) (h3 : b = false → ∀ H1, Ex H H1 → tz D σ H1) : tSeq (tIfS (tAnd t u) tu tNext) tz D σ H :=
  h H (Ex.refl H) _ fun H1 e => by
    cases b with
    | true => exact h2 rfl H1 e
    | false => exact h3 rfl H1 e
theorem s_andIf {b : Bool} (h : EvT t σ H b) (h2 : b = true → ∀ H1, Ex H H1 → u σ H1 fun c H2 => if c = true then tu D σ H2 else D.nx σ H2) (h3 : b = false → ∀ H1, Ex H H1 → D.nx σ H1) : tIfS (tAnd t u) tu tNext D σ H :=
  h H (Ex.refl H) _ fun H1 e => by
    cases b with
    | true => exact h2 rfl H1 e
    | false => exact h3 rfl H1 e
/-- xs[i] = a new list -/
theorem s_setLL {l : Addr} {xs ys : List V} {j : Nat} (hl : H l = some (.lst xs)) (h : EvL te σ H ys) (ho : Ev ta σ H (.ref l)) (hi : Ev tb σ H (.int (j : Int))) (hj : j < xs.length) (k : ∀ p H1, H p = none → Ex H H1 → H1 p = some (.lst ys) → D.nx σ (upd H1 l (.lst (xs.set j (.ref p))))) :
    tAsg te (gSub ta tb rSetL) D σ H := h H (Ex.refl H) _ fun p H1 hp e1 h1 => ho H1 e1 _ fun H2 e2 => hi H2 (e1.trans e2) _ fun H3 e3 =>
  ⟨l, xs, (j : Int), j, rfl, rfl, ((e1.trans e2).trans e3) l _ hl, ixN_nat hj, k p H3 hp ((e1.trans e2).trans e3) (e3 _ _ (e2 _ _ h1))⟩
end
end Os
/-! loops over zip; filters of pairs of pairs; what stands in lists of pairs of pairs -/
namespace Os
open PySem PySem.Spec PyProof.Rows L2 Evl
section
variable {K : PySem.W.Frag} {σ : L2.St} {H : Hp} {D : Ends} {ta tb tl te : TE} {tt : TT} {tu tz : TS} {a : Addr}
theorem s_forZ {xs ys : List V} {i j n : Nat} (hn : n = min xs.length ys.length) (h1 : Ev ta σ H (.ref a)) (hx : H a = some (.lst xs)) (h2 : EvL tb σ H ys) (Pv : Addr → Nat → L2.St → Hp → Prop) (h0 : ∀ c H1, H c = none → Ex H H1 → H1 c = some (.lst ys) → Pv c 0 σ H1)
    (hl : ∀ c m σ' H', Pv c m σ' H' → H' a = some (.lst xs) ∧ H' c = some (.lst ys))
    (hs : ∀ c m x y σ' H' H2, xs[m]? = some x → ys[m]? = some y → Pv c m σ' H' → Ex H' H2 → tu { D with nx := Pv c (m + 1), ct := Pv c (m + 1), bk := D.nx } ((σ'.set i (some x)).set j (some y)) H2)
    (hd : ∀ c σ' H', Pv c n σ' H' → D.nx σ' H') : tFor (iZip K (tCons ta (tCons tb tNil))) (gTup K 2 (gCons (gName i) (gCons (gName j) gNil))) tu D σ H :=
  h1 H (Ex.refl H) _ fun H1 e1 => h2 H1 e1 _ fun c H2 hc e2 hc2 => ⟨a, c, xs, ys, rfl, sq_of ((e1.trans e2) _ _ hx), sq_of hc2, for_it (walk_zip hn) (Pv c) (h0 c H2 (fresh_back e1 hc) (e1.trans e2) hc2) (fun m σ H _ q => ⟨sq_of (hl c m σ H q).1, sq_of (hl c m σ H q).2⟩) (fun m v σ' H' H3 hm q y => by
    obtain ⟨T, x, z, rfl, nT, rfl, hx', hz'⟩ := y
    exact ⟨T, [x, z], rfl, st_of upd_same, rfl, x, [z], rfl, z, [], rfl, rfl, hs c m x z σ' H' _ hx' hz' q (Ex.new nT)⟩) (hd c)⟩
/-- a reading that gives a new list of pairs of pairs -/
def EvPP (te : TE) (σ : L2.St) (H : Hp) (L : List PP) : Prop := ∀ H1, Ex H H1 → ∀ Q : VK, (∀ p xs H2, H1 p = none → Ex H1 H2 → H2 p = some (.lst xs) → PPsV H2 xs L → Q (.ref p) H2) → te σ H1 Q
/-- .. a list of pairs of pairs -/
def EvPV (te : TE) (σ : L2.St) (H : Hp) (L : List PP) : Prop := ∀ H1, Ex H H1 → ∀ Q : VK, (∀ p xs H2, Ex H1 H2 → H2 p = some (.lst xs) → PPsV H2 xs L → Q (.ref p) H2) → te σ H1 Q
theorem EvPP.pv {L : List PP} (h : EvPP te σ H L) : EvPV te σ H L := fun H1 e Q q => h H1 e Q fun p xs H2 _ e2 h2 pp => q p xs H2 e2 h2 pp
theorem epv_of {xs : List V} {L : List PP} (h : Ev te σ H (.ref a)) (hx : H a = some (.lst xs)) (pp : PPsV H xs L) : EvPV te σ H L := fun H1 e Q q => h H1 e Q fun H2 e2 => q a xs H2 e2 ((e.trans e2) _ _ hx) (pp.ex (e.trans e2))
/-- [one part of each pair, for the pairs that ..] -/
theorem evp_part {L : List PP} {i j n : Nat} {vs : List Nat} (second : Bool) (f : PP → Bool) (hn : n = 2) (h : EvPV tl σ H L) (few : L.length ≤ 40000) (hw : ∀ x y, wipe (((wipe σ vs).set i (some x)).set j (some y)) vs = wipe σ vs)
    (ht : ∀ q v1 v2 H1, Ex H H1 → q ∈ L → PrV H1 v1 q.1 → PrV H1 v2 q.2 → EvT tt (((wipe σ vs).set i (some v1)).set j (some v2)) H1 (f q))
    (he : ∀ v1 v2 H1, Ev te (((wipe σ vs).set i (some v1)).set j (some v2)) H1 (if second then v2 else v1)) :
    EvP (tLc (iList K tl) (gTup K n (gCons (gName i) (gCons (gName j) gNil))) tt te vs) σ H ((L.filter f).map fun q => if second then q.2 else q.1) := fun H0 e0 Q q => h H0 e0 _ fun a xs H1 e1 h1 pp => ⟨a, rfl, ⟨xs, sq_of h1⟩, fun Dl hD => by
  have X1 := e0.trans e1
  have xl := pp.1
  refine lc_list (xs := xs) (fun k Hh => Ex H1 Hh ∧ ∃ zs, Hh Dl = some (.lst zs) ∧ PrsV Hh zs (((L.take k).filter f).map fun q => if second then q.2 else q.1)) ⟨Ex.new hD, [], upd_same, .nil⟩ (fun k H' _ p => sq_of (p.1 _ _ h1)) (fun k x H' hk p => ?_) (fun H' p => ?_)
  · obtain ⟨x1, zs, hzs, pz⟩ := p
    obtain ⟨r, hr, t, v1, v2, rfl, ht1, p1, p2⟩ := pp.get hk
    have kl := (List.getElem?_eq_some_iff.mp hr).1
    have tk : (L.take (k + 1)).filter f = (L.take k).filter f ++ (if f r = true then [r] else []) := by
      rw [List.take_add_one, hr, List.filter_append]
      show _ ++ List.filter f [r] = _
      rw [List.filter_cons]
      rfl
    have fl := List.length_filter_le f (L.take k)
    rw [List.length_take] at fl
    have zl := pz.length
    rw [List.length_map] at zl
    refine ⟨t, [v1, v2], rfl, st_of (x1 _ _ ht1), hn.symm, v1, [v2], rfl, v2, [], rfl, rfl, hw _ _, ?_⟩
    refine ht r v1 v2 H' (X1.trans x1) (List.mem_of_getElem? hr) (p1.ex x1) (p2.ex x1) H' (Ex.refl _) _ fun H3 e3 => ?_
    cases hf : f r with
    | true =>
      rw [if_pos rfl]
      refine he v1 v2 H3 H3 (Ex.refl _) _ fun H4 e4 => ⟨zs, (e3.trans e4) _ _ hzs, sz_lt (by omega), (x1.trans (e3.trans e4)).mut hD, zs ++ [if second then v2 else v1], upd_same, ?_⟩
      rw [tk, hf, if_pos rfl, List.map_append]
      have x4 := x1.trans (e3.trans e4)
      refine PrsV.put0 (prs_snoc (pz.ex (e3.trans e4)) ?_) ((e3.trans e4) _ _ hzs)
      cases second with
      | true => exact p2.ex x4
      | false => exact p1.ex x4
    | false =>
      rw [if_neg (by decide)]
      refine ⟨x1.trans e3, zs, e3 _ _ hzs, ?_⟩
      rw [tk, hf, if_neg (by decide), List.append_nil]
      exact pz.ex e3
  · obtain ⟨x1, zs, hzs, pz⟩ := p
    rw [xl, List.take_length] at pz
    exact q Dl zs H' (fresh_back e1 hD) (e1.trans x1) hzs pz⟩
end
theorem folT_len (p : Nat) (t : List Nat) : (folT p t).length = t.length - 1 := by
  unfold folT
  rw [List.length_map, List.length_zip, List.length_tail]
  omega
theorem folT_at {p j a b : Nat} {t : List Nat} (ha : t[j]? = some a) (hb : t[j + 1]? = some b) : (folT p t)[j]? = some (eb p a, eb p b) := by
  unfold folT
  rw [List.getElem?_map, List.getElem?_zip_eq_some (z := (a, b)) |>.mpr ⟨ha, by rw [List.getElem?_tail]; exact hb⟩]
  rfl
theorem folR_succ (tn : Nat → List Nat) (i : Nat) : (List.range (i + 1)).flatMap (fun p => folT p (tn p)) = (List.range i).flatMap (fun p => folT p (tn p)) ++ folT i (tn i) := by
  rw [List.range_succ, List.flatMap_append]
  simp
theorem folR_len {tn : Nat → List Nat} {m : Nat} (h : ∀ p, (tn p).length ≤ m) : ∀ i, ((List.range i).flatMap (fun p => folT p (tn p))).length ≤ i * m
  | 0 => Nat.zero_le _
  | i + 1 => by
    rw [folR_succ, List.length_append, folT_len, Nat.succ_mul]
    have a := folR_len h i
    have b := h i
    omega
end Os
/-! tuples: what is in them; comprehensions over them; empty lists -/
namespace L2
open PySem PySem.Spec PyProof.Rows
section
variable {X : Cx}
def rNotInU (K : PySem.W.Frag) : R2 := fun x y H Q => ∃ d ds, Dp K H x d ∧ Dp K H y (.tuple ds) ∧ SeqAt.shaped d = true ∧ SeqAt.shaped (.list ds) = true ∧ Q (.bl (!ds.any fun z => PyData.eqv z d)) H
theorem op_notInU (hu : X.A.units + 65 < cLine) : OpR X (compareOp .NotIn) (rNotInU X.K) := by
  intro pins s σ H x y v u Q I rx ry h
  obtain ⟨d, ds, hd, he, sd, se, q⟩ := h
  obtain ⟨as, r1⟩ := Dp.reads I d x v hd rx
  obtain ⟨bs, r2⟩ := Dp.reads I (.tuple ds) y u he ry
  exact SeqAt.notIn_tuple_reads r2 r1 (SeqAt.canLay_of_shaped se) (SeqAt.canLay_of_shaped sd) (room_in_shaped sd hu) ⟨.bl _, H, I, rfl, q⟩
end
end L2
namespace Os
open PySem PySem.Spec PyProof.Rows L2 Evl
section
variable {K : PySem.W.Frag} {σ : L2.St} {H : Hp} {D : Ends} {ta tb tl te : TE} {t tt : TT} {tu tz : TS} {a : Addr} {v u x y : V} {e f g : Pr}
/-- not among two pairs -/
theorem ev_nin2 (hv : Ev tl σ H v) (ha : Ev ta σ H x) (hb : Ev tb σ H y) (pv : PrV H v g) (px : PrV H x e) (py : PrV H y f) : Ev (tOp (rNotInU K) tl (tTup (tCons ta (tCons tb tNil)))) σ H (.bl (!(decide (e = g) || decide (f = g)))) := fun H1 e1 Q q =>
  hv H1 e1 _ fun H2 e2 => ha H2 (e1.trans e2) _ fun H3 e3 => hb H3 ((e1.trans e2).trans e3) _ fun H4 e4 => ⟨show 2 ≤ sizeLine by decide, fun t ht => by
    have et := Ex.new (o := .tup [x, y]) ht
    have x4 := ((e1.trans e2).trans (e3.trans e4)).trans et
    refine ⟨prD g, [prD e, prD f], ((pv.ex x4).dt).dp, (Dt.tup upd_same (.cons (px.ex x4).dt (.cons (py.ex x4).dt .nil))).dp, (sh_pr g).shaped (by decide), (sh_prs' [e, f]).shaped (by decide), ?_⟩
    have z : ([prD e, prD f].any fun z => PyData.eqv z (prD g)) = (decide (e = g) || decide (f = g)) := by
      rw [List.any_cons, List.any_cons, List.any_nil, Bool.or_false, eqv_prs, eqv_prs]
    rw [z]
    exact q _ ((e2.trans (e3.trans e4)).trans et)⟩
def touch (e : Pr) (p : Nat) : Bool := decide (e.1 = p) || decide (e.2 = p)
/-- a number in a pair -/
theorem rv_inT {p : Nat} (hv : PrV H v e) : RV (rIn K false) (.int (p : Int)) v H (.bl (touch e p)) := fun H1 e1 Q q => by
  obtain ⟨t, rfl, ht⟩ := hv
  refine ⟨t, _, rfl, .inr (st_of (e1 _ _ ht)), rfl, rfl, ?_⟩
  have z : (if false = true then !inV (.int (p : Int)) [V.int (e.1 : Int), V.int (e.2 : Int)] else inV (.int (p : Int)) [V.int (e.1 : Int), V.int (e.2 : Int)]) = touch e p := by
    rw [if_neg (by decide)]
    unfold inV touch
    rw [List.any_cons, List.any_cons, List.any_nil, Bool.or_false]
    have : ∀ a b : Nat, eqV (.int (a : Int)) (.int (b : Int)) = decide (a = b) := fun a b => by
      show ((a : Int) == (b : Int)) = _
      by_cases h : a = b
      · subst h; simp
      · rw [decide_eq_false h]
        exact beq_eq_false_iff_ne.mpr (by omega)
    rw [this, this]
  rw [z]
  exact q H1 (Ex.refl H1)
/-- a comprehension over a tuple -/
theorem el_lcU {xs : List V} {j : Nat} {vs : List Nat} (f : Nat → Bool) (v : Nat → V) (h : Ev tl σ H (.ref a)) (hx : SqT K H a xs) (hz : xs.length ≤ 40000) (hw : ∀ x, wipe ((wipe σ vs).set j (some x)) vs = wipe σ vs)
    (ht : ∀ (i : Nat) (x : V) H1, Ex H H1 → xs[i]? = some x → EvT t ((wipe σ vs).set j (some x)) H1 (f i)) (he : ∀ (i : Nat) (x : V) H1, Ex H H1 → xs[i]? = some x → f i = true → Ev te ((wipe σ vs).set j (some x)) H1 (v i)) :
    EvL (tLc (iTup K tl) (gName j) t te vs) σ H (given xs.length f v) := fun H0 e Q q => h H0 e _ fun H1 e1 => ⟨a, rfl, ⟨xs, ex_t (e.trans e1) hx⟩, fun Dl hD =>
  lc_tup (xs := xs) (Cw H1 f v Dl) ⟨hD, Ex.new hD, upd_same⟩ (fun i H' _ p => ex_t ((e.trans e1).trans p.2.1) hx) (fun i x H' hi p => ⟨hw x, cw_turn p (by have := (List.getElem?_eq_some_iff.mp hi).1; omega) (ht i x H1 (e.trans e1) hi) (fun hf => he i x H1 (e.trans e1) hi hf)⟩)
    (fun H' p => q Dl H' (fresh_back e1 p.1) (e1.trans p.2.1) p.2.2)⟩
theorem eqv_nil : ∀ ds : List PyData, PyData.eqv (.list ds) (.list []) = decide (ds = [])
  | [] => by decide
  | d :: ds => by
    rw [decide_eq_false (fun h => nomatch h)]
    rfl
/-- the empty list or not -/
theorem eq_nil {xs : List V} {ds : List PyData} {n : Nat} (h : EvL te σ H xs) (hx : ∀ H1, Ex H H1 → Dts H1 xs ds) (sh : Sh n (.list ds)) (le : n ≤ 64) : Ev (tOp (rEqD K) te (tLst tNil)) σ H (.bl (decide (ds = []))) := fun H1 e1 Q q =>
  h H1 e1 _ fun p H2 hp e2 h2 => ⟨show 0 ≤ sizeLine by decide, fun t ht => by
    have e3 := Ex.new (o := .lst []) ht
    refine ⟨.list ds, .list [], (Dt.lst (e3 _ _ h2) (hx _ ((e1.trans e2).trans e3))).dp, (Dt.lst upd_same .nil).dp, sh.shaped le, (Sh.lst (n := 1) fun d hd => by cases hd).shaped (by decide), ?_⟩
    rw [eqv_nil]
    exact q _ (e2.trans e3)⟩
theorem eq_nilV {xs : List V} {ds : List PyData} {n : Nat} (h : Ev te σ H (.ref a)) (ha : H a = some (.lst xs)) (hx : Dts H xs ds) (sh : Sh n (.list ds)) (le : n ≤ 64) : Ev (tOp (rEqD K) te (tLst tNil)) σ H (.bl (decide (ds = []))) := fun H1 e1 Q q =>
  h H1 e1 _ fun H2 e2 => ⟨show 0 ≤ sizeLine by decide, fun t ht => by
    have e3 := Ex.new (o := .lst []) ht
    have x3 := (e1.trans e2).trans e3
    refine ⟨.list ds, .list [], (Dt.lst (x3 _ _ ha) (hx.same (same_ex x3))).dp, (Dt.lst upd_same .nil).dp, sh.shaped le, (Sh.lst (n := 1) fun d hd => by cases hd).shaped (by decide), ?_⟩
    rw [eqv_nil]
    exact q _ (e2.trans e3)⟩
theorem ne_nilV {xs : List V} {ds : List PyData} {n : Nat} (h : Ev te σ H (.ref a)) (ha : H a = some (.lst xs)) (hx : Dts H xs ds) (sh : Sh n (.list ds)) (le : n ≤ 64) : Ev (tOp (rNeD K) te (tLst tNil)) σ H (.bl (!decide (ds = []))) := fun H1 e1 Q q =>
  h H1 e1 _ fun H2 e2 => ⟨show 0 ≤ sizeLine by decide, fun t ht => by
    have e3 := Ex.new (o := .lst []) ht
    have x3 := (e1.trans e2).trans e3
    refine ⟨.list ds, .list [], (Dt.lst (x3 _ _ ha) (hx.same (same_ex x3))).dp, (Dt.lst upd_same .nil).dp, sh.shaped le, (Sh.lst (n := 1) fun d hd => by cases hd).shaped (by decide), ?_⟩
    rw [eqv_nil]
    exact q _ (e2.trans e3)⟩
end
end Os
/-! objects of any kind: how long their text is, how deep they go; displays of such, told in a heap without some addresses -/
namespace Os
open PySem PySem.Spec PyProof.Rows L2 Evl
mutual
/-- how long the longest text within is -/
def smx : PyData → Nat
  | .str z => z.length
  | .list xs => smxAll xs
  | .tuple xs => smxAll xs
  | _ => 0
def smxAll : List PyData → Nat
  | [] => 0
  | x :: xs => max (smx x) (smxAll xs)
end
theorem smx_all {m : Nat} : ∀ {ds : List PyData}, (∀ d ∈ ds, smx d ≤ m) → smxAll ds ≤ m
  | [], _ => Nat.zero_le _
  | d :: ds, h => by
    show max (smx d) (smxAll ds) ≤ m
    have := h d List.mem_cons_self
    have := smx_all (ds := ds) fun x hx => h x (List.mem_cons_of_mem _ hx)
    omega
theorem smx_of {ds : List PyData} : ∀ d ∈ ds, smx d ≤ smxAll ds := by
  induction ds with
  | nil => intro d h; cases h
  | cons x xs ih =>
    intro d h
    show smx d ≤ max (smx x) (smxAll xs)
    rcases List.mem_cons.mp h with rfl | h
    · omega
    · have := ih d h
      omega
structure Kd (L D : Nat) (d : PyData) : Prop where
  lim : Lim L D d
  lay : PyData.canLay0 d = true
  sm : smx d ≤ 1000
theorem Kd.mono {L D L' D' : Nat} {d : PyData} (h : Kd L D d) (h1 : L ≤ L') (h2 : D ≤ D') : Kd L' D' d := ⟨h.lim.mono h1 h2, h.lay, h.sm⟩
theorem Kd.sh {L D : Nat} {d : PyData} (h : Kd L D d) : Sh D d := ⟨h.lay, h.lim.deep⟩
theorem Kd.lst {L D m : Nat} {ds : List PyData} (h : ∀ d ∈ ds, Kd L D d) (hm : ds.length ≤ m) : Kd (3 + (L + 2) * m) (D + 1) (.list ds) := ⟨Lim.lst (fun d hd => (h d hd).lim) hm, (sh_all fun d hd => (h d hd).sh).1, smx_all fun d hd => (h d hd).sm⟩
theorem Kd.tup {L D m : Nat} {ds : List PyData} (h : ∀ d ∈ ds, Kd L D d) (hm : ds.length ≤ m) : Kd (3 + (L + 2) * m) (D + 1) (.tuple ds) := ⟨Lim.tup (fun d hd => (h d hd).lim) hm, (sh_all fun d hd => (h d hd).sh).1, smx_all fun d hd => (h d hd).sm⟩
theorem kd_int64 : ∀ i, i < 64 → (PyData.int ((i : Nat) : Int)).shown.length ≤ 70 := by decide +kernel
theorem kd_big64 : ∀ i, i < 64 → (PyData.int ((i : Nat) + 10 ^ 59 : Int)).shown.length ≤ 70 ∧ (PyData.int ((i : Nat) + 10 ^ 59 : Int)).showable = true := by decide +kernel
theorem kd_str64 : ∀ i, i < 64 → (toString ((i : Nat) : Int) : Str).length ≤ 2 ∧ PyData.strOk (toString ((i : Nat) : Int)) = true := by decide +kernel
theorem Kd.int {i : Nat} (h : i < 64) : Kd 70 0 (.int (i : Int)) := ⟨⟨kd_int64 i h, Nat.zero_le _, (Lim.int h).show', rfl⟩, rfl, Nat.zero_le _⟩
theorem Kd.big {i : Nat} (h : i < 64) : Kd 70 0 (.int ((i : Int) + 10 ^ 59)) := ⟨⟨(kd_big64 i h).1, Nat.zero_le _, (kd_big64 i h).2, rfl⟩, rfl, Nat.zero_le _⟩
theorem Kd.non : Kd 70 0 .none := ⟨⟨by decide, Nat.zero_le _, rfl, rfl⟩, rfl, Nat.zero_le _⟩
theorem Kd.bl (b : Bool) : Kd 70 0 (.bool b) := ⟨⟨by cases b <;> decide, Nat.zero_le _, rfl, rfl⟩, rfl, Nat.zero_le _⟩
theorem Kd.neg : Kd 70 0 (.int (-1)) := ⟨⟨by decide +kernel, Nat.zero_le _, by decide +kernel, rfl⟩, rfl, Nat.zero_le _⟩
theorem Kd.str {z : Str} (h : z.length ≤ 4) (ok : PyData.strOk z = true) : Kd 70 0 (.str z) := by
  refine ⟨⟨?_, Nat.zero_le _, rfl, rfl⟩, ok, show z.length ≤ 1000 by omega⟩
  show (reprText z).length ≤ _
  have := StrLaws.reprText_len z fun c hc => Nat.lt_trans (str_codes ok c hc) (by decide)
  omega
theorem Kd.name {z : Str} (h : z.length ≤ 16) (ok : PyData.strOk z = true) : Kd 200 0 (.str z) := by
  refine ⟨⟨?_, Nat.zero_le _, rfl, rfl⟩, ok, show z.length ≤ 1000 by omega⟩
  show (reprText z).length ≤ _
  have := StrLaws.reprText_len z fun c hc => Nat.lt_trans (str_codes ok c hc) (by decide)
  omega
/-- no longer list than a thousand -/
def ShL : PyData → Prop
  | .list ds => ds.length ≤ 1000
  | _ => True
/-- such an object -/
def KV (n d : Nat) (G : Hp) (v : V) : Prop := ∃ x, Dt G v x ∧ Kd n d x ∧ ShL x
theorem kv_up {n d : Nat} : Up (KV n d) := fun _ _ _ e ⟨x, h, i⟩ => ⟨x, h.same (same_ex e), i⟩
theorem dts_exK {G : Hp} {R : PyData → Prop} : ∀ {xs : List V}, (∀ x ∈ xs, ∃ d, Dt G x d ∧ R d) → ∃ ds, Dts G xs ds ∧ (∀ d ∈ ds, R d) ∧ ds.length = xs.length
  | [], _ => ⟨[], .nil, (fun _ h => nomatch h), rfl⟩
  | x :: xs, h => by
    obtain ⟨d, h1, h2⟩ := h x List.mem_cons_self
    obtain ⟨ds, h3, h4, h5⟩ := dts_exK (xs := xs) fun y hy => h y (List.mem_cons_of_mem _ hy)
    refine ⟨d :: ds, .cons h1 h3, fun y hy => ?_, by rw [List.length_cons, h5, List.length_cons]⟩
    rcases List.mem_cons.mp hy with rfl | hy
    · exact h2
    · exact h4 y hy
section
variable {G G' : Hp} {n d n' d' m : Nat} {v : V} {q : Addr} {xs : List V}
theorem KV.mono (h : KV n d G v) (h1 : n ≤ n') (h2 : d ≤ d') : KV n' d' G v := by
  obtain ⟨x, a, b, c⟩ := h
  exact ⟨x, a, b.mono h1 h2, c⟩
theorem KV.ex (h : KV n d G v) (e : Ex G G') : KV n d G' v := kv_up _ _ _ e h
theorem kv_list (h : G q = some (.lst xs)) (hl : xs.length ≤ m) (hm : m ≤ 1000) (hx : ∀ x ∈ xs, KV n d G x) : KV (3 + (n + 2) * m) (d + 1) G (.ref q) := by
  obtain ⟨ds, h1, h2, h3⟩ := dts_exK hx
  exact ⟨.list ds, .lst h h1, Kd.lst (fun d hd => (h2 d hd).1) (by omega), show ds.length ≤ 1000 by omega⟩
theorem kv_tup (h : G q = some (.tup xs)) (hl : xs.length ≤ m) (hx : ∀ x ∈ xs, KV n d G x) : KV (3 + (n + 2) * m) (d + 1) G (.ref q) := by
  obtain ⟨ds, h1, h2, h3⟩ := dts_exK hx
  exact ⟨.tuple ds, .tup h h1, Kd.tup (fun d hd => (h2 d hd).1) (by omega), trivial⟩
theorem kv_non : KV 70 0 G .non := ⟨_, .non, Kd.non, trivial⟩
theorem kv_bl {b : Bool} : KV 70 0 G (.bl b) := ⟨_, .bl b, Kd.bl b, trivial⟩
theorem kv_int {i : Nat} (h : i < 64) : KV 70 0 G (.int (i : Int)) := ⟨_, .int _, Kd.int h, trivial⟩
theorem kv_big {i : Nat} (h : i < 64) : KV 70 0 G (.int ((i : Int) + 10 ^ 59)) := ⟨_, .int _, Kd.big h, trivial⟩
theorem kv_neg : KV 70 0 G (.int (-1)) := ⟨_, .int _, Kd.neg, trivial⟩
theorem kv_str {z : Str} (h : z.length ≤ 4) (ok : PyData.strOk z = true) : KV 70 0 G (.str z) := ⟨_, .str _, Kd.str h ok, trivial⟩
theorem kv_name {z : Str} (h : z.length ≤ 16) (ok : PyData.strOk z = true) : KV 200 0 G (.str z) := ⟨_, .str _, Kd.name h ok, trivial⟩
theorem kv_pr {e : Pr} (h : PrV G v e) (h1 : e.1 < 64) (h2 : e.2 < 64) : KV 147 1 G v := by
  obtain ⟨t, rfl, ht⟩ := h
  refine kv_tup (n := 70) (d := 0) (m := 2) ht (Nat.le_refl _) fun x hx => ?_
  rcases List.mem_cons.mp hx with rfl | hx
  · exact kv_int h1
  · rw [List.mem_singleton.mp hx]
    exact kv_int h2
theorem kv_prs {es : List Pr} (h : PrsV G xs es) (hs : ∀ e ∈ es, e.1 < 64 ∧ e.2 < 64) : ∀ x ∈ xs, KV 147 1 G x := fun x hx => by
  obtain ⟨i, hi⟩ := List.mem_iff_getElem?.mp hx
  obtain ⟨e, he, pe⟩ := h.get hi
  have := hs e (List.mem_of_getElem? he)
  exact kv_pr pe this.1 this.2
end
section
variable (L : List Addr) (R : Hp → V → Prop)
def Stn (H : Hp) : Prop := ∀ b ∈ L, ∃ o, H b = some o
def EvK (te : TE) (σ : L2.St) (H : Hp) : Prop := ∀ H1, Ex H H1 → ∀ Q : VK, (∀ v H2, Ex H1 H2 → R (hds L H2) v → Q v H2) → te σ H1 Q
def EvKs (ta : TA) (σ : L2.St) (H : Hp) (n : Nat) : Prop := ∀ H1, Ex H H1 → ∀ Q : List V → Hp → Prop, (∀ vs H2, Ex H1 H2 → vs.length = n → (∀ v ∈ vs, R (hds L H2) v) → Q vs H2) → ta σ H1 Q
/-- a new list of lo to hi such items -/
def EvLK (te : TE) (σ : L2.St) (H : Hp) (lo hi : Nat) : Prop := ∀ H1, Ex H H1 → ∀ Q : VK,
  (∀ p xs H2, H1 p = none → Ex H1 H2 → H2 p = some (.lst xs) → lo ≤ xs.length → xs.length ≤ hi → (∀ x ∈ xs, R (hds L H2) x) → Q (.ref p) H2) → te σ H1 Q
/-- a list that stands at p, the same of its items -/
def LsK (H : Hp) (p : Addr) (lo hi : Nat) : Prop := p ∉ L ∧ ∃ xs, H p = some (.lst xs) ∧ lo ≤ xs.length ∧ xs.length ≤ hi ∧ ∀ x ∈ xs, R (hds L H) x
end
section
variable {K : PySem.W.Frag} {L : List Addr} {R R' : Hp → V → Prop} {σ : L2.St} {H H' : Hp} {ta tb te : TE} {tl tr : TA} {n m lo hi lo' hi' : Nat} {v : V}
theorem Stn.ex (h : Stn L H) (e : Ex H H') : Stn L H' := fun b hb => by
  obtain ⟨o, ho⟩ := h b hb
  exact ⟨o, e _ _ ho⟩
theorem Stn.out (h : Stn L H) {p : Addr} (hp : H p = none) : p ∉ L := fun hb => by
  obtain ⟨o, ho⟩ := h p hb
  rw [hp] at ho
  cases ho
theorem Stn.at (h : Stn L H) {p : Addr} {o : HO} (hp : H p = none) (hq : H' p = some o) : hds L H' p = some o := by
  rw [hds_ne (h.out hp)]
  exact hq
theorem ek_of (up : Up R) (h : Ev te σ H v) (r : R (hds L H) v) : EvK L R te σ H := fun H1 e Q q =>
  h H1 e _ fun H2 e2 => q v H2 e2 (up _ _ _ (hds_ex (e.trans e2)) r)
theorem ek_imp (h : EvK L R te σ H) (f : ∀ G v, R G v → R' G v) : EvK L R' te σ H := fun H1 e Q q => h H1 e Q fun v H2 e2 r => q v H2 e2 (f _ _ r)
theorem ek_mono (e : Ex H H') (h : EvK L R te σ H) : EvK L R te σ H' := fun H1 a Q q => h H1 (e.trans a) Q q
theorem eks_nil : EvKs L R tNil σ H 0 := fun H1 _ Q q => q [] H1 (Ex.refl _) rfl fun _ h => nomatch h
theorem eks_cons (up : Up R) (h : EvK L R te σ H) (hr : EvKs L R tr σ H n) : EvKs L R (tCons te tr) σ H (n + 1) := fun H1 e Q q =>
  h H1 e _ fun v H2 e2 r => hr H2 (e.trans e2) _ fun vs H3 e3 hn hv => q (v :: vs) H3 (e2.trans e3) (by rw [List.length_cons, hn]) fun x hx => by
    rcases List.mem_cons.mp hx with rfl | hx
    · exact up _ _ _ (hds_ex e3) r
    · exact hv x hx
theorem elk_lst (up : Up R) (h : EvKs L R tl σ H n) (hn : n ≤ 1000) : EvLK L R (tLst tl) σ H n n := fun H1 e Q q =>
  h H1 e _ fun vs H2 e2 hl hv => ⟨by rw [hl]; exact sz_of (by omega), fun p hp => q p vs _ (fresh_back e2 hp) (e2.trans (Ex.new hp)) upd_same (by omega) (by omega) fun x hx => up _ _ _ (hds_ex (Ex.new hp)) (hv x hx)⟩
theorem elk_cat (up : Up R) (h1 : EvLK L R ta σ H lo hi) (h2 : EvLK L R tb σ H lo' hi') (hn : hi + hi' ≤ 10000) : EvLK L R (tOp rCat ta tb) σ H (lo + lo') (hi + hi') := fun H1 e Q q =>
  h1 H1 e _ fun p xs H2 hp e2 hx l1 l2 rx => h2 H2 (e.trans e2) _ fun p' ys H3 hp' e3 hy l3 l4 ry =>
    ⟨p, p', xs, ys, rfl, rfl, e3 _ _ hx, hy, sz_of (by omega), fun r hr => q r (xs ++ ys) _ (fresh_back (e2.trans e3) hr) ((e2.trans e3).trans (Ex.new hr)) upd_same (by rw [List.length_append]; omega) (by rw [List.length_append]; omega) fun x hx => by
      rcases List.mem_append.mp hx with z | z
      · exact up _ _ _ (hds_ex (e3.trans (Ex.new hr))) (rx x z)
      · exact up _ _ _ (hds_ex (Ex.new hr)) (ry x z)⟩
/-- the left one stands there already -/
theorem elk_catV (up : Up R) {p : Addr} (h1 : Ev ta σ H (.ref p)) (hp : LsK L R H p lo hi) (h2 : EvLK L R tb σ H lo' hi') (hn : hi + hi' ≤ 10000) : EvLK L R (tOp rCat ta tb) σ H (lo + lo') (hi + hi') := fun H1 e Q q => by
  obtain ⟨_, xs, hx, l1, l2, rx⟩ := hp
  exact h1 H1 e _ fun H2 e2 => h2 H2 (e.trans e2) _ fun p' ys H3 hp' e3 hy l3 l4 ry =>
    ⟨p, p', xs, ys, rfl, rfl, ((e.trans e2).trans e3) _ _ hx, hy, sz_of (by omega), fun r hr => q r (xs ++ ys) _ (fresh_back (e2.trans e3) hr) ((e2.trans e3).trans (Ex.new hr)) upd_same (by rw [List.length_append]; omega) (by rw [List.length_append]; omega) fun x hx => by
      rcases List.mem_append.mp hx with z | z
      · exact up _ _ _ (hds_ex (((e.trans e2).trans e3).trans (Ex.new hr))) (rx x z)
      · exact up _ _ _ (hds_ex (Ex.new hr)) (ry x z)⟩
/-- both stand there already -/
theorem elk_catVV (up : Up R) {p p' : Addr} (h1 : Ev ta σ H (.ref p)) (hp : LsK L R H p lo hi) (h2 : Ev tb σ H (.ref p')) (hp' : LsK L R H p' lo' hi') (hn : hi + hi' ≤ 10000) : EvLK L R (tOp rCat ta tb) σ H (lo + lo') (hi + hi') := fun H1 e Q q => by
  obtain ⟨_, xs, hx, l1, l2, rx⟩ := hp
  obtain ⟨_, ys, hy, l3, l4, ry⟩ := hp'
  exact h1 H1 e _ fun H2 e2 => h2 H2 (e.trans e2) _ fun H3 e3 =>
    ⟨p, p', xs, ys, rfl, rfl, ((e.trans e2).trans e3) _ _ hx, ((e.trans e2).trans e3) _ _ hy, sz_of (by omega), fun r hr => q r (xs ++ ys) _ (fresh_back (e2.trans e3) hr) ((e2.trans e3).trans (Ex.new hr)) upd_same (by rw [List.length_append]; omega) (by rw [List.length_append]; omega) fun x hx => by
      rcases List.mem_append.mp hx with z | z
      · exact up _ _ _ (hds_ex (((e.trans e2).trans e3).trans (Ex.new hr))) (rx x z)
      · exact up _ _ _ (hds_ex (((e.trans e2).trans e3).trans (Ex.new hr))) (ry x z)⟩
/-- a list that is known whole -/
theorem elk_of (up : Up R) {xs : List V} (h : EvL te σ H xs) (l1 : lo ≤ xs.length) (l2 : xs.length ≤ hi) (r : ∀ x ∈ xs, R (hds L H) x) : EvLK L R te σ H lo hi := fun H1 e Q q =>
  h H1 e _ fun p H2 hp e2 h2 => q p xs H2 hp e2 h2 l1 l2 fun x hx => up _ _ _ (hds_ex (e.trans e2)) (r x hx)
theorem elk_rep (up : Up R) {k : Nat} (h : EvLK L R ta σ H lo hi) (h2 : Ev tb σ H (.int (k : Int))) (hk : k ≤ 100) (hn : hi * k ≤ 10000) : EvLK L R (tOp rRep ta tb) σ H (lo * k) (hi * k) := fun H1 e Q q =>
  h H1 e _ fun p xs H2 hp e2 hx l1 l2 rx => h2 H2 (e.trans e2) _ fun H3 e3 => by
    have m1 : xs.length * k ≤ hi * k := Nat.mul_le_mul l2 (Nat.le_refl _)
    have m2 : lo * k ≤ xs.length * k := Nat.mul_le_mul l1 (Nat.le_refl _)
    have fl : ((List.replicate k xs).flatten).length = xs.length * k := by
      rw [List.length_flatten, List.map_replicate, List.sum_replicate_nat, Nat.mul_comm]
    refine ⟨p, (k : Int), xs, rfl, rfl, e3 _ _ hx, by omega, by omega, sz_of (by rw [Int.toNat_natCast]; omega), fun r hr => ?_⟩
    rw [Int.toNat_natCast]
    refine q r ((List.replicate k xs).flatten) _ (fresh_back (e2.trans e3) hr) ((e2.trans e3).trans (Ex.new hr)) upd_same (by omega) (by omega) fun x hx' => ?_
    obtain ⟨l, hl, hxl⟩ := List.mem_flatten.mp hx'
    rw [(List.mem_replicate.mp hl).2] at hxl
    exact up _ _ _ (hds_ex (e3.trans (Ex.new hr))) (rx x hxl)
theorem elk_imp (h : EvLK L R te σ H lo hi) (f : ∀ G v, R G v → R' G v) : EvLK L R' te σ H lo hi := fun H1 e Q q => h H1 e Q fun p xs H2 hp e2 h2 l1 l2 r => q p xs H2 hp e2 h2 l1 l2 fun x hx => f _ _ (r x hx)
theorem elk_wide (h : EvLK L R te σ H lo hi) (h1 : lo' ≤ lo) (h2 : hi ≤ hi') : EvLK L R te σ H lo' hi' := fun H1 e Q q => h H1 e Q fun p xs H2 hp e2 h3 l1 l2 r => q p xs H2 hp e2 h3 (by omega) (by omega) r
section
variable {a b a' b' : Nat}
/-- such a list as a value of a kind -/
theorem ek_list (st : Stn L H) (m : Nat) (h : EvLK L (KV a b) te σ H lo hi) (h1 : hi ≤ m) (hm : m ≤ 1000) (h2 : 3 + (a + 2) * m ≤ a') (h3 : b + 1 ≤ b') : EvK L (KV a' b') te σ H := fun H1 e Q q =>
  h H1 e _ fun p xs H2 hp e2 hx l1 l2 r => q (.ref p) H2 e2 ((kv_list (m := m) ((st.ex e).at hp hx) (by omega) hm r).mono h2 h3)
theorem ek_tup (st : Stn L H) (h : EvKs L (KV a b) tl σ H n) (hn : n ≤ 1000) (h2 : 3 + (a + 2) * n ≤ a') (h3 : b + 1 ≤ b') : EvK L (KV a' b') (tTup tl) σ H := fun H1 e Q q =>
  h H1 e _ fun vs H2 e2 hl hv => ⟨by rw [hl]; exact sz_of (by omega), fun p hp => q (.ref p) _ (e2.trans (Ex.new hp)) ((kv_tup (m := n) ((st.ex (e.trans e2)).at hp upd_same) (by omega) fun x hx => kv_up _ _ _ (hds_ex (Ex.new hp)) (hv x hx)).mono h2 h3)⟩
/-- a display of a list -/
theorem ek_lst (st : Stn L H) (h : EvKs L (KV a b) tl σ H n) (hn : n ≤ 1000) (h2 : 3 + (a + 2) * n ≤ a') (h3 : b + 1 ≤ b') : EvK L (KV a' b') (tLst tl) σ H := ek_list st n (elk_lst kv_up h hn) (Nat.le_refl _) hn h2 h3
/-- tuple(list) -/
theorem ek_tof (st : Stn L H) {p : Addr} {xs : List V} (m : Nat) (h : Ev ta σ H (.ref p)) (hp : H p = some (.lst xs)) (hx : ∀ x ∈ xs, KV a b (hds L H) x) (hm : xs.length ≤ m) (h2 : 3 + (a + 2) * m ≤ a') (h3 : b + 1 ≤ b') :
    EvK L (KV a' b') (tCB (fun xs H Q => ∃ p ys, xs = [V.ref p] ∧ ((SqL K H p ys ∧ ∀ l, H l = none → Q (.ref l) (upd H l (.tup ys))) ∨ (SqT K H p ys ∧ Q (.ref p) H))) (tCons ta tNil)) σ H := fun H1 e Q q =>
  h H1 e _ fun H2 e2 => ⟨p, xs, rfl, .inl ⟨sq_of ((e.trans e2) _ _ hp), fun b hb => q (.ref b) _ (e2.trans (Ex.new hb)) ((kv_tup (m := m) ((st.ex (e.trans e2)).at hb upd_same) hm fun x hx' => kv_up _ _ _ (hds_ex ((e.trans e2).trans (Ex.new hb))) (hx x hx')).mono h2 h3)⟩⟩
/-- a list that stands there -/
theorem kv_at {p : Addr} {xs : List V} (np : p ∉ L) (hp : H p = some (.lst xs)) (m : Nat) (hl : xs.length ≤ m) (hm : m ≤ 1000) (hx : ∀ x ∈ xs, KV a b (hds L H) x) : KV (3 + (a + 2) * m) (b + 1) (hds L H) (.ref p) := kv_list (by rw [hds_ne np]; exact hp) hl hm hx
end
/-- statements -/
theorem q_asgK {i : Nat} {D : Ends} {tz : TS} (h : EvK L R te σ H) (k : ∀ v H1, Ex H H1 → R (hds L H1) v → tz D (σ.set i (some v)) H1) : tSeq (tAsg te (gName i)) tz D σ H := h H (Ex.refl H) _ fun v H1 e r => k v H1 e r
theorem q_asgLK {i : Nat} {D : Ends} {tz : TS} (st : Stn L H) (h : EvLK L R te σ H lo hi) (k : ∀ p H1, H p = none → Ex H H1 → LsK L R H1 p lo hi → tz D (σ.set i (some (.ref p))) H1) : tSeq (tAsg te (gName i)) tz D σ H :=
  h H (Ex.refl H) _ fun p xs H1 hp e h1 l1 l2 r => k p H1 hp e ⟨st.out hp, xs, h1, l1, l2, r⟩
theorem LsK.ex (up : Up R) {p : Addr} (h : LsK L R H p lo hi) (e : Ex H H') : LsK L R H' p lo hi := by
  obtain ⟨np, xs, hx, l1, l2, r⟩ := h
  exact ⟨np, xs, e _ _ hx, l1, l2, fun x hx => up _ _ _ (hds_ex e) (r x hx)⟩
theorem LsK.drew (up : Up R) {s : Addr} {B : Nat} {p : Addr} (h : LsK L R H p lo hi) (hs : s ∈ L) (d : Drew s B H H') : LsK L R H' p lo hi := by
  obtain ⟨np, xs, hx, l1, l2, r⟩ := h
  exact ⟨np, xs, d.get (fun z => np (z ▸ hs)) hx, l1, l2, fun x hx => up _ _ _ (hds_drew d hs) (r x hx)⟩
theorem LsK.pick {p : Addr} {r : Int} {Q : VK} (h : LsK L R H p lo hi) (r0 : 0 ≤ r) (r1 : r < (lo : Int)) (q : ∀ x, R (hds L H) x → Q x H) : rIxL K (.ref p) (.int r) H Q := by
  obtain ⟨_, xs, hx, l1, l2, hr⟩ := h
  have lt : r.toNat < xs.length := by omega
  have e : r = (r.toNat : Int) := by omega
  rw [e]
  exact ⟨p, xs, _, xs[r.toNat], rfl, rfl, sq_of hx, atI_nat (List.getElem?_eq_getElem lt), q _ (hr _ (List.getElem_mem lt))⟩
theorem Stn.drew {s : Addr} {B : Nat} (h : Stn L H) (d : Drew s B H H') : Stn L H' := fun b hb => by
  by_cases e : b = s
  · subst e
    exact d.src.at
  · obtain ⟨o, ho⟩ := h b hb
    exact ⟨o, d.get e ho⟩
theorem mem_cutK {x : V} {xs : List V} {lo hi : Option Int} (h : x ∈ cutV xs lo hi) : x ∈ xs := List.mem_of_mem_drop (List.mem_of_mem_take h)
/-- a part of a list that stands there -/
theorem elk_sl {xs : List V} {lo hi : Option Int} (up : Up R) (h : EvL te σ H (cutV xs lo hi)) (hl : xs.length ≤ m) (r : ∀ x ∈ xs, R (hds L H) x) : EvLK L R te σ H 0 m :=
  elk_of up h (Nat.zero_le _) (Nat.le_trans (cutV_length _ _ _) hl) fun x hx => r x (mem_cutK hx)
end
end Os
namespace Os
open PySem PySem.Spec PyProof.Rows L2 Evl
/-- an assignment whose value is told in cases -/
theorem q_asgG2 {te : TE} {g : TG} {tz : TS} {D : Ends} {σ : L2.St} {H : Hp} (P : L2.St → Hp → Prop) (h : ∀ T : L2.St → Hp → Prop, (∀ σ' H', P σ' H' → T σ' H') → te σ H fun v H1 => g v σ H1 T) (k : ∀ σ' H', P σ' H' → tz D σ' H') : tSeq (tAsg te g) tz D σ H := h _ k
theorem prs_hdsL {s D : Addr} {H : Hp} {xs : List V} {es : List Pr} {ys : List V} {B : Nat} (h : PrsV H xs es) (hs : Src H s B) (hD : H D = some (.lst ys)) : PrsV (hds [s, D] H) xs es := prs_hds h fun b hb => by
  rcases List.mem_cons.mp hb with rfl | hb
  · obtain ⟨x, y, z, h1, _⟩ := hs
    exact ⟨_, h1⟩
  · rw [List.mem_singleton.mp hb]
    exact ⟨_, hD⟩
end Os
namespace Os
open PySem PySem.Spec PyProof.Rows L2 Evl
/-- an if without else whose test draws -/
theorem q_ifD {t : TT} {tu tz : TS} {D : Ends} {σ : L2.St} {H : Hp} (P : L2.St → Hp → Prop) (h : ∀ D' : Ends, (∀ σ' H', P σ' H' → D'.nx σ' H') → tIfS t tu tNext D' σ H) (k : ∀ σ' H', P σ' H' → tz D σ' H') : tSeq (tIfS t tu tNext) tz D σ H := h { D with nx := tz D } k
theorem oldK {s : Addr} {B : Nat} {H0 H H' : Hp} (e : Ex H0 H) (ns : H0 s = none) (d : Drew s B H H') : Ex H0 H' := fun b o h =>
  d.get (ne_of_none h ns) (e _ _ h)
theorem fit_boolK : ∀ b : Bool, Fit sizeLine (.bool b)
  | true => ⟨by decide +kernel, by decide, by decide, by decide⟩
  | false => ⟨by decide +kernel, by decide, by decide, by decide⟩
end Os
namespace Os
open PySem PySem.Spec PyProof.Rows L2 Evl
/-! ### exact data, in a heap without some addresses -/
def EvX (L : List Addr) (d : PyData) (te : TE) (σ : L2.St) (H : Hp) : Prop := EvK L (fun G v => Dt G v d) te σ H
def EvXs (L : List Addr) (ds : List PyData) (ta : TA) (σ : L2.St) (H : Hp) : Prop := ∀ H1, Ex H H1 → ∀ Q : List V → Hp → Prop, (∀ vs H2, Ex H1 H2 → Dts (hds L H2) vs ds → Q vs H2) → ta σ H1 Q
/-- objects of some kind -/
def KP (P : PyData → Prop) (G : Hp) (v : V) : Prop := ∃ d, Dt G v d ∧ P d
theorem dt_upd (d : PyData) : Up (fun G v => Dt G v d) := fun _ _ _ e h => h.same (same_ex e)
theorem kp_up {P : PyData → Prop} : Up (KP P) := fun _ _ _ e ⟨d, h, p⟩ => ⟨d, h.same (same_ex e), p⟩
section
variable {K : PySem.W.Frag} {L : List Addr} {P : PyData → Prop} {σ : L2.St} {H H' : Hp} {ta tb te : TE} {tl tr : TA} {d : PyData} {ds a b : List PyData} {v : V}
theorem x_of (h : Ev te σ H v) (hd : Dt (hds L H) v d) : EvX L d te σ H := ek_of (dt_upd d) h hd
theorem x_int {i : Int} : EvX L (.int i) (tC (.int i)) σ H := x_of ev_c (.int i)
theorem x_bl {i : Bool} : EvX L (.bool i) (tC (.bl i)) σ H := x_of ev_c (.bl i)
theorem x_str {z : Str} : EvX L (.str z) (tC (.str z)) σ H := x_of ev_c (.str z)
theorem x_non : EvX L .none (tC .non) σ H := x_of ev_c .non
theorem xs_nil : EvXs L [] tNil σ H := fun H1 _ Q q => q [] H1 (Ex.refl _) .nil
theorem xs_cons (h : EvX L d te σ H) (hr : EvXs L ds tr σ H) : EvXs L (d :: ds) (tCons te tr) σ H := fun H1 e Q q =>
  h H1 e _ fun v H2 e2 r => hr H2 (e.trans e2) _ fun vs H3 e3 hv => q (v :: vs) H3 (e2.trans e3) (.cons (r.same (same_ex (hds_ex e3))) hv)
theorem x_tup (st : Stn L H) (h : EvXs L ds tl σ H) (hl : ds.length ≤ 1000) : EvX L (.tuple ds) (tTup tl) σ H := fun H1 e Q q =>
  h H1 e _ fun vs H2 e2 hv => ⟨by rw [hv.length]; exact sz_of (by omega), fun p hp => q (.ref p) _ (e2.trans (Ex.new hp)) (.tup ((st.ex (e.trans e2)).at hp upd_same) (hv.same (same_ex (hds_ex (Ex.new hp)))))⟩
theorem x_lst (st : Stn L H) (h : EvXs L ds tl σ H) (hl : ds.length ≤ 1000) : EvX L (.list ds) (tLst tl) σ H := fun H1 e Q q =>
  h H1 e _ fun vs H2 e2 hv => ⟨by rw [hv.length]; exact sz_of (by omega), fun p hp => q (.ref p) _ (e2.trans (Ex.new hp)) (.lst ((st.ex (e.trans e2)).at hp upd_same) (hv.same (same_ex (hds_ex (Ex.new hp)))))⟩
theorem x_list_inv {G : Hp} (h : Dt (hds L G) v (.list ds)) : ∃ p xs, v = .ref p ∧ G p = some (.lst xs) ∧ Dts (hds L G) xs ds := by
  cases h with
  | lst ha t => exact ⟨_, _, rfl, (hds_of ha).2, t⟩
theorem x_cat (st : Stn L H) (h1 : EvX L (.list a) ta σ H) (h2 : EvX L (.list b) tb σ H) (hl : a.length + b.length ≤ 10000) : EvX L (.list (a ++ b)) (tOp rCat ta tb) σ H := fun H1 e Q q =>
  h1 H1 e _ fun v1 H2 e2 d1 => h2 H2 (e.trans e2) _ fun v2 H3 e3 d2 => by
    obtain ⟨p, xs, rfl, hx, t1⟩ := x_list_inv (d1.same (same_ex (hds_ex e3)))
    obtain ⟨p', ys, rfl, hy, t2⟩ := x_list_inv d2
    refine ⟨p, p', xs, ys, rfl, rfl, hx, hy, sz_of (by rw [t1.length, t2.length]; omega), fun r hr => q (.ref r) _ ((e2.trans e3).trans (Ex.new hr)) (.lst ((st.ex ((e.trans e2).trans e3)).at hr upd_same) ((t1.app t2).same (same_ex (hds_ex (Ex.new hr)))))⟩
theorem x_tof (st : Stn L H) (h : EvX L (.list ds) ta σ H) : EvX L (.tuple ds) (tCB (fun xs H Q => ∃ p ys, xs = [V.ref p] ∧ ((SqL K H p ys ∧ ∀ l, H l = none → Q (.ref l) (upd H l (.tup ys))) ∨ (SqT K H p ys ∧ Q (.ref p) H))) (tCons ta tNil)) σ H := fun H1 e Q q =>
  h H1 e _ fun v H2 e2 d => by
    obtain ⟨p, xs, rfl, hx, t⟩ := x_list_inv d
    exact ⟨p, xs, rfl, .inl ⟨sq_of hx, fun r hr => q (.ref r) _ (e2.trans (Ex.new hr)) (.tup ((st.ex (e.trans e2)).at hr upd_same) (t.same (same_ex (hds_ex (Ex.new hr)))))⟩⟩
/-- a list known whole, its data too -/
theorem x_L (st : Stn L H) {xs : List V} (h : EvL te σ H xs) (hd : Dts (hds L H) xs ds) : EvX L (.list ds) te σ H := fun H1 e Q q =>
  h H1 e _ fun p H2 hp e2 hx => q (.ref p) H2 e2 (.lst ((st.ex e).at hp hx) (hd.same (same_ex (hds_ex (e.trans e2)))))
theorem x_is (h : EvX L a' te σ H) (e : a' = d) : EvX L d te σ H := e ▸ h
theorem ek_x (h : EvX L d te σ H) (p : P d) : EvK L (KP P) te σ H := fun H1 e Q q => h H1 e Q fun v H2 e2 r => q v H2 e2 ⟨d, r, p⟩
end
theorem kd_of {L D : Nat} {d : PyData} (h : (decide (d.shown.length ≤ L) && (decide (d.depth ≤ D) && (d.showable && (!d.hasDict && (d.canLay0 && decide (smx d ≤ 1000)))))) = true) : Kd L D d := by
  rw [Bool.and_eq_true, Bool.and_eq_true, Bool.and_eq_true, Bool.and_eq_true, Bool.and_eq_true] at h
  obtain ⟨h1, h2, h3, h4, h5, h6⟩ := h
  exact ⟨⟨of_decide_eq_true h1, of_decide_eq_true h2, h3, (Bool.not_eq_true' _).mp h4⟩, h5, of_decide_eq_true h6⟩
theorem kd_prD {e : Pr} (h1 : e.1 < 64) (h2 : e.2 < 64) : Kd 147 1 (prD e) := Kd.tup (m := 2) (fun d hd => by
  rcases List.mem_cons.mp hd with rfl | hd
  · exact Kd.int h1
  · rw [List.mem_singleton.mp hd]
    exact Kd.int h2) (Nat.le_refl _)
theorem kd_prs {es : List Pr} (h : ∀ e ∈ es, e.1 < 64 ∧ e.2 < 64) : ∀ d ∈ es.map prD, Kd 147 1 d := fun d hd => by
  obtain ⟨e, he, rfl⟩ := List.mem_map.mp hd
  exact kd_prD (h e he).1 (h e he).2
theorem kd_pair {L D : Nat} {a b : PyData} (h1 : Kd L D a) (h2 : Kd L D b) : Kd (3 + (L + 2) * 2) (D + 1) (.tuple [a, b]) := Kd.tup (m := 2) (fun d hd => by
  rcases List.mem_cons.mp hd with rfl | hd
  · exact h1
  · rw [List.mem_singleton.mp hd]
    exact h2) (Nat.le_refl _)
end Os
/-! orders among any objects; sorted pairs of whole numbers of any size -/
namespace Os
open PySem PySem.Spec PyProof.Rows L2 Evl
open PySem.W (dataLe AllAlike Sortable)
theorem prDs_inj : ∀ {es fs : List Pr}, es.map prD = fs.map prD → es = fs
  | [], [], _ => rfl
  | [], _ :: _, h => nomatch h
  | _ :: _, [], h => nomatch h
  | e :: es, f :: fs, h => by
    rw [List.map_cons, List.map_cons] at h
    obtain ⟨h1, h2⟩ := List.cons.inj h
    rw [prD_inj h1, prDs_inj h2]
theorem eqv_prL : ∀ es fs : List Pr, PyData.eqvAll (es.map prD) (fs.map prD) = decide (es = fs)
  | [], [] => rfl
  | [], _ :: _ => rfl
  | _ :: _, [] => rfl
  | e :: es, f :: fs => by
    show (PyData.eqv (prD e) (prD f) && PyData.eqvAll (es.map prD) (fs.map prD)) = _
    rw [eqv_prs, eqv_prL es fs]
    by_cases h1 : e = f
    · subst h1
      rw [decide_eq_true rfl, Bool.true_and]
      exact decide_eq_decide.mpr ⟨fun h => by rw [h], fun h => (List.cons.inj h).2⟩
    · rw [decide_eq_false h1, Bool.false_and, decide_eq_false fun z => h1 (List.cons.inj z).1]
/-- a list of the edges, each once -/
def IsOrd (es : List Pr) (d : PyData) : Prop := ∃ os : List Pr, d = .list (os.map prD) ∧ os.Perm es
noncomputable def ordB (es : List Pr) (d : PyData) : Bool := @decide (IsOrd es d) (Classical.propDecidable _)
theorem ordB_yes {es : List Pr} {d : PyData} (h : IsOrd es d) : ordB es d = true := @decide_eq_true _ (Classical.propDecidable _) h
theorem ordB_no {es : List Pr} {d : PyData} (h : ¬ IsOrd es d) : ordB es d = false := @decide_eq_false _ (Classical.propDecidable _) h
theorem ordB_of {es : List Pr} {d : PyData} (h : ordB es d = true) : IsOrd es d := @of_decide_eq_true _ (Classical.propDecidable _) h
theorem ordB_pr (es os : List Pr) : ordB es (.list (os.map prD)) = os.isPerm es := by
  cases h : os.isPerm es with
  | true => exact ordB_yes ⟨os, rfl, List.isPerm_iff.mp h⟩
  | false =>
    refine ordB_no fun ⟨fs, e, p⟩ => ?_
    rw [prDs_inj (PyData.list.inj e), List.isPerm_iff.mpr p] at h
    cases h
/-! ### pairs of whole numbers -/
abbrev IP := Int × Int
def ipD (e : IP) : PyData := .tuple [.int e.1, .int e.2]
def toIP (e : Pr) : IP := ((e.1 : Int), (e.2 : Int))
def ip2 : PyData → Bool
  | .tuple [.int _, .int _] => true
  | _ => false
theorem ip2_is {d : PyData} (h : ip2 d = true) : ∃ e : IP, d = ipD e := by
  unfold ip2 at h
  split at h
  · exact ⟨(_, _), rfl⟩
  · cases h
theorem ip2_all : ∀ {ds : List PyData}, (∀ d ∈ ds, ip2 d = true) → ∃ bs : List IP, ds = bs.map ipD
  | [], _ => ⟨[], rfl⟩
  | d :: ds, h => by
    obtain ⟨e, he⟩ := ip2_is (h d List.mem_cons_self)
    obtain ⟨bs, hb⟩ := ip2_all (ds := ds) fun x hx => h x (List.mem_cons_of_mem _ hx)
    exact ⟨e :: bs, by rw [he, hb]; rfl⟩
theorem ipD_pr (e : Pr) : ipD (toIP e) = prD e := rfl
theorem ipDs_pr (es : List Pr) : es.map prD = (es.map toIP).map ipD := by
  rw [List.map_map]
  rfl
theorem toIP_inj {e f : Pr} (h : toIP e = toIP f) : e = f := by
  have h1 := congrArg Prod.fst h
  have h2 := congrArg Prod.snd h
  have h1 : (e.1 : Int) = f.1 := h1
  have h2 : (e.2 : Int) = f.2 := h2
  exact Prod.ext (by omega) (by omega)
theorem ipD_inj {e f : IP} (h : ipD e = ipD f) : e = f := by
  unfold ipD at h
  injection h with h
  injection h with h1 h
  injection h with h2 _
  injection h1 with h1
  injection h2 with h2
  exact Prod.ext h1 h2
theorem eqv_ip (e f : IP) : PyData.eqv (ipD e) (ipD f) = decide (e = f) := by
  have h : PyData.eqv (ipD e) (ipD f) = (e.1 == f.1 && (e.2 == f.2 && true)) := by
    simp [ipD, PyData.eqv, PyData.eqvAll]
  rw [h, Bool.and_true]
  by_cases h1 : e.1 = f.1
  · by_cases h2 : e.2 = f.2
    · rw [decide_eq_true (Prod.ext h1 h2), h1, h2, beq_self_eq_true, beq_self_eq_true]
      rfl
    · rw [decide_eq_false (fun z => h2 (congrArg Prod.snd z)), beq_eq_false_iff_ne.mpr h2, Bool.and_false]
  · rw [decide_eq_false (fun z => h1 (congrArg Prod.fst z)), beq_eq_false_iff_ne.mpr h1, Bool.false_and]
theorem eqv_ips : ∀ as bs : List IP, PyData.eqvAll (as.map ipD) (bs.map ipD) = decide (as = bs)
  | [], [] => rfl
  | [], _ :: _ => rfl
  | _ :: _, [] => rfl
  | e :: es, f :: fs => by
    show (PyData.eqv (ipD e) (ipD f) && PyData.eqvAll (es.map ipD) (fs.map ipD)) = _
    rw [eqv_ip, eqv_ips es fs]
    by_cases h1 : e = f
    · subst h1
      rw [decide_eq_true rfl, Bool.true_and]
      exact decide_eq_decide.mpr ⟨fun h => by rw [h], fun h => (List.cons.inj h).2⟩
    · rw [decide_eq_false h1, Bool.false_and, decide_eq_false fun z => h1 (List.cons.inj z).1]
theorem ip_le (p q : IP) : dataLe false ipD p q = decide (p.1 < q.1 ∨ (p.1 = q.1 ∧ p.2 ≤ q.2)) := congrFun (congrFun (PySem.W.dataLe_ii (β := IP) Prod.fst Prod.snd) p) q
theorem ip_alike (L : List IP) : AllAlike (L.map ipD) := AllAlike.of fun p q => by simp [ipD, PySem.W.alike, PySem.W.alikeAll]
theorem ip_sortable (L : List IP) : Sortable (L.map ipD) := Sortable.tuples fun q => ⟨_, _, rfl⟩
theorem ip_depth (q : IP) : (ipD q).depth ≤ 40 := by simp [ipD, PyData.depth, PyData.depthAll]
def ordIP (L : List IP) : List IP := L.mergeSort (dataLe false ipD)
theorem ordIP_perm (L : List IP) : (ordIP L).Perm L := List.mergeSort_perm L _
theorem ordIP_asc (L : List IP) : (ordIP L).Pairwise fun p q => dataLe false ipD p q = true := PySem.W.sort_pairwise (PySem.W.sortLe_total _ false _) L
theorem perm_map_of {bs : List IP} {es : List Pr} (p : bs.Perm (es.map toIP)) : ∃ os : List Pr, bs = os.map toIP ∧ os.Perm es := by
  refine ⟨bs.map fun b => (b.1.toNat, b.2.toNat), ?_, ?_⟩
  · rw [List.map_map]
    refine (List.map_id bs).symm.trans (List.map_congr_left fun b hb => ?_)
    obtain ⟨e, _, rfl⟩ := List.mem_map.mp (p.mem_iff.mp hb)
    rfl
  · have h := p.map fun b : IP => (b.1.toNat, b.2.toNat)
    rw [List.map_map] at h
    have e : es.map ((fun b : IP => (b.1.toNat, b.2.toNat)) ∘ toIP) = es := (List.map_congr_left fun b _ => rfl).trans (List.map_id es)
    rwa [e] at h
/-- sorted, then compared with the edges -/
theorem ordIP_is {bs : List IP} {es : List Pr} (asc : es.Pairwise fun e f => ltP e f = true) : decide (ordIP bs = es.map toIP) = ordB es (.list (bs.map ipD)) := by
  by_cases h : IsOrd es (.list (bs.map ipD))
  · rw [ordB_yes h]
    obtain ⟨os, e, p⟩ := h
    have e2 : bs = os.map toIP := by
      have e := PyData.list.inj e
      rw [ipDs_pr] at e
      exact List.map_inj_right (fun a b h => ipD_inj h) |>.mp e
    refine decide_eq_true (List.Perm.eq_of_pairwise (fun a b _ _ x y => ?_) (ordIP_asc bs) ?_ ((ordIP_perm bs).trans (by rw [e2]; exact p.map toIP)))
    · rw [ip_le] at x y
      have x := of_decide_eq_true x
      have y := of_decide_eq_true y
      exact Prod.ext (by omega) (by omega)
    · refine List.pairwise_map.mpr (asc.imp fun {e f} l => ?_)
      rw [ip_le]
      rw [ltP_iff] at l
      refine decide_eq_true ?_
      show ((e.1 : Int) < f.1 ∨ ((e.1 : Int) = f.1 ∧ (e.2 : Int) ≤ f.2))
      omega
  · rw [ordB_no h]
    refine decide_eq_false fun z => h ?_
    obtain ⟨os, e, p⟩ := perm_map_of (bs := bs) (es := es) (by rw [← z]; exact (ordIP_perm bs).symm)
    exact ⟨os, by rw [e, List.map_map]; rfl, p⟩
theorem sh_ips (L : List IP) : Sh 2 (.list (L.map ipD)) := .lst fun d hd => by
  obtain ⟨e, _, rfl⟩ := List.mem_map.mp hd
  refine .tup fun x hx => ?_
  rcases List.mem_cons.mp hx with rfl | hx
  · exact .int 0 _
  · rw [List.mem_singleton.mp hx]
    exact .int 0 _
section
variable {K : PySem.W.Frag} {H : Hp}
/-- sorted of pairs of whole numbers -/
theorem sort_ip {a : Addr} {xs : List V} {L : List IP} {Q : VK} (ha : H a = some (.lst xs)) (hp : Dts H xs (L.map ipD)) (few : L.length ≤ 100000)
    (q : ∀ p ys, H p = none → Dts (L2.upd H p (.lst ys)) ys ((ordIP L).map ipD) → Q (.ref p) (L2.upd H p (.lst ys))) : rSortE K ipD [.ref a] H Q := by
  have lx : xs.length = L.length := by rw [hp.length, List.length_map]
  refine ⟨a, xs, L, rfl, ha, hp, fun x hx => ?_, ip_alike L, ip_sortable L, fun b _ => ip_depth b, by rw [lx]; exact few, fun ys p yl at' hpn => q p ys hpn (Dts.same (same_ex (Ex.new hpn)) (dts_at (by rw [List.length_map, yl, (ordIP_perm L).length_eq]) fun j y d hy hd => ?_))⟩
  · obtain ⟨i, hi⟩ := List.mem_iff_getElem?.mp hx
    obtain ⟨d, hd, dt⟩ := hp.at2 hi
    rw [List.getElem?_map] at hd
    obtain ⟨e, _, rfl⟩ := Option.map_eq_some_iff.mp hd
    have dt : Dt H x (.tuple [.int e.1, .int e.2]) := dt
    cases dt with
    | tup h t => exact ⟨_, rfl⟩
  · obtain ⟨i, b, h1, h2, h3⟩ := at' j y hy
    have h3' : (ordIP L)[j]? = some b := h3
    rw [List.getElem?_map, h3'] at hd
    cases hd
    obtain ⟨d, hd, dt⟩ := hp.at2 h1
    rw [List.getElem?_map, h2] at hd
    cases hd
    exact dt
where dts_at : ∀ {xs : List V} {ds : List PyData}, xs.length = ds.length → (∀ (i : Nat) (x : V) (d : PyData), xs[i]? = some x → ds[i]? = some d → Dt H x d) → Dts H xs ds
  | [], [], _, _ => .nil
  | [], _ :: _, h, _ => nomatch h
  | _ :: _, [], h, _ => nomatch h
  | x :: xs, d :: ds, h, k => .cons (k 0 x d rfl rfl) (dts_at (Nat.succ.inj h) fun i y e hy he => k (i + 1) y e hy he)
end
end Os
namespace Os
open PySem PySem.Spec PyProof.Rows L2 Evl
theorem prs_ofD {G : Hp} : ∀ {es : List Pr} {xs : List V}, Dts G xs (es.map prD) → PrsV G xs es
  | [], _, .nil => .nil
  | e :: es, _, .cons h t => by
    refine .cons ?_ (prs_ofD t)
    have h : Dt G _ (.tuple [.int (e.1 : Int), .int (e.2 : Int)]) := h
    cases h with
    | tup ha hs =>
      cases hs with
      | cons a b =>
        cases b with
        | cons b c =>
          cases a
          cases b
          cases c
          exact ⟨_, rfl, ha⟩
theorem dts_zip {G : Hp} : ∀ {zs : List (V × PyData)}, (∀ z ∈ zs, Dt G z.1 z.2) → Dts G (zs.map Prod.fst) (zs.map Prod.snd)
  | [], _ => .nil
  | _ :: _, h => .cons (h _ List.mem_cons_self) (dts_zip fun y hy => h y (List.mem_cons_of_mem _ hy))
theorem dts_sel {G : Hp} {xs : List V} {ds : List PyData} (h : Dts G xs ds) (p : PyData → Bool) : Dts G (given xs.length (fun i => p (ds.getD i .none)) fun i => xs.getD i .non) (ds.filter p) := by
  have l := h.length
  have zl : (xs.zip ds).length = xs.length := by rw [List.length_zip]; omega
  have e1 : given xs.length (fun i => p (ds.getD i .none)) (fun i => xs.getD i .non) = ((xs.zip ds).filter (p ∘ Prod.snd)).map Prod.fst := by
    rw [← zl]
    refine given_filter Prod.fst (p ∘ Prod.snd) _ _ (xs.zip ds) (fun i z e => ?_) (fun i z e => ?_)
    · obtain ⟨_, e2⟩ := List.getElem?_zip_eq_some.mp e
      show p (ds.getD i .none) = p z.2
      rw [List.getD_eq_getElem?_getD, e2]
      rfl
    · obtain ⟨e1, _⟩ := List.getElem?_zip_eq_some.mp e
      rw [List.getD_eq_getElem?_getD, e1]
      rfl
  have e2 : ds.filter p = ((xs.zip ds).filter (p ∘ Prod.snd)).map Prod.snd := by
    rw [← List.filter_map, List.map_snd_zip (by omega)]
  rw [e1, e2]
  refine dts_zip fun z hz => ?_
  obtain ⟨i, hi⟩ := List.mem_iff_getElem?.mp (List.mem_filter.mp hz).1
  obtain ⟨a1, a2⟩ := List.getElem?_zip_eq_some.mp hi
  obtain ⟨d, hd, dt⟩ := h.at2 a1
  rw [a2] at hd
  cases hd
  exact dt
theorem canLay_of : ∀ {ds : List PyData}, PyData.canLayAll0 ds = true → ∀ d ∈ ds, PyData.canLay0 d = true
  | d :: ds, h, x, hx => by
    have h : (PyData.canLay0 d && PyData.canLayAll0 ds) = true := h
    rw [Bool.and_eq_true] at h
    rcases List.mem_cons.mp hx with rfl | hx
    · exact h.1
    · exact canLay_of h.2 x hx
theorem depth_of : ∀ {ds : List PyData}, ∀ d ∈ ds, d.depth ≤ PyData.depthAll ds
  | d :: ds, x, hx => by
    show x.depth ≤ max d.depth (PyData.depthAll ds)
    rcases List.mem_cons.mp hx with rfl | hx
    · omega
    · have := depth_of (ds := ds) x hx
      omega
theorem sh_item {n : Nat} {ds : List PyData} (h : Sh n (.list ds)) : ∀ d ∈ ds, Sh n d := fun d hd => ⟨canLay_of h.lay d hd, by
  have h2 : PyData.depthAll ds + 1 ≤ n := h.deep
  have := depth_of d hd
  omega⟩
theorem sh_itemT {n : Nat} {ds : List PyData} (h : Sh n (.tuple ds)) : ∀ d ∈ ds, Sh n d := fun d hd => ⟨canLay_of h.lay d hd, by
  have h2 : PyData.depthAll ds + 1 ≤ n := h.deep
  have := depth_of d hd
  omega⟩
theorem sh_partT {n : Nat} {ds : List PyData} (h : Sh n (.tuple ds)) (p : PyData → Bool) : Sh (n + 1) (.list (ds.filter p)) := Sh.lst fun d hd => sh_itemT h d (List.mem_filter.mp hd).1
theorem ev_neNil {K : PySem.W.Frag} {σ : L2.St} {H : Hp} {te : TE} {xs : List V} {ds : List PyData} (h : EvL te σ H xs) (hd : Dts H xs ds) (sh : SeqAt.shaped (.list ds) = true) :
    Ev (tOp (rNeD K) te (tLst tNil)) σ H (.bl (!ds.isEmpty)) := fun H1 e Q q => h H1 e _ fun p H2 hp e2 h2 => ⟨by decide, fun p' hp' => by
  have x3 := Ex.new (o := .lst []) hp'
  refine ⟨.list ds, .list [], Dt.dp (.lst (x3 _ _ h2) (hd.same (same_ex ((e.trans e2).trans x3)))), Dt.dp (.lst upd_same .nil), sh, by decide, ?_⟩
  have : PyData.eqv (.list ds) (.list []) = ds.isEmpty := by
    cases ds <;> rfl
  rw [this]
  exact q _ (e2.trans x3)⟩
theorem eqv_strL : ∀ as bs : List Str, PyData.eqvAll (as.map PyData.str) (bs.map PyData.str) = decide (as = bs)
  | [], [] => rfl
  | [], _ :: _ => rfl
  | _ :: _, [] => rfl
  | e :: es, f :: fs => by
    show (PyData.eqv (.str e) (.str f) && PyData.eqvAll (es.map PyData.str) (fs.map PyData.str)) = _
    rw [eqv_strL es fs, show PyData.eqv (.str e) (.str f) = (e == f) from rfl]
    by_cases h1 : e = f
    · subst h1
      rw [beq_self_eq_true, Bool.true_and]
      exact decide_eq_decide.mpr ⟨fun h => by rw [h], fun h => (List.cons.inj h).2⟩
    · rw [beq_eq_false_iff_ne.mpr h1, Bool.false_and, decide_eq_false fun z => h1 (List.cons.inj z).1]
end Os
namespace Os
open PySem PySem.Spec PyProof.Rows L2 Evl
theorem PrsV.drew {s : Addr} {B C : Nat} {H H' : Hp} {vs : List V} {es : List Pr} (h : PrsV H vs es) (hs : Src H s C) (d : Drew s B H H') : PrsV H' vs es := by
  induction h with
  | nil => exact .nil
  | cons x _ ih =>
    obtain ⟨t, rfl, ht⟩ := x
    refine .cons ⟨t, rfl, d.get (fun e => ?_) ht⟩ ih
    obtain ⟨x, y, z, h1, _⟩ := hs
    rw [e, h1] at ht
    cases ht
end Os
namespace K15
open PySem PySem.Spec PyProof.Rows L2 Os Evl
abbrev sIsOrd : Stmt := topS 29
theorem scIsOrd : FnScope ["forest", "thing", "n", "edges", "entry"] ["forest", "thing"] (defScope sIsOrd) := ⟨rfl, rfl, rfl, by decide +kernel, rfl, by decide +kernel, by decide +kernel⟩
theorem edge_is {n : Int} {d : PyData} (h : edgeB n d = true) : ∃ e : Pr, d = Os.prD e ∧ (e.1 : Int) < n ∧ (e.2 : Int) < n ∧ e.1 < e.2 := by
  unfold edgeB at h
  split at h
  · rename_i p q
    rw [Bool.and_eq_true, Bool.and_eq_true] at h
    obtain ⟨h1, h2, h3⟩ := h
    have h1 : (decide (0 ≤ p) && decide (p < n)) = true := h1
    have h2 : (decide (0 ≤ q) && decide (q < n)) = true := h2
    rw [Bool.and_eq_true] at h1 h2
    have a1 := of_decide_eq_true h1.1
    have a2 := of_decide_eq_true h1.2
    have a3 := of_decide_eq_true h2.1
    have a4 := of_decide_eq_true h2.2
    have a5 := of_decide_eq_true h3
    obtain ⟨i, rfl⟩ : ∃ i : Nat, p = (i : Int) := ⟨p.toNat, by omega⟩
    obtain ⟨j, rfl⟩ : ∃ j : Nat, q = (j : Int) := ⟨q.toNat, by omega⟩
    exact ⟨(i, j), rfl, a2, a4, show i < j by omega⟩
  · cases h
theorem edges_all {n : Int} : ∀ {ds : List PyData}, ds.all (edgeB n) = true → ∃ os : List Pr, ds = os.map Os.prD ∧ ∀ e ∈ os, (e.1 : Int) < n ∧ (e.2 : Int) < n
  | [], _ => ⟨[], rfl, fun _ h => nomatch h⟩
  | d :: ds, h => by
    rw [List.all_cons, Bool.and_eq_true] at h
    obtain ⟨e, rfl, h1, h2, _⟩ := edge_is h.1
    obtain ⟨os, rfl, h3⟩ := edges_all h.2
    refine ⟨e :: os, rfl, fun f hf => ?_⟩
    rcases List.mem_cons.mp hf with rfl | hf
    · exact ⟨h1, h2⟩
    · exact h3 f hf
theorem not_ord {n : Nat} {es : List Pr} {ds : List PyData} (ok : IsForest n es) (h : ds.all (edgeB (n : Int)) = false) : ordB es (.list ds) = false := ordB_no fun ⟨os, e, p⟩ => by
  have : ds.all (edgeB (n : Int)) = true := by
    rw [PyData.list.inj e, List.all_eq_true]
    intro d hd
    obtain ⟨f, hf, rfl⟩ := List.mem_map.mp hd
    exact edge_ok ok (p.mem_iff.mp hf)
  rw [h] at this
  cases this
theorem ord_val {G : Hp} {v : V} {os : List Pr} (h : Dt G v (.list (os.map Os.prD))) : OrdV G v os := by
  cases h with
  | lst ha t => exact ⟨_, _, rfl, ha, prs_ofD t⟩
theorem isord_pr {os es : List Pr} (h : IsOrd es (.list (os.map Os.prD))) : os.Perm es := by
  obtain ⟨fs, e, p⟩ := h
  rw [prDs_inj (PyData.list.inj e)]
  exact p
section
variable {P : Program} {w : World} {K : PySem.W.Frag} {mg : Str → Option Value} {base : Heap}
def spIOd : Sp := fun vs H Q _ => ∃ (v o : V) (n : Nat) (es : List Pr) (d : PyData), vs = [v, o] ∧ GraphV H v n es ∧ IsForest n es ∧ Dt H o d ∧ ShL d ∧ ∀ H', Ex H H' → Q (.bl (ordB es d)) H'
theorem ok_isord {f fE : Addr} {fd fdE : FuncData} {k : Nat} (F : Fun K "is_order" "is_order" sIsOrd f fd)
    (GE : FnOk P w K mg base CX0 k fE fdE ["n", "thing"] spEdge) (FE : Fun K "is_edge" "is_edge" sEdge fE fdE) (bE : Binds K fdE ["n", "thing"] []) (gE : mg "is_edge" = some (.ref fE))
    (mIsi : mg "isinstance" = none) (mList : mg "list" = none) (mAll : mg "all" = none) (mSorted : mg "sorted" = none) : FnOk P w K mg base CX0 (k + 1) f fd ["forest", "thing"] spIOd := by
  refine F.ok scIsOrd (fun vs H Q E h => ?_) (fun cdv A outer s H vs Q E hr h => ?_)
  · obtain ⟨v, o, n, es, os, rfl, _⟩ := h
    rfl
  · obtain ⟨v, o, n, es, d, rfl, hg, ok, hd, sh, q⟩ := h
    refine ⟨_, (pss_cons (ps_asg (pv 0) (pg_tup rfl (pgs_cons (pg_name (i := 2) scIsOrd.nd rfl (Or.inr rfl)) (pgs_cons (pg_name (i := 3) scIsOrd.nd rfl (Or.inl rfl)) pgs_nil))))
      (pss_cons (ps_if (PW.pt (pw_or (pt_not (pt_val (pe_callB call_isi (by rfl) mIsi boot_isinstance (pa_cons (pv 1) (pa_cons (pe_bltn (v := .ty "list") (by rfl) mList boot_list rfl) pa_nil))))) (pw_or1 (pt_not (pt_val (pe_callB (cr_all rfl) (by rfl) mAll boot_all (pa_cons (pe_lc (own := [("entry", 4)]) (g := gName 4) (tt := tYes) rfl scIsOrd.nd (pi_list (pv 1)) (blkOk_by (N := ["forest", "thing", "n", "edges", "entry"]) (sc := defScope sIsOrd) (by decide +kernel)) (fun _ _ _ _ _ => pg_name (i := 4) scIsOrd.nd rfl (Or.inl rfl)) (fun _ _ _ _ _ => pts_nil) (fun _ _ _ _ _ => (pe_call GE hr (by rfl) gE FE.kp bE .nil pass0 (pa_cons (pv 2) (pa_cons (pv 4) pa_nil))))) pa_nil))))))) (pss_one (ps_ret pe_bl)) pss_nil)
      (pss_one (ps_ret (pe_cmpR (op_eqD hr.units) (pe_callB (cr_sortE ipD hr.units) (by rfl) mSorted boot_sorted (pa_cons (pv 1) pa_nil)) (pv 3) (nomark _)))))), ?_⟩
    obtain ⟨g, a, xs, rfl, h2, h3, h4⟩ := hg
    have few := ok.few
    have small : ∀ e ∈ es, e.1 < 64 ∧ e.2 < 64 := fun e he => by have := ok.edges.inn e he; have := ok.n40; omega
    refine ⟨.ref g, rfl, g, _, rfl, st_of h2, rfl, .int (n : Int), _, rfl, .ref a, [], rfl, rfl, ?_⟩
    rcases hd.list_or with ⟨b, ys, ds, rfl, hb, ht, rfl⟩ | hn
    · have hlen := ht.length
      have hl : ds.length ≤ 1000 := sh
      refine q_when (b := !true || !(ds.all (edgeB (n : Int)))) (et_or (et_not (et_B (ev_isi (ev_var rfl) hd (kit_list _)))) fun _ => et_not (et_B (ev_is (ev_all (bs := ds.map (edgeB (n : Int))) ?_) (by rw [List.all_map]; rfl)))) (fun hb0 H1 e1 => ?_) (fun hb0 H1 e1 => ?_)
      · rw [List.map_map, ← given_map ds (V.bl ∘ edgeB (n : Int)) (fun i => .bl (edgeB (n : Int) (ds.getD i .none))) (fun i x e => by
          rw [List.getD_eq_getElem?_getD, e]
          rfl), ← hlen]
        refine el_lcL (f := fun _ => true) (v := _) (ev_var rfl) (sq_of hb) (by omega) (fun _ => rfl) (fun i c H2 _ _ => fun H3 e3 Q q => q H3 (Ex.refl H3)) (fun i x H4 e4 hx _ => ?_)
        obtain ⟨d1, hd1, dt1⟩ := ht.at2 hx
        rw [List.getD_eq_getElem?_getD, hd1]
        exact ev_sp (ea_cons (ev_var rfl) (ea_cons (ev_var rfl) ea_nil)) fun H5 e5 Q q => ⟨(n : Int), x, d1, rfl, dt1.same (same_ex (e4.trans e5)), fun H6 e6 => q H6 e6⟩
      · have hb1 : ds.all (edgeB (n : Int)) = false := by simpa using hb0
        refine s_ret (v := .bl false) ev_c fun H2 e2 => ?_
        rw [← not_ord ok hb1]
        exact q H2 (e1.trans e2)
      · have hb1 : ds.all (edgeB (n : Int)) = true := by simpa using hb0
        obtain ⟨os, rfl, inn⟩ := edges_all hb1
        have n40 := ok.n40
        have lo : os.length ≤ 1000 := by rw [List.length_map] at hl; exact hl
        have ht2 : Dts H1 ys ((os.map toIP).map ipD) := by
          rw [← ipDs_pr]
          exact ht.same (same_ex e1)
        refine cb_one (te := tVar 1) (r := rSortE K ipD) ⟨.ref b, rfl, sort_ip (K := K) (e1 _ _ hb) ht2 (by rw [List.length_map]; omega) fun p ys' hp hys => ?_⟩
        have x1 := Ex.new (o := .lst ys') hp
        refine ⟨.ref a, rfl, .list ((ordIP (os.map toIP)).map ipD), .list (es.map Os.prD), Dt.dp (.lst upd_same hys), Dt.dp (.lst (x1 _ _ (e1 _ _ h3)) (h4.ex (e1.trans x1)).dts), (sh_ips _).shaped (by decide), (sh_prs es).shaped (by decide), ?_⟩
        have ee : PyData.eqv (.list ((ordIP (os.map toIP)).map ipD)) (.list (es.map Os.prD)) = ordB es (.list (os.map Os.prD)) := by
          show PyData.eqvAll ((ordIP (os.map toIP)).map ipD) (es.map Os.prD) = _
          rw [ipDs_pr es, eqv_ips, ordIP_is ok.edges.asc, ← ipDs_pr]
        rw [ee]
        exact q _ (e1.trans x1)
    · refine q_when (b := true) (et_is (et_or (b := true) (et_not (et_B (ev_isi (ev_var rfl) hd (kit_list _)))) fun hs => ?_) ?_) (fun _ H1 e1 => ?_) (fun h => nomatch h)
      · rw [hn] at hs
        cases hs
      · rw [hn]
        rfl
      · have : ordB es d = false := ordB_no fun ⟨os, e, _⟩ => by
          rw [e] at hn
          cases hn
        refine s_ret (v := .bl false) ev_c fun H2 e2 => ?_
        rw [← this]
        exact q H2 (e1.trans e2)
end
end K15
/-! an own exception that a clause caught, held as a value: a tracked object; isinstance of it -/
namespace L2
open PySem PySem.Spec PyProof.Rows
/-- the exception at a: its class, its dict -/
def XO (cls : Value) (d : Option Addr) (a : Addr) : HO := .ext fun h => ∃ (oe : Obj) (vs : Array Value), h.get? a = some oe ∧ Zc cls d oe ∧ oe.data = .fields vs
section
variable {X : Cx} {pins : List (Addr × Obj)} {σ : St} {H : Hp} {s : Shared}
theorem Inv.own {a : Addr} {oe : Obj} {vs : Array Value} {cls : Value} {d : Option Addr} (I : Inv X pins σ H s) (ha : s.heap.get? a = some oe) (hz : Zc cls d oe) (hd : oe.data = .fields vs) (na : H a = none) (nL : a ≠ X.env.locals)
    (n0 : ∀ o, X.s_0.heap.get? a ≠ some o) (np : ∀ p ∈ X.pn ++ pins, p.1 ≠ a) : Inv (X.suite a (X.pn ++ pins)) [] σ (upd H a (XO cls d a)) s where
  ok := I.ok.suite _ _
  os := I.os
  bare := I.bare
  base := ⟨I.base.keep, I.base.slot, fun b o e n hx => by
      have nb : b ≠ a := fun z => n0 o (by rw [← z]; exact e)
      rw [upd_ne nb]
      exact I.base.free b o e n hx, I.base.there,
    fun b xs q => by
      have h := I.base.tups b xs q
      rw [upd_ne (ne_of_none h na)]
      exact h, fun b o u q => by
      have h := I.base.frzs b o u q
      rw [upd_ne (ne_of_none h na)]
      exact h, fun b ps q => by
      obtain ⟨m, h⟩ := I.base.tbls b ps q
      exact ⟨m, by rw [upd_ne (ne_of_none h na)]; exact h⟩⟩
  loc := I.loc
  cell := I.cell
  free := by
    rw [upd_ne (fun z => nL z.symm)]
    exact I.free
  freeC := fun x c e => by
    rw [upd_ne]
    · exact I.freeC x c e
    · intro z
      obtain ⟨v, o, e1, e2⟩ := I.cell x c e
      rw [z, ha] at e1
      cases e1
      rw [hd] at e2
      first | (cases e2; done) | exact nomatch e2.2 | exact nomatch e2.1
  pin := fun p hp => by
    have hp' : p ∈ X.pn ++ pins := by rw [List.append_nil] at hp; exact hp
    obtain ⟨e, n, r⟩ := I.pin p hp'
    exact ⟨e, by rw [upd_ne (np p hp')]; exact n, r⟩
  hok := fun b u e => by
    by_cases hb : b = a
    · subst hb
      rw [upd_same] at e
      cases e
      exact ⟨⟨oe, vs, ha, hz, hd⟩, ⟨oe, ha⟩, fun _ _ ⟨o, v, q, r⟩ k => ⟨o, v, k o q, r⟩⟩
    · rw [upd_ne hb] at e
      exact (I.hok b u e).stay (fun c v _ q => q) (fun c q => by rw [upd_ne (ne_of_none q na)]; exact q) fun c xs q => by rw [upd_ne (ne_of_none q na)]; exact q
  len := I.len
theorem Inv.unown {a : Addr} {pn' : List (Addr × Obj)} (I : Inv (X.suite a (X.pn ++ pins)) pn' σ H s) (ok : X.Ok) : Inv X pins σ H s :=
  ⟨ok, I.os, I.bare, I.base, I.loc, I.cell, I.free, I.freeC, fun p hp => I.pin p (List.mem_append_left _ hp), I.hok, I.len⟩
end
/-- what the clause 'except x as n' wishes of an exception of the body, the exception tracked -/
def wOwn (K : PySem.W.Frag) (c : Value) (i : Nat) (ts : TS) (Wout : WX) (D : Ends) : WX := fun cls d σ H =>
  ∃ b, PySem.W.exmOne K cls c = some b ∧ (b = true → ∀ a, H a = none → ts { nx := fun σ' H' => D.nx (σ'.set i none) H', rt := D.rt, bk := fun σ' H' => D.bk (σ'.set i none) H', ct := fun σ' H' => D.ct (σ'.set i none) H' } (σ.set i (some (.ref a))) (upd H a (XO cls d a))) ∧
    (b = false → Wout cls d σ H)
section
variable {X : Cx} {x n : Str} {c : Value} {i : Nat} {body suite : List Stmt} {b₀ : Stmt} {np pos pos' : Pos} {tb : WX → TS} {ts : TS} {Wout : WX}
theorem ps_try_own (hs : X.stack = X.env :: X.outer) (hf : X.env.frame = some X.env.locals) (hN : X.N.Nodup) (hi : X.N[i]? = some n) (hln : X.env.kindOf n = some .local) (hc : Names X x c) (hex : X.ex = []) (tk : Takes X Wout)
    (hb : ∀ (W : WX) (pn : List (Addr × Obj)) (xe : Value → Shared → Prop), Takes (X.tr pn xe) W → PassesOwn (model X.prog X.w) X.A X.env xe → PSs (X.tr pn xe) body (tb W))
    (hsu : ∀ (a : Addr) (pn : List (Addr × Obj)), PSs (X.suite a pn) (b₀ :: suite) ts) :
    PS X (.Try body [.ExceptHandler (some (.Name x np)) (some n) (b₀ :: suite) pos'] [] [] pos) (fun D σ H => tb (wOwn X.K c i ts Wout D) D σ H) := by
  refine ⟨fun pins s σ H D I h => ?_⟩
  have ok := I.ok
  have hfr : X.A.frames = some (X.env :: X.outer) := by rw [ok.frames, hs]
  have hloc : Loc X.env.scope n := .inl hln
  refine wpAny_Try_except ?_
  refine wpAny_mono ((hb (wOwn X.K c i ts Wout D) (X.pn ++ pins) (fun e s₁ => wpAny (model X.prog X.w) X.A (noteFrame e X.env) (fun _ s₂ => wpAny (model X.prog X.w) X.A (setFlight e none) (fun _ s₃ =>
    wpAny (model X.prog X.w) X.A (handleBy e X.env [.ExceptHandler (some (.Name x np)) (some n) (b₀ :: suite) pos']) (SP X pins D) X.xe s₃) X.xe s₂) X.xe s₁) (fun u s' xx => ?_) PassesOwn.looking).run [] s σ H D (I.toTry _) h) (fun f s1 hsp => ?_) (fun e s1 he => he)
  · -- the catch
    obtain ⟨a, B, sI, pins', σ', H', cls, d, rfl, J', nb, up, sky, na, os, ag, b, hb1, hyes, hno⟩ := xx
    have J : Inv X pins σ' H' sI := J'.ofTry ok
    have sky' : Sky B (X.env :: X.outer) a (Zc cls d) X.env.locals s'.heap := by rw [← hs]; exact sky
    have Ba : B.get? a = none := by
      rcases sky' with ⟨_, z, _⟩ | ⟨_, z, _⟩ | ⟨_, z, _⟩ <;> exact z
    show wpAny _ X.A (noteFrame (.ref a) X.env) _ _ _
    refine Sky.land Zc.steady hfr hf sky' fun h3 fl3 up3 => ?_
    have J3 : Inv X pins σ' H' { s' with heap := h3 } := J.landed nb fl3.1 (up.trans up3) os ag
    obtain ⟨oe3, vs3, he3, hz3, hd3⟩ := fl3.there
    have notFr : ∀ {h : Heap} {o : Obj} {vs : Array Value}, h.FunFrames B (X.env :: X.outer) → h.get? a = some o → o.data = .fields vs → a ∉ frs (X.env :: X.outer) := fun {h o vs} ff e dd hm => by
      obtain ⟨_, o', e', hnf⟩ := ff.mem hm
      rw [e] at e'; cases e'
      exact hnf _ dd
    have nfr := notFr fl3.2.2.1 he3 hd3
    have nL : a ≠ X.env.locals := fun z => nfr (List.mem_filterMap.mpr ⟨X.env, List.mem_cons_self, by rw [hf, z]⟩)
    have nF : a ∉ X.fs := fun hm => by
      obtain ⟨e, he, q⟩ := List.mem_filterMap.mp hm
      exact nfr (List.mem_filterMap.mpr ⟨e, List.mem_cons_of_mem _ he, q⟩)
    have nSI : ∀ o, sI.heap.get? a ≠ some o := fun o z => by
      have := nb a o z (by rw [hs]; exact nfr)
      rw [Ba] at this
      cases this
    have n0 : ∀ o, X.s_0.heap.get? a ≠ some o := fun o z => by
      obtain ⟨o', e'⟩ := J.base.there a o z (by rw [hex]; exact List.not_mem_nil)
      exact nSI o' e'
    have npin : ∀ p ∈ X.pn ++ pins, p.1 ≠ a := fun p hp z => nSI p.2 (by rw [← z]; exact (J.pin p hp).1)
    have S3 := J3.suite he3 hd3 na nL nF
    refine wpAny_handleBy_cons (codeAny_handlers_test ?_) (by intro q; cases q)
    have LT : PySem.W.Looks (model X.prog X.w) h3 (typeOf (.ref a)) cls := fun A Q E s k q => wpAny_typeOf_ref (k _ _ he3) (by rw [hz3.1]; exact q)
    have LM := PySem.W.exm_one (M := model X.prog X.w) (J3.kIn) LT hb1
    have test : ∀ {Q : Value → Shared → Prop} {E : Value → Shared → Prop}, Q c { s' with heap := h3 } → wpAny (model X.prog X.w) (X.A.mark (some (.ref a))) (eval (.Name x np) X.env) Q E { s' with heap := h3 } := fun {Q E} q => by
      obtain ⟨hg, hdbg, hm | ⟨hm, hv, hnn⟩⟩ := hc
      · exact ld_glob (X := X.suite a ((a, oe3) :: (X.pn ++ pins))) S3 hg hm q hdbg
      · exact ld_blt (X := X.suite a ((a, oe3) :: (X.pn ++ pins))) S3 hg hm hv q hnn hdbg
    refine test (LM.here ?_)
    cases b with
    | true =>
      refine codeAny_handlers_suite_as ?_
      refine HandSPX.lands_againZ fl3 fun h4 fl4 up4 => ?_
      have J4 : Inv X pins σ' H' { s' with heap := h4 } := J.landed nb fl4.1 ((up.trans up3).trans up4) os ag
      obtain ⟨oe4, vs4, he4, hz4, hd4⟩ := fl4.there
      have S4 := J4.own he4 hz4 hd4 na nL n0 npin
      refine store_ok (X := X.suite a (X.pn ++ pins)) (v := .ref a) S4 hN hi hloc rfl (fun s5 S5 => ?_) (.inr hln)
      refine wpAny_mono ((hsu a (X.pn ++ pins)).run [] s5 _ _ _ S5 (hyes rfl a na)) (fun f s6 hsp => ?_) (fun _ _ z => False.elim z)
      have end_ : ∀ {σ6 : St} {H6 : Hp} {Q : Shared → Prop}, Inv (X.suite a (X.pn ++ pins)) [] σ6 H6 s6 → (∀ s7, Inv X pins (σ6.set i none) H6 s7 → Q s7) →
          wpAny (model X.prog X.w) X.A (do bindName X.env n .none; unbindBehindTheSuite X.env n pos') (fun _ s7 => Q s7) X.xe s6 := fun {σ6 H6 Q} S6 hq => gone_ok (S6.unown ok) hN hi hln hq
      cases f with
      | next =>
        obtain ⟨σ6, H6, S6, q6⟩ := hsp
        exact end_ S6 fun s7 J7 => ⟨_, _, J7, q6⟩
      | brk =>
        obtain ⟨σ6, H6, S6, q6⟩ := hsp
        exact end_ S6 fun s7 J7 => ⟨_, _, J7, q6⟩
      | cont =>
        obtain ⟨σ6, H6, S6, q6⟩ := hsp
        exact end_ S6 fun s7 J7 => ⟨_, _, J7, q6⟩
      | ret u =>
        obtain ⟨v6, σ6, H6, S6, r6, q6⟩ := hsp
        exact end_ S6 fun s7 J7 => ⟨_, _, _, J7, r6, q6⟩
    | false =>
      show wpAny _ X.A (handleBy (.ref a) X.env []) _ _ _
      refine wpAny_handleBy_nil ?_
      obtain ⟨k1, k2, k3, oe, vs, T, oT, ts', he, hz, hd, h1, hr⟩ := id fl3
      unfold PySem.passOn
      refine wpAny_bind (wpAny_field he hd h1 ?_)
      rw [if_neg (show ¬ ((Value.ref T == Value.none) = true) from by simp)]
      have fin : wpAny (model X.prog X.w) X.A (setFlight (.ref a) X.env.frame) (fun _ s4 => wpAny (model X.prog X.w) X.A (throw (.ref a) : Sem Flow) (SP X pins D) X.xe s4) X.xe { s' with heap := h3 } := by
        rw [hf]
        refine HandSPX.setFlight_upZ fl3 fun h4 hh4 up4 => wpAny_throw (tk _ _ ?_)
        exact ⟨a, B, sI, pins, σ', H', cls, d, rfl, J, nb, (up.trans up3).trans up4, .inr (.inr (by rw [hs]; exact hh4)), na, os, ag, hno rfl⟩
      first
        | exact wpAny_bind (wpAny_pure (wpAny_bind fin))
        | exact wpAny_bind fin
  · cases f with
    | next =>
      obtain ⟨σ', H', J', q⟩ := hsp
      exact wpAny_execs_nil ⟨σ', H', J'.ofTry ok, q⟩
    | brk =>
      obtain ⟨σ', H', J', q⟩ := hsp
      exact ⟨σ', H', J'.ofTry ok, q⟩
    | cont =>
      obtain ⟨σ', H', J', q⟩ := hsp
      exact ⟨σ', H', J'.ofTry ok, q⟩
    | ret u =>
      obtain ⟨v, σ', H', J', r, q⟩ := hsp
      exact ⟨v, σ', H', J'.ofTry ok, r, q⟩
end
/-! ### isinstance of such -/
/-- isinstance(e, c) -/
def rIsX (K : PySem.W.Frag) : List V → Hp → VK → Prop := fun xs H Q => ∃ (a D : Addr) (c : V) (cv : Value) (b : Bool), xs = [.ref a, c] ∧ H a = some (XO (.ref D) none a) ∧ ExcC K D ∧ ClsV c cv ∧ PySem.W.kitOne K (.ref D) cv = some b ∧ Q (.bl b) H
/-- isinstance(e, (c1, c2, ..)) -/
def rIsXT (K : PySem.W.Frag) : List V → Hp → VK → Prop := fun xs H Q => ∃ (a D tp : Addr) (cs : List V) (us : List Value) (b : Bool), xs = [.ref a, .ref tp] ∧ H a = some (XO (.ref D) none a) ∧ ExcC K D ∧ H tp = some (.tup cs) ∧ Paired ClsV cs us ∧ PySem.W.kitAny K (.ref D) us = some b ∧ Q (.bl b) H
section
variable {X : Cx}
theorem xo_inst {pins : List (Addr × Obj)} {σ : St} {H : Hp} {s : Shared} {a D : Addr} (I : Inv X pins σ H s) (ha : H a = some (XO (.ref D) none a)) : ∃ oe, PySem.W.InstAt s.heap a oe D none := by
  obtain ⟨⟨oe, vs, hget, hz, hv⟩, _⟩ := (show ObjOk X.prog X.w H s.heap a (XO (.ref D) none a) from I.hok a _ ha)
  refine ⟨oe, ?_⟩
  obtain ⟨oc, od, oda, osl⟩ := oe
  obtain ⟨h1, h2⟩ := hz
  dsimp only at h1 h2 hv
  subst h1 h2 hv
  exact ⟨hget, rfl, rfl, trivial⟩
theorem call_isX : CallR X (.builtin "isinstance") (rIsX X.K) := by
  intro pins s σ H xs us Q I r h
  obtain ⟨a, D, c, cv, b, rfl, ha, C, k, e, q⟩ := h
  obtain ⟨u1, u2, rfl, r1, r2⟩ := vals2 r
  cases (show u1 = Value.ref a from r1)
  have e2 := k.eq r2
  subst e2
  obtain ⟨oe, J⟩ := xo_inst I ha
  exact PySem.W.kia_one (PySem.W.handS_kitx_exc C.hg C.hk C.hs C.hd C.ha C.hn C.ht C.hm) I.kIn J e (fun z => nomatch z) fun tk => ⟨.bl b, H, I.kept (t' := tk) fun _ _ z => z, rfl, q⟩
theorem call_isXT : CallR X (.builtin "isinstance") (rIsXT X.K) := by
  intro pins s σ H xs us Q I r h
  obtain ⟨a, D, tp, cs, ws, b, rfl, ha, C, hT, k, e, q⟩ := h
  obtain ⟨u1, u2, rfl, r1, r2⟩ := vals2 r
  cases (show u1 = Value.ref a from r1)
  cases (show u2 = Value.ref tp from r2)
  obtain ⟨oe, J⟩ := xo_inst I ha
  obtain ⟨_, its, rv, o, h1, h2, n, h3⟩ := (show ObjOk X.prog X.w H s.heap tp (.tup cs) from I.hok tp _ hT)
  have e3 := ClsV.all k rv
  subst e3
  obtain ⟨oc, od, dt, sl⟩ := o
  simp only at h2 h3
  subst h2 h3
  exact PySem.W.kia_tup (PySem.W.handS_kitx_exc C.hg C.hk C.hs C.hd C.ha C.hn C.ht C.hm) I.kIn J h1 e (fun z => nomatch z) fun tk => ⟨.bl b, H, I.tok tk, rfl, q⟩
end
end L2
namespace L2
open PySem PySem.Spec PyProof.Rows
/-- a promise that never raises, or one that does -/
theorem FnOk.orX {P : Program} {w : World} {K : PySem.W.Frag} {mg : Str → Option Value} {base : Heap} {k : Nat} {f : Addr} {fd : FuncData} {ps : List Str} {sp sp' : Sp} (a : FnOk P w K mg base CX0 k f fd ps sp) (b : FnOk P w K mg base (L2.CX P w) k f fd ps sp') :
    FnOk P w K mg base (L2.CX P w) k f fd ps (fun vs H Q E => sp vs H Q E ∨ sp' vs H Q E) :=
  ⟨fun vs H Q E h => h.elim (a.len vs H Q E) (b.len vs H Q E), fun A outer s H args us vs Q E hr e0 hb rel h => h.elim (fun h => codeAny_mono (a.run A outer s H args us vs Q E hr e0 hb rel h) fun r s' hq => by
    cases r with
    | error e => exact False.elim hq
    | ok fl => cases fl <;> exact hq) (b.run A outer s H args us vs Q E hr e0 hb rel)⟩
abbrev veBases : List Value := [.type "ValueError", .type "Exception", .type "BaseException", .type "object"]
/-- an own error class, by the written part alone: its name, its place, the place of the class that the clause names -/
structure ErrK (K : PySem.W.Frag) (x : Str) (C S : Addr) : Prop where
  g : PySem.W.nsIn K mainGlobals x = some (some (.ref C))
  xc : PySem.W.excIn K C veBases "ValueError.__new__" = true
  kp : PySem.W.keepIn K (.ref C) = true
  sub : PySem.W.subIn K (.ref C) (.type "BaseException") = some true
  ty : PySem.W.typeIn K (.ref C) = some (.type "type")
  hg : PySem.W.findIn K (.ref C) "__getattribute__" = some (some (.builtin "BaseException.__getattribute__"))
  hk : PySem.W.findIn K (.ref C) "__getattr__" = some none
  hd : PySem.W.hasDictIn K C = true
  ha : PySem.W.findIn K (.ref C) "__class__" = some (some (.builtin "object.__class__"))
  hn : PySem.W.specialIn K (.builtin "object.__class__") "__get__" = some (some (.builtin "getset_descriptor.__get__"))
  ht : PySem.W.takesIn K (.builtin "object.__class__") = some true
  hm : PySem.W.mroIn K C (.type "object") = some true
  sw : PySem.W.exmOne K (.ref C) (.ref S) = some true
structure ErrC (K : PySem.W.Frag) (mg : Str → Option Value) (x : Str) (C S : Addr) : Prop where
  k : ErrK K x C S
  m : mg x = some (.ref C)
theorem ErrK.exc {K : PySem.W.Frag} {x : Str} {C S : Addr} (h : ErrK K x C S) : ExcC K C := ⟨h.hg, h.hk, h.sub, h.hd, h.ha, h.hn, h.ht, h.hm⟩
section
variable {X : Cx} {W : WX} {C S : Addr} {x m : Str} {j : Nat} {p p2 pos pos2 : Pos}
/-- raise X('m') -/
theorem ps_raiseE (hc : X.calm = true) (tk : Takes X W) (e : ErrC X.K X.mg x C S) (hg : Gl X x) (hdb : (x == ("__debug__" : Str)) = false := by decide) :
    PS X (.Raise (some (.Call (.Name x p) [.Constant (.str m) j p2] [] pos)) none pos2) (fun _ σ H => W (.ref C) none σ H) :=
  ps_raise hc tk (pmk_own PySem.F.excBase_ValueError e.k.xc e.m e.k.kp (raises_own e.k.sub e.k.ty) hg hdb)
end
end L2
namespace Os
open PySem PySem.Spec PyProof.Rows L2 Evl
section
variable {σ : L2.St} {H : Hp} {ta : TA} {vs : List V} {sp : Sp} {E : L2.St → XK} {tz : TS} {D : Ends}
/-- a call whose value goes, and which may raise -/
theorem q_dropS (ha : EvA ta σ H vs) (h : ∀ H1, Ex H H1 → sp vs H1 (fun _ H2 => tz D σ H2) (E σ)) : tSeq (tDrop (tCallS sp E ta)) tz D σ H := ha H (Ex.refl H) _ fun H1 e => h H1 e
theorem s_dropS (ha : EvA ta σ H vs) (h : ∀ H1, Ex H H1 → sp vs H1 (fun _ H2 => D.nx σ H2) (E σ)) : tDrop (tCallS sp E ta) D σ H := ha H (Ex.refl H) _ fun H1 e => h H1 e
end
end Os
namespace K15
open PySem PySem.Spec PyProof.Rows L2 Os Evl
/-- a forest, among any objects -/
def IsFor (d : PyData) : Prop := ∃ (n : Nat) (es : List Pr), d = .tuple [.int (n : Int), .list (es.map Os.prD)] ∧ IsForest n es
def ShF (d : PyData) : Prop := ∀ m ds, d = .tuple [m, .list ds] → ds.length ≤ 1000 ∧ (ds.length ≤ 60 ∨ ∀ n, m = .int n → ds.all (edgeB n) = false)
noncomputable def forD (d : PyData) : Bool := @decide (IsFor d) (Classical.propDecidable _)
theorem forD_yes {d : PyData} (h : IsFor d) : forD d = true := @decide_eq_true _ (Classical.propDecidable _) h
theorem forD_no {d : PyData} (h : ¬ IsFor d) : forD d = false := @decide_eq_false _ (Classical.propDecidable _) h
theorem isfor_pr {n : Nat} {es : List Pr} (h : IsFor (.tuple [.int (n : Int), .list (es.map Os.prD)])) : IsForest n es := by
  obtain ⟨m, fs, e, ok⟩ := h
  injection e with e
  injection e with e1 e
  injection e with e2 _
  injection e1 with e1
  injection e2 with e2
  have : n = m := by omega
  subst this
  rw [prDs_inj e2]
  exact ok
theorem asc_pair : ∀ {es : List Pr}, ascB es = true → es.Pairwise fun e f => Os.ltP e f = true
  | [], _ => .nil
  | [_], _ => List.pairwise_singleton _ _
  | e :: f :: r, h => by
    have h : (Os.ltP e f && ascB (f :: r)) = true := h
    rw [Bool.and_eq_true] at h
    have ih := asc_pair h.2
    refine List.pairwise_cons.mpr ⟨fun g hg => ?_, ih⟩
    rcases List.mem_cons.mp hg with rfl | hg
    · exact h.1
    · exact ltP_trans h.1 ((List.pairwise_cons.mp ih).1 g hg)
theorem for_eq {n : Nat} {es : List Pr} (n1 : 1 ≤ n) (n40 : n ≤ 40) (few : es.length ≤ 60) (inn : ∀ e ∈ es, e.1 < e.2 ∧ e.2 < n) : (ascB es && !cycB es (List.range n)) = forD (.tuple [.int (n : Int), .list (es.map Os.prD)]) := by
  by_cases h : IsForest n es
  · rw [forD_yes ⟨n, es, rfl, h⟩, asc_of h.edges.asc, h.edges.no_cyc]
    rfl
  · rw [forD_no fun z => h (isfor_pr z)]
    cases h1 : ascB es with
    | false => rfl
    | true =>
      cases h2 : cycB es (List.range n) with
      | true => rfl
      | false =>
        have s : Simple n es := ⟨inn, asc_pair h1⟩
        exact absurd ⟨s.edges (s.cyc.mp h2), n1, n40, few⟩ h
theorem edges_allL {n : Int} : ∀ {ds : List PyData}, ds.all (edgeB n) = true → ∃ os : List Pr, ds = os.map Os.prD ∧ ∀ e ∈ os, e.1 < e.2 ∧ (e.2 : Int) < n
  | [], _ => ⟨[], rfl, fun _ h => nomatch h⟩
  | d :: ds, h => by
    rw [List.all_cons, Bool.and_eq_true] at h
    obtain ⟨e, rfl, h1, h2, h4⟩ := edge_is h.1
    obtain ⟨os, rfl, h3⟩ := edges_allL h.2
    refine ⟨e :: os, rfl, fun f hf => ?_⟩
    rcases List.mem_cons.mp hf with rfl | hf
    · exact ⟨h4, h2⟩
    · exact h3 f hf
theorem dt_int_or {H : Hp} {v : V} {d : PyData} (h : Dt H v d) : (∃ i, v = .int i ∧ d = .int i) ∨ intB d = false := by
  cases h with
  | int i => exact .inl ⟨i, rfl, rfl⟩
  | _ => exact .inr rfl
theorem graph_ofD {G : Hp} {v : V} {n : Nat} {es : List Pr} (h : Dt G v (.tuple [.int (n : Int), .list (es.map Os.prD)])) : GraphV G v n es := by
  cases h with
  | tup ha hs =>
    cases hs with
    | cons a b =>
      cases b with
      | cons b c =>
        cases a
        cases b with
        | lst hb t =>
          cases c
          exact ⟨_, _, _, rfl, ha, hb, prs_ofD t⟩
section
variable {P : Program} {w : World} {K : PySem.W.Frag} {mg : Str → Option Value} {base : Heap}
def spForD : Sp := fun vs H Q _ => ∃ (v : V) (d : PyData), vs = [v] ∧ Dt H v d ∧ ShF d ∧ ∀ H', Ex H H' → Q (.bl (forD d)) H'
theorem ok_forD {f fI fE fA fC : Addr} {fd fdI fdE fdA fdC : FuncData} {k : Nat} (F : Fun K "is_forest" "is_forest" sForest f fd)
    (GI : FnOk P w K mg base CX0 k fI fdI ["thing"] spInt) (FI : Fun K "is_integer" "is_integer" sInt fI fdI) (bI : Binds K fdI ["thing"] []) (gI : mg "is_integer" = some (.ref fI))
    (GE : FnOk P w K mg base CX0 k fE fdE ["n", "thing"] spEdge) (FE : Fun K "is_edge" "is_edge" sEdge fE fdE) (bE : Binds K fdE ["n", "thing"] []) (gE : mg "is_edge" = some (.ref fE))
    (GA : FnOk P w K mg base CX0 k fA fdA ["edges"] spAsc) (FA : Fun K "_is_ascending" "_is_ascending" sAsc fA fdA) (bA : Binds K fdA ["edges"] []) (gA : mg "_is_ascending" = some (.ref fA))
    (GC : FnOk P w K mg base CX0 k fC fdC ["n", "edges"] spCyc) (FC : Fun K "_has_cycle" "_has_cycle" sCyc fC fdC) (bC : Binds K fdC ["n", "edges"] []) (gC : mg "_has_cycle" = some (.ref fC))
    (mIsi : mg "isinstance" = none) (mTup : mg "tuple" = none) (mLen : mg "len" = none) (mList : mg "list" = none) (mAll : mg "all" = none) {t40 : Tok} (m40 : mg "MOST_POSITIONS" = some (.int 40 t40)) : FnOk P w K mg base CX0 (k + 1) f fd ["thing"] spForD := by
  refine F.ok scForest (fun vs H Q E h => ?_) (fun cdv A outer s H vs Q E hr h => ?_)
  · obtain ⟨v, d, rfl, _⟩ := h
    rfl
  · obtain ⟨v, d, rfl, hd, sh, q⟩ := h
    refine ⟨_, (pss_cons (ps_if (PW.pt (pw_or (pt_not (pt_val (pe_callB call_isi (by rfl) mIsi boot_isinstance (pa_cons (pv 0) (pa_cons (pe_bltn (v := .ty "tuple") (by rfl) mTup boot_tuple rfl) pa_nil))))) (pw_or1 (pt_cmpR op_ne (pe_callB call_len_seq (by rfl) mLen boot_len (pa_cons (pv 0) pa_nil)) pe_int (nomark _))))) (pss_one (ps_ret pe_bl)) pss_nil)
      (pss_cons (ps_asg (pv 0) (pg_tup rfl (pgs_cons (pg_name (i := 1) scForest.nd rfl (Or.inr rfl)) (pgs_cons (pg_name (i := 2) scForest.nd rfl (Or.inl rfl)) pgs_nil))))
      (pss_cons (ps_if (PW.pt (pw_or (pt_not (pt_val (pe_call GI hr (by rfl) gI FI.kp bI .nil pass0 (pa_cons (pv 1) pa_nil)))) (pw_or1 (pt_not (pt_chain op_le op_le pe_int (pv 1) (pe_glob (v := .int 40) (by rfl) m40 ⟨_, rfl⟩)))))) (pss_one (ps_ret pe_bl)) pss_nil)
      (pss_cons (ps_if (PW.pt (pw_or (pt_not (pt_val (pe_callB call_isi (by rfl) mIsi boot_isinstance (pa_cons (pv 2) (pa_cons (pe_bltn (v := .ty "list") (by rfl) mList boot_list rfl) pa_nil))))) (pw_or1 (pt_not (pt_val (pe_callB (cr_all rfl) (by rfl) mAll boot_all (pa_cons (pe_lc (own := [("edge", 3)]) (g := gName 3) (tt := tYes) rfl scForest.nd (pi_list (pv 2)) (blkOk_by (N := ["thing", "n", "edges", "edge"]) (sc := defScope sForest) (by decide +kernel)) (fun _ _ _ _ _ => pg_name (i := 3) scForest.nd rfl (Or.inl rfl)) (fun _ _ _ _ _ => pts_nil) (fun _ _ _ _ _ => (pe_call GE hr (by rfl) gE FE.kp bE .nil pass0 (pa_cons (pv 1) (pa_cons (pv 3) pa_nil))))) pa_nil))))))) (pss_one (ps_ret pe_bl)) pss_nil)
      (pss_one (ps_ret (pe_and (pe_call GA hr (by rfl) gA FA.kp bA .nil pass0 (pa_cons (pv 2) pa_nil)) (pe_one (pe_not (pe_call GC hr (by rfl) gC FC.kp bC .nil pass0 (pa_cons (pv 1) (pa_cons (pv 2) pa_nil)))))))))))), ?_⟩
    have e0 : Ev (tVar 0) (start ["thing", "n", "edges", "edge"] [v]) H v := ev_var rfl
    have no : ¬ IsFor d → ∀ H', Ex H H' → Q (.bl false) H' := fun h H' e => by
      rw [← forD_no h]
      exact q H' e
    rcases hd.tup_or with ⟨a, xs, ds, rfl, ha, ht, rfl⟩ | hn
    · have hlen : xs.length = ds.length := ht.length
      refine q_when (b := !true || !decide (V.int xs.length = V.int 2)) (et_or (et_not (et_B (ev_isi e0 hd (kit_tup _)))) fun _ => et_test (ev_op (ev_lenT e0 ha) ev_c (rv_ne rfl))) (fun hb H1 e1 => ?_) (fun hb H1 e1 => ?_)
      · have hb2 : (!decide (V.int xs.length = V.int 2)) = true := hb
        have hb3 := of_decide_eq_false ((Bool.not_eq_true' _).mp hb2)
        refine s_ret (v := .bl false) ev_c fun H2 e2 => no (fun ⟨n, es, e, _⟩ => hb3 ?_) H2 (e1.trans e2)
        rw [hlen, PyData.tuple.inj e]
        rfl
      · have hb2 : (!decide (V.int xs.length = V.int 2)) = false := hb
        have hb3 := V.int.inj (of_decide_eq_true ((Bool.not_eq_false' _).mp hb2))
        have t1 := ht.same (same_ex e1)
        have ha1 := e1 _ _ ha
        match xs, ds, t1, hb3, ha1, no, sh with
        | [x, y], [d1, d2], .cons h1 (.cons h2 .nil), _, ha1, no, sh =>
          refine ⟨.ref a, rfl, a, [x, y], rfl, st_of ha1, rfl, x, [y], rfl, y, [], rfl, rfl, ?_⟩
          dsimp only
          have eint : ∀ {σ : L2.St}, σ[1]? = some (some x) → Ev (tCall spInt [] E0 (tCons (tVar 1) tNil)) σ H1 (.bl (intB d1)) := fun g1 =>
            ev_sp (ea_cons (ev_var g1) ea_nil) fun H3 e3 Q q => ⟨_, d1, rfl, h1.same (same_ex e3), fun H4 e4 => q H4 e4⟩
          rcases dt_int_or h1 with ⟨i, rfl, rfl⟩ | hi
          · refine q_when (b := !true || !(decide ((1 : Int) ≤ i) && decide (i ≤ 40))) (et_or (et_not (et_B (eint rfl))) fun _ => et_not (et_test (ev_chain ev_c (ev_var rfl) rv_I0 fun _ => ⟨_, ev_c, rv_I0⟩))) (fun hc H2 e2 => ?_) (fun hc H2 e2 => ?_)
            · have hc1 : (!(decide ((1 : Int) ≤ i) && decide (i ≤ 40))) = true := hc
              have hc2 := (Bool.not_eq_true' _).mp hc1
              refine s_ret (v := .bl false) ev_c fun H3 e3 => no (fun ⟨n, es, e, ok⟩ => ?_) H3 ((e1.trans e2).trans e3)
              injection e with e
              injection e with e1 _
              injection e1 with e1
              have n1 := ok.n1
              have n40 := ok.n40
              rw [decide_eq_true (show (1 : Int) ≤ i by omega), decide_eq_true (show i ≤ 40 by omega)] at hc2
              cases hc2
            · have hc1 : (!(decide ((1 : Int) ≤ i) && decide (i ≤ 40))) = false := hc
              have hc2 := (Bool.not_eq_false' _).mp hc1
              rw [Bool.and_eq_true] at hc2
              have n1 := of_decide_eq_true hc2.1
              have n40 := of_decide_eq_true hc2.2
              obtain ⟨n, rfl⟩ : ∃ n : Nat, i = (n : Int) := ⟨i.toNat, by omega⟩
              have e12 := e1.trans e2
              have h2' := h2.same (same_ex e2)
              rcases h2'.list_or with ⟨b, ys, ds2, rfl, hb2', ht2, rfl⟩ | hn2
              · have hlen2 := ht2.length
                obtain ⟨l1000, l60⟩ := sh _ ds2 rfl
                refine q_when (b := !true || !(ds2.all (edgeB (n : Int)))) (et_or (et_not (et_B (ev_isi (ev_var rfl) h2' (kit_list _)))) fun _ => et_not (et_B (ev_is (ev_all (bs := ds2.map (edgeB (n : Int))) ?_) (by rw [List.all_map]; rfl)))) (fun hb0 H3 e3 => ?_) (fun hb0 H3 e3 => ?_)
                · rw [List.map_map, ← given_map ds2 (V.bl ∘ edgeB (n : Int)) (fun i => .bl (edgeB (n : Int) (ds2.getD i .none))) (fun i x e => by
                    rw [List.getD_eq_getElem?_getD, e]
                    rfl), ← hlen2]
                  refine el_lcL (f := fun _ => true) (v := _) (ev_var rfl) (sq_of hb2') (by omega) (fun _ => rfl) (fun i c H2 _ _ => fun H3 e3 Q q => q H3 (Ex.refl H3)) (fun i x H4 e4 hx _ => ?_)
                  obtain ⟨d3, hd3, dt3⟩ := ht2.at2 hx
                  rw [List.getD_eq_getElem?_getD, hd3]
                  exact ev_sp (ea_cons (ev_var rfl) (ea_cons (ev_var rfl) ea_nil)) fun H5 e5 Q q => ⟨(n : Int), x, d3, rfl, dt3.same (same_ex (e4.trans e5)), fun H6 e6 => q H6 e6⟩
                · have hb1 : ds2.all (edgeB (n : Int)) = false := by simpa using hb0
                  refine s_ret (v := .bl false) ev_c fun H4 e4 => no (fun ⟨m, es, e, ok⟩ => ?_) H4 ((e12.trans e3).trans e4)
                  injection e with e
                  injection e with e1 e
                  injection e with e2 _
                  injection e1 with e1
                  injection e2 with e2
                  have : ds2.all (edgeB (n : Int)) = true := by
                    rw [e2, List.all_eq_true]
                    intro d hd
                    obtain ⟨f, hf, rfl⟩ := List.mem_map.mp hd
                    rw [e1]
                    exact edge_ok ok hf
                  rw [hb1] at this
                  cases this
                · have hb1 : ds2.all (edgeB (n : Int)) = true := by simpa using hb0
                  have few : ds2.length ≤ 60 := l60.elim id fun z => by
                    rw [z _ rfl] at hb1
                    cases hb1
                  obtain ⟨es, rfl, inn⟩ := edges_allL hb1
                  rw [List.length_map] at few l1000
                  have hp := (prs_ofD ht2).ex e3
                  have hb3' := e3 _ _ hb2'
                  refine s_ret (v := .bl (forD (.tuple [.int (n : Int), .list (es.map Os.prD)]))) (ev_is (ev_andV (a := ascB es) (b := !cycB es (List.range n)) (ev_sp (ea_cons (ev_var rfl) ea_nil) fun H4 e4 Q q => ⟨b, ys, es, rfl, e4 _ _ hb3', hp.ex e4, l1000, q⟩)
                    fun _ => ev_notV (ev_sp (ea_cons (ev_var rfl) (ea_cons (ev_var rfl) ea_nil)) fun H4 e4 Q q => ⟨n, b, ys, es, rfl, e4 _ _ hb3', hp.ex e4, by omega, (fun e he => by have := inn e he; omega), q⟩)) (by rw [for_eq (by omega) (by omega) few fun e he => by have := inn e he; omega])) fun H4 e4 => q H4 ((e12.trans e3).trans e4)
              · refine q_when (b := true) (et_is (et_or (b := true) (et_not (et_B (ev_isi (ev_var rfl) h2' (kit_list _)))) fun hs => ?_) ?_) (fun _ H3 e3 => ?_) (fun h => nomatch h)
                · rw [hn2] at hs
                  cases hs
                · rw [hn2]
                  rfl
                · refine s_ret (v := .bl false) ev_c fun H4 e4 => no (fun ⟨m, es, e, ok⟩ => ?_) H4 ((e12.trans e3).trans e4)
                  injection e with e
                  injection e with _ e
                  injection e with e _
                  rw [e] at hn2
                  cases hn2
          · refine q_when (b := true) (et_is (et_or (b := true) (et_not (et_B (eint rfl))) fun hs => ?_) ?_) (fun _ H3 e3 => ?_) (fun h => nomatch h)
            · rw [hi] at hs
              cases hs
            · rw [hi]
              rfl
            · refine s_ret (v := .bl false) ev_c fun H4 e4 => no (fun ⟨m, es, e, ok⟩ => ?_) H4 ((e1.trans e3).trans e4)
              injection e with e
              injection e with e _
              rw [e] at hi
              cases hi
    · refine q_when (b := true) (et_is (et_or (b := true) (et_not (et_B (ev_isi e0 hd (kit_tup _)))) fun hs => ?_) ?_) (fun _ H1 e1 => ?_) (fun h => nomatch h)
      · rw [hn] at hs
        cases hs
      · rw [hn]
        rfl
      · refine s_ret (v := .bl false) ev_c fun H2 e2 => no (fun ⟨m, es, e, ok⟩ => ?_) H2 (e1.trans e2)
        rw [e] at hn
        cases hn
/-! ### what raises -/
def spChkFN (cF : Addr) : Sp := fun vs H _ E => ∃ (v : V) (d : PyData), vs = [v] ∧ Dt H v d ∧ ShF d ∧ ¬ IsFor d ∧ ∀ H', Ex H H' → E (.ref cF) none H'
def spChkAN (cA : Addr) : Sp := fun vs H _ E => ∃ (n : Int) (v : V) (d : PyData), vs = [.int n, v] ∧ Dt H v d ∧ ShortL d ∧ rowB n d = false ∧ ∀ H', Ex H H' → E (.ref cA) none H'
theorem bad_chkF {f fF : Addr} {fd fdF : FuncData} {k : Nat} {cF cS : Addr} (F : Fun K "check_forest" "check_forest" sChkF f fd)
    (GF : FnOk P w K mg base CX0 k fF fdF ["thing"] spForD) (FF : Fun K "is_forest" "is_forest" sForest fF fdF) (bF : Binds K fdF ["thing"] []) (gF : mg "is_forest" = some (.ref fF)) (eF : ErrC K mg "NoForest" cF cS) : FnOk P w K mg base (L2.CX P w) (k + 1) f fd ["forest"] (spChkFN cF) := by
  refine F.okX scChkF (fun vs H Q E h => ?_) (fun cdv A outer s H vs Q E hr h => ?_)
  · obtain ⟨v, d, rfl, _⟩ := h
    rfl
  · obtain ⟨v, d, rfl, hd, sh, no, q⟩ := h
    refine ⟨_, (pss_one (ps_if (pt_not (pt_val (pe_call GF hr (by rfl) gF FF.kp bF .nil pass0 (pa_cons (pv 0) pa_nil)))) (pss_one (ps_raiseE rfl (takes_of rfl rfl rfl rfl) eF (by rfl))) pss_nil)), ?_⟩
    refine s_when (b := !false) (et_not (et_B (ev_sp (ea_cons (ev_var rfl) ea_nil) fun H1 e1 Q q => ⟨_, d, rfl, hd.same (same_ex e1), sh, fun H2 e2 => by rw [forD_no no]; exact q H2 e2⟩))) (fun _ H1 e1 => q H1 e1) (fun h => nomatch h)
theorem bad_chkA {f fA : Addr} {fd fdA : FuncData} {k : Nat} {cA cS : Addr} (F : Fun K "check_arrangement" "check_arrangement" sChkA f fd)
    (GA : FnOk P w K mg base CX0 k fA fdA ["n", "thing"] spArr) (FA : Fun K "is_arrangement" "is_arrangement" sArr fA fdA) (bA : Binds K fdA ["n", "thing"] []) (gA : mg "is_arrangement" = some (.ref fA)) (eA : ErrC K mg "NoArrangement" cA cS) : FnOk P w K mg base (L2.CX P w) (k + 1) f fd ["n", "items"] (spChkAN cA) := by
  refine F.okX scChkA (fun vs H Q E h => ?_) (fun cdv A outer s H vs Q E hr h => ?_)
  · obtain ⟨n, v, d, rfl, _⟩ := h
    rfl
  · obtain ⟨n, v, d, rfl, hd, sh, no, q⟩ := h
    refine ⟨_, (pss_one (ps_if (pt_not (pt_val (pe_call GA hr (by rfl) gA FA.kp bA .nil pass0 (pa_cons (pv 0) (pa_cons (pv 1) pa_nil))))) (pss_one (ps_raiseE rfl (takes_of rfl rfl rfl rfl) eA (by rfl))) pss_nil)), ?_⟩
    refine s_when (b := !false) (et_not (et_B (ev_sp (ea_cons (ev_var rfl) (ea_cons (ev_var rfl) ea_nil)) fun H1 e1 Q q => ⟨n, v, d, rfl, hd.same (same_ex e1), sh, fun H2 e2 => by rw [no]; exact q H2 e2⟩))) (fun _ H1 e1 => q H1 e1) (fun h => nomatch h)
end
end K15
namespace K15
open PySem PySem.Spec PyProof.Rows L2 Os Evl
abbrev sChkO : Stmt := topS 31
theorem scChkO : FnScope ["forest", "order"] ["forest", "order"] (defScope sChkO) := ⟨rfl, rfl, rfl, by decide +kernel, rfl, by decide +kernel, by decide +kernel⟩
section
variable {P : Program} {w : World} {K : PySem.W.Frag} {mg : Str → Option Value} {base : Heap}
def spChkO : Sp := fun vs H Q _ => ∃ (v o : V) (n : Nat) (es os : List Pr), vs = [v, o] ∧ GraphV H v n es ∧ IsForest n es ∧ OrdV H o os ∧ os.Perm es ∧ ∀ H', Ex H H' → Q .non H'
theorem ord_dt {G : Hp} {v : V} {os : List Pr} (h : OrdV G v os) : Dt G v (.list (os.map Os.prD)) := by
  obtain ⟨a, xs, rfl, h1, h2⟩ := h
  exact .lst h1 h2.dts
theorem ok_chkO {f fIO : Addr} {fd fdIO : FuncData} {k : Nat} (F : Fun K "check_order" "check_order" sChkO f fd)
    (GIO : FnOk P w K mg base CX0 k fIO fdIO ["forest", "thing"] spIOd) (FIO : Fun K "is_order" "is_order" sIsOrd fIO fdIO) (bIO : Binds K fdIO ["forest", "thing"] []) (gIO : mg "is_order" = some (.ref fIO)) : FnOk P w K mg base CX0 (k + 1) f fd ["forest", "order"] spChkO := by
  refine F.ok scChkO (fun vs H Q E h => ?_) (fun cdv A outer s H vs Q E hr h => ?_)
  · obtain ⟨g, o, n, es, os, rfl, _⟩ := h
    rfl
  · obtain ⟨g, o, n, es, os, rfl, hg, ok, ho, pm, q⟩ := h
    refine ⟨_, (pss_one (ps_if (pt_not (pt_val (pe_call GIO hr (by rfl) gIO FIO.kp bIO .nil pass0 (pa_cons (pv 0) (pa_cons (pv 1) pa_nil))))) pss_never pss_nil)), ?_⟩
    exact s_when (b := !true) (et_not (et_B (ev_sp (ea_cons (ev_var rfl) (ea_cons (ev_var rfl) ea_nil)) fun H1 e1 Q q => ⟨g, o, n, es, _, rfl, hg.ex e1, ok, (ord_dt ho).same (same_ex e1), show (os.map Os.prD).length ≤ 1000 by rw [List.length_map, pm.length_eq]; have := ok.few; omega, fun H2 e2 => by rw [ordB_yes ⟨os, rfl, pm⟩]; exact q H2 e2⟩))) (fun h => nomatch h) fun _ H1 e1 => q H1 e1
end
end K15
namespace K15
open PySem PySem.Spec PyProof.Rows L2 Os Evl
abbrev sTo : Stmt := topS 37
theorem scTo : FnScope ["forest", "order", "turns", "p", "q", "position"] ["forest", "order"] (defScope sTo) := ⟨rfl, rfl, rfl, by decide +kernel, rfl, by decide +kernel, by decide +kernel⟩
section
variable {P : Program} {w : World} {K : PySem.W.Frag} {mg : Str → Option Value} {base : Heap}
def spTo : Sp := fun vs H Q _ => ∃ (v o : V) (n : Nat) (es os : List Pr), vs = [v, o] ∧ GraphV H v n es ∧ IsForest n es ∧ OrdV H o os ∧ os.Perm es ∧
  ∀ H' L as, Ex H H' → H L = none → H' L = some (.lst (as.map V.ref)) → RwV H H' as n (adj os) → Q (.ref L) H'
def spPo : Sp := fun vs H Q _ => ∃ (o : V) (n : Nat) (es os : List Pr), vs = [.int (n : Int), o] ∧ IsForest n es ∧ OrdV H o os ∧ os.Perm es ∧
  ∀ H' L as, Ex H H' → H L = none → H' L = some (.lst (as.map V.ref)) → RwV H H' as n (adj os) → Q (.ref L) H'
theorem ok_to {f fF fO : Addr} {fd fdF fdO : FuncData} {k : Nat} (F : Fun K "turns_of_order" "turns_of_order" sTo f fd)
    (GF : FnOk P w K mg base CX0 k fF fdF ["forest"] spChkF) (FF : Fun K "check_forest" "check_forest" sChkF fF fdF) (bF : Binds K fdF ["forest"] []) (gF : mg "check_forest" = some (.ref fF))
    (GO : FnOk P w K mg base CX0 k fO fdO ["forest", "order"] spChkO) (FO : Fun K "check_order" "check_order" sChkO fO fdO) (bO : Binds K fdO ["forest", "order"] []) (gO : mg "check_order" = some (.ref fO)) (mRange : mg "range" = none) : FnOk P w K mg base CX0 (k + 1) f fd ["forest", "order"] spTo := by
  refine F.ok scTo (fun vs H Q E h => ?_) (fun cdv A outer s H vs Q E hr h => ?_)
  · obtain ⟨v, o, n, es, os, rfl, _⟩ := h
    rfl
  · obtain ⟨v, o, n, es, os, rfl, hg, ok, ho, pm, q⟩ := h
    refine ⟨_, (pss_cons (ps_expr (pe_call GF hr (by rfl) gF FF.kp bF .nil pass0 (pa_cons (pv 0) pa_nil)))
      (pss_cons (ps_expr (pe_call GO hr (by rfl) gO FO.kp bO .nil pass0 (pa_cons (pv 0) (pa_cons (pv 1) pa_nil))))
      (pss_cons (ps_setLc (i := 2) (own := [("position", 5)]) (g := gName 5) (tt := tYes) rfl scTo.nd rfl rfl (sw_true rfl rfl rfl (by decide +kernel)) (pi_range1 (by rfl) mRange (pa_cons (pe_ix ix_tup (pv 0) pe_int (fun _ _ => rfl)) pa_nil)) (blkOk_by (N := ["forest", "order", "turns", "p", "q", "position"]) (sc := defScope sTo) (by decide +kernel)) (fun _ _ _ _ _ => pg_name (i := 5) scTo.nd rfl (Or.inl rfl)) (fun _ _ _ _ _ => pts_nil) (fun _ _ _ _ _ => (pe_lst pa_nil)))
      (pss_cons (ps_for PassesOwn.never rfl (pi_list (pv 1)) (pg_tup rfl (pgs_cons (pg_name (i := 3) scTo.nd rfl (Or.inl rfl)) (pgs_cons (pg_name (i := 4) scTo.nd rfl (Or.inl rfl)) pgs_nil)))
      (pss_cons (ps_expr (pe_bm PySem.F.plainAttrs_list PySem.F.slot_list_append PySem.F.type_list_append mt_append (pe_ix ix_list (pv 2) (pv 3) (fun _ _ => rfl)) (pa_cons (pv 4) pa_nil)))
      (pss_one (ps_expr (pe_bm PySem.F.plainAttrs_list PySem.F.slot_list_append PySem.F.type_list_append mt_append (pe_ix ix_list (pv 2) (pv 4) (fun _ _ => rfl)) (pa_cons (pv 3) pa_nil))))))
      (pss_one (ps_ret (pv 2))))))), ?_⟩
    refine q_drop (v := .non) (ev_sp (ea_cons (ev_var rfl) ea_nil) fun H1 e1 Q q => ⟨_, n, es, rfl, hg.ex e1, ok, q⟩) fun H1 e1 => ?_
    refine q_drop (v := .non) (ev_sp (ea_cons (ev_var rfl) (ea_cons (ev_var rfl) ea_nil)) fun H2 e2 Q q => ⟨_, _, n, es, os, rfl, hg.ex (e1.trans e2), ok, ho.ex (e1.trans e2), pm, q⟩) fun Hz ez' => ?_
    have ez := e1.trans ez'
    have hgz := hg.ex ez
    have hoz := ho.ex ez
    obtain ⟨g, a0, xs0, rfl, h2, _, _⟩ := hgz
    obtain ⟨a, xs, rfl, h3, h4⟩ := hoz
    have n40 := ok.n40
    have ein : ∀ e ∈ os, e.1 < e.2 ∧ e.2 < n := fun e he => ok.edges.inn e (pm.mem_iff.mp he)
    have few : os.length ≤ 60 := by rw [pm.length_eq]; exact ok.few
    refine ⟨.ref g, rfl, g, _, 0, .int (n : Int), rfl, rfl, st_of h2, atI_nat (j := 0) rfl, (n : Int), rfl, by omega, by omega, fun D hD => ?_⟩
    have eD := Ex.new (o := .lst []) hD
    refine lc_range (lo := 0) (n := ((n : Int)).toNat) (fun i Hh => Ex Hz Hh ∧ ∃ as : List Addr, Hh D = some (.lst (as.map V.ref)) ∧ RwV (upd Hz D (.lst [])) Hh as i (fun _ => [])) ⟨eD, [], upd_same, rfl, (fun a h => nomatch h), (fun i a h => by simp at h), List.nodup_nil⟩ ?_ ?_
    · rintro i Hh hi' ⟨x1, as, hrs, rg⟩
      have lt : i < n := by omega
      refine ⟨rfl, ?_⟩
      dsimp only [tYes]
      rw [if_pos rfl]
      refine ⟨Nat.zero_le _, fun b hb => ?_⟩
      have xb := Ex.new (o := .lst []) hb
      have nb : b ≠ D := fun e => by
        rw [e, hrs] at hb
        cases hb
      have hb0 : upd Hz D (.lst []) b = none := by
        rw [upd_ne nb]
        exact fresh_back x1 hb
      have al : ∀ {j : Nat} {c : Addr}, as[j]? = some c → c ≠ b := fun h => ne_of_none (rg.at' _ _ h) hb
      refine ⟨as.map V.ref, xb _ _ hrs, sz_lt (by rw [List.length_map, rg.len]; omega), (x1.trans xb).mut hD, as ++ [b], ?_, ?_⟩
      · rw [upd_same, List.map_append]
        rfl
      · refine RwV.off (u := .lst []) ⟨by rw [List.length_append, rg.len]; rfl, fun c hc => ?_, fun j c hc => ?_, ?_⟩ upd_same
        · rcases List.mem_append.mp hc with hc | hc
          · exact rg.new c hc
          · rw [List.mem_singleton.mp hc]
            exact hb0
        · by_cases hj : j < as.length
          · rw [List.getElem?_append_left hj] at hc
            exact xb _ _ (rg.at' j c hc)
          · rw [List.getElem?_append_right (by omega)] at hc
            have : c = b := by
              have := List.mem_of_getElem? hc
              exact List.mem_singleton.mp this
            rw [this]
            exact upd_same
        · refine List.nodup_append.mpr ⟨rg.nd, List.pairwise_singleton _ _, fun c hc d hd => ?_⟩
          rw [List.mem_singleton.mp hd]
          obtain ⟨j, hj⟩ := List.mem_iff_getElem?.mp hc
          exact al hj
    · rintro Hh ⟨x1, as, hrs, rg⟩
      rw [Int.toNat_natCast] at rg
      dsimp only [gName]
      have asH : ∀ c ∈ as, Hz c = none := fun c hc => fresh_back eD (rg.new c hc)
      refine q_forL (xs := xs) (ev_var rfl) (sq_of (x1 _ _ h3)) (fun i σ' Hz' => Ex Hz Hz' ∧ ∃ (y4 y5 y6 : Option V), σ' = [some (.ref g), some (.ref a), some (.ref D), y4, y5, y6] ∧ Hz' D = some (.lst (as.map V.ref)) ∧ RwV (upd Hz D (.lst [])) Hz' as n (adj (os.take i)))
        (fun H4 e4 => ⟨x1.trans e4, _, _, _, rfl, e4 _ _ hrs, rg.ex e4⟩) (fun i σ' Hz' _ h => sq_of (h.1 _ _ h3)) ?_ ?_
      · rintro i x σ' H4 hx ⟨e4, y4, y5, y6, rfl, hD4, rw4⟩
        obtain ⟨e, he, tp, rfl, htp⟩ := h4.get hx
        have ein := ein e (List.mem_of_getElem? he)
        have il : i < os.length := (List.getElem?_eq_some_iff.mp he).1
        have adl : ∀ j, (adj (os.take i) j).length ≤ 60 := fun j => by
          unfold adj
          have h1 := List.length_filterMap_le (other j) (os.take i)
          have h2 := List.length_take_le i os
          omega
        obtain ⟨c1, hc1⟩ : ∃ c, as[e.1]? = some c := ⟨_, List.getElem?_eq_getElem (by rw [rw4.len]; omega)⟩
        obtain ⟨c2, hc2⟩ : ∃ c, as[e.2]? = some c := ⟨_, List.getElem?_eq_getElem (by rw [rw4.len]; omega)⟩
        have at' : ∀ {j : Nat} {c : Addr}, as[j]? = some c → (as.map V.ref)[j]? = some (.ref c) := fun h => by
          rw [List.getElem?_map, h]
          rfl
        refine ⟨tp, _, rfl, st_of (e4 _ _ htp), rfl, _, _, rfl, _, [], rfl, rfl, ?_⟩
        have nD : ∀ {c : Addr}, c ∈ as → D ≠ c := fun hc z => by
          have := rg.new _ hc
          rw [← z, upd_same] at this
          cases this
        refine q_app (v := .int (e.2 : Int)) (rw4.at' _ _ hc1) (ev_op (ev_var rfl) (ev_var rfl) (rv_ixL (sq_of hD4) (atI_nat (at' hc1)))) (ev_var rfl) (by rw [List.length_map]; have := adl e.1; omega) fun H5 e5 => ?_
        have m1 := List.mem_of_getElem? hc1
        have m2 := List.mem_of_getElem? hc2
        have e1 : nats (adj (os.take i) e.1) ++ [V.int (e.2 : Int)] = nats (adj (os.take i) e.1 ++ [e.2]) := by
          unfold nats
          rw [List.map_append]
          rfl
        rw [e1]
        have rw5 := (rw4.ex e5).put (l := adj (os.take i) e.1 ++ [e.2]) hc1
        have hD5 : upd H5 c1 (.lst (nats (adj (os.take i) e.1 ++ [e.2]))) D = some (.lst (as.map V.ref)) := by
          rw [upd_ne (nD m1)]
          exact e5 _ _ hD4
        have f2 := rw5.at' _ _ hc2
        rw [if_neg (show ¬ e.2 = e.1 by omega)] at f2
        refine s_app (v := .int (e.1 : Int)) f2 (ev_op (ev_var rfl) (ev_var rfl) (rv_ixL (sq_of hD5) (atI_nat (at' hc2)))) (ev_var rfl) (by rw [List.length_map]; have := adl e.2; omega) fun H6 e6 => ?_
        have e2 : nats (adj (os.take i) e.2) ++ [V.int (e.1 : Int)] = nats (adj (os.take i) e.2 ++ [e.1]) := by
          unfold nats
          rw [List.map_append]
          rfl
        rw [e2]
        have rw6 := (rw5.ex e6).put (l := adj (os.take i) e.2 ++ [e.1]) hc2
        refine ⟨((((e4.trans e5).mut (asH _ m1)).trans e6).mut (asH _ m2)), _, _, _, rfl, ?_, rw6.like fun j => ?_⟩
        · rw [upd_ne (nD m2)]
          exact e6 _ _ hD5
        · rw [adj_snoc he ein.1]
          by_cases j2 : j = e.2
          · rw [if_pos j2, if_pos j2, if_neg (show ¬ e.2 = e.1 by omega)]
          · rw [if_neg j2, if_neg j2]
            by_cases j1 : j = e.1
            · rw [if_pos j1, if_pos j1, j1]
            · rw [if_neg j1, if_neg j1]
      · rintro σ' H4 ⟨e4, y4, y5, y6, rfl, hD4, rw4⟩
        rw [h4.length, List.take_length] at rw4
        exact s_ret (v := .ref D) (ev_var rfl) fun H5 e5 => q H5 D as (ez.trans (e4.trans e5)) (fresh_back ez hD) (e5 _ _ hD4) ((rw4.ex e5).weak (ez.trans eD))
end
end K15
namespace K15
open PySem PySem.Spec PyProof.Rows L2 Os Evl
abbrev sOT : Stmt := topS 40
theorem scOT : FnScope ["forest", "turns"] ["forest", "turns"] (defScope sOT) := ⟨rfl, rfl, rfl, by decide +kernel, rfl, by decide +kernel, by decide +kernel⟩
theorem GraphV.at0 {K : PySem.W.Frag} {G : Hp} {v : V} {n : Nat} {es : List Pr} (h : GraphV G v n es) {σ : L2.St} {te : TE} (he : Ev te σ G v) : Ev (tOp (rIxT K) te (tC (.int 0))) σ G (.int (n : Int)) := by
  obtain ⟨gg, aa, xs, rfl, h2, h3, h4⟩ := h
  exact ev_op he ev_c (rv_ixT (st_of h2) (atI_nat (j := 0) rfl))
/-- what is wrong with a forest and an order -/
inductive OrdN (cF cO : Addr) (H : Hp) (g o : V) : Addr → Prop
  | f {d : PyData} : Dt H g d → ShF d → ¬ IsFor d → OrdN cF cO H g o cF
  | o {n : Nat} {es : List Pr} {d : PyData} : GraphV H g n es → IsForest n es → Dt H o d → ShL d → ordB es d = false → OrdN cF cO H g o cO
/-- .. and turns -/
inductive TurN (cF cT : Addr) (H : Hp) (g t : V) : Addr → Prop
  | f {d : PyData} : Dt H g d → ShF d → ¬ IsFor d → TurN cF cT H g t cF
  | t {n : Nat} {es : List Pr} {d : PyData} : GraphV H g n es → IsForest n es → Dt H t d → Short2 d → turnsB n es d = false → TurN cF cT H g t cT
/-- .. an arrangement and turns -/
inductive AftN (cF cA cT : Addr) (H : Hp) (g v t : V) : Addr → Prop
  | f {d : PyData} : Dt H g d → ShF d → ¬ IsFor d → AftN cF cA cT H g v t cF
  | a {n : Nat} {es : List Pr} {d : PyData} : GraphV H g n es → IsForest n es → Dt H v d → ShortL d → rowB (n : Int) d = false → AftN cF cA cT H g v t cA
  | t {n : Nat} {es : List Pr} {zs : List Str} {d : PyData} : GraphV H g n es → IsForest n es → ArrV H v zs → ArrOk zs n → Dt H t d → Short2 d → turnsB n es d = false → AftN cF cA cT H g v t cT
section
variable {cF cA cO cT C : Addr} {H H' : Hp} {g v o t : V}
theorem OrdN.ex (h : OrdN cF cO H g o C) (e : Ex H H') : OrdN cF cO H' g o C := by
  cases h with
  | f a b c => exact .f (a.same (same_ex e)) b c
  | o h1 h2 h3 h4 h5 => exact .o (h1.ex e) h2 (h3.same (same_ex e)) h4 h5
theorem TurN.ex (h : TurN cF cT H g t C) (e : Ex H H') : TurN cF cT H' g t C := by
  cases h with
  | f a b c => exact .f (a.same (same_ex e)) b c
  | t h1 h2 h3 h4 h5 => exact .t (h1.ex e) h2 (h3.same (same_ex e)) h4 h5
theorem AftN.ex (h : AftN cF cA cT H g v t C) (e : Ex H H') : AftN cF cA cT H' g v t C := by
  cases h with
  | f a b c => exact .f (a.same (same_ex e)) b c
  | a h1 h2 h3 h4 h5 => exact .a (h1.ex e) h2 (h3.same (same_ex e)) h4 h5
  | t h1 h2 h3 h4 h5 h6 h7 => exact .t (h1.ex e) h2 (h3.ex e) h4 (h5.same (same_ex e)) h6 h7
end
section
variable {P : Program} {w : World} {K : PySem.W.Frag} {mg : Str → Option Value} {base : Heap}
def spChkON (cO : Addr) : Sp := fun vs H _ E => ∃ (g o : V) (n : Nat) (es : List Pr) (d : PyData), vs = [g, o] ∧ GraphV H g n es ∧ IsForest n es ∧ Dt H o d ∧ ShL d ∧ ordB es d = false ∧ ∀ H', Ex H H' → E (.ref cO) none H'
def spChkTN (cT : Addr) : Sp := fun vs H _ E => ∃ (g t : V) (n : Nat) (es : List Pr) (d : PyData), vs = [g, t] ∧ GraphV H g n es ∧ IsForest n es ∧ Dt H t d ∧ Short2 d ∧ turnsB n es d = false ∧ ∀ H', Ex H H' → E (.ref cT) none H'
def spIsTN (cF : Addr) : Sp := fun vs H _ E => ∃ (g t : V) (d : PyData), vs = [g, t] ∧ Dt H g d ∧ ShF d ∧ ¬ IsFor d ∧ ∀ H', Ex H H' → E (.ref cF) none H'
def spToN (cF cO : Addr) : Sp := fun vs H _ E => ∃ (g o : V) (C : Addr), vs = [g, o] ∧ OrdN cF cO H g o C ∧ ∀ H', Ex H H' → E (.ref C) none H'
def spOTN (cF cT : Addr) : Sp := fun vs H _ E => ∃ (g t : V) (C : Addr), vs = [g, t] ∧ TurN cF cT H g t C ∧ ∀ H', Ex H H' → E (.ref C) none H'
def spAftN (cF cA cT : Addr) : Sp := fun vs H _ E => ∃ (g v t : V) (C : Addr), vs = [g, v, t] ∧ AftN cF cA cT H g v t C ∧ ∀ H', Ex H H' → E (.ref C) none H'
def spOTV : Sp := fun vs H Q _ => ∃ (v : V) (t : Addr) (n : Nat) (es : List Pr) (as : List Addr) (tn : Nat → List Nat), vs = [v, .ref t] ∧ GraphV H v n es ∧ IsForest n es ∧ RowsAt H t as n tn ∧ (∀ i, (tn i).Perm (adj es i)) ∧ ∀ H' x, Ex H H' → Q x H'
theorem bad_chkO {f fIO : Addr} {fd fdIO : FuncData} {k : Nat} {cO cS : Addr} (F : Fun K "check_order" "check_order" sChkO f fd)
    (GIO : FnOk P w K mg base CX0 k fIO fdIO ["forest", "thing"] spIOd) (FIO : Fun K "is_order" "is_order" sIsOrd fIO fdIO) (bIO : Binds K fdIO ["forest", "thing"] []) (gIO : mg "is_order" = some (.ref fIO))
    (eO : ErrC K mg "NoOrder" cO cS) : FnOk P w K mg base (L2.CX P w) (k + 1) f fd ["forest", "order"] (spChkON cO) := by
  refine F.okX scChkO (fun vs H Q E h => ?_) (fun cdv A outer s H vs Q E hr h => ?_)
  · obtain ⟨g, o, n, es, d, rfl, _⟩ := h
    rfl
  · obtain ⟨g, o, n, es, d, rfl, hg, ok, hd, sh, no, q⟩ := h
    refine ⟨_, (pss_one (ps_if (pt_not (pt_val (pe_call GIO hr (by rfl) gIO FIO.kp bIO .nil pass0 (pa_cons (pv 0) (pa_cons (pv 1) pa_nil))))) (pss_one (ps_raiseE rfl (takes_of rfl rfl rfl rfl) eO (by rfl))) pss_nil)), ?_⟩
    exact s_when (b := !false) (et_not (et_B (ev_sp (ea_cons (ev_var rfl) (ea_cons (ev_var rfl) ea_nil)) fun H1 e1 Q q => ⟨g, o, n, es, d, rfl, hg.ex e1, ok, hd.same (same_ex e1), sh, fun H2 e2 => by rw [no]; exact q H2 e2⟩))) (fun _ H1 e1 => q H1 e1) (fun h => nomatch h)
theorem bad_chkT {f fIT : Addr} {fd fdIT : FuncData} {k : Nat} {cT cS : Addr} (F : Fun K "check_turns" "check_turns" sChkT f fd)
    (GIT : FnOk P w K mg base CX0 k fIT fdIT ["forest", "thing"] spIsTurns) (FIT : Fun K "is_turns" "is_turns" sIsTurns fIT fdIT) (bIT : Binds K fdIT ["forest", "thing"] []) (gIT : mg "is_turns" = some (.ref fIT))
    (eT : ErrC K mg "NoTurns" cT cS) : FnOk P w K mg base (L2.CX P w) (k + 1) f fd ["forest", "turns"] (spChkTN cT) := by
  refine F.okX scChkT (fun vs H Q E h => ?_) (fun cdv A outer s H vs Q E hr h => ?_)
  · obtain ⟨g, o, n, es, d, rfl, _⟩ := h
    rfl
  · obtain ⟨g, o, n, es, d, rfl, hg, ok, hd, sh, no, q⟩ := h
    refine ⟨_, (pss_one (ps_if (pt_not (pt_val (pe_call GIT hr (by rfl) gIT FIT.kp bIT .nil pass0 (pa_cons (pv 0) (pa_cons (pv 1) pa_nil))))) (pss_one (ps_raiseE rfl (takes_of rfl rfl rfl rfl) eT (by rfl))) pss_nil)), ?_⟩
    exact s_when (b := !false) (et_not (et_B (ev_sp (ea_cons (ev_var rfl) (ea_cons (ev_var rfl) ea_nil)) fun H1 e1 Q q => ⟨g, o, n, es, d, rfl, hg.ex e1, ok, hd.same (same_ex e1), sh, fun H2 e2 => by rw [no]; exact q H2 e2⟩))) (fun _ H1 e1 => q H1 e1) (fun h => nomatch h)
theorem bad_isturns {f fF : Addr} {fd fdF : FuncData} {k : Nat} {cF : Addr} (F : Fun K "is_turns" "is_turns" sIsTurns f fd)
    (GF : FnOk P w K mg base (L2.CX P w) k fF fdF ["forest"] (spChkFN cF)) (FF : Fun K "check_forest" "check_forest" sChkF fF fdF) (bF : Binds K fdF ["forest"] []) (gF : mg "check_forest" = some (.ref fF)) : FnOk P w K mg base (L2.CX P w) (k + 1) f fd ["forest", "thing"] (spIsTN cF) := by
  refine F.okX scIsTurns (fun vs H Q E h => ?_) (fun cdv A outer s H vs Q E hr h => ?_)
  · obtain ⟨g, t, d, rfl, _⟩ := h
    rfl
  · obtain ⟨g, t, d, rfl, hd, sh, no, q⟩ := h
    refine ⟨_, (pss_cons (ps_expr (pe_callS GF hr (by rfl) gF FF.kp bF (fun σ => passAt (takes_of rfl rfl rfl rfl) σ) (pa_cons (pv 0) pa_nil))) pss_never), ?_⟩
    exact q_dropS (ea_cons (ev_var rfl) ea_nil) fun H1 e1 => ⟨_, _, rfl, hd.same (same_ex e1), sh, no, fun H2 e2 => q H2 (e1.trans e2)⟩
theorem bad_to {f fF fO : Addr} {fd fdF fdO : FuncData} {k : Nat} {cF cO : Addr} (F : Fun K "turns_of_order" "turns_of_order" sTo f fd)
    (GF : FnOk P w K mg base CX0 k fF fdF ["forest"] spChkF) (FF : Fun K "check_forest" "check_forest" sChkF fF fdF) (bF : Binds K fdF ["forest"] []) (gF : mg "check_forest" = some (.ref fF))
    (GFN : FnOk P w K mg base (L2.CX P w) k fF fdF ["forest"] (spChkFN cF))
    (GO : FnOk P w K mg base (L2.CX P w) k fO fdO ["forest", "order"] (spChkON cO)) (FO : Fun K "check_order" "check_order" sChkO fO fdO) (bO : Binds K fdO ["forest", "order"] []) (gO : mg "check_order" = some (.ref fO)) : FnOk P w K mg base (L2.CX P w) (k + 1) f fd ["forest", "order"] (spToN cF cO) := by
  refine F.okX scTo (fun vs H Q E h => ?_) (fun cdv A outer s H vs Q E hr h => ?_)
  · obtain ⟨g, o, C, rfl, _⟩ := h
    rfl
  · obtain ⟨g, o, C, rfl, hn, q⟩ := h
    refine ⟨_, (pss_cons (ps_expr (pe_callS (FnOk.orX GF GFN) hr (by rfl) gF FF.kp bF (fun σ => passAt (takes_of rfl rfl rfl rfl) σ) (pa_cons (pv 0) pa_nil))) (pss_cons (ps_expr (pe_callS GO hr (by rfl) gO FO.kp bO (fun σ => passAt (takes_of rfl rfl rfl rfl) σ) (pa_cons (pv 0) (pa_cons (pv 1) pa_nil)))) pss_never)), ?_⟩
    cases hn with
    | f hd sh no => exact q_dropS (ea_cons (ev_var rfl) ea_nil) fun H1 e1 => .inr ⟨_, _, rfl, hd.same (same_ex e1), sh, no, fun H2 e2 => q H2 (e1.trans e2)⟩
    | @o n es d hg ok hd sh no =>
      refine q_dropS (ea_cons (ev_var rfl) ea_nil) fun H1 e1 => .inl ⟨_, n, es, rfl, hg.ex e1, ok, fun H2 e2 => ?_⟩
      have x2 := e1.trans e2
      exact q_dropS (ea_cons (ev_var rfl) (ea_cons (ev_var rfl) ea_nil)) fun H3 e3 => ⟨g, o, n, es, d, rfl, hg.ex (x2.trans e3), ok, hd.same (same_ex (x2.trans e3)), sh, no, fun H4 e4 => q H4 (x2.trans (e3.trans e4))⟩
theorem bad_ot {f fF fT : Addr} {fd fdF fdT : FuncData} {k : Nat} {cF cT : Addr} (F : Fun K "order_of_turns" "order_of_turns" sOT f fd)
    (GF : FnOk P w K mg base CX0 k fF fdF ["forest"] spChkF) (FF : Fun K "check_forest" "check_forest" sChkF fF fdF) (bF : Binds K fdF ["forest"] []) (gF : mg "check_forest" = some (.ref fF))
    (GFN : FnOk P w K mg base (L2.CX P w) k fF fdF ["forest"] (spChkFN cF))
    (GT : FnOk P w K mg base (L2.CX P w) k fT fdT ["forest", "turns"] (spChkTN cT)) (FT : Fun K "check_turns" "check_turns" sChkT fT fdT) (bT : Binds K fdT ["forest", "turns"] []) (gT : mg "check_turns" = some (.ref fT)) : FnOk P w K mg base (L2.CX P w) (k + 1) f fd ["forest", "turns"] (spOTN cF cT) := by
  refine F.okX scOT (fun vs H Q E h => ?_) (fun cdv A outer s H vs Q E hr h => ?_)
  · obtain ⟨g, o, C, rfl, _⟩ := h
    rfl
  · obtain ⟨g, o, C, rfl, hn, q⟩ := h
    refine ⟨_, (pss_cons (ps_expr (pe_callS (FnOk.orX GF GFN) hr (by rfl) gF FF.kp bF (fun σ => passAt (takes_of rfl rfl rfl rfl) σ) (pa_cons (pv 0) pa_nil))) (pss_cons (ps_expr (pe_callS GT hr (by rfl) gT FT.kp bT (fun σ => passAt (takes_of rfl rfl rfl rfl) σ) (pa_cons (pv 0) (pa_cons (pv 1) pa_nil)))) pss_never)), ?_⟩
    cases hn with
    | f hd sh no => exact q_dropS (ea_cons (ev_var rfl) ea_nil) fun H1 e1 => .inr ⟨_, _, rfl, hd.same (same_ex e1), sh, no, fun H2 e2 => q H2 (e1.trans e2)⟩
    | @t n es d hg ok hd sh no =>
      refine q_dropS (ea_cons (ev_var rfl) ea_nil) fun H1 e1 => .inl ⟨_, n, es, rfl, hg.ex e1, ok, fun H2 e2 => ?_⟩
      have x2 := e1.trans e2
      exact q_dropS (ea_cons (ev_var rfl) (ea_cons (ev_var rfl) ea_nil)) fun H3 e3 => ⟨g, o, n, es, d, rfl, hg.ex (x2.trans e3), ok, hd.same (same_ex (x2.trans e3)), sh, no, fun H4 e4 => q H4 (x2.trans (e3.trans e4))⟩
theorem bad_after {f fF fA fT : Addr} {fd fdF fdA fdT : FuncData} {k : Nat} {cF cA cT : Addr} (F : Fun K "after_turns" "after_turns" sAfter f fd)
    (GF : FnOk P w K mg base CX0 k fF fdF ["forest"] spChkF) (FF : Fun K "check_forest" "check_forest" sChkF fF fdF) (bF : Binds K fdF ["forest"] []) (gF : mg "check_forest" = some (.ref fF))
    (GFN : FnOk P w K mg base (L2.CX P w) k fF fdF ["forest"] (spChkFN cF))
    (GA : FnOk P w K mg base CX0 k fA fdA ["n", "items"] spChkA) (FA : Fun K "check_arrangement" "check_arrangement" sChkA fA fdA) (bA : Binds K fdA ["n", "items"] []) (gA : mg "check_arrangement" = some (.ref fA))
    (GAN : FnOk P w K mg base (L2.CX P w) k fA fdA ["n", "items"] (spChkAN cA))
    (GT : FnOk P w K mg base (L2.CX P w) k fT fdT ["forest", "turns"] (spChkTN cT)) (FT : Fun K "check_turns" "check_turns" sChkT fT fdT) (bT : Binds K fdT ["forest", "turns"] []) (gT : mg "check_turns" = some (.ref fT)) : FnOk P w K mg base (L2.CX P w) (k + 1) f fd ["forest", "items", "turns"] (spAftN cF cA cT) := by
  refine F.okX scAfter (fun vs H Q E h => ?_) (fun cdv A outer s H vs Q E hr h => ?_)
  · obtain ⟨g, v, t, C, rfl, _⟩ := h
    rfl
  · obtain ⟨g, v, t, C, rfl, hn, q⟩ := h
    refine ⟨_, (pss_cons (ps_expr (pe_callS (FnOk.orX GF GFN) hr (by rfl) gF FF.kp bF (fun σ => passAt (takes_of rfl rfl rfl rfl) σ) (pa_cons (pv 0) pa_nil))) (pss_cons (ps_expr (pe_callS (FnOk.orX GA GAN) hr (by rfl) gA FA.kp bA (fun σ => passAt (takes_of rfl rfl rfl rfl) σ) (pa_cons (pe_ix ix_tup (pv 0) pe_int (fun _ _ => rfl)) (pa_cons (pv 1) pa_nil)))) (pss_cons (ps_expr (pe_callS GT hr (by rfl) gT FT.kp bT (fun σ => passAt (takes_of rfl rfl rfl rfl) σ) (pa_cons (pv 0) (pa_cons (pv 2) pa_nil)))) pss_never))), ?_⟩
    cases hn with
    | f hd sh no => exact q_dropS (ea_cons (ev_var rfl) ea_nil) fun H1 e1 => .inr ⟨_, _, rfl, hd.same (same_ex e1), sh, no, fun H2 e2 => q H2 (e1.trans e2)⟩
    | @a n es d hg ok hd sh no =>
      refine q_dropS (ea_cons (ev_var rfl) ea_nil) fun H1 e1 => .inl ⟨_, n, es, rfl, hg.ex e1, ok, fun H2 e2 => ?_⟩
      have x2 := e1.trans e2
      exact q_dropS (ea_cons ((hg.ex x2).at0 (ev_var rfl)) (ea_cons (ev_var rfl) ea_nil)) fun H3 e3 => .inr ⟨(n : Int), v, d, rfl, hd.same (same_ex (x2.trans e3)), sh, no, fun H4 e4 => q H4 (x2.trans (e3.trans e4))⟩
    | @t n es zs d hg ok hv ao hd sh no =>
      refine q_dropS (ea_cons (ev_var rfl) ea_nil) fun H1 e1 => .inl ⟨_, n, es, rfl, hg.ex e1, ok, fun H2 e2 => ?_⟩
      have x2 := e1.trans e2
      refine q_dropS (ea_cons ((hg.ex x2).at0 (ev_var rfl)) (ea_cons (ev_var rfl) ea_nil)) fun H3 e3 => .inl ⟨v, n, zs, rfl, hv.ex (x2.trans e3), ao, ok.n40, fun H4 e4 => ?_⟩
      have x4 := x2.trans (e3.trans e4)
      exact q_dropS (ea_cons (ev_var rfl) (ea_cons (ev_var rfl) ea_nil)) fun H5 e5 => ⟨g, t, n, es, d, rfl, hg.ex (x4.trans e5), ok, hd.same (same_ex (x4.trans e5)), sh, no, fun H6 e6 => q H6 (x4.trans (e5.trans e6))⟩
theorem ok_otV {f fF fT fLE : Addr} {fd fdF fdT fdLE : FuncData} {k : Nat} (F : Fun K "order_of_turns" "order_of_turns" sOT f fd)
    (GF : FnOk P w K mg base CX0 k fF fdF ["forest"] spChkF) (FF : Fun K "check_forest" "check_forest" sChkF fF fdF) (bF : Binds K fdF ["forest"] []) (gF : mg "check_forest" = some (.ref fF))
    (GT : FnOk P w K mg base CX0 k fT fdT ["forest", "turns"] spChkT) (FT : Fun K "check_turns" "check_turns" sChkT fT fdT) (bT : Binds K fdT ["forest", "turns"] []) (gT : mg "check_turns" = some (.ref fT))
    (GLE : FnOk P w K mg base CX0 k fLE fdLE ["edges", "turns"] spLeast) (FLE : Fun K "_least_order" "_least_order" sLeast fLE fdLE) (bLE : Binds K fdLE ["edges", "turns"] []) (gLE : mg "_least_order" = some (.ref fLE)) : FnOk P w K mg base CX0 (k + 1) f fd ["forest", "turns"] spOTV := by
  refine F.ok scOT (fun vs H Q E h => ?_) (fun cdv A outer st H vs Q E hr h => ?_)
  · obtain ⟨v, t, n, es, as, tn, rfl, _⟩ := h
    rfl
  · obtain ⟨v, t, n, es, as, tn, rfl, hg, ok, ra, pm, q⟩ := h
    refine ⟨_, (pss_cons (ps_expr (pe_call GF hr (by rfl) gF FF.kp bF .nil pass0 (pa_cons (pv 0) pa_nil)))
      (pss_cons (ps_expr (pe_call GT hr (by rfl) gT FT.kp bT .nil pass0 (pa_cons (pv 0) (pa_cons (pv 1) pa_nil))))
      (pss_one (ps_ret (pe_call GLE hr (by rfl) gLE FLE.kp bLE .nil pass0 (pa_cons (pe_ix ix_tup (pv 0) pe_int (fun _ _ => rfl)) (pa_cons (pv 1) pa_nil))))))), ?_⟩
    have n40 := ok.n40
    have few := ok.few
    have tb := turns_yes' ok pm
    have tl : ∀ i, (tn i).length ≤ 1000 := fun i => by
      rw [(pm i).length_eq]
      have := adj_len (os := es) few i
      omega
    refine q_drop (v := .non) (ev_sp (ea_cons (ev_var rfl) ea_nil) fun H1 e1 Q q => ⟨_, n, es, rfl, hg.ex e1, ok, q⟩) fun H1 e1 => ?_
    have hg0 := hg
    obtain ⟨g, a, xs, rfl, h2, h3, h4⟩ := hg
    refine q_drop (v := .non) (ev_sp (ea_cons (ev_var rfl) (ea_cons (ev_var rfl) ea_nil)) fun H3 e3 Q q => ⟨_, _, n, es, .list (rowsD n tn), rfl, hg0.ex (e1.trans e3), ok, rows_dt ((e1.trans e3) _ _ ra.top) ra.len (fun i c h => (e1.trans e3) _ _ (ra.at' i c h)), rows_short (by omega) tl, tb, q⟩) fun H3 e3 => ?_
    have e13 := e1.trans e3
    exact ⟨.ref g, rfl, g, _, 1, .ref a, rfl, rfl, st_of (e13 _ _ h2), atI_nat (j := 1) rfl, .ref t, rfl, a, t, n, es, xs, as, tn, rfl, ok, e13 _ _ h3, h4.ex e13, e13 _ _ ra.top, ra.len, (fun i c h => e13 _ _ (ra.at' i c h)), pm, fun H4 p os e4 _ _ _ _ => q H4 _ (e13.trans e4)⟩
end
end K15
/-! words that hold: a comprehension over a list of (text, bool); what an error's class tells -/
namespace Os
open PySem PySem.Spec PyProof.Rows L2 Evl
section
variable {K : PySem.W.Frag} {σ : L2.St} {H : Hp} {te ta tl : TE} {tz : TS} {D : Ends} {d : PyData} {a C : Addr}
theorem q_asgD {i : Nat} (h : EvD te σ H d) (k : ∀ v H1, Ex H H1 → Dt H1 v d → tz D (σ.set i (some v)) H1) : tSeq (tAsg te (gName i)) tz D σ H := h H (Ex.refl H) _ fun v H1 e dv => k v H1 e dv
theorem ev_isX {D1 : Addr} {b : Bool} (h : Ev te σ H (.ref a)) (ha : H a = some (XO (.ref D1) none a)) (x : ExcC K D1) (k : PySem.W.kitOne K (.ref D1) (.ref C) = some b) : Ev (tCB (rIsX K) (tCons te (tCons (tC (.ref C)) tNil))) σ H (.bl b) := fun H1 e Q q =>
  h H1 e _ fun H2 e2 => ⟨a, D1, .ref C, .ref C, b, rfl, (e.trans e2) _ _ ha, x, .own C, k, q H2 e2⟩
theorem ev_isXty {D1 : Addr} {b : Bool} {n : String} (h : Ev te σ H (.ref a)) (ha : H a = some (XO (.ref D1) none a)) (x : ExcC K D1) (k : PySem.W.kitOne K (.ref D1) (.type n) = some b) : Ev (tCB (rIsX K) (tCons te (tCons (tC (.ty n)) tNil))) σ H (.bl b) := fun H1 e Q q =>
  h H1 e _ fun H2 e2 => ⟨a, D1, .ty n, .type n, b, rfl, (e.trans e2) _ _ ha, x, .ty n, k, q H2 e2⟩
theorem paired_own : ∀ l : List Addr, Paired ClsV (l.map V.ref) (l.map Value.ref)
  | [] => .nil
  | x :: l => .cons (.own x) (paired_own l)
theorem ev_isXT {D1 : Addr} {b : Bool} {l : List Addr} {tt : TA} (h : Ev te σ H (.ref a)) (ht : EvA tt σ H (l.map V.ref)) (hl : l.length ≤ 1000) (ha : H a = some (XO (.ref D1) none a)) (x : ExcC K D1) (k : PySem.W.kitAny K (.ref D1) (l.map Value.ref) = some b) :
    Ev (tCB (rIsXT K) (tCons te (tCons (tTup tt) tNil))) σ H (.bl b) := fun H1 e Q q =>
  h H1 e _ fun H2 e2 => ht H2 (e.trans e2) _ fun H3 e3 => ⟨by rw [List.length_map]; exact sz_of (by omega), fun p hp => ⟨a, D1, p, l.map V.ref, l.map Value.ref, b, rfl, (((e.trans e2).trans e3).trans (Ex.new hp)) _ _ ha, x, upd_same, paired_own l, k, q _ ((e2.trans e3).trans (Ex.new hp))⟩⟩
def wordD (p : Str × Bool) : PyData := .tuple [.str p.1, .bool p.2]
theorem el_words {xs : List V} {L : List (Str × Bool)} {i j n : Nat} {vs : List Nat} (hn : n = 2) (h : Ev tl σ H (.ref a)) (hx : H a = some (.lst xs)) (hd : Dts H xs (L.map wordD)) (few : L.length ≤ 1000) (hw : ∀ x y, wipe (((wipe σ vs).set i (some x)).set j (some y)) vs = wipe σ vs)
    (hi : ∀ x y, (((wipe σ vs).set i (some x)).set j (some y))[i]? = some (some x)) (hj : ∀ x y, (((wipe σ vs).set i (some x)).set j (some y))[j]? = some (some y)) :
    EvL (tLc (iList K tl) (gTup K n (gCons (gName i) (gCons (gName j) gNil))) (tB (tVar j)) (tVar i) vs) σ H ((L.filter (·.2)).map fun p => V.str p.1) := fun H0 e0 Q q => h H0 e0 _ fun H1 e1 => ⟨a, rfl, ⟨xs, sq_of ((e0.trans e1) _ _ hx)⟩, fun Dl hD => by
  have hx1 := (e0.trans e1) _ _ hx
  have hlen : xs.length = L.length := by rw [hd.length, List.length_map]
  have eg : given xs.length (fun i => (L.getD i ("", false)).2) (fun i => V.str (L.getD i ("", false)).1) = (L.filter (·.2)).map fun p => V.str p.1 := by
    rw [hlen]
    exact given_filter (fun p : Str × Bool => V.str p.1) (·.2) _ _ L (fun i x e => by rw [List.getD_eq_getElem?_getD, e]; rfl) (fun i x e => by rw [List.getD_eq_getElem?_getD, e]; rfl)
  refine lc_list (xs := xs) (Cw H1 (fun i => (L.getD i ("", false)).2) (fun i => V.str (L.getD i ("", false)).1) Dl) ⟨hD, Ex.new hD, upd_same⟩ (fun k H' _ p => sq_of (p.2.1 _ _ hx1)) (fun k x H' hk p => ?_) (fun H' p => q Dl H' (fresh_back e1 p.1) (e1.trans p.2.1) (by rw [← eg]; exact p.2.2))
  obtain ⟨dd, hdk, dt⟩ := hd.at2 hk
  rw [List.getElem?_map] at hdk
  obtain ⟨⟨w, b⟩, hwk, rfl⟩ := Option.map_eq_some_iff.mp hdk
  have dt : Dt H x (.tuple [.str w, .bool b]) := dt
  cases dt with
  | tup ht hs =>
    rename_i t ys
    cases hs with
    | cons h1 hs =>
      cases hs with
      | cons h2 hs =>
        cases hs
        cases h1
        cases h2
        have ht1 := p.2.1 _ _ ((e0.trans e1) _ _ ht)
        refine ⟨t, [.str w, .bl b], rfl, st_of ht1, hn.symm, .str w, [.bl b], rfl, .bl b, [], rfl, rfl, hw _ _, ?_⟩
        have gk : L.getD k ("", false) = (w, b) := by rw [List.getD_eq_getElem?_getD, hwk]; rfl
        refine cw_turn p (by have := (List.getElem?_eq_some_iff.mp hk).1; omega) ?_ (fun _ => ?_)
        · rw [gk]
          exact et_B (ev_var (hj _ _))
        · rw [gk]
          exact ev_var (hi _ _)⟩
end
/-- what the classes of an error are: five that are named, eight others -/
structure ClsT (K : PySem.W.Frag) (D c1 c2 c3 c4 c5 : Addr) (b1 b2 b3 b4 b5 : Bool) (o1 o2 o3 o4 o5 o6 o7 o8 : Addr) : Prop where
  a1 : PySem.W.kitOne K (.ref D) (.ref c1) = some b1
  a2 : PySem.W.kitOne K (.ref D) (.ref c2) = some b2
  a3 : PySem.W.kitOne K (.ref D) (.ref c3) = some b3
  a4 : PySem.W.kitOne K (.ref D) (.ref c4) = some b4
  a5 : PySem.W.kitOne K (.ref D) (.ref c5) = some b5
  o : PySem.W.kitAny K (.ref D) [.ref o1, .ref o2, .ref o3, .ref o4, .ref o5, .ref o6, .ref o7, .ref o8] = some false
  v : PySem.W.kitOne K (.ref D) (.type "ValueError") = some true
end Os
namespace K15
open PySem PySem.Spec PyProof.Rows L2 Os Evl
abbrev sClass : Stmt := topS 51
theorem scClass : FnScope ["error", "found", "others", "names", "name", "so"] ["error"] (defScope sClass) := ⟨rfl, rfl, rfl, by decide +kernel, rfl, by decide +kernel, by decide +kernel⟩
abbrev sErr : Stmt := topS 52
theorem scErr : FnScope ["door", "graph", "labels", "value", "caught", "e"] ["door", "graph", "labels", "value"] (defScope sErr) := ⟨rfl, rfl, rfl, by decide +kernel, rfl, by decide +kernel, by decide +kernel⟩
theorem q_seqT {t tz : TS} {D : Ends} {σ : L2.St} {H : Hp} (P : L2.St → Hp → Prop) (h : ∀ D' : Ends, (∀ σ' H', P σ' H' → D'.nx σ' H') → t D' σ H) (k : ∀ σ' H', P σ' H' → tz D σ' H') : tSeq t tz D σ H := h { D with nx := tz D } k
structure ClsU (K : PySem.W.Frag) (D c1 c2 c3 c4 : Addr) (b1 b2 b3 b4 : Bool) (o1 o2 o3 o4 o5 o6 o7 o8 o9 : Addr) : Prop where
  a1 : PySem.W.kitOne K (.ref D) (.ref c1) = some b1
  a2 : PySem.W.kitOne K (.ref D) (.ref c2) = some b2
  a3 : PySem.W.kitOne K (.ref D) (.ref c3) = some b3
  a4 : PySem.W.kitOne K (.ref D) (.ref c4) = some b4
  o : PySem.W.kitAny K (.ref D) [.ref o1, .ref o2, .ref o3, .ref o4, .ref o5, .ref o6] = some false
  p : PySem.W.kitAny K (.ref D) [.ref o7, .ref o8, .ref o9] = some false
  v : PySem.W.kitOne K (.ref D) (.type "ValueError") = some true
section
variable {P : Program} {w : World} {K : PySem.W.Frag} {mg : Str → Option Value} {base : Heap}
def spClass (cF cA cO cT : Addr) : Sp := fun vs H Q _ => ∃ (a D : Addr) (wd : Str), vs = [.ref a] ∧ H a = some (XO (.ref D) none a) ∧ ((D = cF ∧ wd = "forest") ∨ (D = cA ∧ wd = "items") ∨ (D = cO ∧ wd = "order") ∨ (D = cT ∧ wd = "turns")) ∧ ∀ H', Ex H H' → Q (.str wd) H'
theorem ok_class {f cF cA cO cT cE cI cN cB cP cX cH cR cM cS : Addr} {fd : FuncData} {k : Nat} (F : Fun K "_law_class" "_law_class" sClass f fd)
    (eF : ErrC K mg "NoForest" cF cS) (eA : ErrC K mg "NoArrangement" cA cS) (eO : ErrC K mg "NoOrder" cO cS) (eT : ErrC K mg "NoTurns" cT cS) (hE : mg "NoEdge" = some (.ref cE)) (hI : mg "NoItem" = some (.ref cI)) (hN : mg "NoNumber" = some (.ref cN)) (hB : mg "NoObservation" = some (.ref cB)) (hP : mg "NoPosition" = some (.ref cP)) (hX : mg "NoText" = some (.ref cX)) (hH : mg "Nothing" = some (.ref cH)) (hR : mg "NotReached" = some (.ref cR)) (hM : mg "TooMany" = some (.ref cM))
    (uF : ClsU K cF cF cA cO cT true false false false cE cI cN cB cP cX cH cR cM) (uA : ClsU K cA cF cA cO cT false true false false cE cI cN cB cP cX cH cR cM) (uO : ClsU K cO cF cA cO cT false false true false cE cI cN cB cP cX cH cR cM) (uT : ClsU K cT cF cA cO cT false false false true cE cI cN cB cP cX cH cR cM)
    (mIsi : mg "isinstance" = none) (mLen : mg "len" = none) (mVE : mg "ValueError" = none) : FnOk P w K mg base CX0 (k + 1) f fd ["error"] (spClass cF cA cO cT) := by
  refine F.ok scClass (fun vs H Q E h => ?_) (fun cdv A outer s H vs Q E hr h => ?_)
  · obtain ⟨a, D, wd, rfl, _⟩ := h
    rfl
  · obtain ⟨a, D, wd, rfl, ha, cs, q⟩ := h
    refine ⟨_, (pss_cons (ps_set (i := 1) scClass.nd rfl (.inl rfl) (pe_lst (pa_cons (pe_tup (pa_cons pe_str (pa_cons (pe_callB call_isX (by rfl) mIsi boot_isinstance (pa_cons (pv 0) (pa_cons (pe_glob (v := .ref cF) (by rfl) eF.m rfl) pa_nil))) pa_nil))) (pa_cons (pe_tup (pa_cons pe_str (pa_cons (pe_callB call_isX (by rfl) mIsi boot_isinstance (pa_cons (pv 0) (pa_cons (pe_glob (v := .ref cA) (by rfl) eA.m rfl) pa_nil))) pa_nil))) pa_nil))))
      (pss_cons (ps_set (i := 1) scClass.nd rfl (.inl rfl) (pe_op op_cat (pv 1) (pe_lst (pa_cons (pe_tup (pa_cons pe_str (pa_cons (pe_callB call_isX (by rfl) mIsi boot_isinstance (pa_cons (pv 0) (pa_cons (pe_glob (v := .ref cO) (by rfl) eO.m rfl) pa_nil))) pa_nil))) (pa_cons (pe_tup (pa_cons pe_str (pa_cons (pe_callB call_isX (by rfl) mIsi boot_isinstance (pa_cons (pv 0) (pa_cons (pe_glob (v := .ref cT) (by rfl) eT.m rfl) pa_nil))) pa_nil))) pa_nil)))))
      (pss_cons (ps_set (i := 2) scClass.nd rfl (.inl rfl) (pe_callB call_isXT (by rfl) mIsi boot_isinstance (pa_cons (pv 0) (pa_cons (pe_tup (pa_cons (pe_glob (v := .ref cE) (by rfl) hE rfl) (pa_cons (pe_glob (v := .ref cI) (by rfl) hI rfl) (pa_cons (pe_glob (v := .ref cN) (by rfl) hN rfl) (pa_cons (pe_glob (v := .ref cB) (by rfl) hB rfl) (pa_cons (pe_glob (v := .ref cP) (by rfl) hP rfl) (pa_cons (pe_glob (v := .ref cX) (by rfl) hX rfl) pa_nil))))))) pa_nil))))
      (pss_cons (ps_set (i := 2) scClass.nd rfl (.inl rfl) (pe_or (pv 2) (pe_or (pe_callB call_isXT (by rfl) mIsi boot_isinstance (pa_cons (pv 0) (pa_cons (pe_tup (pa_cons (pe_glob (v := .ref cH) (by rfl) hH rfl) (pa_cons (pe_glob (v := .ref cR) (by rfl) hR rfl) (pa_cons (pe_glob (v := .ref cM) (by rfl) hM rfl) pa_nil)))) pa_nil))) (pe_one (pe_not (pe_callB call_isX (by rfl) mIsi boot_isinstance (pa_cons (pv 0) (pa_cons (pe_bltn (v := .ty "ValueError") (by rfl) mVE (by rfl) rfl) pa_nil))))))))
      (pss_cons (ps_setLc (i := 3) (own := [("name", 4), ("so", 5)]) (g := gTup K 2 (gCons (gName 4) (gCons (gName 5) gNil))) (tt := tB (tVar 5)) (te := tVar 4) rfl scClass.nd rfl rfl (sw_true rfl rfl rfl (by decide +kernel)) (pi_list (pv 1)) (blkOk_by (N := ["error", "found", "others", "names", "name", "so"]) (sc := defScope sClass) (by decide +kernel)) (fun _ _ _ _ _ => pg_tup rfl (pgs_cons (pg_name (i := 4) scClass.nd rfl (Or.inl rfl)) (pgs_cons (pg_name (i := 5) scClass.nd rfl (Or.inl rfl)) pgs_nil))) (fun _ _ _ _ _ => pts_one (pt_val (pv 5))) (fun _ _ _ _ _ => pv 4))
      (pss_one (ps_ret (pe_ifExp (PW.pt (pw_and (pt_cmpR op_eq (pe_callB call_len_seq (by rfl) mLen boot_len (pa_cons (pv 3) pa_nil)) pe_int (nomark _)) (pw_and1 (pt_not (pt_val (pv 2)))))) (pe_ix ix_list (pv 3) pe_int (fun _ _ => rfl)) pe_str)))))))), ?_⟩
    obtain ⟨b1, b2, b3, b4, x, t, fl⟩ : ∃ b1 b2 b3 b4, ExcC K D ∧ ClsU K D cF cA cO cT b1 b2 b3 b4 cE cI cN cB cP cX cH cR cM ∧ ((([((("forest" : Str)), b1), ("items", b2)] : List (Str × Bool)) ++ [((("order" : Str)), b3), ("turns", b4)]).filter (·.2)) = [(wd, true)] := by
      rcases cs with ⟨rfl, rfl⟩ | ⟨rfl, rfl⟩ | ⟨rfl, rfl⟩ | ⟨rfl, rfl⟩
      · exact ⟨true, false, false, false, eF.k.exc, uF, rfl⟩
      · exact ⟨false, true, false, false, eA.k.exc, uA, rfl⟩
      · exact ⟨false, false, true, false, eO.k.exc, uO, rfl⟩
      · exact ⟨false, false, false, true, eT.k.exc, uT, rfl⟩
    generalize hW1 : ([((("forest" : Str)), b1), ("items", b2)] : List (Str × Bool)) = W1 at fl
    generalize hW34 : ([((("order" : Str)), b3), ("turns", b4)] : List (Str × Bool)) = W34 at fl
    have two : ∀ {σ : L2.St} {G : Hp} {z1 z2 : Str} {c1 c2 : Addr} {d1 d2 : Bool}, σ[0]? = some (some (.ref a)) → Ex H G → PySem.W.kitOne K (.ref D) (.ref c1) = some d1 → PySem.W.kitOne K (.ref D) (.ref c2) = some d2 →
        EvD (tLst (tCons (tTup (tCons (tC (.str z1)) (tCons (tCB (rIsX K) (tCons (tVar 0) (tCons (tC (.ref c1)) tNil))) tNil))) (tCons (tTup (tCons (tC (.str z2)) (tCons (tCB (rIsX K) (tCons (tVar 0) (tCons (tC (.ref c2)) tNil))) tNil))) tNil))) σ G (.list (([(z1, d1), (z2, d2)] : List (Str × Bool)).map wordD)) := fun {σ G z1 z2 c1 c2 d1 d2} h0 e k1 k2 =>
      ed_lst (ds := [.tuple [.str z1, .bool d1], .tuple [.str z2, .bool d2]]) (eds_cons (ed_tup (ds := [.str z1, .bool d1]) (eds_cons (ed_of ev_c (.str z1)) (eds_cons (ed_of (ev_isX (ev_var h0) (e _ _ ha) x k1) (.bl d1)) eds_nil)) (show 2 ≤ 100000 by decide)) (eds_cons (ed_tup (ds := [.str z2, .bool d2]) (eds_cons (ed_of ev_c (.str z2)) (eds_cons (ed_of (ev_isX (ev_var h0) (e _ _ ha) x k2) (.bl d2)) eds_nil)) (show 2 ≤ 100000 by decide)) eds_nil)) (show 2 ≤ 100000 by decide)
    have lst_inv : ∀ {G : Hp} {v : V} {ds : List PyData}, Dt G v (.list ds) → ∃ p xs, v = .ref p ∧ G p = some (.lst xs) ∧ Dts G xs ds := fun h => by
      cases h with
      | lst h t => exact ⟨_, _, rfl, h, t⟩
    have w1 : W1.length = 2 := by rw [← hW1]; rfl
    have w34 : W34.length = 2 := by rw [← hW34]; rfl
    refine q_asgD (d := .list (W1.map wordD)) (by rw [← hW1]; exact two rfl (Ex.refl _) t.a1 t.a2) fun v1 H1 e1 d1 => ?_
    have two3 := two (z1 := "order") (z2 := "turns") (σ := [some (.ref a), some v1, none, none, none, none]) (G := H1) rfl e1 t.a3 t.a4
    rw [hW34] at two3
    refine q_te ⟨v1, rfl, two3 H1 (Ex.refl _) _ fun v3 H3 e3 d3 => ?_⟩
    obtain ⟨p1, ys1, rfl, h1, t1⟩ := lst_inv (d1.same (same_ex e3))
    obtain ⟨p3, ys3, rfl, h3, t3⟩ := lst_inv d3
    have l1 := t1.length
    have l3 := t3.length
    have t13 : Dts H3 (ys1 ++ ys3) ((W1 ++ W34).map wordD) := by
      rw [List.map_append]
      exact t1.app t3
    have l13 : (ys1 ++ ys3).length = 4 := by
      rw [t13.length, List.length_map, List.length_append, w1, w34]
    refine ⟨p1, p3, ys1, ys3, rfl, rfl, h1, h3, sz_of (by rw [← List.length_append, l13]; decide), fun p hp => ?_⟩
    have x3 := e1.trans e3
    have ep := Ex.new (o := .lst (ys1 ++ ys3)) hp
    have h6 : (L2.upd H3 p (.lst (ys1 ++ ys3))) p = some (.lst (ys1 ++ ys3)) := upd_same
    have t6 := t13.same (same_ex ep)
    have x6 := x3.trans ep
    dsimp only
    generalize (L2.upd H3 p (.lst (ys1 ++ ys3))) = H6 at *
    refine q_asg (v := .bl false) (ev_isXT (l := [cE, cI, cN, cB, cP, cX]) (ev_var rfl) (ea_cons ev_c (ea_cons ev_c (ea_cons ev_c (ea_cons ev_c (ea_cons ev_c (ea_cons ev_c ea_nil)))))) (show 6 ≤ 1000 by decide) (x6 _ _ ha) x t.o) fun H7 e7 => ?_
    have x7 := x6.trans e7
    refine q_asg (v := .bl (false || (false || !true))) (ev_orV (ev_var rfl) fun _ => ev_orV (ev_isXT (l := [cH, cR, cM]) (ev_var rfl) (ea_cons ev_c (ea_cons ev_c (ea_cons ev_c ea_nil))) (show 3 ≤ 1000 by decide) (x7 _ _ ha) x t.p) fun _ => ev_notV (ev_isXty (ev_var rfl) (x7 _ _ ha) x t.v)) fun H8 e8 => ?_
    have x8 := x7.trans e8
    refine q_asgL (xs := [.str wd]) ?_ fun F H9 hF e9 h9 => ?_
    · have := el_words (K := K) (σ := [some (.ref a), some (.ref p), some (.bl (false || (false || !true))), none, none, none]) (H := H8) (tl := tVar 1) (i := 4) (j := 5) (n := 2) (vs := [4, 5]) (L := W1 ++ W34) rfl (ev_var rfl) ((e7.trans e8) _ _ h6) (t6.same (same_ex (e7.trans e8))) (by rw [List.length_append, w1, w34]; decide) (fun _ _ => rfl) (fun _ _ => rfl) (fun _ _ => rfl)
      rw [fl] at this
      exact this
    have x9 := x8.trans e9
    exact s_ret (v := .str wd) (ev_if (b := true) (et_is (et_and (a := true) (b := true) (et_is (et_test (ev_op (ev_len (ev_var rfl) (sq_of h9)) ev_c (rv_eq rfl))) (by show decide (V.int 1 = V.int 1) = true; decide)) fun _ => et_is (et_not (et_B (ev_var rfl))) rfl) rfl) (fun _ => ev_op (ev_var rfl) ev_c (rv_ixL (sq_of h9) (atI_nat (j := 0) rfl))) fun h => nomatch h) fun H10 e10 => q H10 (x9.trans e10)
/-- what the four doors make of their arguments -/
inductive ErrR (cF cA cO cT : Addr) (H : Hp) (g x y : V) : Int → Option Addr → Prop
  | i0 {n : Nat} {es : List Pr} {d : PyData} : GraphV H g n es → IsForest n es → Dt H y d → Short2 d → ErrR cF cA cO cT H g x y 0 none
  | iN {d : PyData} : Dt H g d → ShF d → ¬ IsFor d → ErrR cF cA cO cT H g x y 0 (some cF)
  | o0 {n : Nat} {es os : List Pr} : GraphV H g n es → IsForest n es → OrdV H y os → os.Perm es → ErrR cF cA cO cT H g x y 1 none
  | oN {C : Addr} : OrdN cF cO H g y C → ErrR cF cA cO cT H g x y 1 (some C)
  | a0 {n : Nat} {es : List Pr} {zs : List Str} {t : Addr} {as : List Addr} {tn : Nat → List Nat} : y = .ref t → GraphV H g n es → IsForest n es → ArrV H x zs → ArrOk zs n → RowsAt H t as n tn → (∀ i, (tn i).Perm (adj es i)) → ErrR cF cA cO cT H g x y 2 none
  | aN {C : Addr} : AftN cF cA cT H g x y C → ErrR cF cA cO cT H g x y 2 (some C)
  | t0 {n : Nat} {es : List Pr} {t : Addr} {as : List Addr} {tn : Nat → List Nat} : y = .ref t → GraphV H g n es → IsForest n es → RowsAt H t as n tn → (∀ i, (tn i).Perm (adj es i)) → ErrR cF cA cO cT H g x y 3 none
  | tN {C : Addr} : TurN cF cT H g y C → ErrR cF cA cO cT H g x y 3 (some C)
theorem ErrR.ex {cF cA cO cT : Addr} {H H' : Hp} {g x y : V} {d : Int} {C : Option Addr} (h : ErrR cF cA cO cT H g x y d C) (e : Ex H H') : ErrR cF cA cO cT H' g x y d C := by
  cases h with
  | i0 h1 h2 h3 h4 => exact .i0 (h1.ex e) h2 (h3.same (same_ex e)) h4
  | iN h1 h2 h3 => exact .iN (h1.same (same_ex e)) h2 h3
  | o0 h1 h2 h3 h4 => exact .o0 (h1.ex e) h2 (h3.ex e) h4
  | oN h => exact .oN (h.ex e)
  | a0 h0 h1 h2 h3 h4 h5 h6 => exact .a0 h0 (h1.ex e) h2 (h3.ex e) h4 (h5.ex e) h6
  | aN h => exact .aN (h.ex e)
  | t0 h0 h1 h2 h3 h4 => exact .t0 h0 (h1.ex e) h2 (h3.ex e) h4
  | tN h => exact .tN (h.ex e)
def Told (cF cA cO cT : Addr) (C : Option Addr) (wd : Str) : Prop := (C = none ∧ wd = "none") ∨ (C = some cF ∧ wd = "forest") ∨ (C = some cA ∧ wd = "items") ∨ (C = some cO ∧ wd = "order") ∨ (C = some cT ∧ wd = "turns")
def spErr (cF cA cO cT : Addr) : Sp := fun vs H Q _ => ∃ (d : Int) (g x y : V) (C : Option Addr) (wd : Str), vs = [.int d, g, x, y] ∧ ErrR cF cA cO cT H g x y d C ∧ Told cF cA cO cT C wd ∧ ∀ H', Ex H H' → Q (.str wd) H'
theorem ok_err {f fI fO fA fT fCL : Addr} {fd fdI fdO fdA fdT fdCL : FuncData} {k : Nat} {cF cA cO cT cS : Addr} (F : Fun K "_law_raised" "_law_raised" sErr f fd)
    (GI : FnOk P w K mg base CX0 k fI fdI ["forest", "thing"] spIsTurns) (FI : Fun K "is_turns" "is_turns" sIsTurns fI fdI) (bI : Binds K fdI ["forest", "thing"] []) (gI : mg "is_turns" = some (.ref fI))
    (GIN : FnOk P w K mg base (L2.CX P w) k fI fdI ["forest", "thing"] (spIsTN cF))
    (GO : FnOk P w K mg base CX0 k fO fdO ["forest", "order"] spTo) (FO : Fun K "turns_of_order" "turns_of_order" sTo fO fdO) (bO : Binds K fdO ["forest", "order"] []) (gO : mg "turns_of_order" = some (.ref fO))
    (GON : FnOk P w K mg base (L2.CX P w) k fO fdO ["forest", "order"] (spToN cF cO))
    (GA : FnOk P w K mg base CX0 k fA fdA ["forest", "items", "turns"] spAfter) (FA : Fun K "after_turns" "after_turns" sAfter fA fdA) (bA : Binds K fdA ["forest", "items", "turns"] []) (gA : mg "after_turns" = some (.ref fA))
    (GAN : FnOk P w K mg base (L2.CX P w) k fA fdA ["forest", "items", "turns"] (spAftN cF cA cT))
    (GT : FnOk P w K mg base CX0 k fT fdT ["forest", "turns"] spOTV) (FT : Fun K "order_of_turns" "order_of_turns" sOT fT fdT) (bT : Binds K fdT ["forest", "turns"] []) (gT : mg "order_of_turns" = some (.ref fT))
    (GTN : FnOk P w K mg base (L2.CX P w) k fT fdT ["forest", "turns"] (spOTN cF cT))
    (GCL : FnOk P w K mg base CX0 k fCL fdCL ["error"] (spClass cF cA cO cT)) (FCL : Fun K "_law_class" "_law_class" sClass fCL fdCL) (bCL : Binds K fdCL ["error"] []) (gCL : mg "_law_class" = some (.ref fCL))
    (eF : ErrC K mg "NoForest" cF cS) (eA : ErrC K mg "NoArrangement" cA cS) (eO : ErrC K mg "NoOrder" cO cS) (eT : ErrC K mg "NoTurns" cT cS) (hS : mg "SwapError" = some (.ref cS)) : FnOk P w K mg base CX0 (k + 1) f fd ["door", "graph", "labels", "value"] (spErr cF cA cO cT) := by
  refine F.ok scErr (fun vs H Q E h => ?_) (fun cdv A outer s H vs Q E hr h => ?_)
  · obtain ⟨d, g, x, y, C, wd, rfl, _⟩ := h
    rfl
  · obtain ⟨d, g, x, y, C, wd, rfl, pr, wq, q⟩ := h
    refine ⟨_, (pss_cons (ps_set (i := 4) scErr.nd rfl (.inl rfl) pe_non)
      (pss_cons (ps_try_own (i := 5) rfl rfl scErr.nd rfl rfl ⟨by rfl, by decide, .inl hS⟩ rfl (Wout := fun _ _ _ _ => False) (fun _ _ ⟨_, _, _, _, _, _, _, _, _, _, _, _, _, _, _, _, h⟩ => h) (fun W pn xe tk _ => (pss_one (ps_if (pt_cmpR op_eq (pv 0) pe_int (nomark _)) (pss_one (ps_expr (pe_callS (FnOk.orX GI GIN) hr (by rfl) gI FI.kp bI (fun σ => passAt tk σ) (pa_cons (pv 1) (pa_cons (pv 3) pa_nil))))) (pss_one (ps_if (pt_cmpR op_eq (pv 0) pe_int (nomark _)) (pss_one (ps_expr (pe_callS (FnOk.orX GO GON) hr (by rfl) gO FO.kp bO (fun σ => passAt tk σ) (pa_cons (pv 1) (pa_cons (pv 3) pa_nil))))) (pss_one (ps_if (pt_cmpR op_eq (pv 0) pe_int (nomark _)) (pss_one (ps_expr (pe_callS (FnOk.orX GA GAN) hr (by rfl) gA FA.kp bA (fun σ => passAt tk σ) (pa_cons (pv 1) (pa_cons (pv 2) (pa_cons (pv 3) pa_nil)))))) (pss_one (ps_expr (pe_callS (FnOk.orX GT GTN) hr (by rfl) gT FT.kp bT (fun σ => passAt tk σ) (pa_cons (pv 1) (pa_cons (pv 3) pa_nil)))))))))))) (fun a pn => pss_one (ps_set (i := 4) scErr.nd rfl (.inl rfl) (pv 5))))
      (pss_one (ps_ret (pe_ifExp (pt_cmpR op_isN (pv 4) pe_non (nomark _)) pe_str (pe_call GCL hr (by rfl) gCL FCL.kp bCL .nil pass0 (pa_cons (pv 4) pa_nil))))))), ?_⟩
    have sw : ∀ c, C = some c → PySem.W.exmOne K (.ref c) (.ref cS) = some true := fun c e => by
      rcases wq with ⟨h, _⟩ | ⟨h, _⟩ | ⟨h, _⟩ | ⟨h, _⟩ | ⟨h, _⟩
      · rw [h] at e; cases e
      · rw [h] at e; cases e; exact eF.k.sw
      · rw [h] at e; cases e; exact eA.k.sw
      · rw [h] at e; cases e; exact eO.k.sw
      · rw [h] at e; cases e; exact eT.k.sw
    refine q_asg (v := .non) ev_c fun H1 e1 => ?_
    refine q_seqT (fun σ' H' => Ex H H' ∧ ∃ c, σ' = [some (.int d), some g, some x, some y, some c, none] ∧ ((C = none ∧ c = .non) ∨ ∃ a D, c = .ref a ∧ C = some D ∧ H' a = some (XO (.ref D) none a))) (fun D' hD' => ?_) ?_
    · have ok0 : ∀ H3, Ex H H3 → C = none → ∀ H' (_ : V), Ex H3 H' → D'.nx [some (.int d), some g, some x, some y, some .non, none] H' := fun H3 e3 hc H' _ e => hD' _ _ ⟨e3.trans e, _, rfl, .inl ⟨hc, rfl⟩⟩
      have bad : ∀ c H3, Ex H H3 → C = some c → ∀ H', Ex H3 H' → wOwn K (.ref cS) 5 (tAsg (tVar 5) (gName 4)) (fun _ _ _ _ => False) D' (.ref c) none [some (.int d), some g, some x, some y, some .non, none] H' := fun c H3 e3 hc H' e => by
        refine ⟨true, sw c hc, fun _ a ha => ?_, fun h => nomatch h⟩
        exact (ev_var rfl) _ (Ex.refl _) _ fun H5 e5 => hD' _ _ ⟨((e3.trans e).trans (Ex.new ha)).trans e5, _, rfl, .inr ⟨a, c, rfl, hc, e5 _ _ upd_same⟩⟩
      dsimp only
      have dd : ∀ (j : Int) {b : Bool}, decide (V.int d = V.int j) = b → (b = true → d = j) ∧ (b = false → d ≠ j) := fun j b hb => ⟨fun h => V.int.inj (of_decide_eq_true (hb.trans h)), fun h z => by rw [z, decide_eq_true rfl, h] at hb; cases hb⟩
      refine s_if (b := decide (V.int d = V.int 0)) (et_test (ev_op (ev_var rfl) ev_c (rv_eq rfl))) (fun hb H2 e2 => ?_) (fun hb H2 e2 => ?_)
      · have d0 := (dd 0 hb).1 rfl
        refine s_dropS (ea_cons (ev_var rfl) (ea_cons (ev_var rfl) ea_nil)) fun H3 e3 => ?_
        have x3 := e1.trans (e2.trans e3)
        subst d0
        cases pr with
        | @i0 n es d h1 h2 h3 h4 => exact .inl ⟨g, y, n, es, d, rfl, h1.ex x3, h2, h3.same (same_ex x3), h4, fun H' e => ok0 H3 x3 rfl H' .non e⟩
        | @iN d h1 h2 h3 => exact .inr ⟨g, y, d, rfl, h1.same (same_ex x3), h2, h3, bad cF H3 x3 rfl⟩
      have n0 := (dd 0 hb).2 rfl
      refine s_if (b := decide (V.int d = V.int 1)) (et_test (ev_op (ev_var rfl) ev_c (rv_eq rfl))) (fun hb H3 e3 => ?_) (fun hb H3 e3 => ?_)
      · have d0 := (dd 1 hb).1 rfl
        refine s_dropS (ea_cons (ev_var rfl) (ea_cons (ev_var rfl) ea_nil)) fun H4 e4 => ?_
        have x4 := e1.trans (e2.trans (e3.trans e4))
        subst d0
        cases pr with
        | @o0 n es os h1 h2 h3 h4 => exact .inl ⟨g, y, n, es, os, rfl, h1.ex x4, h2, h3.ex x4, h4, fun H' L as e _ _ _ => ok0 H4 x4 rfl H' (.ref L) e⟩
        | @oN C h => exact .inr ⟨g, y, C, rfl, h.ex x4, bad C H4 x4 rfl⟩
      have n1 := (dd 1 hb).2 rfl
      refine s_if (b := decide (V.int d = V.int 2)) (et_test (ev_op (ev_var rfl) ev_c (rv_eq rfl))) (fun hb H4 e4 => ?_) (fun hb H4 e4 => ?_)
      · have d0 := (dd 2 hb).1 rfl
        refine s_dropS (ea_cons (ev_var rfl) (ea_cons (ev_var rfl) (ea_cons (ev_var rfl) ea_nil))) fun H5 e5 => ?_
        have x5 := e1.trans (e2.trans (e3.trans (e4.trans e5)))
        subst d0
        cases pr with
        | @a0 n es zs t as tn h0 h1 h2 h3 h4 h5 h6 => subst h0; exact .inl ⟨g, x, t, n, es, zs, as, tn, rfl, h1.ex x5, h2, h3.ex x5, h4, h5.ex x5, h6, fun H' p os e _ _ _ _ => ok0 H5 x5 rfl H' (.ref p) e⟩
        | @aN C h => exact .inr ⟨g, x, y, C, rfl, h.ex x5, bad C H5 x5 rfl⟩
      have n2 := (dd 2 hb).2 rfl
      refine s_dropS (ea_cons (ev_var rfl) (ea_cons (ev_var rfl) ea_nil)) fun H5 e5 => ?_
      have x5 := e1.trans (e2.trans (e3.trans (e4.trans e5)))
      cases pr with
      | i0 => exact absurd rfl n0
      | iN => exact absurd rfl n0
      | o0 => exact absurd rfl n1
      | oN => exact absurd rfl n1
      | a0 => exact absurd rfl n2
      | aN => exact absurd rfl n2
      | @t0 n es t as tn h0 h1 h2 h3 h4 => subst h0; exact .inl ⟨g, t, n, es, as, tn, rfl, h1.ex x5, h2, h3.ex x5, h4, fun H' v e => ok0 H5 x5 rfl H' v e⟩
      | @tN C h => exact .inr ⟨g, y, C, rfl, h.ex x5, bad C H5 x5 rfl⟩
    · rintro σ' H2 ⟨e2, c, rfl, hc⟩
      refine s_ret (v := .str wd) ?_ fun H3 e3 => q H3 (e2.trans e3)
      rcases hc with ⟨rfl, rfl⟩ | ⟨a, D, rfl, rfl, ha⟩
      · have ew : wd = "none" := by
          rcases wq with ⟨_, h⟩ | ⟨h, _⟩ | ⟨h, _⟩ | ⟨h, _⟩ | ⟨h, _⟩
          · exact h
          · cases h
          · cases h
          · cases h
          · cases h
        subst ew
        exact ev_if (b := true) (et_test (ev_op (ev_var rfl) ev_c rv_isN')) (fun _ => ev_c) fun h => nomatch h
      · refine ev_if (b := false) (et_test (ev_op (ev_var rfl) ev_c rv_isN')) (fun h => nomatch h) fun _ => ev_sp (ea_cons (ev_var rfl) ea_nil) fun H4 e4 Q q' => ⟨a, D, wd, rfl, e4 _ _ ha, ?_, q'⟩
        rcases wq with ⟨h, _⟩ | ⟨h, rfl⟩ | ⟨h, rfl⟩ | ⟨h, rfl⟩ | ⟨h, rfl⟩
        · cases h
        · cases h; exact .inl ⟨rfl, rfl⟩
        · cases h; exact .inr (.inl ⟨rfl, rfl⟩)
        · cases h; exact .inr (.inr (.inl ⟨rfl, rfl⟩))
        · cases h; exact .inr (.inr (.inr ⟨rfl, rfl⟩))
end
end K15
/-! slices of data, any ends -/
namespace Os
open PySem PySem.Spec PyProof.Rows L2 Evl
def cutL {α : Type} (xs : List α) (lo hi : Option Int) : List α := (xs.drop (HT.sIx xs.length 0 lo)).take (HT.sIx xs.length xs.length hi - HT.sIx xs.length 0 lo)
section
variable {α β : Type} {xs : List α} {lo hi : Option Int}
theorem cutL_map (f : α → β) : cutL (xs.map f) lo hi = (cutL xs lo hi).map f := by
  unfold cutL
  rw [List.length_map, List.map_take, List.map_drop]
theorem cutL_mem {x : α} (h : x ∈ cutL xs lo hi) : x ∈ xs := List.mem_of_mem_drop (List.mem_of_mem_take h)
theorem cutL_length : (cutL xs lo hi).length ≤ xs.length := by
  unfold cutL
  rw [List.length_take, List.length_drop]
  omega
theorem cutL_to (xs : List α) (k : Nat) : cutL xs none (some (k : Int)) = xs.take k := by
  unfold cutL
  rw [HT.sIx_none, HT.sIx_nat, List.drop_zero, Nat.sub_zero]
  rcases Nat.le_total k xs.length with h | h
  · rw [Nat.min_eq_left h]
  · rw [Nat.min_eq_right h, List.take_length, List.take_of_length_le h]
theorem cutL_from (xs : List α) (k : Nat) : cutL xs (some (k : Int)) none = xs.drop k := by
  unfold cutL
  rw [HT.sIx_none, HT.sIx_nat]
  rcases Nat.le_total k xs.length with h | h
  · rw [Nat.min_eq_left h]
    exact List.take_of_length_le (by rw [List.length_drop]; omega)
  · rw [Nat.min_eq_right h, List.drop_length, List.take_nil, List.drop_of_length_le h]
theorem cutL_last (xs : List α) : cutL xs none (some (-1)) = xs.take (xs.length - 1) := by
  unfold cutL
  rw [HT.sIx_none, List.drop_zero, Nat.sub_zero]
  have : HT.sIx xs.length xs.length (some (-1)) = xs.length - 1 := by
    show (if (-1 : Int) < 0 then ((-1 : Int) + (xs.length : Int)).toNat else min (-1 : Int).toNat xs.length) = _
    rw [if_pos (by decide)]
    omega
  rw [this]
theorem cutL_in (xs : List α) {a b : Nat} (h1 : a ≤ xs.length) (h2 : b ≤ xs.length) : cutL xs (some (a : Int)) (some (b : Int)) = (xs.drop a).take (b - a) := by
  unfold cutL
  rw [HT.sIx_nat, HT.sIx_nat, Nat.min_eq_left h1, Nat.min_eq_left h2]
end
theorem dts_cut {G : Hp} {xs : List V} {ds : List PyData} {lo hi : Option Int} (h : Dts G xs ds) : Dts G (cutV xs lo hi) (cutL ds lo hi) := by
  unfold cutV cutL
  rw [h.length]
  exact (h.dr _).tk _
section
variable {K : PySem.W.Frag} {L : List Addr} {σ : L2.St} {H : Hp} {te : TE} {tl th : TO} {a : Addr} {xs : List V} {ds : List PyData} {lo hi : Option Int}
theorem x_sl (st : Stn L H) (h : Ev te σ H (.ref a)) (h1 : EvO tl σ H lo) (h2 : EvO th σ H hi) (ha : H a = some (.lst xs)) (hd : Dts (hds L H) xs ds) : EvX L (.list (cutL ds lo hi)) (tSl (rSlL K) te tl th) σ H := x_L st (el_sl h h1 h2 (sq_of ha)) (dts_cut hd)
end
theorem LsK.all {L : List Addr} {R : Hp → V → Prop} {H : Hp} {p : Addr} {lo hi : Nat} (h : LsK L R H p lo hi) : ∃ xs, p ∉ L ∧ H p = some (.lst xs) ∧ lo ≤ xs.length ∧ xs.length ≤ hi ∧ ∀ x ∈ xs, R (hds L H) x := by
  obtain ⟨np, xs, h1, h2, h3, h4⟩ := h
  exact ⟨xs, np, h1, h2, h3, h4⟩
end Os
/-! appending to a list of objects of a kind, told without that list; texts of lists whose parts differ -/
namespace Os
open PySem PySem.Spec PyProof.Rows L2 Evl
theorem hds_out {L : List Addr} {H H' : Hp} {r : Addr} (hr : H r = none) (e : Ex H H') : Ex (hds L H) (hds (r :: L) H') := fun b o h => by
  obtain ⟨n, h⟩ := hds_of h
  rw [hds_ne fun hb => (List.mem_cons.mp hb).elim (fun z => by rw [z, hr] at h; cases h) n]
  exact e _ _ h
theorem hds_less {L M : List Addr} {H : Hp} (h : ∀ b ∈ L, b ∈ M) : Ex (hds M H) (hds L H) := fun b o q => by
  obtain ⟨n, e⟩ := hds_of q
  rw [hds_ne fun hb => n (h b hb)]
  exact e
/-- a list under construction: what stands in it is told without it -/
structure Col (L : List Addr) (R : PyData → Prop) (F : Addr) (lo hi : Nat) (H : Hp) : Prop where
  mem : F ∈ L
  st : Stn L H
  row : ∃ xs, H F = some (.lst xs) ∧ lo ≤ xs.length ∧ xs.length ≤ hi ∧ ∀ x ∈ xs, KP R (hds L H) x
section
variable {K : PySem.W.Frag} {L : List Addr} {R : PyData → Prop} {F : Addr} {lo hi lo' hi' : Nat} {H H' : Hp} {σ : L2.St} {D : Ends} {te ta tb : TE} {d : PyData} {tz : TS}
theorem Col.ex (h : Col L R F lo hi H) (e : Ex H H') : Col L R F lo hi H' := by
  obtain ⟨m, s, xs, h1, h2, h3, h4⟩ := h
  exact ⟨m, s.ex e, xs, e _ _ h1, h2, h3, fun x hx => kp_up _ _ _ (hds_ex e) (h4 x hx)⟩
theorem Col.wide (h : Col L R F lo hi H) (h1 : lo' ≤ lo) (h2 : hi ≤ hi') : Col L R F lo' hi' H := by
  obtain ⟨m, s, xs, a, b, c, d⟩ := h
  exact ⟨m, s, xs, a, by omega, by omega, d⟩
/-- the display that begins it -/
theorem col_new (st : Stn L H) {i : Nat} (h : EvLK L (KP R) te σ H lo hi) (k : ∀ p H1, H p = none → Ex H H1 → Col (p :: L) R p lo hi H1 → Ex (hds L H) (hds (p :: L) H1) → tz D (σ.set i (some (.ref p))) H1)
    (hl : ∀ H1, Ex H H1 → ∀ Q : VK, (∀ p xs H2, H1 p = none → Ex H1 H2 → H2 p = some (.lst xs) → lo ≤ xs.length → xs.length ≤ hi → (∀ x ∈ xs, KP R (hds (p :: L) H2) x) → Q (.ref p) H2) → te σ H1 Q) : tSeq (tAsg te (gName i)) tz D σ H :=
  hl H (Ex.refl H) _ fun p xs H1 hp e h1 h2 h3 r => k p H1 hp e ⟨List.mem_cons_self, fun b hb => by
    rcases List.mem_cons.mp hb with rfl | hb
    · exact ⟨_, h1⟩
    · exact (st.ex e) b hb, xs, h1, h2, h3, r⟩ (hds_out hp e)
/-- displays, told without the new list -/
theorem ela_lst {tl : TA} {n : Nat} (h : EvKs L (KP R) tl σ H n) (hn : n ≤ 1000) : ∀ H1, Ex H H1 → ∀ Q : VK, (∀ p xs H2, H1 p = none → Ex H1 H2 → H2 p = some (.lst xs) → n ≤ xs.length → xs.length ≤ n → (∀ x ∈ xs, KP R (hds (p :: L) H2) x) → Q (.ref p) H2) → (tLst tl) σ H1 Q := fun H1 e Q q =>
  h H1 e _ fun vs H2 e2 hl hv => ⟨by rw [hl]; exact sz_of (by omega), fun p hp => q p vs _ (fresh_back e2 hp) (e2.trans (Ex.new hp)) upd_same (by omega) (by omega) fun x hx => kp_up _ _ _ (hds_out hp (Ex.new hp)) (hv x hx)⟩
theorem ela_cat (h1 : Ev ta σ H (.ref F)) (hp : Col L R F lo hi H) (h2 : EvLK L (KP R) tb σ H lo' hi') (hn : hi + hi' ≤ 10000) : ∀ H1, Ex H H1 → ∀ Q : VK, (∀ p xs H2, H1 p = none → Ex H1 H2 → H2 p = some (.lst xs) → lo + lo' ≤ xs.length → xs.length ≤ hi + hi' → (∀ x ∈ xs, KP R (hds (p :: L) H2) x) → Q (.ref p) H2) → (tOp rCat ta tb) σ H1 Q := fun H1 e Q q => by
  obtain ⟨_, _, xs, hx, l1, l2, rx⟩ := hp
  exact h1 H1 e _ fun H2 e2 => h2 H2 (e.trans e2) _ fun p' ys H3 hp' e3 hy l3 l4 ry =>
    ⟨F, p', xs, ys, rfl, rfl, ((e.trans e2).trans e3) _ _ hx, hy, sz_of (by omega), fun r hr => q r (xs ++ ys) _ (fresh_back (e2.trans e3) hr) ((e2.trans e3).trans (Ex.new hr)) upd_same (by rw [List.length_append]; omega) (by rw [List.length_append]; omega) fun x hx => by
      rcases List.mem_append.mp hx with z | z
      · exact kp_up _ _ _ ((hds_ex ((e.trans e2).trans e3)).trans (hds_out hr (Ex.new hr))) (rx x z)
      · exact kp_up _ _ _ (hds_out hr (Ex.new hr)) (ry x z)⟩
theorem q_col (st : Stn L H) {i : Nat} (hl : ∀ H1, Ex H H1 → ∀ Q : VK, (∀ p xs H2, H1 p = none → Ex H1 H2 → H2 p = some (.lst xs) → lo ≤ xs.length → xs.length ≤ hi → (∀ x ∈ xs, KP R (hds (p :: L) H2) x) → Q (.ref p) H2) → te σ H1 Q)
    (k : ∀ p H1, H p = none → Ex H H1 → Col (p :: L) R p lo hi H1 → tz D (σ.set i (some (.ref p))) H1) : tSeq (tAsg te (gName i)) tz D σ H :=
  hl H (Ex.refl H) _ fun p xs H1 hp e h1 h2 h3 r => k p H1 hp e ⟨List.mem_cons_self, fun b hb => by
    rcases List.mem_cons.mp hb with rfl | hb
    · exact ⟨_, h1⟩
    · exact (st.ex e) b hb, xs, h1, h2, h3, r⟩
/-- append -/
theorem s_col (c : Col L R F lo hi H) (ho : Ev ta σ H (.ref F)) (h : EvX L d te σ H) (r : R d) (hz : hi ≤ 10000) (k : ∀ H1, Col L R F lo (hi + 1) H1 → (∃ H0 o, Ex H H0 ∧ H1 = L2.upd H0 F o) → Ex (hds L H) (hds L H1) → D.nx σ H1) : tDrop (tBM K "list" rAppend ta (tCons te tNil)) D σ H := by
  obtain ⟨m, st, xs, h1, h2, h3, h4⟩ := c
  refine ho H (Ex.refl H) _ fun H1 e1 => ⟨.inl ⟨rfl, _, sq_of (e1 _ _ h1)⟩, h H1 e1 _ fun v H2 e2 dv => ?_⟩
  have e := e1.trans e2
  have up : Ex (hds L H) (hds L (L2.upd H2 F (.lst (xs ++ [v])))) := by
    rw [hds_upd m]
    exact hds_ex e
  refine ⟨F, xs, v, rfl, rfl, e _ _ h1, sz_lt (by omega), k _ ⟨m, fun b hb => ?_, xs ++ [v], upd_same, by rw [List.length_append]; omega, by rw [List.length_append]; show xs.length + 1 ≤ hi + 1; omega, fun x hx => ?_⟩ ⟨H2, _, e, rfl⟩ up⟩
  · by_cases hb' : b = F
    · subst hb'
      exact ⟨_, upd_same⟩
    · obtain ⟨o, ho⟩ := st b hb
      exact ⟨o, by rw [upd_ne hb']; exact e _ _ ho⟩
  · rcases List.mem_append.mp hx with z | z
    · exact kp_up _ _ _ up (h4 x z)
    · rw [List.mem_singleton.mp z]
      exact ⟨d, by rw [hds_upd m]; exact dv, r⟩
end
/-- how far a list under construction has come since H -/
structure Grow (R : PyData → Prop) (L : List Addr) (H : Hp) (M : List Addr) (F : Addr) (lo hi : Nat) (H' : Hp) : Prop where
  ex : Ex H H'
  up : Ex (hds L H) (hds M H')
  sub : ∀ b ∈ L, b ∈ M
  fr : H F = none
  col : Col M R F lo hi H'
section
variable {K : PySem.W.Frag} {L M : List Addr} {R : PyData → Prop} {F : Addr} {lo hi lo' hi' : Nat} {H H' H2 : Hp} {σ : L2.St} {D : Ends} {te ta tb : TE} {d : PyData} {tz : TS}
theorem Grow.on (h : Grow R L H M F lo hi H') (e : Ex H' H2) : Grow R L H M F lo hi H2 := ⟨h.ex.trans e, h.up.trans (hds_ex e), h.sub, h.fr, h.col.ex e⟩
theorem Grow.wide (h : Grow R L H M F lo hi H') (h1 : lo' ≤ lo) (h2 : hi ≤ hi') : Grow R L H M F lo' hi' H' := ⟨h.ex, h.up, h.sub, h.fr, h.col.wide h1 h2⟩
theorem q_grow0 (st : Stn L H) {i : Nat} (hl : ∀ H1, Ex H H1 → ∀ Q : VK, (∀ p xs H2, H1 p = none → Ex H1 H2 → H2 p = some (.lst xs) → lo ≤ xs.length → xs.length ≤ hi → (∀ x ∈ xs, KP R (hds (p :: L) H2) x) → Q (.ref p) H2) → te σ H1 Q)
    (k : ∀ p H1, Grow R L H (p :: L) p lo hi H1 → tz D (σ.set i (some (.ref p))) H1) : tSeq (tAsg te (gName i)) tz D σ H :=
  q_col st hl fun p H1 hp e c => k p H1 ⟨e, hds_out hp e, fun b hb => List.mem_cons_of_mem _ hb, hp, c⟩
theorem grow_cat (G : Grow R L H M F lo hi H') (ho : Ev ta σ H' (.ref F)) (h2 : EvLK M (KP R) tb σ H' lo' hi') (hn : hi + hi' ≤ 10000) {Q : VK} (k : ∀ p H1, Ex H' H1 → Grow R L H (p :: M) p (lo + lo') (hi + hi') H1 → Q (.ref p) H1) : tOp rCat ta tb σ H' Q :=
  ela_cat ho G.col h2 hn H' (Ex.refl _) Q fun p xs H1 hp e h1 l1 l2 r => k p H1 e ⟨G.ex.trans e, G.up.trans (hds_out hp e), fun b hb => List.mem_cons_of_mem _ (G.sub b hb), fresh_back G.ex hp, List.mem_cons_self, fun b hb => by
    rcases List.mem_cons.mp hb with rfl | hb
    · exact ⟨_, h1⟩
    · exact (G.col.st.ex e) b hb, xs, h1, l1, l2, r⟩
theorem q_grow (G : Grow R L H M F lo hi H') {i : Nat} (ho : Ev ta σ H' (.ref F)) (h2 : EvLK M (KP R) tb σ H' lo' hi') (hn : hi + hi' ≤ 10000) (k : ∀ p H1, Ex H' H1 → Grow R L H (p :: M) p (lo + lo') (hi + hi') H1 → tz D (σ.set i (some (.ref p))) H1) : tSeq (tAsg (tOp rCat ta tb) (gName i)) tz D σ H' := grow_cat G ho h2 hn k
theorem s_grow (G : Grow R L H M F lo hi H') {i : Nat} (ho : Ev ta σ H' (.ref F)) (h2 : EvLK M (KP R) tb σ H' lo' hi') (hn : hi + hi' ≤ 10000) (k : ∀ p H1, Ex H' H1 → Grow R L H (p :: M) p (lo + lo') (hi + hi') H1 → D.nx (σ.set i (some (.ref p))) H1) : tAsg (tOp rCat ta tb) (gName i) D σ H' := grow_cat G ho h2 hn k
theorem s_growA (G : Grow R L H M F lo hi H') (ho : Ev ta σ H' (.ref F)) (h : EvX M d te σ H') (r : R d) (hz : hi ≤ 10000) (k : ∀ H1, Grow R L H M F lo (hi + 1) H1 → Ex (hds M H') (hds M H1) → D.nx σ H1) : tDrop (tBM K "list" rAppend ta (tCons te tNil)) D σ H' :=
  s_col G.col ho h r hz fun H1 c ⟨H0, o, e0, eq⟩ up => k H1 ⟨by rw [eq]; exact (G.ex.trans e0).mut G.fr, G.up.trans up, G.sub, G.fr, c⟩ up
theorem q_growA (G : Grow R L H M F lo hi H') (ho : Ev ta σ H' (.ref F)) (h : EvX M d te σ H') (r : R d) (hz : hi ≤ 10000) (k : ∀ H1, Grow R L H M F lo (hi + 1) H1 → Ex (hds M H') (hds M H1) → tz D σ H1) : tSeq (tDrop (tBM K "list" rAppend ta (tCons te tNil))) tz D σ H' :=
  s_growA (D := { D with nx := tz D }) G ho h r hz k
theorem Grow.fin (G : Grow R L H M F lo hi H') : ∃ xs, H' F = some (.lst xs) ∧ lo ≤ xs.length ∧ xs.length ≤ hi ∧ ∀ x ∈ xs, KP R (hds L H') x := by
  obtain ⟨xs, h1, h2, h3, h4⟩ := G.col.row
  exact ⟨xs, h1, h2, h3, fun x hx => kp_up _ _ _ (hds_less G.sub) (h4 x hx)⟩
end
theorem s_forLK {K : PySem.W.Frag} {L : List Addr} {R : Hp → V → Prop} {lo hi : Nat} {H : Hp} {σ : L2.St} {D : Ends} {tl : TE} {g : TG} {tu : TS} (h : EvLK L R tl σ H lo hi) (Pv : Addr → List V → Hp → Nat → L2.St → Hp → Prop)
    (h0 : ∀ p xs H1, H p = none → Ex H H1 → H1 p = some (.lst xs) → lo ≤ xs.length → xs.length ≤ hi → (∀ x ∈ xs, R (hds L H1) x) → Pv p xs H1 0 σ H1)
    (hl : ∀ p xs H1 i σ' H', i ≤ xs.length → Pv p xs H1 i σ' H' → SqL K H' p xs)
    (hs : ∀ p xs H1 i x σ' H', xs[i]? = some x → Pv p xs H1 i σ' H' → g x σ' H' fun σ2 H2 => tu { D with nx := Pv p xs H1 (i + 1), ct := Pv p xs H1 (i + 1), bk := D.nx } σ2 H2)
    (hd : ∀ p xs H1 σ' H', Pv p xs H1 xs.length σ' H' → D.nx σ' H') : tFor (iList K tl) g tu D σ H :=
  h H (Ex.refl H) _ fun p xs H1 hp e hx l1 l2 r => ⟨p, rfl, ⟨xs, sq_of hx⟩, for_list (Pv p xs H1) (h0 p xs H1 hp e hx l1 l2 r) (hl p xs H1) (hs p xs H1) (hd p xs H1)⟩
theorem Dts.rep {G : Hp} {xs : List V} {ds : List PyData} (h : Dts G xs ds) : ∀ k : Nat, Dts G (List.replicate k xs).flatten (List.replicate k ds).flatten
  | 0 => .nil
  | k + 1 => by
    rw [List.replicate_succ, List.replicate_succ, List.flatten_cons, List.flatten_cons]
    exact h.app (Dts.rep h k)
theorem x_rep {L : List Addr} {σ : L2.St} {H : Hp} {ta tb : TE} {ds : List PyData} {k : Nat} (st : Stn L H) (h : EvX L (.list ds) ta σ H) (h2 : Ev tb σ H (.int (k : Int))) (hk : k ≤ 100) (hn : ds.length ≤ 100) : EvX L (.list (List.replicate k ds).flatten) (tOp rRep ta tb) σ H := fun H1 e Q q =>
  h H1 e _ fun v H2 e2 dv => h2 H2 (e.trans e2) _ fun H3 e3 => by
    obtain ⟨p, xs, rfl, hx, t⟩ := x_list_inv (dv.same (same_ex (hds_ex e3)))
    have xl := t.length
    have m1 : xs.length * k ≤ 100 * 100 := Nat.mul_le_mul (by omega) hk
    refine ⟨p, (k : Int), xs, rfl, rfl, hx, by omega, by omega, sz_of (by rw [Int.toNat_natCast]; omega), fun r hr => ?_⟩
    rw [Int.toNat_natCast]
    exact q (.ref r) _ ((e2.trans e3).trans (Ex.new hr)) (.lst ((st.ex ((e.trans e2).trans e3)).at hr upd_same) ((t.rep k).same (same_ex (hds_ex (Ex.new hr)))))
/-! ### texts -/
def LimS (W D : Nat) (ds : List PyData) : Prop := piled (PyData.shownAll ds) ≤ W ∧ PyData.depthAll ds ≤ D ∧ PyData.showableAll ds = true ∧ PyData.hasDictAll ds = false
theorem limS_nil {D : Nat} : LimS 0 D [] := ⟨Nat.le_refl _, Nat.zero_le _, rfl, rfl⟩
theorem limS_cons {L W D : Nat} {d : PyData} {ds : List PyData} (i : Lim L D d) (h : LimS W D ds) : LimS (L + 2 + W) D (d :: ds) := by
  obtain ⟨h1, h2, h3, h4⟩ := h
  refine ⟨?_, ?_, ?_, ?_⟩
  · show piled (d.shown :: PyData.shownAll ds) ≤ L + 2 + W
    rw [piled_cons]
    have := i.long
    omega
  · show max d.depth (PyData.depthAll ds) ≤ D
    have := i.deep
    omega
  · show (d.showable && PyData.showableAll ds) = true
    rw [i.show', h3]
    rfl
  · show (d.hasDict || PyData.hasDictAll ds) = false
    rw [i.flat, h4]
    rfl
theorem lim_sum {W D : Nat} {ds : List PyData} (h : LimS W D ds) : Lim (W + 3) (D + 1) (.list ds) := by
  obtain ⟨h1, h2, h3, h4⟩ := h
  refine ⟨?_, Nat.succ_le_succ h2, h3, h4⟩
  show (listText (PyData.shownAll ds)).length ≤ _
  have := listText_len (PyData.shownAll ds)
  omega
end Os
namespace Os
open PySem PySem.Spec PyProof.Rows L2 Evl
/-! ### a list under construction beside a source of draws -/
structure Cs (s : Addr) (R : Hp → V → Prop) (F : Hp → Prop) (M : List Addr) (Fc : Addr) (B hi : Nat) (H : Hp) : Prop where
  sm : s ∈ M
  fm : Fc ∈ M
  ne : Fc ≠ s
  st : Stn M H
  src : Src H s B
  f : F (hds M H)
  row : ∃ xs, H Fc = some (.lst xs) ∧ xs.length ≤ hi ∧ ∀ x ∈ xs, R (hds M H) x
section
variable {K : PySem.W.Frag} {s : Addr} {R : Hp → V → Prop} {F : Hp → Prop} {M : List Addr} {Fc : Addr} {B C hi lo' hi' : Nat} {H H' : Hp} {σ : L2.St} {ta tb : TE} {v : V}
theorem Cs.on (c : Cs s R F M Fc B hi H) (up : Up R) (uf : ∀ G G', Ex G G' → F G → F G') (e : Ex H H') : Cs s R F M Fc B hi H' := by
  obtain ⟨a, b, n, st, src, f, xs, h1, h2, h3⟩ := c
  exact ⟨a, b, n, st.ex e, src.ex e, uf _ _ (hds_ex e) f, xs, e _ _ h1, h2, fun x hx => up _ _ _ (hds_ex e) (h3 x hx)⟩
theorem Cs.drew (c : Cs s R F M Fc B hi H) (up : Up R) (uf : ∀ G G', Ex G G' → F G → F G') (d : Drew s C H H') : Cs s R F M Fc C hi H' := by
  obtain ⟨a, b, n, st, src, f, xs, h1, h2, h3⟩ := c
  exact ⟨a, b, n, st.drew d, d.src, uf _ _ (hds_drew d a) f, xs, d.get n h1, h2, fun x hx => up _ _ _ (hds_drew d a) (h3 x hx)⟩
theorem Cs.mono (c : Cs s R F M Fc B hi H) (h1 : B ≤ C) (h2 : hi ≤ hi') : Cs s R F M Fc C hi' H := by
  obtain ⟨a, b, n, st, src, f, xs, g1, g2, g3⟩ := c
  exact ⟨a, b, n, st, src.mono h1, f, xs, g1, by omega, g3⟩
theorem Cs.put (c : Cs s R F M Fc B hi H) (r : R (hds M H) v) : ∃ xs, H Fc = some (.lst xs) ∧ xs.length ≤ hi ∧ Cs s R F M Fc B (hi + 1) (L2.upd H Fc (.lst (xs ++ [v]))) := by
  obtain ⟨a, b, n, st, src, f, xs, h1, h2, h3⟩ := c
  refine ⟨xs, h1, h2, a, b, n, fun q hq => ?_, ?_, by rw [hds_upd b]; exact f, xs ++ [v], upd_same, by rw [List.length_append]; show xs.length + 1 ≤ hi + 1; omega, fun x hx => ?_⟩
  · by_cases e : q = Fc
    · subst e
      exact ⟨_, upd_same⟩
    · obtain ⟨o, ho⟩ := st q hq
      exact ⟨o, by rw [upd_ne e]; exact ho⟩
  · obtain ⟨x, y, z, g1, g2⟩ := src
    exact ⟨x, y, z, (upd_ne n.symm).trans g1, g2⟩
  · rw [hds_upd b]
    rcases List.mem_append.mp hx with z | z
    · exact h3 x z
    · rw [List.mem_singleton.mp z]
      exact r
theorem cs_cat (c : Cs s R F M Fc B hi H) (up : Up R) (uf : ∀ G G', Ex G G' → F G → F G') (ho : Ev ta σ H (.ref Fc)) (h2 : EvLK M R tb σ H lo' hi') (hn : hi + hi' ≤ 10000) {Q : VK} (k : ∀ p H1, Ex H H1 → Cs s R F (p :: M) p B (hi + hi') H1 → Q (.ref p) H1) : tOp rCat ta tb σ H Q := by
  obtain ⟨a, b, n, st, src, f, xs, h1, l2, h3⟩ := c
  exact ho H (Ex.refl H) _ fun H2 e2 => h2 H2 e2 _ fun p' ys H3 hp' e3 hy l3 l4 ry =>
    ⟨Fc, p', xs, ys, rfl, rfl, (e2.trans e3) _ _ h1, hy, sz_of (by omega), fun r hr => by
      have er := Ex.new (o := .lst (xs ++ ys)) hr
      have x := (e2.trans e3).trans er
      have hrH := fresh_back (e2.trans e3) hr
      refine k r _ x ⟨List.mem_cons_of_mem _ a, List.mem_cons_self, fun z => ?_, fun q hq => ?_, src.ex x, uf _ _ (hds_out hrH x) f, xs ++ ys, upd_same, by rw [List.length_append]; omega, fun y hy' => ?_⟩
      · obtain ⟨x, y, w, g1, _⟩ := src
        rw [z, g1] at hrH
        cases hrH
      · rcases List.mem_cons.mp hq with rfl | hq
        · exact ⟨_, upd_same⟩
        · exact (st.ex x) q hq
      · rcases List.mem_append.mp hy' with z | z
        · exact up _ _ _ (hds_out hrH x) (h3 y z)
        · exact up _ _ _ (hds_out hr er) (ry y z)⟩
theorem elk_lcA {xs : List V} {a : Addr} {tl te : TE} {j : Nat} {vs : List Nat} (st : Stn M H) (h : Ev tl σ H (.ref a)) (hx : H a = some (.lst xs)) (up : Up R) (few : xs.length ≤ 1000) (hw : ∀ x, wipe ((wipe σ vs).set j (some x)) vs = wipe σ vs)
    (he : ∀ D G x, H D = none → Ex H G → (∃ o, G D = some o) → x ∈ xs → EvK (D :: M) R te ((wipe σ vs).set j (some x)) G) : EvLK M R (tLc (iList K tl) (gName j) tYes te vs) σ H xs.length xs.length := fun H0 e0 Q q => h H0 e0 _ fun H1 e1 => ⟨a, rfl, ⟨xs, sq_of ((e0.trans e1) _ _ hx)⟩, fun D hD => by
  have e01 := e0.trans e1
  refine lc_list (xs := xs) (fun i Hh => Ex H1 Hh ∧ ∃ ws, Hh D = some (.lst ws) ∧ ws.length = i ∧ i ≤ xs.length ∧ ∀ y ∈ ws, R (hds (D :: M) Hh) y) ⟨Ex.new hD, [], upd_same, rfl, Nat.zero_le _, fun _ h => nomatch h⟩ (fun i Hh _ p => sq_of ((e01.trans p.1) _ _ hx)) ?_ ?_
  · rintro i x Hh hxi ⟨x1, ws, hws, wl, il, hy⟩
    have i2 := (List.getElem?_eq_some_iff.mp hxi).1
    refine ⟨hw _, ?_⟩
    dsimp only [tYes]
    rw [if_pos rfl]
    refine he D Hh x (fresh_back e01 hD) (e01.trans x1) ⟨_, hws⟩ (List.mem_of_getElem? hxi) Hh (Ex.refl _) _ fun v H2 e2 r => ?_
    refine ⟨ws, e2 _ _ hws, sz_lt (by omega), (x1.trans e2).mut hD, ws ++ [v], upd_same, by rw [List.length_append, wl]; rfl, by omega, fun y hy' => ?_⟩
    rw [hds_upd List.mem_cons_self]
    rcases List.mem_append.mp hy' with z | z
    · exact up _ _ _ (hds_ex e2) (hy y z)
    · rw [List.mem_singleton.mp z]
      exact r
  · rintro Hh ⟨x1, ws, hws, wl, _, hy⟩
    exact q D ws Hh (fresh_back e1 hD) (e1.trans x1) hws (by omega) (by omega) fun y hy' => up _ _ _ (hds_less fun b hb => List.mem_cons_of_mem _ hb) (hy y hy')⟩
end
end Os
namespace Os
open PySem PySem.Spec PyProof.Rows L2 Evl
section
variable {K : PySem.W.Frag} {s : Addr} {R : Hp → V → Prop} {F : Hp → Prop} {L M : List Addr} {Fc : Addr} {B C hi lo' hi' n : Nat} {H H' : Hp} {σ : L2.St} {D : Ends} {ta tb : TE} {tl : TA} {tz : TS} {v : V}
theorem q_cs0 (sm : s ∈ L) (st : Stn L H) (src : Src H s B) (f : F (hds L H)) (up : Up R) (uf : ∀ G G', Ex G G' → F G → F G') (h : EvKs L R tl σ H n) (hn : n ≤ 1000) {i : Nat} (k : ∀ p H1, Ex H H1 → Cs s R F (p :: L) p B n H1 → tz D (σ.set i (some (.ref p))) H1) : tSeq (tAsg (tLst tl) (gName i)) tz D σ H :=
  h H (Ex.refl H) _ fun vs H2 e2 hl hv => ⟨by rw [hl]; exact sz_of (by omega), fun p hp => by
    have er := Ex.new (o := .lst vs) hp
    have x := e2.trans er
    have hpH := fresh_back e2 hp
    refine k p _ x ⟨List.mem_cons_of_mem _ sm, List.mem_cons_self, fun z => ?_, fun q hq => ?_, src.ex x, uf _ _ (hds_out hpH x) f, vs, upd_same, by omega, fun y hy => up _ _ _ (hds_out hp er) (hv y hy)⟩
    · obtain ⟨a, b, w, g1, _⟩ := src
      rw [z, g1] at hpH
      cases hpH
    · rcases List.mem_cons.mp hq with rfl | hq
      · exact ⟨_, upd_same⟩
      · exact (st.ex x) q hq⟩
theorem q_cs (c : Cs s R F M Fc B hi H) (up : Up R) (uf : ∀ G G', Ex G G' → F G → F G') {i : Nat} (ho : Ev ta σ H (.ref Fc)) (h2 : EvLK M R tb σ H lo' hi') (hn : hi + hi' ≤ 10000) (k : ∀ p H1, Ex H H1 → Cs s R F (p :: M) p B (hi + hi') H1 → tz D (σ.set i (some (.ref p))) H1) : tSeq (tAsg (tOp rCat ta tb) (gName i)) tz D σ H := cs_cat c up uf ho h2 hn k
theorem s_cs (c : Cs s R F M Fc B hi H) (up : Up R) (uf : ∀ G G', Ex G G' → F G → F G') {i : Nat} (ho : Ev ta σ H (.ref Fc)) (h2 : EvLK M R tb σ H lo' hi') (hn : hi + hi' ≤ 10000) (k : ∀ p H1, Ex H H1 → Cs s R F (p :: M) p B (hi + hi') H1 → D.nx (σ.set i (some (.ref p))) H1) : tAsg (tOp rCat ta tb) (gName i) D σ H := cs_cat c up uf ho h2 hn k
theorem s_csA (c : Cs s R F M Fc B hi H) (up : Up R) (uf : ∀ G G', Ex G G' → F G → F G') (ho : Ev ta σ H (.ref Fc)) (h : EvK M R tb σ H) (hz : hi ≤ 10000) (k : ∀ H1, Ex (hds M H) (hds M H1) → Cs s R F M Fc B (hi + 1) H1 → D.nx σ H1) : tDrop (tBM K "list" rAppend ta (tCons tb tNil)) D σ H := by
  obtain ⟨xs0, h0, _⟩ := c.row
  refine ho H (Ex.refl H) _ fun H1 e1 => ⟨.inl ⟨rfl, _, sq_of (e1 _ _ h0)⟩, h H1 e1 _ fun v H2 e2 r => ?_⟩
  obtain ⟨xs, g1, g2, g3⟩ := (c.on up uf (e1.trans e2)).put r
  exact ⟨Fc, xs, v, rfl, rfl, g1, sz_lt (by omega), k _ (by rw [hds_upd c.fm]; exact hds_ex (e1.trans e2)) g3⟩
end
end Os
namespace Os
open PySem PySem.Spec PyProof.Rows L2 Evl
theorem q_forLK {K : PySem.W.Frag} {L : List Addr} {R : Hp → V → Prop} {lo hi : Nat} {H : Hp} {σ : L2.St} {D : Ends} {tl : TE} {g : TG} {tu tz : TS} (h : EvLK L R tl σ H lo hi) (Pv : Addr → List V → Hp → Nat → L2.St → Hp → Prop)
    (h0 : ∀ p xs H1, H p = none → Ex H H1 → H1 p = some (.lst xs) → lo ≤ xs.length → xs.length ≤ hi → (∀ x ∈ xs, R (hds L H1) x) → Pv p xs H1 0 σ H1)
    (hl : ∀ p xs H1 i σ' H', i ≤ xs.length → Pv p xs H1 i σ' H' → SqL K H' p xs)
    (hs : ∀ p xs H1 i x σ' H', xs[i]? = some x → Pv p xs H1 i σ' H' → g x σ' H' fun σ2 H2 => tu { D with nx := Pv p xs H1 (i + 1), ct := Pv p xs H1 (i + 1), bk := tz D } σ2 H2)
    (hd : ∀ p xs H1 σ' H', Pv p xs H1 xs.length σ' H' → tz D σ' H') : tSeq (tFor (iList K tl) g tu) tz D σ H := s_forLK (D := { D with nx := tz D }) h Pv h0 hl hs hd
end Os
namespace K15
open PySem PySem.Spec PyProof.Rows L2 Os Evl
abbrev sNoG : Stmt := topS 49
theorem scNoG : FnScope ["found"] [] (defScope sNoG) := ⟨rfl, rfl, rfl, by decide +kernel, rfl, by decide +kernel, by decide +kernel⟩
abbrev sNoL : Stmt := topS 50
theorem scNoL : FnScope ["labels", "found"] ["labels"] (defScope sNoL) := ⟨rfl, rfl, rfl, by decide +kernel, rfl, by decide +kernel, by decide +kernel⟩
theorem pow59 : (0 : Int) ≤ 59 ∧ (Builtin.Int.intBits 10 : Int) * 59 ≤ 2 ^ 27 := by decide +kernel
/-- what a boolean check says of a forest -/
def prOf : PyData → Pr
  | .tuple [.int p, .int q] => (p.toNat, q.toNat)
  | _ => (0, 0)
theorem prOf_pr (e : Pr) : prOf (Os.prD e) = e := rfl
theorem prOf_prs : ∀ es : List Pr, (es.map Os.prD).map prOf = es
  | [] => rfl
  | e :: es => by
    rw [List.map_cons, List.map_cons, prOf_prs es]
    rfl
def fB : PyData → Bool
  | .tuple [.int i, .list ds] => decide (1 ≤ i) && (decide (i ≤ 40) && (ds.all (edgeB i) && (ascB (ds.map prOf) && !cycB (ds.map prOf) (List.range i.toNat))))
  | _ => false
theorem fB_of {d : PyData} (h : IsFor d) : fB d = true := by
  obtain ⟨n, es, rfl, ok⟩ := h
  have n1 := ok.n1
  have n40 := ok.n40
  show (decide (1 ≤ (n : Int)) && (decide ((n : Int) ≤ 40) && ((es.map Os.prD).all (edgeB (n : Int)) && (ascB ((es.map Os.prD).map prOf) && !cycB ((es.map Os.prD).map prOf) (List.range (n : Int).toNat))))) = true
  rw [prOf_prs, Int.toNat_natCast, asc_of ok.edges.asc, ok.edges.no_cyc, decide_eq_true (show 1 ≤ (n : Int) by omega), decide_eq_true (show (n : Int) ≤ 40 by omega), List.all_eq_true.mpr fun d hd => by
    obtain ⟨f, hf, rfl⟩ := List.mem_map.mp hd
    exact edge_ok ok hf]
  rfl
theorem nf {d : PyData} (h : fB d = false) : ¬ IsFor d := fun z => by
  rw [fB_of z] at h
  cases h
theorem nf_edge {n : Int} {ds : List PyData} {x : PyData} (hx : x ∈ ds) (h : edgeB n x = false) : ¬ IsFor (.tuple [.int n, .list ds]) := fun ⟨m, es, e, ok⟩ => by
  injection e with e
  injection e with e1 e
  injection e with e2 _
  injection e1 with e1
  injection e2 with e2
  rw [e2] at hx
  obtain ⟨f, hf, rfl⟩ := List.mem_map.mp hx
  rw [e1, edge_ok ok hf] at h
  cases h
theorem edge_flat (n : Int) (p q : Int) (h : ¬ p < q) : edgeB n (.tuple [.int p, .int q]) = false := by
  show (posB n (.int p) && (posB n (.int q) && decide (p < q))) = false
  rw [decide_eq_false h, Bool.and_false, Bool.and_false]
theorem edge_far (n : Int) (p : Int) : edgeB n (.tuple [.int p, .int n]) = false := by
  show (posB n (.int p) && ((decide (0 ≤ n) && decide (n < n)) && decide (p < n))) = false
  rw [decide_eq_false (Int.lt_irrefl n), Bool.and_false, Bool.false_and, Bool.and_false]
def shfB : PyData → Bool
  | .tuple [_, .list ds] => decide (ds.length ≤ 60)
  | _ => true
theorem shf_of {d : PyData} (h : shfB d = true) : ShF d := fun m ds e => by
  rw [e] at h
  have h : decide (ds.length ≤ 60) = true := h
  have := of_decide_eq_true h
  exact ⟨by omega, .inl this⟩
theorem shf_len {m : PyData} {ds : List PyData} (h : ds.length ≤ 60) : ShF (.tuple [m, .list ds]) := shf_of (decide_eq_true h)
theorem shf_bad {m : PyData} {ds : List PyData} {x : PyData} (h : ds.length ≤ 1000) (hx : x ∈ ds) (no : ∀ n, m = .int n → edgeB n x = false) : ShF (.tuple [m, .list ds]) := fun m' ds' e => by
  injection e with e
  injection e with em e
  injection e with e _
  injection e with e
  subst e
  refine ⟨h, .inr fun n hn => ?_⟩
  cases z : ds.all (edgeB n) with
  | false => rfl
  | true =>
    have := List.all_eq_true.mp z x hx
    rw [no n (em.trans hn)] at this
    cases this
/-- no forest, of no great size -/
structure BG (d : PyData) : Prop where
  kd : Kd 90000 8 d
  sh : ShF d
  no : ¬ IsFor d
theorem bg_dec {d : PyData} (h1 : (decide (d.shown.length ≤ 90000) && (decide (d.depth ≤ 8) && (d.showable && (!d.hasDict && (d.canLay0 && decide (smx d ≤ 1000)))))) = true) (h2 : shfB d = true) (h3 : fB d = false) : BG d := ⟨kd_of h1, shf_of h2, nf h3⟩
theorem kd_sz {n : Nat} (h : n ≤ 40) : Kd 70 0 (.int (n : Int)) := Kd.int (by omega)
theorem kd_plus {ds : List PyData} {x : PyData} {m : Nat} (h : ∀ d ∈ ds, Kd 147 1 d) (hx : Kd 147 1 x) (hm : ds.length + 1 ≤ m) : Kd (3 + (147 + 2) * m) 2 (.list (ds ++ [x])) := Kd.lst (fun d hd => by
  rcases List.mem_append.mp hd with h' | h'
  · exact h d h'
  · rw [List.mem_singleton.mp h']
    exact hx) (by rw [List.length_append]; exact hm)
/-- no arrangement, of no great size -/
structure BR (n : Nat) (d : PyData) : Prop where
  kd : Kd 90000 8 d
  sh : ShortL d
  no : rowB (n : Int) d = false
theorem kd_shortS {L D : Nat} {d : PyData} (h : Kd L D d) : ShortS d := by
  cases d with
  | str z => exact ⟨h.sm, h.lay⟩
  | _ => trivial
theorem kd_kids {L D : Nat} {ds : List PyData} {x : PyData} (hx : Kd L D x) (h : ∀ d ∈ ds, Kd L D d) : ∀ d ∈ x :: ds, Kd L D d := fun d hd => by
  rcases List.mem_cons.mp hd with rfl | hd
  · exact hx
  · exact h d hd
theorem kd_nil {L D : Nat} : ∀ d ∈ ([] : List PyData), Kd L D d := fun _ h => nomatch h
def listB : PyData → Bool
  | .list _ => true
  | _ => false
theorem br_dec {n : Nat} {d : PyData} (h1 : (decide (d.shown.length ≤ 90000) && (decide (d.depth ≤ 8) && (d.showable && (!d.hasDict && (d.canLay0 && decide (smx d ≤ 1000)))))) = true) (h2 : listB d = false) : BR n d := ⟨kd_of h1, by cases d with
  | list _ => cases h2
  | _ => trivial, by cases d with
  | list _ => cases h2
  | _ => rfl⟩
theorem br_list {n m L D : Nat} {ds : List PyData} (hk : ∀ d ∈ ds, Kd L D d) (hl : ds.length ≤ m) (hm : m ≤ 1000) (h2 : 3 + (L + 2) * m ≤ 90000) (h3 : D + 1 ≤ 8) (no : rowB (n : Int) (.list ds) = false) : BR n (.list ds) :=
  ⟨(Kd.lst hk hl).mono h2 h3, ⟨by omega, fun d hd => kd_shortS (hk d hd)⟩, no⟩
theorem row_mem {n : Int} {ds : List PyData} {x : PyData} (hx : x ∈ ds) (h : itemB x = false) : rowB n (.list ds) = false := by
  cases e : rowB n (.list ds) with
  | false => rfl
  | true =>
    have e : (decide ((ds.length : Int) = n) && ds.all itemB && decide (strsOf ds).Nodup) = true := e
    rw [Bool.and_eq_true, Bool.and_eq_true] at e
    have := List.all_eq_true.mp e.1.2 x hx
    rw [h] at this
    cases this
theorem row_len {n : Int} {ds : List PyData} (h : (ds.length : Int) ≠ n) : rowB n (.list ds) = false := by
  show (decide ((ds.length : Int) = n) && ds.all itemB && decide (strsOf ds).Nodup) = false
  rw [decide_eq_false h, Bool.false_and, Bool.false_and]
theorem row_dup {n : Int} {us : List Str} (h : ¬ us.Nodup) : rowB n (.list (us.map PyData.str)) = false := by
  show (decide (((us.map PyData.str).length : Int) = n) && (us.map PyData.str).all itemB && decide (strsOf (us.map PyData.str)).Nodup) = false
  rw [strsOf_map, decide_eq_false h, Bool.and_false]
section
variable {n : Nat} {zs : List Str}
theorem kd_names (ok : ArrOk zs n) : ∀ d ∈ zs.map PyData.str, Kd 200 0 d := fun d hd => by
  obtain ⟨z, hz, rfl⟩ := List.mem_map.mp hd
  exact Kd.name (Nat.le_trans (name_short (ok.ok z hz).1) (by decide)) (ok.ok z hz).2
theorem kd_row (ok : ArrOk zs n) (h : n ≤ 40) : Kd 8083 1 (.list (zs.map PyData.str)) := Kd.lst (m := 40) (kd_names ok) (by rw [List.length_map, ok.len]; exact h)
theorem br_tup (ok : ArrOk zs n) (h : n ≤ 40) : BR n (.tuple (zs.map PyData.str)) := ⟨(Kd.tup (m := 40) (kd_names ok) (by rw [List.length_map, ok.len]; exact h)).mono (by decide) (by decide), trivial, rfl⟩
theorem kd_end (ok : ArrOk zs n) {x : PyData} (hx : Kd 200 1 x) {lo hi : Option Int} : ∀ d ∈ cutL (zs.map PyData.str) lo hi ++ [x], Kd 200 1 d := fun d hd => by
  rcases List.mem_append.mp hd with h | h
  · exact (kd_names ok d (cutL_mem h)).mono (Nat.le_refl _) (by decide)
  · rw [List.mem_singleton.mp h]
    exact hx
theorem br_end (ok : ArrOk zs n) (h : n ≤ 40) {x : PyData} (hx : Kd 200 1 x) (no : itemB x = false) {lo hi : Option Int} : BR n (.list (cutL (zs.map PyData.str) lo hi ++ [x])) :=
  br_list (m := 41) (kd_end ok hx) (by rw [List.length_append]; have := cutL_length (xs := zs.map PyData.str) (lo := lo) (hi := hi); rw [List.length_map, ok.len] at this; show _ + 1 ≤ 41; omega) (by decide) (by decide) (by decide) (row_mem (List.mem_append_right _ List.mem_cons_self) no)
theorem br_one (ok : ArrOk zs n) (h : n ≤ 40) : BR n (.list [.list (zs.map PyData.str)]) := br_list (m := 1) (kd_kids (kd_row ok h) kd_nil) (Nat.le_refl 1) (by decide) (by decide) (by decide) (row_mem List.mem_cons_self rfl)
theorem br_more (ok : ArrOk zs n) (h : n ≤ 40) {x : PyData} (hx : Kd 200 1 x) : BR n (.list (zs.map PyData.str ++ [x])) :=
  br_list (m := 41) (L := 200) (D := 1) (fun d hd => by
    rcases List.mem_append.mp hd with h | h
    · exact (kd_names ok d h).mono (Nat.le_refl _) (by decide)
    · rw [List.mem_singleton.mp h]
      exact hx) (by rw [List.length_append, List.length_map, ok.len]; show n + 1 ≤ 41; omega) (by decide) (by decide) (by decide) (row_len (by rw [List.length_append, List.length_map, ok.len]; show ((n + 1 : Nat) : Int) ≠ n; omega))
theorem br_tail (ok : ArrOk zs n) (h : n ≤ 40) (h1 : 1 ≤ n) : BR n (.list (cutL (zs.map PyData.str) (some 1) none)) :=
  br_list (m := 40) (fun d hd => kd_names ok d (cutL_mem hd)) (by have := cutL_length (xs := zs.map PyData.str) (lo := some 1) (hi := none); rw [List.length_map, ok.len] at this; omega) (by decide) (by decide) (by decide) (row_len (by
    rw [show (some (1 : Int)) = some ((1 : Nat) : Int) from rfl, cutL_from, List.length_drop, List.length_map, ok.len]
    omega))
theorem br_two {us : List Str} (ok : ArrOk zs n) (h : n ≤ 40) (sub : ∀ z ∈ us, z ∈ zs) (hl : us.length ≤ 80) (dup : ¬ us.Nodup) : BR n (.list (us.map PyData.str)) :=
  br_list (m := 80) (L := 200) (D := 0) (fun d hd => by
    obtain ⟨z, hz, rfl⟩ := List.mem_map.mp hd
    exact kd_names ok _ (List.mem_map.mpr ⟨z, sub z hz, rfl⟩)) (by rw [List.length_map]; exact hl) (by decide) (by decide) (by decide) (row_dup dup)
theorem br_ring (ok : ArrOk zs n) (h : n ≤ 40) (h2 : 2 ≤ n) : BR n (.list (cutL (zs.map PyData.str) none (some (-1)) ++ cutL (zs.map PyData.str) none (some 1))) := by
  rw [cutL_map, cutL_map, ← List.map_append]
  refine br_two ok h (fun z hz => (List.mem_append.mp hz).elim cutL_mem cutL_mem) (by rw [List.length_append]; have := cutL_length (xs := zs) (lo := none) (hi := some (-1)); have := cutL_length (xs := zs) (lo := none) (hi := some 1); have := ok.len; omega) fun nd => ?_
  rw [cutL_last, show (some (1 : Int)) = some ((1 : Nat) : Int) from rfl, cutL_to] at nd
  match zs, ok.len with
  | [], e => have : 0 = n := e; omega
  | [z], e => have : 1 = n := e; omega
  | z :: y :: r, _ =>
    have := (List.nodup_append.mp nd).2.2 z (by rw [show (z :: y :: r).length - 1 = r.length + 1 from rfl, List.take_succ_cons]; exact List.mem_cons_self) z List.mem_cons_self
    exact this rfl
end
theorem row_short {n : Nat} {zs : List Str} (ok : ArrOk zs n) (h : n ≤ 40) (h1 : 1 ≤ n) : BR n (.list (cutL (zs.map PyData.str) none (some (-1)))) :=
  br_list (m := 40) (fun d hd => kd_names ok d (cutL_mem hd)) (by have := cutL_length (xs := zs.map PyData.str) (lo := none) (hi := some (-1)); rw [List.length_map, ok.len] at this; omega) (by decide) (by decide) (by decide) (row_len (by
    rw [cutL_last, List.length_take, List.length_map, ok.len]
    omega))
theorem br_nil {n : Nat} (h1 : 1 ≤ n) : BR n (.list []) := br_list (m := 0) (L := 0) (D := 0) (fun _ h => nomatch h) (Nat.le_refl 0) (by decide) (by decide) (by decide) (row_len (by show (0 : Int) ≠ n; omega))
section
variable {P : Program} {w : World} {K : PySem.W.Frag} {mg : Str → Option Value} {base : Heap}
def spNoG : Sp := fun vs H Q _ => ∃ L : List Addr, vs = [] ∧ Stn L H ∧ ∀ (H' : Hp) (p : Addr) (xs : List V), Ex H H' → H p = none → H' p = some (.lst xs) → xs.length = 30 → (∀ x ∈ xs, KP BG (hds L H') x) → Q (.ref p) H'
theorem ok_noG {f : Addr} {fd : FuncData} {k : Nat} (F : Fun K "_law_no_graphs" "_law_no_graphs" sNoG f fd) : FnOk P w K mg base CX0 (k + 1) f fd [] spNoG := by
  refine F.ok scNoG (fun vs H Q E h => ?_) (fun cdv A outer stt H vs Q E hr h => ?_)
  · obtain ⟨L, rfl, _⟩ := h
    rfl
  · obtain ⟨L, rfl, st0, q⟩ := h
    refine ⟨_, (pss_cons (ps_set (i := 0) scNoG.nd rfl (.inl rfl) (pe_lst (pa_cons pe_non (pa_cons pe_int (pa_cons pe_bl (pa_cons pe_str (pa_cons (pe_lst pa_nil) (pa_cons (pe_tup pa_nil) (pa_cons (pe_tup (pa_cons pe_int pa_nil)) (pa_cons (pe_lst (pa_cons pe_int (pa_cons (pe_lst pa_nil) pa_nil))) (pa_cons (pe_tup (pa_cons pe_int (pa_cons (pe_lst pa_nil) pa_nil))) (pa_cons (pe_tup (pa_cons pe_int (pa_cons (pe_lst pa_nil) pa_nil))) (pa_cons (pe_tup (pa_cons pe_bl (pa_cons (pe_lst pa_nil) pa_nil))) (pa_cons (pe_tup (pa_cons pe_str (pa_cons (pe_lst pa_nil) pa_nil))) (pa_cons (pe_tup (pa_cons pe_int (pa_cons (pe_tup pa_nil) pa_nil))) (pa_cons (pe_tup (pa_cons pe_int (pa_cons pe_non pa_nil))) pa_nil))))))))))))))))
      (pss_cons (ps_set (i := 0) scNoG.nd rfl (.inl rfl) (pe_op op_cat (pv 0) (pe_lst (pa_cons (pe_tup (pa_cons pe_int (pa_cons (pe_lst (pa_cons (pe_tup (pa_cons pe_int (pa_cons pe_int pa_nil))) pa_nil)) pa_nil))) (pa_cons (pe_tup (pa_cons pe_int (pa_cons (pe_lst (pa_cons (pe_tup (pa_cons pe_int (pa_cons pe_int pa_nil))) pa_nil)) pa_nil))) (pa_cons (pe_tup (pa_cons pe_int (pa_cons (pe_lst (pa_cons (pe_tup (pa_cons pe_int (pa_cons pe_int pa_nil))) pa_nil)) pa_nil))) (pa_cons (pe_tup (pa_cons pe_int (pa_cons (pe_lst (pa_cons (pe_tup (pa_cons pe_int (pa_cons pe_int pa_nil))) (pa_cons (pe_tup (pa_cons pe_int (pa_cons pe_int pa_nil))) pa_nil))) pa_nil))) (pa_cons (pe_tup (pa_cons pe_int (pa_cons (pe_lst (pa_cons (pe_tup (pa_cons pe_int (pa_cons pe_int pa_nil))) (pa_cons (pe_tup (pa_cons pe_int (pa_cons pe_int pa_nil))) pa_nil))) pa_nil))) pa_nil))))))))
      (pss_cons (ps_set (i := 0) scNoG.nd rfl (.inl rfl) (pe_op op_cat (pv 0) (pe_lst (pa_cons (pe_tup (pa_cons pe_int (pa_cons (pe_lst (pa_cons (pe_tup (pa_cons pe_int (pa_cons pe_int pa_nil))) (pa_cons (pe_tup (pa_cons pe_int (pa_cons pe_int pa_nil))) (pa_cons (pe_tup (pa_cons pe_int (pa_cons pe_int pa_nil))) pa_nil)))) pa_nil))) (pa_cons (pe_tup (pa_cons pe_int (pa_cons (pe_lst (pa_cons (pe_lst (pa_cons pe_int (pa_cons pe_int pa_nil))) pa_nil)) pa_nil))) (pa_cons (pe_tup (pa_cons pe_int (pa_cons (pe_lst (pa_cons (pe_tup (pa_cons pe_int (pa_cons pe_bl pa_nil))) pa_nil)) pa_nil))) (pa_cons (pe_tup (pa_cons pe_int (pa_cons (pe_lst (pa_cons (pe_tup (pa_cons (pe_un un_neg pe_int) (pa_cons pe_int pa_nil))) pa_nil)) pa_nil))) (pa_cons (pe_tup (pa_cons pe_int (pa_cons (pe_lst (pa_cons (pe_tup (pa_cons pe_int (pa_cons pe_int (pa_cons pe_int pa_nil)))) pa_nil)) pa_nil))) pa_nil))))))))
      (pss_one (ps_ret (pe_op op_cat (pv 0) (pe_lst (pa_cons (pe_tup (pa_cons pe_int (pa_cons (pe_lst (pa_cons pe_non pa_nil)) pa_nil))) (pa_cons (pe_tup (pa_cons (pe_op op_powW pe_int pe_int) (pa_cons (pe_lst pa_nil) pa_nil))) (pa_cons (pe_tup (pa_cons pe_int (pa_cons (pe_lst (pa_cons (pe_tup (pa_cons pe_int (pa_cons pe_str pa_nil))) pa_nil)) pa_nil))) (pa_cons (pe_tup (pa_cons (pe_un un_neg pe_int) (pa_cons (pe_lst pa_nil) pa_nil))) (pa_cons (pe_tup (pa_cons pe_int (pa_cons (pe_lst pa_nil) (pa_cons (pe_lst pa_nil) pa_nil)))) (pa_cons (pe_tup (pa_cons (pe_tup (pa_cons pe_int (pa_cons (pe_lst pa_nil) pa_nil))) pa_nil)) pa_nil))))))))))))), ?_⟩
    refine q_asgLK (R := KP BG) st0 (elk_lst (n := 14) kp_up (eks_cons kp_up (ek_x x_non (bg_dec (by decide +kernel) (by decide +kernel) (by decide +kernel)))
        (eks_cons kp_up (ek_x x_int (bg_dec (by decide +kernel) (by decide +kernel) (by decide +kernel)))
        (eks_cons kp_up (ek_x x_bl (bg_dec (by decide +kernel) (by decide +kernel) (by decide +kernel)))
        (eks_cons kp_up (ek_x x_str (bg_dec (by decide +kernel) (by decide +kernel) (by decide +kernel)))
        (eks_cons kp_up (ek_x (x_lst st0 xs_nil (Nat.le_of_ble_eq_true rfl)) (bg_dec (by decide +kernel) (by decide +kernel) (by decide +kernel)))
        (eks_cons kp_up (ek_x (x_tup st0 xs_nil (Nat.le_of_ble_eq_true rfl)) (bg_dec (by decide +kernel) (by decide +kernel) (by decide +kernel)))
        (eks_cons kp_up (ek_x (x_tup st0 (xs_cons x_int xs_nil) (Nat.le_of_ble_eq_true rfl)) (bg_dec (by decide +kernel) (by decide +kernel) (by decide +kernel)))
        (eks_cons kp_up (ek_x (x_lst st0 (xs_cons x_int (xs_cons (x_lst st0 xs_nil (Nat.le_of_ble_eq_true rfl)) xs_nil)) (Nat.le_of_ble_eq_true rfl)) (bg_dec (by decide +kernel) (by decide +kernel) (by decide +kernel)))
        (eks_cons kp_up (ek_x (x_tup st0 (xs_cons x_int (xs_cons (x_lst st0 xs_nil (Nat.le_of_ble_eq_true rfl)) xs_nil)) (Nat.le_of_ble_eq_true rfl)) (bg_dec (by decide +kernel) (by decide +kernel) (by decide +kernel)))
        (eks_cons kp_up (ek_x (x_tup st0 (xs_cons x_int (xs_cons (x_lst st0 xs_nil (Nat.le_of_ble_eq_true rfl)) xs_nil)) (Nat.le_of_ble_eq_true rfl)) (bg_dec (by decide +kernel) (by decide +kernel) (by decide +kernel)))
        (eks_cons kp_up (ek_x (x_tup st0 (xs_cons x_bl (xs_cons (x_lst st0 xs_nil (Nat.le_of_ble_eq_true rfl)) xs_nil)) (Nat.le_of_ble_eq_true rfl)) (bg_dec (by decide +kernel) (by decide +kernel) (by decide +kernel)))
        (eks_cons kp_up (ek_x (x_tup st0 (xs_cons x_str (xs_cons (x_lst st0 xs_nil (Nat.le_of_ble_eq_true rfl)) xs_nil)) (Nat.le_of_ble_eq_true rfl)) (bg_dec (by decide +kernel) (by decide +kernel) (by decide +kernel)))
        (eks_cons kp_up (ek_x (x_tup st0 (xs_cons x_int (xs_cons (x_tup st0 xs_nil (Nat.le_of_ble_eq_true rfl)) xs_nil)) (Nat.le_of_ble_eq_true rfl)) (bg_dec (by decide +kernel) (by decide +kernel) (by decide +kernel)))
        (eks_cons kp_up (ek_x (x_tup st0 (xs_cons x_int (xs_cons x_non xs_nil)) (Nat.le_of_ble_eq_true rfl)) (bg_dec (by decide +kernel) (by decide +kernel) (by decide +kernel)))
        eks_nil)))))))))))))) (by decide)) fun p1 H1 hp1 e1 l1 => ?_
    have st1 := st0.ex e1
    refine q_asgLK (R := KP BG) st1 (elk_catV kp_up (ev_var rfl) l1 (elk_lst (n := 5) kp_up (eks_cons kp_up (ek_x (x_tup st1 (xs_cons x_int (xs_cons (x_lst st1 (xs_cons (x_tup st1 (xs_cons x_int (xs_cons x_int xs_nil)) (Nat.le_of_ble_eq_true rfl)) xs_nil) (Nat.le_of_ble_eq_true rfl)) xs_nil)) (Nat.le_of_ble_eq_true rfl)) (bg_dec (by decide +kernel) (by decide +kernel) (by decide +kernel)))
        (eks_cons kp_up (ek_x (x_tup st1 (xs_cons x_int (xs_cons (x_lst st1 (xs_cons (x_tup st1 (xs_cons x_int (xs_cons x_int xs_nil)) (Nat.le_of_ble_eq_true rfl)) xs_nil) (Nat.le_of_ble_eq_true rfl)) xs_nil)) (Nat.le_of_ble_eq_true rfl)) (bg_dec (by decide +kernel) (by decide +kernel) (by decide +kernel)))
        (eks_cons kp_up (ek_x (x_tup st1 (xs_cons x_int (xs_cons (x_lst st1 (xs_cons (x_tup st1 (xs_cons x_int (xs_cons x_int xs_nil)) (Nat.le_of_ble_eq_true rfl)) xs_nil) (Nat.le_of_ble_eq_true rfl)) xs_nil)) (Nat.le_of_ble_eq_true rfl)) (bg_dec (by decide +kernel) (by decide +kernel) (by decide +kernel)))
        (eks_cons kp_up (ek_x (x_tup st1 (xs_cons x_int (xs_cons (x_lst st1 (xs_cons (x_tup st1 (xs_cons x_int (xs_cons x_int xs_nil)) (Nat.le_of_ble_eq_true rfl)) (xs_cons (x_tup st1 (xs_cons x_int (xs_cons x_int xs_nil)) (Nat.le_of_ble_eq_true rfl)) xs_nil)) (Nat.le_of_ble_eq_true rfl)) xs_nil)) (Nat.le_of_ble_eq_true rfl)) (bg_dec (by decide +kernel) (by decide +kernel) (by decide +kernel)))
        (eks_cons kp_up (ek_x (x_tup st1 (xs_cons x_int (xs_cons (x_lst st1 (xs_cons (x_tup st1 (xs_cons x_int (xs_cons x_int xs_nil)) (Nat.le_of_ble_eq_true rfl)) (xs_cons (x_tup st1 (xs_cons x_int (xs_cons x_int xs_nil)) (Nat.le_of_ble_eq_true rfl)) xs_nil)) (Nat.le_of_ble_eq_true rfl)) xs_nil)) (Nat.le_of_ble_eq_true rfl)) (bg_dec (by decide +kernel) (by decide +kernel) (by decide +kernel)))
        eks_nil))))) (by decide)) (by decide)) fun p2 H2 hp2 e2' l2 => ?_
    have st2 := st1.ex e2'
    have e2 := e1.trans e2'
    refine q_asgLK (R := KP BG) st2 (elk_catV kp_up (ev_var rfl) l2 (elk_lst (n := 5) kp_up (eks_cons kp_up (ek_x (x_tup st2 (xs_cons x_int (xs_cons (x_lst st2 (xs_cons (x_tup st2 (xs_cons x_int (xs_cons x_int xs_nil)) (Nat.le_of_ble_eq_true rfl)) (xs_cons (x_tup st2 (xs_cons x_int (xs_cons x_int xs_nil)) (Nat.le_of_ble_eq_true rfl)) (xs_cons (x_tup st2 (xs_cons x_int (xs_cons x_int xs_nil)) (Nat.le_of_ble_eq_true rfl)) xs_nil))) (Nat.le_of_ble_eq_true rfl)) xs_nil)) (Nat.le_of_ble_eq_true rfl)) (bg_dec (by decide +kernel) (by decide +kernel) (by decide +kernel)))
        (eks_cons kp_up (ek_x (x_tup st2 (xs_cons x_int (xs_cons (x_lst st2 (xs_cons (x_lst st2 (xs_cons x_int (xs_cons x_int xs_nil)) (Nat.le_of_ble_eq_true rfl)) xs_nil) (Nat.le_of_ble_eq_true rfl)) xs_nil)) (Nat.le_of_ble_eq_true rfl)) (bg_dec (by decide +kernel) (by decide +kernel) (by decide +kernel)))
        (eks_cons kp_up (ek_x (x_tup st2 (xs_cons x_int (xs_cons (x_lst st2 (xs_cons (x_tup st2 (xs_cons x_int (xs_cons x_bl xs_nil)) (Nat.le_of_ble_eq_true rfl)) xs_nil) (Nat.le_of_ble_eq_true rfl)) xs_nil)) (Nat.le_of_ble_eq_true rfl)) (bg_dec (by decide +kernel) (by decide +kernel) (by decide +kernel)))
        (eks_cons kp_up (ek_x (x_tup st2 (xs_cons x_int (xs_cons (x_lst st2 (xs_cons (x_tup st2 (xs_cons (x_of (ev_un ev_c ru_neg) (.int _)) (xs_cons x_int xs_nil)) (Nat.le_of_ble_eq_true rfl)) xs_nil) (Nat.le_of_ble_eq_true rfl)) xs_nil)) (Nat.le_of_ble_eq_true rfl)) (bg_dec (by decide +kernel) (by decide +kernel) (by decide +kernel)))
        (eks_cons kp_up (ek_x (x_tup st2 (xs_cons x_int (xs_cons (x_lst st2 (xs_cons (x_tup st2 (xs_cons x_int (xs_cons x_int (xs_cons x_int xs_nil))) (Nat.le_of_ble_eq_true rfl)) xs_nil) (Nat.le_of_ble_eq_true rfl)) xs_nil)) (Nat.le_of_ble_eq_true rfl)) (bg_dec (by decide +kernel) (by decide +kernel) (by decide +kernel)))
        eks_nil))))) (by decide)) (by decide)) fun p3 H3 hp3 e3' l3 => ?_
    have st3 := st2.ex e3'
    have e3 := e2.trans e3'
    exact (elk_catV (R := KP BG) kp_up (ev_var rfl) l3 (elk_lst (n := 6) kp_up (eks_cons kp_up (ek_x (x_tup st3 (xs_cons x_int (xs_cons (x_lst st3 (xs_cons x_non xs_nil) (Nat.le_of_ble_eq_true rfl)) xs_nil)) (Nat.le_of_ble_eq_true rfl)) (bg_dec (by decide +kernel) (by decide +kernel) (by decide +kernel)))
        (eks_cons kp_up (ek_x (x_tup st3 (xs_cons (x_of (ev_op ev_c ev_c (rv_I pow59)) (.int _)) (xs_cons (x_lst st3 xs_nil (Nat.le_of_ble_eq_true rfl)) xs_nil)) (Nat.le_of_ble_eq_true rfl)) (bg_dec (by decide +kernel) (by decide +kernel) (by decide +kernel)))
        (eks_cons kp_up (ek_x (x_tup st3 (xs_cons x_int (xs_cons (x_lst st3 (xs_cons (x_tup st3 (xs_cons x_int (xs_cons x_str xs_nil)) (Nat.le_of_ble_eq_true rfl)) xs_nil) (Nat.le_of_ble_eq_true rfl)) xs_nil)) (Nat.le_of_ble_eq_true rfl)) (bg_dec (by decide +kernel) (by decide +kernel) (by decide +kernel)))
        (eks_cons kp_up (ek_x (x_tup st3 (xs_cons (x_of (ev_un ev_c ru_neg) (.int _)) (xs_cons (x_lst st3 xs_nil (Nat.le_of_ble_eq_true rfl)) xs_nil)) (Nat.le_of_ble_eq_true rfl)) (bg_dec (by decide +kernel) (by decide +kernel) (by decide +kernel)))
        (eks_cons kp_up (ek_x (x_tup st3 (xs_cons x_int (xs_cons (x_lst st3 xs_nil (Nat.le_of_ble_eq_true rfl)) (xs_cons (x_lst st3 xs_nil (Nat.le_of_ble_eq_true rfl)) xs_nil))) (Nat.le_of_ble_eq_true rfl)) (bg_dec (by decide +kernel) (by decide +kernel) (by decide +kernel)))
        (eks_cons kp_up (ek_x (x_tup st3 (xs_cons (x_tup st3 (xs_cons x_int (xs_cons (x_lst st3 xs_nil (Nat.le_of_ble_eq_true rfl)) xs_nil)) (Nat.le_of_ble_eq_true rfl)) xs_nil) (Nat.le_of_ble_eq_true rfl)) (bg_dec (by decide +kernel) (by decide +kernel) (by decide +kernel)))
        eks_nil)))))) (by decide)) (by decide)) H3 (Ex.refl _) _ fun p xs H4 hp e4 h1 h2 h3 h4 => q H4 p xs (e3.trans e4) (fresh_back e3 hp) h1 (Nat.le_antisymm h3 h2) h4
def spNoL : Sp := fun vs H Q _ => ∃ (a : Addr) (L : List Addr) (n : Nat) (zs : List Str), vs = [.ref a] ∧ Stn L H ∧ a ∉ L ∧ H a = some (.lst (zs.map V.str)) ∧ ArrOk zs n ∧ 1 ≤ n ∧ n ≤ 40 ∧
  ∀ (H' : Hp) (p : Addr) (xs : List V), Ex H H' → H p = none → H' p = some (.lst xs) → 17 ≤ xs.length → xs.length ≤ 18 → (∀ x ∈ xs, KP (BR n) (hds L H') x) → Q (.ref p) H'
theorem ok_noL {f : Addr} {fd : FuncData} {k : Nat} (F : Fun K "_law_no_labels" "_law_no_labels" sNoL f fd) (mTup : mg "tuple" = none) (mLen : mg "len" = none) : FnOk P w K mg base CX0 (k + 1) f fd ["labels"] spNoL := by
  refine F.ok scNoL (fun vs H Q E h => ?_) (fun cdv A outer stt H vs Q E hr h => ?_)
  · obtain ⟨a, L, n, zs, rfl, _⟩ := h
    rfl
  · obtain ⟨a, L, n, zs, rfl, st0, nL, ha, ok, n1, n40, q⟩ := h
    refine ⟨_, (pss_cons (ps_set (i := 1) scNoL.nd rfl (.inl rfl) (pe_lst (pa_cons pe_non (pa_cons pe_int (pa_cons pe_str (pa_cons pe_str (pa_cons (pe_lst pa_nil) (pa_cons (pe_callTy call_tuple_of (by rfl) mTup boot_tuple (pa_cons (pv 0) pa_nil)) (pa_cons (pe_op op_cat (pv 0) (pe_lst (pa_cons pe_str pa_nil))) (pa_cons (pe_slice sl_list (pv 0) po_none (po_some (pe_un un_neg pe_int))) (pa_cons (pe_op op_cat (pe_slice sl_list (pv 0) po_none (po_some (pe_un un_neg pe_int))) (pe_lst (pa_cons pe_str pa_nil))) pa_nil)))))))))))
      (pss_cons (ps_set (i := 1) scNoL.nd rfl (.inl rfl) (pe_op op_cat (pv 1) (pe_lst (pa_cons (pe_op op_cat (pe_slice sl_list (pv 0) po_none (po_some (pe_un un_neg pe_int))) (pe_lst (pa_cons pe_str pa_nil))) (pa_cons (pe_op op_cat (pe_slice sl_list (pv 0) po_none (po_some (pe_un un_neg pe_int))) (pe_lst (pa_cons pe_str pa_nil))) (pa_cons (pe_op op_cat (pe_slice sl_list (pv 0) po_none (po_some (pe_un un_neg pe_int))) (pe_lst (pa_cons pe_non pa_nil))) (pa_cons (pe_op op_cat (pe_slice sl_list (pv 0) po_none (po_some (pe_un un_neg pe_int))) (pe_lst (pa_cons (pe_lst (pa_cons pe_str pa_nil)) pa_nil))) pa_nil)))))))
      (pss_cons (ps_if (pt_cmpR op_gt (pe_callB call_len_seq (by rfl) mLen boot_len (pa_cons (pv 0) pa_nil)) pe_int (nomark _)) (pss_one (ps_expr (pe_bm PySem.F.plainAttrs_list PySem.F.slot_list_append PySem.F.type_list_append mt_append (pv 1) (pa_cons (pe_op op_cat (pe_slice sl_list (pv 0) po_none (po_some (pe_un un_neg pe_int))) (pe_slice sl_list (pv 0) po_none (po_some pe_int))) pa_nil)))) pss_nil)
      (pss_one (ps_ret (pe_op op_cat (pv 1) (pe_lst (pa_cons (pe_op op_cat (pe_slice sl_list (pv 0) po_none (po_some (pe_un un_neg pe_int))) (pe_lst (pa_cons pe_int pa_nil))) (pa_cons (pe_op op_cat (pe_slice sl_list (pv 0) po_none (po_some (pe_un un_neg pe_int))) (pe_lst (pa_cons pe_str pa_nil))) (pa_cons (pe_lst (pa_cons (pv 0) pa_nil)) (pa_cons pe_bl pa_nil))))))))))), ?_⟩
    have len := ok.len
    have hr0 : Dt (hds L H) (.ref a) (.list (zs.map PyData.str)) := .lst (by rw [hds_ne nL]; exact ha) (dts_strs zs)
    have c1 : ∀ x : PyData, (zs.map PyData.str).length + [x].length ≤ 10000 := fun x => by
      rw [List.length_map, len]
      show n + 1 ≤ 10000
      omega
    have c2 : ∀ {lo hi : Option Int} (x : PyData), (cutL (zs.map PyData.str) lo hi).length + [x].length ≤ 10000 := fun {lo hi} x => by
      have := cutL_length (xs := zs.map PyData.str) (lo := lo) (hi := hi)
      rw [List.length_map] at this
      show _ + 1 ≤ 10000
      omega
    have c3 : ∀ {lo hi lo' hi' : Option Int}, (cutL (zs.map PyData.str) lo hi).length + (cutL (zs.map PyData.str) lo' hi').length ≤ 10000 := fun {lo hi lo' hi'} => by
      have := cutL_length (xs := zs.map PyData.str) (lo := lo) (hi := hi)
      have := cutL_length (xs := zs.map PyData.str) (lo := lo') (hi := hi')
      rw [List.length_map] at *
      omega
    refine q_col (R := BR n) st0 (ela_lst (n := 9) (eks_cons kp_up (ek_x x_non (br_dec (by decide +kernel) rfl))
        (eks_cons kp_up (ek_x x_int (br_dec (by decide +kernel) rfl))
        (eks_cons kp_up (ek_x x_str (br_dec (by decide +kernel) rfl))
        (eks_cons kp_up (ek_x x_str (br_dec (by decide +kernel) rfl))
        (eks_cons kp_up (ek_x (x_lst st0 xs_nil (Nat.le_of_ble_eq_true rfl)) (br_nil n1))
        (eks_cons kp_up (ek_x (x_tof st0 (x_of (ev_var (i := 0) rfl) hr0)) (br_tup ok n40))
        (eks_cons kp_up (ek_x (x_cat st0 (x_of (ev_var (i := 0) rfl) hr0) (x_lst st0 (xs_cons x_str xs_nil) (Nat.le_of_ble_eq_true rfl)) (c1 _)) (br_more ok n40 (kd_of (by decide +kernel))))
        (eks_cons kp_up (ek_x (x_sl st0 (ev_var (i := 0) rfl) eo_none (eo_some (ev_un ev_c ru_neg)) ha (dts_strs _)) (row_short ok n40 n1))
        (eks_cons kp_up (ek_x (x_cat st0 (x_sl st0 (ev_var (i := 0) rfl) eo_none (eo_some (ev_un ev_c ru_neg)) ha (dts_strs _)) (x_lst st0 (xs_cons x_str xs_nil) (Nat.le_of_ble_eq_true rfl)) (c2 _)) (br_end ok n40 (kd_of (by decide +kernel)) (by decide +kernel)))
        eks_nil))))))))) (by decide)) fun F1 H1 hF1 e1 k1 => ?_
    have hr1 := hr0.same (same_ex (hds_out hF1 e1))
    have ha1 := e1 _ _ ha
    refine q_col (R := BR n) k1.st (ela_cat (ev_var rfl) k1 (elk_lst (n := 4) kp_up (eks_cons kp_up (ek_x (x_cat k1.st (x_sl k1.st (ev_var (i := 0) rfl) eo_none (eo_some (ev_un ev_c ru_neg)) ha1 (dts_strs _)) (x_lst k1.st (xs_cons x_str xs_nil) (Nat.le_of_ble_eq_true rfl)) (c2 _)) (br_end ok n40 (kd_of (by decide +kernel)) (by decide +kernel)))
        (eks_cons kp_up (ek_x (x_cat k1.st (x_sl k1.st (ev_var (i := 0) rfl) eo_none (eo_some (ev_un ev_c ru_neg)) ha1 (dts_strs _)) (x_lst k1.st (xs_cons x_str xs_nil) (Nat.le_of_ble_eq_true rfl)) (c2 _)) (br_end ok n40 (kd_of (by decide +kernel)) (by decide +kernel)))
        (eks_cons kp_up (ek_x (x_cat k1.st (x_sl k1.st (ev_var (i := 0) rfl) eo_none (eo_some (ev_un ev_c ru_neg)) ha1 (dts_strs _)) (x_lst k1.st (xs_cons x_non xs_nil) (Nat.le_of_ble_eq_true rfl)) (c2 _)) (br_end ok n40 (kd_of (by decide +kernel)) (by decide +kernel)))
        (eks_cons kp_up (ek_x (x_cat k1.st (x_sl k1.st (ev_var (i := 0) rfl) eo_none (eo_some (ev_un ev_c ru_neg)) ha1 (dts_strs _)) (x_lst k1.st (xs_cons (x_lst k1.st (xs_cons x_str xs_nil) (Nat.le_of_ble_eq_true rfl)) xs_nil) (Nat.le_of_ble_eq_true rfl)) (c2 _)) (br_end ok n40 (kd_of (by decide +kernel)) (by decide +kernel)))
        eks_nil)))) (by decide)) (by decide)) fun F2 H2 hF2 e2' k2 => ?_
    have e2 := e1.trans e2'
    have hr2 := hr1.same (same_ex (hds_out hF2 e2'))
    have ha2 := e2 _ _ ha
    have hF20 : H F2 = none := fresh_back e1 hF2
    have up2 : Ex (hds L H) (hds (F2 :: F1 :: L) H2) := (hds_out hF1 e1).trans (hds_out hF2 e2')
    refine q_ifD (fun σ' H' => Ex H H' ∧ Ex (hds L H) (hds (F2 :: F1 :: L) H') ∧ σ' = [some (.ref a), some (.ref F2)] ∧ Col (F2 :: F1 :: L) (BR n) F2 13 14 H') (fun D' hD' => ?_) ?_
    · refine s_when (b := decide (((zs.map V.str).length : Int) > 1)) (et_test (ev_op (ev_len (ev_var rfl) (sq_of ha2)) ev_c rv_I0)) (fun hb H3 e3 => ?_) (fun hb H3 e3 => ?_)
      · have n2 : 2 ≤ n := by
          have := of_decide_eq_true hb
          rw [List.length_map, len] at this
          omega
        have k3 := k2.ex e3
        have ha3 := e3 _ _ ha2
        refine s_col (R := BR n) k3 (ev_var rfl) (x_cat k3.st (x_sl k3.st (ev_var (i := 0) rfl) eo_none (eo_some (ev_un ev_c ru_neg)) ha3 (dts_strs _)) (x_sl k3.st (ev_var (i := 0) rfl) eo_none (eo_some ev_c) ha3 (dts_strs _)) c3) (br_ring ok n40 n2) (by decide) fun H4 k4 ⟨H0, o, e0, eq⟩ up => hD' _ _ ⟨?_, ?_, rfl, k4⟩
        · rw [eq]
          exact (e2.trans (e3.trans e0)).mut hF20
        · exact up2.trans ((hds_ex e3).trans up)
      · exact hD' _ _ ⟨e2.trans e3, up2.trans (hds_ex e3), rfl, (k2.ex e3).wide (by decide) (by decide)⟩
    rintro σ' H5 ⟨e5, up5, rfl, k5⟩
    have hr5 := hr0.same (same_ex up5)
    have ha5 := e5 _ _ ha
    exact (ela_cat (R := BR n) (ev_var rfl) k5 (elk_lst (n := 4) kp_up (eks_cons kp_up (ek_x (x_cat k5.st (x_sl k5.st (ev_var (i := 0) rfl) eo_none (eo_some (ev_un ev_c ru_neg)) ha5 (dts_strs _)) (x_lst k5.st (xs_cons x_int xs_nil) (Nat.le_of_ble_eq_true rfl)) (c2 _)) (br_end ok n40 (kd_of (by decide +kernel)) (by decide +kernel)))
        (eks_cons kp_up (ek_x (x_cat k5.st (x_sl k5.st (ev_var (i := 0) rfl) eo_none (eo_some (ev_un ev_c ru_neg)) ha5 (dts_strs _)) (x_lst k5.st (xs_cons x_str xs_nil) (Nat.le_of_ble_eq_true rfl)) (c2 _)) (br_end ok n40 (kd_of (by decide +kernel)) (by decide +kernel)))
        (eks_cons kp_up (ek_x (x_lst k5.st (xs_cons (x_of (ev_var (i := 0) rfl) hr5) xs_nil) (Nat.le_of_ble_eq_true rfl)) (br_one ok n40))
        (eks_cons kp_up (ek_x x_bl (br_dec (by decide +kernel) rfl))
        eks_nil)))) (by decide)) (by decide)) H5 (Ex.refl _) _ fun p xs H6 hp e6 h1 h2 h3 h4 => q H6 p xs (e5.trans e6) (fresh_back e5 hp) h1 h2 h3 fun x hx => kp_up _ _ _ (hds_less fun b hb => List.mem_cons_of_mem _ (List.mem_cons_of_mem _ (List.mem_cons_of_mem _ hb))) (h4 x hx)
end
end K15
namespace K15
open PySem PySem.Spec PyProof.Rows L2 Os Evl
abbrev sNoS : Stmt := topS 53
theorem scNoS : FnScope ["graph", "row", "found", "low", "high", "apart"] ["graph"] (defScope sNoS) := ⟨rfl, rfl, rfl, by decide +kernel, rfl, by decide +kernel, by decide +kernel⟩
theorem hide_hds {s : Addr} {H : Hp} : Ex (hide s H) (hds [s] H) := fun b o h => by
  obtain ⟨n, e⟩ := hide_of h
  rw [hds_ne (by simpa using n)]
  exact e
theorem GraphV.pairs {G : Hp} {g : Addr} {n : Nat} {es : List Pr} (h : GraphV G (.ref g) n es) : ∃ ge xs, G g = some (.tup [.int (n : Int), .ref ge]) ∧ G ge = some (.lst xs) ∧ PrsV G xs es ∧ Dt G (.ref ge) (.list (es.map Os.prD)) := by
  obtain ⟨g', ge, xs, e, h1, h2, h3⟩ := h
  cases e
  exact ⟨ge, xs, h1, h2, h3, .lst h2 h3.dts⟩
theorem kd2 {a b : PyData} (h1 : Kd 40000 6 a) (h2 : Kd 40000 6 b) : Kd 90000 8 (.tuple [a, b]) := (kd_pair h1 h2).mono (by decide) (by decide)
theorem ev_eqVV {K : PySem.W.Frag} {σ : L2.St} {H : Hp} {ta tb : TE} {d1 d2 : PyData} {n m : Nat} (ha : EvD ta σ H d1) (hb : EvD tb σ H d2) (s1 : Sh n d1) (s2 : Sh m d2) (l1 : n ≤ 64) (l2 : m ≤ 64) : Ev (tOp (rEqD K) ta tb) σ H (.bl (PyData.eqv d1 d2)) := fun H1 e Q q =>
  ha H1 e _ fun v H2 e2 dv => hb H2 (e.trans e2) _ fun u H3 e3 du => ⟨d1, d2, (dv.same (same_ex e3)).dp, du.dp, s1.shaped l1, s2.shaped l2, q H3 (e2.trans e3)⟩
theorem sh_two (a b : Int) : Sh 1 (.tuple [.int a, .int b]) := .tup fun d hd => by
  rcases List.mem_cons.mp hd with rfl | hd
  · exact .int 0 _
  · rw [List.mem_singleton.mp hd]
    exact .int 0 _
section
variable {n : Nat} {es : List Pr}
theorem kd_pairs (ok : IsForest n es) : Kd 8943 2 (.list (es.map Os.prD)) := Kd.lst (m := 60) (kd_prs fun e he => by have := ok.edges.inn e he; have := ok.n40; omega) (by rw [List.length_map]; exact ok.few)
theorem kd_tpairs (ok : IsForest n es) : Kd 8943 2 (.tuple (es.map Os.prD)) := Kd.tup (m := 60) (kd_prs fun e he => by have := ok.edges.inn e he; have := ok.n40; omega) (by rw [List.length_map]; exact ok.few)
theorem bg_list (ok : IsForest n es) : BG (.list [.int (n : Int), .list (es.map Os.prD)]) := ⟨(Kd.lst (m := 2) (kd_kids ((kd_sz ok.n40).mono (by decide) (by decide)) (kd_kids (kd_pairs ok) kd_nil)) (Nat.le_refl _)).mono (by decide) (by decide), shf_of rfl, nf rfl⟩
theorem bg_tup (ok : IsForest n es) : BG (.tuple [.int (n : Int), .tuple (es.map Os.prD)]) := ⟨kd2 ((kd_sz ok.n40).mono (by decide) (by decide)) ((kd_tpairs ok).mono (by decide) (by decide)), shf_of rfl, nf rfl⟩
theorem bg_tri0 (ok : IsForest n es) : BG (.tuple [.int (n : Int), .list (es.map Os.prD), .int 0]) := ⟨(Kd.tup (L := 8943) (D := 2) (m := 3) (kd_kids ((kd_sz ok.n40).mono (by decide) (by decide)) (kd_kids (kd_pairs ok) (kd_kids ((kd_sz (n := 0) (by decide)).mono (by decide) (by decide)) kd_nil))) (Nat.le_refl _)).mono (by decide) (by decide), shf_of rfl, nf rfl⟩
theorem kd_edge {a b : Nat} (ha : a < 64) (hb : b < 64) : Kd 147 1 (.tuple [.int (a : Int), .int (b : Int)]) := kd_prD (e := (a, b)) ha hb
theorem bg_more (ok : IsForest n es) {x : PyData} (kx : Kd 147 1 x) (hx : edgeB (n : Int) x = false) : BG (.tuple [.int (n : Int), .list (es.map Os.prD ++ [x])]) := ⟨kd2 ((kd_sz ok.n40).mono (by decide) (by decide)) ((kd_plus (m := 61) (kd_prs fun e he => by have := ok.edges.inn e he; have := ok.n40; omega) kx (by rw [List.length_map]; have := ok.few; omega)).mono (by decide) (by decide)),
  shf_bad (by rw [List.length_append, List.length_map]; show es.length + 1 ≤ 1000; have := ok.few; omega) (List.mem_append_right _ List.mem_cons_self) (fun m e => by injection e with e; rw [← e]; exact hx), nf_edge (List.mem_append_right _ List.mem_cons_self) hx⟩
/-- no order, of no great size -/
structure BS (es : List Pr) (d : PyData) : Prop where
  kd : Kd 90000 8 d
  sh : ShL d
  no : ordB es d = false
theorem bs_dec {d : PyData} (h1 : (decide (d.shown.length ≤ 90000) && (decide (d.depth ≤ 8) && (d.showable && (!d.hasDict && (d.canLay0 && decide (smx d ≤ 1000)))))) = true) (h2 : listB d = false) : BS es d := ⟨kd_of h1, by cases d with
  | list _ => cases h2
  | _ => trivial, ordB_no fun ⟨os, e, _⟩ => by
  rw [e] at h2
  cases h2⟩
theorem bs_tup (ok : IsForest n es) : BS es (.tuple (es.map Os.prD)) := ⟨(kd_tpairs ok).mono (by decide) (by decide), trivial, ordB_no fun ⟨os, e, _⟩ => by cases e⟩
theorem bs_int {m : Nat} (h : m ≤ 40) : BS es (.int (m : Int)) := ⟨(kd_sz h).mono (by decide) (by decide), trivial, ordB_no fun ⟨os, e, _⟩ => by cases e⟩
theorem ord_len {ds : List PyData} (h : ds.length ≠ es.length) : ordB es (.list ds) = false := ordB_no fun ⟨os, e, p⟩ => h (by rw [PyData.list.inj e, List.length_map, p.length_eq])
theorem ord_mem {ds : List PyData} {x : PyData} (ok : IsForest n es) (hx : x ∈ ds) (h : edgeB (n : Int) x = false) : ordB es (.list ds) = false := not_ord ok (by
  cases e : ds.all (edgeB (n : Int)) with
  | false => rfl
  | true =>
    have := List.all_eq_true.mp e x hx
    rw [h] at this
    cases this)
theorem bs_list {m L D : Nat} {ds : List PyData} (hk : ∀ d ∈ ds, Kd L D d) (hl : ds.length ≤ m) (hm : m ≤ 1000) (h2 : 3 + (L + 2) * m ≤ 90000) (h3 : D + 1 ≤ 8) (no : ordB es (.list ds) = false) : BS es (.list ds) :=
  ⟨(Kd.lst hk hl).mono h2 h3, show ds.length ≤ 1000 by omega, no⟩
theorem kd_es (ok : IsForest n es) : ∀ d ∈ es.map Os.prD, Kd 500 4 d := fun d hd => (kd_prs (fun e he => by have := ok.edges.inn e he; have := ok.n40; omega) d hd).mono (by decide) (by decide)
theorem bs_more (ok : IsForest n es) {x : PyData} (kx : Kd 500 4 x) : BS es (.list (es.map Os.prD ++ [x])) := bs_list (m := 61) (L := 500) (D := 4) (fun d hd => by
    rcases List.mem_append.mp hd with h | h
    · exact kd_es ok d h
    · rw [List.mem_singleton.mp h]
      exact kx) (by rw [List.length_append, List.length_map]; have := ok.few; show es.length + 1 ≤ 61; omega) (by decide) (by decide) (by decide) (ord_len (by rw [List.length_append, List.length_map]; show es.length + 1 ≠ es.length; omega))
theorem bs_one (ok : IsForest n es) : BS es (.list [.list (es.map Os.prD)]) := bs_list (m := 1) (kd_kids (kd_pairs ok) kd_nil) (Nat.le_refl 1) (by decide) (by decide) (by decide) (ord_mem ok List.mem_cons_self rfl)
theorem bs_less (ok : IsForest n es) {i : Nat} (h : i < es.length) : BS es (.list (cutL (es.map Os.prD) none (some (i : Int)) ++ cutL (es.map Os.prD) (some ((i : Int) + 1)) none)) := by
  have len : (es.map Os.prD).length = es.length := List.length_map ..
  have e : cutL (es.map Os.prD) none (some (i : Int)) ++ cutL (es.map Os.prD) (some ((i : Int) + 1)) none = (es.map Os.prD).take i ++ (es.map Os.prD).drop (i + 1) := by
    rw [cutL_to, show (i : Int) + 1 = ((i + 1 : Nat) : Int) from rfl, cutL_from]
  rw [e]
  have few := ok.few
  refine bs_list (m := 61) (L := 500) (D := 4) (fun d hd => kd_es ok d ((List.mem_append.mp hd).elim List.mem_of_mem_take List.mem_of_mem_drop)) ?_ (by decide) (by decide) (by decide) (ord_len ?_)
  · rw [List.length_append, List.length_take, List.length_drop, len]
    omega
  · rw [List.length_append, List.length_take, List.length_drop, len]
    omega
theorem bs_put (ok : IsForest n es) {x : PyData} (kx : Kd 500 4 x) (hx : edgeB (n : Int) x = false) {lo hi lo' hi' : Option Int} : BS es (.list (cutL (es.map Os.prD) lo hi ++ [x] ++ cutL (es.map Os.prD) lo' hi')) := by
  have l1 := cutL_length (xs := es.map Os.prD) (lo := lo) (hi := hi)
  have l2 := cutL_length (xs := es.map Os.prD) (lo := lo') (hi := hi')
  rw [List.length_map] at l1 l2
  have few := ok.few
  refine bs_list (m := 121) (L := 500) (D := 4) (fun d hd => ?_) ?_ (by decide) (by decide) (by decide) (ord_mem ok (List.mem_append_left _ (List.mem_append_right _ List.mem_cons_self)) hx)
  · rcases List.mem_append.mp hd with h | h
    · rcases List.mem_append.mp h with h | h
      · exact kd_es ok d (cutL_mem h)
      · rw [List.mem_singleton.mp h]
        exact kx
    · exact kd_es ok d (cutL_mem h)
  · rw [List.length_append, List.length_append]
    show _ + 1 + _ ≤ 121
    omega
end
section
variable {n : Nat} {es fs : List Pr}
theorem bs_head (ok : IsForest n es) : BS es (.list (cutL (es.map Os.prD) none (some (-1)))) ∨ es = [] := by
  by_cases h : es = []
  · exact .inr h
  · refine .inl (bs_list (m := 60) (L := 500) (D := 4) (fun d hd => kd_es ok d (cutL_mem hd)) ?_ (by decide) (by decide) (by decide) (ord_len ?_))
    · have := cutL_length (xs := es.map Os.prD) (lo := none) (hi := some (-1))
      rw [List.length_map] at this
      have := ok.few
      omega
    · have := List.length_pos_iff.mpr h
      rw [cutL_last, List.length_take, List.length_map]
      omega
theorem bs_any (ok : IsForest n es) {ds : List PyData} (hk : ∀ d ∈ ds, Kd 500 4 d) (hl : ds.length ≤ 121) (no : ordB es (.list ds) = false) : BS es (.list ds) := bs_list (m := 121) hk hl (by decide) (by decide) (by decide) no
theorem kd_cut (ok : IsForest n es) {lo hi : Option Int} : ∀ d ∈ cutL (es.map Os.prD) lo hi, Kd 500 4 d := fun d hd => kd_es ok d (cutL_mem hd)
theorem kd_two {a b : List PyData} (h1 : ∀ d ∈ a, Kd 500 4 d) (h2 : ∀ d ∈ b, Kd 500 4 d) : ∀ d ∈ a ++ b, Kd 500 4 d := fun d hd => (List.mem_append.mp hd).elim (h1 d) (h2 d)
theorem cl60 (ok : IsForest n es) {lo hi : Option Int} : (cutL (es.map Os.prD) lo hi).length ≤ 60 := by
  have := cutL_length (xs := es.map Os.prD) (lo := lo) (hi := hi)
  rw [List.length_map] at this
  have := ok.few
  omega
theorem kd_one {x : PyData} (h : Kd 500 4 x) : ∀ d ∈ [x], Kd 500 4 d := fun d hd => by
  rw [List.mem_singleton.mp hd]
  exact h
theorem bs_end (ok : IsForest n es) {x : PyData} (kx : Kd 500 4 x) (hx : edgeB (n : Int) x = false) {lo hi : Option Int} : BS es (.list (cutL (es.map Os.prD) lo hi ++ [x])) :=
  bs_any ok (kd_two (kd_cut ok) (kd_one kx)) (by rw [List.length_append]; have := cl60 ok (lo := lo) (hi := hi); show _ + 1 ≤ 121; omega) (ord_mem ok (List.mem_append_right _ List.mem_cons_self) hx)
theorem bs_plus (ok : IsForest n es) (ne : es ≠ []) : BS es (.list (es.map Os.prD ++ cutL (es.map Os.prD) none (some 1))) := by
  have pos := List.length_pos_iff.mpr ne
  refine bs_any ok (kd_two (kd_es ok) (kd_cut ok)) ?_ (ord_len ?_)
  · rw [List.length_append, List.length_map]
    have := cl60 ok (lo := none) (hi := some 1)
    have := ok.few
    omega
  · rw [show (some (1 : Int)) = some ((1 : Nat) : Int) from rfl, cutL_to, List.length_append, List.length_take, List.length_map]
    omega
theorem no_perm {us : List Pr} (h : ¬ us.Perm es) : ordB es (.list (us.map Os.prD)) = false := ordB_no fun ⟨os, e, p⟩ => h (by rw [prDs_inj (PyData.list.inj e)]; exact p)
theorem bs_ring (ok : IsForest n es) (h2 : 2 ≤ es.length) : BS es (.list (cutL (es.map Os.prD) none (some (-1)) ++ cutL (es.map Os.prD) none (some 1))) := by
  refine bs_any ok (kd_two (kd_cut ok) (kd_cut ok)) (by rw [List.length_append]; have := cl60 ok (lo := none) (hi := some (-1)); have := cl60 ok (lo := none) (hi := some 1); omega) ?_
  rw [cutL_map, cutL_map, ← List.map_append]
  refine no_perm fun p => ?_
  have nd := p.nodup_iff.mpr ok.edges.nodup
  rw [cutL_last, show (some (1 : Int)) = some ((1 : Nat) : Int) from rfl, cutL_to] at nd
  match es, h2 with
  | z :: y :: r, _ =>
    have := (List.nodup_append.mp nd).2.2 z (by rw [show (z :: y :: r).length - 1 = r.length + 1 from rfl, List.take_succ_cons]; exact List.mem_cons_self) z List.mem_cons_self
    exact this rfl
theorem bs_next (ok : IsForest n es) (h2 : 2 ≤ es.length) : BS es (.list (cutL (es.map Os.prD) (some 1) (some 2) ++ cutL (es.map Os.prD) (some 1) none)) := by
  refine bs_any ok (kd_two (kd_cut ok) (kd_cut ok)) (by rw [List.length_append]; have := cl60 ok (lo := some 1) (hi := some 2); have := cl60 ok (lo := some 1) (hi := none); omega) ?_
  rw [cutL_map, cutL_map, ← List.map_append]
  refine no_perm fun p => ?_
  have nd := p.nodup_iff.mpr ok.edges.nodup
  rw [show (some (1 : Int)) = some ((1 : Nat) : Int) from rfl, show (some (2 : Int)) = some ((2 : Nat) : Int) from rfl, cutL_in _ (by omega) (by omega), cutL_from] at nd
  match es, h2 with
  | z :: y :: r, _ =>
    have := (List.nodup_append.mp nd).2.2 y List.mem_cons_self y List.mem_cons_self
    exact this rfl
theorem bs_apart (ok : IsForest n es) (ne : es ≠ []) (hf : ∀ f ∈ fs, f ∉ es ∧ f.1 < 64 ∧ f.2 < 64) : BS es (.list (cutL (es.map Os.prD) (some 1) none ++ cutL (fs.map Os.prD) none (some 1))) := by
  have pos := List.length_pos_iff.mpr ne
  refine bs_any ok (kd_two (kd_cut ok) fun d hd => (kd_prs (fun e he => (hf e he).2) d (cutL_mem hd)).mono (by decide) (by decide)) ?_ ?_
  · have h1 := cl60 ok (lo := some 1) (hi := none)
    have h2 : (cutL (fs.map Os.prD) none (some 1)).length ≤ 1 := by
      rw [show (some (1 : Int)) = some ((1 : Nat) : Int) from rfl, cutL_to, List.length_take]
      omega
    rw [List.length_append]
    omega
  · rw [cutL_map, cutL_map, ← List.map_append]
    refine no_perm fun p => ?_
    rw [show (some (1 : Int)) = some ((1 : Nat) : Int) from rfl, cutL_to, cutL_from] at p
    match fs, hf with
    | [], _ =>
      have := p.length_eq
      rw [List.take_nil, List.append_nil, List.length_drop] at this
      omega
    | f :: r, hf =>
      have := p.mem_iff.mp (List.mem_append_right _ (show f ∈ (f :: r).take 1 from List.mem_cons_self))
      exact (hf f List.mem_cons_self).1 this
end
section
variable {P : Program} {w : World} {K : PySem.W.Frag} {mg : Str → Option Value} {base : Heap}
def spNoS : Sp := fun vs H Q _ => ∃ (g : Addr) (L : List Addr) (n : Nat) (es : List Pr), vs = [.ref g] ∧ Stn L H ∧ GraphV (hds L H) (.ref g) n es ∧ IsForest n es ∧
  ∀ (H' : Hp) (p : Addr) (xs : List V), Ex H H' → H p = none → H' p = some (.lst xs) → 11 ≤ xs.length → xs.length ≤ 62 → (∀ x ∈ xs, KP (BS es) (hds L H') x) → Q (.ref p) H'
theorem ok_noS {f : Addr} {fd : FuncData} {k : Nat} (F : Fun K "_law_no_sequences" "_law_no_sequences" sNoS f fd) (mTup : mg "tuple" = none) (mStr : mg "str" = none) (mRange : mg "range" = none) (mInt : mg "int" = none) (mLen : mg "len" = none) : FnOk P w K mg base CX0 (k + 1) f fd ["graph"] spNoS := by
  refine F.ok scNoS (fun vs H Q E h => ?_) (fun cdv A outer stt H vs Q E hr h => ?_)
  · obtain ⟨g, L, n, es, rfl, _⟩ := h
    rfl
  · obtain ⟨g, L, n, es, rfl, st0, hg, ok, q⟩ := h
    refine ⟨_, (pss_cons (ps_set (i := 1) scNoS.nd rfl (.inr rfl) (pe_ix ix_tup (pv 0) pe_int (fun _ _ => rfl)))
      (pss_cons (ps_set (i := 2) scNoS.nd rfl (.inl rfl) (pe_lst (pa_cons pe_non (pa_cons pe_int (pa_cons pe_str (pa_cons pe_bl (pa_cons (pe_callTy call_tuple_of (by rfl) mTup boot_tuple (pa_cons (pv 1) pa_nil)) (pa_cons (pe_op op_cat (pv 1) (pe_lst (pa_cons (pe_tup (pa_cons pe_int (pa_cons pe_int pa_nil))) pa_nil))) (pa_cons (pe_op op_cat (pv 1) (pe_lst (pa_cons pe_non pa_nil))) (pa_cons (pe_lst (pa_cons (pv 1) pa_nil)) pa_nil))))))))))
      (pss_cons (ps_set (i := 2) scNoS.nd rfl (.inl rfl) (pe_op op_cat (pv 2) (pe_lst (pa_cons (pe_op op_cat (pv 1) (pe_lst (pa_cons (pe_tup (pa_cons pe_int (pa_cons pe_int pa_nil))) pa_nil))) (pa_cons (pe_op op_cat (pv 1) (pe_lst (pa_cons (pe_tup (pa_cons (pe_un un_neg pe_int) (pa_cons pe_int pa_nil))) pa_nil))) (pa_cons (pe_op op_cat (pv 1) (pe_lst (pa_cons (pe_op op_powW pe_int pe_int) pa_nil))) pa_nil))))))
      (pss_cons (ps_if (pt_cmpR (op_neD hr.units) (pv 1) (pe_lst pa_nil) (nomark _)) (pss_cons (ps_asg (pe_ix ix_list (pv 1) (pe_un un_neg pe_int) (fun _ _ => rfl)) (pg_tup rfl (pgs_cons (pg_name (i := 3) scNoS.nd rfl (Or.inr rfl)) (pgs_cons (pg_name (i := 4) scNoS.nd rfl (Or.inl rfl)) pgs_nil))))
      (pss_cons (ps_set (i := 2) scNoS.nd rfl (.inl rfl) (pe_op op_cat (pv 2) (pe_lst (pa_cons (pe_slice sl_list (pv 1) po_none (po_some (pe_un un_neg pe_int))) (pa_cons (pe_op op_cat (pv 1) (pe_slice sl_list (pv 1) po_none (po_some pe_int))) (pa_cons (pe_op op_cat (pe_slice sl_list (pv 1) po_none (po_some (pe_un un_neg pe_int))) (pe_lst (pa_cons (pe_tup (pa_cons (pv 4) (pa_cons (pv 3) pa_nil))) pa_nil))) (pa_cons (pe_op op_cat (pe_slice sl_list (pv 1) po_none (po_some (pe_un un_neg pe_int))) (pe_lst (pa_cons (pe_lst (pa_cons (pv 3) (pa_cons (pv 4) pa_nil))) pa_nil))) (pa_cons (pe_op op_cat (pe_slice sl_list (pv 1) (po_some pe_int) po_none) (pe_lst (pa_cons pe_non pa_nil))) pa_nil))))))))
      (pss_cons (ps_set (i := 2) scNoS.nd rfl (.inl rfl) (pe_op op_cat (pv 2) (pe_lst (pa_cons (pe_op op_cat (pe_slice sl_list (pv 1) po_none (po_some (pe_un un_neg pe_int))) (pe_lst (pa_cons (pe_tup (pa_cons (pv 3) (pa_cons (pv 4) (pa_cons pe_int pa_nil)))) pa_nil))) (pa_cons (pe_op op_cat (pe_slice sl_list (pv 1) po_none (po_some (pe_un un_neg pe_int))) (pe_lst (pa_cons (pe_tup (pa_cons (pe_callTy call_str_int (by rfl) mStr boot_str (pa_cons (pv 3) pa_nil)) (pa_cons (pv 4) pa_nil))) pa_nil))) pa_nil)))))
      (pss_cons (ps_if (pt_cmpR op_lt (pv 3) pe_int (nomark _)) (pss_one (ps_expr (pe_bm PySem.F.plainAttrs_list PySem.F.slot_list_append PySem.F.type_list_append mt_append (pv 2) (pa_cons (pe_op op_cat (pe_slice sl_list (pv 1) po_none (po_some (pe_un un_neg pe_int))) (pe_lst (pa_cons (pe_tup (pa_cons (pe_cmpR op_eq (pv 3) pe_int (nomark _)) (pa_cons (pv 4) pa_nil))) pa_nil))) pa_nil)))) pss_nil)
      (pss_one (ps_for PassesOwn.never rfl (pi_range1 (by rfl) mRange (pa_cons (pe_ix ix_tup (pv 0) pe_int (fun _ _ => rfl)) pa_nil)) (pg_name (i := 3) scNoS.nd rfl (Or.inr rfl))
      (pss_cons (ps_setLc (i := 5) (own := [("high", 4)]) (g := gName 4) (tt := tTest (tOp (rNotInD K) (tTup (tCons (tVar 3) (tCons (tVar 4) tNil))) (tVar 1))) (te := tTup (tCons (tVar 3) (tCons (tVar 4) tNil))) rfl scNoS.nd rfl rfl (sw_true rfl rfl rfl (by decide +kernel)) (pi_range2 (by rfl) mRange (pa_cons (pe_op op_add (pv 3) pe_int) (pa_cons (pe_ix ix_tup (pv 0) pe_int (fun _ _ => rfl)) pa_nil))) (blkOk_by (N := ["graph", "row", "found", "low", "high", "apart"]) (sc := defScope sNoS) (by decide +kernel)) (fun _ _ _ _ _ => pg_name (i := 4) scNoS.nd rfl (Or.inl rfl)) (fun _ _ _ _ _ => pts_one (pt_cmpR (op_notInD (room65 hr)) (pe_tup (pa_cons (pv 3) (pa_cons (pv 4) pa_nil))) (pv 1) (by rfl))) (fun _ _ _ _ _ => (pe_tup (pa_cons (pv 3) (pa_cons (pv 4) pa_nil)))))
      (pss_one (ps_set (i := 2) scNoS.nd rfl (.inl rfl) (pe_op op_cat (pv 2) (pe_op op_rep (pe_lst (pa_cons (pe_op op_cat (pe_slice sl_list (pv 1) (po_some pe_int) po_none) (pe_slice sl_list (pv 5) po_none (po_some pe_int))) pa_nil)) (pe_callTy call_int1 (by rfl) mInt boot_int (pa_cons (pe_cmpR (op_neD hr.units) (pv 5) (pe_lst pa_nil) (nomark _)) pa_nil))))))))))))) pss_nil)
      (pss_cons (ps_if (pt_cmpR op_gt (pe_callB call_len_seq (by rfl) mLen boot_len (pa_cons (pv 1) pa_nil)) pe_int (nomark _)) (pss_one (ps_set (i := 2) scNoS.nd rfl (.inl rfl) (pe_op op_cat (pv 2) (pe_lst (pa_cons (pe_op op_cat (pe_slice sl_list (pv 1) po_none (po_some (pe_un un_neg pe_int))) (pe_slice sl_list (pv 1) po_none (po_some pe_int))) (pa_cons (pe_op op_cat (pe_slice sl_list (pv 1) (po_some pe_int) (po_some pe_int)) (pe_slice sl_list (pv 1) (po_some pe_int) po_none)) pa_nil)))))) pss_nil)
      (pss_one (ps_ret (pv 2)))))))), ?_⟩
    obtain ⟨ge, xs, hg1, hg2, hp, hd0⟩ := hg.pairs
    have few := ok.few
    have n40 := ok.n40
    have n1 := ok.n1
    have xl := hp.length
    have hge := (hds_of hg2).2
    have len : (es.map Os.prD).length = es.length := List.length_map ..
    have c1 : ∀ x : PyData, (es.map Os.prD).length + [x].length ≤ 10000 := fun x => by
      rw [len]
      show es.length + 1 ≤ 10000
      omega
    have cl := @cl60 n es ok
    have c2 : ∀ {lo hi : Option Int} (x : PyData), (cutL (es.map Os.prD) lo hi).length + [x].length ≤ 10000 := fun {lo hi} x => by
      have := cl (lo := lo) (hi := hi)
      show _ + 1 ≤ 10000
      omega
    have c3 : ∀ {lo hi lo' hi' : Option Int}, (cutL (es.map Os.prD) lo hi).length + (cutL (es.map Os.prD) lo' hi').length ≤ 10000 := fun {lo hi lo' hi'} => by
      have := cl (lo := lo) (hi := hi)
      have := cl (lo := lo') (hi := hi')
      omega
    have c5 : ∀ {lo hi : Option Int}, (es.map Os.prD).length + (cutL (es.map Os.prD) lo hi).length ≤ 10000 := fun {lo hi} => by
      have := cl (lo := lo) (hi := hi)
      omega
    refine q_asg (v := .ref ge) (ev_op (ev_var rfl) ev_c (rv_ixT (st_of (hds_of hg1).2) (atI_nat (j := 1) rfl))) fun Ha ea => ?_
    have sta := st0.ex ea
    have hda := hd0.same (same_ex (hds_ex ea))
    have hgea := ea _ _ hge
    have hpa := hp.ex (hds_ex ea)
    refine q_grow0 (R := BS es) sta (ela_lst (n := 8) (eks_cons kp_up (ek_x x_non (bs_dec (by decide +kernel) rfl))
        (eks_cons kp_up (ek_x x_int (bs_dec (by decide +kernel) rfl))
        (eks_cons kp_up (ek_x x_str (bs_dec (by decide +kernel) rfl))
        (eks_cons kp_up (ek_x x_bl (bs_dec (by decide +kernel) rfl))
        (eks_cons kp_up (ek_x (x_tof sta (x_of (ev_var (i := 1) rfl) hda)) (bs_tup ok))
        (eks_cons kp_up (ek_x (x_cat sta (x_of (ev_var (i := 1) rfl) hda) (x_lst sta (xs_cons (x_tup sta (xs_cons x_int (xs_cons x_int xs_nil)) (Nat.le_of_ble_eq_true rfl)) xs_nil) (Nat.le_of_ble_eq_true rfl)) (c1 _)) (bs_more ok (kd_of (by decide +kernel))))
        (eks_cons kp_up (ek_x (x_cat sta (x_of (ev_var (i := 1) rfl) hda) (x_lst sta (xs_cons x_non xs_nil) (Nat.le_of_ble_eq_true rfl)) (c1 _)) (bs_more ok (kd_of (by decide +kernel))))
        (eks_cons kp_up (ek_x (x_lst sta (xs_cons (x_of (ev_var (i := 1) rfl) hda) xs_nil) (Nat.le_of_ble_eq_true rfl)) (bs_one ok))
        eks_nil)))))))) (by decide)) fun F1 H1 k1 => ?_
    refine q_grow (R := BS es) k1 (ev_var rfl) (elk_lst (n := 3) kp_up (eks_cons kp_up (ek_x (x_cat k1.col.st (x_of (ev_var (i := 1) rfl) (hda.same (same_ex k1.up))) (x_lst k1.col.st (xs_cons (x_tup k1.col.st (xs_cons x_int (xs_cons x_int xs_nil)) (Nat.le_of_ble_eq_true rfl)) xs_nil) (Nat.le_of_ble_eq_true rfl)) (c1 _)) (bs_more ok (kd_of (by decide +kernel))))
        (eks_cons kp_up (ek_x (x_cat k1.col.st (x_of (ev_var (i := 1) rfl) (hda.same (same_ex k1.up))) (x_lst k1.col.st (xs_cons (x_tup k1.col.st (xs_cons (x_of (ev_un ev_c ru_neg) (.int _)) (xs_cons x_int xs_nil)) (Nat.le_of_ble_eq_true rfl)) xs_nil) (Nat.le_of_ble_eq_true rfl)) (c1 _)) (bs_more ok (kd_of (by decide +kernel))))
        (eks_cons kp_up (ek_x (x_cat k1.col.st (x_of (ev_var (i := 1) rfl) (hda.same (same_ex k1.up))) (x_lst k1.col.st (xs_cons (x_of (ev_op ev_c ev_c (rv_I pow59)) (.int _)) xs_nil) (Nat.le_of_ble_eq_true rfl)) (c1 _)) (bs_more ok (kd_of (by decide +kernel))))
        eks_nil))) (by decide)) (by decide) fun F2 H2 e2 k2 => ?_
    refine q_ifD (fun σ' H' => ∃ M Fn y3 y4 y5, Grow (BS es) L Ha M Fn 11 60 H' ∧ σ' = [some (.ref g), some (.ref ge), some (.ref Fn), y3, y4, y5]) (fun D' hD' => ?_) ?_
    · refine s_when (b := !decide (es.map Os.prD = [])) (et_test (ne_nilV (ev_var rfl) (k2.ex _ _ hgea) (((hpa.ex k2.up).ex hds_up).dts) (sh_prs es) (by decide))) (fun hb H3 e3 => ?_) (fun _ H3 e3 => hD' _ _ ⟨_, _, _, _, _, (k2.on e3).wide (by decide) (by decide), rfl⟩)
      have ne : es ≠ [] := fun z => by
        rw [z] at hb
        cases hb
      have pos := List.length_pos_iff.mpr ne
      have k3 := k2.on e3
      have h3 := k3.ex _ _ hgea
      have p3 := hpa.ex k3.up
      -- low, high
      have il : es.length - 1 < xs.length := by omega
      have hx : xs[es.length - 1]? = some xs[es.length - 1] := List.getElem?_eq_getElem il
      have hat : atI xs (-1) = some xs[es.length - 1] := by
        unfold atI
        have : ixN xs.length (-1) = some (es.length - 1) := by
          unfold ixN
          rw [if_neg (by decide), if_pos (by omega)]
          congr 1
          omega
        rw [this]
        exact hx
      obtain ⟨⟨a, b⟩, he, t, hte, ht⟩ := p3.get hx
      rw [hte] at hat
      have mem := List.mem_of_getElem? he
      have inn : a < b ∧ b < n := ok.edges.inn (a, b) mem
      refine ⟨.ref ge, rfl, 1, rfl, ge, xs, -1, .ref t, rfl, rfl, sq_of h3, hat, t, _, rfl, st_of (hds_of ht).2, rfl, _, _, rfl, _, [], rfl, rfl, ?_⟩
      dsimp only
      refine q_grow (R := BS es) k3 (ev_var rfl) (elk_lst (n := 5) kp_up (eks_cons kp_up (ek_x (x_sl k3.col.st (ev_var (i := 1) rfl) eo_none (eo_some (ev_un ev_c ru_neg)) h3 p3.dts) ((bs_head ok).resolve_right ne))
        (eks_cons kp_up (ek_x (x_cat k3.col.st (x_of (ev_var (i := 1) rfl) (hda.same (same_ex k3.up))) (x_sl k3.col.st (ev_var (i := 1) rfl) eo_none (eo_some ev_c) h3 p3.dts) c5) (bs_plus ok ne))
        (eks_cons kp_up (ek_x (x_cat k3.col.st (x_sl k3.col.st (ev_var (i := 1) rfl) eo_none (eo_some (ev_un ev_c ru_neg)) h3 p3.dts) (x_lst k3.col.st (xs_cons (x_tup k3.col.st (xs_cons (x_of (ev_var (i := 4) rfl) (.int _)) (xs_cons (x_of (ev_var (i := 3) rfl) (.int _)) xs_nil)) (Nat.le_of_ble_eq_true rfl)) xs_nil) (Nat.le_of_ble_eq_true rfl)) (c2 _)) (bs_end ok (Kd.mono (kd_edge (a := b) (b := a) (by omega) (by omega)) (by decide) (by decide)) (edge_flat (n : Int) (b : Int) (a : Int) (by omega))))
        (eks_cons kp_up (ek_x (x_cat k3.col.st (x_sl k3.col.st (ev_var (i := 1) rfl) eo_none (eo_some (ev_un ev_c ru_neg)) h3 p3.dts) (x_lst k3.col.st (xs_cons (x_lst k3.col.st (xs_cons (x_of (ev_var (i := 3) rfl) (.int _)) (xs_cons (x_of (ev_var (i := 4) rfl) (.int _)) xs_nil)) (Nat.le_of_ble_eq_true rfl)) xs_nil) (Nat.le_of_ble_eq_true rfl)) (c2 _)) (bs_end ok (Kd.mono (Kd.lst (m := 2) (kd_kids (kd_sz (by omega)) (kd_kids (kd_sz (by omega)) kd_nil)) (Nat.le_refl 2)) (by decide) (by decide)) rfl))
        (eks_cons kp_up (ek_x (x_cat k3.col.st (x_sl k3.col.st (ev_var (i := 1) rfl) (eo_some ev_c) eo_none h3 p3.dts) (x_lst k3.col.st (xs_cons x_non xs_nil) (Nat.le_of_ble_eq_true rfl)) (c2 _)) (bs_end ok (kd_of (by decide +kernel)) rfl))
        eks_nil))))) (by decide)) (by decide) fun F4 H4 e4 k4 => ?_
      have h4 := k4.ex _ _ hgea
      have p4 := hpa.ex k4.up
      refine q_grow (R := BS es) k4 (ev_var rfl) (elk_lst (n := 2) kp_up (eks_cons kp_up (ek_x (x_cat k4.col.st (x_sl k4.col.st (ev_var (i := 1) rfl) eo_none (eo_some (ev_un ev_c ru_neg)) h4 p4.dts) (x_lst k4.col.st (xs_cons (x_tup k4.col.st (xs_cons (x_of (ev_var (i := 3) rfl) (.int _)) (xs_cons (x_of (ev_var (i := 4) rfl) (.int _)) (xs_cons x_int xs_nil))) (Nat.le_of_ble_eq_true rfl)) xs_nil) (Nat.le_of_ble_eq_true rfl)) (c2 _)) (bs_end ok (Kd.mono (Kd.tup (m := 3) (kd_kids (kd_sz (by omega)) (kd_kids (kd_sz (by omega)) (kd_kids (kd_sz (n := 0) (by omega)) kd_nil))) (Nat.le_refl 3)) (by decide) (by decide)) rfl))
        (eks_cons kp_up (ek_x (x_cat k4.col.st (x_sl k4.col.st (ev_var (i := 1) rfl) eo_none (eo_some (ev_un ev_c ru_neg)) h4 p4.dts) (x_lst k4.col.st (xs_cons (x_tup k4.col.st (xs_cons (x_of (ev_strI (ev_var (i := 3) rfl) (by omega)) (.str _)) (xs_cons (x_of (ev_var (i := 4) rfl) (.int _)) xs_nil)) (Nat.le_of_ble_eq_true rfl)) xs_nil) (Nat.le_of_ble_eq_true rfl)) (c2 _)) (bs_end ok (Kd.mono (Kd.tup (m := 2) (kd_kids (Kd.str (Nat.le_trans (kd_str64 a (by omega)).1 (by decide)) (kd_str64 a (by omega)).2) (kd_kids (kd_sz (by omega)) kd_nil)) (Nat.le_refl 2)) (by decide) (by decide)) rfl))
        eks_nil)) (by decide)) (by decide) fun F5 H5 e5 k5 => ?_
      have h5 := k5.ex _ _ hgea
      have p5 := hpa.ex k5.up
      refine q_ifD (fun σ' H' => Grow (BS es) L Ha (F5 :: F4 :: F2 :: F1 :: L) F5 18 19 H' ∧ σ' = [some (.ref g), some (.ref ge), some (.ref F5), some (.int (a : Int)), some (.int (b : Int)), none]) (fun D2 hD2 => ?_) ?_
      · refine s_when (b := decide ((a : Int) < 2)) (et_test (ev_op (ev_var rfl) ev_c rv_I0)) (fun _ H6 e6 => ?_) (fun _ H6 e6 => hD2 _ _ ⟨(k5.on e6).wide (by decide) (by decide), rfl⟩)
        have k6 := k5.on e6
        have h6 := k6.ex _ _ hgea
        have p6 := hpa.ex k6.up
        exact s_growA (R := BS es) k6 (ev_var rfl) (x_cat k6.col.st (x_sl k6.col.st (ev_var (i := 1) rfl) eo_none (eo_some (ev_un ev_c ru_neg)) h6 p6.dts) (x_lst k6.col.st (xs_cons (x_tup k6.col.st (xs_cons (x_of (ev_op (ev_var (i := 3) rfl) ev_c (rv_eq rfl)) (.bl _)) (xs_cons (x_of (ev_var (i := 4) rfl) (.int _)) xs_nil)) (Nat.le_of_ble_eq_true rfl)) xs_nil) (Nat.le_of_ble_eq_true rfl)) (c2 _)) (bs_end ok (Kd.mono (Kd.tup (m := 2) (kd_kids ((Kd.bl _).mono (by decide) (by decide)) (kd_kids (kd_sz (by omega)) kd_nil)) (Nat.le_refl 2)) (by decide) (by decide)) rfl) (by decide) fun H7 k7 _ => hD2 _ _ ⟨k7.wide (by decide) (by decide), rfl⟩
      rintro σ' H7 ⟨k7, rfl⟩
      -- apart
      refine s_forR1 (n := (n : Int)) (ea_cons (ev_op (ev_var rfl) ev_c (rv_ixT (st_of ((ea.trans k7.ex) _ _ (hds_of hg1).2)) (atI_nat (j := 0) rfl))) ea_nil) ⟨by omega, by omega⟩ (fun i σ' H' => i ≤ n ∧ ∃ M Fn y3 y4 y5, Grow (BS es) L Ha M Fn 18 (19 + i) H' ∧ σ' = [some (.ref g), some (.ref ge), some (.ref Fn), y3, y4, y5]) (fun H8 e8 => ⟨by omega, _, _, _, _, _, k7.on e8, rfl⟩) ?_ ?_
      · rintro i σ' H8 hi ⟨_, M, Fn, y3, y4, y5, k8, rfl⟩
        have i40 : i < n := by omega
        have h8 := k8.ex _ _ hgea
        have p8 := hpa.ex k8.up
        refine ⟨.int (i : Int), rfl, (i : Int), 1, rfl, rfl, .ref g, rfl, g, _, 0, .int (n : Int), rfl, rfl, st_of ((ea.trans k8.ex) _ _ (hds_of hg1).2), rfl, (i : Int) + 1, (n : Int), rfl, ⟨by omega, by omega, by omega, by omega⟩, fun Pa hPa => ?_⟩
        have nPa : Pa ∉ M := k8.col.st.out hPa
        refine lc_range (lo := (i : Int) + 1) (n := ((n : Int) - ((i : Int) + 1)).toNat) (fun l Hh => Ex H8 Hh ∧ ∃ zs fs, Hh Pa = some (.lst zs) ∧ PrsV (hds (Pa :: M) Hh) zs fs ∧ (∀ f ∈ fs, f ∉ es ∧ f.1 < 64 ∧ f.2 < 64) ∧ fs.length ≤ l) ⟨Ex.new hPa, [], [], upd_same, .nil, (fun e he => nomatch he), Nat.le_refl _⟩ ?_ ?_
        · rintro l Hh hl ⟨x1, zs, fs, hzs, pz, inz, fl⟩
          have e0 : (i : Int) + 1 + (l : Int) = ((i + 1 + l : Nat) : Int) := by omega
          rw [e0]
          refine ⟨rfl, ?_⟩
          have zl := pz.length
          refine ⟨.int (i : Int), rfl, .int ((i + 1 + l : Nat) : Int), rfl, show 2 ≤ sizeLine by decide, fun tt htt => ?_⟩
          have ett := Ex.new (o := .tup [.int (i : Int), .int ((i + 1 + l : Nat) : Int)]) htt
          have x2 := x1.trans ett
          have ptt : PrV (L2.upd Hh tt (.tup [.int (i : Int), .int ((i + 1 + l : Nat) : Int)])) (.ref tt) (i, i + 1 + l) := ⟨tt, rfl, upd_same⟩
          have rn := rv_ninP (K := K) ptt (x2 _ _ h8) ((p8.ex hds_up).ex x2)
          generalize (L2.upd Hh tt (.tup [.int (i : Int), .int ((i + 1 + l : Nat) : Int)])) = Ht at *
          refine ⟨.ref ge, rfl, rn _ (Ex.refl _) _ fun H9 e9 => ?_⟩
          refine ⟨_, rfl, ?_⟩
          have x9 := x2.trans e9
          have pz9 := pz.ex (hds_ex (ett.trans e9))
          have hzs9 := (ett.trans e9) _ _ hzs
          dsimp only
          split
          · rename_i hc
            have nin : (i, i + 1 + l) ∉ es := by simpa using hc
            refine ⟨.int (i : Int), rfl, .int ((i + 1 + l : Nat) : Int), rfl, show 2 ≤ sizeLine by decide, fun t2 ht2 => ?_⟩
            have et2 := Ex.new (o := .tup [.int (i : Int), .int ((i + 1 + l : Nat) : Int)]) ht2
            have hz2 := et2 _ _ hzs9
            refine ⟨zs, hz2, sz_lt (by omega), (x9.trans et2).mut hPa, zs ++ [.ref t2], fs ++ [(i, i + 1 + l)], upd_same, ?_, fun e he => ?_, by rw [List.length_append]; show fs.length + 1 ≤ l + 1; omega⟩
            · rw [hds_upd List.mem_cons_self]
              refine (pz9.ex (hds_ex et2)).append (.cons ⟨t2, rfl, ?_⟩ .nil)
              rw [hds_ne fun hb => (List.mem_cons.mp hb).elim (fun z => by rw [z, hzs9] at ht2; cases ht2) fun hb => by
                obtain ⟨o, ho⟩ := (k8.col.st.ex x9) t2 hb
                rw [ht2] at ho
                cases ho]
              exact upd_same
            · rcases List.mem_append.mp he with he | he
              · exact inz e he
              · rw [List.mem_singleton.mp he]
                exact ⟨nin, by show i < 64; omega, by show i + 1 + l < 64; omega⟩
          · exact ⟨x9, zs, fs, hzs9, pz9, inz, by omega⟩
        · rintro Hh ⟨x1, zs, fs, hzs, pz, inz, fl⟩
          dsimp only [gName]
          have k9 : Grow (BS es) L Ha (Pa :: M) Fn 18 (19 + i) Hh := by
            have k := k8.on x1
            refine ⟨k.ex, k8.up.trans (hds_out hPa x1), fun b hb => List.mem_cons_of_mem _ (k8.sub b hb), k.fr, List.mem_cons_of_mem _ k8.col.mem, fun b hb => ?_, ?_⟩
            · rcases List.mem_cons.mp hb with rfl | hb
              · exact ⟨_, hzs⟩
              · exact k.col.st b hb
            · obtain ⟨ys, a1, a2, a3, a4⟩ := k8.col.row
              exact ⟨ys, x1 _ _ a1, a2, a3, fun x hx => kp_up _ _ _ (hds_out hPa x1) (a4 x hx)⟩
          have h9 := k9.ex _ _ hgea
          have p9 := hpa.ex k9.up
          have zl := pz.length
          have cfl : (cutL (fs.map Os.prD) none (some 1)).length ≤ 1 := by
            rw [show (some (1 : Int)) = some ((1 : Nat) : Int) from rfl, cutL_to, List.length_take]
            omega
          have inner : EvLK (Pa :: M) (KP (BS es)) (tLst (tCons (tOp rCat (tSl (rSlL K) (tVar 1) (tPart (tC (.int 1))) tNoPart) (tSl (rSlL K) (tVar 5) tNoPart (tPart (tC (.int 1))))) tNil)) [some (.ref g), some (.ref ge), some (.ref Fn), some (.int (i : Int)), y4, some (.ref Pa)] Hh 1 1 := (elk_lst (n := 1) kp_up (eks_cons kp_up (ek_x (x_cat k9.col.st (x_sl k9.col.st (ev_var (i := 1) rfl) (eo_some ev_c) eo_none h9 p9.dts) (x_sl k9.col.st (ev_var (i := 5) rfl) eo_none (eo_some ev_c) hzs pz.dts) (by have := cl (lo := some 1) (hi := none); omega)) (bs_apart ok ne inz)) eks_nil) (by decide))
          have kint : Ev (tCB (fun xs H Q => (∃ i, xs = [V.int i] ∧ Q (.int i) H) ∨ ∃ k, xs = [V.bl k] ∧ Q (.int (if k = true then 1 else 0)) H) (tCons (tOp (rNeD K) (tVar 5) (tLst tNil)) tNil)) [some (.ref g), some (.ref ge), some (.ref Fn), some (.int (i : Int)), y4, some (.ref Pa)] Hh (.int ((if (!decide (fs.map Os.prD = [])) = true then 1 else 0 : Nat) : Int)) := fun H1 e Q q =>
            (ne_nilV (ev_var rfl) hzs ((pz.ex hds_up).dts) (sh_prs fs) (by decide)) H1 e _ fun H2 e2 => .inr ⟨_, rfl, by
              cases hd : (!decide (fs.map Os.prD = [])) with
              | true => rw [hd] at q; exact q H2 e2
              | false => rw [hd] at q; exact q H2 e2⟩
          refine s_grow (R := BS es) k9 (ev_var rfl) (elk_wide (elk_rep kp_up inner kint (by split <;> decide) (by split <;> decide)) (Nat.zero_le _) (hi' := 1) (by split <;> decide)) (by omega) fun F10 H10 e10 k10 => ?_
          exact ⟨by omega, _, _, _, _, _, k10.wide (by omega) (by omega), rfl⟩
      · rintro σ' H8 ⟨_, M, Fn, y3, y4, y5, k8, rfl⟩
        exact hD' _ _ ⟨_, _, _, _, _, k8.wide (by decide) (by show 19 + (n : Int).toNat ≤ 60; omega), rfl⟩
    rintro σ' H9 ⟨M, Fn, y3, y4, y5, k9, rfl⟩
    refine q_ifD (fun σ' H' => ∃ M Fn, Grow (BS es) L Ha M Fn 11 62 H' ∧ σ' = [some (.ref g), some (.ref ge), some (.ref Fn), y3, y4, y5]) (fun D' hD' => ?_) ?_
    · refine s_when (b := decide ((xs.length : Int) > 1)) (et_test (ev_op (ev_len (ev_var rfl) (sq_of (k9.ex _ _ hgea))) ev_c rv_I0)) (fun hb H3 e3 => ?_) (fun _ H3 e3 => hD' _ _ ⟨_, _, (k9.on e3).wide (by decide) (by decide), rfl⟩)
      have x2 := of_decide_eq_true hb
      have l2 : 2 ≤ es.length := by omega
      have k3 := k9.on e3
      have h3 := k3.ex _ _ hgea
      have p3 := hpa.ex k3.up
      exact s_grow (R := BS es) k3 (ev_var rfl) (elk_lst (n := 2) kp_up (eks_cons kp_up (ek_x (x_cat k3.col.st (x_sl k3.col.st (ev_var (i := 1) rfl) eo_none (eo_some (ev_un ev_c ru_neg)) h3 p3.dts) (x_sl k3.col.st (ev_var (i := 1) rfl) eo_none (eo_some ev_c) h3 p3.dts) c3) (bs_ring ok l2))
        (eks_cons kp_up (ek_x (x_cat k3.col.st (x_sl k3.col.st (ev_var (i := 1) rfl) (eo_some ev_c) (eo_some ev_c) h3 p3.dts) (x_sl k3.col.st (ev_var (i := 1) rfl) (eo_some ev_c) eo_none h3 p3.dts) c3) (bs_next ok l2))
        eks_nil)) (by decide)) (by decide) fun F4 H4 e4 k4 => hD' _ _ ⟨_, _, k4.wide (by decide) (by decide), rfl⟩
    rintro σ' H10 ⟨M, Fn, k10, rfl⟩
    refine s_ret (v := .ref Fn) (ev_var rfl) fun H11 e11 => ?_
    obtain ⟨ys, a1, a2, a3, a4⟩ := (k10.on e11).fin
    exact q H11 Fn ys (ea.trans (k10.on e11).ex) (fresh_back ea k10.fr) a1 a2 a3 a4
end
end K15
namespace K15
open PySem PySem.Spec PyProof.Rows L2 Os Evl
abbrev sNoP : Stmt := topS 54
theorem scNoP : FnScope ["graph", "lists", "found", "row", "at", "odd"] ["graph", "lists"] (defScope sNoP) := ⟨rfl, rfl, rfl, by decide +kernel, rfl, by decide +kernel, by decide +kernel⟩
theorem adj_ne {n : Nat} {es : List Pr} (E : ∀ e ∈ es, e.1 < e.2 ∧ e.2 < n) {i x : Nat} (h : x ∈ adj es i) : x ≠ i := by
  obtain ⟨e, he, ho⟩ := List.mem_filterMap.mp h
  have := E e he
  unfold other at ho
  split at ho
  · cases ho
    omega
  · split at ho
    · cases ho
      omega
    · cases ho
theorem adj_low {n : Nat} {es : List Pr} (E : ∀ e ∈ es, e.1 < e.2 ∧ e.2 < n) {e : Pr} (h : e ∈ es) : adj es e.1 ≠ [] := fun z => by
  have : e.2 ∈ adj es e.1 := List.mem_filterMap.mpr ⟨e, h, by
    have := E e h
    unfold other
    first
      | rw [if_pos rfl]
      | (rw [if_neg (by omega), if_pos rfl])⟩
  rw [z] at this
  cases this
theorem kd_i6 : ∀ i, i < 64 → (PyData.int ((i : Nat) : Int)).shown.length ≤ 6 := by decide +kernel
theorem kd_int6 {i : Nat} (h : i < 64) : Kd 6 1 (.int (i : Int)) := ⟨⟨kd_i6 i h, Nat.zero_le _, (Lim.int h).show', rfl⟩, rfl, Nat.zero_le _⟩
theorem kd_nats {l : List Nat} (h : ∀ x ∈ l, x < 64) : ∀ d ∈ natsD l, Kd 6 1 d := fun d hd => by
  obtain ⟨x, hx, rfl⟩ := List.mem_map.mp hd
  exact kd_int6 (h x hx)
/-- no turns, of no great size -/
structure BT (n : Nat) (es : List Pr) (d : PyData) : Prop where
  kd : Kd 40000 8 d
  sh : Short2 d
  no : turnsB n es d = false
section
variable {n : Nat} {es : List Pr}
theorem bt_dec {d : PyData} (h1 : (decide (d.shown.length ≤ 40000) && (decide (d.depth ≤ 8) && (d.showable && (!d.hasDict && (d.canLay0 && decide (smx d ≤ 1000)))))) = true) (h2 : listB d = false) : BT n es d := ⟨kd_of h1, by cases d with
  | list _ => cases h2
  | _ => trivial, by cases d with
  | list _ => cases h2
  | _ => rfl⟩
/-- a row of leaves -/
def RowK (d : PyData) : Prop := Kd 963 3 d ∧ Short d
theorem rowk_list {ds : List PyData} (h : ∀ d ∈ ds, Kd 6 1 d) (hl : ds.length ≤ 120) : RowK (.list ds) := ⟨(Kd.lst (m := 120) h hl).mono (by decide) (by decide), show ds.length ≤ 1000 by omega⟩
theorem rowk_tup {ds : List PyData} (h : ∀ d ∈ ds, Kd 6 1 d) (hl : ds.length ≤ 120) : RowK (.tuple ds) := ⟨(Kd.tup (m := 120) h hl).mono (by decide) (by decide), trivial⟩
theorem rowk_leaf {d : PyData} (h : Kd 6 1 d) (hs : Short d) : RowK d := ⟨h.mono (by decide) (by decide), hs⟩
theorem bt_list {ds : List PyData} (h : ∀ d ∈ ds, RowK d) (hl : ds.length ≤ 41) (no : turnsB n es (.list ds) = false) : BT n es (.list ds) := ⟨(Kd.lst (m := 41) (fun d hd => (h d hd).1) hl).mono (by decide) (by decide), ⟨by omega, fun d hd => (h d hd).2⟩, no⟩
theorem tn_len {ds : List PyData} (h : ds.length ≠ n) : turnsB n es (.list ds) = false := by
  show (decide (ds.length = n) && _) = false
  rw [decide_eq_false h, Bool.false_and]
theorem tn_at {ds : List PyData} {i : Nat} (hi : i < n) (h : turnB (n : Int) (adj es i) (ds.getD i .none) = false) : turnsB n es (.list ds) = false := by
  show (decide (ds.length = n) && (List.range n).all fun i => turnB (n : Int) (adj es i) (ds.getD i .none)) = false
  have e0 : ((List.range n).all fun i => turnB (n : Int) (adj es i) (ds.getD i .none)) = false := by
    cases e : (List.range n).all fun i => turnB (n : Int) (adj es i) (ds.getD i .none) with
    | false => rfl
    | true =>
      have := List.all_eq_true.mp e i (List.mem_range.mpr hi)
      rw [h] at this
      cases this
  rw [e0, Bool.and_false]
theorem turn_mem {near : List Nat} {xs : List PyData} {x : PyData} {m : Int} (hx : x ∈ xs) (h : posB m x = false) : turnB m near (.list xs) = false := by
  show (xs.all (posB m) && _) = false
  have e0 : xs.all (posB m) = false := by
    cases e : xs.all (posB m) with
    | false => rfl
    | true =>
      have := List.all_eq_true.mp e x hx
      rw [h] at this
      cases this
  rw [e0, Bool.false_and]
theorem turn_perm {near : List Nat} {xs : List PyData} {m : Int} (h : ¬ (xs.map intD).Perm (near.map fun x : Nat => (x : Int))) : turnB m near (.list xs) = false := by
  show (_ && (xs.map intD).isPerm (near.map fun x : Nat => (x : Int))) = false
  rw [show (xs.map intD).isPerm (near.map fun x : Nat => (x : Int)) = false from by
    cases e : (xs.map intD).isPerm (near.map fun x : Nat => (x : Int)) with
    | false => rfl
    | true => exact absurd (List.isPerm_iff.mp e) h, Bool.and_false]
theorem turn_len {near : List Nat} {xs : List PyData} {m : Int} (h : xs.length ≠ near.length) : turnB m near (.list xs) = false := turn_perm fun p => h (by have := p.length_eq; rwa [List.length_map, List.length_map] at this)
end
/-- what holds of the turns that are given -/
structure Trn (n : Nat) (es : List Pr) (tn : Nat → List Nat) : Prop where
  ok : IsForest n es
  pm : ∀ i, (tn i).Perm (adj es i)
section
variable {n : Nat} {es : List Pr} {tn : Nat → List Nat}
theorem Trn.len (T : Trn n es tn) (i : Nat) : (tn i).length ≤ 60 := by
  rw [(T.pm i).length_eq]
  exact adj_len T.ok.few i
theorem Trn.lt (T : Trn n es tn) {i x : Nat} (h : x ∈ tn i) : x < 64 := by
  have := adj_in T.ok.edges.inn ((T.pm i).mem_iff.mp h)
  have := T.ok.n40
  omega
theorem Trn.nd (T : Trn n es tn) (i : Nat) : (tn i).Nodup := (T.pm i).nodup_iff.mpr ((adj_asc T.ok.edges i).imp fun {a b} h e => by omega)
theorem Trn.kd (T : Trn n es tn) (i : Nat) : ∀ d ∈ natsD (tn i), Kd 6 1 d := kd_nats fun x hx => T.lt hx
theorem Trn.row (T : Trn n es tn) (i : Nat) : RowK (.list (natsD (tn i))) := rowk_list (T.kd i) (by unfold natsD; rw [List.length_map]; have := T.len i; omega)
theorem rowsD_len {f : Nat → List Nat} : (rowsD n f).length = n := by unfold rowsD; rw [List.length_map, List.length_range]
theorem Trn.rows (T : Trn n es tn) : ∀ d ∈ rowsD n tn, RowK d := fun d hd => by
  obtain ⟨i, _, rfl⟩ := List.mem_map.mp hd
  exact T.row i
theorem Trn.more (T : Trn n es tn) {x : PyData} (hx : RowK x) : BT n es (.list (rowsD n tn ++ [x])) := bt_list (fun d hd => (List.mem_append.mp hd).elim (T.rows d) fun h => by rw [List.mem_singleton.mp h]; exact hx) (by rw [List.length_append, rowsD_len]; have := T.ok.n40; show n + 1 ≤ 41; omega) (tn_len (by rw [List.length_append, rowsD_len]; show n + 1 ≠ n; omega))
theorem Trn.less (T : Trn n es tn) : BT n es (.list (cutL (rowsD n tn) none (some (-1)))) := bt_list (fun d hd => T.rows d (cutL_mem hd)) (by have := cutL_length (xs := rowsD n tn) (lo := none) (hi := some (-1)); rw [rowsD_len] at this; have := T.ok.n40; omega) (tn_len (by rw [cutL_last, List.length_take, rowsD_len]; have := T.ok.n1; omega))
theorem Trn.tup (T : Trn n es tn) : BT n es (.tuple (rowsD n tn)) := ⟨(Kd.tup (m := 41) (fun d hd => (T.rows d hd).1) (by rw [rowsD_len]; have := T.ok.n40; omega)).mono (by decide) (by decide), trivial, rfl⟩
theorem Trn.put (T : Trn n es tn) {i : Nat} (hi : i < n) {x : PyData} (hx : RowK x) (no : turnB (n : Int) (adj es i) x = false) : BT n es (.list (cutL (rowsD n tn) none (some (i : Int)) ++ [x] ++ cutL (rowsD n tn) (some ((i : Int) + 1)) none)) := by
  have n40 := T.ok.n40
  refine bt_list (fun d hd => ?_) ?_ (tn_at hi ?_)
  · rcases List.mem_append.mp hd with h | h
    · rcases List.mem_append.mp h with h | h
      · exact T.rows d (cutL_mem h)
      · rw [List.mem_singleton.mp h]
        exact hx
    · exact T.rows d (cutL_mem h)
  · rw [cutL_to, show (i : Int) + 1 = ((i + 1 : Nat) : Int) from rfl, cutL_from, List.length_append, List.length_append, List.length_take, List.length_drop, rowsD_len]
    show min i n + 1 + (n - (i + 1)) ≤ 41
    omega
  · have tl : ((rowsD n tn).take i).length = i := by rw [List.length_take, rowsD_len]; omega
    rw [cutL_to, List.getD_eq_getElem?_getD, List.append_assoc, List.getElem?_append_right (by omega), tl, Nat.sub_self]
    exact no
theorem Trn.last (T : Trn n es tn) {x : PyData} (hx : RowK x) (no : turnB (n : Int) (adj es (n - 1)) x = false) : BT n es (.list (cutL (rowsD n tn) none (some (-1)) ++ [x])) := by
  have n40 := T.ok.n40
  have n1 := T.ok.n1
  refine bt_list (fun d hd => (List.mem_append.mp hd).elim (fun h => T.rows d (cutL_mem h)) fun h => by rw [List.mem_singleton.mp h]; exact hx) ?_ (tn_at (i := n - 1) (by omega) ?_)
  · rw [cutL_last, List.length_append, List.length_take, rowsD_len]
    show min (n - 1) n + 1 ≤ 41
    omega
  · have tl : ((rowsD n tn).take (n - 1)).length = n - 1 := by rw [List.length_take, rowsD_len]; omega
    rw [cutL_last, rowsD_len, List.getD_eq_getElem?_getD, List.getElem?_append_right (by omega), tl, Nat.sub_self]
    exact no
theorem Trn.all (T : Trn n es tn) {x : PyData} (hx : RowK x) (no : turnB (n : Int) (adj es 0) x = false) : BT n es (.list (List.replicate n [x]).flatten) := by
  have n40 := T.ok.n40
  have n1 := T.ok.n1
  have fl : ((List.replicate n [x]).flatten).length = n := by
    rw [List.length_flatten, List.map_replicate, List.sum_replicate_nat]
    show n * 1 = n
    omega
  refine bt_list (fun d hd => ?_) (by omega) (tn_at (i := 0) (by omega) ?_)
  · obtain ⟨l, hl, hd'⟩ := List.mem_flatten.mp hd
    rw [(List.mem_replicate.mp hl).2] at hd'
    rw [List.mem_singleton.mp hd']
    exact hx
  · obtain ⟨m, rfl⟩ : ∃ m, n = m + 1 := ⟨n - 1, by omega⟩
    rw [List.replicate_succ]
    exact no
theorem Trn.tups (T : Trn n es tn) : BT n es (.list ((List.range n).map fun i => PyData.tuple (natsD (tn i)))) := by
  have n40 := T.ok.n40
  have n1 := T.ok.n1
  refine bt_list (fun d hd => ?_) (by rw [List.length_map, List.length_range]; omega) (tn_at (i := 0) (by omega) ?_)
  · obtain ⟨i, _, rfl⟩ := List.mem_map.mp hd
    exact rowk_tup (T.kd i) (by unfold natsD; rw [List.length_map]; have := T.len i; omega)
  · rw [List.getD_eq_getElem?_getD, List.getElem?_map, List.getElem?_range (by omega)]
    rfl
theorem natsD_len (l : List Nat) : (natsD l).length = l.length := List.length_map ..
theorem kd_cutn (T : Trn n es tn) (i : Nat) {lo hi : Option Int} : ∀ d ∈ cutL (natsD (tn i)) lo hi, Kd 6 1 d := fun d hd => T.kd i d (cutL_mem hd)
theorem cut_len (T : Trn n es tn) (i : Nat) {lo hi : Option Int} : (cutL (natsD (tn i)) lo hi).length ≤ 60 := by
  have := cutL_length (xs := natsD (tn i)) (lo := lo) (hi := hi)
  rw [natsD_len] at this
  have := T.len i
  omega
/-- rows with a wrong end or beginning -/
theorem Trn.endK (T : Trn n es tn) (i : Nat) {x : PyData} (hx : Kd 6 1 x) {lo hi : Option Int} : RowK (.list (cutL (natsD (tn i)) lo hi ++ [x])) := rowk_list (fun d hd => (List.mem_append.mp hd).elim (kd_cutn T i d) fun h => by rw [List.mem_singleton.mp h]; exact hx) (by rw [List.length_append]; have := cut_len T i (lo := lo) (hi := hi); show _ + 1 ≤ 120; omega)
theorem Trn.begK (T : Trn n es tn) (i : Nat) {x : PyData} (hx : Kd 6 1 x) {lo hi : Option Int} : RowK (.list ([x] ++ cutL (natsD (tn i)) lo hi)) := rowk_list (fun d hd => (List.mem_append.mp hd).elim (fun h => by rw [List.mem_singleton.mp h]; exact hx) (kd_cutn T i d)) (by rw [List.length_append]; have := cut_len T i (lo := lo) (hi := hi); show 1 + _ ≤ 120; omega)
theorem Trn.ringK (T : Trn n es tn) (i : Nat) {lo hi lo' hi' : Option Int} : RowK (.list (cutL (natsD (tn i)) lo hi ++ cutL (natsD (tn i)) lo' hi')) := rowk_list (fun d hd => (List.mem_append.mp hd).elim (kd_cutn T i d) (kd_cutn T i d)) (by rw [List.length_append]; have := cut_len T i (lo := lo) (hi := hi); have := cut_len T i (lo := lo') (hi := hi'); omega)
theorem Trn.ring_no (T : Trn n es tn) (i : Nat) (h2 : 2 ≤ (tn i).length) : turnB (n : Int) (adj es i) (.list (cutL (natsD (tn i)) none (some (-1)) ++ cutL (natsD (tn i)) none (some 1))) = false := by
  refine turn_perm fun p => ?_
  unfold natsD at p
  rw [cutL_map, cutL_map, ← List.map_append, List.map_map] at p
  have p : ((cutL (tn i) none (some (-1)) ++ cutL (tn i) none (some 1)).map fun x : Nat => (x : Int)).Perm ((adj es i).map fun x : Nat => (x : Int)) := p
  have nd : ((adj es i).map fun x : Nat => (x : Int)).Nodup := by
    unfold List.Nodup
    rw [List.pairwise_map]
    exact ((T.pm i).nodup_iff.mp (T.nd i)).imp fun {a b} h e => h (by omega)
  have nd := p.nodup_iff.mpr nd
  rw [cutL_last, show (some (1 : Int)) = some ((1 : Nat) : Int) from rfl, cutL_to] at nd
  generalize tn i = l at nd h2
  match l, h2, nd with
  | z :: y :: r, _, nd =>
    unfold List.Nodup at nd
    rw [List.pairwise_map] at nd
    have := (List.pairwise_append.mp nd).2.2 z (by rw [show (z :: y :: r).length - 1 = r.length + 1 from rfl, List.take_succ_cons]; exact List.mem_cons_self) z List.mem_cons_self
    exact this rfl
theorem kd_bl6 (b : Bool) : Kd 6 1 (.bool b) := by cases b <;> exact kd_of (by decide +kernel)
theorem pos_self (n : Nat) : posB (n : Int) (.int (n : Int)) = false := by
  show (decide (0 ≤ (n : Int)) && decide ((n : Int) < (n : Int))) = false
  rw [decide_eq_false (Int.lt_irrefl _), Bool.and_false]
theorem Trn.fullK (T : Trn n es tn) (i : Nat) {x : PyData} (hx : Kd 6 1 x) : RowK (.list (natsD (tn i) ++ [x])) := rowk_list (fun d hd => (List.mem_append.mp hd).elim (T.kd i d) fun h => by rw [List.mem_singleton.mp h]; exact hx) (by rw [List.length_append, natsD_len]; have := T.len i; show _ + 1 ≤ 120; omega)
theorem Trn.zero_no (T : Trn n es tn) : turnB (n : Int) (adj es 0) (.list [.int 0]) = false := turn_perm fun p => by
  have : (0 : Int) ∈ (adj es 0).map fun x : Nat => (x : Int) := p.mem_iff.mp List.mem_cons_self
  obtain ⟨x, hx, e⟩ := List.mem_map.mp this
  exact adj_ne T.ok.edges.inn hx (by omega)
theorem Trn.self_no (T : Trn n es tn) (i : Nat) {lo hi : Option Int} : turnB (n : Int) (adj es i) (.list (cutL (natsD (tn i)) lo hi ++ [.int (i : Int)])) = false := by
  refine turn_perm fun p => ?_
  have : (i : Int) ∈ (adj es i).map fun x : Nat => (x : Int) := p.mem_iff.mp (by rw [List.map_append]; exact List.mem_append_right _ List.mem_cons_self)
  obtain ⟨x, hx, e⟩ := List.mem_map.mp this
  exact adj_ne T.ok.edges.inn hx (by omega)
theorem Trn.tail_no (T : Trn n es tn) (i : Nat) (h : adj es i ≠ []) : turnB (n : Int) (adj es i) (.list (cutL (natsD (tn i)) (some 1) none)) = false := turn_len (by
  have := List.length_pos_iff.mpr h
  rw [show (some (1 : Int)) = some ((1 : Nat) : Int) from rfl, cutL_from, List.length_drop, natsD_len, (T.pm i).length_eq]
  omega)
theorem Trn.twoK (T : Trn n es tn) (i : Nat) : RowK (.list (List.replicate 2 (natsD (tn i))).flatten) := rowk_list (fun d hd => by
  obtain ⟨l, hl, hd'⟩ := List.mem_flatten.mp hd
  rw [(List.mem_replicate.mp hl).2] at hd'
  exact T.kd i d hd') (by rw [List.length_flatten, List.map_replicate, List.sum_replicate_nat, natsD_len]; have := T.len i; omega)
theorem Trn.two_no (T : Trn n es tn) (i : Nat) (h : adj es i ≠ []) : turnB (n : Int) (adj es i) (.list (List.replicate 2 (natsD (tn i))).flatten) = false := turn_len (by
  have := List.length_pos_iff.mpr h
  rw [List.length_flatten, List.map_replicate, List.sum_replicate_nat, natsD_len, (T.pm i).length_eq]
  omega)
end
section
variable {P : Program} {w : World} {K : PySem.W.Frag} {mg : Str → Option Value} {base : Heap}
def spNoP : Sp := fun vs H Q _ => ∃ (g t : Addr) (L : List Addr) (n : Nat) (es : List Pr) (as : List Addr) (tn : Nat → List Nat), vs = [.ref g, .ref t] ∧ Stn L H ∧ GraphV (hds L H) (.ref g) n es ∧ RowsAt (hds L H) t as n tn ∧ Trn n es tn ∧
  ∀ (H' : Hp) (p : Addr) (xs : List V), Ex H H' → H p = none → H' p = some (.lst xs) → 11 ≤ xs.length → xs.length ≤ 140 → (∀ x ∈ xs, KP (BT n es) (hds L H') x) → Q (.ref p) H'
theorem ok_noP {f : Addr} {fd : FuncData} {k : Nat} (F : Fun K "_law_no_perms" "_law_no_perms" sNoP f fd) (mTup : mg "tuple" = none) (mEnum : mg "enumerate" = none) (mLen : mg "len" = none) : FnOk P w K mg base CX0 (k + 1) f fd ["graph", "lists"] spNoP := by
  refine F.ok scNoP (fun vs H Q E h => ?_) (fun cdv A outer stt H vs Q E hr h => ?_)
  · obtain ⟨g, t, L, n, es, as, tn, rfl, _⟩ := h
    rfl
  · obtain ⟨g, t, L, n, es, as, tn, rfl, st0, hg, ra, T, q⟩ := h
    refine ⟨_, (pss_cons (ps_set (i := 2) scNoP.nd rfl (.inl rfl) (pe_lst (pa_cons pe_non (pa_cons pe_int (pa_cons pe_str (pa_cons pe_bl (pa_cons (pe_callTy call_tuple_of (by rfl) mTup boot_tuple (pa_cons (pv 1) pa_nil)) (pa_cons (pe_op op_cat (pv 1) (pe_lst (pa_cons (pe_lst pa_nil) pa_nil))) (pa_cons (pe_slice sl_list (pv 1) po_none (po_some (pe_un un_neg pe_int))) (pa_cons (pe_op op_rep (pe_lst (pa_cons pe_non pa_nil)) (pe_ix ix_tup (pv 0) pe_int (fun _ _ => rfl))) pa_nil))))))))))
      (pss_cons (ps_expr (pe_bm PySem.F.plainAttrs_list PySem.F.slot_list_append PySem.F.type_list_append mt_append (pv 2) (pa_cons (pe_lc (own := [("row", 3)]) (g := gName 3) (tt := tYes) (te := tCB (fun xs H Q => ∃ p ys, xs = [V.ref p] ∧ ((SqL K H p ys ∧ ∀ l, H l = none → Q (.ref l) (L2.upd H l (.tup ys))) ∨ (SqT K H p ys ∧ Q (.ref p) H))) (tCons (tVar 3) tNil)) rfl scNoP.nd (pi_list (pv 1)) (blkOk_by (N := ["graph", "lists", "found", "row", "at", "odd"]) (sc := defScope sNoP) (by decide +kernel)) (fun _ _ _ _ _ => pg_name (i := 3) scNoP.nd rfl (Or.inl rfl)) (fun _ _ _ _ _ => pts_nil) (fun _ _ _ _ _ => (pe_callTy call_tuple_of (by rfl) mTup boot_tuple (pa_cons (pv 3) pa_nil)))) pa_nil)))
      (pss_cons (ps_set (i := 2) scNoP.nd rfl (.inl rfl) (pe_op op_cat (pv 2) (pe_lst (pa_cons (pe_op op_cat (pe_slice sl_list (pv 1) po_none (po_some (pe_un un_neg pe_int))) (pe_lst (pa_cons (pe_op op_cat (pe_ix ix_list (pv 1) (pe_un un_neg pe_int) (fun _ _ => rfl)) (pe_lst (pa_cons (pe_ix ix_tup (pv 0) pe_int (fun _ _ => rfl)) pa_nil))) pa_nil))) (pa_cons (pe_op op_cat (pe_slice sl_list (pv 1) po_none (po_some (pe_un un_neg pe_int))) (pe_lst (pa_cons (pe_op op_cat (pe_ix ix_list (pv 1) (pe_un un_neg pe_int) (fun _ _ => rfl)) (pe_lst (pa_cons pe_bl pa_nil))) pa_nil))) (pa_cons (pe_op op_rep (pe_lst (pa_cons (pe_lst (pa_cons pe_int pa_nil)) pa_nil)) (pe_ix ix_tup (pv 0) pe_int (fun _ _ => rfl))) pa_nil))))))
      (pss_cons (ps_if (pt_cmpR (op_neD hr.units) (pe_ix ix_tup (pv 0) pe_int (fun _ _ => rfl)) (pe_lst pa_nil) (nomark _)) (pss_cons (ps_set (i := 4) scNoP.nd rfl (.inl rfl) (pe_ix ix_tup (pe_ix ix_list (pe_ix ix_tup (pv 0) pe_int (fun _ _ => rfl)) pe_int (fun _ _ => rfl)) pe_int (fun _ _ => rfl)))
      (pss_cons (ps_expr (pe_bm PySem.F.plainAttrs_list PySem.F.slot_list_append PySem.F.type_list_append mt_append (pv 2) (pa_cons (pe_op op_cat (pe_op op_cat (pe_slice sl_list (pv 1) po_none (po_some (pv 4))) (pe_lst (pa_cons (pe_slice sl_list (pe_ix ix_list (pv 1) (pv 4) (fun _ _ => rfl)) (po_some pe_int) po_none) pa_nil))) (pe_slice sl_list (pv 1) (po_some (pe_op op_add (pv 4) pe_int)) po_none)) pa_nil)))
      (pss_one (ps_expr (pe_bm PySem.F.plainAttrs_list PySem.F.slot_list_append PySem.F.type_list_append mt_append (pv 2) (pa_cons (pe_op op_cat (pe_op op_cat (pe_slice sl_list (pv 1) po_none (po_some (pv 4))) (pe_lst (pa_cons (pe_op op_rep (pe_ix ix_list (pv 1) (pv 4) (fun _ _ => rfl)) pe_int) pa_nil))) (pe_slice sl_list (pv 1) (po_some (pe_op op_add (pv 4) pe_int)) po_none)) pa_nil)))))) pss_nil)
      (pss_cons (ps_for PassesOwn.never rfl (pi_enum (by rfl) mEnum (pa_cons (pv 1) pa_nil)) (pg_tup rfl (pgs_cons (pg_name (i := 4) scNoP.nd rfl (Or.inl rfl)) (pgs_cons (pg_name (i := 3) scNoP.nd rfl (Or.inl rfl)) pgs_nil)))
      (pss_cons (ps_if (pt_cmpR op_gt (pe_callB call_len_seq (by rfl) mLen boot_len (pa_cons (pv 3) pa_nil)) pe_int (nomark _)) (pss_cons (ps_expr (pe_bm PySem.F.plainAttrs_list PySem.F.slot_list_append PySem.F.type_list_append mt_append (pv 2) (pa_cons (pe_op op_cat (pe_op op_cat (pe_slice sl_list (pv 1) po_none (po_some (pv 4))) (pe_lst (pa_cons (pe_op op_cat (pe_slice sl_list (pv 3) po_none (po_some (pe_un un_neg pe_int))) (pe_slice sl_list (pv 3) po_none (po_some pe_int))) pa_nil))) (pe_slice sl_list (pv 1) (po_some (pe_op op_add (pv 4) pe_int)) po_none)) pa_nil)))
      (pss_one (ps_expr (pe_bm PySem.F.plainAttrs_list PySem.F.slot_list_append PySem.F.type_list_append mt_append (pv 2) (pa_cons (pe_op op_cat (pe_op op_cat (pe_slice sl_list (pv 1) po_none (po_some (pv 4))) (pe_lst (pa_cons (pe_op op_cat (pe_slice sl_list (pv 3) po_none (po_some (pe_un un_neg pe_int))) (pe_lst (pa_cons (pv 4) pa_nil))) pa_nil))) (pe_slice sl_list (pv 1) (po_some (pe_op op_add (pv 4) pe_int)) po_none)) pa_nil))))) pss_nil)
      (pss_one (ps_if (PW.pt (pw_and (pt_cmpR (op_neD hr.units) (pv 3) (pe_lst pa_nil) (nomark _)) (pw_and1 (pt_cmpR op_lt (pe_ix ix_list (pv 3) pe_int (fun _ _ => rfl)) pe_int (nomark _))))) (pss_one (ps_expr (pe_bm PySem.F.plainAttrs_list PySem.F.slot_list_append PySem.F.type_list_append mt_append (pv 2) (pa_cons (pe_op op_cat (pe_op op_cat (pe_slice sl_list (pv 1) po_none (po_some (pv 4))) (pe_lst (pa_cons (pe_op op_cat (pe_lst (pa_cons (pe_cmpR op_eq (pe_ix ix_list (pv 3) pe_int (fun _ _ => rfl)) pe_int (nomark _)) pa_nil)) (pe_slice sl_list (pv 3) (po_some pe_int) po_none)) pa_nil))) (pe_slice sl_list (pv 1) (po_some (pe_op op_add (pv 4) pe_int)) po_none)) pa_nil)))) pss_nil))))
      (pss_cons (ps_if (pt_cmpR (op_neD hr.units) (pe_ix ix_tup (pv 0) pe_int (fun _ _ => rfl)) (pe_lst pa_nil) (nomark _)) (pss_cons (ps_set (i := 4) scNoP.nd rfl (.inl rfl) (pe_ix ix_tup (pe_ix ix_list (pe_ix ix_tup (pv 0) pe_int (fun _ _ => rfl)) pe_int (fun _ _ => rfl)) pe_int (fun _ _ => rfl)))
      (pss_one (ps_for PassesOwn.never rfl (pi_list (pe_lst (pa_cons pe_non (pa_cons pe_str (pa_cons (pe_lst (pa_cons pe_int pa_nil)) (pa_cons (pe_tup (pa_cons pe_int pa_nil)) pa_nil)))))) (pg_name (i := 5) scNoP.nd rfl (Or.inl rfl))
      (pss_one (ps_expr (pe_bm PySem.F.plainAttrs_list PySem.F.slot_list_append PySem.F.type_list_append mt_append (pv 2) (pa_cons (pe_op op_cat (pe_op op_cat (pe_slice sl_list (pv 1) po_none (po_some (pv 4))) (pe_lst (pa_cons (pe_op op_cat (pe_lst (pa_cons (pv 5) pa_nil)) (pe_slice sl_list (pe_ix ix_list (pv 1) (pv 4) (fun _ _ => rfl)) (po_some pe_int) po_none)) pa_nil))) (pe_slice sl_list (pv 1) (po_some (pe_op op_add (pv 4) pe_int)) po_none)) pa_nil))))))) pss_nil)
      (pss_one (ps_ret (pv 2))))))))), ?_⟩
    obtain ⟨ge, xs, hg1, hg2, hp, hd0⟩ := hg.pairs
    have ok := T.ok
    have few := ok.few
    have n40 := ok.n40
    have n1 := ok.n1
    have xl := hp.length
    have al := ra.len
    have rl : (rowsD n tn).length = n := rowsD_len
    have cr : ∀ {lo hi : Option Int}, (cutL (rowsD n tn) lo hi).length ≤ 40 := fun {lo hi} => by
      have := cutL_length (xs := rowsD n tn) (lo := lo) (hi := hi)
      omega
    have c1 : ∀ x : PyData, (rowsD n tn).length + [x].length ≤ 10000 := fun x => by
      show _ + 1 ≤ 10000
      omega
    have c2 : ∀ {lo hi : Option Int} (x : PyData), (cutL (rowsD n tn) lo hi).length + [x].length ≤ 10000 := fun {lo hi} x => by
      have := cr (lo := lo) (hi := hi)
      show _ + 1 ≤ 10000
      omega
    have c4 : ∀ {lo hi lo' hi' : Option Int} (x : PyData), (cutL (rowsD n tn) lo hi ++ [x]).length + (cutL (rowsD n tn) lo' hi').length ≤ 10000 := fun {lo hi lo' hi'} x => by
      have := cr (lo := lo) (hi := hi)
      have := cr (lo := lo') (hi := hi')
      rw [List.length_append]
      show _ + 1 + _ ≤ 10000
      omega
    have cn : ∀ {i : Nat} {lo hi : Option Int}, (cutL (natsD (tn i)) lo hi).length ≤ 60 := fun {i lo hi} => cut_len T i
    have n2 : ∀ {i : Nat} {lo hi : Option Int} (x : PyData), (cutL (natsD (tn i)) lo hi).length + [x].length ≤ 10000 := fun {i lo hi} x => by
      have := cn (i := i) (lo := lo) (hi := hi)
      show _ + 1 ≤ 10000
      omega
    have n3 : ∀ {i : Nat} {lo hi lo' hi' : Option Int}, (cutL (natsD (tn i)) lo hi).length + (cutL (natsD (tn i)) lo' hi').length ≤ 10000 := fun {i lo hi lo' hi'} => by
      have := cn (i := i) (lo := lo) (hi := hi)
      have := cn (i := i) (lo := lo') (hi := hi')
      omega
    have n4 : ∀ {i : Nat} {lo hi : Option Int} (x : PyData), [x].length + (cutL (natsD (tn i)) lo hi).length ≤ 10000 := fun {i lo hi} x => by
      have := cn (i := i) (lo := lo) (hi := hi)
      show 1 + _ ≤ 10000
      omega
    have n5 : ∀ {i : Nat} (x : PyData), (natsD (tn i)).length + [x].length ≤ 10000 := fun {i} x => by
      rw [natsD_len]
      have := T.len i
      show _ + 1 ≤ 10000
      omega
    -- what the rows are, later
    have rowV : ∀ {M : List Addr} {G : Hp}, Ex (hds L H) (hds M G) → ∀ i : Nat, i < n → ∃ c, as[i]? = some c ∧ (hds M G) c = some (.lst (nats (tn i))) := fun up i hi => by
      obtain ⟨c, hc⟩ : ∃ c, as[i]? = some c := ⟨_, List.getElem?_eq_getElem (by omega)⟩
      exact ⟨c, hc, up _ _ (ra.at' i c hc)⟩
    have topD : ∀ {M : List Addr} {G : Hp}, Ex (hds L H) (hds M G) → Dt (hds M G) (.ref t) (.list (rowsD n tn)) := fun up => rows_dt (up _ _ ra.top) al fun i c h => up _ _ (ra.at' i c h)
    have topS : ∀ {M : List Addr} {G : Hp}, Ex (hds L H) (hds M G) → Dts (hds M G) (as.map V.ref) (rowsD n tn) := fun up => by
      cases topD up with
      | lst ha hs =>
        rw [up _ _ ra.top] at ha
        cases ha
        exact hs
    have up0 : Ex (hds L H) (hds L H) := Ex.refl _
    refine q_grow0 (R := BT n es) st0 (ela_lst (n := 8) (eks_cons kp_up (ek_x x_non (bt_dec (by decide +kernel) rfl))
        (eks_cons kp_up (ek_x x_int (bt_dec (by decide +kernel) rfl))
        (eks_cons kp_up (ek_x x_str (bt_dec (by decide +kernel) rfl))
        (eks_cons kp_up (ek_x x_bl (bt_dec (by decide +kernel) rfl))
        (eks_cons kp_up (ek_x (x_tof st0 (x_of (ev_var (i := 1) rfl) (topD up0))) T.tup)
        (eks_cons kp_up (ek_x (x_cat st0 (x_of (ev_var (i := 1) rfl) (topD up0)) (x_lst st0 (xs_cons (x_lst st0 xs_nil (Nat.le_of_ble_eq_true rfl)) xs_nil) (Nat.le_of_ble_eq_true rfl)) (c1 _)) (T.more (rowk_list (ds := []) (fun _ h => nomatch h) (by decide))))
        (eks_cons kp_up (ek_x (x_sl st0 (ev_var (i := 1) rfl) eo_none (eo_some (ev_un ev_c ru_neg)) (hds_of ra.top).2 (topS up0)) T.less)
        (eks_cons kp_up (ek_x (x_rep (k := n) st0 (x_lst st0 (xs_cons x_non xs_nil) (Nat.le_of_ble_eq_true rfl)) (ev_op (ev_var (i := 0) rfl) ev_c (rv_ixT (st_of (hds_of hg1).2) (atI_nat (j := 0) rfl))) (by omega) (by decide)) (T.all (rowk_leaf (kd_of (by decide +kernel)) trivial) rfl))
        eks_nil)))))))) (by decide)) fun F1 H1 k1 => ?_
    -- the rows as tuples
    have tupX : EvX (F1 :: L) (.list ((List.range n).map fun i => PyData.tuple (natsD (tn i)))) (tLc (iList K (tVar 1)) (gName 3) tYes (tCB (fun xs H Q => ∃ p ys, xs = [V.ref p] ∧ ((SqL K H p ys ∧ ∀ l, H l = none → Q (.ref l) (L2.upd H l (.tup ys))) ∨ (SqT K H p ys ∧ Q (.ref p) H))) (tCons (tVar 3) tNil)) [3]) [some (.ref g), some (.ref t), some (.ref F1), none, none, none] H1 := fun H2 e2 Q' q' => by
      have up2 := k1.up.trans (hds_ex e2)
      have st2 := k1.col.st.ex e2
      refine ⟨.ref t, rfl, t, rfl, ⟨_, sq_of (hds_of (up2 _ _ ra.top)).2⟩, fun Dl hDl => ?_⟩
      refine lc_list (xs := as.map V.ref) (fun i Hh => Ex H2 Hh ∧ ∃ ws, Hh Dl = some (.lst ws) ∧ Dts (hds (Dl :: F1 :: L) Hh) ws ((List.range i).map fun i => PyData.tuple (natsD (tn i))) ∧ i ≤ n) ⟨Ex.new hDl, [], upd_same, .nil, Nat.zero_le _⟩ (fun i Hh _ p => sq_of ((up2.trans (hds_ex p.1)) _ _ ra.top |> hds_of |>.2)) ?_ ?_
      · rintro i x Hh hx ⟨x3, ws, hws, dw, il⟩
        have i2 := (List.getElem?_eq_some_iff.mp hx).1
        rw [List.length_map, al] at i2
        obtain ⟨c, hc, hrow⟩ := rowV (up2.trans (hds_ex x3)) _ i2
        rw [List.getElem?_map, hc] at hx
        cases hx
        have wl := dw.length
        rw [List.length_map, List.length_range] at wl
        refine ⟨rfl, ?_⟩
        dsimp only [tYes]
        rw [if_pos rfl]
        refine ⟨.ref c, rfl, c, _, rfl, .inl ⟨sq_of (hds_of hrow).2, fun b hb => ?_⟩⟩
        have eb := Ex.new (o := .tup (nats (tn i))) hb
        refine ⟨ws, eb _ _ hws, sz_lt (by omega), (x3.trans eb).mut hDl, ws ++ [.ref b], upd_same, ?_, by omega⟩
        rw [hds_upd List.mem_cons_self, List.range_succ, List.map_append]
        refine (dw.same (same_ex (hds_ex eb))).app (.cons (.tup ?_ (dts_nats _)) .nil)
        rw [hds_ne fun hm => (List.mem_cons.mp hm).elim (fun z => by rw [z, hws] at hb; cases hb) fun hm => by
          obtain ⟨o, ho⟩ := (st2.ex x3) b hm
          rw [hb] at ho
          cases ho]
        exact upd_same
      · rintro Hh ⟨x3, ws, hws, dw, _⟩
        rw [List.length_map, al] at dw
        exact q' _ Hh x3 (.lst (by rw [hds_ne (st2.out hDl)]; exact hws) (dw.same (same_ex (hds_less fun b hb => List.mem_cons_of_mem _ hb))))
    refine q_growA (R := BT n es) k1 (ev_var rfl) tupX T.tups (by decide) fun H2 k2 _ => ?_
    obtain ⟨cl, hcl, hrowl⟩ := rowV k2.up _ (show n - 1 < n by omega)
    have htop2 := (hds_of (k2.up _ _ ra.top)).2
    have hlast : atI (as.map V.ref) (-1) = some (.ref cl) := by
      unfold atI
      have : ixN (as.map V.ref).length (-1) = some (n - 1) := by
        unfold ixN
        rw [List.length_map, al, if_neg (by decide), if_pos (by omega)]
        congr 1
        omega
      rw [this]
      show (as.map V.ref)[n - 1]? = _
      rw [List.getElem?_map, hcl]
      rfl
    have hrl : Dt (hds (F1 :: L) H2) (.ref cl) (.list (natsD (tn (n - 1)))) := .lst hrowl (dts_nats _)
    have hg2n := (hds_of (k2.up _ _ hg1)).2
    refine q_grow (R := BT n es) k2 (ev_var rfl) (elk_lst (n := 3) kp_up (eks_cons kp_up (ek_x (x_cat k2.col.st (x_sl k2.col.st (ev_var (i := 1) rfl) eo_none (eo_some (ev_un ev_c ru_neg)) htop2 (topS k2.up)) (x_lst k2.col.st (xs_cons (x_cat k2.col.st (x_of (ev_op (ev_var (i := 1) rfl) (ev_un ev_c ru_neg) (rv_ixL (sq_of htop2) hlast)) hrl) (x_lst k2.col.st (xs_cons (x_of (ev_op (ev_var (i := 0) rfl) ev_c (rv_ixT (st_of hg2n) (atI_nat (j := 0) rfl))) (.int _)) xs_nil) (Nat.le_of_ble_eq_true rfl)) (n5 _)) xs_nil) (Nat.le_of_ble_eq_true rfl)) (c2 _)) (T.last (T.fullK _ (kd_int6 (by omega))) (turn_mem (List.mem_append_right _ List.mem_cons_self) (pos_self n))))
        (eks_cons kp_up (ek_x (x_cat k2.col.st (x_sl k2.col.st (ev_var (i := 1) rfl) eo_none (eo_some (ev_un ev_c ru_neg)) htop2 (topS k2.up)) (x_lst k2.col.st (xs_cons (x_cat k2.col.st (x_of (ev_op (ev_var (i := 1) rfl) (ev_un ev_c ru_neg) (rv_ixL (sq_of htop2) hlast)) hrl) (x_lst k2.col.st (xs_cons x_bl xs_nil) (Nat.le_of_ble_eq_true rfl)) (n5 _)) xs_nil) (Nat.le_of_ble_eq_true rfl)) (c2 _)) (T.last (T.fullK _ (kd_bl6 _)) (turn_mem (List.mem_append_right _ List.mem_cons_self) rfl)))
        (eks_cons kp_up (ek_x (x_rep (k := n) k2.col.st (x_lst k2.col.st (xs_cons (x_lst k2.col.st (xs_cons x_int xs_nil) (Nat.le_of_ble_eq_true rfl)) xs_nil) (Nat.le_of_ble_eq_true rfl)) (ev_op (ev_var (i := 0) rfl) ev_c (rv_ixT (st_of hg2n) (atI_nat (j := 0) rfl))) (by omega) (by decide)) (T.all (rowk_list (ds := [.int 0]) (fun d hd => by rw [List.mem_singleton.mp hd]; exact kd_of (by decide +kernel)) (by decide)) T.zero_no))
        eks_nil))) (by decide)) (by decide) fun F3 H3 e3 k3 => ?_
    -- an edge's low end
    have edge : es ≠ [] → ∃ a b tt, a < n ∧ adj es a ≠ [] ∧ xs[0]? = some (.ref tt) ∧ (hds L H) tt = some (.tup [.int (a : Int), .int (b : Int)]) := fun ne => by
      have pos := List.length_pos_iff.mpr ne
      have h0 : xs[0]? = some xs[0] := List.getElem?_eq_getElem (show 0 < xs.length by omega)
      obtain ⟨⟨a, b⟩, he, tt, hte, htt⟩ := hp.get h0
      rw [hte] at h0
      have mem := List.mem_of_getElem? he
      have inn : a < b ∧ b < n := ok.edges.inn (a, b) mem
      exact ⟨a, b, tt, by omega, adj_low ok.edges.inn mem, h0, htt⟩
    refine q_ifD (fun σ' H' => ∃ y4, Grow (BT n es) L H (F3 :: F1 :: L) F3 11 14 H' ∧ σ' = [some (.ref g), some (.ref t), some (.ref F3), none, y4, none]) (fun D' hD' => ?_) ?_
    · refine s_when (b := !decide (es.map Os.prD = [])) (et_test (ne_nilV (ev_op (ev_var rfl) ev_c (rv_ixT (st_of (hds_of (k3.up _ _ hg1)).2) (atI_nat (j := 1) rfl))) (k3.ex _ _ (hds_of hg2).2) (((hp.ex k3.up).ex hds_up).dts) (sh_prs es) (by decide))) (fun hb H4 e4 => ?_) (fun _ H4 e4 => hD' _ _ ⟨_, (k3.on e4).wide (by decide) (by decide), rfl⟩)
      obtain ⟨a, b, tt, an, ane, htt, hta⟩ := edge fun z => by
        rw [z] at hb
        cases hb
      have k4 := k3.on e4
      refine q_asg (v := .int (a : Int)) (ev_op (ev_op (ev_op (ev_var rfl) ev_c (rv_ixT (st_of (hds_of (k4.up _ _ hg1)).2) (atI_nat (j := 1) rfl))) ev_c (rv_ixL (sq_of (k4.ex _ _ (hds_of hg2).2)) (atI_nat (j := 0) htt))) ev_c (rv_ixT (st_of (hds_of (k4.up _ _ hta)).2) (atI_nat (j := 0) rfl))) fun H5 e5 => ?_
      have k5 := k4.on e5
      obtain ⟨c, hc, hrow⟩ := rowV k5.up _ an
      have hrc := (hds_of hrow).2
      have htop := (hds_of (k5.up _ _ ra.top)).2
      have hcm : (as.map V.ref)[a]? = some (.ref c) := by rw [List.getElem?_map, hc]; rfl
      refine q_growA (R := BT n es) k5 (ev_var rfl) (x_cat k5.col.st (x_cat k5.col.st (x_sl k5.col.st (ev_var (i := 1) rfl) eo_none (eo_some (ev_var (i := 4) rfl)) htop (topS k5.up)) (x_lst k5.col.st (xs_cons (x_sl k5.col.st (ev_op (ev_var (i := 1) rfl) (ev_var (i := 4) rfl) (rv_ixL (sq_of htop) (atI_nat hcm))) (eo_some ev_c) eo_none hrc (dts_nats _)) xs_nil) (Nat.le_of_ble_eq_true rfl)) (c2 _)) (x_sl k5.col.st (ev_var (i := 1) rfl) (eo_some (ev_op (ev_var (i := 4) rfl) ev_c rv_I0)) eo_none htop (topS k5.up)) (c4 _)) (T.put an (rowk_list (kd_cutn T a) (by have := cut_len T a (lo := some 1) (hi := none); omega)) (T.tail_no a ane)) (by decide) fun H6 k6 _ => ?_
      obtain ⟨c6, hc6, hrow6⟩ := rowV k6.up _ an
      have hrc6 := (hds_of hrow6).2
      have htop6 := (hds_of (k6.up _ _ ra.top)).2
      have hcm6 : (as.map V.ref)[a]? = some (.ref c6) := by rw [List.getElem?_map, hc6]; rfl
      exact s_growA (R := BT n es) k6 (ev_var rfl) (x_cat k6.col.st (x_cat k6.col.st (x_sl k6.col.st (ev_var (i := 1) rfl) eo_none (eo_some (ev_var (i := 4) rfl)) htop6 (topS k6.up)) (x_lst k6.col.st (xs_cons (x_rep (k := 2) k6.col.st (x_of (ev_op (ev_var (i := 1) rfl) (ev_var (i := 4) rfl) (rv_ixL (sq_of htop6) (atI_nat hcm6))) (.lst hrow6 (dts_nats _))) ev_c (by decide) (by rw [natsD_len]; have := T.len a; omega)) xs_nil) (Nat.le_of_ble_eq_true rfl)) (c2 _)) (x_sl k6.col.st (ev_var (i := 1) rfl) (eo_some (ev_op (ev_var (i := 4) rfl) ev_c rv_I0)) eo_none htop6 (topS k6.up)) (c4 _)) (T.put an (T.twoK a) (T.two_no a ane)) (by decide) fun H7 k7 _ => hD' _ _ ⟨_, k7.wide (by decide) (by decide), rfl⟩
    rintro σ' H7 ⟨y4, k7, rfl⟩
    -- each row
    refine q_forEV (a := t) (xs := as.map V.ref) (ev_var rfl) (sq_of (hds_of (k7.up _ _ ra.top)).2) (fun i σ' H' => i ≤ n ∧ ∃ y3 y4, Grow (BT n es) L H (F3 :: F1 :: L) F3 11 (14 + 3 * i) H' ∧ σ' = [some (.ref g), some (.ref t), some (.ref F3), y3, y4, none]) (fun H8 e8 => ⟨by omega, _, _, k7.on e8, rfl⟩) (fun i σ' H' h => by
      obtain ⟨_, _, _, k, _⟩ := h
      exact sq_of (hds_of (k.up _ _ ra.top)).2) ?_ ?_
    · rintro i x σ' H8 H9 hx ⟨_, y3, y4, k8, rfl⟩ e9
      have i2 := (List.getElem?_eq_some_iff.mp hx).1
      rw [List.length_map, al] at i2
      have k9 := k8.on e9
      obtain ⟨c, hc, hrow⟩ := rowV k9.up _ i2
      rw [List.getElem?_map, hc] at hx
      cases hx
      have hrc := (hds_of hrow).2
      have htop := (hds_of (k9.up _ _ ra.top)).2
      have nl : (nats (tn i)).length = (tn i).length := List.length_map ..
      refine q_ifD (fun σ' H' => Grow (BT n es) L H (F3 :: F1 :: L) F3 11 (16 + 3 * i) H' ∧ σ' = [some (.ref g), some (.ref t), some (.ref F3), some (.ref c), some (.int (i : Int)), none]) (fun D' hD' => ?_) ?_
      · refine s_when (b := decide (((nats (tn i)).length : Int) > 1)) (et_test (ev_op (ev_len (ev_var rfl) (sq_of hrc)) ev_c rv_I0)) (fun hb H10 e10 => ?_) (fun _ H10 e10 => hD' _ _ ⟨(k9.on e10).wide (by omega) (by omega), rfl⟩)
        have l2 : 2 ≤ (tn i).length := by
          have := of_decide_eq_true hb
          omega
        have k10 := k9.on e10
        have hrc10 := e10 _ _ hrc
        have htop10 := e10 _ _ htop
        refine q_growA (R := BT n es) k10 (ev_var rfl) (x_cat k10.col.st (x_cat k10.col.st (x_sl k10.col.st (ev_var (i := 1) rfl) eo_none (eo_some (ev_var (i := 4) rfl)) htop10 (topS k10.up)) (x_lst k10.col.st (xs_cons (x_cat k10.col.st (x_sl k10.col.st (ev_var (i := 3) rfl) eo_none (eo_some (ev_un ev_c ru_neg)) hrc10 (dts_nats _)) (x_sl k10.col.st (ev_var (i := 3) rfl) eo_none (eo_some ev_c) hrc10 (dts_nats _)) n3) xs_nil) (Nat.le_of_ble_eq_true rfl)) (c2 _)) (x_sl k10.col.st (ev_var (i := 1) rfl) (eo_some (ev_op (ev_var (i := 4) rfl) ev_c rv_I0)) eo_none htop10 (topS k10.up)) (c4 _)) (T.put i2 (T.ringK i) (T.ring_no i l2)) (by omega) fun H11 k11 _ => ?_
        have hrow11 := k11.up _ _ (ra.at' i c hc)
        have hrc11 := (hds_of hrow11).2
        have htop11 := (hds_of (k11.up _ _ ra.top)).2
        exact s_growA (R := BT n es) k11 (ev_var rfl) (x_cat k11.col.st (x_cat k11.col.st (x_sl k11.col.st (ev_var (i := 1) rfl) eo_none (eo_some (ev_var (i := 4) rfl)) htop11 (topS k11.up)) (x_lst k11.col.st (xs_cons (x_cat k11.col.st (x_sl k11.col.st (ev_var (i := 3) rfl) eo_none (eo_some (ev_un ev_c ru_neg)) hrc11 (dts_nats _)) (x_lst k11.col.st (xs_cons (x_of (ev_var (i := 4) rfl) (.int _)) xs_nil) (Nat.le_of_ble_eq_true rfl)) (n2 _)) xs_nil) (Nat.le_of_ble_eq_true rfl)) (c2 _)) (x_sl k11.col.st (ev_var (i := 1) rfl) (eo_some (ev_op (ev_var (i := 4) rfl) ev_c rv_I0)) eo_none htop11 (topS k11.up)) (c4 _)) (T.put i2 (T.endK i (kd_int6 (by omega))) (T.self_no i)) (by omega) fun H12 k12 _ => hD' _ _ ⟨k12.wide (by omega) (by omega), rfl⟩
      rintro σ' H10 ⟨k10, rfl⟩
      have hrc10 := (hds_of (k10.up _ _ (ra.at' i c hc))).2
      have htop10 := (hds_of (k10.up _ _ ra.top)).2
      refine s_andIf (b := !decide (natsD (tn i) = [])) (et_test (ne_nilV (ev_var rfl) hrc10 (dts_nats _) (sh_nats 0 _) (by decide))) (fun hb H11 e11 => ?_) (fun _ H11 e11 => ⟨by omega, _, _, (k10.on e11).wide (by omega) (by omega), rfl⟩)
      obtain ⟨x0, r0, er⟩ : ∃ x r, tn i = x :: r := by
        cases h : tn i with
        | nil => rw [h] at hb; cases hb
        | cons x r => exact ⟨x, r, rfl⟩
      have hat : atI (nats (tn i)) 0 = some (.int (x0 : Int)) := atI_nat (j := 0) (by rw [er]; rfl)
      have k11 := k10.on e11
      refine (et_test (ev_op (ev_op (ev_var rfl) ev_c (rv_ixL (sq_of (e11 _ _ hrc10)) hat)) ev_c rv_I0)) _ (Ex.refl _) _ fun H12 e12 => ?_
      have k12 := k11.on e12
      have hrc12 := (e11.trans e12) _ _ hrc10
      have htop12 := (e11.trans e12) _ _ htop10
      split
      · exact s_growA (R := BT n es) k12 (ev_var rfl) (x_cat k12.col.st (x_cat k12.col.st (x_sl k12.col.st (ev_var (i := 1) rfl) eo_none (eo_some (ev_var (i := 4) rfl)) htop12 (topS k12.up)) (x_lst k12.col.st (xs_cons (x_cat k12.col.st (x_lst k12.col.st (xs_cons (x_of (ev_op (ev_op (ev_var (i := 3) rfl) ev_c (rv_ixL (sq_of hrc12) hat)) ev_c (rv_eq rfl)) (.bl _)) xs_nil) (Nat.le_of_ble_eq_true rfl)) (x_sl k12.col.st (ev_var (i := 3) rfl) (eo_some ev_c) eo_none hrc12 (dts_nats _)) (n4 _)) xs_nil) (Nat.le_of_ble_eq_true rfl)) (c2 _)) (x_sl k12.col.st (ev_var (i := 1) rfl) (eo_some (ev_op (ev_var (i := 4) rfl) ev_c rv_I0)) eo_none htop12 (topS k12.up)) (c4 _)) (T.put i2 (T.begK i (kd_bl6 _)) (turn_mem (List.mem_append_left _ List.mem_cons_self) rfl)) (by omega) fun H13 k13 _ => ⟨by omega, _, _, k13.wide (by omega) (by omega), rfl⟩
      · exact ⟨by omega, _, _, k12.wide (by omega) (by omega), rfl⟩
    rintro σ' H8 ⟨_, y3, y4, k8, rfl⟩
    rw [List.length_map, al] at k8
    refine q_ifD (fun σ' H' => ∃ y4 y5, Grow (BT n es) L H (F3 :: F1 :: L) F3 11 140 H' ∧ σ' = [some (.ref g), some (.ref t), some (.ref F3), y3, y4, y5]) (fun D' hD' => ?_) ?_
    · refine s_when (b := !decide (es.map Os.prD = [])) (et_test (ne_nilV (ev_op (ev_var rfl) ev_c (rv_ixT (st_of (hds_of (k8.up _ _ hg1)).2) (atI_nat (j := 1) rfl))) (k8.ex _ _ (hds_of hg2).2) (((hp.ex k8.up).ex hds_up).dts) (sh_prs es) (by decide))) (fun hb H4 e4 => ?_) (fun _ H4 e4 => hD' _ _ ⟨_, _, (k8.on e4).wide (by omega) (by omega), rfl⟩)
      obtain ⟨a, b, tt, an, ane, htt, hta⟩ := edge fun z => by
        rw [z] at hb
        cases hb
      have k4 := k8.on e4
      refine q_asg (v := .int (a : Int)) (ev_op (ev_op (ev_op (ev_var rfl) ev_c (rv_ixT (st_of (hds_of (k4.up _ _ hg1)).2) (atI_nat (j := 1) rfl))) ev_c (rv_ixL (sq_of (k4.ex _ _ (hds_of hg2).2)) (atI_nat (j := 0) htt))) ev_c (rv_ixT (st_of (hds_of (k4.up _ _ hta)).2) (atI_nat (j := 0) rfl))) fun H5 e5 => ?_
      have k5 := k4.on e5
      have st5 := k5.col.st
      -- odd ones
      refine s_forLK (L := F3 :: F1 :: L) (R := KP fun d => Kd 6 1 d ∧ posB (n : Int) d = false) (elk_lst (n := 4) kp_up (eks_cons kp_up (ek_x x_non ⟨kd_of (by decide +kernel), rfl⟩)
        (eks_cons kp_up (ek_x (x_str (z := "0")) ⟨kd_of (by decide +kernel), rfl⟩)
        (eks_cons kp_up (ek_x (x_lst st5 (xs_cons (x_int (i := 0)) xs_nil) (Nat.le_of_ble_eq_true rfl)) ⟨kd_of (by decide +kernel), rfl⟩)
        (eks_cons kp_up (ek_x (x_tup st5 (xs_cons (x_int (i := 0)) xs_nil) (Nat.le_of_ble_eq_true rfl)) ⟨kd_of (by decide +kernel), rfl⟩)
        eks_nil)))) (by decide)) (fun Po os H6 j σ' H' => j ≤ 4 ∧ os.length ≤ 4 ∧ Po ∉ F3 :: F1 :: L ∧ (∀ x ∈ os, KP (fun d => Kd 6 1 d ∧ posB (n : Int) d = false) (hds (F3 :: F1 :: L) H6) x) ∧ (∃ y5, Grow (BT n es) L H (F3 :: F1 :: L) F3 11 (14 + 3 * n + j) H' ∧ σ' = [some (.ref g), some (.ref t), some (.ref F3), y3, some (.int (a : Int)), y5]) ∧ Ex (hds (F3 :: F1 :: L) H6) (hds (F3 :: F1 :: L) H') ∧ H' Po = some (.lst os))
        (fun Po os H6 hPo e6 hos l1 l2 hk => ⟨by omega, l2, st5.out hPo, hk, ⟨_, k5.on e6, rfl⟩, Ex.refl _, hos⟩) (fun Po os H6 j σ' H' _ h => sq_of h.2.2.2.2.2.2) ?_ ?_
      · rintro Po os H6 j x σ' H7 hx ⟨_, ol, nPo, hk, ⟨y5, k7, rfl⟩, u7, h7⟩
        have j2 := (List.getElem?_eq_some_iff.mp hx).1
        obtain ⟨d, dx, kd, pd⟩ := hk x (List.mem_of_getElem? hx)
        obtain ⟨c, hc, hrow⟩ := rowV k7.up _ an
        have hrc := (hds_of hrow).2
        have htop := (hds_of (k7.up _ _ ra.top)).2
        have hcm : (as.map V.ref)[a]? = some (.ref c) := by rw [List.getElem?_map, hc]; rfl
        exact s_growA (R := BT n es) k7 (ev_var rfl) (x_cat k7.col.st (x_cat k7.col.st (x_sl k7.col.st (ev_var (i := 1) rfl) eo_none (eo_some (ev_var (i := 4) rfl)) htop (topS k7.up)) (x_lst k7.col.st (xs_cons (x_cat k7.col.st (x_lst k7.col.st (xs_cons (x_of (ev_var (i := 5) rfl) (dx.same (same_ex u7))) xs_nil) (Nat.le_of_ble_eq_true rfl)) (x_sl k7.col.st (ev_op (ev_var (i := 1) rfl) (ev_var (i := 4) rfl) (rv_ixL (sq_of htop) (atI_nat hcm))) (eo_some ev_c) eo_none hrc (dts_nats _)) (n4 _)) xs_nil) (Nat.le_of_ble_eq_true rfl)) (c2 _)) (x_sl k7.col.st (ev_var (i := 1) rfl) (eo_some (ev_op (ev_var (i := 4) rfl) ev_c rv_I0)) eo_none htop (topS k7.up)) (c4 _)) (T.put an (T.begK a kd) (turn_mem (List.mem_append_left _ List.mem_cons_self) pd)) (by omega) fun H8 k8 u8 => ⟨by omega, ol, nPo, hk, ⟨_, k8.wide (by omega) (by omega), rfl⟩, u7.trans u8, (hds_of (u8 _ _ (by rw [hds_ne nPo]; exact h7))).2⟩
      · rintro Po os H6 σ' H7 ⟨_, ol, _, _, ⟨y5, k7, rfl⟩, _, _⟩
        exact hD' _ _ ⟨_, _, k7.wide (by omega) (by omega), rfl⟩
    rintro σ' H9 ⟨y4, y5, k9, rfl⟩
    refine s_ret (v := .ref F3) (ev_var rfl) fun H11 e11 => ?_
    obtain ⟨ys, a1, a2, a3, a4⟩ := (k9.on e11).fin
    exact q H11 F3 ys (k9.on e11).ex k9.fr a1 a2 a3 a4
end
end K15
namespace K15
open PySem PySem.Spec PyProof.Rows L2 Os Evl
abbrev sLaw : Stmt := topS 55
theorem scLaw : FnScope ["script", "k", "source", "graph", "perms", "labels", "wrong", "kept", "sequence", "cases", "door", "due", "bad", "others", "values", "value", "one", "two", "three"] ["script"] (defScope sLaw) := ⟨rfl, rfl, rfl, by decide +kernel, rfl, by decide +kernel, by decide +kernel⟩
theorem str_ofD {G : Hp} {zs : List Str} : ∀ {xs : List V}, Dts G xs (zs.map PyData.str) → xs = zs.map V.str := by
  induction zs with
  | nil =>
    intro xs h
    cases h
    rfl
  | cons z zs ih =>
    intro xs h
    cases h with
    | cons a c =>
      cases a
      rw [ih c]
      rfl
theorem arr_ofD {G : Hp} {v : V} {zs : List Str} (h : Dt G v (.list (zs.map PyData.str))) : ArrV G v zs := by
  cases h with
  | lst ha hs =>
    rw [str_ofD hs] at ha
    exact ⟨_, rfl, ha⟩
theorem hide_hds2 {s : Addr} {H : Hp} : Ex (hide s H) (hds [s] H) := fun b o h => by
  obtain ⟨n, e⟩ := hide_of h
  rw [hds_ne (by simpa using n)]
  exact e
def CaseV (cF cA cO cT : Addr) (G : Hp) (v : V) : Prop := ∃ (t : Addr) (d : Int) (a b c : V) (w : Str) (C : Option Addr), v = .ref t ∧ G t = some (.tup [.int d, a, b, c, .str w]) ∧ ErrR cF cA cO cT G a b c d C ∧ Told cF cA cO cT C w
theorem case_up {cF cA cO cT : Addr} : Up (CaseV cF cA cO cT) := fun _ _ _ e ⟨t, d, a, b, c, w, C, h1, h2, h3, h4⟩ => ⟨t, d, a, b, c, w, C, h1, e _ _ h2, h3.ex e, h4⟩
theorem case_tup {cF cA cO cT : Addr} {M : List Addr} {σ : L2.St} {H : Hp} {td ta tb tc tw : TE} {d : Int} {w : Str} {Ra Rb Rc : Hp → V → Prop} (st : Stn M H) (ua : Up Ra) (ub : Up Rb) (uc : Up Rc) (hd : Ev td σ H (.int d)) (ha : EvK M Ra ta σ H) (hb : EvK M Rb tb σ H) (hc : EvK M Rc tc σ H) (hw : Ev tw σ H (.str w))
    (imp : ∀ G a b c, Ra G a → Rb G b → Rc G c → ∃ C, ErrR cF cA cO cT G a b c d C ∧ Told cF cA cO cT C w) : EvK M (CaseV cF cA cO cT) (tTup (tCons td (tCons ta (tCons tb (tCons tc (tCons tw tNil)))))) σ H := fun H1 e Q q =>
  hd H1 e _ fun H2 e2 => ha H2 (e.trans e2) _ fun a H3 e3 ra => hb H3 ((e.trans e2).trans e3) _ fun b H4 e4 rb => hc H4 (((e.trans e2).trans e3).trans e4) _ fun c H5 e5 rc => hw H5 ((((e.trans e2).trans e3).trans e4).trans e5) _ fun H6 e6 => ⟨show 5 ≤ sizeLine by decide, fun p hp => by
    have ep := Ex.new (o := .tup [.int d, a, b, c, .str w]) hp
    have np := (st.ex (((((e.trans e2).trans e3).trans e4).trans e5).trans e6)).out hp
    obtain ⟨C, h1, h2⟩ := imp (hds M (L2.upd H6 p (.tup [.int d, a, b, c, .str w]))) a b c (ua _ _ _ (hds_ex (e4.trans (e5.trans (e6.trans ep)))) ra) (ub _ _ _ (hds_ex (e5.trans (e6.trans ep))) rb) (uc _ _ _ (hds_ex (e6.trans ep)) rc)
    exact q _ _ (e2.trans (e3.trans (e4.trans (e5.trans (e6.trans ep))))) ⟨p, d, a, b, c, w, C, rfl, by rw [hds_ne np]; exact upd_same, h1, h2⟩⟩
/-- what stands -/
structure Fx (gA tA laA wrA p0 p1 p2 p3 : Addr) (n : Nat) (es : List Pr) (as : List Addr) (tn : Nat → List Nat) (zs : List Str) (x0 x1 x2 x3 : List V) (D0 : List PyData) (G : Hp) : Prop where
  g : GraphV G (.ref gA) n es
  t : RowsAt G tA as n tn
  l : G laA = some (.lst (zs.map V.str))
  w : G wrA = some (.lst [.ref p0, .ref p1, .ref p2, .ref p3])
  h0 : G p0 = some (.lst x0)
  h1 : G p1 = some (.lst x1)
  h2 : G p2 = some (.lst x2)
  h3 : G p3 = some (.lst x3)
  k0 : ∀ x ∈ x0, KP BG G x
  k1 : ∀ x ∈ x1, KP (BR n) G x
  k2 : ∀ x ∈ x2, KP (BS es) G x
  k3 : ∀ x ∈ x3, KP (BT n es) G x
  d : Dts G [.ref gA, .ref tA, .ref laA, .ref wrA] D0
/-- .. and an order -/
structure Fy (gA tA laA wrA p0 p1 p2 p3 sq : Addr) (n : Nat) (es os : List Pr) (as : List Addr) (tn : Nat → List Nat) (zs : List Str) (x0 x1 x2 x3 : List V) (D0 : List PyData) (G : Hp) : Prop where
  x : Fx gA tA laA wrA p0 p1 p2 p3 n es as tn zs x0 x1 x2 x3 D0 G
  o : OrdV G (.ref sq) os
section
variable {g t la wr p0 p1 p2 p3 : Addr} {n : Nat} {es : List Pr} {as : List Addr} {tn : Nat → List Nat} {zs : List Str} {x0 x1 x2 x3 : List V} {D0 : List PyData}
theorem fx_up : ∀ G G', Ex G G' → Fx g t la wr p0 p1 p2 p3 n es as tn zs x0 x1 x2 x3 D0 G → Fx g t la wr p0 p1 p2 p3 n es as tn zs x0 x1 x2 x3 D0 G' := fun G G' e h =>
  ⟨h.g.ex e, h.t.ex e, e _ _ h.l, e _ _ h.w, e _ _ h.h0, e _ _ h.h1, e _ _ h.h2, e _ _ h.h3, fun x hx => kp_up _ _ _ e (h.k0 x hx), fun x hx => kp_up _ _ _ e (h.k1 x hx), fun x hx => kp_up _ _ _ e (h.k2 x hx), fun x hx => kp_up _ _ _ e (h.k3 x hx), h.d.same (same_ex e)⟩
end
theorem fy_up {g t la wr p0 p1 p2 p3 sq : Addr} {n : Nat} {es os : List Pr} {as : List Addr} {tn : Nat → List Nat} {zs : List Str} {x0 x1 x2 x3 : List V} {D0 : List PyData} : ∀ G G', Ex G G' → Fy g t la wr p0 p1 p2 p3 sq n es os as tn zs x0 x1 x2 x3 D0 G → Fy g t la wr p0 p1 p2 p3 sq n es os as tn zs x0 x1 x2 x3 D0 G' := fun _ _ e h => ⟨fx_up _ _ e h.x, h.o.ex e⟩
theorem up_eq {P : Hp → Prop} (h : ∀ G G', Ex G G' → P G → P G') (a : V) : Up fun G v => v = a ∧ P G := fun _ _ _ e ⟨h1, h2⟩ => ⟨h1, h _ _ e h2⟩
theorem up_any : Up fun (_ : Hp) (_ : V) => True := fun _ _ _ _ _ => trivial
theorem for2 : IsForest 2 [(0, 1)] := ⟨forB_edges (by decide +kernel), by decide, by decide, by decide⟩
theorem arr2 : ArrOk ["a", "b"] 2 := ⟨rfl, by decide +kernel, by decide +kernel⟩
abbrev dA : PyData := .tuple [.int 2, .list [.tuple [.int 0, .int 1]]]
abbrev dB : PyData := .list [.str "a", .str "b"]
abbrev dC : PyData := .list [.list [.bool true], .list [.bool false]]
def DueR (G : Hp) (v : V) : Prop := ∃ (t : Addr) (d : Int) (w : Str), v = .ref t ∧ G t = some (.tup [.int d, .str w]) ∧ ((d = 0 ∧ w = "none") ∨ (d = 2 ∧ w = "turns") ∨ (d = 3 ∧ w = "turns"))
theorem due_up : Up DueR := fun _ _ _ e ⟨t, d, w, h1, h2, h3⟩ => ⟨t, d, w, h1, e _ _ h2, h3⟩
theorem due_tup {M : List Addr} {σ : L2.St} {H : Hp} {d : Int} {w : Str} (st : Stn M H) (h : (d = 0 ∧ w = "none") ∨ (d = 2 ∧ w = "turns") ∨ (d = 3 ∧ w = "turns")) : EvK M DueR (tTup (tCons (tC (.int d)) (tCons (tC (.str w)) tNil))) σ H := fun H1 e Q q => ⟨show 2 ≤ sizeLine by decide, fun p hp => by
  have np := (st.ex e).out hp
  exact q _ _ (Ex.new hp) ⟨p, d, w, rfl, by rw [hds_ne np]; exact upd_same, h⟩⟩
section
variable {P : Program} {w : World} {K : PySem.W.Frag} {mg : Str → Option Value} {base : Heap}
def spLaw (K : PySem.W.Frag) : Sp := fun vs H Q _ => ∃ (a : Addr) (ns : List Int), vs = [.ref a] ∧ SqL K H a (ns.map V.int) ∧ ns.length ≤ 63 ∧ ∀ H', Q (.bl true) H'
theorem ok_law {f fSO fGR fD fPE fLA fNG fNL fNS fNP fSH fER : Addr} {fd fdSO fdGR fdD fdPE fdLA fdNG fdNL fdNS fdNP fdSH fdER : FuncData} {k : Nat} {cF cA cO cT : Addr} (F : Fun K "law" "law" sLaw f fd)
    (GSO : FnOk P w K mg base CX0 k fSO fdSO ["script", "k"] (spSource K)) (FSO : Fun K "_law_source" "_law_source" sSource fSO fdSO) (bSO : Binds K fdSO ["script", "k"] []) (gSO : mg "_law_source" = some (.ref fSO))
    (GGR : FnOk P w K mg base CX0 k fGR fdGR ["source", "most"] spGraph) (FGR : Fun K "_law_graph" "_law_graph" sGraph fGR fdGR) (bGR : Binds K fdGR ["source", "most"] []) (gGR : mg "_law_graph" = some (.ref fGR))
    (GD : FnOk P w K mg base CX0 k fD fdD ["source", "wide"] spPick) (FD : Fun K "_law_pick" "_law_pick" sPick fD fdD) (bD : Binds K fdD ["source", "wide"] []) (gD : mg "_law_pick" = some (.ref fD))
    (GPE : FnOk P w K mg base CX0 k fPE fdPE ["source", "graph"] spPerms) (FPE : Fun K "_law_perms" "_law_perms" sPerms fPE fdPE) (bPE : Binds K fdPE ["source", "graph"] []) (gPE : mg "_law_perms" = some (.ref fPE))
    (GLA : FnOk P w K mg base CX0 k fLA fdLA ["source", "size"] spLabels) (FLA : Fun K "_law_labels" "_law_labels" sLabels fLA fdLA) (bLA : Binds K fdLA ["source", "size"] []) (gLA : mg "_law_labels" = some (.ref fLA))
    (GNG : FnOk P w K mg base CX0 k fNG fdNG [] spNoG) (FNG : Fun K "_law_no_graphs" "_law_no_graphs" sNoG fNG fdNG) (bNG : Binds K fdNG [] []) (gNG : mg "_law_no_graphs" = some (.ref fNG))
    (GNL : FnOk P w K mg base CX0 k fNL fdNL ["labels"] spNoL) (FNL : Fun K "_law_no_labels" "_law_no_labels" sNoL fNL fdNL) (bNL : Binds K fdNL ["labels"] []) (gNL : mg "_law_no_labels" = some (.ref fNL))
    (GNS : FnOk P w K mg base CX0 k fNS fdNS ["graph"] spNoS) (FNS : Fun K "_law_no_sequences" "_law_no_sequences" sNoS fNS fdNS) (bNS : Binds K fdNS ["graph"] []) (gNS : mg "_law_no_sequences" = some (.ref fNS))
    (GNP : FnOk P w K mg base CX0 k fNP fdNP ["graph", "lists"] spNoP) (FNP : Fun K "_law_no_perms" "_law_no_perms" sNoP fNP fdNP) (bNP : Binds K fdNP ["graph", "lists"] []) (gNP : mg "_law_no_perms" = some (.ref fNP))
    (GSH : FnOk P w K mg base CX0 k fSH fdSH ["source", "values"] spShuf) (FSH : Fun K "_law_shuffle" "_law_shuffle" sShuf fSH fdSH) (bSH : Binds K fdSH ["source", "values"] []) (gSH : mg "_law_shuffle" = some (.ref fSH))
    (GER : FnOk P w K mg base CX0 k fER fdER ["door", "graph", "labels", "value"] (spErr cF cA cO cT)) (FER : Fun K "_law_raised" "_law_raised" sErr fER fdER) (bER : Binds K fdER ["door", "graph", "labels", "value"] []) (gER : mg "_law_raised" = some (.ref fER))
    (mRange : mg "range" = none) (mRepr : mg "repr" = none) (mLen : mg "len" = none) : FnG P w K mg base (k + 1) f fd ["script"] (spLaw K) := by
  refine okG F scLaw (fun vs H Q E h => ?_) (fun cdv A outer s0 H vs Q E gd hr h => ?_)
  · obtain ⟨a, ns, rfl, _⟩ := h
    rfl
  · obtain ⟨sc, ns, rfl, hS, hlen, q⟩ := h
    refine ⟨_, (pss_cons (ps_for PassesOwn.never rfl (pi_range1 (by rfl) mRange (pa_cons pe_int pa_nil)) (pg_name (i := 1) scLaw.nd rfl (Or.inl rfl))
      (pss_cons (ps_set (i := 2) scLaw.nd rfl (.inl rfl) (pe_call GSO hr (by rfl) gSO FSO.kp bSO .nil pass0 (pa_cons (pv 0) (pa_cons (pv 1) pa_nil))))
      (pss_cons (ps_set (i := 3) scLaw.nd rfl (.inr rfl) (pe_call GGR hr (by rfl) gGR FGR.kp bGR .nil pass0 (pa_cons (pv 2) (pa_cons (pe_ix ix_list (pe_lst (pa_cons pe_int (pa_cons pe_int (pa_cons pe_int pa_nil)))) (pe_call GD hr (by rfl) gD FD.kp bD .nil pass0 (pa_cons (pv 2) (pa_cons pe_int pa_nil))) (fun _ _ => rfl)) pa_nil))))
      (pss_cons (ps_set (i := 4) scLaw.nd rfl (.inl rfl) (pe_call GPE hr (by rfl) gPE FPE.kp bPE .nil pass0 (pa_cons (pv 2) (pa_cons (pv 3) pa_nil))))
      (pss_cons (ps_set (i := 5) scLaw.nd rfl (.inr rfl) (pe_call GLA hr (by rfl) gLA FLA.kp bLA .nil pass0 (pa_cons (pv 2) (pa_cons (pe_ix ix_tup (pv 3) pe_int (fun _ _ => rfl)) pa_nil))))
      (pss_cons (ps_set (i := 6) scLaw.nd rfl (.inl rfl) (pe_lst (pa_cons (pe_call0 GNG hr (by rfl) gNG FNG.kp bNG .nil pass0) (pa_cons (pe_call GNL hr (by rfl) gNL FNL.kp bNL .nil pass0 (pa_cons (pv 5) pa_nil)) pa_nil))))
      (pss_cons (ps_set (i := 6) scLaw.nd rfl (.inl rfl) (pe_op op_cat (pv 6) (pe_lst (pa_cons (pe_call GNS hr (by rfl) gNS FNS.kp bNS .nil pass0 (pa_cons (pv 3) pa_nil)) (pa_cons (pe_call GNP hr (by rfl) gNP FNP.kp bNP .nil pass0 (pa_cons (pv 3) (pa_cons (pv 4) pa_nil))) pa_nil)))))
      (pss_cons (ps_set (i := 7) scLaw.nd rfl (.inl rfl) (pe_callB (call_repr gd hr.units) (by rfl) mRepr boot_repr (pa_cons (pe_lst (pa_cons (pv 3) (pa_cons (pv 4) (pa_cons (pv 5) (pa_cons (pv 6) pa_nil))))) pa_nil)))
      (pss_cons (ps_set (i := 8) scLaw.nd rfl (.inl rfl) (pe_call GSH hr (by rfl) gSH FSH.kp bSH .nil pass0 (pa_cons (pv 2) (pa_cons (pe_ix ix_tup (pv 3) pe_int (fun _ _ => rfl)) pa_nil))))
      (pss_cons (ps_set (i := 9) scLaw.nd rfl (.inl rfl) (pe_lst (pa_cons (pe_tup (pa_cons pe_int (pa_cons (pv 3) (pa_cons (pv 5) (pa_cons (pv 4) (pa_cons pe_str pa_nil)))))) (pa_cons (pe_tup (pa_cons pe_int (pa_cons (pv 3) (pa_cons (pv 5) (pa_cons (pv 8) (pa_cons pe_str pa_nil)))))) pa_nil))))
      (pss_cons (ps_set (i := 9) scLaw.nd rfl (.inl rfl) (pe_op op_cat (pv 9) (pe_lst (pa_cons (pe_tup (pa_cons pe_int (pa_cons (pv 3) (pa_cons (pv 5) (pa_cons (pv 4) (pa_cons pe_str pa_nil)))))) (pa_cons (pe_tup (pa_cons pe_int (pa_cons (pv 3) (pa_cons (pv 5) (pa_cons (pv 4) (pa_cons pe_str pa_nil)))))) pa_nil)))))
      (pss_cons (ps_for PassesOwn.never rfl (pi_list (pe_lst (pa_cons (pe_tup (pa_cons pe_int (pa_cons pe_str pa_nil))) (pa_cons (pe_tup (pa_cons pe_int (pa_cons pe_str pa_nil))) (pa_cons (pe_tup (pa_cons pe_int (pa_cons pe_str pa_nil))) pa_nil))))) (pg_tup rfl (pgs_cons (pg_name (i := 10) scLaw.nd rfl (Or.inl rfl)) (pgs_cons (pg_name (i := 11) scLaw.nd rfl (Or.inl rfl)) pgs_nil)))
      (pss_one (ps_expr (pe_bm PySem.F.plainAttrs_list PySem.F.slot_list_append PySem.F.type_list_append mt_append (pv 9) (pa_cons (pe_tup (pa_cons (pv 10) (pa_cons (pe_tup (pa_cons pe_int (pa_cons (pe_lst (pa_cons (pe_tup (pa_cons pe_int (pa_cons pe_int pa_nil))) pa_nil)) pa_nil))) (pa_cons (pe_lst (pa_cons pe_str (pa_cons pe_str pa_nil))) (pa_cons (pe_lst (pa_cons (pe_lst (pa_cons pe_bl pa_nil)) (pa_cons (pe_lst (pa_cons pe_bl pa_nil)) pa_nil))) (pa_cons (pv 11) pa_nil)))))) pa_nil)))))
      (pss_cons (ps_for PassesOwn.never rfl (pi_list (pe_ix ix_list (pv 6) pe_int (fun _ _ => rfl))) (pg_name (i := 12) scLaw.nd rfl (Or.inl rfl))
      (pss_cons (ps_set (i := 13) scLaw.nd rfl (.inl rfl) (pe_lst (pa_cons (pv 5) (pa_cons (pe_ix ix_list (pe_ix ix_list (pv 6) pe_int (fun _ _ => rfl)) (pe_call GD hr (by rfl) gD FD.kp bD .nil pass0 (pa_cons (pv 2) (pa_cons (pe_callB call_len_seq (by rfl) mLen boot_len (pa_cons (pe_ix ix_list (pv 6) pe_int (fun _ _ => rfl)) pa_nil)) pa_nil))) (fun _ _ => rfl)) pa_nil))))
      (pss_cons (ps_set (i := 14) scLaw.nd rfl (.inl rfl) (pe_lst (pa_cons (pv 4) (pa_cons (pe_ix ix_list (pe_ix ix_list (pv 6) pe_int (fun _ _ => rfl)) (pe_call GD hr (by rfl) gD FD.kp bD .nil pass0 (pa_cons (pv 2) (pa_cons (pe_callB call_len_seq (by rfl) mLen boot_len (pa_cons (pe_ix ix_list (pv 6) pe_int (fun _ _ => rfl)) pa_nil)) pa_nil))) (fun _ _ => rfl)) pa_nil))))
      (pss_one (ps_for PassesOwn.never rfl (pi_range1 (by rfl) mRange (pa_cons pe_int pa_nil)) (pg_name (i := 10) scLaw.nd rfl (Or.inl rfl))
      (pss_one (ps_expr (pe_bm PySem.F.plainAttrs_list PySem.F.slot_list_append PySem.F.type_list_append mt_append (pv 9) (pa_cons (pe_tup (pa_cons (pv 10) (pa_cons (pv 12) (pa_cons (pe_ix ix_list (pv 13) (pe_call GD hr (by rfl) gD FD.kp bD .nil pass0 (pa_cons (pv 2) (pa_cons pe_int pa_nil))) (fun _ _ => rfl)) (pa_cons (pe_ix ix_list (pv 14) (pe_call GD hr (by rfl) gD FD.kp bD .nil pass0 (pa_cons (pv 2) (pa_cons pe_int pa_nil))) (fun _ _ => rfl)) (pa_cons pe_str pa_nil)))))) pa_nil)))))))))
      (pss_cons (ps_for PassesOwn.never rfl (pi_list (pe_ix ix_list (pv 6) pe_int (fun _ _ => rfl))) (pg_name (i := 12) scLaw.nd rfl (Or.inl rfl))
      (pss_cons (ps_set (i := 15) scLaw.nd rfl (.inl rfl) (pe_ix ix_list (pe_ix ix_list (pv 6) pe_int (fun _ _ => rfl)) (pe_call GD hr (by rfl) gD FD.kp bD .nil pass0 (pa_cons (pv 2) (pa_cons (pe_callB call_len_seq (by rfl) mLen boot_len (pa_cons (pe_ix ix_list (pv 6) pe_int (fun _ _ => rfl)) pa_nil)) pa_nil))) (fun _ _ => rfl)))
      (pss_one (ps_set (i := 9) scLaw.nd rfl (.inl rfl) (pe_op op_cat (pv 9) (pe_lst (pa_cons (pe_tup (pa_cons pe_int (pa_cons (pv 3) (pa_cons (pv 12) (pa_cons (pv 15) (pa_cons pe_str pa_nil)))))) (pa_cons (pe_tup (pa_cons pe_int (pa_cons (pv 3) (pa_cons (pv 12) (pa_cons (pv 4) (pa_cons pe_str pa_nil)))))) pa_nil))))))))
      (pss_cons (ps_set (i := 9) scLaw.nd rfl (.inl rfl) (pe_op op_cat (pv 9) (pe_lc (own := [("bad", 12)]) (g := gName 12) (tt := tYes) (te := tTup (tCons (tC (.int 1)) (tCons (tVar 3) (tCons (tVar 5) (tCons (tVar 12) (tCons (tC (.str "order")) tNil)))))) rfl scLaw.nd (pi_list (pe_ix ix_list (pv 6) pe_int (fun _ _ => rfl))) (blkOk_by (N := ["script", "k", "source", "graph", "perms", "labels", "wrong", "kept", "sequence", "cases", "door", "due", "bad", "others", "values", "value", "one", "two", "three"]) (sc := defScope sLaw) (by decide +kernel)) (fun _ _ _ _ _ => pg_name (i := 12) scLaw.nd rfl (Or.inl rfl)) (fun _ _ _ _ _ => pts_nil) (fun _ _ _ _ _ => (pe_tup (pa_cons pe_int (pa_cons (pv 3) (pa_cons (pv 5) (pa_cons (pv 12) (pa_cons pe_str pa_nil))))))))))
      (pss_cons (ps_for PassesOwn.never rfl (pi_list (pe_ix ix_list (pv 6) pe_int (fun _ _ => rfl))) (pg_name (i := 12) scLaw.nd rfl (Or.inl rfl))
      (pss_cons (ps_set (i := 9) scLaw.nd rfl (.inl rfl) (pe_op op_cat (pv 9) (pe_lst (pa_cons (pe_tup (pa_cons pe_int (pa_cons (pv 3) (pa_cons (pv 5) (pa_cons (pv 12) (pa_cons pe_str pa_nil)))))) (pa_cons (pe_tup (pa_cons pe_int (pa_cons (pv 3) (pa_cons (pv 5) (pa_cons (pv 12) (pa_cons pe_str pa_nil)))))) pa_nil)))))
      (pss_one (ps_expr (pe_bm PySem.F.plainAttrs_list PySem.F.slot_list_append PySem.F.type_list_append mt_append (pv 9) (pa_cons (pe_tup (pa_cons pe_int (pa_cons (pv 3) (pa_cons (pv 5) (pa_cons (pv 12) (pa_cons pe_str pa_nil)))))) pa_nil))))))
      (pss_cons (ps_for PassesOwn.never rfl (pi_list (pv 9)) (pg_tup rfl (pgs_cons (pg_name (i := 10) scLaw.nd rfl (Or.inl rfl)) (pgs_cons (pg_name (i := 16) scLaw.nd rfl (Or.inl rfl)) (pgs_cons (pg_name (i := 17) scLaw.nd rfl (Or.inl rfl)) (pgs_cons (pg_name (i := 18) scLaw.nd rfl (Or.inl rfl)) (pgs_cons (pg_name (i := 11) scLaw.nd rfl (Or.inl rfl)) pgs_nil))))))
      (pss_one (ps_if (pt_cmpR op_ne (pe_call GER hr (by rfl) gER FER.kp bER .nil pass0 (pa_cons (pv 10) (pa_cons (pv 16) (pa_cons (pv 17) (pa_cons (pv 18) pa_nil))))) (pv 11) (nomark _)) pss_never pss_nil)))
      (pss_one (ps_if (pt_cmpR op_ne (pe_callB (call_repr gd hr.units) (by rfl) mRepr boot_repr (pa_cons (pe_lst (pa_cons (pv 3) (pa_cons (pv 4) (pa_cons (pv 5) (pa_cons (pv 6) pa_nil))))) pa_nil)) (pv 7) (nomark _)) pss_never pss_nil)))))))))))))))))))
      (pss_one (ps_ret pe_bl))), ?_⟩
    refine q_forR1 (n := 1) (ea_cons ev_c ea_nil) ⟨by decide, by decide⟩ (fun i σ' H' => (i = 0 → Ex H H') ∧ ∃ y1 y2 y3 y4 y5 y6 y7 y8 y9 y10 y11 y12 y13 y14 y15 y16 y17 y18, σ' = [some (.ref sc), y1, y2, y3, y4, y5, y6, y7, y8, y9, y10, y11, y12, y13, y14, y15, y16, y17, y18])
      (fun H1 e1 => ⟨fun _ => e1, _, _, _, _, _, _, _, _, _, _, _, _, _, _, _, _, _, _, rfl⟩) ?_ ?_
    · rintro i σ' H1 hi ⟨e1, y1, y2, y3, y4, y5, y6, y7, y8, y9, y10, y11, y12, y13, y14, y15, y16, y17, y18, rfl⟩
      have i0 : i = 0 := by omega
      have e1' := e1 i0
      subst i0
      have fin : ∀ H', ∀ z1 z2 z3 z4 z5 z6 z7 z8 z9 z10 z11 z12 z13 z14 z15 z16 z17 z18, ((0 + 1 = 0 → Ex H H') ∧ ∃ y1 y2 y3 y4 y5 y6 y7 y8 y9 y10 y11 y12 y13 y14 y15 y16 y17 y18, [some (V.ref sc), z1, z2, z3, z4, z5, z6, z7, z8, z9, z10, z11, z12, z13, z14, z15, z16, z17, z18] = [some (V.ref sc), y1, y2, y3, y4, y5, y6, y7, y8, y9, y10, y11, y12, y13, y14, y15, y16, y17, y18]) := fun H' z1 z2 z3 z4 z5 z6 z7 z8 z9 z10 z11 z12 z13 z14 z15 z16 z17 z18 => ⟨fun h => (by omega : False).elim, _, _, _, _, _, _, _, _, _, _, _, _, _, _, _, _, _, _, rfl⟩
      -- source
      refine ⟨.ref sc, rfl, .int ((0 : Nat) : Int), rfl, sc, ns, 0, rfl, ex_l e1' hS, by omega, fun H2 s e2 ns1 src => ?_⟩
      dsimp only [gName]
      have sm : s ∈ [s] := List.mem_cons_self
      -- graph
      refine ⟨.ref s, rfl, show 3 ≤ sizeLine by decide, fun ml hml => ?_⟩
      have em := Ex.new (o := .lst [V.int 8, .int 8, .int 40]) hml
      have nml : ml ≠ s := new_apart src.at hml
      refine ⟨.ref s, rfl, s, 3, 0, rfl, src.ex em, by omega, by decide, by decide, fun H3 r d3 r0 r1 => ?_⟩
      obtain ⟨r, rfl⟩ : ∃ a : Nat, r = (a : Int) := ⟨r.toNat, by omega⟩
      obtain ⟨mo, hmo, mo1, mo40⟩ : ∃ mo : Nat, ([V.int 8, .int 8, .int 40] : List V)[r]? = some (.int (mo : Int)) ∧ 1 ≤ mo ∧ mo ≤ 40 := by
        have h3 : r < 3 := by omega
        match r, h3 with
        | 0, _ => exact ⟨8, rfl, by decide, by decide⟩
        | 1, _ => exact ⟨8, rfl, by decide, by decide⟩
        | 2, _ => exact ⟨40, rfl, by decide, by decide⟩
      refine ⟨ml, _, (r : Int), .int (mo : Int), rfl, rfl, sq_of (d3.get nml upd_same), atI_nat hmo, ?_⟩
      refine ⟨s, mo, 0 + 1, rfl, mo1, mo40, d3.src, by omega, fun H4 gv n es d4 hg4 ok => ?_⟩
      dsimp only [gName]
      obtain ⟨g, ge, exs, rfl, hg1, hg2, hg3⟩ := hg4
      have few := ok.few
      have n1 := ok.n1
      have n40 := ok.n40
      have xl := hg3.length
      have gh4 : GraphV (hds [s] H4) (.ref g) n es := GraphV.ex ⟨g, ge, exs, rfl, hg1, hg2, hg3⟩ hide_hds2
      -- perms
      refine ⟨.ref s, rfl, .ref g, rfl, s, .ref g, n, 201, es, rfl, d4.src.mono (by omega), by omega, ⟨g, ge, exs, rfl, hg1, hg2, hg3⟩, ok, fun H5 t as tn d5 ht hts rw5 pm => ?_⟩
      dsimp only [gName]
      have T : Trn n es tn := ⟨ok, pm⟩
      have nts : t ≠ s := new_apart d4.src.at ht
      have hd1 : ∀ {a : Addr}, a ≠ s → a ∉ [s] := fun h => by simpa using h
      have hs4 : ∃ o, H4 s = some o := d4.src.at
      have ra5 : RowsAt (hds [s] H5) t as n tn := ⟨by rw [hds_ne (hd1 nts)]; exact hts, rw5.len, fun i c hc => by
        rw [hds_ne (hd1 (new_apart hs4 (rw5.new c (List.mem_of_getElem? hc))))]
        exact rw5.at' i c hc⟩
      have gh5 := gh4.ex (hds_drew d5 sm)
      obtain ⟨ge5, exs5, hg51, hg52, hp5, _⟩ := gh5.pairs
      -- labels
      refine ⟨.ref s, rfl, .ref g, rfl, g, _, 0, .int (n : Int), rfl, rfl, st_of (hds_of hg51).2, rfl, s, n, 201 + 2400, rfl, d5.src, n40, by omega, fun H6 la zs d6 hla hlz ao => ?_⟩
      dsimp only [gName]
      have nlas : la ≠ s := new_apart d5.src.at hla
      have gh6 := gh5.ex (hds_drew d6 sm)
      have ra6 := ra5.ex (hds_drew d6 sm)
      have st6 : Stn [s] H6 := fun b hb => by
        rw [List.mem_singleton.mp hb]
        exact d6.src.at
      -- wrong
      refine ⟨[s], rfl, st6, fun H7 p0 x0 e7 hp0 hx0 l0 k0 => ?_⟩
      have st7 := st6.ex e7
      refine ⟨.ref la, rfl, la, [s], n, zs, rfl, st7, hd1 nlas, e7 _ _ hlz, ao, n1, n40, fun H8 p1 x1 e8 hp1 hx1 l1 l1' k1 => ⟨show 2 ≤ sizeLine by decide, fun wa hwa => ?_⟩⟩
      dsimp only [gName]
      have e9 := Ex.new (o := .lst [V.ref p0, .ref p1]) hwa
      have e69 := e7.trans (e8.trans e9)
      have st9 := st6.ex e69
      have hwa9 : (L2.upd H8 wa (.lst [V.ref p0, .ref p1])) wa = some (.lst [V.ref p0, .ref p1]) := upd_same
      generalize (L2.upd H8 wa (.lst [V.ref p0, .ref p1])) = H9 at *
      refine ⟨.ref wa, rfl, .ref g, rfl, g, [s], n, es, rfl, st9, gh6.ex (hds_ex e69), ok, fun H10 p2 x2 e10 hp2 hx2 l2 l2' k2 => ?_⟩
      have e610 := e69.trans e10
      refine ⟨.ref g, rfl, .ref t, rfl, g, t, [s], n, es, as, tn, rfl, st6.ex e610, gh6.ex (hds_ex e610), ra6.ex (hds_ex e610), T, fun H11 p3 x3 e11 hp3 hx3 l3 l3' k3 => ⟨show 2 ≤ sizeLine by decide, fun wb hwb => ?_⟩⟩
      have e12 := Ex.new (o := .lst [V.ref p2, .ref p3]) hwb
      refine ⟨wa, wb, _, _, rfl, rfl, (e10.trans (e11.trans e12)) _ _ hwa9, upd_same, show 4 ≤ sizeLine by decide, fun wr hwr => ?_⟩
      dsimp only [gName]
      have e13 := Ex.new (o := .lst ([V.ref p0, .ref p1] ++ [V.ref p2, .ref p3])) hwr
      have x10 := (e11.trans e12).trans e13
      have x613 := e610.trans x10
      have hwr13 : (L2.upd (L2.upd H11 wb (.lst [V.ref p2, .ref p3])) wr (.lst ([V.ref p0, .ref p1] ++ [V.ref p2, .ref p3]))) wr = some (.lst [.ref p0, .ref p1, .ref p2, .ref p3]) := upd_same
      have e1113 := e12.trans e13
      generalize (L2.upd (L2.upd H11 wb (.lst [V.ref p2, .ref p3])) wr (.lst ([V.ref p0, .ref p1] ++ [V.ref p2, .ref p3]))) = H13 at *
      have st13 := st6.ex x613
      have fresh : ∀ {p : Addr} {G : Hp}, G p = none → Ex H6 G → p ∉ [s] := fun h e => (st6.ex e).out h
      have q0 : (hds [s] H13) p0 = some (.lst x0) := by rw [hds_ne (st6.out hp0)]; exact (e8.trans (e9.trans (e10.trans x10))) _ _ hx0
      have q1 : (hds [s] H13) p1 = some (.lst x1) := by rw [hds_ne (st7.out hp1)]; exact (e9.trans (e10.trans x10)) _ _ hx1
      have q2 : (hds [s] H13) p2 = some (.lst x2) := by rw [hds_ne (st9.out hp2)]; exact x10 _ _ hx2
      have q3 : (hds [s] H13) p3 = some (.lst x3) := by rw [hds_ne ((st6.ex e610).out hp3)]; exact e1113 _ _ hx3
      have qw : (hds [s] H13) wr = some (.lst [.ref p0, .ref p1, .ref p2, .ref p3]) := by rw [hds_ne (fresh hwr (e610.trans (e11.trans e12)))]; exact hwr13
      have m0 : ∀ x ∈ x0, KP BG (hds [s] H13) x := fun x hx => kp_up _ _ _ (hds_ex (e8.trans (e9.trans (e10.trans x10)))) (k0 x hx)
      have m1 : ∀ x ∈ x1, KP (BR n) (hds [s] H13) x := fun x hx => kp_up _ _ _ (hds_ex (e9.trans (e10.trans x10))) (k1 x hx)
      have m2 : ∀ x ∈ x2, KP (BS es) (hds [s] H13) x := fun x hx => kp_up _ _ _ (hds_ex x10) (k2 x hx)
      have m3 : ∀ x ∈ x3, KP (BT n es) (hds [s] H13) x := fun x hx => kp_up _ _ _ (hds_ex e1113) (k3 x hx)
      have gh13 := gh6.ex (hds_ex x613)
      have ra13 := ra6.ex (hds_ex x613)
      have hl13 : (hds [s] H13) la = some (.lst (zs.map V.str)) := by rw [hds_ne (hd1 nlas)]; exact x613 _ _ hlz
      -- their data
      obtain ⟨ds0, dd0, kd0, len0⟩ := dts_exK (R := BG) m0
      obtain ⟨ds1, dd1, kd1, len1⟩ := dts_exK (R := BR n) m1
      obtain ⟨ds2, dd2, kd2', len2⟩ := dts_exK (R := BS es) m2
      obtain ⟨ds3, dd3, kd3, len3⟩ := dts_exK (R := BT n es) m3
      obtain ⟨D0, hD0, fit⟩ : ∃ D0, Dts (hds [s] H13) [.ref g, .ref t, .ref la, .ref wr] D0 ∧ Fit sizeLine (.list D0) := by
        refine ⟨[_, _, _, _], .cons gh13.dt (.cons (rows_dt ra13.top ra13.len fun i c h => ra13.at' i c h) (.cons (.lst hl13 (dts_strs zs)) (.cons (.lst qw (.cons (.lst q0 dd0) (.cons (.lst q1 dd1) (.cons (.lst q2 dd2) (.cons (.lst q3 dd3) .nil))))) .nil))), ?_⟩
        have lg : Lim 90000 10 (.tuple [.int (n : Int), .list (es.map Os.prD)]) := (kd2 ((kd_sz n40).mono (by decide) (by decide)) ((kd_pairs ok).mono (by decide) (by decide))).lim.mono (by decide) (by decide)
        have lt : Lim 90000 10 (.list (rowsD n tn)) := (Kd.lst (m := 41) (fun d hd => (T.rows d hd).1) (by rw [rowsD_len]; omega)).lim.mono (by decide) (by decide)
        have ll : Lim 90000 10 (.list (zs.map PyData.str)) := (kd_row ao n40).lim.mono (by decide) (by decide)
        have b0 := (Lim.lst (m := 30) (fun d hd => (kd0 d hd).kd.lim) (by omega))
        have b1 := (Lim.lst (m := 18) (fun d hd => (kd1 d hd).kd.lim) (by omega))
        have b2 := (Lim.lst (m := 62) (fun d hd => (kd2' d hd).kd.lim) (by omega))
        have b3 := (Lim.lst (m := 140) (fun d hd => (kd3 d hd).kd.lim) (by omega))
        have lw := lim_sum (limS_cons b0 (limS_cons b1 (limS_cons b2 (limS_cons b3 limS_nil))))
        have la' := lim_sum (limS_cons lg (limS_cons lt (limS_cons ll (limS_cons lw limS_nil))))
        exact ⟨Nat.le_trans la'.long (by decide +kernel), Nat.le_trans la'.deep (by decide), la'.show', la'.flat⟩
      have fx : Fx g t la wr p0 p1 p2 p3 n es as tn zs x0 x1 x2 x3 D0 (hds [s] H13) := ⟨gh13, ra13, hl13, qw, q0, q1, q2, q3, m0, m1, m2, m3, hD0⟩
      have src13 : Src H13 s 5000 := (d6.src.ex x613).mono (by omega)
      -- kept
      refine q_asg (ev_reprL (el_lst (ea_cons (ev_var rfl) (ea_cons (ev_var rfl) (ea_cons (ev_var rfl) (ea_cons (ev_var rfl) ea_nil)))) (show 4 ≤ 100000 by decide)) (hD0.same (same_ex hds_up)) fit) fun H14 e14 => ?_
      -- sequence
      have fx14 := fx_up _ _ (hds_ex e14) fx
      obtain ⟨ge14, exs14, hg141, hg142, hp14, _⟩ := fx14.g.pairs
      refine ⟨.ref s, rfl, .ref g, rfl, g, _, 1, .ref ge14, rfl, rfl, st_of (hds_of hg141).2, rfl, s, ge14, exs14, 5000, rfl, src13.ex e14, (hds_of hg142).2, fun z => (hds_of hg142).1 (by rw [z]; exact sm), by rw [hp14.length]; omega, by omega, fun H15 sq ys15 d15 hsq hys15 pm15 => ?_⟩
      dsimp only [gName]
      obtain ⟨os, po, pmo⟩ := PrsV.perm pm15 (hp14.ex (hds_drew d15 sm))
      have nsq : sq ≠ s := new_apart (src13.ex e14).at hsq
      have fx15 := fx_up _ _ (hds_drew d15 sm) fx14
      have st15 : Stn [s] H15 := (st13.ex e14).drew d15
      have os15 : OrdV (hds [s] H15) (.ref sq) os := ⟨sq, ys15, rfl, by rw [hds_ne (hd1 nsq)]; exact hys15, po⟩
      have src15 : Src H15 s 6000 := d15.src.mono (by rw [hp14.length]; omega)
      have cu : Up (CaseV cF cA cO cT) := case_up
      obtain ⟨Rb, hRb⟩ : ∃ Rb : Hp → Prop, Rb = Fy g t la wr p0 p1 p2 p3 sq n es os as tn zs x0 x1 x2 x3 D0 := ⟨_, rfl⟩
      have uRb : ∀ G G', Ex G G' → Rb G → Rb G' := by rw [hRb]; exact fy_up
      have rb15 : Rb (hds [s] H15) := by rw [hRb]; exact ⟨fx15, os15⟩
      have arg : ∀ {M : List Addr} {σ : L2.St} {G : Hp} {i : Nat} {a : V}, Rb (hds M G) → σ[i]? = some (some a) → EvK M (fun G v => v = a ∧ Rb G) (tVar i) σ G := fun h hi => ek_of (up_eq uRb _) (ev_var hi) ⟨rfl, h⟩
      have ra_ := up_eq uRb
      have v0 : ∀ d : Int, (d = 0 ∨ d = 2 ∨ d = 3) → ∀ G a b c, (a = V.ref g ∧ Rb G) → (b = V.ref la ∧ Rb G) → (c = V.ref t ∧ Rb G) → ∃ C, ErrR cF cA cO cT G a b c d C ∧ Told cF cA cO cT C "none" := fun d hd G a b c ha hb hc => by
        obtain ⟨rfl, hf⟩ := ha
        obtain ⟨rfl, _⟩ := hb
        obtain ⟨rfl, _⟩ := hc
        rw [hRb] at hf
        have fx := hf.x
        rcases hd with rfl | rfl | rfl
        · exact ⟨none, .i0 fx.g ok (rows_dt fx.t.top fx.t.len fun i c h => fx.t.at' i c h) (rows_short (by omega) fun i => by have := T.len i; omega), .inl ⟨rfl, rfl⟩⟩
        · exact ⟨none, .a0 rfl fx.g ok ⟨la, rfl, fx.l⟩ ao fx.t pm, .inl ⟨rfl, rfl⟩⟩
        · exact ⟨none, .t0 rfl fx.g ok fx.t pm, .inl ⟨rfl, rfl⟩⟩
      have v1 : ∀ G a b c, (a = V.ref g ∧ Rb G) → (b = V.ref la ∧ Rb G) → (c = V.ref sq ∧ Rb G) → ∃ C, ErrR cF cA cO cT G a b c 1 C ∧ Told cF cA cO cT C "none" := fun G a b c ha hb hc => by
        obtain ⟨rfl, hf⟩ := ha
        obtain ⟨rfl, _⟩ := hc
        rw [hRb] at hf
        exact ⟨none, .o0 hf.x.g ok hf.o pmo, .inl ⟨rfl, rfl⟩⟩
      -- cases
      refine q_cs0 (R := CaseV cF cA cO cT) (n := 2) sm st15 src15 rb15 cu uRb (eks_cons cu (case_tup st15 (ra_ _) (ra_ _) (ra_ _) ev_c (arg rb15 rfl) (arg rb15 rfl) (arg rb15 rfl) ev_c (v0 0 (.inl rfl))) (eks_cons cu (case_tup st15 (ra_ _) (ra_ _) (ra_ _) ev_c (arg rb15 rfl) (arg rb15 rfl) (arg rb15 rfl) ev_c v1) eks_nil)) (by decide) fun c1 H16 e16 k16 => ?_
      have gx : ∀ {G : Hp}, Rb G → Fx g t la wr p0 p1 p2 p3 n es as tn zs x0 x1 x2 x3 D0 G := fun h => by
        rw [hRb] at h
        exact h.x
      refine q_cs k16 cu uRb (ev_var rfl) (elk_lst (n := 2) cu (eks_cons cu (case_tup k16.st (ra_ _) (ra_ _) (ra_ _) ev_c (arg k16.f rfl) (arg k16.f rfl) (arg k16.f rfl) ev_c (v0 2 (.inr (.inl rfl)))) (eks_cons cu (case_tup k16.st (ra_ _) (ra_ _) (ra_ _) ev_c (arg k16.f rfl) (arg k16.f rfl) (arg k16.f rfl) ev_c (v0 3 (.inr (.inr rfl)))) eks_nil)) (by decide)) (by decide) fun c2 H17 e17 k17 => ?_
      generalize hM : c2 :: c1 :: [s] = M at k17
      -- two positions
      refine q_forLK (L := M) (R := DueR) (elk_lst (n := 3) due_up (eks_cons due_up (due_tup k17.st (.inl ⟨rfl, rfl⟩)) (eks_cons due_up (due_tup k17.st (.inr (.inl ⟨rfl, rfl⟩))) (eks_cons due_up (due_tup k17.st (.inr (.inr ⟨rfl, rfl⟩))) eks_nil))) (by decide))
        (fun p xs H1 j σ' H' => xs.length ≤ 3 ∧ p ∉ M ∧ (∀ x ∈ xs, DueR (hds M H1) x) ∧ Ex (hds M H1) (hds M H') ∧ H' p = some (.lst xs) ∧ Cs s (CaseV cF cA cO cT) Rb M c2 6000 (4 + j) H' ∧ ∃ z10 z11, σ' = [some (.ref sc), some (.int ((0 : Nat) : Int)), some (.ref s), some (.ref g), some (.ref t), some (.ref la), some (.ref wr), some (.str (PyData.list D0).shown), some (.ref sq), some (.ref c2), z10, z11, y12, y13, y14, y15, y16, y17, y18])
        (fun p xs H1 hp e hx l1 l2 r => ⟨l2, k17.st.out hp, r, Ex.refl _, hx, k17.on cu uRb e, _, _, rfl⟩) (fun p xs H1 j σ' H' _ h => sq_of h.2.2.2.2.1) ?_ ?_
      · rintro p xs H1 j x σ' H' hx ⟨l2, np, r, u, hp, kc, z10, z11, rfl⟩
        obtain ⟨tt, d, w, rfl, htt, hdw⟩ := r x (List.mem_of_getElem? hx)
        have il := (List.getElem?_eq_some_iff.mp hx).1
        refine ⟨tt, _, rfl, st_of (hds_of (u _ _ htt)).2, rfl, _, _, rfl, _, [], rfl, rfl, ?_⟩
        dsimp only [gName]
        refine s_csA kc cu uRb (ev_var rfl) (case_tup kc.st (dt_upd dA) (dt_upd dB) (dt_upd dC) (ev_var rfl) (x_tup kc.st (xs_cons x_int (xs_cons (x_lst kc.st (xs_cons (x_tup kc.st (xs_cons x_int (xs_cons x_int xs_nil)) (Nat.le_of_ble_eq_true rfl)) xs_nil) (Nat.le_of_ble_eq_true rfl)) xs_nil)) (Nat.le_of_ble_eq_true rfl)) (x_lst kc.st (xs_cons x_str (xs_cons x_str xs_nil)) (Nat.le_of_ble_eq_true rfl)) (x_lst kc.st (xs_cons (x_lst kc.st (xs_cons x_bl xs_nil) (Nat.le_of_ble_eq_true rfl)) (xs_cons (x_lst kc.st (xs_cons x_bl xs_nil) (Nat.le_of_ble_eq_true rfl)) xs_nil)) (Nat.le_of_ble_eq_true rfl)) (ev_var rfl) fun G a b c ha hb hc => ?_) (by omega) fun H2 u2 k2 => ⟨l2, np, r, u.trans u2, (hds_of (u2 _ _ (by rw [hds_ne np]; exact hp))).2, k2, _, _, rfl⟩
        have sh : Short2 dC := ⟨by decide, fun d hd => by
          rcases List.mem_cons.mp hd with rfl | hd
          · exact (by decide : 1 ≤ 1000)
          · rw [List.mem_singleton.mp hd]
            exact (by decide : 1 ≤ 1000)⟩
        have gg := graph_ofD (n := 2) (es := [(0, 1)]) ha
        have no : turnsB 2 [(0, 1)] dC = false := by decide +kernel
        rcases hdw with ⟨rfl, rfl⟩ | ⟨rfl, rfl⟩ | ⟨rfl, rfl⟩
        · exact ⟨none, .i0 gg for2 hc sh, .inl ⟨rfl, rfl⟩⟩
        · exact ⟨some cT, .aN (.t gg for2 (arr_ofD (zs := ["a", "b"]) hb) arr2 hc sh no), .inr (.inr (.inr (.inr ⟨rfl, rfl⟩)))⟩
        · exact ⟨some cT, .tN (.t gg for2 hc sh no), .inr (.inr (.inr (.inr ⟨rfl, rfl⟩)))⟩
      rintro p xs H1 σ' H18 ⟨l2, _, _, _, _, k18', z10, z11, rfl⟩
      have k18 := k18'.mono (Nat.le_refl _) (show 4 + xs.length ≤ 7 by omega)
      clear k18' l2
      -- what a place in the list of the wrong ones gives
      have wix : ∀ {σ : L2.St} {G : Hp} {j : Nat} {p : Addr}, Rb (hds M G) → σ[6]? = some (some (.ref wr)) → ([V.ref p0, .ref p1, .ref p2, .ref p3] : List V)[j]? = some (.ref p) → Ev (tOp (rIxL K) (tVar 6) (tC (.int (j : Int)))) σ G (.ref p) := fun h hs hj => ev_op (ev_var hs) ev_c (rv_ixL (sq_of (hds_of (gx h).w).2) (atI_nat hj))
      -- no forests
      refine q_forLn (a := p0) (xs := x0) (wix (j := 0) k18.f rfl rfl) (sq_of (hds_of (gx k18.f).h0).2) (fun j σ' H' => j ≤ 30 ∧ Cs s (CaseV cF cA cO cT) Rb M c2 (6000 + 20 * j) (7 + 4 * j) H' ∧ ∃ z10 z12 z13 z14, σ' = [some (.ref sc), some (.int ((0 : Nat) : Int)), some (.ref s), some (.ref g), some (.ref t), some (.ref la), some (.ref wr), some (.str (PyData.list D0).shown), some (.ref sq), some (.ref c2), z10, z11, z12, z13, z14, y15, y16, y17, y18])
        (fun H1 e => ⟨by omega, k18.on cu uRb e, _, _, _, _, rfl⟩) (fun j σ' H' _ h => sq_of (hds_of (gx h.2.1.f).h0).2) ?_ ?_
      · rintro j x σ' H1 hx ⟨_, kc, z10, z12, z13, z14, rfl⟩
        have j30 := (List.getElem?_eq_some_iff.mp hx).1
        have mx := List.mem_of_getElem? hx
        generalize hBB : 6000 + 20 * j = BB at kc
        -- others
        refine ⟨.ref la, rfl, ?_⟩
        refine (wix (j := 1) kc.f rfl rfl) H1 (Ex.refl _) _ fun H2 e2 => ⟨.ref s, rfl, ?_⟩
        have k2 := kc.on cu uRb e2
        refine (ev_len (wix (j := 1) k2.f rfl rfl) (sq_of (hds_of (gx k2.f).h1).2)) H2 (Ex.refl _) _ fun H3 e3 => ?_
        have k3 := k2.on cu uRb e3
        refine ⟨s, _, BB, rfl, k3.src, by omega, by omega, by omega, fun H4 r d4 r0 r1 => ?_⟩
        have k4 := k3.drew cu uRb d4
        obtain ⟨r, rfl⟩ : ∃ a : Nat, r = (a : Int) := ⟨r.toNat, by omega⟩
        have rl : r < x1.length := by omega
        refine ⟨p1, x1, (r : Int), x1[r], rfl, rfl, sq_of (hds_of (gx k4.f).h1).2, atI_nat (List.getElem?_eq_getElem rl), show 2 ≤ sizeLine by decide, fun oa hoa => ?_⟩
        have eoa := Ex.new (o := .lst [V.ref la, x1[r]]) hoa
        have hoa5 : (L2.upd H4 oa (.lst [V.ref la, x1[r]])) oa = some (.lst [V.ref la, x1[r]]) := upd_same
        have k5 := k4.on cu uRb eoa
        have noa : oa ≠ s := new_apart k4.src.at hoa
        have noc : oa ∉ M := k4.st.out hoa
        generalize (L2.upd H4 oa (.lst [V.ref la, x1[r]])) = H5 at *
        dsimp only [gName]
        -- values
        refine ⟨.ref t, rfl, ?_⟩
        refine (wix (j := 3) k5.f rfl rfl) H5 (Ex.refl _) _ fun H6 e6 => ⟨.ref s, rfl, ?_⟩
        have k6 := k5.on cu uRb e6
        refine (ev_len (wix (j := 3) k6.f rfl rfl) (sq_of (hds_of (gx k6.f).h3).2)) H6 (Ex.refl _) _ fun H7 e7 => ?_
        have k7 := k6.on cu uRb e7
        refine ⟨s, _, BB + 1, rfl, k7.src, by omega, by omega, by omega, fun H8 r2 d8 r20 r21 => ?_⟩
        have k8 := k7.drew cu uRb d8
        obtain ⟨r2, rfl⟩ : ∃ a : Nat, r2 = (a : Int) := ⟨r2.toNat, by omega⟩
        have rl2 : r2 < x3.length := by omega
        refine ⟨p3, x3, (r2 : Int), x3[r2], rfl, rfl, sq_of (hds_of (gx k8.f).h3).2, atI_nat (List.getElem?_eq_getElem rl2), show 2 ≤ sizeLine by decide, fun va hva => ?_⟩
        have eva := Ex.new (o := .lst [V.ref t, x3[r2]]) hva
        have hva9 : (L2.upd H8 va (.lst [V.ref t, x3[r2]])) va = some (.lst [V.ref t, x3[r2]]) := upd_same
        have k9 := k8.on cu uRb eva
        have nva : va ≠ s := new_apart k8.src.at hva
        have nvc : va ∉ M := k8.st.out hva
        have hoa9 := eva _ _ (d8.get noa ((e6.trans e7) _ _ hoa5))
        generalize (L2.upd H8 va (.lst [V.ref t, x3[r2]])) = H9 at *
        dsimp only [gName]
        -- the doors
        refine s_forR1 (n := 4) (ea_cons ev_c ea_nil) ⟨by decide, by decide⟩ (fun i σ' H' => i ≤ 4 ∧ Cs s (CaseV cF cA cO cT) Rb M c2 (BB + 2 + 2 * i) (7 + 4 * j + i) H' ∧ H' oa = some (.lst [V.ref la, x1[r]]) ∧ H' va = some (.lst [V.ref t, x3[r2]]) ∧ ∃ z10, σ' = [some (.ref sc), some (.int ((0 : Nat) : Int)), some (.ref s), some (.ref g), some (.ref t), some (.ref la), some (.ref wr), some (.str (PyData.list D0).shown), some (.ref sq), some (.ref c2), z10, z11, some x, some (.ref oa), some (.ref va), y15, y16, y17, y18])
          (fun H10 e10 => ⟨by omega, (k9.on cu uRb e10).mono (by omega) (by omega), e10 _ _ hoa9, e10 _ _ hva9, _, rfl⟩) ?_ ?_
        · rintro i σ' H10 hi ⟨_, k10, ho10, hv10, z10, rfl⟩
          have i4 : i < 4 := by omega
          obtain ⟨xs0, hc0, hl0, _⟩ := k10.row
          refine ⟨.ref c2, rfl, .inl ⟨rfl, _, sq_of hc0⟩, .int (i : Int), rfl, x, rfl, .ref oa, rfl, .ref s, rfl, s, 2, BB + 2 + 2 * i, rfl, k10.src, by omega, by decide, by decide, fun H11 q1' d11 q10 q11 => ?_⟩
          have k11 := k10.drew cu uRb d11
          obtain ⟨q1', rfl⟩ : ∃ a : Nat, q1' = (a : Int) := ⟨q1'.toNat, by omega⟩
          obtain ⟨b1, hb1⟩ : ∃ b, ([V.ref la, x1[r]] : List V)[q1']? = some b := ⟨_, List.getElem?_eq_getElem (show q1' < 2 by omega)⟩
          refine ⟨oa, _, (q1' : Int), b1, rfl, rfl, sq_of (d11.get noa ho10), atI_nat hb1, .ref va, rfl, .ref s, rfl, s, 2, BB + 2 + 2 * i + 1, rfl, d11.src, by omega, by decide, by decide, fun H12 q2' d12 q20 q21 => ?_⟩
          have k12 := k11.drew cu uRb d12
          obtain ⟨q2', rfl⟩ : ∃ a : Nat, q2' = (a : Int) := ⟨q2'.toNat, by omega⟩
          obtain ⟨b2, hb2⟩ : ∃ b, ([V.ref t, x3[r2]] : List V)[q2']? = some b := ⟨_, List.getElem?_eq_getElem (show q2' < 2 by omega)⟩
          refine ⟨va, _, (q2' : Int), b2, rfl, rfl, sq_of (d12.get nva (d11.get nva hv10)), atI_nat hb2, show 5 ≤ sizeLine by decide, fun ct hct => ?_⟩
          have ect := Ex.new (o := .tup [.int (i : Int), x, b1, b2, .str "forest"]) hct
          have k13 := k12.on cu uRb ect
          have nct : ct ∉ M := k12.st.out hct
          have ho13 := ect _ _ (d12.get noa (d11.get noa ho10))
          have hv13 := ect _ _ (d12.get nva (d11.get nva hv10))
          have hct13 : (L2.upd H12 ct (.tup [.int (i : Int), x, b1, b2, .str "forest"])) ct = some (.tup [.int (i : Int), x, b1, b2, .str "forest"]) := upd_same
          generalize (L2.upd H12 ct (.tup [.int (i : Int), x, b1, b2, .str "forest"])) = H13 at *
          obtain ⟨d, hd, bg⟩ := (gx k13.f).k0 x mx
          have cv : CaseV cF cA cO cT (hds M H13) (.ref ct) := by
            refine ⟨ct, (i : Int), x, b1, b2, "forest", some cF, rfl, by rw [hds_ne nct]; exact hct13, ?_, .inr (.inl ⟨rfl, rfl⟩)⟩
            match i, i4 with
            | 0, _ => exact .iN hd bg.sh bg.no
            | 1, _ => exact .oN (.f hd bg.sh bg.no)
            | 2, _ => exact .aN (.f hd bg.sh bg.no)
            | 3, _ => exact .tN (.f hd bg.sh bg.no)
          obtain ⟨ys, hys, yl, k14⟩ := k13.put cv
          refine ⟨c2, ys, .ref ct, rfl, rfl, hys, sz_lt (by omega), by omega, k14.mono (by omega) (by omega), ?_, ?_, _, rfl⟩
          · rw [upd_ne fun z => noc (by rw [z]; exact k13.fm)]
            exact ho13
          · rw [upd_ne fun z => nvc (by rw [z]; exact k13.fm)]
            exact hv13
        · rintro σ' H10 ⟨_, k10, _, _, z10, rfl⟩
          exact ⟨by omega, k10.mono (by show BB + 2 + 2 * 4 ≤ _; omega) (by show 7 + 4 * j + 4 ≤ _; omega), _, _, _, _, rfl⟩
      rintro σ' H19 ⟨_, k19', z10, z12, z13, z14, rfl⟩
      have k19 := k19'.mono (show 6000 + 20 * x0.length ≤ 7000 by omega) (show 7 + 4 * x0.length ≤ 127 by omega)
      clear k19' k18 k17
      have wixG : ∀ {M : List Addr} {σ : L2.St} {G : Hp} {j : Nat} {p : Addr}, Rb (hds M G) → σ[6]? = some (some (.ref wr)) → ([V.ref p0, .ref p1, .ref p2, .ref p3] : List V)[j]? = some (.ref p) → Ev (tOp (rIxL K) (tVar 6) (tC (.int (j : Int)))) σ G (.ref p) := fun h hs hj => ev_op (ev_var hs) ev_c (rv_ixL (sq_of (hds_of (gx h).w).2) (atI_nat hj))
      -- no arrangements
      refine q_forLn (a := p1) (xs := x1) (wixG (j := 1) k19.f rfl rfl) (sq_of (hds_of (gx k19.f).h1).2) (fun j σ' H' => j ≤ 18 ∧ ∃ M Fc, Cs s (CaseV cF cA cO cT) Rb M Fc (7000 + j) (127 + 2 * j) H' ∧ ∃ z12 z15, σ' = [some (.ref sc), some (.int ((0 : Nat) : Int)), some (.ref s), some (.ref g), some (.ref t), some (.ref la), some (.ref wr), some (.str (PyData.list D0).shown), some (.ref sq), some (.ref Fc), z10, z11, z12, z13, z14, z15, y16, y17, y18])
        (fun H1 e => ⟨by omega, _, _, k19.on cu uRb e, _, _, rfl⟩) (fun j σ' H' _ h => by
          obtain ⟨_, M, Fc, k, _⟩ := h
          exact sq_of (hds_of (gx k.f).h1).2) ?_ ?_
      · rintro j x σ' H1 hx ⟨_, M, Fc, kc, z12, z15, rfl⟩
        have j18 := (List.getElem?_eq_some_iff.mp hx).1
        have mx := List.mem_of_getElem? hx
        refine (wixG (j := 3) kc.f rfl rfl) H1 (Ex.refl _) _ fun H2 e2 => ⟨.ref s, rfl, ?_⟩
        have k2 := kc.on cu uRb e2
        refine (ev_len (wixG (j := 3) k2.f rfl rfl) (sq_of (hds_of (gx k2.f).h3).2)) H2 (Ex.refl _) _ fun H3 e3 => ?_
        have k3 := k2.on cu uRb e3
        refine ⟨s, _, 7000 + j, rfl, k3.src, by omega, by omega, by omega, fun H4 r d4 r0 r1 => ?_⟩
        have k4 := k3.drew cu uRb d4
        obtain ⟨r, rfl⟩ : ∃ a : Nat, r = (a : Int) := ⟨r.toNat, by omega⟩
        have rl : r < x3.length := by omega
        refine ⟨p3, x3, (r : Int), x3[r], rfl, rfl, sq_of (hds_of (gx k4.f).h3).2, atI_nat (List.getElem?_eq_getElem rl), ?_⟩
        dsimp only [gName]
        have imp : ∀ {Rc : Hp → V → Prop} G a b c, (a = V.ref g ∧ Rb G) → KP (BR n) G b → Rc G c → ∃ C, ErrR cF cA cO cT G a b c 2 C ∧ Told cF cA cO cT C "items" := fun G a b c ha hb _ => by
          obtain ⟨rfl, hf⟩ := ha
          obtain ⟨d, hd, br⟩ := hb
          exact ⟨some cA, .aN (.a (gx hf).g ok hd br.sh br.no), .inr (.inr (.inl ⟨rfl, rfl⟩))⟩
        have bad := (gx k4.f).k1 x mx
        refine s_cs k4 cu uRb (ev_var rfl) (elk_lst (n := 2) cu (eks_cons cu (case_tup k4.st (ra_ _) kp_up up_any ev_c (arg k4.f rfl) (ek_of kp_up (ev_var rfl) bad) (ek_of up_any (ev_var rfl) trivial) ev_c imp) (eks_cons cu (case_tup k4.st (ra_ _) kp_up (ra_ _) ev_c (arg k4.f rfl) (ek_of kp_up (ev_var rfl) bad) (arg k4.f rfl) ev_c imp) eks_nil)) (by decide)) (by omega) fun c3 H5 e5 k5 => ⟨by omega, _, _, k5.mono (by omega) (by omega), _, _, rfl⟩
      rintro σ' H20 ⟨_, M, Fc, k20', z12, z15, rfl⟩
      have k20 := k20'.mono (show 7000 + x1.length ≤ 7100 by omega) (show 127 + 2 * x1.length ≤ 163 by omega)
      clear k20' k19 hM
      -- no orders
      refine q_cs k20 cu uRb (ev_var rfl) (elk_lcA (R := CaseV cF cA cO cT) (xs := x2) k20.st (wixG (j := 2) k20.f rfl rfl) (hds_of (gx k20.f).h2).2 cu (by omega) (fun _ => rfl) (fun Dl G x hD e ho hx => ?_)) (by omega) fun c4 H21 e21 k21' => ?_
      · have stD : Stn (Dl :: M) G := fun b hb => by
          rcases List.mem_cons.mp hb with rfl | hb
          · exact ho
          · exact (k20.st.ex e) b hb
        have rbD : Rb (hds (Dl :: M) G) := uRb _ _ (hds_out hD e) k20.f
        refine case_tup stD (ra_ _) (ra_ _) kp_up ev_c (arg rbD rfl) (arg rbD rfl) (ek_of (R := KP (BS es)) kp_up (ev_var rfl) ((gx rbD).k2 x hx)) ev_c fun G a b c ha _ hc => ?_
        obtain ⟨rfl, hf⟩ := ha
        obtain ⟨d, hd, bsd⟩ := hc
        exact ⟨some cO, .oN (.o (gx hf).g ok hd bsd.sh bsd.no), .inr (.inr (.inr (.inl ⟨rfl, rfl⟩)))⟩
      have k21 := k21'.mono (Nat.le_refl _) (show 163 + x2.length ≤ 225 by omega)
      clear k21' k20
      -- no turns
      refine q_forLn (a := p3) (xs := x3) (wixG (j := 3) k21.f rfl rfl) (sq_of (hds_of (gx k21.f).h3).2) (fun j σ' H' => j ≤ 140 ∧ ∃ M Fc, Cs s (CaseV cF cA cO cT) Rb M Fc 7100 (225 + 3 * j) H' ∧ ∃ z12, σ' = [some (.ref sc), some (.int ((0 : Nat) : Int)), some (.ref s), some (.ref g), some (.ref t), some (.ref la), some (.ref wr), some (.str (PyData.list D0).shown), some (.ref sq), some (.ref Fc), z10, z11, z12, z13, z14, z15, y16, y17, y18])
        (fun H1 e => ⟨by omega, _, _, k21.on cu uRb e, _, rfl⟩) (fun j σ' H' _ h => by
          obtain ⟨_, M, Fc, k, _⟩ := h
          exact sq_of (hds_of (gx k.f).h3).2) ?_ ?_
      · rintro j x σ' H1 hx ⟨_, M, Fc, kc, z12, rfl⟩
        have j140 := (List.getElem?_eq_some_iff.mp hx).1
        have mx := List.mem_of_getElem? hx
        have bad := (gx kc.f).k3 x mx
        have imp0 : ∀ G a b c, (a = V.ref g ∧ Rb G) → (b = V.ref la ∧ Rb G) → KP (BT n es) G c → ∃ C, ErrR cF cA cO cT G a b c 0 C ∧ Told cF cA cO cT C "none" := fun G a b c ha _ hc => by
          obtain ⟨rfl, hf⟩ := ha
          obtain ⟨d, hd, bt⟩ := hc
          exact ⟨none, .i0 (gx hf).g ok hd bt.sh, .inl ⟨rfl, rfl⟩⟩
        have imp2 : ∀ G a b c, (a = V.ref g ∧ Rb G) → (b = V.ref la ∧ Rb G) → KP (BT n es) G c → ∃ C, ErrR cF cA cO cT G a b c 2 C ∧ Told cF cA cO cT C "turns" := fun G a b c ha hb hc => by
          obtain ⟨rfl, hf⟩ := ha
          obtain ⟨rfl, _⟩ := hb
          obtain ⟨d, hd, bt⟩ := hc
          exact ⟨some cT, .aN (.t (gx hf).g ok ⟨la, rfl, (gx hf).l⟩ ao hd bt.sh bt.no), .inr (.inr (.inr (.inr ⟨rfl, rfl⟩)))⟩
        have imp3 : ∀ G a b c, (a = V.ref g ∧ Rb G) → (b = V.ref la ∧ Rb G) → KP (BT n es) G c → ∃ C, ErrR cF cA cO cT G a b c 3 C ∧ Told cF cA cO cT C "turns" := fun G a b c ha _ hc => by
          obtain ⟨rfl, hf⟩ := ha
          obtain ⟨d, hd, bt⟩ := hc
          exact ⟨some cT, .tN (.t (gx hf).g ok hd bt.sh bt.no), .inr (.inr (.inr (.inr ⟨rfl, rfl⟩)))⟩
        refine q_cs kc cu uRb (ev_var rfl) (elk_lst (n := 2) cu (eks_cons cu (case_tup kc.st (ra_ _) (ra_ _) kp_up ev_c (arg kc.f rfl) (arg kc.f rfl) (ek_of kp_up (ev_var rfl) bad) ev_c imp0) (eks_cons cu (case_tup kc.st (ra_ _) (ra_ _) kp_up ev_c (arg kc.f rfl) (arg kc.f rfl) (ek_of kp_up (ev_var rfl) bad) ev_c imp2) eks_nil)) (by decide)) (by omega) fun c5 H2 e2 k2 => ?_
        exact s_csA k2 cu uRb (ev_var rfl) (case_tup k2.st (ra_ _) (ra_ _) kp_up ev_c (arg k2.f rfl) (arg k2.f rfl) (ek_of kp_up (ev_var rfl) ((gx k2.f).k3 x mx)) ev_c imp3) (by omega) fun H3 u3 k3 => ⟨by omega, _, _, k3.mono (Nat.le_refl _) (by omega), _, rfl⟩
      rintro σ' H22 ⟨_, M, Fc, k22, z12, rfl⟩
      -- all cases
      obtain ⟨xs, hxs, xsl, hcs⟩ := k22.row
      refine q_forL (a := Fc) (xs := xs) (ev_var rfl) (sq_of hxs) (fun j σ' H' => Ex H22 H' ∧ ∃ z10 z11 z16 z17 z18, σ' = [some (.ref sc), some (.int ((0 : Nat) : Int)), some (.ref s), some (.ref g), some (.ref t), some (.ref la), some (.ref wr), some (.str (PyData.list D0).shown), some (.ref sq), some (.ref Fc), z10, z11, z12, z13, z14, z15, z16, z17, z18])
        (fun H1 e => ⟨e, _, _, _, _, _, rfl⟩) (fun j σ' H' _ h => sq_of (h.1 _ _ hxs)) ?_ ?_
      · rintro j x σ' H1 hx ⟨e1, z10, z11, z16, z17, z18, rfl⟩
        obtain ⟨tt, d, a, b, c, w, C, rfl, htt, he, ht⟩ := hcs x (List.mem_of_getElem? hx)
        refine ⟨tt, _, rfl, st_of (e1 _ _ (hds_of htt).2), rfl, _, _, rfl, _, _, rfl, _, _, rfl, _, _, rfl, _, [], rfl, rfl, ?_⟩
        dsimp only [gName]
        exact s_when (b := false) (et_is (et_test (ev_op (ev_sp (ea_cons (ev_var rfl) (ea_cons (ev_var rfl) (ea_cons (ev_var rfl) (ea_cons (ev_var rfl) ea_nil)))) fun G f Q' q' => ⟨d, a, b, c, C, w, rfl, he.ex (hds_up.trans (e1.trans f)), ht, q'⟩) (ev_var rfl) (rv_ne rfl))) (by rw [decide_eq_true rfl]; rfl)) (fun h => nomatch h) fun _ H2 e2 => ⟨e1.trans e2, _, _, _, _, _, rfl⟩
      rintro σ' H23 ⟨e23, z10, z11, z16, z17, z18, rfl⟩
      have k23 := k22.on cu uRb e23
      exact s_when (b := false) (et_is (et_test (ev_op (ev_reprL (el_lst (ea_cons (ev_var rfl) (ea_cons (ev_var rfl) (ea_cons (ev_var rfl) (ea_cons (ev_var rfl) ea_nil)))) (show 4 ≤ 100000 by decide)) ((gx k23.f).d.same (same_ex hds_up)) fit) (ev_var rfl) (rv_ne rfl))) (by rw [decide_eq_true rfl]; rfl)) (fun h => nomatch h) fun _ H24 e24 => fin H24 _ _ _ _ _ _ _ _ _ _ _ _ _ _ _ _ _ _

    · rintro σ' H1 ⟨_, y1, y2, y3, y4, y5, y6, y7, y8, y9, y10, y11, y12, y13, y14, y15, y16, y17, y18, rfl⟩
      exact s_ret (v := .bl true) ev_c fun H2 e2 => q H2
end
end K15
namespace K15
open PySem PySem.Spec PyProof.Rows L2 Os Evl
theorem exm_kit {K : PySem.W.Frag} {t c : Value} {b : Bool} (h1 : PySem.W.subIn K c (.type "BaseException") = some true) (h2 : PySem.W.kitOne K t c = some b) (ne : (t == c) = false) : PySem.W.exmOne K t c = some b := by
  unfold PySem.W.exmOne
  unfold PySem.W.kitOne at h2
  rw [ne] at h2
  rw [h1]
  exact h2
section
variable {l : PySem.W.OpenLaw} {w : World} {K : PySem.W.Frag} {h : Heap} {mg : Str → Option Value} {fa : Addr}
/-- a def that stands at the top -/
def Def (K : PySem.W.Frag) (x : Str) (st : Stmt) (f : Addr) : Prop :=
  PySem.W.nsIn K mainGlobals x = some (some (.ref f)) ∧ (∃ (oc kV dc pm cd ct : Value) (od an : Option Addr) (sl : Array (Option Value)), K.lookup f = some ⟨oc, od, .func (PySem.W.fnOf x x (defArgs st) (defBody st) (defScope st) .none kV dc pm an cd ct), sl⟩ ∧ PySem.W.codeIn K cd x = true) ∧ PySem.W.keepIn K (.ref f) = true
theorem Def.of {x : Str} {st : Stmt} {f : Addr} {oc kV dc pm cd ct : Value} {od an : Option Addr} {sl : Array (Option Value)} (a : PySem.W.nsIn K mainGlobals x = some (some (.ref f)))
    (lk : K.lookup f = some ⟨oc, od, .func (PySem.W.fnOf x x (defArgs st) (defBody st) (defScope st) .none kV dc pm an cd ct), sl⟩) (c : PySem.W.codeIn K cd x = true) (kp : PySem.W.keepIn K (.ref f) = true) : Def K x st f :=
  ⟨a, ⟨oc, kV, dc, pm, cd, ct, od, an, sl, lk, c⟩, kp⟩
theorem Def.fun_ {x : Str} {st : Stmt} {f : Addr} (d : Def K x st f) : ∃ fd, Fun K x x st f fd := by
  obtain ⟨_, ⟨oc, kV, dc, pm, cd, ct, od, an, sl, lk, c⟩, k⟩ := d
  exact ⟨_, fun_mk lk c k⟩
theorem all_mk (X : K.In h) (G : h.Ns mainGlobals mg) (hfa : mg "law" = some (.ref fa))
    {fInt fPos fEdge fAsc fCyc fForest fSource fPick fShuf fGraph fChkF fLists fIsTurn fIsTurns fNear fPerms fLeast fItem fArr fChkA fLabels fSwapped fChkT fAfter fIsOrd fChkO fTo fOT fClass fErr fNoG fNoL fNoS fNoP fLaw cF cS cA cO cT cE cI cN cB cP cX cH cR cM : Addr} {tMOST_POSITIONS tMOST_LETTERS : Tok} (nMOST_POSITIONS : PySem.W.nsIn K mainGlobals "MOST_POSITIONS" = some (some (.int 40 tMOST_POSITIONS))) (nMOST_LETTERS : PySem.W.nsIn K mainGlobals "MOST_LETTERS" = some (some (.int 8 tMOST_LETTERS))) (nNoEdge : PySem.W.nsIn K mainGlobals "NoEdge" = some (some (.ref cE))) (nNoItem : PySem.W.nsIn K mainGlobals "NoItem" = some (some (.ref cI))) (nNoNumber : PySem.W.nsIn K mainGlobals "NoNumber" = some (some (.ref cN))) (nNoObservation : PySem.W.nsIn K mainGlobals "NoObservation" = some (some (.ref cB))) (nNoPosition : PySem.W.nsIn K mainGlobals "NoPosition" = some (some (.ref cP))) (nNoText : PySem.W.nsIn K mainGlobals "NoText" = some (some (.ref cX))) (nNothing : PySem.W.nsIn K mainGlobals "Nothing" = some (some (.ref cH))) (nNotReached : PySem.W.nsIn K mainGlobals "NotReached" = some (some (.ref cR))) (nTooMany : PySem.W.nsIn K mainGlobals "TooMany" = some (some (.ref cM))) (nSwapError : PySem.W.nsIn K mainGlobals "SwapError" = some (some (.ref cS))) (xcF : ErrK K "NoForest" cF cS) (xcA : ErrK K "NoArrangement" cA cS) (xcO : ErrK K "NoOrder" cO cS) (xcT : ErrK K "NoTurns" cT cS) (uF : ClsU K cF cF cA cO cT true false false false cE cI cN cB cP cX cH cR cM) (uA : ClsU K cA cF cA cO cT false true false false cE cI cN cB cP cX cH cR cM) (uO : ClsU K cO cF cA cO cT false false true false cE cI cN cB cP cX cH cR cM) (uT : ClsU K cT cF cA cO cT false false false true cE cI cN cB cP cX cH cR cM)
    (dInt : Def K "is_integer" sInt fInt)
    (dPos : Def K "is_position" sPos fPos)
    (dEdge : Def K "is_edge" sEdge fEdge)
    (dAsc : Def K "_is_ascending" sAsc fAsc)
    (dCyc : Def K "_has_cycle" sCyc fCyc)
    (dForest : Def K "is_forest" sForest fForest)
    (dSource : Def K "_law_source" sSource fSource)
    (dPick : Def K "_law_pick" sPick fPick)
    (dShuf : Def K "_law_shuffle" sShuf fShuf)
    (dGraph : Def K "_law_graph" sGraph fGraph)
    (dChkF : Def K "check_forest" sChkF fChkF)
    (dLists : Def K "neighbour_lists" sLists fLists)
    (dIsTurn : Def K "_is_turn" sIsTurn fIsTurn)
    (dIsTurns : Def K "is_turns" sIsTurns fIsTurns)
    (dNear : Def K "_law_near" sNear fNear)
    (dPerms : Def K "_law_perms" sPerms fPerms)
    (dLeast : Def K "_least_order" sLeast fLeast)
    (dItem : Def K "is_item" sItem fItem)
    (dArr : Def K "is_arrangement" sArr fArr)
    (dChkA : Def K "check_arrangement" sChkA fChkA)
    (dLabels : Def K "_law_labels" sLabels fLabels)
    (dSwapped : Def K "swapped" sSwapped fSwapped)
    (dChkT : Def K "check_turns" sChkT fChkT)
    (dAfter : Def K "after_turns" sAfter fAfter)
    (dIsOrd : Def K "is_order" sIsOrd fIsOrd)
    (dChkO : Def K "check_order" sChkO fChkO)
    (dTo : Def K "turns_of_order" sTo fTo)
    (dOT : Def K "order_of_turns" sOT fOT)
    (dClass : Def K "_law_class" sClass fClass)
    (dErr : Def K "_law_raised" sErr fErr)
    (dNoG : Def K "_law_no_graphs" sNoG fNoG)
    (dNoL : Def K "_law_no_labels" sNoL fNoL)
    (dNoS : Def K "_law_no_sequences" sNoS fNoS)
    (dNoP : Def K "_law_no_perms" sNoP fNoP)
    (aLaw : PySem.W.nsIn K mainGlobals "law" = some (some (.ref fLaw))) {oc kV dc pm cd ct : Value} {od an : Option Addr} {sl : Array (Option Value)} (lLaw : K.lookup fLaw = some ⟨oc, od, .func (PySem.W.fnOf "law" "law" (defArgs sLaw) (defBody sLaw) (defScope sLaw) .none kV dc pm an cd ct), sl⟩) (cLaw : PySem.W.codeIn K cd "law" = true) (kLaw : PySem.W.keepIn K (.ref fLaw) = true)
    (z_isinstance : PySem.W.nsIn K mainGlobals "isinstance" = some none) (z_int : PySem.W.nsIn K mainGlobals "int" = some none) (z_bool : PySem.W.nsIn K mainGlobals "bool" = some none) (z_tuple : PySem.W.nsIn K mainGlobals "tuple" = some none) (z_len : PySem.W.nsIn K mainGlobals "len" = some none) (z_all : PySem.W.nsIn K mainGlobals "all" = some none) (z_zip : PySem.W.nsIn K mainGlobals "zip" = some none) (z_list : PySem.W.nsIn K mainGlobals "list" = some none) (z_range : PySem.W.nsIn K mainGlobals "range" = some none) (z_max : PySem.W.nsIn K mainGlobals "max" = some none) (z_abs : PySem.W.nsIn K mainGlobals "abs" = some none) (z_min : PySem.W.nsIn K mainGlobals "min" = some none) (z_sorted : PySem.W.nsIn K mainGlobals "sorted" = some none) (z_str : PySem.W.nsIn K mainGlobals "str" = some none) (z_set : PySem.W.nsIn K mainGlobals "set" = some none) (z_ValueError : PySem.W.nsIn K mainGlobals "ValueError" = some none) (z_enumerate : PySem.W.nsIn K mainGlobals "enumerate" = some none) (z_repr : PySem.W.nsIn K mainGlobals "repr" = some none) :
    ∃ fd : FuncData, (∀ (s : Shared) (v : Value), BindsTo s fd ⟨[v], []⟩ [("script", v)]) ∧ ∀ base : Heap, K.In base → base.Ns mainGlobals mg → FnG l.prog w K mg base 10 fa fd ["script"] (spLaw K) := by
  have e := hfa.symm.trans (PySem.W.mg_of X G aLaw)
  cases e
  have none' : ∀ {x : Str}, PySem.W.nsIn K mainGlobals x = some none → mg x = none := fun z => PySem.W.mg_none_of X G z
  have ref' : ∀ {x : Str} {f : Addr}, PySem.W.nsIn K mainGlobals x = some (some (.ref f)) → mg x = some (.ref f) := fun z => PySem.W.mg_of X G z
  obtain ⟨fdInt, FInt⟩ := dInt.fun_
  obtain ⟨fdPos, FPos⟩ := dPos.fun_
  obtain ⟨fdEdge, FEdge⟩ := dEdge.fun_
  obtain ⟨fdAsc, FAsc⟩ := dAsc.fun_
  obtain ⟨fdCyc, FCyc⟩ := dCyc.fun_
  obtain ⟨fdForest, FForest⟩ := dForest.fun_
  obtain ⟨fdSource, FSource⟩ := dSource.fun_
  obtain ⟨fdPick, FPick⟩ := dPick.fun_
  obtain ⟨fdShuf, FShuf⟩ := dShuf.fun_
  obtain ⟨fdGraph, FGraph⟩ := dGraph.fun_
  obtain ⟨fdChkF, FChkF⟩ := dChkF.fun_
  obtain ⟨fdLists, FLists⟩ := dLists.fun_
  obtain ⟨fdIsTurn, FIsTurn⟩ := dIsTurn.fun_
  obtain ⟨fdIsTurns, FIsTurns⟩ := dIsTurns.fun_
  obtain ⟨fdNear, FNear⟩ := dNear.fun_
  obtain ⟨fdPerms, FPerms⟩ := dPerms.fun_
  obtain ⟨fdLeast, FLeast⟩ := dLeast.fun_
  obtain ⟨fdItem, FItem⟩ := dItem.fun_
  obtain ⟨fdArr, FArr⟩ := dArr.fun_
  obtain ⟨fdChkA, FChkA⟩ := dChkA.fun_
  obtain ⟨fdLabels, FLabels⟩ := dLabels.fun_
  obtain ⟨fdSwapped, FSwapped⟩ := dSwapped.fun_
  obtain ⟨fdChkT, FChkT⟩ := dChkT.fun_
  obtain ⟨fdAfter, FAfter⟩ := dAfter.fun_
  obtain ⟨fdIsOrd, FIsOrd⟩ := dIsOrd.fun_
  obtain ⟨fdChkO, FChkO⟩ := dChkO.fun_
  obtain ⟨fdTo, FTo⟩ := dTo.fun_
  obtain ⟨fdOT, FOT⟩ := dOT.fun_
  obtain ⟨fdClass, FClass⟩ := dClass.fun_
  obtain ⟨fdErr, FErr⟩ := dErr.fun_
  obtain ⟨fdNoG, FNoG⟩ := dNoG.fun_
  obtain ⟨fdNoL, FNoL⟩ := dNoL.fun_
  obtain ⟨fdNoS, FNoS⟩ := dNoS.fun_
  obtain ⟨fdNoP, FNoP⟩ := dNoP.fun_
  have FLaw := fun_mk (st := sLaw) lLaw cLaw kLaw
  have bInt := FInt.binds (ps := ["thing"]) fun _ _ _ _ _ _ us hl => match us, hl with | [_], _ => rfl
  have bPos := FPos.binds (ps := ["n", "thing"]) fun _ _ _ _ _ _ us hl => match us, hl with | [_, _], _ => rfl
  have bEdge := FEdge.binds (ps := ["n", "thing"]) fun _ _ _ _ _ _ us hl => match us, hl with | [_, _], _ => rfl
  have bAsc := FAsc.binds (ps := ["edges"]) fun _ _ _ _ _ _ us hl => match us, hl with | [_], _ => rfl
  have bCyc := FCyc.binds (ps := ["n", "edges"]) fun _ _ _ _ _ _ us hl => match us, hl with | [_, _], _ => rfl
  have bForest := FForest.binds (ps := ["thing"]) fun _ _ _ _ _ _ us hl => match us, hl with | [_], _ => rfl
  have bSource := FSource.binds (ps := ["script", "k"]) fun _ _ _ _ _ _ us hl => match us, hl with | [_, _], _ => rfl
  have bPick := FPick.binds (ps := ["source", "wide"]) fun _ _ _ _ _ _ us hl => match us, hl with | [_, _], _ => rfl
  have bShuf := FShuf.binds (ps := ["source", "values"]) fun _ _ _ _ _ _ us hl => match us, hl with | [_, _], _ => rfl
  have bGraph := FGraph.binds (ps := ["source", "most"]) fun _ _ _ _ _ _ us hl => match us, hl with | [_, _], _ => rfl
  have bChkF := FChkF.binds (ps := ["forest"]) fun _ _ _ _ _ _ us hl => match us, hl with | [_], _ => rfl
  have bLists := FLists.binds (ps := ["forest"]) fun _ _ _ _ _ _ us hl => match us, hl with | [_], _ => rfl
  have bIsTurn := FIsTurn.binds (ps := ["n", "nearby", "thing"]) fun _ _ _ _ _ _ us hl => match us, hl with | [_, _, _], _ => rfl
  have bIsTurns := FIsTurns.binds (ps := ["forest", "thing"]) fun _ _ _ _ _ _ us hl => match us, hl with | [_, _], _ => rfl
  have bNear := FNear.binds (ps := ["graph"]) fun _ _ _ _ _ _ us hl => match us, hl with | [_], _ => rfl
  have bPerms := FPerms.binds (ps := ["source", "graph"]) fun _ _ _ _ _ _ us hl => match us, hl with | [_, _], _ => rfl
  have bLeast := FLeast.binds (ps := ["edges", "turns"]) fun _ _ _ _ _ _ us hl => match us, hl with | [_, _], _ => rfl
  have bItem := FItem.binds (ps := ["thing"]) fun _ _ _ _ _ _ us hl => match us, hl with | [_], _ => rfl
  have bArr := FArr.binds (ps := ["n", "thing"]) fun _ _ _ _ _ _ us hl => match us, hl with | [_, _], _ => rfl
  have bChkA := FChkA.binds (ps := ["n", "items"]) fun _ _ _ _ _ _ us hl => match us, hl with | [_, _], _ => rfl
  have bLabels := FLabels.binds (ps := ["source", "size"]) fun _ _ _ _ _ _ us hl => match us, hl with | [_, _], _ => rfl
  have bSwapped := FSwapped.binds (ps := ["items", "edges"]) fun _ _ _ _ _ _ us hl => match us, hl with | [_, _], _ => rfl
  have bChkT := FChkT.binds (ps := ["forest", "turns"]) fun _ _ _ _ _ _ us hl => match us, hl with | [_, _], _ => rfl
  have bAfter := FAfter.binds (ps := ["forest", "items", "turns"]) fun _ _ _ _ _ _ us hl => match us, hl with | [_, _, _], _ => rfl
  have bIsOrd := FIsOrd.binds (ps := ["forest", "thing"]) fun _ _ _ _ _ _ us hl => match us, hl with | [_, _], _ => rfl
  have bChkO := FChkO.binds (ps := ["forest", "order"]) fun _ _ _ _ _ _ us hl => match us, hl with | [_, _], _ => rfl
  have bTo := FTo.binds (ps := ["forest", "order"]) fun _ _ _ _ _ _ us hl => match us, hl with | [_, _], _ => rfl
  have bOT := FOT.binds (ps := ["forest", "turns"]) fun _ _ _ _ _ _ us hl => match us, hl with | [_, _], _ => rfl
  have bClass := FClass.binds (ps := ["error"]) fun _ _ _ _ _ _ us hl => match us, hl with | [_], _ => rfl
  have bErr := FErr.binds (ps := ["door", "graph", "labels", "value"]) fun _ _ _ _ _ _ us hl => match us, hl with | [_, _, _, _], _ => rfl
  have bNoG := FNoG.binds (ps := []) fun _ _ _ _ _ _ us hl => match us, hl with | [], _ => rfl
  have bNoL := FNoL.binds (ps := ["labels"]) fun _ _ _ _ _ _ us hl => match us, hl with | [_], _ => rfl
  have bNoS := FNoS.binds (ps := ["graph"]) fun _ _ _ _ _ _ us hl => match us, hl with | [_], _ => rfl
  have bNoP := FNoP.binds (ps := ["graph", "lists"]) fun _ _ _ _ _ _ us hl => match us, hl with | [_, _], _ => rfl
  refine ⟨PySem.W.fnOf "law" "law" (defArgs sLaw) (defBody sLaw) (defScope sLaw) .none kV dc pm an cd ct, fun s v => .of_eq rfl, fun base _ _ => ?_⟩
  have GInt : FnOk l.prog w K mg base CX0 1 fInt fdInt ["thing"] spInt := ok_int FInt (none' z_isinstance) (none' z_int) (none' z_bool)
  have GAsc : FnOk l.prog w K mg base CX0 1 fAsc fdAsc ["edges"] spAsc := ok_asc FAsc (none' z_all) (none' z_zip)
  have GCyc : FnOk l.prog w K mg base CX0 1 fCyc fdCyc ["n", "edges"] spCyc := ok_cyc FCyc (none' z_list) (none' z_range)
  have GSource : FnOk l.prog w K mg base CX0 1 fSource fdSource ["script", "k"] (spSource K) := ok_source FSource (none' z_len) (none' z_max) (none' z_abs)
  have GPick : FnOk l.prog w K mg base CX0 1 fPick fdPick ["source", "wide"] spPick := ok_pick FPick 
  have GLists : FnOk l.prog w K mg base CX0 1 fLists fdLists ["forest"] spLists := ok_lists FLists (none' z_range)
  have GNear : FnOk l.prog w K mg base CX0 1 fNear fdNear ["graph"] spNear := ok_near FNear (none' z_range) (none' z_sorted)
  have GLeast : FnOk l.prog w K mg base CX0 1 fLeast fdLeast ["edges", "turns"] spLeast := ok_least FLeast (none' z_list) (none' z_min)
  have GItem : FnOk l.prog w K mg base CX0 1 fItem fdItem ["thing"] spItem := ok_item FItem (none' z_isinstance) (none' z_str) (none' z_len) (none' z_all) (PySem.W.mg_of X G nMOST_LETTERS)
  have GSwapped : FnOk l.prog w K mg base CX0 1 fSwapped fdSwapped ["items", "edges"] spSwap := ok_swapped FSwapped (none' z_list)
  have GClass : FnOk l.prog w K mg base CX0 1 fClass fdClass ["error"] (spClass cF cA cO cT) := ok_class (cF := cF) (cA := cA) (cO := cO) (cT := cT) (cE := cE) (cI := cI) (cN := cN) (cB := cB) (cP := cP) (cX := cX) (cH := cH) (cR := cR) (cM := cM) (cS := cS) FClass ⟨xcF, PySem.W.mg_of X G xcF.g⟩ ⟨xcA, PySem.W.mg_of X G xcA.g⟩ ⟨xcO, PySem.W.mg_of X G xcO.g⟩ ⟨xcT, PySem.W.mg_of X G xcT.g⟩ (PySem.W.mg_of X G nNoEdge) (PySem.W.mg_of X G nNoItem) (PySem.W.mg_of X G nNoNumber) (PySem.W.mg_of X G nNoObservation) (PySem.W.mg_of X G nNoPosition) (PySem.W.mg_of X G nNoText) (PySem.W.mg_of X G nNothing) (PySem.W.mg_of X G nNotReached) (PySem.W.mg_of X G nTooMany) uF uA uO uT (none' z_isinstance) (none' z_len) (none' z_ValueError)
  have GNoG : FnOk l.prog w K mg base CX0 1 fNoG fdNoG [] spNoG := ok_noG FNoG 
  have GNoL : FnOk l.prog w K mg base CX0 1 fNoL fdNoL ["labels"] spNoL := ok_noL FNoL (none' z_tuple) (none' z_len)
  have GNoS : FnOk l.prog w K mg base CX0 1 fNoS fdNoS ["graph"] spNoS := ok_noS FNoS (none' z_tuple) (none' z_str) (none' z_range) (none' z_int) (none' z_len)
  have GNoP : FnOk l.prog w K mg base CX0 1 fNoP fdNoP ["graph", "lists"] spNoP := ok_noP FNoP (none' z_tuple) (none' z_enumerate) (none' z_len)
  have GPos : FnOk l.prog w K mg base CX0 2 fPos fdPos ["n", "thing"] spPos := ok_pos FPos (GInt.mono (by decide)) FInt bInt (ref' dInt.1)
  have GShuf : FnOk l.prog w K mg base CX0 2 fShuf fdShuf ["source", "values"] spShuf := ok_shuf FShuf (GPick.mono (by decide)) FPick bPick (ref' dPick.1) (none' z_list) (none' z_len) (none' z_range)
  have GArr : FnOk l.prog w K mg base CX0 2 fArr fdArr ["n", "thing"] spArr := ok_arr FArr (GItem.mono (by decide)) FItem bItem (ref' dItem.1) (none' z_isinstance) (none' z_list) (none' z_len) (none' z_all) (none' z_set)
  have GLabels : FnOk l.prog w K mg base CX0 2 fLabels fdLabels ["source", "size"] spLabels := ok_labels FLabels (GPick.mono (by decide)) FPick bPick (ref' dPick.1) (none' z_list) (none' z_len) (none' z_range)
  have GEdge : FnOk l.prog w K mg base CX0 3 fEdge fdEdge ["n", "thing"] spEdge := ok_edge FEdge (GPos.mono (by decide)) FPos bPos (ref' dPos.1) (none' z_isinstance) (none' z_tuple) (none' z_len)
  have GGraph : FnOk l.prog w K mg base CX0 3 fGraph fdGraph ["source", "most"] spGraph := ok_graph FGraph (GPick.mono (by decide)) FPick bPick (ref' dPick.1) (GShuf.mono (by decide)) FShuf bShuf (ref' dShuf.1) (none' z_range) (none' z_list) (none' z_max) (none' z_min) (none' z_sorted)
  have GIsTurn : FnOk l.prog w K mg base CX0 3 fIsTurn fdIsTurn ["n", "nearby", "thing"] spIsTurn := ok_isturn FIsTurn (GPos.mono (by decide)) FPos bPos (ref' dPos.1) (none' z_isinstance) (none' z_list) (none' z_all) (none' z_sorted)
  have GPerms : FnOk l.prog w K mg base CX0 3 fPerms fdPerms ["source", "graph"] spPerms := ok_perms FPerms (GNear.mono (by decide)) FNear bNear (ref' dNear.1) (GShuf.mono (by decide)) FShuf bShuf (ref' dShuf.1)
  have GChkA : FnOk l.prog w K mg base CX0 3 fChkA fdChkA ["n", "items"] spChkA := ok_chkA FChkA (GArr.mono (by decide)) FArr bArr (ref' dArr.1)
  have GChkAX1 : FnOk l.prog w K mg base (L2.CX l.prog w) 3 fChkA fdChkA ["n", "items"] (spChkAN cA) := bad_chkA (cA := cA) (cS := cS) FChkA (GArr.mono (by decide)) FArr bArr (ref' dArr.1) ⟨xcA, PySem.W.mg_of X G xcA.g⟩
  have GForest : FnOk l.prog w K mg base CX0 4 fForest fdForest ["thing"] spForest := ok_forest FForest (GInt.mono (by decide)) FInt bInt (ref' dInt.1) (GEdge.mono (by decide)) FEdge bEdge (ref' dEdge.1) (GAsc.mono (by decide)) FAsc bAsc (ref' dAsc.1) (GCyc.mono (by decide)) FCyc bCyc (ref' dCyc.1) (none' z_isinstance) (none' z_tuple) (none' z_len) (none' z_list) (none' z_all) (PySem.W.mg_of X G nMOST_POSITIONS)
  have GIsOrd : FnOk l.prog w K mg base CX0 4 fIsOrd fdIsOrd ["forest", "thing"] spIOd := ok_isord FIsOrd (GEdge.mono (by decide)) FEdge bEdge (ref' dEdge.1) (none' z_isinstance) (none' z_list) (none' z_all) (none' z_sorted)
  have GForestX1 : FnOk l.prog w K mg base CX0 4 fForest fdForest ["thing"] spForD := ok_forD FForest (GInt.mono (by decide)) FInt bInt (ref' dInt.1) (GEdge.mono (by decide)) FEdge bEdge (ref' dEdge.1) (GAsc.mono (by decide)) FAsc bAsc (ref' dAsc.1) (GCyc.mono (by decide)) FCyc bCyc (ref' dCyc.1) (none' z_isinstance) (none' z_tuple) (none' z_len) (none' z_list) (none' z_all) (PySem.W.mg_of X G nMOST_POSITIONS)
  have GChkF : FnOk l.prog w K mg base CX0 5 fChkF fdChkF ["forest"] spChkF := ok_chkF FChkF (GForest.mono (by decide)) FForest bForest (ref' dForest.1)
  have GChkFX1 : FnOk l.prog w K mg base (L2.CX l.prog w) 5 fChkF fdChkF ["forest"] (spChkFN cF) := bad_chkF (cF := cF) (cS := cS) FChkF (GForestX1.mono (by decide)) FForest bForest (ref' dForest.1) ⟨xcF, PySem.W.mg_of X G xcF.g⟩
  have GChkO : FnOk l.prog w K mg base CX0 5 fChkO fdChkO ["forest", "order"] spChkO := ok_chkO FChkO (GIsOrd.mono (by decide)) FIsOrd bIsOrd (ref' dIsOrd.1)
  have GChkOX1 : FnOk l.prog w K mg base (L2.CX l.prog w) 5 fChkO fdChkO ["forest", "order"] (spChkON cO) := bad_chkO (cO := cO) (cS := cS) FChkO (GIsOrd.mono (by decide)) FIsOrd bIsOrd (ref' dIsOrd.1) ⟨xcO, PySem.W.mg_of X G xcO.g⟩
  have GIsTurns : FnOk l.prog w K mg base CX0 6 fIsTurns fdIsTurns ["forest", "thing"] spIsTurns := ok_isturns FIsTurns (GChkF.mono (by decide)) FChkF bChkF (ref' dChkF.1) (GLists.mono (by decide)) FLists bLists (ref' dLists.1) (GIsTurn.mono (by decide)) FIsTurn bIsTurn (ref' dIsTurn.1) (none' z_isinstance) (none' z_list) (none' z_all) (none' z_len) (none' z_zip)
  have GTo : FnOk l.prog w K mg base CX0 6 fTo fdTo ["forest", "order"] spTo := ok_to FTo (GChkF.mono (by decide)) FChkF bChkF (ref' dChkF.1) (GChkO.mono (by decide)) FChkO bChkO (ref' dChkO.1) (none' z_range)
  have GIsTurnsX1 : FnOk l.prog w K mg base (L2.CX l.prog w) 6 fIsTurns fdIsTurns ["forest", "thing"] (spIsTN cF) := bad_isturns (cF := cF) FIsTurns (GChkFX1.mono (by decide)) FChkF bChkF (ref' dChkF.1)
  have GToX1 : FnOk l.prog w K mg base (L2.CX l.prog w) 6 fTo fdTo ["forest", "order"] (spToN cF cO) := bad_to (cF := cF) (cO := cO) FTo (GChkF.mono (by decide)) FChkF bChkF (ref' dChkF.1) (GChkFX1.mono (by decide)) (GChkOX1.mono (by decide)) FChkO bChkO (ref' dChkO.1)
  have GChkT : FnOk l.prog w K mg base CX0 7 fChkT fdChkT ["forest", "turns"] spChkT := ok_chkT FChkT (GIsTurns.mono (by decide)) FIsTurns bIsTurns (ref' dIsTurns.1)
  have GChkTX1 : FnOk l.prog w K mg base (L2.CX l.prog w) 7 fChkT fdChkT ["forest", "turns"] (spChkTN cT) := bad_chkT (cT := cT) (cS := cS) FChkT (GIsTurns.mono (by decide)) FIsTurns bIsTurns (ref' dIsTurns.1) ⟨xcT, PySem.W.mg_of X G xcT.g⟩
  have GAfter : FnOk l.prog w K mg base CX0 8 fAfter fdAfter ["forest", "items", "turns"] spAfter := ok_after FAfter (GChkF.mono (by decide)) FChkF bChkF (ref' dChkF.1) (GChkA.mono (by decide)) FChkA bChkA (ref' dChkA.1) (GChkT.mono (by decide)) FChkT bChkT (ref' dChkT.1) (GSwapped.mono (by decide)) FSwapped bSwapped (ref' dSwapped.1) (GLeast.mono (by decide)) FLeast bLeast (ref' dLeast.1)
  have GOT : FnOk l.prog w K mg base (L2.CX l.prog w) 8 fOT fdOT ["forest", "turns"] (spOTN cF cT) := bad_ot (cF := cF) (cT := cT) FOT (GChkF.mono (by decide)) FChkF bChkF (ref' dChkF.1) (GChkFX1.mono (by decide)) (GChkTX1.mono (by decide)) FChkT bChkT (ref' dChkT.1)
  have GAfterX1 : FnOk l.prog w K mg base (L2.CX l.prog w) 8 fAfter fdAfter ["forest", "items", "turns"] (spAftN cF cA cT) := bad_after (cF := cF) (cA := cA) (cT := cT) FAfter (GChkF.mono (by decide)) FChkF bChkF (ref' dChkF.1) (GChkFX1.mono (by decide)) (GChkA.mono (by decide)) FChkA bChkA (ref' dChkA.1) (GChkAX1.mono (by decide)) (GChkTX1.mono (by decide)) FChkT bChkT (ref' dChkT.1)
  have GOTX1 : FnOk l.prog w K mg base CX0 8 fOT fdOT ["forest", "turns"] spOTV := ok_otV FOT (GChkF.mono (by decide)) FChkF bChkF (ref' dChkF.1) (GChkT.mono (by decide)) FChkT bChkT (ref' dChkT.1) (GLeast.mono (by decide)) FLeast bLeast (ref' dLeast.1)
  have GErr : FnOk l.prog w K mg base CX0 9 fErr fdErr ["door", "graph", "labels", "value"] (spErr cF cA cO cT) := ok_err (cF := cF) (cA := cA) (cO := cO) (cT := cT) (cS := cS) FErr (GIsTurns.mono (by decide)) FIsTurns bIsTurns (ref' dIsTurns.1) (GIsTurnsX1.mono (by decide)) (GTo.mono (by decide)) FTo bTo (ref' dTo.1) (GToX1.mono (by decide)) (GAfter.mono (by decide)) FAfter bAfter (ref' dAfter.1) (GAfterX1.mono (by decide)) (GOTX1.mono (by decide)) FOT bOT (ref' dOT.1) (GOT.mono (by decide)) (GClass.mono (by decide)) FClass bClass (ref' dClass.1) ⟨xcF, PySem.W.mg_of X G xcF.g⟩ ⟨xcA, PySem.W.mg_of X G xcA.g⟩ ⟨xcO, PySem.W.mg_of X G xcO.g⟩ ⟨xcT, PySem.W.mg_of X G xcT.g⟩ (PySem.W.mg_of X G nSwapError)
  exact ok_law (cF := cF) (cA := cA) (cO := cO) (cT := cT) FLaw (GSource.mono (by decide)) FSource bSource (ref' dSource.1) (GGraph.mono (by decide)) FGraph bGraph (ref' dGraph.1) (GPick.mono (by decide)) FPick bPick (ref' dPick.1) (GPerms.mono (by decide)) FPerms bPerms (ref' dPerms.1) (GLabels.mono (by decide)) FLabels bLabels (ref' dLabels.1) (GNoG.mono (by decide)) FNoG bNoG (ref' dNoG.1) (GNoL.mono (by decide)) FNoL bNoL (ref' dNoL.1) (GNoS.mono (by decide)) FNoS bNoS (ref' dNoS.1) (GNoP.mono (by decide)) FNoP bNoP (ref' dNoP.1) (GShuf.mono (by decide)) FShuf bShuf (ref' dShuf.1) (GErr.mono (by decide)) FErr bErr (ref' dErr.1) (none' z_range) (none' z_repr) (none' z_len)
end
end K15
open PySem PySem.W PyProof.Rows
set_option maxHeartbeats 0 in
theorem PySem.Challenge.cw_onceswapped_k15_errors_of_turns_holds : PySem.Challenge.rw_onceswapped_k15_errors_of_turns.Holds := by
  w_on; o_law; k_head; (case hw => w_witness2)
  k_fill
  refine Os.walk_ofG (l := PySem.Challenge.rw_onceswapped_k15_errors_of_turns) (n := 63) (k := 10) (x := "script") (sp := fun w => K15.spLaw _) rfl (by decide) rfl ⟨rfl, by decide, by decide⟩ (fun w h Y => PySem.W.kIn_of Y) ?F (fun _ _ a ns hl _ hS => ⟨a, ns, rfl, hS, hl, fun _ => rfl⟩)
  case F =>
    intro w mg fa h KX G hmg
    refine' K15.all_mk KX G hmg ?nMOST_POSITIONS ?nMOST_LETTERS ?nNoEdge ?nNoItem ?nNoNumber ?nNoObservation ?nNoPosition ?nNoText ?nNothing ?nNotReached ?nTooMany ?nSwapError ?xcF ?xcA ?xcO ?xcT ?uF ?uA ?uO ?uT ?dInt ?dPos ?dEdge ?dAsc ?dCyc ?dForest ?dSource ?dPick ?dShuf ?dGraph ?dChkF ?dLists ?dIsTurn ?dIsTurns ?dNear ?dPerms ?dLeast ?dItem ?dArr ?dChkA ?dLabels ?dSwapped ?dChkT ?dAfter ?dIsOrd ?dChkO ?dTo ?dOT ?dClass ?dErr ?dNoG ?dNoL ?dNoS ?dNoP ?a13 ?l13 ?c13 ?k13 ?zisinstance ?zint ?zbool ?ztuple ?zlen ?zall ?zzip ?zlist ?zrange ?zmax ?zabs ?zmin ?zsorted ?zstr ?zset ?zValueError ?zenumerate ?zrepr
    (case nMOST_POSITIONS => k_is)
    (case nMOST_LETTERS => k_is)
    (case nNoEdge => k_is)
    (case nNoItem => k_is)
    (case nNoNumber => k_is)
    (case nNoObservation => k_is)
    (case nNoPosition => k_is)
    (case nNoText => k_is)
    (case nNothing => k_is)
    (case nNotReached => k_is)
    (case nTooMany => k_is)
    (case nSwapError => k_is)
    (case xcF => refine' L2.ErrK.mk ?g ?xc ?kp ?sub ?ty ?hg ?hk ?hd ?ha ?hn ?ht ?hm ?sw; (case g => k_is); (case xc => k_exc); (case kp => k_is); (case sub => k_is); (case ty => k_is); (case hg => k_is); (case hk => k_is); (case hd => k_is); (case ha => k_is); (case hn => k_is); (case ht => k_is); (case hm => k_is); (case sw => refine' K15.exm_kit ?s1 ?s2 rfl; (case s1 => k_is); (case s2 => kit_is)))
    (case xcA => refine' L2.ErrK.mk ?g ?xc ?kp ?sub ?ty ?hg ?hk ?hd ?ha ?hn ?ht ?hm ?sw; (case g => k_is); (case xc => k_exc); (case kp => k_is); (case sub => k_is); (case ty => k_is); (case hg => k_is); (case hk => k_is); (case hd => k_is); (case ha => k_is); (case hn => k_is); (case ht => k_is); (case hm => k_is); (case sw => refine' K15.exm_kit ?s1 ?s2 rfl; (case s1 => k_is); (case s2 => kit_is)))
    (case xcO => refine' L2.ErrK.mk ?g ?xc ?kp ?sub ?ty ?hg ?hk ?hd ?ha ?hn ?ht ?hm ?sw; (case g => k_is); (case xc => k_exc); (case kp => k_is); (case sub => k_is); (case ty => k_is); (case hg => k_is); (case hk => k_is); (case hd => k_is); (case ha => k_is); (case hn => k_is); (case ht => k_is); (case hm => k_is); (case sw => refine' K15.exm_kit ?s1 ?s2 rfl; (case s1 => k_is); (case s2 => kit_is)))
    (case xcT => refine' L2.ErrK.mk ?g ?xc ?kp ?sub ?ty ?hg ?hk ?hd ?ha ?hn ?ht ?hm ?sw; (case g => k_is); (case xc => k_exc); (case kp => k_is); (case sub => k_is); (case ty => k_is); (case hg => k_is); (case hk => k_is); (case hd => k_is); (case ha => k_is); (case hn => k_is); (case ht => k_is); (case hm => k_is); (case sw => refine' K15.exm_kit ?s1 ?s2 rfl; (case s1 => k_is); (case s2 => kit_is)))
    (case uF => refine' K15.ClsU.mk ?u1 ?u2 ?u3 ?u4 ?u5 ?u6 ?u7; (case u1 => kit_is); (case u2 => kit_is); (case u3 => kit_is); (case u4 => kit_is); (case u5 => kit_is); (case u6 => kit_is); (case u7 => kit_is))
    (case uA => refine' K15.ClsU.mk ?u1 ?u2 ?u3 ?u4 ?u5 ?u6 ?u7; (case u1 => kit_is); (case u2 => kit_is); (case u3 => kit_is); (case u4 => kit_is); (case u5 => kit_is); (case u6 => kit_is); (case u7 => kit_is))
    (case uO => refine' K15.ClsU.mk ?u1 ?u2 ?u3 ?u4 ?u5 ?u6 ?u7; (case u1 => kit_is); (case u2 => kit_is); (case u3 => kit_is); (case u4 => kit_is); (case u5 => kit_is); (case u6 => kit_is); (case u7 => kit_is))
    (case uT => refine' K15.ClsU.mk ?u1 ?u2 ?u3 ?u4 ?u5 ?u6 ?u7; (case u1 => kit_is); (case u2 => kit_is); (case u3 => kit_is); (case u4 => kit_is); (case u5 => kit_is); (case u6 => kit_is); (case u7 => kit_is))
    (case dInt => refine' K15.Def.of ?a ?l ?c ?k; (case a => k_is); (case l => k_is); (case c => k_is); (case k => k_is))
    (case dPos => refine' K15.Def.of ?a ?l ?c ?k; (case a => k_is); (case l => k_is); (case c => k_is); (case k => k_is))
    (case dEdge => refine' K15.Def.of ?a ?l ?c ?k; (case a => k_is); (case l => k_is); (case c => k_is); (case k => k_is))
    (case dAsc => refine' K15.Def.of ?a ?l ?c ?k; (case a => k_is); (case l => k_is); (case c => k_is); (case k => k_is))
    (case dCyc => refine' K15.Def.of ?a ?l ?c ?k; (case a => k_is); (case l => k_is); (case c => k_is); (case k => k_is))
    (case dForest => refine' K15.Def.of ?a ?l ?c ?k; (case a => k_is); (case l => k_is); (case c => k_is); (case k => k_is))
    (case dSource => refine' K15.Def.of ?a ?l ?c ?k; (case a => k_is); (case l => k_is); (case c => k_is); (case k => k_is))
    (case dPick => refine' K15.Def.of ?a ?l ?c ?k; (case a => k_is); (case l => k_is); (case c => k_is); (case k => k_is))
    (case dShuf => refine' K15.Def.of ?a ?l ?c ?k; (case a => k_is); (case l => k_is); (case c => k_is); (case k => k_is))
    (case dGraph => refine' K15.Def.of ?a ?l ?c ?k; (case a => k_is); (case l => k_is); (case c => k_is); (case k => k_is))
    (case dChkF => refine' K15.Def.of ?a ?l ?c ?k; (case a => k_is); (case l => k_is); (case c => k_is); (case k => k_is))
    (case dLists => refine' K15.Def.of ?a ?l ?c ?k; (case a => k_is); (case l => k_is); (case c => k_is); (case k => k_is))
    (case dIsTurn => refine' K15.Def.of ?a ?l ?c ?k; (case a => k_is); (case l => k_is); (case c => k_is); (case k => k_is))
    (case dIsTurns => refine' K15.Def.of ?a ?l ?c ?k; (case a => k_is); (case l => k_is); (case c => k_is); (case k => k_is))
    (case dNear => refine' K15.Def.of ?a ?l ?c ?k; (case a => k_is); (case l => k_is); (case c => k_is); (case k => k_is))
    (case dPerms => refine' K15.Def.of ?a ?l ?c ?k; (case a => k_is); (case l => k_is); (case c => k_is); (case k => k_is))
    (case dLeast => refine' K15.Def.of ?a ?l ?c ?k; (case a => k_is); (case l => k_is); (case c => k_is); (case k => k_is))
    (case dItem => refine' K15.Def.of ?a ?l ?c ?k; (case a => k_is); (case l => k_is); (case c => k_is); (case k => k_is))
    (case dArr => refine' K15.Def.of ?a ?l ?c ?k; (case a => k_is); (case l => k_is); (case c => k_is); (case k => k_is))
    (case dChkA => refine' K15.Def.of ?a ?l ?c ?k; (case a => k_is); (case l => k_is); (case c => k_is); (case k => k_is))
    (case dLabels => refine' K15.Def.of ?a ?l ?c ?k; (case a => k_is); (case l => k_is); (case c => k_is); (case k => k_is))
    (case dSwapped => refine' K15.Def.of ?a ?l ?c ?k; (case a => k_is); (case l => k_is); (case c => k_is); (case k => k_is))
    (case dChkT => refine' K15.Def.of ?a ?l ?c ?k; (case a => k_is); (case l => k_is); (case c => k_is); (case k => k_is))
    (case dAfter => refine' K15.Def.of ?a ?l ?c ?k; (case a => k_is); (case l => k_is); (case c => k_is); (case k => k_is))
    (case dIsOrd => refine' K15.Def.of ?a ?l ?c ?k; (case a => k_is); (case l => k_is); (case c => k_is); (case k => k_is))
    (case dChkO => refine' K15.Def.of ?a ?l ?c ?k; (case a => k_is); (case l => k_is); (case c => k_is); (case k => k_is))
    (case dTo => refine' K15.Def.of ?a ?l ?c ?k; (case a => k_is); (case l => k_is); (case c => k_is); (case k => k_is))
    (case dOT => refine' K15.Def.of ?a ?l ?c ?k; (case a => k_is); (case l => k_is); (case c => k_is); (case k => k_is))
    (case dClass => refine' K15.Def.of ?a ?l ?c ?k; (case a => k_is); (case l => k_is); (case c => k_is); (case k => k_is))
    (case dErr => refine' K15.Def.of ?a ?l ?c ?k; (case a => k_is); (case l => k_is); (case c => k_is); (case k => k_is))
    (case dNoG => refine' K15.Def.of ?a ?l ?c ?k; (case a => k_is); (case l => k_is); (case c => k_is); (case k => k_is))
    (case dNoL => refine' K15.Def.of ?a ?l ?c ?k; (case a => k_is); (case l => k_is); (case c => k_is); (case k => k_is))
    (case dNoS => refine' K15.Def.of ?a ?l ?c ?k; (case a => k_is); (case l => k_is); (case c => k_is); (case k => k_is))
    (case dNoP => refine' K15.Def.of ?a ?l ?c ?k; (case a => k_is); (case l => k_is); (case c => k_is); (case k => k_is))
    (case a13 => k_is); (case l13 => k_is); (case c13 => k_is); (case k13 => k_is)
    (case zisinstance => k_is); (case zint => k_is); (case zbool => k_is); (case ztuple => k_is); (case zlen => k_is); (case zall => k_is); (case zzip => k_is); (case zlist => k_is); (case zrange => k_is); (case zmax => k_is); (case zabs => k_is); (case zmin => k_is); (case zsorted => k_is); (case zstr => k_is); (case zset => k_is); (case zValueError => k_is); (case zenumerate => k_is); (case zrepr => k_is)
