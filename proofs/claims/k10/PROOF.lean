import PyProof.Rows.All
import Wide.All
import OpenK.AllK
import Wide.FinOn
import HandS.ForMost
import HandS.Wide
import HandS.IsInst
import HandS.Strs
import PyProof.ReprRoads
import PyProof.StrBlock2
import HandS.Evl
import HandS.Walk
import HandS.Conv
import HandS.Style
import HandS.TupSets
import PyProof.P3Eq
import PyProof.StrLawsRepr
import PyProof.Rows.StrCase
import PyProof.Rows.TmSorted
import HandS.Zip
import HandS.Deep
import HandS.List
import KE.DataMinMax
import KE.DataFind
import PyProof.ListStr
import PyProof.Rows.StrBin
import PyProof.Rows.StrDigitsNeg
import HandS.Gcd
import HandS.TupLen
import HandS.WideBits
import HandS.More
import HandS.Dict
import KE.SortData
import HandS.TryOnly
import HandS.SortInts
import HandS.Call
import PySem.Challenge.RW_onceswapped_k10_whole_orders_and_trees
set_option Elab.async false
set_option linter.all false
set_option maxRecDepth 100000
set_option maxHeartbeats 8000000
/-! guarded defs: a def's promise where no repr is under way (what repr of a list asks) -/
namespace Os
open PySem PySem.Spec PyProof.Rows L2

section
variable (P : Program) (w : World) (K : PySem.W.Frag) (mg : Str → Option Value) (base : Heap)
/-- the def at f keeps sp at every call that is made while no repr runs -/
structure FnG (k : Nat) (f : Addr) (fd : FuncData) (ps : List Str) (sp : Sp) : Prop where
  arity : ∀ vs H Q E, sp vs H Q E → vs.length = ps.length
  runs : ∀ (B : Around) (out : List Env) (st : Shared) (H : Hp) (ar : Args) (us : List Value) (vs : List V) (Q : VK) (E : XK),
    B.guards = some [] → Room k B → Env0 P w K mg base B out st H →
    BindsTo st fd ar (ps.zip us) → Vals vs us → sp vs H Q E →
    codeAny (model P w) B (.call (.ref f) ar) (CR CX0 out P w H st Q E) st
end

section
variable {P : Program} {w : World} {K : PySem.W.Frag} {mg : Str → Option Value} {base : Heap}

theorem FnG.of {k : Nat} {f : Addr} {fd : FuncData} {ps : List Str} {sp : Sp}
    (F : FnOk P w K mg base CX0 k f fd ps sp) : FnG P w K mg base k f fd ps sp :=
  ⟨F.len, fun B out st H ar us vs Q E _ => F.run B out st H ar us vs Q E⟩

theorem FnG.mono {j k : Nat} {f : Addr} {fd : FuncData} {ps : List Str} {sp : Sp} (F : FnG P w K mg base j f fd ps sp) (h : j ≤ k) : FnG P w K mg base k f fd ps sp :=
  ⟨F.arity, fun B out st H ar us vs Q E gd hr => F.runs B out st H ar us vs Q E gd (hr.mono h)⟩
/-- the rule for a def, the guards told to its body -/
theorem okG {x qual : Str} {st : Stmt} {f : Addr} {fd : FuncData} {N ps : List Str} {k : Nat} {sp : Sp}
    (F : Fun K x qual st f fd) (S : FnScope N ps (defScope st))
    (ar : ∀ vs H Q E, sp vs H Q E → vs.length = ps.length)
    (body : ∀ (cdv : Value) (B : Around) (out : List Env) (s : Shared) (H : Hp) (vs : List V) (Q : VK) (E : XK),
      B.guards = some [] → Room k (B.deeper (envOfC qual (defScope st) s.heap.objs.size f cdv)) → sp vs H Q E →
      ∃ t, PSs (cxOf CX0 P w K mg base N qual (defScope st) f cdv B out s H E).nox (defBody st) t ∧
        t { nx := fun _ H' => Q .non H', rt := Q } (start N vs) H) :
    FnG P w K mg base (k + 1) f fd ps sp := by
  obtain ⟨oc, od, kV, doc, pm, an, cd, ct, sl, efd, look, code⟩ := F.ex
  subst efd
  refine ⟨ar, ?_⟩
  intro B out s H args us vs Q E gd hr e0 hb rel hsp
  have hlen := ar _ _ _ _ hsp
  have inK : K.In s.heap := e0.mod.kin.keeps fun b o q => (e0.bs b o q).1
  have lim : s.heap.NoLimit :=
    e0.mod.nolimit.keeps fun b o q => (e0.bs b o q).1
  have kinds : ∀ y ∈ ps.zip us, (defScope st).names.lookup y.1 = some .local ∨
      ((defScope st).names.lookup y.1 = some .cell ∧ ((cellsFrom (s.heap.objs.size + 1) (defScope st).names []).lookup y.1).isSome = true) := by
    rintro ⟨n, v⟩ hy
    cases S.par n (List.of_mem_zip hy).1 with
    | inl q => exact .inl q
    | inr q => exact .inr ⟨q, PySem.W.cellsFrom_some _ _ _ (.inl q)⟩
  refine codeAny_call_function hr.depth (inK _ _ look) rfl S.co S.gen rfl (PySem.W.codeRec_of inK code) (hb _ _ _ _ ?_)
  refine wpAny_newFunctionEnv_cells S.kind kinds fun env ee s1 x => ?_
  cases ee
  refine ⟨lim.keeps x.toInCall.keep, codeAny_func ?_⟩
  obtain ⟨t, ht, hq⟩ := body cd B out s H vs Q E gd (hr.deeper _) hsp
  have I := inv_start (CX := CX0) (E := E) S hr.hd e0 hlen rel x
  refine wpAny_mono (ht.nox.run [] s1 (start N vs) H _ I hq) (fun fl s' hs => ?_) (fun _ _ z => z)
  cases fl with
  | ret u =>
    obtain ⟨v, sg, H', J, rv, q⟩ := hs
    exact ⟨v, H', J.os, J.bare, J.base, J.hok, rv, q⟩
  | next =>
    obtain ⟨sg, H', J, q⟩ := hs
    exact ⟨V.non, H', J.os, J.bare, J.base, J.hok, rfl, q⟩
  | brk => exact (hs.elim fun _ z => z.elim fun _ z => z.2).elim
  | cont => exact (hs.elim fun _ z => z.elim fun _ z => z.2).elim
end

section
variable {X : Cx} {k : Nat} {f : Addr} {fd : FuncData} {ps : List Str} {sp : Sp} {x : Str} {p pos : Pos} {e : Expr} {es : List Expr} {t : TA}
/-- a call of such a def -/
theorem pe_callG (F : FnG X.prog X.w X.K X.mg X.base k f fd ps sp) (gd : X.A.guards = some []) (hr : Room k X.A) (hg : Gl X x)
    (hm : X.mg x = some (.ref f)) (hk : PySem.W.keepIn X.K (.ref f) = true) (hb : Binds X.K fd ps [])
    (ha : PA X (e :: es) t) (hdb : (x == ("__debug__" : Str)) = false := by decide)
    (he : starEach (e :: es) X.env = (false, eval e X.env) :: starEach es X.env := by rfl)
    (hpl : (backTo pos (starEach es X.env)).any (·.1) = false := by rfl) :
    PE X (.Call (.Name x p) (e :: es) [] pos) (tCall sp [] E0 t) := by
  constructor
  intro pins s sg H Q I h
  refine wpAny_Call_Name_kw (ld_glob I hg hm ?_ hdb)
  refine PySem.W.callWith_K (h₀ := X.base) I.ok.mod.kin hk (thn (ha.run pos pins s sg H _ I h) ?_) he hpl
  rintro us s1 ⟨vs, H1, I1, r, q⟩
  refine ⟨I1.kIn, ?_⟩
  have r2 : Vals (vs ++ []) (us ++ []) := r.append .nil
  have hl : (us ++ []).length = ps.length := by
    rw [← r2.length]
    exact F.arity _ _ _ _ q
  refine wpAny_call (codeAny_mono (F.runs X.A X.stack s1 H1 ⟨us, []⟩ (us ++ []) (vs ++ []) Q E0 gd hr I1.env0 (hb s1 us I1.kIn hl) r2 q) ?_)
  intro rr s' hq
  match rr, hq with
  | .ok (.ret u), hq => exact I1.after hq
  | .ok .next, hq => exact hq.elim
  | .ok .brk, hq => exact hq.elim
  | .ok .cont, hq => exact hq.elim
  | .error _, hq => exact hq.elim
end

section
variable {P : Program} {w : World} {K : PySem.W.Frag} {mg mb : Str → Option Value} {k : Nat} {fa a : Addr} {fd : FuncData} {x : Str} {sp : Sp} {s1 : Shared} {vs : List Value} {ns : List Int}
/-- the heap that tracks at most the script -/
structure Bare (K : PySem.W.Frag) (a : Addr) (o : Obj) (h : Heap) (H : Hp) : Prop where
  only : Only H
  at' : ∀ b, H b ≠ none → b = a
  out : H a ≠ none → K.lookup a = none
theorem Bare.stay {o : Obj} {h : Heap} {H : Hp} (B : Bare K a o h H) (ho : h.get? a = some o) {b : Addr} {q : Obj} (e : h.get? b = some q) (no : b = a → q ≠ o) : H b = none :=
  Decidable.byContradiction fun z => by
    have eb := B.at' b z
    rw [eb, ho] at e
    exact no eb (Option.some.inj e).symm
theorem law_run (KX : K.In s1.heap) (hns : s1.heap.Ns mainGlobals mg) (hb : s1.heap.Ns builtinsNs mb)
    (hbb : ∀ x : Str, x ≠ "__name__" → mb x = bootBuiltins x) (hlim : s1.heap.NoLimit) (hg : s1.gens = #[])
    (ha : s1.heap.get? a = some { cls := .type "list", data := .seq vs.toArray }) {H : Hp} (B : Bare K a { cls := .type "list", data := .seq vs.toArray } s1.heap H)
    (ok : HOk P w H s1.heap) (hr : Room k callerA)
    (F : ∀ base : Heap, K.In base → base.Ns mainGlobals mg → FnG P w K mg base k fa fd [x] sp)
    (hbind : ∀ (s : Shared) (u : Value), BindsTo s fd ⟨[u], []⟩ [(x, u)])
    (hsp : sp [.ref a] H (fun v _ => v = .bl true) fun _ _ _ => False) :
    codeAny (model P w) callerA (.call (.ref fa) ⟨[.ref a], []⟩)
      (fun r s' => r = .ok (.ret (.bool true)) ∧ OldK s1.heap s'.heap ∧ s'.os = s1.os ∧ AllBare s'.gens) s1 := by
  have dictStays : ∀ {b : Addr} {m : Str → Option Value}, s1.heap.Ns b m → (hidT s1.heap H).Ns b m := by
    rintro b m ⟨o, es, ep, e, d, r⟩
    refine ⟨o, es, ep, hidT_get e (B.stay ha e fun _ z => ?_), d, r⟩
    subst z
    exact nomatch (show Data.seq vs.toArray _ = Data.dict es ep from d)
  have keptK : K.In (hidT s1.heap H) := fun b o e => hidT_get (KX b o e) <| Decidable.byContradiction fun z => by
    have eb := B.at' b z
    subst eb
    have := B.out z
    rw [e] at this
    cases this
  have M : Mod K mg (hidT s1.heap H) := by
    obtain ⟨mc, h1, h2⟩ := hlim
    exact ⟨keptK, dictStays hns, ⟨mb, dictStays hb, hbb⟩, ⟨mc, dictStays h1, h2⟩⟩
  have e0 : Env0 P w K mg (hidT s1.heap H) callerA [] s1 H := {
    frames := rfl, mod := M, bs := fun b o e => of_hidT e, bsz := Nat.le_of_eq (hidT_size _ _), funs := trivial,
    frf := fun b z => absurd (show b ∈ ([] : List Addr) from z) (by simp), hok := ok, bare := .of_eq hg }
  refine codeAny_mono ((F _ keptK (dictStays hns)).runs callerA [] s1 H ⟨[.ref a], []⟩ [.ref a] [.ref a] _ _ rfl hr e0 (hbind s1 (.ref a)) (.cons rfl .nil) hsp) ?_
  intro r s' hq
  match r, hq with
  | .error _, hq => exact hq.elim
  | .ok .next, hq => exact hq.elim
  | .ok .brk, hq => exact hq.elim
  | .ok .cont, hq => exact hq.elim
  | .ok (.ret u), ⟨v, H', os, bare, un, ok', r', q⟩ =>
    have q1 : v = .bl true := q
    subst q1
    have ru : u = Value.bool true := r'
    subst ru
    refine ⟨rfl, OldK.of_keep fun b o e => ?_, os, bare⟩
    rcases B.only b with z | ⟨ob, xs, z⟩
    · exact un.keep b o e z (fun y => absurd (show b ∈ ([] : List Addr) from y) (by simp)) (by simp)
    · have e1 := (ok b _ z).1
      have e2 := (ok' b _ (un.frzs b ob _ z)).1
      rw [e] at e1
      rw [e2, e1]
theorem law_callG (KX : K.In s1.heap) (hns : s1.heap.Ns mainGlobals mg) (hb : s1.heap.Ns builtinsNs mb)
    (hbb : ∀ x : Str, x ≠ "__name__" → mb x = bootBuiltins x) (hlim : s1.heap.NoLimit) (hg : s1.gens = #[])
    (ha : s1.heap.get? a = some { cls := .type "list", data := .seq vs.toArray }) (hi : IntsAre vs ns) (hl : ns.length ≤ sizeLine) (hr : Room k callerA)
    (F : ∀ base : Heap, K.In base → base.Ns mainGlobals mg → FnG P w K mg base k fa fd [x] sp)
    (hbind : ∀ (s : Shared) (u : Value), BindsTo s fd ⟨[u], []⟩ [(x, u)])
    (hsp : ∀ H : Hp, Only H → SqL K H a (ns.map V.int) → sp [.ref a] H (fun v _ => v = .bl true) fun _ _ _ => False) :
    codeAny (model P w) callerA (.call (.ref fa) ⟨[.ref a], []⟩)
      (fun r s' => r = .ok (.ret (.bool true)) ∧ OldK s1.heap s'.heap ∧ s'.os = s1.os ∧ AllBare s'.gens) s1 := by
  have rv : Vals (ns.map V.int) vs := vals_ints hi
  have hlen : vs.length = ns.length := hi.length
  by_cases hk : ∃ o, K.lookup a = some o
  · obtain ⟨o, hk⟩ := hk
    have e := KX a o hk
    rw [ha] at e
    have eo := Option.some.inj e
    subst eo
    have hO : Only (fun _ => none) := fun _ => .inl rfl
    refine law_run KX hns hb hbb hlim hg ha (H := fun _ => none) ⟨hO, fun b z => absurd rfl z, fun z => absurd rfl z⟩ (fun b u z => nomatch (show (none : Option HO) = some u from z)) hr F hbind (hsp _ hO ?_)
    exact .inr ⟨_, vs.toArray, _, hk, rfl, rfl, rfl, by rw [List.size_toArray, hlen]; exact hl, by simpa using rv⟩
  · have hk0 : K.lookup a = none := Option.eq_none_iff_forall_ne_some.mpr fun o q => hk ⟨o, q⟩
    let H1 : Hp := upd (fun _ => none) a (.frz { cls := .type "list", data := .seq vs.toArray } (.lst (ns.map V.int)))
    have at1 : ∀ b, H1 b ≠ none → b = a := fun b z => Decidable.byContradiction fun n => z (upd_ne n)
    have hO : Only H1 := fun b => by
      by_cases n : b = a
      · exact .inr ⟨_, _, by rw [n]; exact upd_same⟩
      · exact .inl (upd_ne n)
    refine law_run KX hns hb hbb hlim hg ha (H := H1) ⟨hO, at1, fun _ => hk0⟩ (fun b u z => ?_) hr F hbind (hsp _ hO (.inl (.inr ⟨_, upd_same⟩)))
    have eb := at1 b (by rw [z]; exact fun q => nomatch q)
    subst eb
    have z2 : some (HO.frz { cls := .type "list", data := .seq vs.toArray } (.lst (ns.map V.int))) = some u := upd_same.symm.trans z
    cases z2
    exact ⟨ha, by rw [List.length_map]; exact hl, vs, _, rv, ha⟩

/-- the goal that k_head leaves, from the law's guarded promise -/
theorem walk_ofG {l : PySem.W.OpenLaw} {n k : Nat} {q : Program} {loose : List Str} {XP : (Str → Option Value) → Heap → Prop} {YP : World → Heap → Prop}
    {d : DefRec} {K : Params → PySem.W.Frag} {sp : World → Sp} {x : Str}
    (hn : l.most = some n) (hn2 : n ≤ sizeLine) (hdf : d.params.defaults = []) (hr : Room k callerA)
    (hY : ∀ (w : World) (h : Heap), YP w h → (K w.params).In h)
    (F : ∀ (w : World) (mg : Str → Option Value) (fa : Addr) (h : Heap), (K w.params).In h → h.Ns mainGlobals mg → mg d.name = some (.ref fa) →
      ∃ fd : FuncData, (∀ (s : Shared) (u : Value), BindsTo s fd ⟨[u], []⟩ [(x, u)]) ∧
        ∀ base : Heap, (K w.params).In base → base.Ns mainGlobals mg → FnG l.prog w (K w.params) mg base k fa fd [x] (sp w))
    (hsp : ∀ (w : World) (H : Hp) (a : Addr) (ns : List Int), ns.length ≤ n → Only H → SqL (K w.params) H a (ns.map V.int) →
      sp w [.ref a] H (fun v _ => v = .bl true) fun _ _ _ => False) :
    PySem.W.WalkO q loose XP YP l.row.toRowW d [] (fun f vs => PySem.call f vs) :=
  Att.attach_call hn hdf fun w s₀ s₁ mg mb fa o pm cd doc a vs ns G Y ho hd hcd hmg hobj hints hlen hg =>
    have KX := hY w _ Y
    match F w mg fa _ KX G.T.g hmg with
    | ⟨_, hb, hF⟩ => law_callG KX G.T.g G.T.b G.T.builtins G.T.nolimit hg hobj hints (Nat.le_trans hlen hn2) hr hF hb
        (fun H hO hS => hsp w H a ns hlen hO hS)
end

/-! ### a call by keywords alone, in the opposite order of the parameters -/
def revG (us ws : List Value) : List Value := match us with
  | [] => ws.reverse
  | _ => []
def revV (us ws : List V) : List V := match us with
  | [] => ws.reverse
  | _ => []
theorem Vals.rev : ∀ {vs : List V} {us : List Value}, Vals vs us → Vals vs.reverse us.reverse
  | _, _, .nil => .nil
  | _, _, .cons r t => by
    rw [List.reverse_cons, List.reverse_cons]
    exact Vals.append (Vals.rev t) (.cons r .nil)
theorem revK {K : PySem.W.Frag} {fd : FuncData} {ps ks : List Str} (hp : ps ≠ []) (h : ∀ ws : List Value, ws.length = ps.length → bindArgs fd ⟨[], ks.zip ws⟩ = pure (ps.zip ws.reverse)) : KBinds K fd ps ks revG revV where
  to := fun s us ws _ hl => by
    cases us with
    | nil => exact .of_eq (h ws (by rw [← hl]; exact (List.length_reverse).symm))
    | cons u us =>
      have hl' : ([] : List Value).length = ps.length := hl
      exact absurd (List.length_eq_zero_iff.mp hl'.symm) hp
  rel := fun {vs us zs ws} r1 r2 => by
    cases r1 with
    | nil => exact Vals.rev r2
    | cons _ _ => exact .nil
theorem funRevK {K : PySem.W.Frag} {x qual : Str} {st : Stmt} {f : Addr} {fd : FuncData} {ps ks : List Str} (F : Fun K x qual st f fd) (hp : ps ≠ [])
    (h : ∀ (kV doc pm : Value) (an : Option Addr) (cdv ct : Value) (ws : List Value), ws.length = ps.length →
      bindArgs (PySem.W.fnOf x qual (defArgs st) (defBody st) (defScope st) .none kV doc pm an cdv ct) ⟨[], ks.zip ws⟩ = pure (ps.zip ws.reverse)) : KBinds K fd ps ks revG revV := by
  obtain ⟨oc, od, kV, doc, pm, an, cd, ct, sl, efd, look, code⟩ := F.ex
  subst efd
  exact revK hp (h kV doc pm an cd ct)
section
variable {X : Cx} {CX : CXT} {k : Nat} {f : Addr} {fd : FuncData} {ps ks : List Str} {sp : Sp} {E : XK} {x : Str} {p pos : Pos} {kws : List Keyword} {tk : TA} {g : List Value → List Value → List Value} {gV : List V → List V → List V}
theorem pe_callK0 (F : FnOk X.prog X.w X.K X.mg X.base CX k f fd ps sp) (hr : Room k X.A) (hg : Gl X x) (hm : X.mg x = some (.ref f)) (hk : PySem.W.keepIn X.K (.ref f) = true)
    (hb : KBinds X.K fd ps ks g gV) (hx : Passes CX X E) (hkw : PK X kws tk)
    (hall : (backToKw pos (keywordEach kws X.env)).all (·.1.isSome) = true := by rfl)
    (hks : (backToKw pos (keywordEach kws X.env)).filterMap (·.1) = ks := by rfl)
    (hdb : (x == ("__debug__" : Str)) = false := by decide)
    (hpl : ((backTo pos (starEach [] X.env)).any (·.1) || (backToKw pos (keywordEach kws X.env)).any (·.1.isNone)) = false := by rfl) :
    PE X (.Call (.Name x p) [] kws pos) (tCallK sp gV E tNil tk) := by
  constructor
  intro pins s sg H Q I h
  refine wpAny_Call_Name_kw (ld_glob I hg hm ?_ hdb)
  refine PySem.W.callWith_KW0 (h₀ := X.base) I.ok.mod.kin hk hall (thn (hkw.run pos pins s sg H _ I h) ?_) hpl
  rintro ws s2 ⟨zs, H2, I2, rz, q2⟩
  refine ⟨I2.kIn, ?_⟩
  rw [hks]
  exact run_fnk (us := []) (vs := []) F hr hb hx I2 .nil rz q2
end
end Os
/-! further rules by values: ** of great ints, repr of data, len(set(texts)), text * int, a call by keywords alone -/
namespace Os
open PySem PySem.Spec PyProof.Rows L2

/-! ### great powers -/
section
variable {X : Cx}
theorem op_powW : OpR X (binaryOp .Pow) (rI (fun i j => 0 ≤ j ∧ (Builtin.Int.intBits i : Int) * j ≤ 2 ^ 27) fun i j => .int (i ^ j.toNat)) :=
  opI fun _ _ _ _ _ _ _ hc q => pow_int hc.1 hc.2 q
end
theorem cube_ok {i : Int} {n : Nat} (h : i.natAbs < 2 ^ n) (h0 : 0 < n) (hn : n ≤ 1000000) : (0 : Int) ≤ 3 ∧ (Builtin.Int.intBits i : Int) * 3 ≤ 2 ^ 27 := by
  have hl := PySem.Flt.log2_lt_of h0 h
  have hb : Builtin.Int.intBits i ≤ i.natAbs.log2 + 1 := by
    unfold Builtin.Int.intBits
    split <;> omega
  omega

/-! ### text * int -/
section
variable {X : Cx}
def rMulS : R2 := fun x y H Q => ∃ (z : Str) (n : Int), x = .str z ∧ y = .int n ∧ MulOk z n ∧ Q (.str (Txt.mul z n)) H
theorem op_mulS : OpR X (binaryOp .Mult) rMulS := by
  intro pins s sg H x y v u Q I rx ry h
  obtain ⟨z, n, rfl, rfl, ok, q⟩ := h
  obtain ⟨t, rfl⟩ := rx
  obtain ⟨t', rfl⟩ := ry
  exact PySem.SB.mul ok fun t2 k => ⟨.str _, H, I.tok _, ⟨_, rfl⟩, q⟩
theorem mul_small {z : Str} {n : Int} (h0 : 0 ≤ n) (h1 : n ≤ 1000) (hz : z.length ≤ 1000) : MulOk z n := by
  refine ⟨?_, fun h _ => ?_, fun h _ => ?_⟩
  · rw [decide_eq_false (by omega), decide_eq_false (by omega)]
    rfl
  · have hn : 0 < n := by omega
    have : (1000 : Int) ≤ (2 ^ 63 - 1) / n := (Int.le_ediv_iff_mul_le hn).mpr (by omega)
    omega
  · have hm : z.length * n.toNat ≤ 1000 * 1000 := Nat.mul_le_mul hz (by omega)
    unfold Builtin.Str.tooLong
    have hl : (1000 * 1000 : Nat) ≤ sizeLine := by decide
    simp only [decide_eq_false_iff_not]
    omega
end

/-! ### data that stands in the tracked heap -/
mutual
inductive Dt (H : Hp) : V → PyData → Prop
  | non : Dt H .non .none
  | bl (b : Bool) : Dt H (.bl b) (.bool b)
  | int (i : Int) : Dt H (.int i) (.int i)
  | str (x : Str) : Dt H (.str x) (.str x)
  | lst {a : Addr} {xs : List V} {ds : List PyData} : H a = some (.lst xs) → Dts H xs ds → Dt H (.ref a) (.list ds)
  | tup {a : Addr} {xs : List V} {ds : List PyData} : H a = some (.tup xs) → Dts H xs ds → Dt H (.ref a) (.tuple ds)
inductive Dts (H : Hp) : List V → List PyData → Prop
  | nil : Dts H [] []
  | cons {v : V} {vs : List V} {d : PyData} {ds : List PyData} : Dt H v d → Dts H vs ds → Dts H (v :: vs) (d :: ds)
end
section
variable {H H' : Hp}
mutual
theorem Dt.same (e : Same H H') : ∀ {d : PyData} {v : V}, Dt H v d → Dt H' v d
  | _, _, .non => .non
  | _, _, .bl b => .bl b
  | _, _, .int i => .int i
  | _, _, .str x => .str x
  | _, _, .lst h t => .lst (e _ _ h) (Dts.same e t)
  | _, _, .tup h t => .tup (e _ _ h) (Dts.same e t)
theorem Dts.same (e : Same H H') : ∀ {ds : List PyData} {vs : List V}, Dts H vs ds → Dts H' vs ds
  | _, _, .nil => .nil
  | _, _, .cons h t => .cons (Dt.same e h) (Dts.same e t)
end
mutual
theorem Dt.dp {K : PySem.W.Frag} : ∀ {d : PyData} {v : V}, Dt H v d → Dp K H v d
  | _, _, .non => .non
  | _, _, .bl b => .bl b
  | _, _, .int i => .int i
  | _, _, .str x => .str x
  | _, _, .lst h t => .lst (.inl (.inl h)) (Dts.dp t)
  | _, _, .tup h t => .tup (.inl (.inl h)) (Dts.dp t)
theorem Dts.dp {K : PySem.W.Frag} : ∀ {ds : List PyData} {vs : List V}, Dts H vs ds → DpAll K H vs ds
  | _, _, .nil => .nil
  | _, _, .cons h t => .cons (Dt.dp h) (Dts.dp t)
end
theorem Dts.length : ∀ {ds : List PyData} {vs : List V}, Dts H vs ds → vs.length = ds.length
  | _, _, .nil => rfl
  | _, _, .cons _ t => congrArg (· + 1) (Dts.length t)
theorem Dts.get : ∀ {ds : List PyData} {vs : List V} {i : Nat} {v : V}, Dts H vs ds → vs[i]? = some v → ∃ d, ds[i]? = some d ∧ Dt H v d
  | _, _, _, _, .nil, e => by simp at e
  | _, _, 0, _, .cons h _, e => by simp at e; subst e; exact ⟨_, rfl, h⟩
  | _, _, i + 1, v, .cons _ t, e => by
    obtain ⟨d, h1, h2⟩ := Dts.get (i := i) (v := v) t (by simpa using e)
    exact ⟨d, by simpa using h1, h2⟩
end

/-! ### repr of such data -/
section
variable {X : Cx}
/-- how large data is when it is shown -/
structure Fit (n : Nat) (d : PyData) : Prop where
  long : d.shown.length ≤ n
  deep : d.depth ≤ 40
  show' : d.showable = true
  flat : d.hasDict = false
def rRepr : List V → Hp → VK → Prop := fun xs H Q => ∃ (x : V) (d : PyData), xs = [x] ∧ Dt H x d ∧ Fit sizeLine d ∧ Q (.str d.shown) H
theorem call_repr (gd : X.A.guards = some []) (hu : X.A.units + 64 < cLine) : CallR X (.builtin "repr") rRepr := by
  intro pins s sg H xs us Q I r h
  obtain ⟨x, d, e, hd, fit, q⟩ := h
  subst e
  obtain ⟨u, rfl, ru⟩ := Vals.one r
  have line : d.shown.length ≤ sizeLine := fit.long
  match d, x, hd with
  | _, _, .non =>
    cases ru
    exact PySem.P.repr_of_none ⟨.str _, H, I.tok _, ⟨_, rfl⟩, by simpa only [PyData.shown] using q⟩
  | _, _, .bl b =>
    cases ru
    exact PySem.P.repr_of_bool ⟨.str _, H, I.tok _, ⟨_, rfl⟩, by simpa only [PyData.shown] using q⟩
  | _, _, .int i =>
    obtain ⟨t, rfl⟩ := ru
    have hz : i.natAbs.log2 < 1920 := of_decide_eq_true (by simpa only [PyData.showable] using fit.show')
    exact PySem.P.repr_of_int hz ⟨.str _, H, I.tok _, ⟨_, rfl⟩, by simpa only [PyData.shown] using q⟩
  | _, _, .str z =>
    obtain ⟨t, rfl⟩ := ru
    exact PySem.P.repr_of_str ⟨.str _, H, I.tok _, ⟨_, rfl⟩, by simpa only [PyData.shown] using q⟩ (by simpa only [PyData.shown] using line)
  | _, _, .lst ha ht =>
    obtain ⟨as, rd⟩ := Dp.reads I _ _ u (Dt.dp (.lst ha ht)) ru
    cases ru
    refine PySem.repr_of_reads' rd fit.show' (PyData.noDict_hsm fit.flat) gd (by have := fit.deep; omega) (fun _ _ z => z) (fun h' u' tk k => ?_) line
    exact ⟨.str _, H, I.kept k, ⟨_, rfl⟩, q⟩
  | _, _, .tup ha ht =>
    obtain ⟨as, rd⟩ := Dp.reads I _ _ u (Dt.dp (.tup ha ht)) ru
    cases ru
    refine PySem.repr_of_reads' rd fit.show' (PyData.noDict_hsm fit.flat) gd (by have := fit.deep; omega) (fun _ _ z => z) (fun h' u' tk k => ?_) line
    exact ⟨.str _, H, I.kept k, ⟨_, rfl⟩, q⟩
end
end Os
/-! len(set(xs)), xs a list of texts of any number below 4000 -/
namespace Os
open PySem PySem.Spec PyProof.Rows L2

/-- the texts met so far, each once -/
def once : List Str → List Str
  | [] => []
  | x :: r => if x ∈ once r then once r else x :: once r
/-- the same from the left, over the first i of them -/
def met (xs : List Str) (i : Nat) : List Str := once (xs.take i).reverse
theorem met_zero (xs : List Str) : met xs 0 = [] := rfl
theorem met_succ {xs : List Str} {i : Nat} {x : Str} (h : xs[i]? = some x) : met xs (i + 1) = if x ∈ met xs i then met xs i else x :: met xs i := by
  unfold met
  rw [List.take_add_one, h]
  show once ((xs.take i ++ [x]).reverse) = _
  rw [List.reverse_append]
  rfl
theorem once_mem : ∀ {l : List Str} {x : Str}, x ∈ once l ↔ x ∈ l
  | [], _ => Iff.rfl
  | y :: r, x => by
    have ih := @once_mem r
    unfold once
    split
    · rename_i hy
      rw [ih, List.mem_cons]
      exact ⟨.inr, fun z => z.elim (fun e => by rw [e]; exact ih.mp hy) id⟩
    · rw [List.mem_cons, List.mem_cons, ih]
theorem once_le : ∀ l : List Str, (once l).length ≤ l.length
  | [] => Nat.le_refl _
  | y :: r => by
    have ih := once_le r
    unfold once
    split
    · exact Nat.le_succ_of_le ih
    · exact Nat.succ_le_succ ih
theorem once_nodup : ∀ l : List Str, (once l).length = l.length ↔ l.Nodup
  | [] => ⟨fun _ => .nil, fun _ => rfl⟩
  | y :: r => by
    have ih := once_nodup r
    have le := once_le r
    unfold once
    rw [List.nodup_cons]
    split
    · rename_i hy
      constructor
      · intro e
        rw [List.length_cons] at e
        omega
      · intro e
        exact absurd (once_mem.mp hy) e.1
    · rename_i hy
      rw [List.length_cons, List.length_cons]
      constructor
      · intro e
        exact ⟨fun z => hy (once_mem.mpr z), ih.mp (Nat.succ.inj e)⟩
      · intro e
        rw [ih.mpr e.2]
theorem met_le (xs : List Str) (i : Nat) : (met xs i).length ≤ i := by
  refine Nat.le_trans (once_le _) ?_
  rw [List.length_reverse, List.length_take]
  exact Nat.min_le_left _ _
theorem met_all (xs : List Str) : (met xs xs.length).length = xs.length ↔ xs.Nodup := by
  unfold met
  rw [List.take_length]
  have := once_nodup xs.reverse
  rw [List.length_reverse] at this
  rw [this]
  unfold List.Nodup
  rw [List.pairwise_reverse]
  exact ⟨fun h => h.imp fun a => a.symm, fun h => h.imp fun a => a.symm⟩

section
variable {prog : Program} {w : World} {A : Around} {R : Result → Shared → Prop} {I : Addr} {fp wr : List Addr} {G : Array GenState → Array GenState → Prop} {n : Nat} {P : Nat → Value → Prop} {St : Nat → Shared → Prop}
/-- what the set at S holds behind i turns -/
abbrev Holds (prog : Program) (w : World) (xs : List Str) (S : Addr) (i : Nat) (h : Heap) : Prop :=
  h.SetOf (PySem.strKind prog w) S (fun k => decide (k ∈ met xs i)) (met xs i).length
theorem set_fill (W : WalksS prog w A.in1 I fp wr G n P St) (S : Addr) (out : S ∉ fp) (xs : List Str)
    (ln : xs.length = n) (val : ∀ i v, P i v → ∃ x t, xs[i]? = some x ∧ v = .str x t) (room : n + 1 < scanBound) :
    ∀ (left i : Nat) (s : Shared), i + left = n → St i s → Holds prog w xs S i s.heap →
      (∀ s', Moved (S :: wr) G s s' → Holds prog w xs S n s'.heap → R (.ok (.ret .none)) s') →
      codeAny (model prog w) A (.builtin "set.update.loop" ⟨[.ref S, .ref I], []⟩) R s := by
  have noS : S ∉ wr := fun z => out (W.sub _ z)
  have more : ∀ b ∈ wr, b ∈ S :: wr := fun _ z => List.mem_cons_of_mem _ z
  have carried : ∀ {i : Nat} {s s' : Shared}, Moved wr G s s' → Holds prog w xs S i s.heap → Holds prog w xs S i s'.heap := by
    rintro i s s' mv ⟨o, es, ep, t, ho, rest⟩
    exact ⟨o, es, ep, t, mv.heap S _ noS ho, rest⟩
  intro left
  induction left with
  | zero =>
    intro i s e st hS fin
    have ein : i = n := e
    subst ein
    refine codeAny_builtin PyProof.Rows.F.entry_set_update_loop ?_
    rw [Around.under_plainId PyProof.Rows.F.plain_set_update_loop _]
    refine wpAny_bind (m := pyNext (.ref I)) (W.done s _ _ st fun s' mv => ?_)
    exact wpAny_pure (fin s' (mv.mono more) (carried mv hS))
  | succ left ih =>
    intro i s e st hS fin
    have lt : i < n := by omega
    refine codeAny_builtin PyProof.Rows.F.entry_set_update_loop ?_
    rw [Around.under_plainId PyProof.Rows.F.plain_set_update_loop _]
    refine wpAny_bind (m := pyNext (.ref I)) (W.item i s _ _ lt st fun v s' hP st' mv => ?_)
    obtain ⟨x, t, hx, ev⟩ := val i v hP
    subst ev
    have hS1 := carried mv hS
    show wpAny _ A.in1 (holding [Value.str x t] (setAdd S (.str x t)) >>= _) _ _ s'
    refine wpAny_bind (wpAny_holding ?_)
    unfold setAdd
    refine wpAny_holding (wpAny_bind ((PySem.strKind prog w).pyHash (k := x) (strKind_is _ _ _ _) ?_))
    have fits : (met xs i).length + 1 < scanBound := by
      have := met_le xs i
      omega
    refine wpAny_setAddHashed_of (knd := PySem.strKind prog w) (s := { s' with toks := s'.toks + 1 }) (strKind_is _ _ _ _) rfl hS1 fits fun h' same hS2 => ?_
    have hS3 : Holds prog w xs S (i + 1) h' := by
      refine PyProof.Rows.SetOf_congr hS2 (fun k => ?_) ?_
      · rw [met_succ hx]
        by_cases m : x ∈ met xs i
        · rw [if_pos m]
          by_cases ek : k = x
          · subst ek
            simp [m]
          · simp [ek]
        · rw [if_neg m]
          by_cases ek : k = x
          · subst ek
            simp
          · simp [ek]
      · rw [met_succ hx]
        by_cases m : x ∈ met xs i
        · simp [m]
        · simp [m]
    refine wpAny_pure ⟨plainId_quiet PyProof.Rows.F.plain_set_update_loop _, ih (i + 1) _ (by omega) (W.frame _ s' _ _ st' (Nat.le_succ _) fun b hb o q => ?_) hS3 fun s2 mv2 hS4 => ?_⟩
    · rw [same.2 b (fun z : b = S => out (by rw [← z]; exact hb))]
      exact q
    · refine fin s2 (Moved.trans W.gtrans ((mv.mono more).then_heap (Nat.le_succ _) fun b o hb q => ?_) mv2) hS4
      rw [same.2 b (fun z : b = S => hb (by rw [z]; exact List.mem_cons_self))]
      exact q
end

section
variable {prog : Program} {w : World} {A : Around} {E : Value → Shared → Prop} {s : Shared}
/-- a new set -/
abbrev freshSet (led : Bool) : Obj := { cls := .type "set", dict := none, data := .set #[] 0 (.fresh 0 0 led) }
/-- its __init__ over a list of texts -/
theorem init_set_strs {l : Addr} {items : Array Value} {xs : List Str} {led : Bool} {R : Result → Shared → Prop} (hh : A.handled = none)
    (hl : s.heap.IsList l items) (hi : PyProof.Rows.StrsAre items.toList xs) (room : xs.length + 1 < scanBound)
    (h : ∀ (h' : Heap) (tk : Nat), Holds prog w xs s.heap.objs.size xs.length h' →
      (∀ b o, b < s.heap.objs.size → s.heap.get? b = some o → h'.get? b = some o) → R (.ok (.ret .none)) { s with heap := h', toks := tk }) :
    wpAny (model prog w) A.in1 (Builtin.«set.__init__» ⟨[.ref s.heap.objs.size, .ref l], []⟩) (fun fin s' => match fin with
        | .done f => R (.ok f) s'
        | .again c => c.quiet = true ∧ codeAny (model prog w) A c R s')
      (fun e s' => R (.error e) s') { s with heap := s.heap.push (freshSet led) } := by
  obtain ⟨⟨_, od, _, osl⟩, hol, rfl, nl, rfl⟩ := hl
  have there : (s.heap.push (freshSet led)).get? l = some ⟨.type "list", od, .seq items nl, osl⟩ := Heap.get?_push_of_some _ hol
  have newAt : (s.heap.push (freshSet led)).get? s.heap.objs.size = some (freshSet led) := Heap.get?_push_size _ rfl
  have lst1 : (s.heap.push (freshSet led)).IsList l items := ⟨_, there, rfl, nl, rfl⟩
  have hT : Shared.TypeIs { s with heap := s.heap.push (freshSet led) } (.ref s.heap.objs.size) "set" := ⟨_, newAt, rfl⟩
  have subS := PySem.F.sub_list_set
  have subF := PySem.F.sub_list_frozenset
  have notD : (Value.type "list" == Value.type "dict") = false := by decide
  unfold Builtin.«set.__init__» noKeywords Builtin.Frozenset.updateFrom
  generalize hPI : pyIter = PI
  wp_walk
  subst hPI
  refine wpAny_pyIter_list lst1 ?_
  refine wpAny_bind (wpAny_runValue ?_)
  have lS : l < s.heap.objs.size := Heap.lt_size hol
  have hh2 : A.in1.in1.handled = none := by simp [hh]
  have apart : l ≠ (s.heap.push (freshSet led)).objs.size := by
    rw [Heap.size_push]
    exact Nat.ne_of_lt (Nat.lt_succ_of_lt lS)
  have outer : s.heap.objs.size ∉ [(s.heap.push (freshSet led)).objs.size, l] := by
    rw [Heap.size_push]
    intro z
    rcases List.mem_cons.mp z with z | z
    · exact absurd z (Nat.ne_of_lt (Nat.lt_succ_self _))
    · exact absurd (List.mem_singleton.mp z) (Nat.ne_of_gt lS)
  have hsz : xs.length = items.size := by rw [← StrsAre.len_eq hi, Array.length_toList]
  have vals : ∀ (i : Nat) (v : Value), items[i]? = some v → ∃ x t, xs[i]? = some x ∧ v = .str x t := fun i v hv => by
    rw [← Array.getElem?_toList] at hv
    obtain ⟨t, e⟩ := SS.strs_at hi i v hv
    have lt : i < xs.length := by
      rw [← StrsAre.len_eq hi]
      exact (List.getElem?_eq_some_iff.mp hv).1
    refine ⟨xs[i], t, List.getElem?_eq_getElem lt, ?_⟩
    rw [e, List.getD_eq_getElem?_getD, List.getElem?_eq_getElem lt]
    rfl
  refine set_fill ((Walks.list hh2 _ l apart items).toS) s.heap.objs.size outer xs hsz vals (by rw [← hsz]; exact room) items.size 0 _ (Nat.zero_add _)
    ?start ?first ?last
  case start => exact ⟨⟨_, Heap.get?_push_size _ rfl, rfl, rfl⟩, (lst1.push _)⟩
  case first =>
    refine PyProof.Rows.SetOf_congr ((PyProof.Rows.setObjOf_fresh (knd := PySem.strKind prog w) led).setOf (Heap.get?_push_of_some _ newAt) (by unfold scanBound; omega)) (fun k => ?_) rfl
    rw [met_zero]
    rfl
  case last =>
    intro s' mv hS
    obtain ⟨h', g', d', tk', os'⟩ := s'
    have e1 : g' = s.gens := mv.gens
    have e2 : d' = s.drawn := mv.drawn
    have e3 : os' = s.os := mv.os
    subst e1 e2 e3
    show wpAny _ _ _ _ _ _
    refine wpAny_pure ?_
    refine wpAny_pure (h h' tk' (by rw [hsz]; exact hS) fun b o hb q => ?_)
    refine mv.heap b o (fun z => ?_) (Heap.get?_push_of_some _ (Heap.get?_push_of_some _ q))
    rcases List.mem_cons.mp z with z | z
    · exact absurd z (Nat.ne_of_lt hb)
    · rw [List.mem_singleton, Heap.size_push] at z
      exact absurd z (Nat.ne_of_lt (Nat.lt_succ_of_lt hb))

/-- set(xs), xs a list of texts -/
theorem call_set_strs {l : Addr} {items : Array Value} {xs : List Str} {Q : Value → Shared → Prop} (hh : A.handled = none)
    (hl : s.heap.IsList l items) (hi : PyProof.Rows.StrsAre items.toList xs) (room : xs.length + 1 < scanBound)
    (h : ∀ (h' : Heap) (tk : Nat), Holds prog w xs s.heap.objs.size xs.length h' →
      (∀ b o, b < s.heap.objs.size → s.heap.get? b = some o → h'.get? b = some o) → Q (.ref s.heap.objs.size) { s with heap := h', toks := tk }) :
    wpAny (model prog w) A (call (.type "set") [.ref l]) Q E s := by
  obtain ⟨c, tl, mro⟩ := PySem.F.called_set.mro
  have made := PySem.F.called_set.made
  have sub := PySem.F.called_set.sub
  have noTy := PySem.F.called_set.notType
  have creates := PySem.F.called_set.canCreate
  have typeCall := PySem.F.typeCall_set_1 (.ref l)
  refine wpAny_call (codeAny_of_tree ?_)
  show wpAny _ _ (callAny (.type "set") _) _ _ _
  refine wpAny_pure ⟨Code.quiet_builtin _ (by decide +kernel), codeAny_builtin PySem.F.entry_type_call ?_⟩
  rw [Around.under_plain (weight_type_call_type "set" [.ref l] []) rfl]
  repeat (any_goals (first | assumption | wp_step))
  refine codeAny_mono (code_set_new_1 (.ref l) (E := E) (Q₁ := fun v s₁ => ∃ led : Bool, v = .ref s.heap.objs.size ∧ s₁ = { s with heap := s.heap.push (freshSet led) }) fun led => ⟨led, rfl, rfl⟩) ?_
  intro r s1 hr
  match r, hr with
  | .error _, hr => exact hr
  | .ok .next, hr => exact hr.elim
  | .ok .brk, hr => exact hr.elim
  | .ok .cont, hr => exact hr.elim
  | .ok (.ret v), ⟨led, ev, es⟩ =>
    subst ev es
    have newAt : (s.heap.push (freshSet led)).get? s.heap.objs.size = some (freshSet led) := Heap.get?_push_size _ rfl
    have hT : Shared.TypeIs { s with heap := s.heap.push (freshSet led) } (.ref s.heap.objs.size) "set" := ⟨_, newAt, rfl⟩
    have initLook := PySem.F.called_set.init.lookup
    have initBind := PySem.F.called_set.init.bind (.ref s.heap.objs.size)
    repeat (any_goals (first | assumption | wp_step))
    refine codeAny_mono (codeAny_call_builtin (R := wants (fun v s2 => v = .none ∧ ∃ h' tk, s2 = { s with heap := h', toks := tk } ∧ Holds prog w xs s.heap.objs.size xs.length h' ∧
      (∀ b o, b < s.heap.objs.size → s.heap.get? b = some o → h'.get? b = some o)) E) PySem.F.called_set.init.plain PySem.F.entry_set_init (check_set_init_1 hT (init_set_strs (by simp [hh]) hl hi room fun h' tk a b => ⟨rfl, h', tk, rfl, a, b⟩))) ?_
    intro r2 s2 hr2
    match r2, hr2 with
    | .error _, hr2 => exact hr2
    | .ok .next, hr2 => exact hr2.elim
    | .ok .brk, hr2 => exact hr2.elim
    | .ok .cont, hr2 => exact hr2.elim
    | .ok (.ret v2), ⟨ev2, h', tk, es2, a, b⟩ =>
      subst ev2 es2
      repeat (any_goals (first | assumption | wp_step))
      exact h _ _ a b
end

/-- len(set(xs)) -/
def tLenSetS (K : PySem.W.Frag) (ta : TE) : TE := fun σ H Q => ta σ H fun x H1 => ∃ (l : Addr) (xs : List Str), x = .ref l ∧ SqL K H1 l (xs.map V.str) ∧ xs.length ≤ 4000 ∧ Q (.int (met xs xs.length).length) H1
theorem pe_lenSetS {X : Cx} {a : Expr} {ta : TE} {p p2 q pos : Pos} (hg : Gl X "len") (hm : X.mg "len" = none) (hg2 : Gl X "set") (hm2 : X.mg "set" = none) (ha : PE X a ta) (hc : X.calm = true := by rfl)
    (na : starEach [a] X.env = (false, eval a X.env) :: starEach [] X.env := by rfl) : PE X (.Call (.Name "len" p) [.Call (.Name "set" p2) [a] [] q] [] pos) (tLenSetS X.K ta) := by
  constructor
  intro pins s sg H Q I h
  refine Call_ (ld_blt I hg hm boot_len ?_)
  refine PyProof.Rows.callWith_builtin1 (PyProof.Rows.args_cons ?_ rfl) rfl rfl
  refine Call_ (ld_blt I hg2 hm2 boot_set ?_)
  refine PyProof.Rows.callWith_type1 (PyProof.Rows.args_cons (thn (ha.run pins s sg H _ I h) ?_) na) na rfl
  rintro v s1 ⟨x, H1, I1, r1, l, xs, ex, hq, hl, q1⟩
  refine PyProof.Rows.args_nil ?_
  subst ex
  cases r1
  obtain ⟨its, r, pl, hz⟩ := I1.list hq
  refine call_set_strs (I1.ok.hd hc) pl.isList (by simpa using Vals.strs r) (by unfold scanBound; omega) fun h' tk hS hk => ?_
  refine PyProof.Rows.args_nil ?_
  obtain ⟨o, es, ep, t, ho, hex, hd, _, _, _, hf, hn⟩ := hS
  have I2 : Inv X pins sg H1 { s1 with heap := h', toks := tk } := I1.kept fun b o e => hk b o (Heap.lt_size e) e
  have small : (met xs xs.length).length ≤ 4000 := Nat.le_trans (met_le xs _) hl
  exact call_len_set ho hex hd hf (by rw [hn]; omega) ⟨.int (met xs xs.length).length, H1, I2.tok _, ⟨_, by rw [hn]⟩, q1⟩
end Os
namespace Os
open PySem PySem.Spec PyProof.Rows L2

/-! ### kinds of data -/
def tyName : PyData → String
  | .none => "NoneType"
  | .bool _ => "bool"
  | .int _ => "int"
  | .str _ => "str"
  | .list _ => "list"
  | .tuple _ => "tuple"
  | .dict _ => "dict"
def isStrD : PyData → Bool
  | .str _ => true
  | _ => false
def isListD : PyData → Bool
  | .list _ => true
  | _ => false
def isTupD : PyData → Bool
  | .tuple _ => true
  | _ => false
theorem kit_str (d : PyData) : kitB (tyName d) "str" = some (isStrD d) := by
  cases d <;> (simp only [tyName, isStrD, isListD, isTupD]; decide +kernel)
theorem kit_list (d : PyData) : kitB (tyName d) "list" = some (isListD d) := by
  cases d <;> (simp only [tyName, isStrD, isListD, isTupD]; decide +kernel)
theorem kit_tup (d : PyData) : kitB (tyName d) "tuple" = some (isTupD d) := by
  cases d <;> (simp only [tyName, isStrD, isListD, isTupD]; decide +kernel)
section
variable {H H' : Hp} {v : V} {d : PyData} {K : PySem.W.Frag}
theorem Dt.ty (h : Dt H v d) : TyOf K H v (.type (tyName d)) := by
  cases h with
  | non => exact .non
  | bl b => exact .bl b
  | int i => exact .int i
  | str x => exact .str x
  | lst ha _ => exact .lst ha
  | tup ha _ => exact .tup ha
theorem isi_of {T : String} {b : Bool} {Q : VK} (h : Dt H v d) (e : kitB (tyName d) T = some b) (q : Q (.bl b) H) : rIsi K [v, .ty T] H Q :=
  ⟨v, .ty T, _, _, b, rfl, .ty T, .base h.ty, kit_ty e, q⟩
theorem Dt.str_or (h : Dt H v d) : (∃ z, v = .str z ∧ d = .str z) ∨ isStrD d = false := by
  cases h with
  | str x => exact .inl ⟨x, rfl, rfl⟩
  | _ => exact .inr rfl
theorem Dt.list_or (h : Dt H v d) : (∃ a xs ds, v = .ref a ∧ H a = some (.lst xs) ∧ Dts H xs ds ∧ d = .list ds) ∨ isListD d = false := by
  cases h with
  | lst ha t => exact .inl ⟨_, _, _, rfl, ha, t, rfl⟩
  | _ => exact .inr rfl
theorem Dt.tup_or (h : Dt H v d) : (∃ a xs ds, v = .ref a ∧ H a = some (.tup xs) ∧ Dts H xs ds ∧ d = .tuple ds) ∨ isTupD d = false := by
  cases h with
  | tup ha t => exact .inl ⟨_, _, _, rfl, ha, t, rfl⟩
  | _ => exact .inr rfl
end
/-! ### heaps but for one address -/
/-- H without what stands at s -/
def hide (s : Addr) (H : Hp) : Hp := fun b => if b = s then none else H b
theorem hide_ne {s b : Addr} {H : Hp} (h : b ≠ s) : hide s H b = H b := if_neg h
theorem hide_at {s : Addr} {H : Hp} : hide s H s = none := if_pos rfl
theorem hide_of {s b : Addr} {H : Hp} {o : HO} (h : hide s H b = some o) : b ≠ s ∧ H b = some o := by
  unfold hide at h
  split at h
  · cases h
  · exact ⟨by assumption, h⟩
theorem hide_same {s : Addr} {H : Hp} : Same (hide s H) H := fun _ _ h => (hide_of h).2
theorem Same.hide {s : Addr} {H H' : Hp} (e : Same H H') : Same (Os.hide s H) (Os.hide s H') := fun b o h => by
  obtain ⟨h1, h2⟩ := hide_of h
  rw [hide_ne h1]
  exact e b o h2
theorem hide_upd {s : Addr} {H : Hp} {o : HO} : Os.hide s (upd H s o) = Os.hide s H := by
  funext b
  by_cases e : b = s
  · rw [e, hide_at, hide_at]
  · rw [hide_ne e, hide_ne e, upd_ne e]
theorem same_new {H : Hp} {p : Addr} {o : HO} (h : H p = none) : Same H (upd H p o) := fun b u e => by
  rw [upd_ne (ne_of_none e h)]
  exact e
/-- what H does not know may change -/
theorem same_mut {H H' : Hp} {p : Addr} {o : HO} (e : Same H H') (h : H p = none) : Same H (upd H' p o) := fun b u q => by
  rw [upd_ne (ne_of_none q h)]
  exact e b u q
theorem Same.none {H H' : Hp} (e : Same H H') {p : Addr} (h : H' p = Option.none) : H p = Option.none := e.free h
theorem hide_none {s p : Addr} {H : Hp} (h : H p = Option.none) : Os.hide s H p = Option.none := by
  unfold Os.hide
  split
  · rfl
  · exact h
end Os
namespace Os
open PySem PySem.Spec PyProof.Rows L2 Evl

/-! ### more of what evaluates to what -/
section
variable {K : PySem.W.Frag} {σ : L2.St} {H H' : Hp} {ta tb tc te : TE} {t : TT} {x y z v : V} {r r' : R2}
theorem same_ex (e : Ex H H') : Same H H' := e
theorem ev_isi {T : String} {b : Bool} {d : PyData} (h : Ev ta σ H v) (hd : Dt H v d) (e : kitB (tyName d) T = some b) :
    Ev (tCB (rIsi K) (tCons ta (tCons (tC (.ty T)) tNil))) σ H (.bl b) := fun H1 e1 Q q =>
  h H1 e1 _ fun H2 e2 => isi_of (hd.same (same_ex (e1.trans e2))) e (q H2 e2)
theorem ev_lenS {s : Str} (h : Ev ta σ H (.str s)) (hl : s.length ≤ 100000) :
    Ev (tCB (fun xs H Q => ∃ z, xs = [.str z] ∧ z.length ≤ sizeLine ∧ Q (.int z.length) H) (tCons ta tNil)) σ H (.int s.length) := fun H1 e1 Q q =>
  h H1 e1 _ fun H2 e2 => ⟨s, rfl, sz_of hl, q H2 e2⟩
theorem ev_chain {b c : Bool} (h1 : Ev ta σ H x) (h2 : Ev tb σ H y) (hr : RV r x y H (.bl b)) (h3 : b = true → ∃ z, Ev tc σ H z ∧ RV r' y z H (.bl c)) :
    Ev (tChain r r' ta tb tc) σ H (.bl (b && c)) := fun H1 e Q q =>
  h1 H1 e _ fun H2 e2 => h2 H2 (e.trans e2) _ fun H3 e3 => hr H3 ((e.trans e2).trans e3) _ fun H4 e4 => ⟨b, rfl, by
    cases b with
    | true =>
      obtain ⟨z, hz, hs⟩ := h3 rfl
      show tc σ H4 _
      exact hz H4 (((e.trans e2).trans e3).trans e4) _ fun H5 e5 => hs H5 ((((e.trans e2).trans e3).trans e4).trans e5) Q fun H6 e6 => q H6 ((((e2.trans e3).trans e4).trans e5).trans e6)
    | false =>
      show Q (.bl false) H4
      exact q H4 ((e2.trans e3).trans e4)⟩
theorem rv_leS {i j : Str} : RV (fun x y H Q => ∃ i j, x = .str i ∧ y = .str j ∧ Q (.bl (!decide (j.cps.toList < i.cps.toList))) H) (.str i) (.str j) H (.bl (!decide (j.cps.toList < i.cps.toList))) :=
  fun H1 _ _ q => ⟨i, j, rfl, rfl, q H1 (Ex.refl H1)⟩
theorem rv_notInSign {c : Nat} {s : Str} : RV (fun x y H Q => ∃ (c : Nat) (z : Str), x = .str ⟨#[c]⟩ ∧ y = .str z ∧ Q (.bl (!decide (c ∈ z.cps.toList))) H) (.str ⟨#[c]⟩) (.str s) H (.bl (!decide (c ∈ s.cps.toList))) :=
  fun H1 _ _ q => ⟨c, s, rfl, rfl, q H1 (Ex.refl H1)⟩
theorem ev_abs {i : Int} (h : Ev ta σ H (.int i)) : Ev (tCB (fun xs H Q => ∃ i, xs = [V.int i] ∧ Q (.int (if i < 0 then -i else i)) H) (tCons ta tNil)) σ H (.int (if i < 0 then -i else i)) := fun H1 e1 Q q =>
  h H1 e1 _ fun H2 e2 => ⟨i, rfl, q H2 e2⟩
theorem ev_max {i j : Int} (ha : Ev ta σ H (.int i)) (hb : Ev tb σ H (.int j)) : Ev (tCB (fun xs H Q => ∃ i j, xs = [V.int i, .int j] ∧ Q (.int (if j > i then j else i)) H) (tCons ta (tCons tb tNil))) σ H (.int (if j > i then j else i)) := fun H1 e1 Q q =>
  ha H1 e1 _ fun H2 e2 => hb H2 (e1.trans e2) _ fun H3 e3 => ⟨i, j, rfl, q H3 (e2.trans e3)⟩
theorem ev_min {i j : Int} (ha : Ev ta σ H (.int i)) (hb : Ev tb σ H (.int j)) : Ev (tCB (fun xs H Q => ∃ i j, xs = [V.int i, .int j] ∧ Q (.int (if j < i then j else i)) H) (tCons ta (tCons tb tNil))) σ H (.int (if j < i then j else i)) := fun H1 e1 Q q =>
  ha H1 e1 _ fun H2 e2 => hb H2 (e1.trans e2) _ fun H3 e3 => ⟨i, j, rfl, q H3 (e2.trans e3)⟩
theorem ev_all {bs : List Bool} (h : EvL ta σ H (bs.map V.bl)) : Ev (tCB (rAll K) (tCons ta tNil)) σ H (.bl (bs.all id)) := fun H1 e Q q =>
  h H1 e _ fun p H2 _ e2 hp => ⟨p, bs, rfl, sq_of hp, q H2 e2⟩
theorem ev_repr {d : PyData} (h : Ev ta σ H v) (hd : Dt H v d) (fit : Fit sizeLine d) : Ev (tCB rRepr (tCons ta tNil)) σ H (.str d.shown) := fun H1 e Q q =>
  h H1 e _ fun H2 e2 => ⟨v, d, rfl, hd.same (same_ex (e.trans e2)), fit, q H2 e2⟩
theorem ev_reprL {xs : List V} {ds : List PyData} (h : EvL ta σ H xs) (hd : Dts H xs ds) (fit : Fit sizeLine (.list ds)) : Ev (tCB rRepr (tCons ta tNil)) σ H (.str (PyData.list ds).shown) := fun H1 e Q q =>
  h H1 e _ fun p H2 _ e2 hp => ⟨.ref p, .list ds, rfl, .lst hp (hd.same (same_ex (e.trans e2))), fit, q H2 e2⟩
/-- two lists, the left a new one, the right a new one, of data -/
theorem ev_eqLL {xs ys : List V} {ds es : List PyData} (ha : EvL ta σ H xs) (hb : EvL tb σ H ys) (hx : Dts H xs ds) (hy : Dts H ys es) (s1 : SeqAt.shaped (.list ds) = true) (s2 : SeqAt.shaped (.list es) = true) :
    Ev (tOp (rEqD K) ta tb) σ H (.bl (PyData.eqv (.list ds) (.list es))) :=
  ev_opLL ha hb fun p q H1 hp hq e => fun H2 e2 Q k => ⟨.list ds, .list es, Dt.dp (.lst (e2 _ _ hp) (hx.same (same_ex (e.trans e2)))), Dt.dp (.lst (e2 _ _ hq) (hy.same (same_ex (e.trans e2)))), s1, s2, k H2 (Ex.refl H2)⟩
/-- a call of a def that makes nothing but a value -/
theorem ev_sp {sp : Sp} {dvs vs : List V} {E : XK} {ta : TA} (h : EvA ta σ H vs) (hs : ∀ H1, Ex H H1 → ∀ Q : VK, (∀ H2, Ex H1 H2 → Q z H2) → sp (vs ++ dvs) H1 Q E) : Ev (tCall sp dvs E ta) σ H z := fun H1 e Q q =>
  h H1 e _ fun H2 e2 => hs H2 (e.trans e2) Q fun H3 e3 => q H3 (e2.trans e3)
/-- a comprehension over a text -/
theorem el_lcS {s : Str} {j : Nat} {vs : List Nat} {tl : TE} (f : Nat → Bool) (v : Nat → V) (h : Ev tl σ H (.str s)) (hz : s.length ≤ 40000) (hw : ∀ x, wipe ((wipe σ vs).set j (some x)) vs = wipe σ vs)
    (ht : ∀ (i c : Nat) H1, Ex H H1 → s.cps.toList[i]? = some c → EvT t ((wipe σ vs).set j (some (.str ⟨#[c]⟩))) H1 (f i))
    (he : ∀ (i c : Nat) H1, Ex H H1 → s.cps.toList[i]? = some c → f i = true → Ev te ((wipe σ vs).set j (some (.str ⟨#[c]⟩))) H1 (v i)) :
    EvL (tLc (iStr tl) (gName j) t te vs) σ H (given s.length f v) := fun H0 e Q q => h H0 e _ fun H1 e1 => ⟨s, rfl, fun Dl hD =>
  lc_it (walk_str (z := s)) (Cw H1 f v Dl) ⟨hD, Ex.new hD, upd_same⟩ (fun _ _ _ _ => trivial) (fun i x Ha Hb hi p y => by
    obtain ⟨rfl, c, hc, rfl⟩ := y
    have hc' : s.cps.toList[i]? = some c := by rw [Array.getElem?_toList]; exact hc
    have hi2 : i < s.length := hi
    exact ⟨hw _, cw_turn p (by omega) (ht i c H1 (e.trans e1) hc') (fun hf => he i c H1 (e.trans e1) hc' hf)⟩)
    (fun Hc p => q Dl Hc (fresh_back e1 p.1) (e1.trans p.2.1) p.2.2)⟩
end

/-! ### what a comprehension gives, by the items -/
theorem given_map {α : Type} (xs : List α) (g : α → V) (v : Nat → V) (h : ∀ i x, xs[i]? = some x → v i = g x) : given xs.length (fun _ => true) v = xs.map g := by
  unfold given
  rw [List.filter_eq_self.mpr (fun _ _ => rfl)]
  refine List.ext_getElem? fun i => ?_
  rw [List.getElem?_map, List.getElem?_map]
  by_cases hi : i < xs.length
  · rw [List.getElem?_range hi, List.getElem?_eq_getElem hi]
    exact congrArg some (h i _ (List.getElem?_eq_getElem hi))
  · rw [List.getElem?_eq_none (by rw [List.length_range]; omega), List.getElem?_eq_none (by omega)]
    rfl
theorem given_part {α : Type} (g : α → V) (p : α → Bool) (f : Nat → Bool) (v : Nat → V) (xs : List α) (hf : ∀ i x, xs[i]? = some x → f i = p x) (hv : ∀ i x, xs[i]? = some x → v i = g x) :
    ∀ n, n ≤ xs.length → given n f v = ((xs.take n).filter p).map g
  | 0, _ => rfl
  | n + 1, hn => by
    have lt : n < xs.length := hn
    have e := List.getElem?_eq_getElem lt
    have ih := given_part g p f v xs hf hv n (Nat.le_of_lt lt)
    rw [List.take_add_one, e]
    show _ = ((xs.take n ++ [xs[n]]).filter p).map g
    rw [List.filter_append, List.map_append, ← ih]
    cases hp : p xs[n] with
    | true =>
      rw [given_yes (by rw [hf _ _ e]; exact hp), hv _ _ e, List.filter_cons, if_pos hp]
      rfl
    | false =>
      rw [given_no (by rw [hf _ _ e]; exact hp), List.filter_cons, if_neg (by rw [hp]; decide)]
      rw [List.filter_nil, List.map_nil, List.append_nil]
theorem given_filter {α : Type} (g : α → V) (p : α → Bool) (f : Nat → Bool) (v : Nat → V) (xs : List α) (hf : ∀ i x, xs[i]? = some x → f i = p x) (hv : ∀ i x, xs[i]? = some x → v i = g x) :
    given xs.length f v = (xs.filter p).map g := by
  rw [given_part g p f v xs hf hv _ (Nat.le_refl _), List.take_length]
theorem given_eq {n : Nat} {f g : Nat → Bool} {v u : Nat → V} (hf : ∀ i, i < n → f i = g i) (hv : ∀ i, i < n → v i = u i) : given n f v = given n g u := by
  unfold given
  rw [List.filter_congr (q := g) (fun i hi => hf i (List.mem_range.mp hi))]
  exact List.map_congr_left fun i hi => hv i (List.mem_range.mp (List.mem_filter.mp hi).1)
end Os
/-! forests: the mathematics, and pairs of ints in the heap -/
namespace Os
open PySem PySem.Spec PyProof.Rows L2 Evl

abbrev Pr := Nat × Nat
/-! ### labels that are merged: the program's search for a cycle -/
def merge (t : List Nat) (e : Pr) : List Nat := t.map fun x => if x = t.getD e.2 0 then t.getD e.1 0 else x
def cycB : List Pr → List Nat → Bool
  | [], _ => false
  | e :: r, t => if t.getD e.1 0 = t.getD e.2 0 then true else cycB r (merge t e)
/-- each edge has a side that all other edges respect -/
def Bridges (es : List Pr) : Prop := ∀ e ∈ es, ∃ S : Nat → Bool, S e.1 ≠ S e.2 ∧ ∀ f ∈ es, f ≠ e → S f.1 = S f.2
theorem merge_length (t : List Nat) (e : Pr) : (merge t e).length = t.length := List.length_map ..
theorem getD_map {f : Nat → Nat} {t : List Nat} {i : Nat} (h : i < t.length) : (t.map f).getD i 0 = f (t.getD i 0) := by
  rw [List.getD_eq_getElem?_getD, List.getD_eq_getElem?_getD, List.getElem?_map, List.getElem?_eq_getElem h]
  rfl
/-- labels are equal only where every respected side is -/
def Fine (t : List Nat) (done : List Pr) : Prop := ∀ x y, x < t.length → y < t.length → t.getD x 0 = t.getD y 0 → ∀ S : Nat → Bool, (∀ f ∈ done, S f.1 = S f.2) → S x = S y
theorem fine_start (n : Nat) : Fine (List.range n) [] := fun x y hx hy e S _ => by
  rw [List.length_range] at hx hy
  rw [List.getD_eq_getElem?_getD, List.getD_eq_getElem?_getD, List.getElem?_range hx, List.getElem?_range hy] at e
  have e2 : x = y := e
  rw [e2]
theorem fine_merge {t : List Nat} {done : List Pr} {e : Pr} (h : Fine t done) (h1 : e.1 < t.length) (h2 : e.2 < t.length) : Fine (merge t e) (done ++ [e]) := fun x y hx hy q S hS => by
  rw [merge_length] at hx hy
  unfold merge at q
  rw [getD_map hx, getD_map hy] at q
  have hd : ∀ f ∈ done, S f.1 = S f.2 := fun f hf => hS f (List.mem_append_left _ hf)
  have he : S e.1 = S e.2 := hS e (by simp)
  by_cases a : t.getD x 0 = t.getD e.2 0
  · have sx := h x e.2 hx h2 a S hd
    by_cases b : t.getD y 0 = t.getD e.2 0
    · rw [sx, h y e.2 hy h2 b S hd]
    · rw [if_pos a, if_neg b] at q
      rw [sx, ← he, h e.1 y h1 hy q S hd]
  · by_cases b : t.getD y 0 = t.getD e.2 0
    · rw [if_neg a, if_pos b] at q
      rw [h x e.1 hx h1 q S hd, he, h y e.2 hy h2 b S hd]
    · rw [if_neg a, if_neg b] at q
      exact h x y hx hy q S hd
theorem cyc_none {es : List Pr} (br : Bridges es) (nd : es.Nodup) : ∀ (r done : List Pr) (t : List Nat), es = done ++ r → (∀ e ∈ r, e.1 < t.length ∧ e.2 < t.length) → Fine t done → cycB r t = false
  | [], _, _, _, _, _ => rfl
  | e :: r, done, t, he, hb, hf => by
    obtain ⟨b1, b2⟩ := hb e List.mem_cons_self
    obtain ⟨S, s1, s2⟩ := br e (by rw [he]; simp)
    have ne : ¬ t.getD e.1 0 = t.getD e.2 0 := fun q => s1 (hf e.1 e.2 b1 b2 q S fun f hf' => s2 f (by rw [he]; exact List.mem_append_left _ hf') fun z => by
      rw [he] at nd
      exact (List.nodup_append.mp nd).2.2 f hf' e List.mem_cons_self z)
    unfold cycB
    rw [if_neg ne]
    refine cyc_none br nd r (done ++ [e]) (merge t e) (by rw [he, List.append_assoc]; rfl) (fun f hf' => ?_) (fine_merge hf b1 b2)
    rw [merge_length]
    exact hb f (List.mem_cons_of_mem _ hf')
/-! ### order of pairs -/
def ltP (e f : Pr) : Bool := decide (e.1 < f.1) || (decide (e.1 = f.1) && decide (e.2 < f.2))
def ascB : List Pr → Bool
  | e :: f :: r => ltP e f && ascB (f :: r)
  | _ => true
/-- a forest's edges -/
structure Edges (n : Nat) (es : List Pr) : Prop where
  inn : ∀ e ∈ es, e.1 < e.2 ∧ e.2 < n
  asc : es.Pairwise fun e f => ltP e f = true
  br : Bridges es
theorem ltP_irr (e : Pr) : ltP e e = false := by
  unfold ltP
  rw [decide_eq_false (Nat.lt_irrefl _), decide_eq_false (Nat.lt_irrefl _), Bool.and_false]
  rfl
theorem ltP_iff {e f : Pr} : ltP e f = true ↔ e.1 < f.1 ∨ (e.1 = f.1 ∧ e.2 < f.2) := by
  unfold ltP
  simp only [Bool.or_eq_true, Bool.and_eq_true, decide_eq_true_eq]
theorem ltP_trans {e f g : Pr} (h1 : ltP e f = true) (h2 : ltP f g = true) : ltP e g = true := by
  rw [ltP_iff] at *
  omega
theorem Edges.nodup {n : Nat} {es : List Pr} (h : Edges n es) : es.Nodup := h.asc.imp fun {a b} q e => by
  rw [e, ltP_irr] at q
  cases q
theorem asc_of : ∀ {es : List Pr}, es.Pairwise (fun e f => ltP e f = true) → ascB es = true
  | [], _ => rfl
  | [_], _ => rfl
  | e :: f :: r, h => by
    obtain ⟨h1, h2⟩ := List.pairwise_cons.mp h
    show (ltP e f && ascB (f :: r)) = true
    rw [h1 f List.mem_cons_self, asc_of h2]
    rfl
theorem Edges.no_cyc {n : Nat} {es : List Pr} (h : Edges n es) : cycB es (List.range n) = false :=
  cyc_none h.br h.nodup es [] _ rfl (fun e he => by
    rw [List.length_range]
    have := h.inn e he
    omega) (fine_start n)

/-! ### pairs in the heap -/
/-- v is a tuple of the two ints -/
def PrV (G : Hp) (v : V) (e : Pr) : Prop := ∃ t, v = .ref t ∧ G t = some (.tup [.int (e.1 : Int), .int (e.2 : Int)])
inductive PrsV (G : Hp) : List V → List Pr → Prop
  | nil : PrsV G [] []
  | cons {v : V} {vs : List V} {e : Pr} {es : List Pr} : PrV G v e → PrsV G vs es → PrsV G (v :: vs) (e :: es)
theorem PrV.ex {G G' : Hp} (h : Ex G G') {v : V} {e : Pr} (p : PrV G v e) : PrV G' v e := by
  obtain ⟨t, e1, e2⟩ := p
  exact ⟨t, e1, h _ _ e2⟩
theorem PrsV.ex {G G' : Hp} (h : Ex G G') : ∀ {vs : List V} {es : List Pr}, PrsV G vs es → PrsV G' vs es
  | _, _, .nil => .nil
  | _, _, .cons p r => .cons (p.ex h) (PrsV.ex h r)
theorem PrsV.length {G : Hp} : ∀ {vs : List V} {es : List Pr}, PrsV G vs es → vs.length = es.length
  | _, _, .nil => rfl
  | _, _, .cons _ r => congrArg (· + 1) (PrsV.length r)
theorem PrsV.get {G : Hp} : ∀ {vs : List V} {es : List Pr} {i : Nat} {v : V}, PrsV G vs es → vs[i]? = some v → ∃ e, es[i]? = some e ∧ PrV G v e
  | _, _, _, _, .nil, h => by simp at h
  | _, _, 0, _, .cons p _, h => by simp at h; subst h; exact ⟨_, rfl, p⟩
  | _, _, i + 1, v, .cons _ r, h => by
    obtain ⟨e, h1, h2⟩ := PrsV.get (i := i) (v := v) r (by simpa using h)
    exact ⟨e, by simpa using h1, h2⟩
theorem PrsV.get' {G : Hp} : ∀ {vs : List V} {es : List Pr} {i : Nat} {e : Pr}, PrsV G vs es → es[i]? = some e → ∃ v, vs[i]? = some v ∧ PrV G v e
  | _, _, _, _, .nil, h => by simp at h
  | _, _, 0, _, .cons p _, h => by simp at h; subst h; exact ⟨_, rfl, p⟩
  | _, _, i + 1, e, .cons _ r, h => by
    obtain ⟨v, h1, h2⟩ := PrsV.get' (i := i) (e := e) r (by simpa using h)
    exact ⟨v, by simpa using h1, h2⟩
theorem PrsV.append {G : Hp} : ∀ {vs us : List V} {es fs : List Pr}, PrsV G vs es → PrsV G us fs → PrsV G (vs ++ us) (es ++ fs)
  | _, _, _, _, .nil, r => r
  | _, _, _, _, .cons p q, r => .cons p (PrsV.append q r)
theorem PrsV.drop {G : Hp} : ∀ {vs : List V} {es : List Pr} (i : Nat), PrsV G vs es → PrsV G (vs.drop i) (es.drop i)
  | _, _, 0, h => h
  | _, _, _ + 1, .nil => .nil
  | _, _, i + 1, .cons _ r => PrsV.drop i r
theorem PrsV.take {G : Hp} : ∀ {vs : List V} {es : List Pr} (i : Nat), PrsV G vs es → PrsV G (vs.take i) (es.take i)
  | _, _, 0, _ => .nil
  | _, _, _ + 1, .nil => .nil
  | _, _, i + 1, .cons p r => .cons p (PrsV.take i r)
theorem PrsV.reverse {G : Hp} : ∀ {vs : List V} {es : List Pr}, PrsV G vs es → PrsV G vs.reverse es.reverse
  | _, _, .nil => .nil
  | _, _, .cons p r => by
    rw [List.reverse_cons, List.reverse_cons]
    exact PrsV.append (PrsV.reverse r) (.cons p .nil)
theorem PrsV.perm {G : Hp} {vs us : List V} (h : vs.Perm us) : ∀ {es : List Pr}, PrsV G us es → ∃ fs, PrsV G vs fs ∧ fs.Perm es := by
  induction h with
  | nil => exact fun h => ⟨_, h, List.Perm.refl _⟩
  | cons x _ ih =>
    intro es h
    cases h with
    | cons p r =>
      obtain ⟨fs, h1, h2⟩ := ih r
      exact ⟨_, .cons p h1, h2.cons _⟩
  | swap x y l =>
    intro es h
    cases h with
    | cons p r =>
      cases r with
      | cons q r => exact ⟨_, .cons q (.cons p r), List.Perm.swap _ _ _⟩
  | trans _ _ ih1 ih2 =>
    intro es h
    obtain ⟨fs, h1, h2⟩ := ih2 h
    obtain ⟨gs, h3, h4⟩ := ih1 h1
    exact ⟨gs, h3, h4.trans h2⟩
def prD (e : Pr) : PyData := .tuple [.int (e.1 : Int), .int (e.2 : Int)]
theorem PrV.dt {G : Hp} {v : V} {e : Pr} (p : PrV G v e) : Dt G v (prD e) := by
  obtain ⟨t, rfl, h⟩ := p
  exact .tup h (.cons (.int _) (.cons (.int _) .nil))
theorem PrsV.dts {G : Hp} : ∀ {vs : List V} {es : List Pr}, PrsV G vs es → Dts G vs (es.map prD)
  | _, _, .nil => .nil
  | _, _, .cons p r => .cons p.dt (PrsV.dts r)
end Os
namespace K10
open PySem PySem.Spec PyProof.Rows L2 Os Evl
def topS (i : Nat) : Stmt := PySem.Challenge.pw_onceswapped_k10_whole_orders_and_trees.main.body.getD i (.Pass ⟨0, 0, 0, 0⟩)
abbrev sInt : Stmt := topS 8
theorem scInt : FnScope ["thing"] ["thing"] (defScope sInt) := ⟨rfl, rfl, rfl, by decide +kernel, rfl, by decide +kernel, by decide +kernel⟩
abbrev sPos : Stmt := topS 9
theorem scPos : FnScope ["n", "thing"] ["n", "thing"] (defScope sPos) := ⟨rfl, rfl, rfl, by decide +kernel, rfl, by decide +kernel, by decide +kernel⟩
abbrev sEdge : Stmt := topS 10
theorem scEdge : FnScope ["n", "thing", "p", "q"] ["n", "thing"] (defScope sEdge) := ⟨rfl, rfl, rfl, by decide +kernel, rfl, by decide +kernel, by decide +kernel⟩
abbrev sForest : Stmt := topS 11
theorem scForest : FnScope ["thing", "n", "edges", "edge"] ["thing"] (defScope sForest) := ⟨rfl, rfl, rfl, by decide +kernel, rfl, by decide +kernel, by decide +kernel⟩
abbrev sAsc : Stmt := topS 12
theorem scAsc : FnScope ["edges", "edge", "following"] ["edges"] (defScope sAsc) := ⟨rfl, rfl, rfl, by decide +kernel, rfl, by decide +kernel, by decide +kernel⟩
abbrev sCyc : Stmt := topS 13
theorem scCyc : FnScope ["n", "edges", "tree_of", "p", "q", "kept", "joined", "tree"] ["n", "edges"] (defScope sCyc) := ⟨rfl, rfl, rfl, by decide +kernel, rfl, by decide +kernel, by decide +kernel⟩

section
variable {P : Program} {w : World} {K : PySem.W.Frag} {mg : Str → Option Value} {base : Heap}
def intB : PyData → Bool
  | .int _ => true
  | _ => false
def numB : PyData → Bool
  | .int _ => true
  | .bool _ => true
  | _ => false
def isBlD : PyData → Bool
  | .bool _ => true
  | _ => false
theorem kit_int (d : PyData) : kitB (tyName d) "int" = some (numB d) := by
  cases d <;> (simp only [tyName, numB]; decide +kernel)
theorem kit_bool (d : PyData) : kitB (tyName d) "bool" = some (isBlD d) := by
  cases d <;> (simp only [tyName, isBlD]; decide +kernel)
def spInt : Sp := fun vs H Q _ => ∃ v d, vs = [v] ∧ Dt H v d ∧ ∀ H', Ex H H' → Q (.bl (intB d)) H'
theorem ok_int {f : Addr} {fd : FuncData} {k : Nat} (F : Fun K "is_integer" "is_integer" sInt f fd) (mIsi : mg "isinstance" = none) (mInt : mg "int" = none) (mBool : mg "bool" = none) : FnOk P w K mg base CX0 (k + 1) f fd ["thing"] spInt := by
  refine F.ok scInt (fun vs H Q E h => ?_) (fun cdv A outer s H vs Q E hr h => ?_)
  · obtain ⟨v, d, rfl, _⟩ := h
    rfl
  · obtain ⟨v, d, rfl, hd, q⟩ := h
    refine ⟨_, (pss_one (ps_ret (pe_and (pe_callB call_isi (by rfl) mIsi boot_isinstance (pa_cons (pv 0) (pa_cons (pe_bltn (v := .ty "int") (by rfl) mInt boot_int rfl) pa_nil))) (pe_one (pe_not (pe_callB call_isi (by rfl) mIsi boot_isinstance (pa_cons (pv 0) (pa_cons (pe_bltn (v := .ty "bool") (by rfl) mBool boot_bool rfl) pa_nil)))))))), ?_⟩
    refine s_ret (v := .bl (intB d)) (ev_is (ev_andV (ev_isi (ev_var rfl) hd (kit_int d)) fun _ => ev_notV (ev_isi (ev_var rfl) hd (kit_bool d))) (by cases d <;> rfl)) fun H1 e1 => q H1 e1
def posB (n : Int) : PyData → Bool
  | .int i => decide (0 ≤ i) && decide (i < n)
  | _ => false
def spPos : Sp := fun vs H Q _ => ∃ n v d, vs = [.int n, v] ∧ Dt H v d ∧ ∀ H', Ex H H' → Q (.bl (posB n d)) H'
theorem ok_pos {f fI : Addr} {fd fdI : FuncData} {k : Nat} (F : Fun K "is_position" "is_position" sPos f fd) (GI : FnOk P w K mg base CX0 k fI fdI ["thing"] spInt) (FI : Fun K "is_integer" "is_integer" sInt fI fdI) (bI : Binds K fdI ["thing"] []) (gI : mg "is_integer" = some (.ref fI)) :
    FnOk P w K mg base CX0 (k + 1) f fd ["n", "thing"] spPos := by
  refine F.ok scPos (fun vs H Q E h => ?_) (fun cdv A outer s H vs Q E hr h => ?_)
  · obtain ⟨n, v, d, rfl, _⟩ := h
    rfl
  · obtain ⟨n, v, d, rfl, hd, q⟩ := h
    refine ⟨_, (pss_one (ps_ret (pe_and (pe_call GI hr (by rfl) gI FI.kp bI .nil pass0 (pa_cons (pv 1) pa_nil)) (pe_one (pe_chain op_le op_lt pe_int (pv 1) (pv 0)))))), ?_⟩
    have e1 : Ev (tCall spInt [] E0 (tCons (tVar 1) tNil)) (start ["n", "thing"] [.int n, v]) H (.bl (intB d)) := ev_sp (ea_cons (ev_var rfl) ea_nil) fun H2 e2 Q q => ⟨v, d, rfl, hd.same (same_ex e2), fun H3 e3 => q H3 e3⟩
    cases hd with
    | int i => exact s_ret (v := .bl (posB n (.int i))) (ev_is (ev_andV (a := true) e1 fun _ => ev_chain ev_c (ev_var rfl) rv_I0 fun _ => ⟨_, ev_var rfl, rv_I0⟩) rfl) fun H2 e2 => q H2 e2
    | _ => exact s_ret (v := .bl false) (ev_andV (b := false) e1 fun h => nomatch h) fun H2 e2 => q H2 e2
def edgeB (n : Int) : PyData → Bool
  | .tuple [.int p, .int q] => posB n (.int p) && (posB n (.int q) && decide (p < q))
  | _ => false
def spEdge : Sp := fun vs H Q _ => ∃ n v d, vs = [.int n, v] ∧ Dt H v d ∧ ∀ H', Ex H H' → Q (.bl (edgeB n d)) H'
theorem edgeB_tup (n : Int) (d1 d2 : PyData) : edgeB n (.tuple [d1, d2]) = (posB n d1 && (posB n d2 && (match d1, d2 with | .int p, .int q => decide (p < q) | _, _ => false))) := by
  cases d1 <;> cases d2 <;> simp [edgeB, posB]
theorem edgeB_len (n : Int) : ∀ {ds : List PyData}, ds.length ≠ 2 → edgeB n (.tuple ds) = false
  | [], _ => rfl
  | [d], _ => by cases d <;> rfl
  | [_, _], h => absurd rfl h
  | d :: e :: _ :: _, _ => by cases d <;> cases e <;> rfl
theorem ev_lenT {K : PySem.W.Frag} {σ : L2.St} {H : Hp} {ta : TE} {p : Addr} {xs : List V} (ha : Ev ta σ H (.ref p)) (h : H p = some (.tup xs)) :
    Ev (tCB (fun xs H Q => ∃ p ys, xs = [V.ref p] ∧ (SqL K H p ys ∨ SqT K H p ys) ∧ Q (.int ys.length) H) (tCons ta tNil)) σ H (.int (xs.length : Int)) := fun H1 e Q q =>
  ha H1 e _ fun H2 e2 => ⟨p, xs, rfl, .inr (st_of ((e.trans e2) _ _ h)), q H2 e2⟩
theorem ok_edge {f fP : Addr} {fd fdP : FuncData} {k : Nat} (F : Fun K "is_edge" "is_edge" sEdge f fd) (GP : FnOk P w K mg base CX0 k fP fdP ["n", "thing"] spPos) (FP : Fun K "is_position" "is_position" sPos fP fdP) (bP : Binds K fdP ["n", "thing"] []) (gP : mg "is_position" = some (.ref fP))
    (mIsi : mg "isinstance" = none) (mTup : mg "tuple" = none) (mLen : mg "len" = none) : FnOk P w K mg base CX0 (k + 1) f fd ["n", "thing"] spEdge := by
  refine F.ok scEdge (fun vs H Q E h => ?_) (fun cdv A outer s H vs Q E hr h => ?_)
  · obtain ⟨n, v, d, rfl, _⟩ := h
    rfl
  · obtain ⟨n, v, d, rfl, hd, q⟩ := h
    refine ⟨_, (pss_cons (ps_if (PW.pt (pw_or (pt_not (pt_val (pe_callB call_isi (by rfl) mIsi boot_isinstance (pa_cons (pv 1) (pa_cons (pe_bltn (v := .ty "tuple") (by rfl) mTup boot_tuple rfl) pa_nil))))) (pw_or1 (pt_cmpR op_ne (pe_callB call_len_seq (by rfl) mLen boot_len (pa_cons (pv 1) pa_nil)) pe_int (nomark _))))) (pss_one (ps_ret pe_bl)) pss_nil)
      (pss_cons (ps_asg (pv 1) (pg_tup rfl (pgs_cons (pg_name (i := 2) scEdge.nd rfl (Or.inl rfl)) (pgs_cons (pg_name (i := 3) scEdge.nd rfl (Or.inl rfl)) pgs_nil))))
      (pss_one (ps_ret (pe_and (pe_call GP hr (by rfl) gP FP.kp bP .nil pass0 (pa_cons (pv 0) (pa_cons (pv 2) pa_nil))) (pe_and (pe_call GP hr (by rfl) gP FP.kp bP .nil pass0 (pa_cons (pv 0) (pa_cons (pv 3) pa_nil))) (pe_one (pe_cmpR op_lt (pv 2) (pv 3) (nomark _))))))))), ?_⟩
    have e0 : Ev (tVar 1) (start ["n", "thing", "p", "q"] [.int n, v]) H v := ev_var rfl
    rcases hd.tup_or with ⟨a, xs, ds, rfl, ha, ht, rfl⟩ | hn
    · have hlen : xs.length = ds.length := ht.length
      refine q_when (b := !true || !decide (V.int xs.length = V.int 2)) (et_or (et_not (et_B (ev_isi e0 hd (kit_tup _)))) fun _ => et_test (ev_op (ev_lenT e0 ha) ev_c (rv_ne rfl))) ?_ ?_
      · intro hb H1 e1
        have hb2 : (!decide (V.int xs.length = V.int 2)) = true := hb
        have hb3 := of_decide_eq_false ((Bool.not_eq_true' _).mp hb2)
        have e2 := edgeB_len n (ds := ds) fun z => hb3 (by rw [hlen, z]; rfl)
        refine s_ret (v := .bl false) ev_c fun H2 e3 => ?_
        rw [← e2]
        exact q H2 (e1.trans e3)
      · intro hb H1 e1
        have hb2 : (!decide (V.int xs.length = V.int 2)) = false := hb
        have hb3 := V.int.inj (of_decide_eq_true ((Bool.not_eq_false' _).mp hb2))
        have t1 := ht.same (same_ex e1)
        have ha1 := e1 _ _ ha
        match xs, ds, t1, hb3, ha1 with
        | [x, y], [d1, d2], .cons h1 (.cons h2 .nil), _, ha1 =>
          refine ⟨.ref a, rfl, a, [x, y], rfl, st_of ha1, rfl, x, [y], rfl, y, [], rfl, rfl, ?_⟩
          have ep : ∀ {i : Nat} {z : V} {d : PyData} {σ : L2.St}, σ[0]? = some (some (.int n)) → σ[i]? = some (some z) → Dt H1 z d → Ev (tCall spPos [] E0 (tCons (tVar 0) (tCons (tVar i) tNil))) σ H1 (.bl (posB n d)) := fun g1 g2 g3 =>
            ev_sp (ea_cons (ev_var g1) (ea_cons (ev_var g2) ea_nil)) fun H2 e2 Q q => ⟨n, _, _, rfl, g3.same (same_ex e2), fun H3 e3 => q H3 e3⟩
          dsimp only
          refine s_ret (v := .bl (edgeB n (.tuple [d1, d2]))) ?_ fun H2 e2 => q H2 (e1.trans e2)
          rw [edgeB_tup]
          refine ev_andV (ep rfl rfl h1) fun p1 => ev_andV (ep rfl rfl h2) fun p2 => ?_
          cases h1 with
          | int i =>
            cases h2 with
            | int j => exact ev_op (ev_var rfl) (ev_var rfl) rv_I0
            | _ => cases p2
          | _ => cases p1
    · refine q_when (b := true) (et_is (et_or (b := true) (et_not (et_B (ev_isi e0 hd (kit_tup _)))) fun hs => ?_) ?_) ?_ ?_
      · rw [hn] at hs
        cases hs
      · rw [hn]
        rfl
      · intro _ H1 e1
        have : edgeB n d = false := by
          cases d <;> first | rfl | cases hn
        refine s_ret (v := .bl false) ev_c fun H2 e3 => ?_
        rw [← this]
        exact q H2 (e1.trans e3)
      · intro hb
        cases hb
end
end K10
namespace K10
open PySem PySem.Spec PyProof.Rows L2 Os Evl
def ascL : List Pr → List Bool
  | e :: f :: r => Os.ltP e f :: ascL (f :: r)
  | _ => []
theorem ascL_len : ∀ es : List Pr, (ascL es).length = es.length - 1
  | [] => rfl
  | [_] => rfl
  | e :: f :: r => by
    show (ascL (f :: r)).length + 1 = r.length + 2 - 1
    rw [ascL_len (f :: r)]
    show (r.length + 1 - 1) + 1 = _
    omega
theorem ascL_at : ∀ {es : List Pr} {i : Nat} {e f : Pr}, es[i]? = some e → es[i + 1]? = some f → (ascL es)[i]? = some (Os.ltP e f)
  | [], _, _, _, h, _ => by simp at h
  | [_], _, _, _, _, h => by simp at h
  | a :: b :: r, 0, e, f, h1, h2 => by
    cases h1
    cases h2
    rfl
  | a :: b :: r, i + 1, e, f, h1, h2 => ascL_at (es := b :: r) (i := i) h1 h2
theorem ascL_all : ∀ es : List Pr, (ascL es).all id = ascB es
  | [] => rfl
  | [_] => rfl
  | e :: f :: r => by
    show (Os.ltP e f && (ascL (f :: r)).all id) = (Os.ltP e f && ascB (f :: r))
    rw [ascL_all (f :: r)]
theorem lex_pr (e f : Pr) : HT.lexLt [(e.1 : Int), (e.2 : Int)] [(f.1 : Int), (f.2 : Int)] = Os.ltP e f := by
  show (if (e.1 : Int) = (f.1 : Int) then (if (e.2 : Int) = (f.2 : Int) then false else decide ((e.2 : Int) < (f.2 : Int))) else decide ((e.1 : Int) < (f.1 : Int))) = Os.ltP e f
  unfold Os.ltP
  by_cases h1 : e.1 = f.1
  · rw [if_pos (by omega), decide_eq_true h1, decide_eq_false (show ¬ e.1 < f.1 by omega)]
    by_cases h2 : e.2 = f.2
    · rw [if_pos (by omega), decide_eq_false (show ¬ e.2 < f.2 by omega)]
      rfl
    · rw [if_neg (by omega), decide_eq_decide.mpr (show (e.2 : Int) < (f.2 : Int) ↔ e.2 < f.2 by omega)]
      cases decide (e.2 < f.2) <;> rfl
  · rw [if_neg (by omega), decide_eq_false h1, decide_eq_decide.mpr (show (e.1 : Int) < (f.1 : Int) ↔ e.1 < f.1 by omega)]
    cases decide (e.1 < f.1) <;> rfl
theorem cut_drop1 (xs : List V) : cutV xs (some 1) none = xs.drop 1 := by
  unfold cutV
  rw [HT.sIx_none, show HT.sIx xs.length 0 (some 1) = min 1 xs.length from HT.sIx_nat xs.length 0 1]
  cases xs with
  | nil => rfl
  | cons x r =>
    rw [show min 1 (x :: r).length = 1 by rw [List.length_cons]; omega]
    show List.take ((x :: r).length - 1) r = r
    rw [List.length_cons, Nat.add_sub_cancel, List.take_length]
section
variable {K : PySem.W.Frag} {σ : L2.St} {H : Hp} {ta tb : TE} {tz : TS} {D : Ends} {x y : V}
/-- i, j = a, b by a tuple -/
theorem q_asgPair {i j n : Nat} (ha : Ev ta σ H x) (hb : Ev tb σ H y) (hn : n = 2) (k : ∀ H1, Ex H H1 → tz D ((σ.set i (some x)).set j (some y)) H1) : tSeq (tAsg (tTup (tCons ta (tCons tb tNil))) (gTup K n (gCons (gName i) (gCons (gName j) gNil)))) tz D σ H :=
  ha H (Ex.refl H) _ fun H2 e2 => hb H2 e2 _ fun H3 e3 => ⟨(show 2 ≤ sizeLine by decide), fun p hp => ⟨p, [x, y], rfl, st_of upd_same, hn.symm, x, [y], rfl, y, [], rfl, rfl, k _ ((e2.trans e3).trans (Ex.new hp))⟩⟩
end
section
variable {P : Program} {w : World} {K : PySem.W.Frag} {mg : Str → Option Value} {base : Heap}
def spAsc : Sp := fun vs H Q _ => ∃ (a : Addr) (xs : List V) (es : List Pr), vs = [.ref a] ∧ H a = some (.lst xs) ∧ PrsV H xs es ∧ es.length ≤ 1000 ∧ ∀ H', Ex H H' → Q (.bl (ascB es)) H'
theorem ok_asc {f : Addr} {fd : FuncData} {k : Nat} (F : Fun K "_is_ascending" "_is_ascending" sAsc f fd) (mAll : mg "all" = none) (mZip : mg "zip" = none) : FnOk P w K mg base CX0 (k + 1) f fd ["edges"] spAsc := by
  refine F.ok scAsc (fun vs H Q E h => ?_) (fun cdv A outer s H vs Q E hr h => ?_)
  · obtain ⟨a, xs, es, rfl, _⟩ := h
    rfl
  · obtain ⟨a, xs, es, rfl, ha, hp, hl, q⟩ := h
    refine ⟨_, (pss_one (ps_ret (pe_callB (cr_all rfl) (by rfl) mAll boot_all (pa_cons (pe_lc (own := [("edge", 1), ("following", 2)]) (g := gTup K 2 (gCons (gName 1) (gCons (gName 2) gNil))) (tt := tYes) (te := tOp (rLtT K) (tVar 1) (tVar 2)) rfl scAsc.nd (pi_zip (by rfl) mZip (pa_cons (pv 0) (pa_cons (pe_slice sl_list (pv 0) (po_some pe_int) po_none) pa_nil))) (blkOk_by (N := ["edges", "edge", "following"]) (sc := defScope sAsc) (by decide +kernel)) (fun _ _ _ _ _ => pg_tup rfl (pgs_cons (pg_name (i := 1) scAsc.nd rfl (Or.inl rfl)) (pgs_cons (pg_name (i := 2) scAsc.nd rfl (Or.inl rfl)) pgs_nil))) (fun _ _ _ _ _ => pts_nil) (fun _ _ _ _ _ => pe_cmpR (op_ltT hr.units0) (pv 1) (pv 2) (nomark _))) pa_nil)))), ?_⟩
    have hlen := hp.length
    refine s_ret (v := .bl (ascB es)) (ev_is (ev_all (bs := ascL es) ?_) (by rw [ascL_all])) fun H1 e1 => q H1 e1
    intro H0 e0 Q' q'
    refine ⟨.ref a, rfl, .ref a, rfl, 1, rfl, a, xs, rfl, sq_of (e0 _ _ ha), fun c nc => ?_⟩
    rw [cut_drop1]
    have e1 : Ex H0 (upd H0 c (.lst (xs.drop 1))) := Ex.new nc
    refine ⟨a, c, xs, xs.drop 1, rfl, sq_of (e1 _ _ (e0 _ _ ha)), sq_of upd_same, fun D hD => ?_⟩
    have hD0 : H0 D = none := fresh_back e1 hD
    refine lc_it (walk_zip (n := es.length - 1) (by rw [List.length_drop]; omega)) (fun i Hh => Ex (upd H0 c (.lst (xs.drop 1))) Hh ∧ Hh D = some (.lst (((ascL es).take i).map V.bl))) ⟨Ex.new hD, upd_same⟩ (fun i Hh _ p => ⟨sq_of (p.1 _ _ (e1 _ _ (e0 _ _ ha))), sq_of (p.1 _ _ upd_same)⟩) ?_ ?_
    · rintro i v Ha Hb hi ⟨p1, p2⟩ ⟨T, x, y, rfl, nT, rfl, hx, hy⟩
      have hx' : xs[i]? = some x := hx
      have hy' : (xs.drop 1)[i]? = some y := hy
      rw [List.getElem?_drop, Nat.add_comm 1 i] at hy'
      obtain ⟨e, he, t1, rfl, ht1⟩ := hp.get hx'
      obtain ⟨g, hg, t2, rfl, ht2⟩ := hp.get hy'
      have eT : Ex Ha (upd Ha T (.tup [.ref t1, .ref t2])) := Ex.new nT
      have eA : Ex H (upd Ha T (.tup [.ref t1, .ref t2])) := ((e0.trans e1).trans p1).trans eT
      refine ⟨T, [.ref t1, .ref t2], rfl, st_of upd_same, rfl, .ref t1, [.ref t2], rfl, .ref t2, [], rfl, rfl, rfl, ?_⟩
      show tOp (rLtT K) (tVar 1) (tVar 2) _ _ _
      refine ⟨.ref t1, rfl, .ref t2, rfl, t1, t2, [(e.1 : Int), (e.2 : Int)], [(g.1 : Int), (g.2 : Int)], rfl, rfl, st_of (eA _ _ ht1), st_of (eA _ _ ht2), ((ascL es).take i).map V.bl, eT _ _ p2, sz_lt (by rw [List.length_map, List.length_take]; omega), Ex.mut (p1.trans eT) hD, ?_⟩
      rw [lex_pr, List.take_add_one, ascL_at he hg, List.map_append]
      exact upd_same
    · rintro Hh ⟨p1, p2⟩
      rw [List.take_of_length_le (by rw [ascL_len]; omega)] at p2
      exact q' D Hh hD0 (e1.trans p1) p2
def spCyc : Sp := fun vs H Q _ => ∃ (n : Nat) (a : Addr) (xs : List V) (es : List Pr), vs = [.int (n : Int), .ref a] ∧ H a = some (.lst xs) ∧ PrsV H xs es ∧ n ≤ 1000 ∧ (∀ e ∈ es, e.1 < n ∧ e.2 < n) ∧ ∀ H', Ex H H' → Q (.bl (cycB es (List.range n))) H'
theorem ok_cyc {f : Addr} {fd : FuncData} {k : Nat} (F : Fun K "_has_cycle" "_has_cycle" sCyc f fd) (mList : mg "list" = none) (mRange : mg "range" = none) : FnOk P w K mg base CX0 (k + 1) f fd ["n", "edges"] spCyc := by
  refine F.ok scCyc (fun vs H Q E h => ?_) (fun cdv A outer s H vs Q E hr h => ?_)
  · obtain ⟨n, a, xs, es, rfl, _⟩ := h
    rfl
  · obtain ⟨n, a, xs, es, rfl, ha, hp, hn, hb, q⟩ := h
    refine ⟨_, (pss_cons (ps_set (i := 2) scCyc.nd rfl (.inl rfl) (pe_listRg rfl (by rfl) mList (prg_1 (by rfl) mRange (pv 0))))
      (pss_cons (ps_for PassesOwn.never rfl (pi_list (pv 1)) (pg_tup rfl (pgs_cons (pg_name (i := 3) scCyc.nd rfl (Or.inl rfl)) (pgs_cons (pg_name (i := 4) scCyc.nd rfl (Or.inl rfl)) pgs_nil)))
      (pss_cons (ps_asg (pe_tup (pa_cons (pe_ix ix_list (pv 2) (pv 3) (fun _ _ => rfl)) (pa_cons (pe_ix ix_list (pv 2) (pv 4) (fun _ _ => rfl)) pa_nil))) (pg_tup rfl (pgs_cons (pg_name (i := 5) scCyc.nd rfl (Or.inr rfl)) (pgs_cons (pg_name (i := 6) scCyc.nd rfl (Or.inr rfl)) pgs_nil))))
      (pss_cons (ps_if (pt_cmpR op_eq (pv 5) (pv 6) (nomark _)) (pss_one (ps_ret pe_bl)) pss_nil)
      (pss_one (ps_setLc (i := 2) (own := [("tree", 7)]) (g := gName 7) (tt := tYes) rfl scCyc.nd rfl rfl (sw_true rfl rfl rfl (by decide +kernel)) (pi_list (pv 2)) (blkOk_by (N := ["n", "edges", "tree_of", "p", "q", "kept", "joined", "tree"]) (sc := defScope sCyc) (by decide +kernel)) (fun _ _ _ _ _ => pg_name (i := 7) scCyc.nd rfl (Or.inl rfl)) (fun _ _ _ _ _ => pts_nil) (fun _ _ _ _ _ => pe_ifExp (pt_cmpR op_eq (pv 7) (pv 6) (nomark _)) (pv 5) (pv 7)))))))
      (pss_one (ps_ret pe_bl)))), ?_⟩
    have hlen := hp.length
    refine ⟨.int (n : Int), rfl, (n : Int), rfl, RgOk.of_le (by omega) (by omega) (by omega) (by omega), fun L hL => ?_⟩
    have e1 : Ex H (upd H L (.lst (rgV 0 (n : Int)))) := Ex.new hL
    have rg : rgV 0 (n : Int) = (List.range n).map fun x : Nat => V.int (x : Int) := by
      unfold rgV
      rw [show ((n : Int) - 0).toNat = n by omega]
      exact List.map_congr_left fun i _ => congrArg V.int (by omega)
    have hb' : ∀ e ∈ es, e.1 < n ∧ e.2 < n := hb
    refine q_forL (xs := xs) (ev_var rfl) (sq_of (e1 _ _ ha)) (fun i σ' H' => Ex H H' ∧ ∃ (t : List Nat) (M : Addr) (y3 y4 y5 y6 y7 : Option V), σ' = [some (.int (n : Int)), some (.ref a), some (.ref M), y3, y4, y5, y6, y7] ∧ H' M = some (.lst (t.map fun x : Nat => V.int (x : Int))) ∧ t.length = n ∧ cycB (es.drop i) t = cycB es (List.range n))
      (fun H2 e2 => ⟨e1.trans e2, List.range n, L, _, _, _, _, _, rfl, e2 _ _ (by rw [← rg]; exact upd_same), List.length_range, rfl⟩) (fun i σ' H' _ h => sq_of (h.1 _ _ ha)) ?_ ?_
    · rintro i x σ' H2 hx ⟨e2, t, M, y3, y4, y5, y6, y7, rfl, hM, tl, cy⟩
      obtain ⟨e, he, tp, rfl, htp⟩ := hp.get hx
      obtain ⟨b1, b2⟩ := hb e (List.mem_of_getElem? he)
      refine ⟨tp, _, rfl, st_of (e2 _ _ htp), rfl, _, _, rfl, _, [], rfl, rfl, ?_⟩
      have at' : ∀ {j : Nat}, j < n → (t.map fun x : Nat => V.int (x : Int))[j]? = some (.int ((t.getD j 0 : Nat) : Int)) := fun {j} hj => by
        rw [List.getElem?_map, List.getD_eq_getElem?_getD, List.getElem?_eq_getElem (by omega)]
        rfl
      refine q_asgPair (x := .int ((t.getD e.1 0 : Nat) : Int)) (y := .int ((t.getD e.2 0 : Nat) : Int)) (ev_op (ev_var rfl) (ev_var rfl) (rv_ixL (sq_of hM) (atI_nat (at' b1)))) (ev_op (ev_var rfl) (ev_var rfl) (rv_ixL (sq_of hM) (atI_nat (at' b2)))) rfl fun H3 e3 => ?_
      have hd : es.drop i = e :: es.drop (i + 1) := by
        have lt := (List.getElem?_eq_some_iff.mp he).1
        rw [List.drop_eq_getElem_cons lt, (List.getElem?_eq_some_iff.mp he).2]
      rw [hd] at cy
      refine q_when (b := decide (V.int ((t.getD e.1 0 : Nat) : Int) = V.int ((t.getD e.2 0 : Nat) : Int))) (et_test (ev_op (ev_var rfl) (ev_var rfl) (rv_eq rfl))) (fun hq H4 e4 => ?_) (fun hq H4 e4 => ?_)
      · have eq : t.getD e.1 0 = t.getD e.2 0 := by
          have := V.int.inj (of_decide_eq_true hq)
          omega
        have c1 : cycB (e :: es.drop (i + 1)) t = true := if_pos eq
        rw [c1] at cy
        refine s_ret (v := .bl true) ev_c fun H5 e5 => ?_
        rw [cy]
        exact q H5 (((e2.trans e3).trans e4).trans e5)
      · have ne : ¬ t.getD e.1 0 = t.getD e.2 0 := fun z => of_decide_eq_false hq (by rw [z])
        have c1 : cycB (e :: es.drop (i + 1)) t = cycB (es.drop (i + 1)) (merge t e) := if_neg ne
        rw [c1] at cy
        have hM4 := e4 _ _ (e3 _ _ hM)
        refine s_asgL (xs := (merge t e).map fun x : Nat => V.int (x : Int)) ?_ fun M' H5 hM' e5 h5 => ?_
        · unfold merge
          rw [List.map_map, ← given_map t ((fun x : Nat => V.int (x : Int)) ∘ fun x => if x = t.getD e.2 0 then t.getD e.1 0 else x) (fun i => .int ((if t.getD i 0 = t.getD e.2 0 then t.getD e.1 0 else t.getD i 0 : Nat) : Int)) (fun i x e => by
            rw [List.getD_eq_getElem?_getD, e]
            rfl)]
          rw [show t.length = (t.map fun x : Nat => V.int (x : Int)).length by rw [List.length_map]]
          refine el_lcL (f := fun _ => true) (v := _) (ev_var rfl) (sq_of hM4) (by rw [List.length_map]; omega) (fun _ => rfl) (fun i c H2 _ _ => fun H3 e3 Q q => q H3 (Ex.refl H3)) (fun i x H6 e6 hx' _ => ?_)
          rw [List.getElem?_map] at hx'
          cases hti : t[i]? with
          | none => rw [hti] at hx'; cases hx'
          | some z =>
            rw [hti] at hx'
            cases hx'
            have ez : t.getD i 0 = z := by rw [List.getD_eq_getElem?_getD, hti]; rfl
            rw [ez]
            refine ev_if (b := decide (V.int (z : Int) = V.int ((t.getD e.2 0 : Nat) : Int))) (et_test (ev_op (ev_var rfl) (ev_var rfl) (rv_eq rfl))) (fun hb => ?_) (fun hb => ?_)
            · have : z = t.getD e.2 0 := by
                have := V.int.inj (of_decide_eq_true hb)
                omega
              rw [if_pos this]
              exact ev_var rfl
            · have : ¬ z = t.getD e.2 0 := fun y => of_decide_eq_false hb (by rw [y])
              rw [if_neg this]
              exact ev_var rfl
        · exact ⟨((e2.trans e3).trans e4).trans e5, merge t e, M', _, _, _, _, _, rfl, h5, by rw [merge_length, tl], cy⟩
    · rintro σ' H2 ⟨e2, t, M, y3, y4, y5, y6, y7, rfl, hM, tl, cy⟩
      rw [hlen, List.drop_length] at cy
      refine s_ret (v := .bl false) ev_c fun H3 e3 => ?_
      rw [show false = cycB es (List.range n) from cy]
      exact q H3 (e2.trans e3)
end
end K10
namespace K10
open PySem PySem.Spec PyProof.Rows L2 Os Evl
/-- a pair of a size and a list of edges -/
def GraphV (G : Hp) (v : V) (n : Nat) (es : List Pr) : Prop := ∃ (g a : Addr) (xs : List V), v = .ref g ∧ G g = some (.tup [.int (n : Int), .ref a]) ∧ G a = some (.lst xs) ∧ PrsV G xs es
theorem GraphV.ex {G G' : Hp} {v : V} {n : Nat} {es : List Pr} (h : GraphV G v n es) (e : Ex G G') : GraphV G' v n es := by
  obtain ⟨g, a, xs, h1, h2, h3, h4⟩ := h
  exact ⟨g, a, xs, h1, e _ _ h2, e _ _ h3, h4.ex e⟩
theorem GraphV.dt {G : Hp} {v : V} {n : Nat} {es : List Pr} (h : GraphV G v n es) : Dt G v (.tuple [.int (n : Int), .list (es.map Os.prD)]) := by
  obtain ⟨g, a, xs, rfl, h2, h3, h4⟩ := h
  exact .tup h2 (.cons (.int _) (.cons (.lst h3 h4.dts) .nil))
/-- a forest, no larger than the document's -/
structure IsForest (n : Nat) (es : List Pr) : Prop where
  edges : Edges n es
  n1 : 1 ≤ n
  n40 : n ≤ 40
  few : es.length ≤ 60
theorem edge_ok {n : Nat} {es : List Pr} (h : IsForest n es) {e : Pr} (he : e ∈ es) : edgeB (n : Int) (Os.prD e) = true := by
  obtain ⟨h1, h2⟩ := h.edges.inn e he
  show (decide (0 ≤ (e.1 : Int)) && decide ((e.1 : Int) < (n : Int)) && (decide (0 ≤ (e.2 : Int)) && decide ((e.2 : Int) < (n : Int)) && decide ((e.1 : Int) < (e.2 : Int)))) = true
  rw [decide_eq_true (show 0 ≤ (e.1 : Int) by omega), decide_eq_true (show (e.1 : Int) < (n : Int) by omega), decide_eq_true (show 0 ≤ (e.2 : Int) by omega), decide_eq_true (show (e.2 : Int) < (n : Int) by omega), decide_eq_true (show (e.1 : Int) < (e.2 : Int) by omega)]
  rfl
section
variable {P : Program} {w : World} {K : PySem.W.Frag} {mg : Str → Option Value} {base : Heap}
def spForest : Sp := fun vs H Q _ => ∃ (v : V) (n : Nat) (es : List Pr), vs = [v] ∧ GraphV H v n es ∧ IsForest n es ∧ ∀ H', Ex H H' → Q (.bl true) H'
theorem ok_forest {f fI fE fA fC : Addr} {fd fdI fdE fdA fdC : FuncData} {k : Nat} (F : Fun K "is_forest" "is_forest" sForest f fd)
    (GI : FnOk P w K mg base CX0 k fI fdI ["thing"] spInt) (FI : Fun K "is_integer" "is_integer" sInt fI fdI) (bI : Binds K fdI ["thing"] []) (gI : mg "is_integer" = some (.ref fI))
    (GE : FnOk P w K mg base CX0 k fE fdE ["n", "thing"] spEdge) (FE : Fun K "is_edge" "is_edge" sEdge fE fdE) (bE : Binds K fdE ["n", "thing"] []) (gE : mg "is_edge" = some (.ref fE))
    (GA : FnOk P w K mg base CX0 k fA fdA ["edges"] spAsc) (FA : Fun K "_is_ascending" "_is_ascending" sAsc fA fdA) (bA : Binds K fdA ["edges"] []) (gA : mg "_is_ascending" = some (.ref fA))
    (GC : FnOk P w K mg base CX0 k fC fdC ["n", "edges"] spCyc) (FC : Fun K "_has_cycle" "_has_cycle" sCyc fC fdC) (bC : Binds K fdC ["n", "edges"] []) (gC : mg "_has_cycle" = some (.ref fC))
    (mIsi : mg "isinstance" = none) (mTup : mg "tuple" = none) (mLen : mg "len" = none) (mList : mg "list" = none) (mAll : mg "all" = none) {t40 : Tok} (m40 : mg "MOST_POSITIONS" = some (.int 40 t40)) : FnOk P w K mg base CX0 (k + 1) f fd ["thing"] spForest := by
  refine F.ok scForest (fun vs H Q E h => ?_) (fun cdv A outer s H vs Q E hr h => ?_)
  · obtain ⟨v, n, es, rfl, _⟩ := h
    rfl
  · obtain ⟨v, n, es, rfl, hg, ok, q⟩ := h
    refine ⟨_, (pss_cons (ps_if (PW.pt (pw_or (pt_not (pt_val (pe_callB call_isi (by rfl) mIsi boot_isinstance (pa_cons (pv 0) (pa_cons (pe_bltn (v := .ty "tuple") (by rfl) mTup boot_tuple rfl) pa_nil))))) (pw_or1 (pt_cmpR op_ne (pe_callB call_len_seq (by rfl) mLen boot_len (pa_cons (pv 0) pa_nil)) pe_int (nomark _))))) (pss_one (ps_ret pe_bl)) pss_nil)
      (pss_cons (ps_asg (pv 0) (pg_tup rfl (pgs_cons (pg_name (i := 1) scForest.nd rfl (Or.inr rfl)) (pgs_cons (pg_name (i := 2) scForest.nd rfl (Or.inl rfl)) pgs_nil))))
      (pss_cons (ps_if (PW.pt (pw_or (pt_not (pt_val (pe_call GI hr (by rfl) gI FI.kp bI .nil pass0 (pa_cons (pv 1) pa_nil)))) (pw_or1 (pt_not (pt_chain op_le op_le pe_int (pv 1) (pe_glob (v := .int 40) (by rfl) m40 ⟨_, rfl⟩)))))) (pss_one (ps_ret pe_bl)) pss_nil)
      (pss_cons (ps_if (PW.pt (pw_or (pt_not (pt_val (pe_callB call_isi (by rfl) mIsi boot_isinstance (pa_cons (pv 2) (pa_cons (pe_bltn (v := .ty "list") (by rfl) mList boot_list rfl) pa_nil))))) (pw_or1 (pt_not (pt_val (pe_callB (cr_all rfl) (by rfl) mAll boot_all (pa_cons (pe_lc (own := [("edge", 3)]) (g := gName 3) (tt := tYes) rfl scForest.nd (pi_list (pv 2)) (blkOk_by (N := ["thing", "n", "edges", "edge"]) (sc := defScope sForest) (by decide +kernel)) (fun _ _ _ _ _ => pg_name (i := 3) scForest.nd rfl (Or.inl rfl)) (fun _ _ _ _ _ => pts_nil) (fun _ _ _ _ _ => (pe_call GE hr (by rfl) gE FE.kp bE .nil pass0 (pa_cons (pv 1) (pa_cons (pv 3) pa_nil))))) pa_nil))))))) (pss_one (ps_ret pe_bl)) pss_nil)
      (pss_one (ps_ret (pe_and (pe_call GA hr (by rfl) gA FA.kp bA .nil pass0 (pa_cons (pv 2) pa_nil)) (pe_one (pe_not (pe_call GC hr (by rfl) gC FC.kp bC .nil pass0 (pa_cons (pv 1) (pa_cons (pv 2) pa_nil)))))))))))), ?_⟩
    have hd := hg.dt
    obtain ⟨g, a, xs, rfl, h2, h3, h4⟩ := hg
    have hlen := h4.length
    refine q_when (b := false) (et_is (et_or (a := !true) (b := false) (et_not (et_B (ev_isi (ev_var rfl) hd (kit_tup _)))) fun _ => et_test (ev_is (ev_op (ev_lenT (ev_var rfl) h2) ev_c (rv_ne rfl)) rfl)) rfl) (fun h => nomatch h) fun _ H1 e1 => ?_
    refine ⟨.ref g, rfl, g, _, rfl, st_of (e1 _ _ h2), rfl, .int (n : Int), _, rfl, .ref a, [], rfl, rfl, ?_⟩
    have eint : ∀ {σ : L2.St} {H2 : Hp}, σ[1]? = some (some (.int (n : Int))) → Ev (tCall spInt [] E0 (tCons (tVar 1) tNil)) σ H2 (.bl true) := fun g1 =>
      ev_sp (ea_cons (ev_var g1) ea_nil) fun H3 e3 Q q => ⟨_, .int (n : Int), rfl, .int _, fun H4 e4 => q H4 e4⟩
    have n1 := ok.n1
    have n40 := ok.n40
    refine q_when (b := false) (et_is (et_or (a := !true) (b := !(decide ((1 : Int) ≤ (n : Int)) && decide ((n : Int) ≤ 40))) (et_not (et_B (eint rfl))) fun _ => et_not (et_test (ev_chain ev_c (ev_var rfl) rv_I0 fun _ => ⟨_, ev_c, rv_I0⟩)))
      (by rw [decide_eq_true (show (1 : Int) ≤ (n : Int) by omega), decide_eq_true (show (n : Int) ≤ 40 by omega)]; rfl)) (fun h => nomatch h) fun _ H2 e2 => ?_
    have e12 := e1.trans e2
    have hl2 : Dt H2 (.ref a) (.list (es.map Os.prD)) := .lst (e12 _ _ h3) (h4.ex e12).dts
    refine q_when (b := false) (et_is (et_or (a := !true) (b := !true) (et_not (et_B (ev_isi (ev_var rfl) hl2 (kit_list _)))) fun _ => et_not (et_B (ev_is (ev_all (bs := es.map fun _ => true) ?_) ?_))) rfl) (fun h => nomatch h) fun _ H3 e3 => ?_
    · rw [List.map_map, ← given_map es (V.bl ∘ fun _ => true) (fun _ => .bl true) (fun _ _ _ => rfl), ← hlen]
      refine el_lcL (f := fun _ => true) (v := _) (ev_var rfl) (sq_of (e12 _ _ h3)) (by rw [hlen]; have := ok.few; omega) (fun _ => rfl) (fun i c H2 _ _ => fun H3 e3 Q q => q H3 (Ex.refl H3)) (fun i x H4 e4 hx _ => ?_)
      obtain ⟨e, he, pe⟩ := h4.get hx
      refine ev_sp (ea_cons (ev_var rfl) (ea_cons (ev_var rfl) ea_nil)) fun H5 e5 Q q => ⟨(n : Int), x, Os.prD e, rfl, (pe.ex ((e12.trans e4).trans e5)).dt, fun H6 e6 => ?_⟩
      rw [edge_ok ok (List.mem_of_getElem? he)]
      exact q H6 e6
    · rw [List.all_eq_true.mpr (fun b hb => by
        obtain ⟨_, _, rfl⟩ := List.mem_map.mp hb
        rfl)]
    · have e13 := e12.trans e3
      refine s_ret (v := .bl true) (ev_is (ev_andV (a := true) (b := !false) (ev_sp (ea_cons (ev_var rfl) ea_nil) fun H4 e4 Q q => ⟨a, xs, es, rfl, e4 _ _ (e13 _ _ h3), (h4.ex e13).ex e4, by have := ok.few; omega, fun H5 e5 => by rw [asc_of ok.edges.asc]; exact q H5 e5⟩)
        fun _ => ev_notV (ev_sp (ea_cons (ev_var rfl) (ea_cons (ev_var rfl) ea_nil)) fun H4 e4 Q q => ⟨n, a, xs, es, rfl, e4 _ _ (e13 _ _ h3), (h4.ex e13).ex e4, by omega, (fun e he => by have := ok.edges.inn e he; omega), fun H5 e5 => by rw [ok.edges.no_cyc]; exact q H5 e5⟩)) rfl) fun H4 e4 => q H4 (e13.trans e4)
end
end K10
/-! the law's drawn numbers: what a source holds -/
namespace Os
open PySem PySem.Spec PyProof.Rows L2 Evl

/-- at s a source: the digits left, the seed, the number of mixed draws (at most B) -/
def Src (H : Hp) (s : Addr) (B : Nat) : Prop := ∃ x y z : Int, H s = some (.lst [.int x, .int y, .int z]) ∧ 0 ≤ x ∧ 0 ≤ y ∧ y < 2 ^ 140 ∧ 0 ≤ z ∧ z ≤ (B : Int)
theorem Src.mono {H : Hp} {s : Addr} {B C : Nat} (h : Src H s B) (le : B ≤ C) : Src H s C := by
  obtain ⟨x, y, z, h1, h2, h3, h4, h5, h6⟩ := h
  exact ⟨x, y, z, h1, h2, h3, h4, h5, by omega⟩
theorem Src.ex {H H' : Hp} {s : Addr} {B : Nat} (h : Src H s B) (e : Ex H H') : Src H' s B := by
  obtain ⟨x, y, z, h1, h2⟩ := h
  exact ⟨x, y, z, e _ _ h1, h2⟩
theorem Src.at {H : Hp} {s : Addr} {B : Nat} (h : Src H s B) : ∃ o, H s = some o := by
  obtain ⟨x, y, z, h1, _⟩ := h
  exact ⟨_, h1⟩
/-- all but the source stands as it was; the source has made at most n more mixed draws -/
structure Drew (s : Addr) (B : Nat) (H H' : Hp) : Prop where
  kept : Ex (hide s H) (hide s H')
  src : Src H' s B
theorem Drew.refl {s : Addr} {B : Nat} {H : Hp} (h : Src H s B) : Drew s B H H := ⟨Ex.refl _, h⟩
theorem Drew.trans {s : Addr} {B C : Nat} {H H1 H2 : Hp} (a : Drew s B H H1) (b : Drew s C H1 H2) : Drew s C H H2 := ⟨a.kept.trans b.kept, b.src⟩
theorem Drew.ex {s : Addr} {B : Nat} {H H1 H2 : Hp} (a : Drew s B H H1) (e : Ex H1 H2) : Drew s B H H2 := ⟨a.kept.trans (Same.hide (same_ex e)), a.src.ex e⟩
theorem Drew.get {s : Addr} {B : Nat} {H H' : Hp} (a : Drew s B H H') {b : Addr} {o : HO} (n : b ≠ s) (h : H b = some o) : H' b = some o := by
  have := a.kept b o (by rw [hide_ne n]; exact h)
  exact (hide_of this).2
theorem Drew.mono {s : Addr} {B C : Nat} {H H' : Hp} (a : Drew s B H H') (le : B ≤ C) : Drew s C H H' := ⟨a.kept, a.src.mono le⟩
/-- what is free behind was free before -/
theorem Drew.none {s : Addr} {B : Nat} {H H' : Hp} (a : Drew s B H H') (h0 : ∃ o, H s = some o) {p : Addr} (h : H' p = Option.none) : H p = Option.none := by
  obtain ⟨o, so⟩ := a.src.at
  have np : p ≠ s := fun e => by rw [e, so] at h; cases h
  cases q : H p with
  | none => rfl
  | some u =>
    rw [a.get np q] at h
    cases h
/-- a new object, or one that H did not know, is changed -/
theorem Drew.mut {s : Addr} {B : Nat} {H H' : Hp} (a : Drew s B H H') {p : Addr} {o : HO} (hs : ∃ u, H s = some u) (h : H p = Option.none) : Drew s B H (upd H' p o) := by
  obtain ⟨u, hu⟩ := hs
  have np : s ≠ p := ne_of_none hu h
  refine ⟨fun b v q => ?_, ?_⟩
  · obtain ⟨q1, q2⟩ := hide_of q
    rw [hide_ne q1, upd_ne (ne_of_none q2 h)]
    exact a.get q1 q2
  · obtain ⟨x, y, z, h1, h2⟩ := a.src
    exact ⟨x, y, z, by rw [upd_ne np]; exact h1, h2⟩

/-! ### data beside a source -/
theorem Dt.drew {s : Addr} {B : Nat} {H H' : Hp} {v : V} {d : PyData} (h : Dt (hide s H) v d) (a : Drew s B H H') : Dt (hide s H') v d := h.same (same_ex a.kept)
theorem Dt.seen {s : Addr} {H : Hp} {v : V} {d : PyData} (h : Dt (hide s H) v d) : Dt H v d := h.same hide_same
theorem Dts.seen {s : Addr} {H : Hp} {vs : List V} {ds : List PyData} (h : Dts (hide s H) vs ds) : Dts H vs ds := h.same hide_same

/-! ### the numbers -/
theorem mix_bound {y z : Int} (hy0 : 0 ≤ y) (hy : y < 2 ^ 140) (hz0 : 0 ≤ z) (hz : z < 2 ^ 80) (c : Int) (hc0 : 0 ≤ c) (hc : c < 2 ^ 30) : (y + c * z).natAbs < 2 ^ 141 := by
  have h1 : 0 ≤ c * z := Int.mul_nonneg hc0 hz0
  have h2 : c * z ≤ 2 ^ 30 * 2 ^ 80 := Int.mul_le_mul (by omega) (by omega) hz0 (by decide)
  have h3 : (2 : Int) ^ 30 * 2 ^ 80 ≤ 2 ^ 140 := by decide
  omega
theorem cube_nonneg {i : Int} (h : 0 ≤ i) : 0 ≤ i ^ (3 : Int).toNat := Int.pow_nonneg h
end Os
namespace K10
open PySem PySem.Spec PyProof.Rows L2 Os Evl
abbrev sSource : Stmt := topS 35
abbrev sPick : Stmt := topS 36
theorem scSource : FnScope ["script", "k", "cell"] ["script", "k"] (defScope sSource) := ⟨rfl, rfl, rfl, by decide +kernel, rfl, by decide +kernel, by decide +kernel⟩
theorem scPick : FnScope ["source", "count", "found", "mixed"] ["source", "count"] (defScope sPick) := ⟨rfl, rfl, rfl, by decide +kernel, rfl, by decide +kernel, by decide +kernel⟩
def cellOf (ns : List Int) (k : Nat) : Int := if (k : Int) < (ns.length : Int) then ns.getD k 0 else 0
section
variable {P : Program} {w : World} {K : PySem.W.Frag} {mg : Str → Option Value} {base : Heap}
def spSource (K : PySem.W.Frag) : Sp := fun vs H Q _ => ∃ (a : Addr) (ns : List Int) (k : Nat), vs = [.ref a, .int (k : Int)] ∧ SqL K H a (ns.map V.int) ∧ k ≤ 1000 ∧
  ∀ H' p, Ex H H' → H p = none → Src H' p 0 → Q (.ref p) H'
theorem ok_source {f : Addr} {fd : FuncData} {k : Nat} (F : Fun K "_law_source" "_law_source" sSource f fd) (mL : mg "len" = none) (mM : mg "max" = none) (mA : mg "abs" = none) :
    FnOk P w K mg base CX0 (k + 1) f fd ["script", "k"] (spSource K) := by
  refine F.ok scSource (fun vs H Q E h => ?_) (fun cdv A outer s H vs Q E hr h => ?_)
  · obtain ⟨a, ns, k, rfl, _⟩ := h
    rfl
  · obtain ⟨a, ns, k, rfl, hS, hk, q⟩ := h
    refine ⟨_, pss_cons (ps_set (i := 2) scSource.nd rfl (.inl rfl) (pe_ifExp (pt_cmpR op_lt (pv 1) (pe_callB call_len_seq (by rfl) mL boot_len (pa_cons (pv 0) pa_nil)) (nomark _)) (pe_ix ix_list (pv 0) (pv 1) (fun _ _ => rfl)) pe_int))
      (pss_one (ps_ret (pe_lst (pa_cons (pe_callB (call_max2 rfl) (by rfl) mM boot_max (pa_cons pe_int (pa_cons (pe_op op_sub (pe_callB call_abs (by rfl) mA boot_abs (pa_cons (pv 2) pa_nil)) (pe_op op_pow pe_int pe_int)) pa_nil)))
        (pa_cons (pe_op op_add (pe_op op_add (pe_op op_mul (pe_op op_mod (pe_callB call_abs (by rfl) mA boot_abs (pa_cons (pv 2) pa_nil)) (pe_op op_add (pe_op op_pow pe_int pe_int) pe_int)) pe_int) (pv 1)) pe_int)
        (pa_cons pe_int pa_nil)))))), ?_⟩
    refine q_asg (v := .int (cellOf ns k)) (ev_if (b := decide ((k : Int) < (ns.length : Int))) (et_test (ev_op (ev_var rfl) (ev_is (ev_len (ev_var rfl) hS) (by rw [List.length_map])) rv_I0)) (fun hb => ?_) (fun hb => ?_)) fun H1 e1 => ?_
    · have hb2 := of_decide_eq_true hb
      have e : cellOf ns k = ns.getD k 0 := if_pos hb2
      rw [e]
      refine ev_op (ev_var rfl) (ev_var rfl) (rv_ixL hS (atI_nat (j := k) ?_))
      rw [List.getElem?_map, List.getElem?_eq_getElem (by omega), List.getD_eq_getElem?_getD, List.getElem?_eq_getElem (by omega)]
      rfl
    · have hb2 := of_decide_eq_false hb
      have e : cellOf ns k = 0 := if_neg hb2
      rw [e]
      exact ev_c
    · have ec := ev_var (σ := (start ["script", "k", "cell"] [.ref a, .int (k : Int)]).set 2 (some (.int (cellOf ns k)))) (H := H1) (i := 2) (v := .int (cellOf ns k)) rfl
      generalize cellOf ns k = c at ec ⊢
      have e18 : (10 : Int) ^ (18 : Int).toNat = 1000000000000000000 := by decide
      have e36 : (10 : Int) ^ (36 : Int).toNat = 1000000000000000000000000000000000000 := by decide
      have pow : ∀ n : Int, 0 ≤ n → n ≤ 100 → CPow 10 n := fun n h1 h2 => ⟨h1, by omega, by decide⟩
      refine s_retL (el_lst (ea_cons (ev_max ev_c (ev_op (ev_abs ec) (ev_op ev_c ev_c (rv_I (pow 18 (by decide) (by decide)))) rv_I0))
        (ea_cons (ev_op (ev_op (ev_op (ev_op (ev_abs ec) (ev_op (ev_op ev_c ev_c (rv_I (pow 36 (by decide) (by decide)))) ev_c rv_I0) (rv_I (by rw [e36]; decide))) ev_c (rv_I (.inr (by decide)))) (ev_var rfl) rv_I0) ev_c rv_I0)
        (ea_cons ev_c ea_nil))) (show 3 ≤ 100000 by decide)) fun p H2 hp e2 h2 => q H2 p (e1.trans e2) (fresh_back e1 hp) ?_
      rw [e18, e36] at h2
      have ha : 0 ≤ (if c < 0 then -c else c) := by split <;> omega
      refine ⟨_, _, 0, h2, ?_, ?_, ?_, Int.le_refl _, Int.le_refl _⟩
      · split <;> omega
      · have := Int.emod_nonneg (if c < 0 then -c else c) (show (1000000000000000000000000000000000000 + 67 : Int) ≠ 0 by decide)
        omega
      · have := Int.emod_lt_of_pos (if c < 0 then -c else c) (show (0 : Int) < 1000000000000000000000000000000000000 + 67 by decide)
        omega

def spPick : Sp := fun vs H Q _ => ∃ (s : Addr) (n : Int) (B : Nat), vs = [.ref s, .int n] ∧ Src H s B ∧ B ≤ 1000000 ∧ 0 < n ∧ n ≤ 1000000 ∧
  ∀ H' r, Drew s (B + 1) H H' → 0 ≤ r → r < n → Q (.int r) H'
theorem ok_pick {f : Addr} {fd : FuncData} {k : Nat} (F : Fun K "_law_pick" "_law_pick" sPick f fd) : FnOk P w K mg base CX0 (k + 1) f fd ["source", "count"] spPick := by
  refine F.ok scPick (fun vs H Q E h => ?_) (fun cdv A outer s H vs Q E hr h => ?_)
  · obtain ⟨a, n, B, rfl, _⟩ := h
    rfl
  · obtain ⟨a, n, B, rfl, hS, hB, hn0, hn1, q⟩ := h
    refine ⟨_, pss_cons (ps_if (pt_cmpR op_gt (pe_ix ix_list (pv 0) pe_int (fun _ _ => rfl)) pe_int (nomark _))
        (pss_cons (ps_set (i := 2) scPick.nd rfl (.inl rfl) (pe_op op_mod (pe_ix ix_list (pv 0) pe_int (fun _ _ => rfl)) (pv 1)))
        (pss_cons (ps_asg (pe_op op_fdivW (pe_ix ix_list (pv 0) pe_int (fun _ _ => rfl)) (pv 1)) (pg_sub (pv 0) pe_int set_list))
        (pss_one (ps_ret (pv 2))))) pss_nil)
      (pss_cons (ps_asg (pe_op op_add (pe_ix ix_list (pv 0) pe_int (fun _ _ => rfl)) pe_int) (pg_sub (pv 0) pe_int set_list))
      (pss_cons (ps_set (i := 3) scPick.nd rfl (.inl rfl) (pe_op op_mod (pe_op op_powW (pe_op op_add (pe_ix ix_list (pv 0) pe_int (fun _ _ => rfl)) (pe_op op_mul pe_int (pe_ix ix_list (pv 0) pe_int (fun _ _ => rfl)))) pe_int) (pe_op op_add (pe_op op_pow pe_int pe_int) pe_int)))
      (pss_cons (ps_set (i := 3) scPick.nd rfl (.inl rfl) (pe_op op_mod (pe_op op_powW (pe_op op_add (pv 3) (pe_op op_mul pe_int (pe_ix ix_list (pv 0) pe_int (fun _ _ => rfl)))) pe_int) (pe_op op_add (pe_op op_pow pe_int pe_int) pe_int)))
      (pss_one (ps_ret (pe_op op_mod (pe_op op_fdivW (pv 3) pe_int) (pv 1))))))), ?_⟩
    obtain ⟨x, y, z, h1, hx, hy0, hy1, hz0, hz1⟩ := hS
    have at0 : ∀ {H' : Hp} {x' y' z' : Int}, H' a = some (.lst [.int x', .int y', .int z']) → ∀ {σ : L2.St}, σ[0]? = some (some (.ref a)) →
        Ev (tOp (rIxL K) (tVar 0) (tC (.int 0))) σ H' (.int x') ∧ Ev (tOp (rIxL K) (tVar 0) (tC (.int 1))) σ H' (.int y') ∧ Ev (tOp (rIxL K) (tVar 0) (tC (.int 2))) σ H' (.int z') := fun h σ e =>
      ⟨ev_op (ev_var e) ev_c (rv_ixL (sq_of h) (atI_nat (j := 0) rfl)), ev_op (ev_var e) ev_c (rv_ixL (sq_of h) (atI_nat (j := 1) rfl)), ev_op (ev_var e) ev_c (rv_ixL (sq_of h) (atI_nat (j := 2) rfl))⟩
    have upd_drew : ∀ {H1 : Hp} {x' z' : Int}, Ex H H1 → 0 ≤ x' → 0 ≤ z' → z' ≤ ((B + 1 : Nat) : Int) → Drew a (B + 1) H (upd H1 a (.lst [.int x', .int y, .int z'])) := fun e p1 p2 p3 =>
      ⟨by rw [hide_upd]; exact Same.hide (same_ex e), _, y, _, upd_same, p1, hy0, hy1, p2, p3⟩
    refine q_when (b := decide (0 < x)) (et_test (ev_op (at0 h1 rfl).1 ev_c rv_I0)) ?_ ?_
    · intro hb H1 e1
      refine q_asg (v := .int (x % n)) (ev_op (at0 (e1 _ _ h1) rfl).1 (ev_var rfl) (rv_I hn0)) fun H2 e2 => ?_
      refine q_setL (j := 0) (xs := [.int x, .int y, .int z]) (v := .int (x / n)) (e2 _ _ (e1 _ _ h1)) (ev_op (at0 (e2 _ _ (e1 _ _ h1)) rfl).1 (ev_var rfl) (rv_I (wide_div (b := 30) hn0 (by omega) (by decide) (by decide)))) (ev_var rfl) ev_c (show 0 < 3 by decide) fun H3 e3 => ?_
      refine s_ret (v := .int (x % n)) (ev_var rfl) fun H4 e4 => ?_
      exact q H4 _ ((upd_drew ((e1.trans e2).trans e3) (Int.ediv_nonneg hx (by omega)) hz0 (by omega)).ex e4) (Int.emod_nonneg x (by omega)) (Int.emod_lt_of_pos x hn0)
    · intro hb H1 e1
      refine q_setL (j := 2) (xs := [.int x, .int y, .int z]) (v := .int (z + 1)) (e1 _ _ h1) (ev_op (at0 (e1 _ _ h1) rfl).2.2 ev_c rv_I0) (ev_var rfl) ev_c (show 2 < 3 by decide) fun H2 e2 => ?_
      have d2 : Drew a (B + 1) H (upd H2 a (.lst [.int x, .int y, .int (z + 1)])) := upd_drew (e1.trans e2) hx (by omega) (by omega)
      have h3 : (upd H2 a (.lst [.int x, .int y, .int (z + 1)])) a = some (.lst [.int x, .int y, .int (z + 1)]) := upd_same
      have e38 : (10 : Int) ^ (38 : Int).toNat = 100000000000000000000000000000000000000 := by decide
      have e37 : (10 : Int) ^ (37 : Int).toNat = 10000000000000000000000000000000000000 := by decide
      have pow : ∀ n : Int, 0 ≤ n → n ≤ 100 → CPow 10 n := fun n h1 h2 => ⟨h1, by omega, by decide⟩
      show tSeq _ _ _ _ (upd H2 a (.lst [.int x, .int y, .int (z + 1)]))
      generalize (upd H2 a (.lst [.int x, .int y, .int (z + 1)])) = H3 at d2 h3
      have b1 : (y + 49979687 * (z + 1)).natAbs < 2 ^ 141 := mix_bound hy0 hy1 (by omega) (by omega) 49979687 (by decide) (by decide)
      refine q_asg (v := .int ((y + 49979687 * (z + 1)) ^ (3 : Int).toNat % ((10 : Int) ^ (38 : Int).toNat + 133))) (ev_op (ev_op (ev_op (at0 h3 rfl).2.1 (ev_op ev_c (at0 h3 rfl).2.2 (rv_I (.inl (by decide)))) rv_I0) ev_c (rv_I (cube_ok b1 (by decide) (by decide))))
        (ev_op (ev_op ev_c ev_c (rv_I (pow 38 (by decide) (by decide)))) ev_c rv_I0) (rv_I (by rw [e38]; decide))) fun H4 e4 => ?_
      have m1 := Int.emod_nonneg ((y + 49979687 * (z + 1)) ^ (3 : Int).toNat) (show ((10 : Int) ^ (38 : Int).toNat + 133) ≠ 0 by rw [e38]; decide)
      have m2 := Int.emod_lt_of_pos ((y + 49979687 * (z + 1)) ^ (3 : Int).toNat) (show 0 < ((10 : Int) ^ (38 : Int).toNat + 133) by rw [e38]; decide)
      generalize (y + 49979687 * (z + 1)) ^ (3 : Int).toNat % ((10 : Int) ^ (38 : Int).toNat + 133) = m at m1 m2
      rw [e38] at m2
      have b2 : (m + 32452843 * (z + 1)).natAbs < 2 ^ 141 := mix_bound m1 (by omega) (by omega) (by omega) 32452843 (by decide) (by decide)
      refine q_asg (v := .int ((m + 32452843 * (z + 1)) ^ (3 : Int).toNat % ((10 : Int) ^ (37 : Int).toNat + 43))) (ev_op (ev_op (ev_op (ev_var rfl) (ev_op ev_c (at0 (e4 _ _ h3) rfl).2.2 (rv_I (.inl (by decide)))) rv_I0) ev_c (rv_I (cube_ok b2 (by decide) (by decide))))
        (ev_op (ev_op ev_c ev_c (rv_I (pow 37 (by decide) (by decide)))) ev_c rv_I0) (rv_I (by rw [e37]; decide))) fun H5 e5 => ?_
      generalize (m + 32452843 * (z + 1)) ^ (3 : Int).toNat % ((10 : Int) ^ (37 : Int).toNat + 43) = u
      refine s_ret (v := .int (u / 131071 % n)) (ev_op (ev_op (ev_var rfl) ev_c (rv_I (wide_div (b := 30) (by decide) (by decide) (by decide) (by decide)))) (ev_var rfl) (rv_I hn0)) fun H6 e6 => ?_
      exact q H6 _ (((d2.ex e4).ex e5).ex e6) (Int.emod_nonneg _ (by omega)) (Int.emod_lt_of_pos _ hn0)
end
end K10
namespace K10
open PySem PySem.Spec PyProof.Rows L2 Os Evl
abbrev sShuf : Stmt := topS 37
theorem scShuf : FnScope ["source", "row", "left", "k"] ["source", "row"] (defScope sShuf) := ⟨rfl, rfl, rfl, by decide +kernel, rfl, by decide +kernel, by decide +kernel⟩
theorem perm_pop {α : Type} {l : List α} {k : Nat} {y : α} (acc : List α) (h : l[k]? = some y) : ((acc ++ [y]) ++ l.eraseIdx k).Perm (acc ++ l) := by
  obtain ⟨lt, e⟩ := List.getElem?_eq_some_iff.mp h
  rw [List.append_assoc]
  refine List.Perm.append_left acc ?_
  have e2 := List.drop_eq_getElem_cons lt
  rw [e] at e2
  rw [List.eraseIdx_eq_take_drop_succ]
  refine List.Perm.trans (l₂ := l.take k ++ y :: l.drop (k + 1)) (show (y :: (l.take k ++ l.drop (k + 1))).Perm _ from List.perm_middle.symm) ?_
  rw [← e2, List.take_append_drop]
section
variable {P : Program} {w : World} {K : PySem.W.Frag} {mg : Str → Option Value} {base : Heap}
def spShuf : Sp := fun vs H Q _ => ∃ (s a : Addr) (xs : List V) (B : Nat), vs = [.ref s, .ref a] ∧ Src H s B ∧ H a = some (.lst xs) ∧ a ≠ s ∧ xs.length ≤ 1000 ∧ B ≤ 900000 ∧
  ∀ H' p ys, Drew s (B + xs.length) H H' → H p = none → H' p = some (.lst ys) → ys.Perm xs → Q (.ref p) H'
theorem ok_shuf {f fP : Addr} {fd fdP : FuncData} {k : Nat} (F : Fun K "_law_shuffled" "_law_shuffled" sShuf f fd) (GP : FnOk P w K mg base CX0 k fP fdP ["source", "count"] spPick) (FP : Fun K "_law_pick" "_law_pick" sPick fP fdP) (bP : Binds K fdP ["source", "count"] [])
    (gP : mg "_law_pick" = some (.ref fP)) (mS : mg "list" = none) (mL : mg "len" = none) (mR : mg "range" = none) : FnOk P w K mg base CX0 (k + 1) f fd ["source", "row"] spShuf := by
  refine F.ok scShuf (fun vs H Q E h => ?_) (fun cdv A outer s H vs Q E hr h => ?_)
  · obtain ⟨s, a, xs, B, rfl, _⟩ := h
    rfl
  · obtain ⟨s, a, xs, B, rfl, hS, ha, nas, hl, hB, q⟩ := h
    refine ⟨_, pss_cons (ps_set (i := 2) scShuf.nd rfl (.inr rfl) (pe_callTy call_list_of (by rfl) mS boot_list (pa_cons (pv 1) pa_nil)))
      (pss_one (ps_ret (pe_lc (own := [("k", 3)]) (g := gName 3) (tt := tYes) (te := tBM K "list" rPopAt (tVar 2) (tCons (tCall spPick [] E0 (tCons (tVar 0) (tCons (tCB (rLenS K) (tCons (tVar 2) tNil)) tNil))) tNil)) rfl scShuf.nd (pi_range1 (by rfl) mR (pa_cons (pe_callB call_len_seq (by rfl) mL boot_len (pa_cons (pv 1) pa_nil)) pa_nil))
          (blkOk_by (N := ["source", "row", "left", "k"]) (sc := defScope sShuf) (by decide +kernel))
          (fun _ _ _ _ _ => pg_name (i := 3) scShuf.nd rfl (Or.inl rfl)) (fun _ _ _ _ _ => pts_nil)
          (fun _ _ _ _ _ => pe_bm PySem.F.plainAttrs_list PySem.F.slot_list_pop PySem.F.type_list_pop mt_popAt (pv 2)
            (pa_cons (pe_call GP hr (by rfl) gP FP.kp bP .nil pass0 (pa_cons (pv 0) (pa_cons (pe_callB call_len_seq (by rfl) mL boot_len (pa_cons (pv 2) pa_nil)) pa_nil))) pa_nil))))), ?_⟩
    -- left = list(row)
    refine ⟨.ref a, rfl, a, xs, rfl, .inl (sq_of ha), fun L hL => ?_⟩
    have e1 : Ex H (upd H L (.lst xs)) := Ex.new hL
    have src0 := hS.at
    -- range(len(row))
    refine ⟨.ref a, rfl, a, xs, rfl, .inl (sq_of (e1 _ _ ha)), (xs.length : Int), rfl, by omega, by omega, fun D hD => ?_⟩
    have nLD : D ≠ L := fun e => by
      rw [e, upd_same] at hD
      cases hD
    have hD0 : H D = none := fresh_back e1 hD
    refine lc_range (lo := 0) (n := (xs.length : Int).toNat) (fun i Hh => ∃ l acc, Hh L = some (.lst l) ∧ Hh D = some (.lst acc) ∧ (acc ++ l).Perm xs ∧ l.length + i = xs.length ∧ acc.length = i ∧ Drew s (B + i) H Hh) ?_ ?_ ?_
    · refine ⟨xs, [], ?_, upd_same, List.Perm.refl _, rfl, rfl, (((Drew.refl hS).ex e1).mut src0 hD0)⟩
      rw [upd_ne nLD.symm]
      exact upd_same
    · rintro i Hh hi ⟨l, acc, hl1, hD1, pm, len, len2, dr⟩
      have hi' : i < xs.length := by omega
      refine ⟨rfl, ?_⟩
      show tBM K "list" rPopAt (tVar 2) _ _ _ _
      refine ⟨.ref L, rfl, .inl ⟨rfl, _, sq_of hl1⟩, .ref s, rfl, .ref L, rfl, L, l, rfl, .inl (sq_of hl1), s, (l.length : Int), B + i, rfl, dr.src, by omega, by omega, by omega, fun H2 r dr2 r0 r1 => ?_⟩
      have nLs : L ≠ s := fun e => by
        obtain ⟨o, ho⟩ := src0
        rw [e, ho] at hL
        cases hL
      have nDs : D ≠ s := fun e => by
        obtain ⟨o, ho⟩ := src0
        rw [e, ho] at hD0
        cases hD0
      have hl2 : H2 L = some (.lst l) := dr2.get nLs hl1
      have hD2 : H2 D = some (.lst acc) := dr2.get nDs hD1
      have lt : r.toNat < l.length := by omega
      have er : r = (r.toNat : Int) := by omega
      refine ⟨L, l, r, r.toNat, l[r.toNat], rfl, rfl, hl2, by omega, by omega, (ixN_seq (by rw [er]; exact ixN_nat lt)).1, List.getElem?_eq_getElem lt, acc, ?_, ?_, ?_⟩
      · rw [upd_ne nLD]
        exact hD2
      · exact sz_lt (by omega)
      · refine ⟨l.eraseIdx r.toNat, acc ++ [l[r.toNat]], ?_, upd_same, (perm_pop acc (List.getElem?_eq_getElem lt)).trans pm, ?_, ?_, ?_⟩
        · rw [upd_ne nLD.symm]
          exact upd_same
        · rw [List.length_eraseIdx_of_lt lt]
          omega
        · rw [List.length_append, len2]
          rfl
        · exact ((dr.trans dr2).mut src0 hL).mut src0 hD0
    · rintro Hh ⟨l, acc, hl1, hD1, pm, len, len2, dr⟩
      have hn : l.length = 0 := by omega
      rw [List.length_eq_zero_iff.mp hn, List.append_nil] at pm
      exact q Hh D acc (by simpa using dr) hD0 hD1 pm
end
end K10
/-! the drawn forests: each later label is tied to an earlier one at most once -/
namespace Os
open PySem PySem.Spec PyProof.Rows L2 Evl
theorem snd_inj : ∀ {ks : List Pr}, ks.Pairwise (fun p q => p.2 < q.2) → ∀ {p q : Pr}, p ∈ ks → q ∈ ks → p.2 = q.2 → p = q
  | x :: r, h, p, q, hp, hq, e => by
    obtain ⟨h1, h2⟩ := List.pairwise_cons.mp h
    rcases List.mem_cons.mp hp with ep | hp
    · rcases List.mem_cons.mp hq with eq | hq
      · rw [ep, eq]
      · have := h1 q hq
        rw [ep] at e
        omega
    · rcases List.mem_cons.mp hq with eq | hq
      · have := h1 p hp
        rw [eq] at e
        omega
      · exact snd_inj h2 hp hq e
def edgeOf (lab : List Nat) (p : Pr) : Pr := (min (lab.getD p.1 0) (lab.getD p.2 0), max (lab.getD p.1 0) (lab.getD p.2 0))
/-- the places that hang below those of T -/
def below : List Pr → (Nat → Bool) → Nat → Bool
  | [], T => T
  | p :: r, T => below r fun x => T x || (decide (x = p.2) && T p.1)
theorem below_out : ∀ {ks : List Pr} {T : Nat → Bool} {x : Nat}, (∀ p ∈ ks, p.2 ≠ x) → below ks T x = T x
  | [], _, _, _ => rfl
  | p :: r, T, x, h => by
    show below r _ x = T x
    rw [below_out fun q hq => h q (List.mem_cons_of_mem _ hq), decide_eq_false fun e => h p List.mem_cons_self e.symm, Bool.false_and, Bool.or_false]
theorem below_tie : ∀ {ks : List Pr} {T : Nat → Bool} {a k : Nat}, (∀ p ∈ ks, p.1 < p.2) → ks.Pairwise (fun p q => p.2 < q.2) → (a, k) ∈ ks → below ks T k = (T k || below ks T a)
  | p :: r, T, a, k, hl, inc, hm => by
    obtain ⟨i1, i2⟩ := List.pairwise_cons.mp inc
    rcases List.mem_cons.mp hm with e | hm
    · subst e
      have lt : a < k := hl _ List.mem_cons_self
      show below r _ k = (T k || below r _ a)
      rw [below_out (x := k) fun q hq e => by have := i1 q hq; omega, below_out (x := a) fun q hq e => by have := i1 q hq; omega]
      rw [decide_eq_true rfl, decide_eq_false (show ¬ a = k by omega), Bool.true_and, Bool.false_and, Bool.or_false]
    · have gt : p.2 < k := i1 _ hm
      show below r _ k = (T k || below r _ a)
      rw [below_tie (fun q hq => hl q (List.mem_cons_of_mem _ hq)) i2 hm, decide_eq_false (show ¬ k = p.2 by omega), Bool.false_and, Bool.or_false]
theorem below_up : ∀ {ks : List Pr} {T : Nat → Bool} {x : Nat}, T x = true → below ks T x = true
  | [], _, _, h => h
  | p :: r, T, x, h => below_up (ks := r) (by rw [h]; rfl)
theorem below_ge : ∀ {ks : List Pr} {T : Nat → Bool} {c : Nat}, (∀ p ∈ ks, p.1 < p.2) → (∀ x, T x = true → c ≤ x) → ∀ x, below ks T x = true → c ≤ x
  | [], _, _, _, h => h
  | p :: r, T, c, hl, h => below_ge (ks := r) (fun q hq => hl q (List.mem_cons_of_mem _ hq)) fun x hx => by
    rw [Bool.or_eq_true, Bool.and_eq_true] at hx
    rcases hx with hx | ⟨h1, h2⟩
    · exact h x hx
    · have e := of_decide_eq_true h1
      have := h p.1 h2
      have := hl p List.mem_cons_self
      omega
theorem perm_nats {l : List Nat} {ys : List V} (h : ys.Perm (l.map fun x : Nat => V.int (x : Int))) : ∃ us : List Nat, ys = us.map (fun x : Nat => V.int (x : Int)) ∧ us.Perm l := by
  have back : ∀ x ∈ ys, ∃ z : Nat, x = V.int (z : Int) := fun x hx => by
    obtain ⟨z, _, e⟩ := List.mem_map.mp (h.mem_iff.mp hx)
    exact ⟨z, e.symm⟩
  let un : V → Nat := fun v => match v with
    | .int z => z.toNat
    | _ => 0
  refine ⟨ys.map un, ?_, ?_⟩
  · rw [List.map_map]
    have : ys.map ((fun x : Nat => V.int (x : Int)) ∘ un) = ys.map id := List.map_congr_left fun x hx => by
      obtain ⟨z, e⟩ := back x hx
      rw [e]
      rfl
    rw [this, List.map_id]
  · have := h.map un
    rw [List.map_map] at this
    have e : l.map (un ∘ fun x : Nat => V.int (x : Int)) = l := by
      have : l.map (un ∘ fun x : Nat => V.int (x : Int)) = l.map id := List.map_congr_left fun x _ => rfl
      rw [this, List.map_id]
    rwa [e] at this
section
variable {lab : List Nat} {n : Nat}
theorem lab_len (pm : lab.Perm (List.range n)) : lab.length = n := by rw [pm.length_eq, List.length_range]
theorem lab_lt (pm : lab.Perm (List.range n)) {i : Nat} (h : i < n) : lab.getD i 0 < n := by
  rw [List.getD_eq_getElem?_getD, List.getElem?_eq_getElem (by rw [lab_len pm]; exact h)]
  exact List.mem_range.mp (pm.mem_iff.mp (List.getElem_mem _))
theorem lab_inj (pm : lab.Perm (List.range n)) {i j : Nat} (hi : i < n) (hj : j < n) (e : lab.getD i 0 = lab.getD j 0) : i = j := by
  have nd : lab.Nodup := pm.nodup_iff.mpr List.nodup_range
  have li : i < lab.length := by rw [lab_len pm]; exact hi
  have lj : j < lab.length := by rw [lab_len pm]; exact hj
  rw [List.getD_eq_getElem?_getD, List.getD_eq_getElem?_getD, List.getElem?_eq_getElem li, List.getElem?_eq_getElem lj] at e
  have e' : lab[i] = lab[j] := e
  refine Decidable.byContradiction fun ne => ?_
  rcases Nat.lt_or_gt_of_ne ne with h | h
  · exact List.pairwise_iff_getElem.mp nd i j li lj h e'
  · exact List.pairwise_iff_getElem.mp nd j i lj li h e'.symm
/-- a property of places, said of labels -/
def onLab (lab : List Nat) (n : Nat) (T : Nat → Bool) (x : Nat) : Bool := (List.range n).any fun i => decide (lab.getD i 0 = x) && T i
theorem onLab_at (pm : lab.Perm (List.range n)) (T : Nat → Bool) {i : Nat} (hi : i < n) : onLab lab n T (lab.getD i 0) = T i := by
  unfold onLab
  cases h : T i with
  | true => exact List.any_eq_true.mpr ⟨i, List.mem_range.mpr hi, by rw [decide_eq_true rfl, h]; rfl⟩
  | false =>
    refine List.any_eq_false.mpr fun j hj z => ?_
    rw [Bool.and_eq_true] at z
    have e := lab_inj pm (List.mem_range.mp hj) hi (of_decide_eq_true z.1)
    rw [e, h] at z
    cases z.2
theorem minmax (S : Nat → Bool) (u v : Nat) : (S (min u v) = S (max u v)) ↔ S u = S v := by
  by_cases h : u ≤ v
  · rw [Nat.min_eq_left h, Nat.max_eq_right h]
  · rw [Nat.min_eq_right (by omega), Nat.max_eq_left (by omega)]
    exact ⟨Eq.symm, Eq.symm⟩
theorem drawn_edges {ks : List Pr} (pm : lab.Perm (List.range n)) (hl : ∀ p ∈ ks, p.1 < p.2 ∧ p.2 < n) (inc : ks.Pairwise fun p q => p.2 < q.2) :
    (∀ e ∈ ks.map (edgeOf lab), e.1 < e.2 ∧ e.2 < n) ∧ (ks.map (edgeOf lab)).Nodup ∧ Bridges (ks.map (edgeOf lab)) := by
  refine ⟨fun e he => ?_, ?_, fun e he => ?_⟩
  · obtain ⟨p, hp, rfl⟩ := List.mem_map.mp he
    obtain ⟨h1, h2⟩ := hl p hp
    have a := lab_lt pm (show p.1 < n by omega)
    have b := lab_lt pm h2
    have ne : lab.getD p.1 0 ≠ lab.getD p.2 0 := fun z => by
      have := lab_inj pm (show p.1 < n by omega) h2 z
      omega
    show min _ _ < max _ _ ∧ max _ _ < n
    omega
  · unfold List.Nodup
    rw [List.pairwise_map]
    refine List.Pairwise.imp_of_mem (fun {p q} hp hq lt e => ?_) inc
    obtain ⟨h1, h2⟩ := hl p hp
    obtain ⟨h3, h4⟩ := hl q hq
    have e1 : min (lab.getD p.1 0) (lab.getD p.2 0) = min (lab.getD q.1 0) (lab.getD q.2 0) := congrArg Prod.fst e
    have e2 : max (lab.getD p.1 0) (lab.getD p.2 0) = max (lab.getD q.1 0) (lab.getD q.2 0) := congrArg Prod.snd e
    have or : (lab.getD p.1 0 = lab.getD q.1 0 ∧ lab.getD p.2 0 = lab.getD q.2 0) ∨ (lab.getD p.1 0 = lab.getD q.2 0 ∧ lab.getD p.2 0 = lab.getD q.1 0) := by omega
    rcases or with ⟨_, z⟩ | ⟨z1, z2⟩
    · have := lab_inj pm h2 h4 z
      omega
    · have := lab_inj pm (by omega) h4 z1
      have := lab_inj pm h2 (by omega) z2
      omega
  · obtain ⟨p, hp, rfl⟩ := List.mem_map.mp he
    obtain ⟨h1, h2⟩ := hl p hp
    have hl1 : ∀ q ∈ ks, q.1 < q.2 := fun q hq => (hl q hq).1
    refine ⟨onLab lab n (below ks fun x => decide (x = p.2)), ?_, fun f hf ne => ?_⟩
    · intro z
      have z2 := (minmax _ _ _).mp z
      rw [onLab_at pm _ (show p.1 < n by omega), onLab_at pm _ h2, below_up (x := p.2) (decide_eq_true rfl)] at z2
      have := below_ge (c := p.2) hl1 (fun x hx => by have := of_decide_eq_true hx; omega) p.1 z2
      omega
    · obtain ⟨q, hq, rfl⟩ := List.mem_map.mp hf
      obtain ⟨h3, h4⟩ := hl q hq
      refine (minmax _ _ _).mpr ?_
      rw [onLab_at pm _ (show q.1 < n by omega), onLab_at pm _ h4]
      have nk : q.2 ≠ p.2 := fun z => by
        have : p = q := snd_inj inc hp hq z.symm
        rw [this] at ne
        exact ne rfl
      have t := below_tie (T := fun x => decide (x = p.2)) hl1 inc (show (q.1, q.2) ∈ ks from hq)
      rw [decide_eq_false nk, Bool.false_or] at t
      exact t.symm
end
/-! ### sorted -/
theorem Bridges.perm {es fs : List Pr} (h : Bridges es) (pm : fs.Perm es) : Bridges fs := fun e he => by
  obtain ⟨S, h1, h2⟩ := h e (pm.mem_iff.mp he)
  exact ⟨S, h1, fun f hf => h2 f (pm.mem_iff.mp hf)⟩
theorem asc_strict {es : List Pr} (nd : es.Nodup) (small : ∀ e ∈ es, e.1 < 64 ∧ e.2 < 64) (h : es.Pairwise fun e f => (e.1 : Int) * 64 + (e.2 : Int) ≤ (f.1 : Int) * 64 + (f.2 : Int)) : es.Pairwise fun e f => ltP e f = true := by
  have h2 := h.and nd
  refine List.Pairwise.imp_of_mem (fun {e f} he hf z => ?_) h2
  obtain ⟨a1, a2⟩ := small e he
  obtain ⟨b1, b2⟩ := small f hf
  rw [ltP_iff]
  by_cases q : e.1 = f.1
  · by_cases q2 : e.2 = f.2
    · exact absurd (Prod.ext q q2) z.2
    · have := z.1
      omega
  · have := z.1
    omega
end Os
/-! what evaluates to something of a kind: displays, sums and slices whose items are new objects themselves -/
namespace Os
open PySem PySem.Spec PyProof.Rows L2 Evl

/-- R is kept by more heap -/
def Up (R : Hp → V → Prop) : Prop := ∀ G G' v, Ex G G' → R G v → R G' v
section
variable (s : Addr) (R : Hp → V → Prop)
def EvR (te : TE) (σ : L2.St) (H : Hp) : Prop := ∀ H1, Ex H H1 → ∀ Q : VK, (∀ v H2, Ex H1 H2 → R (hide s H2) v → Q v H2) → te σ H1 Q
def EvAR (ta : TA) (σ : L2.St) (H : Hp) (n : Nat) : Prop := ∀ H1, Ex H H1 → ∀ Q : List V → Hp → Prop, (∀ vs H2, Ex H1 H2 → vs.length = n → (∀ v ∈ vs, R (hide s H2) v) → Q vs H2) → ta σ H1 Q
/-- a new list of lo to hi such items -/
def EvLR (te : TE) (σ : L2.St) (H : Hp) (lo hi : Nat) : Prop := ∀ H1, Ex H H1 → ∀ Q : VK,
  (∀ p xs H2, H1 p = none → Ex H1 H2 → H2 p = some (.lst xs) → lo ≤ xs.length → xs.length ≤ hi → (∀ x ∈ xs, R (hide s H2) x) → Q (.ref p) H2) → te σ H1 Q
/-- a list that stands at p, the same of its items -/
def LsR (H : Hp) (p : Addr) (lo hi : Nat) : Prop := p ≠ s ∧ ∃ xs, H p = some (.lst xs) ∧ lo ≤ xs.length ∧ xs.length ≤ hi ∧ ∀ x ∈ xs, R (hide s H) x
end
section
variable {K : PySem.W.Frag} {s : Addr} {R : Hp → V → Prop} {σ : L2.St} {H H' : Hp} {ta tb te : TE} {tl tr : TA} {n m lo hi lo' hi' : Nat} {v : V}
theorem hide_ex (e : Ex H H') : Ex (hide s H) (hide s H') := Same.hide (same_ex e)
theorem er_of (up : Up R) (h : Ev te σ H v) (r : R (hide s H) v) : EvR s R te σ H := fun H1 e Q q =>
  h H1 e _ fun H2 e2 => q v H2 e2 (up _ _ _ (hide_ex (e.trans e2)) r)
theorem er_mono (e : Ex H H') (h : EvR s R te σ H) : EvR s R te σ H' := fun H1 a Q q => h H1 (e.trans a) Q q
theorem ear_nil : EvAR s R tNil σ H 0 := fun H1 _ Q q => q [] H1 (Ex.refl _) rfl fun _ h => nomatch h
theorem ear_cons (up : Up R) (h : EvR s R te σ H) (hr : EvAR s R tr σ H n) : EvAR s R (tCons te tr) σ H (n + 1) := fun H1 e Q q =>
  h H1 e _ fun v H2 e2 r => hr H2 (e.trans e2) _ fun vs H3 e3 hn hv => q (v :: vs) H3 (e2.trans e3) (by rw [List.length_cons, hn]) fun x hx => by
    rcases List.mem_cons.mp hx with rfl | hx
    · exact up _ _ _ (hide_ex e3) r
    · exact hv x hx
theorem new_apart (hs : ∃ o, H s = some o) {p : Addr} (h : H p = none) : p ≠ s := fun e => by
  obtain ⟨o, ho⟩ := hs
  rw [e, ho] at h
  cases h
theorem elr_lst (up : Up R) (h : EvAR s R tl σ H n) (hn : n ≤ 1000) : EvLR s R (tLst tl) σ H n n := fun H1 e Q q =>
  h H1 e _ fun vs H2 e2 hl hv => ⟨by rw [hl]; exact sz_of (by omega), fun p hp => q p vs _ (fresh_back e2 hp) (e2.trans (Ex.new hp)) upd_same (by omega) (by omega) fun x hx => up _ _ _ (hide_ex (Ex.new hp)) (hv x hx)⟩
theorem elr_cat (up : Up R) (h1 : EvLR s R ta σ H lo hi) (h2 : EvLR s R tb σ H lo' hi') (hn : hi + hi' ≤ 10000) : EvLR s R (tOp rCat ta tb) σ H (lo + lo') (hi + hi') := fun H1 e Q q =>
  h1 H1 e _ fun p xs H2 hp e2 hx l1 l2 rx => h2 H2 (e.trans e2) _ fun p' ys H3 hp' e3 hy l3 l4 ry =>
    ⟨p, p', xs, ys, rfl, rfl, e3 _ _ hx, hy, sz_of (by omega), fun r hr => q r (xs ++ ys) _ (fresh_back (e2.trans e3) hr) ((e2.trans e3).trans (Ex.new hr)) upd_same (by rw [List.length_append]; omega) (by rw [List.length_append]; omega) fun x hx => by
      rcases List.mem_append.mp hx with z | z
      · exact up _ _ _ (hide_ex (e3.trans (Ex.new hr))) (rx x z)
      · exact up _ _ _ (hide_ex (Ex.new hr)) (ry x z)⟩
/-- the left one stands there already -/
theorem elr_catV (up : Up R) {p : Addr} (h1 : Ev ta σ H (.ref p)) (hp : LsR s R H p lo hi) (h2 : EvLR s R tb σ H lo' hi') (hn : hi + hi' ≤ 10000) : EvLR s R (tOp rCat ta tb) σ H (lo + lo') (hi + hi') := fun H1 e Q q => by
  obtain ⟨_, xs, hx, l1, l2, rx⟩ := hp
  exact h1 H1 e _ fun H2 e2 => h2 H2 (e.trans e2) _ fun p' ys H3 hp' e3 hy l3 l4 ry =>
    ⟨p, p', xs, ys, rfl, rfl, ((e.trans e2).trans e3) _ _ hx, hy, sz_of (by omega), fun r hr => q r (xs ++ ys) _ (fresh_back (e2.trans e3) hr) ((e2.trans e3).trans (Ex.new hr)) upd_same (by rw [List.length_append]; omega) (by rw [List.length_append]; omega) fun x hx => by
      rcases List.mem_append.mp hx with z | z
      · exact up _ _ _ (hide_ex (((e.trans e2).trans e3).trans (Ex.new hr))) (rx x z)
      · exact up _ _ _ (hide_ex (Ex.new hr)) (ry x z)⟩
/-- a list that is known whole -/
theorem elr_of (up : Up R) {xs : List V} (h : EvL te σ H xs) (l1 : lo ≤ xs.length) (l2 : xs.length ≤ hi) (r : ∀ x ∈ xs, R (hide s H) x) : EvLR s R te σ H lo hi := fun H1 e Q q =>
  h H1 e _ fun p H2 hp e2 h2 => q p xs H2 hp e2 h2 l1 l2 fun x hx => up _ _ _ (hide_ex (e.trans e2)) (r x hx)
/-- such a list as a value of another kind -/
theorem er_list {R' : Hp → V → Prop} (hs : ∃ o, H s = some o) (h : EvLR s R te σ H lo hi) (f : ∀ p xs G, G p = some (.lst xs) → lo ≤ xs.length → xs.length ≤ hi → (∀ x ∈ xs, R G x) → R' G (.ref p)) : EvR s R' te σ H := fun H1 e Q q =>
  h H1 e _ fun p xs H2 hp e2 h2 l1 l2 r => q (.ref p) H2 e2 (f p xs _ (by
    rw [hide_ne (new_apart (by obtain ⟨o, ho⟩ := hs; exact ⟨o, e _ _ ho⟩) hp)]
    exact h2) l1 l2 r)
theorem er_tup {R' : Hp → V → Prop} (up : Up R) (hs : ∃ o, H s = some o) (h : EvAR s R tl σ H n) (hn : n ≤ 1000) (f : ∀ p xs G, G p = some (.tup xs) → xs.length = n → (∀ x ∈ xs, R G x) → R' G (.ref p)) : EvR s R' (tTup tl) σ H := fun H1 e Q q =>
  h H1 e _ fun vs H2 e2 hl hv => ⟨by rw [hl]; exact sz_of (by omega), fun p hp => q (.ref p) _ (e2.trans (Ex.new hp)) (f p vs _ (by
    rw [hide_ne (new_apart (by obtain ⟨o, ho⟩ := hs; exact ⟨o, e2 _ _ (e _ _ ho)⟩) hp)]
    exact upd_same) hl fun x hx => up _ _ _ (hide_ex (Ex.new hp)) (hv x hx))⟩
theorem er_imp {R' : Hp → V → Prop} (h : EvR s R te σ H) (f : ∀ G v, R G v → R' G v) : EvR s R' te σ H := fun H1 e Q q => h H1 e Q fun v H2 e2 r => q v H2 e2 (f _ _ r)
/-- statements -/
theorem q_asgR {i : Nat} {D : Ends} {tz : TS} (h : EvR s R te σ H) (k : ∀ v H1, Ex H H1 → R (hide s H1) v → tz D (σ.set i (some v)) H1) : tSeq (tAsg te (gName i)) tz D σ H := h H (Ex.refl H) _ fun v H1 e r => k v H1 e r
theorem q_asgLR {i : Nat} {D : Ends} {tz : TS} (hs : ∃ o, H s = some o) (h : EvLR s R te σ H lo hi) (k : ∀ p H1, H p = none → Ex H H1 → LsR s R H1 p lo hi → tz D (σ.set i (some (.ref p))) H1) : tSeq (tAsg te (gName i)) tz D σ H :=
  h H (Ex.refl H) _ fun p xs H1 hp e h1 l1 l2 r => k p H1 hp e ⟨new_apart hs hp, xs, h1, l1, l2, r⟩
theorem LsR.drew {B : Nat} (up : Up R) {p : Addr} (h : LsR s R H p lo hi) (d : Drew s B H H') : LsR s R H' p lo hi := by
  obtain ⟨np, xs, hx, l1, l2, r⟩ := h
  exact ⟨np, xs, d.get np hx, l1, l2, fun x hx => up _ _ _ d.kept (r x hx)⟩
theorem LsR.ex (up : Up R) {p : Addr} (h : LsR s R H p lo hi) (e : Ex H H') : LsR s R H' p lo hi := by
  obtain ⟨np, xs, hx, l1, l2, r⟩ := h
  exact ⟨np, xs, e _ _ hx, l1, l2, fun x hx => up _ _ _ (hide_ex e) (r x hx)⟩
theorem LsR.pick {Kf : PySem.W.Frag} {p : Addr} {r : Int} {Q : VK} (h : LsR s R H p lo hi) (r0 : 0 ≤ r) (r1 : r < (lo : Int)) (q : ∀ x, R (hide s H) x → Q x H) : rIxL Kf (.ref p) (.int r) H Q := by
  obtain ⟨_, xs, hx, l1, l2, hr⟩ := h
  have lt : r.toNat < xs.length := by omega
  have e : r = (r.toNat : Int) := by omega
  rw [e]
  exact ⟨p, xs, _, xs[r.toNat], rfl, rfl, sq_of hx, atI_nat (List.getElem?_eq_getElem lt), q _ (hr _ (List.getElem_mem lt))⟩
end
end Os
namespace K10
open PySem PySem.Spec PyProof.Rows L2 Os Evl
abbrev sGraph : Stmt := topS 38
theorem scGraph : FnScope ["source", "most", "sizes", "size", "style", "sparse", "labels", "pairs", "k", "ahead"] ["source", "most"] (defScope sGraph) := ⟨rfl, rfl, rfl, by decide +kernel, rfl, by decide +kernel, by decide +kernel⟩
theorem PrsV.put {s p : Addr} {G : Hp} {xs' zs vs : List V} {es : List Pr} (h : PrsV (hide s G) vs es) (np : p ≠ s) (hp : G p = some (.lst xs')) : PrsV (hide s (upd G p (.lst zs))) vs es := by
  induction h with
  | nil => exact .nil
  | cons x _ ih =>
    obtain ⟨t, rfl, ht⟩ := x
    obtain ⟨n1, h1⟩ := hide_of ht
    refine .cons ⟨t, rfl, ?_⟩ ih
    rw [hide_ne n1, upd_ne fun e => by
      rw [e, hp] at h1
      cases h1]
    exact h1
theorem PrsV.mem {G : Hp} : ∀ {vs : List V} {es : List Pr} {e : Pr}, PrsV G vs es → e ∈ es → ∃ v ∈ vs, PrV G v e
  | _, _, _, .cons p r, h => by
    rcases List.mem_cons.mp h with rfl | h
    · exact ⟨_, List.mem_cons_self, p⟩
    · obtain ⟨v, h1, h2⟩ := PrsV.mem r h
      exact ⟨v, List.mem_cons_of_mem _ h1, h2⟩
theorem PrsV.pairwise {G : Hp} {R : V → V → Prop} {S : Pr → Pr → Prop} : ∀ {vs : List V} {es : List Pr}, PrsV G vs es → vs.Pairwise R → (∀ v u e f, R v u → PrV G v e → PrV G u f → S e f) → es.Pairwise S
  | _, _, .nil, _, _ => .nil
  | _, _, .cons p r, h, k => by
    obtain ⟨h1, h2⟩ := List.pairwise_cons.mp h
    refine List.pairwise_cons.mpr ⟨fun f hf => ?_, PrsV.pairwise r h2 k⟩
    obtain ⟨u, hu, pu⟩ := PrsV.mem r hf
    exact k _ _ _ _ (h1 u hu) p pu
theorem drawn_if {s : Addr} {C : Nat} {t : TT} {tu tw : TS} {D : Ends} {σ : L2.St} {H : Hp} (h : ∀ Q : Bool → Hp → Prop, (∀ H1, Drew s C H H1 → Q true H1) → (∀ H1, Drew s C H H1 → Q false H1) → t σ H Q) (k1 : ∀ H1, Drew s C H H1 → tu D σ H1) (k2 : ∀ H1, Drew s C H H1 → tw D σ H1) : tIfS t tu tw D σ H :=
  h _ (fun H1 d => k1 H1 d) (fun H1 d => k2 H1 d)
section
variable {P : Program} {w : World} {K : PySem.W.Frag} {mg : Str → Option Value} {base : Heap}
def spGraph : Sp := fun vs H Q _ => ∃ (s : Addr) (B mo : Nat), vs = [.ref s, .int (mo : Int)] ∧ 1 ≤ mo ∧ mo ≤ 40 ∧ Src H s B ∧ B ≤ 800000 ∧
  ∀ (H' : Hp) (v : V) (n : Nat) (es : List Pr), Drew s (B + 200) H H' → GraphV (hide s H') v n es → IsForest n es → Q v H'
theorem ok_graph {f fP fS : Addr} {fd fdP fdS : FuncData} {k : Nat} (F : Fun K "_law_graph" "_law_graph" sGraph f fd) (GP : FnOk P w K mg base CX0 k fP fdP ["source", "count"] spPick) (FP : Fun K "_law_pick" "_law_pick" sPick fP fdP) (bP : Binds K fdP ["source", "count"] [])
    (gP : mg "_law_pick" = some (.ref fP)) (GS : FnOk P w K mg base CX0 k fS fdS ["source", "row"] spShuf) (FS : Fun K "_law_shuffled" "_law_shuffled" sShuf fS fdS) (bS : Binds K fdS ["source", "row"] []) (gS : mg "_law_shuffled" = some (.ref fS))
    (mRange : mg "range" = none) (mList : mg "list" = none) (mMax : mg "max" = none) (mMin : mg "min" = none) (mSorted : mg "sorted" = none) :
    FnOk P w K mg base CX0 (k + 1) f fd ["source", "most"] spGraph := by
  refine F.ok scGraph (fun vs H Q E h => ?_) (fun cdv A outer s H vs Q E hr h => ?_)
  · obtain ⟨s, B, mo, rfl, _⟩ := h
    rfl
  · obtain ⟨s, B, mo, rfl, mo1, mo40, hS, hB, q⟩ := h
    refine ⟨_, (pss_cons (ps_set (i := 2) scGraph.nd rfl (.inl rfl) (pe_lst (pa_cons (pe_op op_add pe_int (pe_call GP hr (by rfl) gP FP.kp bP .nil pass0 (pa_cons (pv 0) (pa_cons (pe_callB (call_min2 rfl) (by rfl) mMin boot_min (pa_cons (pv 1) (pa_cons pe_int pa_nil))) pa_nil)))) (pa_cons (pe_op op_add pe_int (pe_call GP hr (by rfl) gP FP.kp bP .nil pass0 (pa_cons (pv 0) (pa_cons (pe_callB (call_min2 rfl) (by rfl) mMin boot_min (pa_cons (pv 1) (pa_cons pe_int pa_nil))) pa_nil)))) (pa_cons (pe_op op_add pe_int (pe_call GP hr (by rfl) gP FP.kp bP .nil pass0 (pa_cons (pv 0) (pa_cons (pv 1) pa_nil)))) pa_nil)))))
      (pss_cons (ps_set (i := 3) scGraph.nd rfl (.inl rfl) (pe_ix ix_list (pe_op op_cat (pv 2) (pe_lst (pa_cons (pv 1) pa_nil))) (pe_call GP hr (by rfl) gP FP.kp bP .nil pass0 (pa_cons (pv 0) (pa_cons pe_int pa_nil))) (fun _ _ => rfl)))
      (pss_cons (ps_par (i := 4) (j := 5) rfl scGraph.nd rfl rfl (by decide) rfl rfl (pa_cons (pe_call GP hr (by rfl) gP FP.kp bP .nil pass0 (pa_cons (pv 0) (pa_cons pe_int pa_nil))) (pa_cons (pe_call GP hr (by rfl) gP FP.kp bP .nil pass0 (pa_cons (pv 0) (pa_cons pe_int pa_nil))) pa_nil)) (by rfl))
      (pss_cons (ps_set (i := 6) scGraph.nd rfl (.inl rfl) (pe_call GS hr (by rfl) gS FS.kp bS .nil pass0 (pa_cons (pv 0) (pa_cons (pe_listRg rfl (by rfl) mList (prg_1 (by rfl) mRange (pv 3))) pa_nil))))
      (pss_cons (ps_set (i := 7) scGraph.nd rfl (.inl rfl) (pe_lst pa_nil))
      (pss_cons (ps_for PassesOwn.never rfl (pi_range2 (by rfl) mRange (pa_cons pe_int (pa_cons (pv 3) pa_nil))) (pg_name (i := 8) scGraph.nd rfl (Or.inl rfl))
      (pss_cons (ps_set (i := 9) scGraph.nd rfl (.inl rfl) (pe_ix ix_list (pe_lst (pa_cons (pe_op op_sub (pv 8) pe_int) (pa_cons pe_int (pa_cons (pe_call GP hr (by rfl) gP FP.kp bP .nil pass0 (pa_cons (pv 0) (pa_cons (pv 8) pa_nil))) (pa_cons (pe_callB (call_max2 rfl) (by rfl) mMax boot_max (pa_cons pe_int (pa_cons (pe_op op_sub (pe_op op_sub (pv 8) pe_int) (pe_call GP hr (by rfl) gP FP.kp bP .nil pass0 (pa_cons (pv 0) (pa_cons pe_int pa_nil)))) pa_nil))) pa_nil))))) (pv 4) (fun _ _ => rfl)))
      (pss_one (ps_if (PW.pt (pw_or (pt_cmpR op_lt (pv 5) pe_int (nomark _)) (pw_or1 (pt_cmpR op_gt (pe_call GP hr (by rfl) gP FP.kp bP .nil pass0 (pa_cons (pv 0) (pa_cons pe_int pa_nil))) pe_int (nomark _))))) (pss_one (ps_expr (pe_bm PySem.F.plainAttrs_list PySem.F.slot_list_append PySem.F.type_list_append mt_append (pv 7) (pa_cons (pe_tup (pa_cons (pe_callB (call_min2 rfl) (by rfl) mMin boot_min (pa_cons (pe_ix ix_list (pv 6) (pv 9) (fun _ _ => rfl)) (pa_cons (pe_ix ix_list (pv 6) (pv 8) (fun _ _ => rfl)) pa_nil))) (pa_cons (pe_callB (call_max2 rfl) (by rfl) mMax boot_max (pa_cons (pe_ix ix_list (pv 6) (pv 9) (fun _ _ => rfl)) (pa_cons (pe_ix ix_list (pv 6) (pv 8) (fun _ _ => rfl)) pa_nil))) pa_nil))) pa_nil)))) pss_nil))))
      (pss_one (ps_ret (pe_tup (pa_cons (pv 3) (pa_cons (pe_callB (cr_sortT (d := 2) (B := 64) (by decide)) (by rfl) mSorted boot_sorted (pa_cons (pv 7) pa_nil)) pa_nil))))))))))), ?_⟩
    have src0 := hS.at
    have rgn : ∀ n : Nat, rgV 0 (n : Int) = (List.range n).map fun x : Nat => V.int (x : Int) := fun n => by
      unfold rgV
      rw [show ((n : Int) - 0).toNat = n by omega]
      exact List.map_congr_left fun i _ => congrArg V.int (by omega)
    -- sizes
    refine ⟨.ref s, rfl, .int (mo : Int), rfl, (mo : Int), 3, rfl, s, _, B, rfl, hS, by omega, by split <;> omega, by split <;> omega, fun H1 r1 d1 r10 r11 => ⟨1, r1, rfl, rfl, ?_⟩⟩
    refine ⟨.ref s, rfl, .int (mo : Int), rfl, (mo : Int), 9, rfl, s, _, B + 1, rfl, d1.src, by omega, by split <;> omega, by split <;> omega, fun H2 r2 d2 r20 r21 => ⟨1, r2, rfl, rfl, ?_⟩⟩
    refine ⟨.ref s, rfl, .int (mo : Int), rfl, s, (mo : Int), B + 2, rfl, d2.src, by omega, by omega, by omega, fun H3 r3 d3 r30 r31 => ⟨1, r3, rfl, rfl, show 3 ≤ sizeLine by decide, fun p1 hp1 => ?_⟩⟩
    have r11' : r1 < 40 := by split at r11 <;> omega
    have r21' : r2 < 40 := by split at r21 <;> omega
    have D3 := (d1.trans d2).trans d3
    -- size
    have D4 := D3.ex (Ex.new (o := .lst [.int (1 + r1), .int (1 + r2), .int (1 + r3)]) hp1)
    refine ⟨.ref p1, rfl, .int (mo : Int), rfl, show 1 ≤ sizeLine by decide, fun p2 hp2 => ?_⟩
    have e2 := Ex.new (o := .lst [.int (mo : Int)]) hp2
    refine ⟨p1, p2, _, [.int (mo : Int)], rfl, rfl, e2 _ _ upd_same, upd_same, show 4 ≤ sizeLine by decide, fun p3 hp3 => ?_⟩
    have D5 := (D4.ex e2).ex (Ex.new (o := .lst ([.int (1 + r1), .int (1 + r2), .int (1 + r3)] ++ [.int (mo : Int)])) hp3)
    have np3 : p3 ≠ s := new_apart (D4.ex e2).src.at hp3
    refine ⟨.ref s, rfl, s, 4, B + 3, rfl, D5.src, by omega, by decide, by decide, fun H4 r4 d4 r40 r41 => ?_⟩
    obtain ⟨n, hn, n1, n40⟩ : ∃ n : Nat, ([.int (1 + r1), .int (1 + r2), .int (1 + r3)] ++ [.int (mo : Int)] : List V)[r4.toNat]? = some (.int (n : Int)) ∧ 1 ≤ n ∧ n ≤ 40 := by
      obtain ⟨a1, rfl⟩ : ∃ a : Nat, r1 = (a : Int) := ⟨r1.toNat, by omega⟩
      obtain ⟨a2, rfl⟩ : ∃ a : Nat, r2 = (a : Int) := ⟨r2.toNat, by omega⟩
      obtain ⟨a3, rfl⟩ : ∃ a : Nat, r3 = (a : Int) := ⟨r3.toNat, by omega⟩
      have h4 : r4.toNat < 4 := by omega
      match r4.toNat, h4 with
      | 0, _ => exact ⟨1 + a1, rfl, by omega, by omega⟩
      | 1, _ => exact ⟨1 + a2, rfl, by omega, by omega⟩
      | 2, _ => exact ⟨1 + a3, rfl, by omega, by omega⟩
      | 3, _ => exact ⟨mo, rfl, by omega, by omega⟩
    obtain ⟨t4, rfl⟩ : ∃ a : Nat, r4 = (a : Int) := ⟨r4.toNat, by omega⟩
    refine ⟨p3, _, (t4 : Int), .int (n : Int), rfl, rfl, sq_of (d4.get np3 upd_same), atI_nat hn, ?_⟩
    have D6 := D5.trans d4
    -- style, sparse
    refine ⟨.ref s, rfl, s, 4, B + 4, rfl, D6.src, by omega, by decide, by decide, fun H5 r5 d5 r50 r51 => ?_⟩
    refine ⟨.ref s, rfl, s, 3, B + 5, rfl, d5.src, by omega, by decide, by decide, fun H6 r6 d6 r60 r61 => ⟨_, _, rfl, ?_⟩⟩
    have D7 := (D6.trans d5).trans d6
    -- labels
    refine ⟨.ref s, rfl, .int (n : Int), rfl, (n : Int), rfl, RgOk.of_le (by omega) (by omega) (by omega) (by omega), fun L hL => ?_⟩
    have D8 := D7.ex (Ex.new (o := .lst (rgV 0 (n : Int))) hL)
    refine ⟨s, L, rgV 0 (n : Int), B + 6, rfl, D8.src, upd_same, new_apart D7.src.at hL, by rw [rgn, List.length_map, List.length_range]; omega, by omega, fun H7 La ys d7 hLa hys pm => ?_⟩
    rw [rgn, List.length_map, List.length_range] at d7
    rw [rgn] at pm D8 hLa
    obtain ⟨lab, rfl, pl⟩ := perm_nats pm
    have D9 := D8.trans d7
    have nLa : La ≠ s := fun e => by
      obtain ⟨o, ho⟩ := D8.src.at
      rw [e, ho] at hLa
      cases hLa
    refine q_asgL (xs := []) (el_lst ea_nil (Nat.zero_le _)) fun Pa H8 hPa e8 hP8 => ?_
    have nPs : Pa ≠ s := new_apart D9.src.at hPa
    have nPL : La ≠ Pa := ne_of_none hys hPa
    have D10 := D9.ex e8
    have hPH : H Pa = none := D9.none src0 hPa
    have ll := lab_len pl
    have labAt : ∀ {j : Nat}, j < n → (lab.map fun x : Nat => V.int (x : Int))[j]? = some (.int ((lab.getD j 0 : Nat) : Int)) := fun {j} hj => by
      rw [List.getElem?_map, List.getD_eq_getElem?_getD, List.getElem?_eq_getElem (by omega)]
      rfl
    refine q_forR2 (lo := 1) (n := (n : Int)) (ea_cons ev_c (ea_cons (ev_var rfl) ea_nil)) ⟨by omega, by omega, by omega, by omega⟩
      (fun i σ' H' => ∃ (ks : List Pr) (xs : List V) (y8 y9 : Option V), σ' = [some (.ref s), some (.int (mo : Int)), some (.ref p1), some (.int (n : Int)), some (.int r5), some (.int r6), some (.ref La), some (.ref Pa), y8, y9] ∧ H' La = some (.lst (lab.map fun x : Nat => V.int (x : Int))) ∧
        H' Pa = some (.lst xs) ∧ PrsV (hide s H') xs (ks.map (edgeOf lab)) ∧ (∀ p ∈ ks, p.1 < p.2 ∧ p.2 < 1 + i ∧ p.2 < n) ∧ (ks.Pairwise fun p q => p.2 < q.2) ∧ ks.length ≤ i ∧ i ≤ 40 ∧ Drew s (B + 6 + n + 3 * i) H H')
      (fun H9 e9 => ⟨[], [], _, _, rfl, e9 _ _ (e8 _ _ hys), e9 _ _ hP8, .nil, (fun p hp => nomatch hp), .nil, Nat.le_refl _, Nat.zero_le _, D10.ex e9⟩) ?_ ?_
    · rintro i σ' H9 hi ⟨ks, xs, y8, y9, rfl, hLa9, hPa9, prs, kin, inc, kl, i40, dr⟩
      have hk : (1 : Int) + (i : Int) = ((1 + i : Nat) : Int) := by omega
      rw [hk]
      -- ahead
      refine ⟨.int ((1 + i : Nat) : Int), rfl, ((1 + i : Nat) : Int), 1, rfl, rfl, ?_⟩
      refine ⟨.ref s, rfl, .int ((1 + i : Nat) : Int), rfl, s, ((1 + i : Nat) : Int), B + 6 + n + 3 * i, rfl, dr.src, by omega, by omega, by omega, fun Ha ra da ra0 ra1 => ?_⟩
      refine ⟨.int ((1 + i : Nat) : Int), rfl, ((1 + i : Nat) : Int), 1, rfl, rfl, .ref s, rfl, s, 3, _, rfl, da.src, by omega, by decide, by decide, fun Hb rb db rb0 rb1 => ?_⟩
      refine ⟨_, rb, rfl, rfl, 0, _, rfl, show 4 ≤ sizeLine by decide, fun p4 hp4 => ?_⟩
      obtain ⟨ah, hah, ahlt⟩ : ∃ a : Nat, ([.int (((1 + i : Nat) : Int) - 1), .int 0, .int ra, .int (if ((1 + i : Nat) : Int) - 1 - rb > 0 then ((1 + i : Nat) : Int) - 1 - rb else 0)] : List V)[r5.toNat]? = some (.int (a : Int)) ∧ a < 1 + i := by
        have h4 : r5.toNat < 4 := by omega
        match r5.toNat, h4 with
        | 0, _ => exact ⟨i, congrArg some (congrArg V.int (show ((1 + i : Nat) : Int) - 1 = (i : Int) by omega)), by omega⟩
        | 1, _ => exact ⟨0, rfl, by omega⟩
        | 2, _ => exact ⟨ra.toNat, congrArg some (congrArg V.int (show ra = (ra.toNat : Int) by omega)), by omega⟩
        | 3, _ =>
          by_cases hc : ((1 + i : Nat) : Int) - 1 - rb > 0
          · refine ⟨(((1 + i : Nat) : Int) - 1 - rb).toNat, ?_, by omega⟩
            rw [if_pos hc]
            exact congrArg some (congrArg V.int (by omega))
          · refine ⟨0, ?_, by omega⟩
            rw [if_neg hc]
            rfl
      have e4 : Ex Hb _ := Ex.new (o := .lst [.int (((1 + i : Nat) : Int) - 1), .int 0, .int ra, .int (if ((1 + i : Nat) : Int) - 1 - rb > 0 then ((1 + i : Nat) : Int) - 1 - rb else 0)]) hp4
      have da' := (da.trans db).ex e4
      refine ⟨.int r5, rfl, p4, _, r5, .int (ah : Int), rfl, rfl, sq_of upd_same, by rw [show r5 = (r5.toNat : Int) by omega]; exact atI_nat hah, ?_⟩
      have lt_n : 1 + i < n := by omega
      dsimp only [gName]
      refine drawn_if (s := s) (C := B + 6 + n + 3 * (i + 1)) (fun Q' q1 q2 => ?_) (fun Hc dc => ?_) (fun Hc dc => ?_)
      · refine ⟨.int r6, rfl, r6, 2, rfl, rfl, _, rfl, ite2 (fun _ => q1 _ (Drew.refl (da'.src.mono (by omega)))) (fun _ => ?_)⟩
        refine ⟨.ref s, rfl, s, 4, _, rfl, da'.src, by omega, by decide, by decide, fun Hd rd dd rd0 rd1 => ⟨rd, 0, rfl, rfl, ?_⟩⟩
        refine ⟨_, rfl, ?_⟩
        cases hz : decide ((0 : Int) < rd) with
        | true => exact q1 _ (dd.mono (by omega))
        | false => exact q2 _ (dd.mono (by omega))
      · have dF := da'.trans dc
        have hLa10 := dF.get nLa hLa9
        have hPa10 := dF.get nPs hPa9
        have atL : ∀ {j : Nat}, j < n → (lab.map fun x : Nat => V.int (x : Int))[j]? = some (.int ((lab.getD j 0 : Nat) : Int)) := labAt
        have e1 : edgeOf lab (ah, 1 + i) = (min (lab.getD ah 0) (lab.getD (1 + i) 0), max (lab.getD ah 0) (lab.getD (1 + i) 0)) := rfl
        have m1 : (V.int (if ((lab.getD (1 + i) 0 : Nat) : Int) < ((lab.getD ah 0 : Nat) : Int) then ((lab.getD (1 + i) 0 : Nat) : Int) else ((lab.getD ah 0 : Nat) : Int))) = V.int (((edgeOf lab (ah, 1 + i)).1 : Nat) : Int) := by
          rw [e1]
          refine congrArg V.int ?_
          show _ = ((min (lab.getD ah 0) (lab.getD (1 + i) 0) : Nat) : Int)
          split <;> omega
        have m2 : (V.int (if ((lab.getD (1 + i) 0 : Nat) : Int) > ((lab.getD ah 0 : Nat) : Int) then ((lab.getD (1 + i) 0 : Nat) : Int) else ((lab.getD ah 0 : Nat) : Int))) = V.int (((edgeOf lab (ah, 1 + i)).2 : Nat) : Int) := by
          rw [e1]
          refine congrArg V.int ?_
          show _ = ((max (lab.getD ah 0) (lab.getD (1 + i) 0) : Nat) : Int)
          split <;> omega
        have exA : ∀ {σ : L2.St} {j c : Nat}, σ[6]? = some (some (.ref La)) → σ[c]? = some (some (.int (j : Int))) → j < n → Ev (tOp (rIxL K) (tVar 6) (tVar c)) σ Hc (.int ((lab.getD j 0 : Nat) : Int)) := fun {σ j c} g6 g7 hj => ev_op (ev_var g6) (ev_var g7) (rv_ixL (sq_of hLa10) (atI_nat (labAt hj)))
        refine s_appU (ys := [.int (((edgeOf lab (ah, 1 + i)).1 : Nat) : Int), .int (((edgeOf lab (ah, 1 + i)).2 : Nat) : Int)]) hPa10 (ev_var rfl) (eu_tup (ea_cons (ev_is (ev_min (exA rfl rfl (by omega)) (exA rfl rfl (by omega))) m1) (ea_cons (ev_is (ev_max (exA rfl rfl (by omega)) (exA rfl rfl (by omega))) m2) ea_nil)) (by show 2 ≤ 100000; decide)) (by have := prs.length; rw [List.length_map] at this; omega) fun pt Hd hpt ed hptd => ?_
        have npt : pt ≠ s := new_apart dF.src.at hpt
        have dG := dF.ex ed
        have nptPa : Pa ≠ pt := ne_of_none hPa10 hpt
        refine ⟨ks ++ [(ah, 1 + i)], xs ++ [.ref pt], _, _, rfl, ?_, upd_same, ?_, ?_, ?_, ?_, by omega, ?_⟩
        · rw [upd_ne nPL]
          exact ed _ _ hLa10
        · rw [List.map_append]
          have p1 : PrsV (hide s Hd) (xs ++ [.ref pt]) (ks.map (edgeOf lab) ++ [edgeOf lab (ah, 1 + i)]) := (prs.ex dG.kept).append (.cons ⟨pt, rfl, by rw [hide_ne npt]; exact hptd⟩ .nil)
          exact PrsV.put p1 nPs (ed _ _ hPa10)
        · intro p hp
          rcases List.mem_append.mp hp with hp | hp
          · have := kin p hp
            omega
          · rw [List.mem_singleton.mp hp]
            exact ⟨ahlt, by show 1 + i < 1 + (i + 1); omega, lt_n⟩
        · refine List.pairwise_append.mpr ⟨inc, List.pairwise_singleton _ _, fun p hp q hq => ?_⟩
          rw [List.mem_singleton.mp hq]
          exact (kin p hp).2.1
        · rw [List.length_append]
          show ks.length + 1 ≤ i + 1
          omega
        · exact (dr.trans dG).mut src0 hPH
      · have dF := da'.trans dc
        exact ⟨ks, xs, _, _, rfl, dF.get nLa hLa9, dF.get nPs hPa9, prs.ex dF.kept, fun p hp => by have := kin p hp; omega, inc, by omega, by omega, dr.trans dF⟩
    · rintro σ' H9 ⟨ks, xs, y8, y9, rfl, hLa9, hPa9, prs, kin, inc, kl, i40, dr⟩
      obtain ⟨g1, g2, g3⟩ := drawn_edges pl (fun p hp => ⟨(kin p hp).1, (kin p hp).2.2⟩) inc
      have xl := prs.length
      rw [List.length_map] at xl
      have small : ∀ e ∈ ks.map (edgeOf lab), e.1 < 64 ∧ e.2 < 64 := fun e he => by have := g1 e he; omega
      refine ⟨.int (n : Int), rfl, .ref Pa, rfl, Pa, xs, rfl, sq_of hPa9, by omega, fun x hx => ?_, fun ys p pm pw hp => ⟨show 2 ≤ sizeLine by decide, fun t ht => ?_⟩⟩
      · obtain ⟨j, hj⟩ := List.mem_iff_getElem?.mp hx
        obtain ⟨e, he, tt, rfl, htt⟩ := prs.get hj
        have se := small e (List.mem_of_getElem? he)
        exact ⟨[(e.1 : Int), (e.2 : Int)], ⟨tt, rfl, st_of (hide_of htt).2⟩, rfl, fun m hm => by
          rcases List.mem_cons.mp hm with rfl | hm
          · omega
          · rw [List.mem_singleton.mp hm]
            omega⟩
      · obtain ⟨fs, pf, pmf⟩ := prs.perm pm
        have sf : fs.Pairwise fun e f => (e.1 : Int) * 64 + (e.2 : Int) ≤ (f.1 : Int) * 64 + (f.2 : Int) := PrsV.pairwise pf pw fun v u e f r pv pu => by
          obtain ⟨tv, rfl, hv⟩ := pv
          obtain ⟨tu, rfl, hu⟩ := pu
          have := r [(e.1 : Int), (e.2 : Int)] [(f.1 : Int), (f.2 : Int)] ⟨tv, rfl, st_of (hide_of hv).2⟩ ⟨tu, rfl, st_of (hide_of hu).2⟩
          rwa [code_pair, code_pair] at this
        have np : p ≠ s := new_apart dr.src.at hp
        have dS := dr.ex (Ex.new (o := .lst ys) hp)
        have nt : t ≠ s := new_apart dS.src.at ht
        have eT := Ex.new (o := .tup [.int (n : Int), .ref p]) ht
        have dT := dS.ex eT
        refine q _ (.ref t) n fs (dT.mono (by omega)) ⟨t, p, ys, rfl, by rw [hide_ne nt]; exact upd_same, by rw [hide_ne np]; exact eT _ _ upd_same, (pf.ex (hide_ex (Ex.new hp))).ex (hide_ex eT)⟩ ⟨⟨fun e he => g1 e (pmf.mem_iff.mp he), asc_strict (pmf.nodup_iff.mpr g2) (fun e he => small e (pmf.mem_iff.mp he)) sf, g3.perm pmf⟩, n1, n40, by rw [pmf.length_eq, List.length_map]; omega⟩
end
end K10
namespace K10
open PySem PySem.Spec PyProof.Rows L2 Os Evl
abbrev sItem : Stmt := topS 23
abbrev sArr : Stmt := topS 24
theorem scItem : FnScope ["thing", "letter"] ["thing"] (defScope sItem) := ⟨rfl, rfl, rfl, by decide +kernel, rfl, by decide +kernel, by decide +kernel⟩
theorem scArr : FnScope ["n", "thing", "entry"] ["n", "thing"] (defScope sArr) := ⟨rfl, rfl, rfl, by decide +kernel, rfl, by decide +kernel, by decide +kernel⟩

/-- a letter's code -/
def letterB (c : Nat) : Bool := decide (97 ≤ c) && decide (c ≤ 122)
def nameB (z : Str) : Bool := decide (1 ≤ z.length) && decide (z.length ≤ 8) && z.cps.toList.all letterB
def itemB : PyData → Bool
  | .str z => nameB z
  | _ => false
/-- the texts among them are not too long -/
def ShortS : PyData → Prop
  | .str z => z.length ≤ 1000 ∧ PyData.strOk z = true
  | _ => True

/-- the length test as the program does it -/
def itemLen : PyData → Bool
  | .str z => decide ((1 : Int) ≤ (z.length : Int)) && decide ((z.length : Int) ≤ 8)
  | _ => false
theorem lenB (z : Str) : (decide (1 ≤ z.length) && decide (z.length ≤ 8)) = itemLen (.str z) := by
  show _ = (decide ((1 : Int) ≤ (z.length : Int)) && decide ((z.length : Int) ≤ 8))
  rw [decide_eq_decide.mpr (show 1 ≤ z.length ↔ (1 : Int) ≤ (z.length : Int) by omega), decide_eq_decide.mpr (show z.length ≤ 8 ↔ (z.length : Int) ≤ 8 by omega)]

section
variable {P : Program} {w : World} {K : PySem.W.Frag} {mg : Str → Option Value} {base : Heap}
def spItem : Sp := fun vs H Q _ => ∃ v d, vs = [v] ∧ Dt H v d ∧ ShortS d ∧ ∀ H', Same H H' → Q (.bl (itemB d)) H'

theorem sign_le (c : Nat) : (!decide ((⟨#[c]⟩ : Str).cps.toList < ("a" : Str).cps.toList)) = decide (97 ≤ c) := by
  have e : ("a" : Str).cps.toList = [97] := by decide
  rw [e]
  show (!decide ([c] < [97])) = _
  by_cases h : c < 97
  · rw [decide_eq_true (show [c] < [97] from List.Lex.rel h), decide_eq_false (by omega)]
    rfl
  · rw [decide_eq_false (show ¬ [c] < [97] from fun z => by
      cases z with
      | rel z => exact h z
      | cons z => cases z), decide_eq_true (by omega)]
    rfl
theorem le_sign (c : Nat) : (!decide (("z" : Str).cps.toList < (⟨#[c]⟩ : Str).cps.toList)) = decide (c ≤ 122) := by
  have e : ("z" : Str).cps.toList = [122] := by decide
  rw [e]
  show (!decide ([122] < [c])) = _
  by_cases h : 122 < c
  · rw [decide_eq_true (show [122] < [c] from List.Lex.rel h), decide_eq_false (by omega)]
    rfl
  · rw [decide_eq_false (show ¬ [122] < [c] from fun z => by
      cases z with
      | rel z => exact h z
      | cons z => cases z), decide_eq_true (by omega)]
    rfl

theorem ok_item {f : Addr} {fd : FuncData} {k : Nat} (F : Fun K "is_item" "is_item" sItem f fd) (mI : mg "isinstance" = none) (mS : mg "str" = none) (mL : mg "len" = none) (mA : mg "all" = none)
    {t8 : Tok} (m8 : mg "MOST_LETTERS" = some (.int 8 t8)) : FnOk P w K mg base CX0 (k + 1) f fd ["thing"] spItem := by
  refine F.ok scItem (fun vs H Q E h => ?_) (fun cdv A outer s H vs Q E hr h => ?_)
  · obtain ⟨v, d, rfl, _⟩ := h
    rfl
  · obtain ⟨v, d, rfl, hd, hz, q⟩ := h
    refine ⟨_, pss_cons (ps_if (PW.pt (pw_or (pt_not (pt_val (pe_callB call_isi (by rfl) mI boot_isinstance (pa_cons (pv 0) (pa_cons (pe_bltn (v := .ty "str") (by rfl) mS boot_str rfl) pa_nil)))))
        (pw_or1 (pt_not (pt_chain op_le op_le pe_int (pe_callB call_len_str (by rfl) mL boot_len (pa_cons (pv 0) pa_nil)) (pe_glob (v := .int 8) (by rfl) m8 ⟨_, rfl⟩))))))
        (pss_one (ps_ret pe_bl)) pss_nil)
      (pss_one (ps_ret (pe_callB (cr_all rfl) (by rfl) mA boot_all (pa_cons
        (pe_lc (own := [("letter", 1)]) (g := gName 1) (tt := tYes) rfl scItem.nd (pi_str (pv 0)) (blkOk_by (N := ["thing", "letter"]) (sc := defScope sItem) (by decide +kernel))
          (fun _ _ _ _ _ => pg_name (i := 1) scItem.nd rfl (Or.inl rfl)) (fun _ _ _ _ _ => pts_nil)
          (fun _ _ _ _ _ => pe_chain op_le_str op_le_str pe_str (pv 1) pe_str)) pa_nil)))), ?_⟩
    have e0 : Ev (tVar 0) (start ["thing", "letter"] [v]) H v := ev_var rfl
    refine q_when (b := !isStrD d || !(itemLen d)) (et_or (et_not (et_B (ev_isi e0 hd (kit_str d)))) fun hs => et_not (et_test ?_)) ?_ ?_
    · rcases hd.str_or with ⟨z, rfl, rfl⟩ | hn
      · exact ev_chain ev_c (ev_lenS e0 (Nat.le_trans hz.1 (by decide))) rv_I0 fun _ => ⟨_, ev_c, rv_I0⟩
      · rw [hn] at hs
        cases hs
    · intro hb H1 e1
      have : itemB d = false := by
        rcases hd.str_or with ⟨z, rfl, rfl⟩ | hn
        · have hb' : (!itemLen (.str z)) = true := hb
          show (_ && _) = false
          rw [show (decide (1 ≤ z.length) && decide (z.length ≤ 8)) = itemLen (.str z) from lenB z, (Bool.not_eq_true' _).mp hb']
          rfl
        · cases d <;> first | rfl | cases hn
      rw [← this]
      exact q H1 e1
    · intro hb H1 e1
      rcases hd.str_or with ⟨z, rfl, rfl⟩ | hn
      · have hb' : itemLen (.str z) = true := by
          have hb2 : (!itemLen (.str z)) = false := hb
          exact (Bool.not_eq_false' _).mp hb2
        refine s_ret (v := .bl (itemB (.str z))) (ev_is (ev_all (bs := z.cps.toList.map letterB) ?_) ?_) fun H2 e2 => q H2 (e1.trans e2)
        · rw [List.map_map, ← given_map z.cps.toList (V.bl ∘ letterB) (fun i => .bl (letterB (z.cps.toList.getD i 0))) (fun i x e => by
            rw [List.getD_eq_getElem?_getD, e]
            rfl)]
          rw [Array.length_toList]
          refine el_lcS (f := fun _ => true) (v := _) (ev_var rfl) (Nat.le_trans hz.1 (by decide)) (fun _ => rfl) (fun i c H2 _ _ => fun H3 e3 Q q => q H3 (Ex.refl H3)) (fun i c H2 e2 hc _ => ?_)
          rw [List.getD_eq_getElem?_getD, hc]
          show Ev _ _ _ (.bl (letterB c))
          have e4 : letterB c = ((!decide ((⟨#[c]⟩ : Str).cps.toList < ("a" : Str).cps.toList)) && (!decide (("z" : Str).cps.toList < (⟨#[c]⟩ : Str).cps.toList))) := by
            rw [sign_le, le_sign]
            rfl
          rw [e4]
          exact ev_chain ev_c (ev_var rfl) rv_leS fun _ => ⟨_, ev_c, rv_leS⟩
        · show V.bl _ = V.bl (_ && _)
          rw [show (decide (1 ≤ z.length) && decide (z.length ≤ 8)) = itemLen (.str z) from lenB z, hb', List.all_map]
          rfl
      · have hb2 : (!isStrD d || !itemLen d) = false := hb
        rw [hn] at hb2
        cases hb2
end
end K10
namespace K10
open PySem PySem.Spec PyProof.Rows L2 Os Evl

/-- the texts among them -/
def strsOf : List PyData → List Str
  | [] => []
  | .str z :: r => z :: strsOf r
  | _ :: r => strsOf r
theorem all_strs {H : Hp} : ∀ {ds : List PyData} {xs : List V}, Dts H xs ds → ds.all itemB = true → xs = (strsOf ds).map V.str ∧ ds = (strsOf ds).map PyData.str
  | [], _, .nil, _ => ⟨rfl, rfl⟩
  | d :: ds, _, .cons h t, e => by
    rw [List.all_cons, Bool.and_eq_true] at e
    obtain ⟨h1, h2⟩ := all_strs t e.2
    cases h with
    | str z =>
      show V.str z :: _ = V.str z :: _ ∧ PyData.str z :: _ = PyData.str z :: _
      exact ⟨by rw [← h1], by rw [← h2]⟩
    | _ => cases e.1
def rowB (n : Int) : PyData → Bool
  | .list ds => decide ((ds.length : Int) = n) && ds.all itemB && decide (strsOf ds).Nodup
  | _ => false
def ShortL : PyData → Prop
  | .list ds => ds.length ≤ 1000 ∧ ∀ d ∈ ds, ShortS d
  | _ => True
section
variable {K : PySem.W.Frag} {σ : L2.St} {H : Hp} {ta : TE}
theorem ev_lenSet {l : Addr} {zs : List Str} (h : Ev ta σ H (.ref l)) (hs : SqL K H l (zs.map V.str)) (hl : zs.length ≤ 4000) : Ev (tLenSetS K ta) σ H (.int (met zs zs.length).length) := fun H1 e Q q =>
  h H1 e _ fun H2 e2 => ⟨l, zs, rfl, ex_l (e.trans e2) hs, hl, q H2 e2⟩
theorem ev_len' {p : Addr} {xs : List V} (ha : Ev ta σ H (.ref p)) (h : H p = some (.lst xs)) :
    Ev (tCB (fun xs H Q => ∃ p ys, xs = [V.ref p] ∧ (SqL K H p ys ∨ SqT K H p ys) ∧ Q (.int ys.length) H) (tCons ta tNil)) σ H (.int (xs.length : Int)) := ev_len ha (sq_of h)
end
section
variable {P : Program} {w : World} {K : PySem.W.Frag} {mg : Str → Option Value} {base : Heap}
def spArr : Sp := fun vs H Q _ => ∃ n v d, vs = [.int n, v] ∧ Dt H v d ∧ ShortL d ∧ ∀ H', Ex H H' → Q (.bl (rowB n d)) H'
theorem ok_arr {f fI : Addr} {fd fdI : FuncData} {k : Nat} (F : Fun K "is_arrangement" "is_arrangement" sArr f fd) (GI : FnOk P w K mg base CX0 k fI fdI ["thing"] spItem) (FI : Fun K "is_item" "is_item" sItem fI fdI) (bI : Binds K fdI ["thing"] [])
    (gI : mg "is_item" = some (.ref fI)) (mI : mg "isinstance" = none) (mS : mg "list" = none) (mL : mg "len" = none) (mA : mg "all" = none) (mT : mg "set" = none) : FnOk P w K mg base CX0 (k + 1) f fd ["n", "thing"] spArr := by
  refine F.ok scArr (fun vs H Q E h => ?_) (fun cdv A outer s H vs Q E hr h => ?_)
  · obtain ⟨n, v, d, rfl, _⟩ := h
    rfl
  · obtain ⟨n, v, d, rfl, hd, hz, q⟩ := h
    refine ⟨_, pss_cons (ps_if (PW.pt (pw_or (pt_not (pt_val (pe_callB call_isi (by rfl) mI boot_isinstance (pa_cons (pv 1) (pa_cons (pe_bltn (v := .ty "list") (by rfl) mS boot_list rfl) pa_nil)))))
        (pw_or1 (pt_cmpR op_ne (pe_callB call_len_seq (by rfl) mL boot_len (pa_cons (pv 1) pa_nil)) (pv 0) (nomark _)))))
        (pss_one (ps_ret pe_bl)) pss_nil)
      (pss_cons (ps_if (pt_not (pt_val (pe_callB (cr_all rfl) (by rfl) mA boot_all (pa_cons
        (pe_lc (own := [("entry", 2)]) (g := gName 2) (tt := tYes) rfl scArr.nd (pi_list (pv 1)) (blkOk_by (N := ["n", "thing", "entry"]) (sc := defScope sArr) (by decide +kernel))
          (fun _ _ _ _ _ => pg_name (i := 2) scArr.nd rfl (Or.inl rfl)) (fun _ _ _ _ _ => pts_nil)
          (fun _ _ _ _ _ => pe_call GI hr (by rfl) gI FI.kp bI .nil pass0 (pa_cons (pv 2) pa_nil))) pa_nil))))
        (pss_one (ps_ret pe_bl)) pss_nil)
      (pss_one (ps_ret (pe_cmpR op_eq (pe_lenSetS (by rfl) mL (by rfl) mT (pv 1)) (pv 0) (nomark _))))), ?_⟩
    have e0 : Ev (tVar 1) (start ["n", "thing", "entry"] [.int n, v]) H v := ev_var rfl
    have en : Ev (tVar 0) (start ["n", "thing", "entry"] [.int n, v]) H (.int n) := ev_var rfl
    rcases hd.list_or with ⟨a, xs, ds, rfl, ha, ht, rfl⟩ | hn
    · have hlen : xs.length = ds.length := ht.length
      refine q_when (b := !true || !decide (V.int xs.length = V.int n)) (et_or (et_not (et_B (ev_isi e0 hd (kit_list _)))) fun _ => et_test (ev_op (ev_len' e0 ha) en (rv_ne rfl))) ?_ ?_
      · intro hb H1 e1
        have : rowB n (.list ds) = false := by
          have hb2 : (!decide (V.int xs.length = V.int n)) = true := hb
          have hb3 := of_decide_eq_false ((Bool.not_eq_true' _).mp hb2)
          show (_ && _ && _) = false
          rw [decide_eq_false (show ¬ (ds.length : Int) = n from fun z => hb3 (by rw [hlen, z]))]
          rfl
        rw [← this]
        exact q H1 e1
      · intro hb H1 e1
        have hb2 : (!decide (V.int xs.length = V.int n)) = false := hb
        have hb3 := V.int.inj (of_decide_eq_true ((Bool.not_eq_false' _).mp hb2))
        have d1 := hd.same (same_ex e1)
        have items : ∀ i x, xs[i]? = some x → ∃ d, ds[i]? = some d ∧ Dt H1 x d ∧ ShortS d := fun i x e => by
          obtain ⟨d, h1, h2⟩ := ht.get e
          exact ⟨d, h1, h2.same (same_ex e1), hz.2 d (List.mem_of_getElem? h1)⟩
        refine q_when (b := !(ds.all itemB)) (et_not (et_B (ev_is (ev_all (bs := ds.map itemB) ?_) (by rw [List.all_map]; rfl)))) ?_ ?_
        · rw [List.map_map, ← given_map ds (V.bl ∘ itemB) (fun i => .bl (itemB (ds.getD i .none))) (fun i x e => by
            rw [List.getD_eq_getElem?_getD, e]
            rfl), ← hlen]
          refine el_lcL (f := fun _ => true) (v := _) (ev_var rfl) (sq_of (e1 _ _ ha)) (by rw [hlen]; exact Nat.le_trans hz.1 (by decide)) (fun _ => rfl) (fun i c H2 _ _ => fun H3 e3 Q q => q H3 (Ex.refl H3)) (fun i x H2 e2 hx _ => ?_)
          obtain ⟨d, h1, h2, h3⟩ := items i x hx
          rw [List.getD_eq_getElem?_getD, h1]
          exact ev_sp (ea_cons (ev_var rfl) ea_nil) fun H3 e3 Q q => ⟨x, d, rfl, h2.same (same_ex (e2.trans e3)), h3, fun H4 e4 => q H4 e4⟩
        · intro hb H2 e2
          have : rowB n (.list ds) = false := by
            show (_ && _ && _) = false
            rw [(Bool.not_eq_true' _).mp hb, Bool.and_false]
            rfl
          rw [← this]
          exact q H2 (e1.trans e2)
        · intro hb H2 e2
          have hall := (Bool.not_eq_false' _).mp hb
          obtain ⟨h1, h2⟩ := all_strs ht hall
          have hl2 : (strsOf ds).length = ds.length := by
            rw [← hlen, h1, List.length_map]
          refine s_ret (v := .bl (rowB n (.list ds))) (ev_is (ev_op (ev_lenSet (zs := strsOf ds) (ev_var rfl) (by rw [← h1]; exact sq_of (e2 _ _ (e1 _ _ ha))) (by rw [hl2]; exact Nat.le_trans hz.1 (by decide))) (ev_var rfl) (rv_eq rfl)) ?_) fun H3 e3 => q H3 ((e1.trans e2).trans e3)
          show V.bl _ = V.bl (_ && _ && _)
          rw [hall, decide_eq_true (show (ds.length : Int) = n by rw [← hlen]; exact hb3), Bool.true_and, Bool.true_and, ← hb3]
          refine congrArg V.bl (decide_eq_decide.mpr ?_)
          rw [← met_all, hl2, hlen]
          exact ⟨fun z => by have := V.int.inj z; omega, fun z => by rw [z]⟩
    · refine q_when (b := true) (et_is (et_or (b := true) (et_not (et_B (ev_isi e0 hd (kit_list _)))) fun hs => ?_) ?_) ?_ ?_
      · rw [hn] at hs
        cases hs
      · rw [hn]
        rfl
      · intro _ H1 e1
        have : rowB n d = false := by
          cases d <;> first | rfl | cases hn
        rw [← this]
        exact q H1 e1
      · intro hb
        cases hb
end
end K10
namespace K10
open PySem PySem.Spec PyProof.Rows L2 Os Evl
abbrev sNames : Stmt := topS 39
theorem scNames : FnScope ["source", "size", "letters", "style", "found", "k", "tail"] ["source", "size"] (defScope sNames) := ⟨rfl, rfl, rfl, by decide +kernel, rfl, by decide +kernel, by decide +kernel⟩
def alphabet : Str := "abcdefghijklmnopqrstuvwxyz"
def tailOf (k : Nat) : Str := (⟨#[97 + k / 26]⟩ : Str) ++ (⟨#[97 + k % 26]⟩ : Str)
def nm (style k : Nat) : Str := match style with
  | 0 => tailOf k
  | 1 => ("abcdef" : Str) ++ tailOf k
  | _ => Txt.mul ⟨#[97 + k % 26]⟩ (1 + ((k / 26 : Nat) : Int))
def namesOf (style n : Nat) : List Str := (List.range n).map (nm style)
theorem names_ok : ∀ st, st < 3 → ((namesOf st 40).all fun z => nameB z && PyData.strOk z) = true ∧ (namesOf st 40).Nodup
  | 0, _ => by decide +kernel
  | 1, _ => by decide +kernel
  | 2, _ => by decide +kernel
theorem namesOf_take {st n : Nat} (h : n ≤ 40) : namesOf st n = (namesOf st 40).take n := by
  unfold namesOf
  rw [← List.map_take, List.take_range, Nat.min_eq_left h]
theorem names_all {st n : Nat} (hs : st < 3) (h : n ≤ 40) : (∀ z ∈ namesOf st n, nameB z = true ∧ PyData.strOk z = true) ∧ (namesOf st n).Nodup ∧ (namesOf st n).length = n := by
  obtain ⟨h1, h2⟩ := names_ok st hs
  refine ⟨fun z hz => ?_, ?_, ?_⟩
  · rw [namesOf_take h] at hz
    have := List.all_eq_true.mp h1 z (List.mem_of_mem_take hz)
    rwa [Bool.and_eq_true] at this
  · rw [namesOf_take h]
    exact h2.sublist (List.take_sublist _ _)
  · unfold namesOf
    rw [List.length_map, List.length_range]
theorem no_zyxw : ∀ st, st < 3 → ∀ z ∈ namesOf st 40, z ≠ ("zyxw" : Str) := by decide +kernel
theorem alph_at {k : Nat} (h : k < 26) : alphabet.cps.toList[k]? = some (97 + k) := by
  have e : alphabet.cps.toList = List.range' 97 26 := by decide
  rw [e, List.getElem?_range' h, Nat.one_mul]
/-- what a permutation of texts is -/
theorem perm_strs {zs : List Str} {ys : List V} (h : ys.Perm (zs.map V.str)) : ∃ us : List Str, ys = us.map V.str ∧ us.Perm zs := by
  have back : ∀ x ∈ ys, ∃ z, x = V.str z := fun x hx => by
    obtain ⟨z, _, e⟩ := List.mem_map.mp (h.mem_iff.mp hx)
    exact ⟨z, e.symm⟩
  let un : V → Str := fun v => match v with
    | .str z => z
    | _ => Str.empty
  refine ⟨ys.map un, ?_, ?_⟩
  · rw [List.map_map]
    have : ys.map (V.str ∘ un) = ys.map id := List.map_congr_left fun x hx => by
      obtain ⟨z, e⟩ := back x hx
      rw [e]
      rfl
    rw [this, List.map_id]
  · have := h.map un
    rw [List.map_map] at this
    have e : zs.map (un ∘ V.str) = zs := by
      have : zs.map (un ∘ V.str) = zs.map id := List.map_congr_left fun x _ => rfl
      rw [this, List.map_id]
    rwa [e] at this

section
variable {P : Program} {w : World} {K : PySem.W.Frag} {mg : Str → Option Value} {base : Heap}
def spNames : Sp := fun vs H Q _ => ∃ (s : Addr) (n B : Nat), vs = [.ref s, .int (n : Int)] ∧ Src H s B ∧ n ≤ 40 ∧ B ≤ 800000 ∧
  ∀ (H' : Hp) (p : Addr) (zs : List Str), Drew s (B + 1 + n) H H' → H p = none → H' p = some (.lst (zs.map V.str)) → zs.length = n → (∀ z ∈ zs, nameB z = true ∧ PyData.strOk z = true) → zs.Nodup → (∀ z ∈ zs, z ≠ ("zyxw" : Str)) → Q (.ref p) H'
theorem rv_addS {H : Hp} {i j : Str} (h : i.length + j.length ≤ 100000) : RV (fun x y H Q => ∃ i j, x = .str i ∧ y = .str j ∧ i.length + j.length ≤ sizeLine ∧ Q (.str (i ++ j)) H) (.str i) (.str j) H (.str (i ++ j)) :=
  fun H1 _ _ q => ⟨i, j, rfl, rfl, sz_of h, q H1 (Ex.refl H1)⟩
theorem rv_mulS {H : Hp} {z : Str} {n : Int} (h : MulOk z n) : RV rMulS (.str z) (.int n) H (.str (Txt.mul z n)) :=
  fun H1 _ _ q => ⟨z, n, rfl, rfl, h, q H1 (Ex.refl H1)⟩
theorem ok_names {f fP fS : Addr} {fd fdP fdS : FuncData} {k : Nat} (F : Fun K "_law_names" "_law_names" sNames f fd) (GP : FnOk P w K mg base CX0 k fP fdP ["source", "count"] spPick) (FP : Fun K "_law_pick" "_law_pick" sPick fP fdP) (bP : Binds K fdP ["source", "count"] [])
    (gP : mg "_law_pick" = some (.ref fP)) (GS : FnOk P w K mg base CX0 k fS fdS ["source", "row"] spShuf) (FS : Fun K "_law_shuffled" "_law_shuffled" sShuf fS fdS) (bS : Binds K fdS ["source", "row"] []) (gS : mg "_law_shuffled" = some (.ref fS)) (mR : mg "range" = none) :
    FnOk P w K mg base CX0 (k + 1) f fd ["source", "size"] spNames := by
  refine F.ok scNames (fun vs H Q E h => ?_) (fun cdv A outer s H vs Q E hr h => ?_)
  · obtain ⟨s, n, B, rfl, _⟩ := h
    rfl
  · obtain ⟨s, n, B, rfl, hS, hn, hB, q⟩ := h
    refine ⟨_, pss_cons (ps_set (i := 2) scNames.nd rfl (.inl rfl) pe_str)
      (pss_cons (ps_set (i := 3) scNames.nd rfl (.inl rfl) (pe_call GP hr (by rfl) gP FP.kp bP .nil pass0 (pa_cons (pv 0) (pa_cons pe_int pa_nil))))
      (pss_cons (ps_set (i := 4) scNames.nd rfl (.inl rfl) (pe_lst pa_nil))
      (pss_cons (ps_for PassesOwn.never rfl (pi_range1 (by rfl) mR (pa_cons (pv 1) pa_nil)) (pg_name (i := 5) scNames.nd rfl (Or.inl rfl))
        (pss_cons (ps_set (i := 6) scNames.nd rfl (.inl rfl) (pe_op op_add_str (pe_ix ix_str (pv 2) (pe_op op_fdiv (pv 5) pe_int) (fun _ _ => rfl)) (pe_ix ix_str (pv 2) (pe_op op_mod (pv 5) pe_int) (fun _ _ => rfl))))
        (pss_one (ps_expr (pe_bm PySem.F.plainAttrs_list PySem.F.slot_list_append PySem.F.type_list_append mt_append (pv 4) (pa_cons
          (pe_ix ix_list (pe_lst (pa_cons (pv 6) (pa_cons (pe_op op_add_str pe_str (pv 6)) (pa_cons (pe_op op_mulS (pe_ix ix_str (pv 2) (pe_op op_mod (pv 5) pe_int) (fun _ _ => rfl)) (pe_op op_add pe_int (pe_op op_fdiv (pv 5) pe_int))) pa_nil)))) (pv 3) (fun _ _ => rfl)) pa_nil))))))
      (pss_one (ps_ret (pe_call GS hr (by rfl) gS FS.kp bS .nil pass0 (pa_cons (pv 0) (pa_cons (pv 4) pa_nil)))))))), ?_⟩
    have src0 := hS.at
    refine q_asg (v := .str alphabet) ev_c fun H1 e1 => ?_
    -- style = _law_pick(source, 3)
    refine ⟨.ref s, rfl, s, 3, B, rfl, hS.ex e1, by omega, by decide, by decide, fun H2 st dr2 st0 st1 => ?_⟩
    obtain ⟨sty, rfl⟩ : ∃ sty : Nat, st = (sty : Int) := ⟨st.toNat, by omega⟩
    have hst : sty < 3 := by omega
    have D2 : Drew s (B + 1) H H2 := ((Drew.refl hS).ex e1).trans dr2
    refine q_asgL (xs := []) (el_lst ea_nil (Nat.zero_le _)) fun Fa H3 hFa e3 hF3 => ?_
    have hF0 : H Fa = none := D2.none src0 hFa
    have nFs : Fa ≠ s := fun e => by
      obtain ⟨o, ho⟩ := src0
      rw [e, ho] at hF0
      cases hF0
    refine q_forR1 (n := (n : Int)) (ea_cons (ev_var rfl) ea_nil) ⟨by omega, by omega⟩
      (fun i σ' H' => H' Fa = some (.lst ((namesOf sty i).map V.str)) ∧ Drew s (B + 1) H H' ∧ ∃ y5 y6, σ' = [some (.ref s), some (.int n), some (.str alphabet), some (.int (sty : Int)), some (.ref Fa), y5, y6])
      (fun H4 e4 => ⟨e4 _ _ hF3, (D2.ex e3).ex e4, _, _, rfl⟩) ?_ ?_
    · rintro i σ' H4 hi ⟨hF4, dr4, y5, y6, rfl⟩
      have hi' : i < 40 := by omega
      have small : ∀ c : Nat, ((⟨#[c]⟩ : Str)).length = 1 := fun _ => rfl
      have sL : alphabet.length ≤ 100000 := by decide
      have et : ∀ {σ : L2.St} {H' : Hp}, σ[2]? = some (some (.str alphabet)) → σ[5]? = some (some (.int (i : Int))) → Ev (tOp rIxS (tVar 2) (tOp (rI CDiv fun i j => .int (i / j)) (tVar 5) (tC (.int 26)))) σ H' (.str ⟨#[97 + i / 26]⟩) := fun h1 h2 =>
        ev_op (ev_var h1) (ev_is (ev_op (ev_var h2) ev_c (rv_I ⟨by decide, by decide⟩)) (show _ = V.int ((i / 26 : Nat) : Int) from congrArg V.int (by omega))) (rv_ixS sL (atI_nat (alph_at (by omega))))
      have em : ∀ {σ : L2.St} {H' : Hp}, σ[2]? = some (some (.str alphabet)) → σ[5]? = some (some (.int (i : Int))) → Ev (tOp rIxS (tVar 2) (tOp (rI (fun _ j => 0 < j) fun i j => .int (i % j)) (tVar 5) (tC (.int 26)))) σ H' (.str ⟨#[97 + i % 26]⟩) := fun h1 h2 =>
        ev_op (ev_var h1) (ev_is (ev_op (ev_var h2) ev_c (rv_I (by decide))) (show _ = V.int ((i % 26 : Nat) : Int) from congrArg V.int (by omega))) (rv_ixS sL (atI_nat (alph_at (by omega))))
      refine q_asg (v := .str (tailOf i)) (ev_op (et rfl rfl) (em rfl rfl) (rv_addS (by rw [small, small]; decide))) fun H5 e5 => ?_
      refine s_app (v := .str (nm sty i)) (e5 _ _ hF4) (ev_var rfl) (ev_opL1 (xs := [.str (tailOf i), .str (("abcdef" : Str) ++ tailOf i), .str (Txt.mul ⟨#[97 + i % 26]⟩ (1 + ((i / 26 : Nat) : Int)))]) (y := .int (sty : Int)) (el_lst (ea_cons (ev_var rfl) (ea_cons (ev_op ev_c (ev_var rfl) (rv_addS ?_))
        (ea_cons (ev_op (em rfl rfl) (ev_is (ev_op ev_c (ev_op (ev_var rfl) ev_c (rv_I ⟨by decide, by decide⟩)) rv_I0) (show _ = V.int (1 + ((i / 26 : Nat) : Int)) from congrArg V.int (by omega))) (rv_mulS (mul_small (by omega) (by omega) (by rw [small]; decide)))) ea_nil))) (show 3 ≤ 100000 by decide)) (fun _ _ => ev_var rfl) fun p H6 hp _ => rv_ixL (sq_of hp) (atI_nat ?_)) ?_ fun H6 e6 => ?_
      · unfold tailOf
        rw [strLen_append, small, small]
        decide
      · match sty, hst with
        | 0, _ => rfl
        | 1, _ => rfl
        | 2, _ => rfl
      · rw [List.length_map]
        unfold namesOf
        rw [List.length_map, List.length_range]
        omega
      · refine ⟨?_, ((dr4.ex e5).ex e6).mut src0 hF0, _, _, rfl⟩
        rw [upd_same]
        unfold namesOf
        rw [List.range_succ, List.map_append, List.map_append]
        rfl
    · rintro σ' H4 ⟨hF4, dr4, y5, y6, rfl⟩
      rw [Int.toNat_natCast] at hF4
      obtain ⟨a1, a2, a3⟩ := names_all hst hn
      have len : ((namesOf sty n).map V.str).length = n := by rw [List.length_map, a3]
      refine ⟨.ref s, rfl, .ref Fa, rfl, s, Fa, _, B + 1, rfl, dr4.src, hF4, nFs, by omega, by omega, fun H5 p ys dr5 hp hys pm => ?_⟩
      obtain ⟨us, rfl, pu⟩ := perm_strs pm
      rw [len] at dr5
      exact q H5 p us (dr4.trans dr5) (dr4.none src0 hp) hys (by rw [pu.length_eq, a3]) (fun z hz => a1 z (pu.mem_iff.mp hz)) (pu.nodup_iff.mpr a2) (fun z hz => no_zyxw _ hst z (by have := pu.mem_iff.mp hz; rw [namesOf_take hn] at this; exact List.mem_of_mem_take this))
end
end K10
/-! data of bounded text and depth; sorted texts; permutations -/
namespace Os
open PySem PySem.Spec PyProof.Rows L2 Evl
theorem listText_len (ts : List Str) : (listText ts).length ≤ 2 + piled ts := by
  cases ts with
  | nil => decide
  | cons t ts =>
    unfold listText
    show (textFrom 1 ((("[" : Str) ++ ("" : Str)) ++ t) ts ++ ("]" : Str)).length ≤ _
    rw [strLen_append, textFrom_length_pos ts 1 _ (by decide), strLen_append, strLen_append, piled_cons]
    have e1 : ("[" : Str).length = 1 := by decide
    have e2 : ("" : Str).length = 0 := by decide
    have e3 : ("]" : Str).length = 1 := by decide
    omega
theorem tupleText_len (ts : List Str) : (tupleText ts).length ≤ 3 + piled ts := by
  unfold tupleText
  rw [strLen_append, strLen_append]
  have e1 : ("(" : Str).length = 1 := by decide
  have e2 : ((if ts.length == 1 then ",)" else ")" : String) : Str).length ≤ 2 := by split <;> decide
  cases ts with
  | nil => decide
  | cons t ts =>
    have := join_length_add (t :: ts) (fun h => nomatch h)
    omega
theorem str_codes {z : Str} (h : PyData.strOk z = true) : ∀ c ∈ z.cps.toList, c < 1114112 := by
  unfold PyData.strOk at h
  rw [← Array.all_toList, List.all_eq_true] at h
  exact fun c hc => of_decide_eq_true (h c hc)
theorem str_of_codes {z : Str} (h : ∀ c ∈ z.cps.toList, c < 1114112) : PyData.strOk z = true := by
  unfold PyData.strOk
  rw [← Array.all_toList, List.all_eq_true]
  exact fun c hc => decide_eq_true (h c hc)
theorem int_shown : ∀ i, i < 64 → (PyData.int ((i : Nat) : Int)).shown.length ≤ 100 := by decide +kernel
theorem dts_strs {H : Hp} : ∀ zs : List Str, Dts H (zs.map V.str) (zs.map PyData.str)
  | [] => .nil
  | z :: zs => .cons (.str z) (dts_strs zs)

/-- data of ints, texts, lists and tuples -/
structure Sh (n : Nat) (d : PyData) : Prop where
  lay : d.canLay0 = true
  deep : d.depth ≤ n
theorem sh_all {n : Nat} : ∀ {ds : List PyData}, (∀ d ∈ ds, Sh n d) → PyData.canLayAll0 ds = true ∧ PyData.depthAll ds ≤ n
  | [], _ => ⟨rfl, Nat.zero_le _⟩
  | d :: ds, h => by
    obtain ⟨h1, h2⟩ := sh_all (ds := ds) fun x hx => h x (List.mem_cons_of_mem _ hx)
    have i := h d List.mem_cons_self
    refine ⟨?_, ?_⟩
    · show (d.canLay0 && PyData.canLayAll0 ds) = true
      rw [i.lay, h1]
      rfl
    · show max d.depth (PyData.depthAll ds) ≤ n
      have := i.deep
      omega
theorem Sh.lst {n : Nat} {ds : List PyData} (h : ∀ d ∈ ds, Sh n d) : Sh (n + 1) (.list ds) := ⟨(sh_all h).1, Nat.succ_le_succ (sh_all h).2⟩
theorem Sh.tup {n : Nat} {ds : List PyData} (h : ∀ d ∈ ds, Sh n d) : Sh (n + 1) (.tuple ds) := ⟨(sh_all h).1, Nat.succ_le_succ (sh_all h).2⟩
theorem Sh.int (n : Nat) (i : Int) : Sh n (.int i) := ⟨rfl, Nat.zero_le _⟩
theorem Sh.str (n : Nat) {z : Str} (h : PyData.strOk z = true) : Sh n (.str z) := ⟨h, Nat.zero_le _⟩
theorem Sh.mono {m n : Nat} {d : PyData} (h : Sh m d) (le : m ≤ n) : Sh n d := ⟨h.lay, Nat.le_trans h.deep le⟩
theorem Sh.shaped {n : Nat} {d : PyData} (h : Sh n d) (le : n ≤ 64) : SeqAt.shaped d = true := by
  show (d.canLay0 && decide (d.depth ≤ 64)) = true
  rw [h.lay, decide_eq_true (Nat.le_trans h.deep le)]
  rfl
theorem Sh.refl {n : Nat} {d : PyData} (h : Sh n d) : PyData.eqv d d = true := SeqAt.eqv_refl d h.lay
/-- data of bounded text -/
structure Lim (L D : Nat) (d : PyData) : Prop where
  long : d.shown.length ≤ L
  deep : d.depth ≤ D
  show' : d.showable = true
  flat : d.hasDict = false
theorem Lim.fit {L D : Nat} {d : PyData} (h : Lim L D d) (h1 : L ≤ 1000000) (h2 : D ≤ 40) : Fit sizeLine d := ⟨Nat.le_trans h.long (Nat.le_trans h1 (by decide)), Nat.le_trans h.deep h2, h.show', h.flat⟩
theorem Lim.mono {L D L' D' : Nat} {d : PyData} (h : Lim L D d) (h1 : L ≤ L') (h2 : D ≤ D') : Lim L' D' d := ⟨Nat.le_trans h.long h1, Nat.le_trans h.deep h2, h.show', h.flat⟩
theorem lim_all {L D : Nat} : ∀ {ds : List PyData}, (∀ d ∈ ds, Lim L D d) → piled (PyData.shownAll ds) ≤ (L + 2) * ds.length ∧ PyData.depthAll ds ≤ D ∧ PyData.showableAll ds = true ∧ PyData.hasDictAll ds = false
  | [], _ => ⟨Nat.le_refl _, Nat.zero_le _, rfl, rfl⟩
  | d :: ds, h => by
    obtain ⟨h1, h2, h3, h4⟩ := lim_all (ds := ds) fun x hx => h x (List.mem_cons_of_mem _ hx)
    have i := h d List.mem_cons_self
    refine ⟨?_, ?_, ?_, ?_⟩
    · show piled (d.shown :: PyData.shownAll ds) ≤ (L + 2) * (ds.length + 1)
      rw [piled_cons, Nat.mul_succ]
      have := i.long
      omega
    · show max d.depth (PyData.depthAll ds) ≤ D
      have := i.deep
      omega
    · show (d.showable && PyData.showableAll ds) = true
      rw [i.show', h3]
      rfl
    · show (d.hasDict || PyData.hasDictAll ds) = false
      rw [i.flat, h4]
      rfl
theorem Lim.lst {L D m : Nat} {ds : List PyData} (h : ∀ d ∈ ds, Lim L D d) (hm : ds.length ≤ m) : Lim (3 + (L + 2) * m) (D + 1) (.list ds) := by
  obtain ⟨h1, h2, h3, h4⟩ := lim_all h
  have := Nat.mul_le_mul_left (L + 2) hm
  refine ⟨?_, Nat.succ_le_succ h2, h3, h4⟩
  show (listText (PyData.shownAll ds)).length ≤ _
  have := listText_len (PyData.shownAll ds)
  omega
theorem Lim.tup {L D m : Nat} {ds : List PyData} (h : ∀ d ∈ ds, Lim L D d) (hm : ds.length ≤ m) : Lim (3 + (L + 2) * m) (D + 1) (.tuple ds) := by
  obtain ⟨h1, h2, h3, h4⟩ := lim_all h
  have := Nat.mul_le_mul_left (L + 2) hm
  refine ⟨?_, Nat.succ_le_succ h2, h3, h4⟩
  show (tupleText (PyData.shownAll ds)).length ≤ _
  have := tupleText_len (PyData.shownAll ds)
  omega
theorem Lim.str {z : Str} (h : z.length ≤ 8) (ok : PyData.strOk z = true) : Lim 100 0 (.str z) := by
  refine ⟨?_, Nat.zero_le _, rfl, rfl⟩
  show (reprText z).length ≤ _
  have := StrLaws.reprText_len z fun c hc => Nat.lt_trans (str_codes ok c hc) (by decide)
  omega
theorem Lim.int {i : Nat} (h : i < 64) : Lim 100 0 (.int (i : Int)) := by
  refine ⟨int_shown i h, Nat.zero_le _, ?_, rfl⟩
  show decide (((i : Int)).natAbs.log2 < 1920) = true
  refine decide_eq_true ?_
  have : ((i : Int)).natAbs = i := by omega
  rw [this]
  exact Nat.lt_of_le_of_lt (Nat.log2_le_self i) (by omega)
/-! ### sorted texts -/
theorem rising_pair : ∀ {p : Str} {l : List Str}, risingS p l = true → (p :: l).Pairwise fun a b => ¬ b.cps.toList < a.cps.toList
  | p, [], _ => List.pairwise_singleton _ _
  | p, x :: r, h => by
    have h' : (!ltCps x.cps.toList p.cps.toList && risingS x r) = true := h
    rw [Bool.and_eq_true, ltCps_eq, Bool.not_eq_true', decide_eq_false_iff_not] at h'
    have ih := rising_pair h'.2
    refine List.pairwise_cons.mpr ⟨fun b hb => ?_, ih⟩
    rcases List.mem_cons.mp hb with rfl | hb
    · exact h'.1
    · have h2 := List.rel_of_pairwise_cons ih hb
      exact fun z => h2 (Decidable.byContradiction fun n => h'.1 (by
        exact List.lt_of_le_of_lt (List.not_lt.mp n) z))
theorem sortedS_pair {l : List Str} (h : sortedS l = true) : l.Pairwise fun a b => ¬ b.cps.toList < a.cps.toList := by
  cases l with
  | nil => exact .nil
  | cons x r => exact rising_pair h
theorem sorted_same {l m : List Str} (p : l.Perm m) (h1 : sortedS l = true) (h2 : sortedS m = true) : l = m :=
  List.Perm.eq_of_pairwise (fun a b _ _ x y => by
    have e : a.cps.toList = b.cps.toList := List.le_antisymm (List.not_lt.mp x) (List.not_lt.mp y)
    cases a
    cases b
    exact congrArg Str.mk (Array.ext' e)) (sortedS_pair h1) (sortedS_pair h2) p
/-! ### swaps -/
def swp (zs : List Str) (e : Pr) : List Str := (zs.set e.1 (zs.getD e.2 ⟨#[]⟩)).set e.2 (zs.getD e.1 ⟨#[]⟩)
theorem swp_len (zs : List Str) (e : Pr) : (swp zs e).length = zs.length := by
  unfold swp
  rw [List.length_set, List.length_set]
theorem swp_perm {zs : List Str} {e : Pr} (h1 : e.1 < zs.length) (h2 : e.2 < zs.length) : (swp zs e).Perm zs := by
  unfold swp
  rw [List.getD_eq_getElem?_getD, List.getD_eq_getElem?_getD, List.getElem?_eq_getElem h1, List.getElem?_eq_getElem h2]
  exact List.set_set_perm h1 h2
def swps (zs : List Str) (es : List Pr) : List Str := es.foldl swp zs
theorem swps_perm {n : Nat} : ∀ {es : List Pr} {zs : List Str}, zs.length = n → (∀ e ∈ es, e.1 < n ∧ e.2 < n) → (swps zs es).Perm zs
  | [], _, _, _ => List.Perm.refl _
  | e :: r, zs, hl, h => by
    obtain ⟨a, b⟩ := h e List.mem_cons_self
    exact (swps_perm (by rw [swp_len, hl]) fun f hf => h f (List.mem_cons_of_mem _ hf)).trans (swp_perm (by omega) (by omega))
/-! ### two ascending lists of pairs with the same entries -/
theorem pairs_same {l m : List Pr} (p : l.Perm m) (h1 : l.Pairwise fun e f => (e.1 : Int) * 64 + (e.2 : Int) ≤ (f.1 : Int) * 64 + (f.2 : Int)) (h2 : m.Pairwise fun e f => ltP e f = true) (small : ∀ e ∈ m, e.1 < 64 ∧ e.2 < 64) : l = m := by
  refine List.Perm.eq_of_pairwise (le := fun e f => (e.1 : Int) * 64 + (e.2 : Int) ≤ (f.1 : Int) * 64 + (f.2 : Int)) (fun a b ha hb x y => ?_) h1 (List.Pairwise.imp_of_mem (fun {a b} ha hb h => ?_) h2) p
  · have sa := small a (p.mem_iff.mp ha)
    have sb := small b hb
    exact Prod.ext (by omega) (by omega)
  · have sa := small a ha
    have sb := small b hb
    rw [ltP_iff] at h
    omega
end Os
/-! the cycles of a permutation -/
namespace Os
open PySem PySem.Spec PyProof.Rows L2 Evl
theorem few_below : ∀ (n : Nat) {l : List Nat}, l.Nodup → (∀ x ∈ l, x < n) → l.length ≤ n
  | 0, l, _, h => by
    cases l with
    | nil => exact Nat.le_refl _
    | cons x r => exact absurd (h x List.mem_cons_self) (Nat.not_lt_zero x)
  | n + 1, l, nd, h => by
    have h1 : ∀ x ∈ l.erase n, x < n := fun x hx => by
      have m := List.mem_of_mem_erase hx
      have := h x m
      have ne : x ≠ n := fun e => by
        rw [e] at hx
        exact List.Nodup.not_mem_erase nd hx
      omega
    have ih := few_below n (nd.erase n) h1
    rw [List.length_erase] at ih
    split at ih <;> omega
def itr (f : List Nat) : Nat → Nat → Nat
  | 0, x => x
  | k + 1, x => f.getD (itr f k x) 0
/-- f is a permutation of the places below n -/
structure IsPerm (f : List Nat) (n : Nat) : Prop where
  len : f.length = n
  lt : ∀ i, i < n → f.getD i 0 < n
  inj : ∀ i j, i < n → j < n → f.getD i 0 = f.getD j 0 → i = j
section
variable {f : List Nat} {n : Nat}
theorem itr_lt (p : IsPerm f n) : ∀ (k : Nat) {x : Nat}, x < n → itr f k x < n
  | 0, _, h => h
  | k + 1, _, h => p.lt _ (itr_lt p k h)
theorem itr_back (p : IsPerm f n) {x : Nat} (hx : x < n) : ∀ (i j : Nat), itr f i x = itr f (i + j) x → x = itr f j x
  | 0, j, e => by rw [Nat.zero_add] at e; exact e
  | i + 1, j, e => by
    rw [show i + 1 + j = (i + j) + 1 by omega] at e
    exact itr_back p hx i j (p.inj _ _ (itr_lt p i hx) (itr_lt p (i + j) hx) e)
theorem itr_returns (p : IsPerm f n) {x : Nat} (hx : x < n) : ∃ j, j < n ∧ itr f (j + 1) x = x := Decidable.byContradiction fun no => by
  have nd : ((List.range (n + 1)).map fun i => itr f i x).Nodup := by
    unfold List.Nodup
    rw [List.pairwise_map]
    refine List.Pairwise.imp_of_mem (fun {i j} hi hj lt e => ?_) List.pairwise_lt_range
    have hj' := List.mem_range.mp hj
    have b := itr_back p hx i (j - i) (by rw [show i + (j - i) = j by omega]; exact e)
    exact no ⟨j - i - 1, by omega, by rw [show j - i - 1 + 1 = j - i by omega]; exact b.symm⟩
  have := few_below n nd fun y hy => by
    obtain ⟨i, _, rfl⟩ := List.mem_map.mp hy
    exact itr_lt p i hx
  rw [List.length_map, List.length_range] at this
  omega
def per (f : List Nat) (n x : Nat) : Nat := ((List.range n).find? fun j => itr f (j + 1) x == x).getD 0 + 1
theorem per_ok (p : IsPerm f n) {x : Nat} (hx : x < n) : 1 ≤ per f n x ∧ per f n x ≤ n ∧ itr f (per f n x) x = x ∧ ∀ j, 1 ≤ j → j < per f n x → itr f j x ≠ x := by
  obtain ⟨j, hj, e⟩ := itr_returns p hx
  unfold per
  cases hf : (List.range n).find? fun j => itr f (j + 1) x == x with
  | none => exact absurd (List.find?_eq_none.mp hf j (List.mem_range.mpr hj)) (by rw [e]; simp)
  | some m =>
    obtain ⟨h1, h2, h3⟩ := List.find?_range_eq_some.mp hf
    have hm := List.mem_range.mp h2
    show 1 ≤ m + 1 ∧ m + 1 ≤ n ∧ itr f (m + 1) x = x ∧ _
    refine ⟨by omega, by omega, by simpa using h1, fun j j1 jm z => ?_⟩
    have jm' : j < m + 1 := jm
    have := h3 (j - 1) (by omega)
    rw [show j - 1 + 1 = j by omega, z] at this
    simp at this
/-- the first k places on x's way -/
def way (f : List Nat) (k x : Nat) : List Nat := (List.range k).map fun i => itr f i x
theorem way_succ (f : List Nat) (k x : Nat) : way f (k + 1) x = way f k x ++ [itr f k x] := by
  unfold way
  rw [List.range_succ, List.map_append]
  rfl
theorem way_len (f : List Nat) (k x : Nat) : (way f k x).length = k := by
  unfold way
  rw [List.length_map, List.length_range]
def ringOf (f : List Nat) (n x : Nat) : List Nat := way f (per f n x) x
def lead (f : List Nat) (n x : Nat) : Bool := decide (∀ y ∈ ringOf f n x, x ≤ y)
def cycles (f : List Nat) (n : Nat) : List (List Nat) := ((List.range n).filter (lead f n)).map (ringOf f n)
theorem ring_head (p : IsPerm f n) {x : Nat} (hx : x < n) : (ringOf f n x)[0]? = some x ∧ x ∈ ringOf f n x := by
  have h := (per_ok p hx).1
  have e : (ringOf f n x)[0]? = some x := by
    unfold ringOf way
    rw [List.getElem?_map, List.getElem?_range (by omega)]
    rfl
  exact ⟨e, List.mem_of_getElem? e⟩
theorem lead_min (p : IsPerm f n) {x m : Nat} (hx : x < n) (hm : m ∈ ringOf f n x) (le : ∀ y ∈ ringOf f n x, m ≤ y) : decide (x = m) = lead f n x := by
  unfold lead
  refine decide_eq_decide.mpr ⟨fun e => e ▸ le, fun h => ?_⟩
  have := h m hm
  have := le x (ring_head p hx).2
  omega
theorem ring_lt (p : IsPerm f n) {x y : Nat} (hx : x < n) (hy : y ∈ ringOf f n x) : y < n := by
  obtain ⟨i, _, rfl⟩ := List.mem_map.mp hy
  exact itr_lt p i hx
theorem ring_len (p : IsPerm f n) {x : Nat} (hx : x < n) : (ringOf f n x).length ≤ n := by
  unfold ringOf
  rw [way_len]
  exact (per_ok p hx).2.1
/-- place 0 leads the first cycle -/
theorem lead_zero : lead f n 0 = true := decide_eq_true fun _ _ => Nat.zero_le _
end
/-! ### where the texts went -/
def went (zs us : List Str) : List Nat := zs.map fun z => us.idxOf z
theorem went_perm {zs us : List Str} {n : Nat} (p : us.Perm zs) (nd : zs.Nodup) (hl : zs.length = n) : IsPerm (went zs us) n := by
  have atW : ∀ {i : Nat} (h : i < zs.length), (went zs us).getD i 0 = us.idxOf zs[i] := fun {i} h => by
    unfold went
    rw [List.getD_eq_getElem?_getD, List.getElem?_map, List.getElem?_eq_getElem h]
    rfl
  have inU : ∀ {i : Nat} (h : i < zs.length), us.idxOf zs[i] < us.length := fun {i} h => List.idxOf_lt_length_iff.mpr (p.mem_iff.mpr (List.getElem_mem h))
  refine ⟨by unfold went; rw [List.length_map, hl], fun i hi => ?_, fun i j hi hj e => ?_⟩
  · rw [atW (by omega)]
    have := inU (i := i) (by omega)
    rw [p.length_eq] at this
    omega
  · rw [atW (by omega), atW (by omega)] at e
    have e1 := List.getElem_idxOf (inU (i := i) (by omega))
    have e2 := List.getElem_idxOf (inU (i := j) (by omega))
    have e3 : zs[i]'(by omega) = zs[j]'(by omega) := by
      rw [← e1, ← e2]
      simp only [e]
    refine Decidable.byContradiction fun ne => ?_
    rcases Nat.lt_or_gt_of_ne ne with h | h
    · exact List.pairwise_iff_getElem.mp nd i j _ _ h e3
    · exact List.pairwise_iff_getElem.mp nd j i _ _ h e3.symm
end Os
namespace K10
open PySem PySem.Spec PyProof.Rows L2 Os Evl
abbrev sChkF : Stmt := topS 14
theorem scChkF : FnScope ["forest"] ["forest"] (defScope sChkF) := ⟨rfl, rfl, rfl, by decide +kernel, rfl, by decide +kernel, by decide +kernel⟩
abbrev sChkA : Stmt := topS 26
theorem scChkA : FnScope ["n", "items"] ["n", "items"] (defScope sChkA) := ⟨rfl, rfl, rfl, by decide +kernel, rfl, by decide +kernel, by decide +kernel⟩
abbrev sChkR : Stmt := topS 27
theorem scChkR : FnScope ["forest", "before", "after"] ["forest", "before", "after"] (defScope sChkR) := ⟨rfl, rfl, rfl, by decide +kernel, rfl, by decide +kernel, by decide +kernel⟩
abbrev sChkO : Stmt := topS 28
theorem scChkO : FnScope ["forest", "order"] ["forest", "order"] (defScope sChkO) := ⟨rfl, rfl, rfl, by decide +kernel, rfl, by decide +kernel, by decide +kernel⟩
abbrev sApply : Stmt := topS 30
abbrev sSwp : Stmt := topS 29
theorem scSwp : FnScope ["items", "edges", "result", "p", "q"] ["items", "edges"] (defScope sSwp) := ⟨rfl, rfl, rfl, by decide +kernel, rfl, by decide +kernel, by decide +kernel⟩
theorem scApply : FnScope ["forest", "items", "order"] ["forest", "items", "order"] (defScope sApply) := ⟨rfl, rfl, rfl, by decide +kernel, rfl, by decide +kernel, by decide +kernel⟩
abbrev sMoves : Stmt := topS 31
theorem scMoves : FnScope ["forest", "before", "after", "item"] ["forest", "before", "after"] (defScope sMoves) := ⟨rfl, rfl, rfl, by decide +kernel, rfl, by decide +kernel, by decide +kernel⟩

/-- a list of texts -/
def ArrV (G : Hp) (v : V) (zs : List Str) : Prop := ∃ a, v = .ref a ∧ G a = some (.lst (zs.map V.str))
def OrdV (G : Hp) (v : V) (os : List Pr) : Prop := ∃ (a : Addr) (xs : List V), v = .ref a ∧ G a = some (.lst xs) ∧ PrsV G xs os
theorem ArrV.ex {G G' : Hp} {v : V} {zs : List Str} (h : ArrV G v zs) (e : Ex G G') : ArrV G' v zs := by
  obtain ⟨a, h1, h2⟩ := h
  exact ⟨a, h1, e _ _ h2⟩
theorem OrdV.ex {G G' : Hp} {v : V} {os : List Pr} (h : OrdV G v os) (e : Ex G G') : OrdV G' v os := by
  obtain ⟨a, xs, h1, h2, h3⟩ := h
  exact ⟨a, xs, h1, e _ _ h2, h3.ex e⟩
theorem ArrV.dt {G : Hp} {v : V} {zs : List Str} (h : ArrV G v zs) : Dt G v (.list (zs.map PyData.str)) := by
  obtain ⟨a, rfl, h2⟩ := h
  exact .lst h2 (dts_strs zs)
structure ArrOk (zs : List Str) (n : Nat) : Prop where
  len : zs.length = n
  ok : ∀ z ∈ zs, nameB z = true ∧ PyData.strOk z = true
  nd : zs.Nodup
theorem ArrOk.perm {zs us : List Str} {n : Nat} (h : ArrOk zs n) (p : us.Perm zs) : ArrOk us n := ⟨by rw [p.length_eq, h.len], fun z hz => h.ok z (p.mem_iff.mp hz), p.nodup_iff.mpr h.nd⟩
theorem strsOf_map : ∀ zs : List Str, strsOf (zs.map PyData.str) = zs
  | [] => rfl
  | z :: zs => congrArg (z :: ·) (strsOf_map zs)
theorem name_short {z : Str} (h : nameB z = true) : z.length ≤ 8 := by
  unfold nameB at h
  rw [Bool.and_eq_true, Bool.and_eq_true] at h
  exact of_decide_eq_true h.1.2
theorem ArrOk.row {zs : List Str} {n : Nat} (h : ArrOk zs n) : rowB (n : Int) (.list (zs.map PyData.str)) = true := by
  show (decide (((zs.map PyData.str).length : Int) = (n : Int)) && (zs.map PyData.str).all itemB && decide (strsOf (zs.map PyData.str)).Nodup) = true
  rw [strsOf_map, List.length_map, decide_eq_true (by rw [h.len]), decide_eq_true h.nd, Bool.true_and, Bool.and_true]
  refine List.all_eq_true.mpr fun d hd => ?_
  obtain ⟨z, hz, rfl⟩ := List.mem_map.mp hd
  exact (h.ok z hz).1
theorem ArrOk.short {zs : List Str} {n : Nat} (h : ArrOk zs n) (hn : n ≤ 40) : ShortL (.list (zs.map PyData.str)) := by
  refine ⟨by rw [List.length_map, h.len]; omega, fun d hd => ?_⟩
  obtain ⟨z, hz, rfl⟩ := List.mem_map.mp hd
  exact ⟨Nat.le_trans (name_short (h.ok z hz).1) (by decide), (h.ok z hz).2⟩
theorem sh_strs {zs : List Str} (h : ∀ z ∈ zs, PyData.strOk z = true) : Sh 1 (.list (zs.map PyData.str)) := .lst fun d hd => by
  obtain ⟨z, hz, rfl⟩ := List.mem_map.mp hd
  exact .str 0 (h z hz)
theorem sh_prs (es : List Pr) : Sh 2 (.list (es.map Os.prD)) := .lst fun d hd => by
  obtain ⟨e, _, rfl⟩ := List.mem_map.mp hd
  refine .tup fun x hx => ?_
  rcases List.mem_cons.mp hx with rfl | hx
  · exact .int 0 _
  · rw [List.mem_singleton.mp hx]
    exact .int 0 _
theorem not_before {z : Str} : ∀ {us : List Str} {m : Nat}, m < us.idxOf z → us[m]? ≠ some z
  | [], _, h => by simp at h
  | u :: us, m, h => by
    rw [List.idxOf_cons] at h
    by_cases e : u = z
    · rw [e, beq_self_eq_true] at h
      exact absurd h (Nat.not_lt_zero _)
    · rw [show (u == z) = false from beq_eq_false_iff_ne.mpr e] at h
      cases m with
      | zero => simpa using e
      | succ m =>
        have h' : m + 1 < us.idxOf z + 1 := h
        have := not_before (z := z) (us := us) (m := m) (by omega)
        simpa using this
section
variable {P : Program} {w : World} {K : PySem.W.Frag} {mg : Str → Option Value} {base : Heap}
def spChkF : Sp := fun vs H Q _ => ∃ (v : V) (n : Nat) (es : List Pr), vs = [v] ∧ GraphV H v n es ∧ IsForest n es ∧ ∀ H', Ex H H' → Q .non H'
def spChkA : Sp := fun vs H Q _ => ∃ (v : V) (n : Nat) (zs : List Str), vs = [.int (n : Int), v] ∧ ArrV H v zs ∧ ArrOk zs n ∧ n ≤ 40 ∧ ∀ H', Ex H H' → Q .non H'
def spChkR : Sp := fun vs H Q _ => ∃ (g v u : V) (n : Nat) (es : List Pr) (zs us : List Str), vs = [g, v, u] ∧ GraphV H g n es ∧ IsForest n es ∧ ArrV H v zs ∧ ArrV H u us ∧ ArrOk zs n ∧ us.Perm zs ∧ ∀ H', Ex H H' → Q .non H'
def spSwp : Sp := fun vs H Q _ => ∃ (i o : V) (n : Nat) (zs : List Str) (os : List Pr), vs = [i, o] ∧ ArrV H i zs ∧ zs.length = n ∧ OrdV H o os ∧ (∀ e ∈ os, e.1 < n ∧ e.2 < n) ∧
  ∀ H' p, Ex H H' → H p = none → H' p = some (.lst ((swps zs os).map V.str)) → Q (.ref p) H'
def spApply : Sp := fun vs H Q _ => ∃ (v i o : V) (n : Nat) (es os : List Pr) (zs : List Str), vs = [v, i, o] ∧ GraphV H v n es ∧ IsForest n es ∧ ArrV H i zs ∧ ArrOk zs n ∧ OrdV H o os ∧ os.Perm es ∧
  ∀ H' p, Ex H H' → H p = none → H' p = some (.lst ((swps zs os).map V.str)) → Q (.ref p) H'
def spMoves : Sp := fun vs H Q _ => ∃ (v i u : V) (n : Nat) (es : List Pr) (zs us : List Str), vs = [v, i, u] ∧ GraphV H v n es ∧ IsForest n es ∧ ArrV H i zs ∧ ArrV H u us ∧ ArrOk zs n ∧ us.Perm zs ∧
  ∀ H' p, Ex H H' → H p = none → H' p = some (.lst ((went zs us).map fun x : Nat => V.int (x : Int))) → Q (.ref p) H'
theorem ok_chkF {f fF : Addr} {fd fdF : FuncData} {k : Nat} (F : Fun K "check_forest" "check_forest" sChkF f fd)
    (GF : FnOk P w K mg base CX0 k fF fdF ["thing"] spForest) (FF : Fun K "is_forest" "is_forest" sForest fF fdF) (bF : Binds K fdF ["thing"] []) (gF : mg "is_forest" = some (.ref fF)) : FnOk P w K mg base CX0 (k + 1) f fd ["forest"] spChkF := by
  refine F.ok scChkF (fun vs H Q E h => ?_) (fun cdv A outer s H vs Q E hr h => ?_)
  · obtain ⟨v, n, es, rfl, _⟩ := h
    rfl
  · obtain ⟨v, n, es, rfl, hg, ok, q⟩ := h
    refine ⟨_, (pss_one (ps_if (pt_not (pt_val (pe_call GF hr (by rfl) gF FF.kp bF .nil pass0 (pa_cons (pv 0) pa_nil)))) pss_never pss_nil)), ?_⟩
    refine s_when (b := !true) (et_not (et_B (ev_sp (ea_cons (ev_var rfl) ea_nil) fun H1 e1 Q q => ⟨_, n, es, rfl, hg.ex e1, ok, q⟩))) (fun h => nomatch h) fun _ H1 e1 => q H1 e1
theorem ok_chkA {f fA : Addr} {fd fdA : FuncData} {k : Nat} (F : Fun K "check_arrangement" "check_arrangement" sChkA f fd)
    (GA : FnOk P w K mg base CX0 k fA fdA ["n", "thing"] spArr) (FA : Fun K "is_arrangement" "is_arrangement" sArr fA fdA) (bA : Binds K fdA ["n", "thing"] []) (gA : mg "is_arrangement" = some (.ref fA)) : FnOk P w K mg base CX0 (k + 1) f fd ["n", "items"] spChkA := by
  refine F.ok scChkA (fun vs H Q E h => ?_) (fun cdv A outer s H vs Q E hr h => ?_)
  · obtain ⟨v, n, zs, rfl, _⟩ := h
    rfl
  · obtain ⟨v, n, zs, rfl, hv, ok, hn, q⟩ := h
    refine ⟨_, (pss_one (ps_if (pt_not (pt_val (pe_call GA hr (by rfl) gA FA.kp bA .nil pass0 (pa_cons (pv 0) (pa_cons (pv 1) pa_nil))))) pss_never pss_nil)), ?_⟩
    refine s_when (b := !true) (et_not (et_B (ev_sp (ea_cons (ev_var rfl) (ea_cons (ev_var rfl) ea_nil)) fun H1 e1 Q q => ⟨(n : Int), v, .list (zs.map PyData.str), rfl, (hv.ex e1).dt, ok.short hn, fun H2 e2 => by rw [ok.row]; exact q H2 e2⟩))) (fun h => nomatch h) fun _ H1 e1 => q H1 e1
theorem ok_chkR {f fF fA : Addr} {fd fdF fdA : FuncData} {k : Nat} (F : Fun K "check_change" "check_change" sChkR f fd)
    (GF : FnOk P w K mg base CX0 k fF fdF ["forest"] spChkF) (FF : Fun K "check_forest" "check_forest" sChkF fF fdF) (bF : Binds K fdF ["forest"] []) (gF : mg "check_forest" = some (.ref fF))
    (GA : FnOk P w K mg base CX0 k fA fdA ["n", "items"] spChkA) (FA : Fun K "check_arrangement" "check_arrangement" sChkA fA fdA) (bA : Binds K fdA ["n", "items"] []) (gA : mg "check_arrangement" = some (.ref fA)) (mSorted : mg "sorted" = none) : FnOk P w K mg base CX0 (k + 1) f fd ["forest", "before", "after"] spChkR := by
  refine F.ok scChkR (fun vs H Q E h => ?_) (fun cdv A outer s H vs Q E hr h => ?_)
  · obtain ⟨g, v, u, n, es, zs, us, rfl, _⟩ := h
    rfl
  · obtain ⟨g, v, u, n, es, zs, us, rfl, hg, okf, hv, hu, ok, pm, q⟩ := h
    refine ⟨_, (pss_cons (ps_expr (pe_call GF hr (by rfl) gF FF.kp bF .nil pass0 (pa_cons (pv 0) pa_nil)))
      (pss_cons (ps_expr (pe_call GA hr (by rfl) gA FA.kp bA .nil pass0 (pa_cons (pe_ix ix_tup (pv 0) pe_int (fun _ _ => rfl)) (pa_cons (pv 1) pa_nil))))
      (pss_cons (ps_expr (pe_call GA hr (by rfl) gA FA.kp bA .nil pass0 (pa_cons (pe_ix ix_tup (pv 0) pe_int (fun _ _ => rfl)) (pa_cons (pv 2) pa_nil))))
      (pss_one (ps_if (pt_cmpR (op_neD hr.units) (pe_callB cr_sortedS (by rfl) mSorted boot_sorted (pa_cons (pv 2) pa_nil)) (pe_callB cr_sortedS (by rfl) mSorted boot_sorted (pa_cons (pv 1) pa_nil)) (nomark _)) pss_never pss_nil))))), ?_⟩
    have oku := ok.perm pm
    have hn := okf.n40
    obtain ⟨a, rfl, ha⟩ := hv
    obtain ⟨b, rfl, hb⟩ := hu
    refine q_drop (v := .non) (ev_sp (ea_cons (ev_var rfl) ea_nil) fun H1 e1 Q q => ⟨_, n, es, rfl, hg.ex e1, okf, q⟩) fun H1 e1 => ?_
    have hg1 := hg.ex e1
    obtain ⟨gg, aa, xs, rfl, h2, h3, h4⟩ := hg1
    refine q_drop (v := .non) (ev_sp (ea_cons (ev_op (ev_var rfl) ev_c (rv_ixT (st_of h2) (atI_nat (j := 0) rfl))) (ea_cons (ev_var rfl) ea_nil)) fun H2 e2 Q q => ⟨_, n, zs, rfl, ⟨a, rfl, (e1.trans e2) _ _ ha⟩, ok, hn, q⟩) fun H2 e2 => ?_
    refine q_drop (v := .non) (ev_sp (ea_cons (ev_op (ev_var rfl) ev_c (rv_ixT (st_of (e2 _ _ h2)) (atI_nat (j := 0) rfl))) (ea_cons (ev_var rfl) ea_nil)) fun H3 e3 Q q => ⟨_, n, us, rfl, ⟨b, rfl, ((e1.trans e2).trans e3) _ _ hb⟩, oku, hn, q⟩) fun H3 e3 => ?_
    have e13 := (e1.trans e2).trans e3
    refine s_when (b := false) (fun H4 e4 Q' q' => ?_) (fun h => nomatch h) fun _ H5 e5 => q H5 (e13.trans e5)
    have e12 := e13.trans e4
    refine ⟨.ref b, rfl, b, us, rfl, sq_of (e12 _ _ hb), by rw [oku.len]; omega, fun ys p1 pm1 s1 hp1 => ?_⟩
    have x1 := Ex.new (o := .lst (ys.map V.str)) hp1
    refine ⟨.ref a, rfl, a, zs, rfl, sq_of (x1 _ _ (e12 _ _ ha)), by rw [ok.len]; omega, fun ys2 p2 pm2 s2 hp2 => ?_⟩
    have x2 := Ex.new (o := .lst (ys2.map V.str)) hp2
    have same : ys2 = ys := sorted_same ((pm2.trans pm.symm).trans pm1.symm) s2 s1
    subst same
    have sh : Sh 1 (.list (ys2.map PyData.str)) := sh_strs fun z hz => (ok.ok z (pm2.mem_iff.mp hz)).2
    refine ⟨.list (ys2.map PyData.str), .list (ys2.map PyData.str), Dt.dp (.lst (x2 _ _ upd_same) (dts_strs _)), Dt.dp (.lst upd_same (dts_strs _)), sh.shaped (by decide), sh.shaped (by decide), _, rfl, ?_⟩
    rw [sh.refl]
    exact q' _ (x1.trans x2)
end
end K10
namespace K10
open PySem PySem.Spec PyProof.Rows L2 Os Evl
theorem all_flat (us : List Str) : (us.map V.str).all flatV = true := List.all_eq_true.mpr fun x hx => by
  obtain ⟨z, _, rfl⟩ := List.mem_map.mp hx
  rfl
/-- the place of a text -/
theorem ev_index {K : PySem.W.Frag} {σ : L2.St} {H : Hp} {ta te : TE} {a : Addr} {us : List Str} {z : Str} (h : Ev ta σ H (.ref a)) (ha : H a = some (.lst (us.map V.str))) (he : Ev te σ H (.str z)) (hz : z ∈ us) :
    Ev (tBM K "list" (rIndex K) ta (tCons te tNil)) σ H (.int ((us.idxOf z : Nat) : Int)) := fun H1 e1 Q q =>
  h H1 e1 _ fun H2 e2 => ⟨.inl ⟨rfl, _, sq_of ((e1.trans e2) _ _ ha)⟩, he H2 (e1.trans e2) _ fun H3 e3 => by
    have lt := List.idxOf_lt_length_iff.mpr hz
    refine ⟨a, us.map V.str, .str z, us.idxOf z, .str z, rfl, rfl, sq_of (((e1.trans e2).trans e3) _ _ ha), rfl, all_flat us, ?_, ?_, fun m z' hm hz' => ?_, q H3 (e2.trans e3)⟩
    · rw [List.getElem?_map, List.getElem?_eq_getElem lt, List.getElem_idxOf]
      rfl
    · show (z == z) = true
      exact beq_self_eq_true z
    · rw [List.getElem?_map] at hz'
      cases hm2 : us[m]? with
      | none => rw [hm2] at hz'; cases hz'
      | some y =>
        rw [hm2] at hz'
        cases hz'
        have ne := not_before hm
        show (y == z) = false
        exact beq_eq_false_iff_ne.mpr fun e => ne (by rw [hm2, e])⟩
section
variable {P : Program} {w : World} {K : PySem.W.Frag} {mg : Str → Option Value} {base : Heap}
theorem ok_swp {f : Addr} {fd : FuncData} {k : Nat} (F : Fun K "swapped" "swapped" sSwp f fd) (mList : mg "list" = none) : FnOk P w K mg base CX0 (k + 1) f fd ["items", "edges"] spSwp := by
  refine F.ok scSwp (fun vs H Q E h => ?_) (fun cdv A outer s H vs Q E hr h => ?_)
  · obtain ⟨i, o, n, zs, os, rfl, _⟩ := h
    rfl
  · obtain ⟨i, o, n, zs, os, rfl, hi, len, ho, inn, q⟩ := h
    refine ⟨_, (pss_cons (ps_set (i := 2) scSwp.nd rfl (.inl rfl) (pe_callTy call_list_of (by rfl) mList boot_list (pa_cons (pv 0) pa_nil)))
      (pss_cons (ps_for PassesOwn.never rfl (pi_list (pv 1)) (pg_tup rfl (pgs_cons (pg_name (i := 3) scSwp.nd rfl (Or.inl rfl)) (pgs_cons (pg_name (i := 4) scSwp.nd rfl (Or.inl rfl)) pgs_nil)))
      (pss_one (ps_asg (pe_tup (pa_cons (pe_ix ix_list (pv 2) (pv 4) (fun _ _ => rfl)) (pa_cons (pe_ix ix_list (pv 2) (pv 3) (fun _ _ => rfl)) pa_nil))) (pg_tup rfl (pgs_cons (pg_sub (pv 2) (pv 3) set_list (fun _ => rfl)) (pgs_cons (pg_sub (pv 2) (pv 4) set_list (fun _ => rfl)) pgs_nil))))))
      (pss_one (ps_ret (pv 2))))), ?_⟩
    obtain ⟨b, rfl, hb⟩ := hi
    obtain ⟨c, ys, rfl, hc, hp⟩ := ho
    refine ⟨.ref b, rfl, b, _, rfl, .inl (sq_of hb), fun R hR => ?_⟩
    have hR0 : H R = none := hR
    have eR : Ex H (upd H R (.lst (zs.map V.str))) := Ex.new hR
    refine q_forL (xs := ys) (ev_var rfl) (sq_of (eR _ _ hc)) (fun i σ' H' => Ex H H' ∧ ∃ (y4 y5 : Option V), σ' = [some (.ref b), some (.ref c), some (.ref R), y4, y5] ∧ H' R = some (.lst ((swps zs (os.take i)).map V.str)))
      (fun H4 e4 => ⟨eR.trans e4, _, _, rfl, e4 _ _ upd_same⟩) (fun i σ' H' _ h => sq_of (h.1 _ _ hc)) ?_ ?_
    · rintro i x σ' H4 hx ⟨e4, y4, y5, rfl, hR4⟩
      obtain ⟨e, he, tp, rfl, htp⟩ := hp.get hx
      have ein := inn e (List.mem_of_getElem? he)
      have cl : (swps zs (os.take i)).length = n := by
        rw [(swps_perm len fun f hf => inn f (List.mem_of_mem_take hf)).length_eq, len]
      have at' : ∀ {j : Nat}, j < n → ((swps zs (os.take i)).map V.str)[j]? = some (.str ((swps zs (os.take i)).getD j ⟨#[]⟩)) := fun {j} hj => by
        rw [List.getElem?_map, List.getD_eq_getElem?_getD, List.getElem?_eq_getElem (by omega)]
        rfl
      have l1 : ((swps zs (os.take i)).map V.str).length = n := by rw [List.length_map, cl]
      refine ⟨tp, _, rfl, st_of (e4 _ _ htp), rfl, _, _, rfl, _, [], rfl, rfl, ?_⟩
      refine ⟨.ref R, rfl, .int (e.2 : Int), rfl, R, _, (e.2 : Int), _, rfl, rfl, sq_of hR4, atI_nat (at' (by omega)), .ref R, rfl, .int (e.1 : Int), rfl, R, _, (e.1 : Int), _, rfl, rfl, sq_of hR4, atI_nat (at' (by omega)), show 2 ≤ sizeLine by decide, fun pt hpt => ?_⟩
      have ept := Ex.new (o := .tup [.str ((swps zs (os.take i)).getD e.2 ⟨#[]⟩), .str ((swps zs (os.take i)).getD e.1 ⟨#[]⟩)]) hpt
      refine ⟨pt, _, rfl, st_of upd_same, rfl, _, _, rfl, .ref R, rfl, .int (e.1 : Int), rfl, R, _, (e.1 : Int), e.1, rfl, rfl, ept _ _ hR4, ixN_nat (by omega), ?_⟩
      refine ⟨_, _, rfl, .ref R, rfl, .int (e.2 : Int), rfl, R, _, (e.2 : Int), e.2, rfl, rfl, upd_same, ixN_nat (by rw [List.length_set]; omega), rfl, ?_⟩
      refine ⟨((e4.trans ept).mut hR0).mut hR0, _, _, rfl, ?_⟩
      rw [upd_same, List.take_add_one, he]
      unfold swps
      rw [List.foldl_append]
      show _ = some (HO.lst ((swp (List.foldl swp zs (os.take i)) e).map V.str))
      unfold swp
      rw [List.map_set, List.map_set]
    · rintro σ' H4 ⟨e4, y4, y5, rfl, hR4⟩
      rw [hp.length, List.take_length] at hR4
      exact s_ret (v := .ref R) (ev_var rfl) fun H5 e5 => q H5 R (e4.trans e5) hR0 (e5 _ _ hR4)
theorem ok_moves {f fR : Addr} {fd fdR : FuncData} {k : Nat} (F : Fun K "moves" "moves" sMoves f fd)
    (GR : FnOk P w K mg base CX0 k fR fdR ["forest", "before", "after"] spChkR) (FR : Fun K "check_change" "check_change" sChkR fR fdR) (bR : Binds K fdR ["forest", "before", "after"] []) (gR : mg "check_change" = some (.ref fR))
    : FnOk P w K mg base CX0 (k + 1) f fd ["forest", "before", "after"] spMoves := by
  refine F.ok scMoves (fun vs H Q E h => ?_) (fun cdv A outer s H vs Q E hr h => ?_)
  · obtain ⟨v, i, u, n, es, zs, us, rfl, _⟩ := h
    rfl
  · obtain ⟨v, i, u, n, es, zs, us, rfl, hg, ok, hi, hu, az, pm, q⟩ := h
    refine ⟨_, (pss_cons (ps_expr (pe_call GR hr (by rfl) gR FR.kp bR .nil pass0 (pa_cons (pv 0) (pa_cons (pv 1) (pa_cons (pv 2) pa_nil)))))
      (pss_one (ps_ret (pe_lc (own := [("item", 3)]) (g := gName 3) (tt := tYes) (te := tBM K "list" (rIndex K) (tVar 2) (tCons (tVar 3) tNil)) rfl scMoves.nd (pi_list (pv 1)) (blkOk_by (N := ["forest", "before", "after", "item"]) (sc := defScope sMoves) (by decide +kernel)) (fun _ _ _ _ _ => pg_name (i := 3) scMoves.nd rfl (Or.inl rfl)) (fun _ _ _ _ _ => pts_nil) (fun _ _ _ _ _ => (pe_bm PySem.F.plainAttrs_list PySem.F.slot_list_index PySem.F.type_list_index mt_index (pv 2) (pa_cons (pv 3) pa_nil))))))), ?_⟩
    refine q_drop (v := .non) (ev_sp (ea_cons (ev_var rfl) (ea_cons (ev_var rfl) (ea_cons (ev_var rfl) ea_nil))) fun H3 e3 Q q => ⟨_, _, _, n, es, zs, us, rfl, hg.ex e3, ok, hi.ex e3, hu.ex e3, az, pm, q⟩) fun H3 e13 => ?_
    obtain ⟨b, rfl, hb⟩ := hi
    obtain ⟨c, rfl, hc⟩ := hu
    have len := az.len
    have n40 := ok.n40
    refine s_retL (xs := (went zs us).map fun x : Nat => V.int (x : Int)) ?_ fun p H4 hp e4 h4 => q H4 p (e13.trans e4) (fresh_back e13 hp) h4
    unfold went
    rw [List.map_map, ← given_map zs ((fun x : Nat => V.int (x : Int)) ∘ fun z => us.idxOf z) (fun i => .int ((us.idxOf (zs.getD i ⟨#[]⟩) : Nat) : Int)) (fun i x e => by
      rw [List.getD_eq_getElem?_getD, e]
      rfl), show zs.length = (zs.map V.str).length by rw [List.length_map]]
    refine el_lcL (f := fun _ => true) (v := _) (ev_var rfl) (sq_of (e13 _ _ hb)) (by rw [List.length_map]; omega) (fun _ => rfl) (fun i c H2 _ _ => fun H3 e3 Q q => q H3 (Ex.refl H3)) (fun i x H4 e4 hx _ => ?_)
    rw [List.getElem?_map] at hx
    cases hzi : zs[i]? with
    | none => rw [hzi] at hx; cases hx
    | some z =>
      rw [hzi] at hx
      cases hx
      rw [List.getD_eq_getElem?_getD, hzi]
      exact ev_index (ev_var rfl) (e4 _ _ (e13 _ _ hc)) (ev_var rfl) (pm.mem_iff.mpr (List.mem_of_getElem? hzi))
end
end K10
namespace K10
open PySem PySem.Spec PyProof.Rows L2 Os Evl
abbrev sRingF : Stmt := topS 32
theorem scRingF : FnScope ["to", "start", "ring"] ["to", "start"] (defScope sRingF) := ⟨rfl, rfl, rfl, by decide +kernel, rfl, by decide +kernel, by decide +kernel⟩
abbrev sRings : Stmt := topS 33
theorem scRings : FnScope ["forest", "before", "after", "to", "ring_at", "position", "ring"] ["forest", "before", "after"] (defScope sRings) := ⟨rfl, rfl, rfl, by decide +kernel, rfl, by decide +kernel, by decide +kernel⟩
abbrev nats (l : List Nat) : List V := l.map fun x : Nat => V.int (x : Int)
theorem nats_ints (l : List Nat) : (l.map fun x : Nat => (x : Int)).map V.int = nats l := by
  rw [List.map_map]
  rfl
/-- lists of numbers, each new -/
inductive RgV (H0 Hh : Hp) : List V → List (List Nat) → Prop
  | nil : RgV H0 Hh [] []
  | cons {b : Addr} {c : List Nat} {rs : List V} {cs : List (List Nat)} : H0 b = none → Hh b = some (.lst (nats c)) → RgV H0 Hh rs cs → RgV H0 Hh (.ref b :: rs) (c :: cs)
namespace RgV
theorem ex {H0 G G' : Hp} (e : Ex G G') : ∀ {rs : List V} {cs : List (List Nat)}, RgV H0 G rs cs → RgV H0 G' rs cs
  | _, _, .nil => .nil
  | _, _, .cons h1 h2 r => .cons h1 (e _ _ h2) (ex e r)
theorem put {H0 G : Hp} {p : Addr} {o u : HO} (hp : H0 p = some u) : ∀ {rs : List V} {cs : List (List Nat)}, RgV H0 G rs cs → RgV H0 (upd G p o) rs cs
  | _, _, .nil => .nil
  | _, _, .cons h1 h2 r => .cons h1 (by
      rw [upd_ne fun e => by
        rw [e, hp] at h1
        cases h1]
      exact h2) (put hp r)
theorem weak {H0 H1 G : Hp} (e : Ex H0 H1) : ∀ {rs : List V} {cs : List (List Nat)}, RgV H1 G rs cs → RgV H0 G rs cs
  | _, _, .nil => .nil
  | _, _, .cons h1 h2 r => .cons (fresh_back e h1) h2 (weak e r)
theorem len {H0 G : Hp} : ∀ {rs : List V} {cs : List (List Nat)}, RgV H0 G rs cs → rs.length = cs.length
  | _, _, .nil => rfl
  | _, _, .cons _ _ r => congrArg (· + 1) (len r)
theorem get {H0 G : Hp} : ∀ {rs : List V} {cs : List (List Nat)} {i : Nat} {x : V}, RgV H0 G rs cs → rs[i]? = some x → ∃ b c, x = .ref b ∧ cs[i]? = some c ∧ H0 b = none ∧ G b = some (.lst (nats c))
  | _, _, _, _, .nil, h => by simp at h
  | _, _, 0, _, .cons h1 h2 _, h => by
    simp at h
    subst h
    exact ⟨_, _, rfl, rfl, h1, h2⟩
  | _, _, i + 1, _, .cons _ _ r, h => by
    have h' := get (i := i) r (by simpa using h)
    simpa using h'
theorem app {H0 G : Hp} {b : Addr} {c : List Nat} (h1 : H0 b = none) (h2 : G b = some (.lst (nats c))) : ∀ {rs : List V} {cs : List (List Nat)}, RgV H0 G rs cs → RgV H0 G (rs ++ [.ref b]) (cs ++ [c])
  | _, _, .nil => .cons h1 h2 .nil
  | _, _, .cons a b r => .cons a b (app h1 h2 r)
theorem pick {H0 G : Hp} {rs : List V} {cs : List (List Nat)} (h : RgV H0 G rs cs) : ∀ {is : List Nat}, (∀ i ∈ is, i < rs.length) → RgV H0 G (is.map fun i => rs.getD i .non) (is.map fun i => cs.getD i [])
  | [], _ => .nil
  | i :: is, hi => by
    have lt := hi i List.mem_cons_self
    obtain ⟨b, c, hx, hc, h1, h2⟩ := h.get (List.getElem?_eq_getElem lt)
    have e1 : rs.getD i .non = .ref b := by
      rw [List.getD_eq_getElem?_getD, List.getElem?_eq_getElem lt, hx]
      rfl
    have e2 : cs.getD i [] = c := by
      rw [List.getD_eq_getElem?_getD, hc]
      rfl
    show RgV H0 G (rs.getD i .non :: _) (cs.getD i [] :: _)
    rw [e1, e2]
    exact .cons h1 h2 (pick h fun j hj => hi j (List.mem_cons_of_mem _ hj))
theorem dts {H0 G : Hp} : ∀ {rs : List V} {cs : List (List Nat)}, RgV H0 G rs cs → Dts G rs (cs.map fun c => .list (c.map fun x : Nat => .int (x : Int)))
  | _, _, .nil => .nil
  | _, _, .cons _ h2 r => .cons (.lst h2 (dtsN _)) (dts r)
where dtsN : ∀ c : List Nat, Dts G (nats c) (c.map fun x : Nat => .int (x : Int))
  | [] => .nil
  | x :: c => .cons (.int _) (dtsN c)
end RgV
section
variable {P : Program} {w : World} {K : PySem.W.Frag} {mg : Str → Option Value} {base : Heap}
def spRingF : Sp := fun vs H Q _ => ∃ (a : Addr) (x n : Nat) (f : List Nat), vs = [.ref a, .int (x : Int)] ∧ H a = some (.lst (nats f)) ∧ IsPerm f n ∧ x < n ∧ n ≤ 40 ∧
  ∀ H' p, Ex H H' → H p = none → H' p = some (.lst (nats (ringOf f n x))) → Q (.ref p) H'
def spRings : Sp := fun vs H Q _ => ∃ (v i u : V) (n : Nat) (es : List Pr) (zs us : List Str), vs = [v, i, u] ∧ GraphV H v n es ∧ IsForest n es ∧ ArrV H i zs ∧ ArrV H u us ∧ ArrOk zs n ∧ us.Perm zs ∧
  ∀ H' p rs, Ex H H' → H p = none → H' p = some (.lst rs) → RgV H H' rs (cycles (went zs us) n) → Q (.ref p) H'
def spCycles : Sp := fun vs H Q _ => ∃ (a : Addr) (n : Nat) (f : List Nat), vs = [.ref a] ∧ H a = some (.lst (nats f)) ∧ IsPerm f n ∧ n ≤ 40 ∧
  ∀ H' p rs, Ex H H' → H p = none → H' p = some (.lst rs) → RgV H H' rs (cycles f n) → Q (.ref p) H'
theorem way_one (f : List Nat) (x : Nat) : nats (way f 1 x) = [.int (x : Int)] := rfl
/-- the way's last place, and where it goes on to -/
theorem ev_next {K : PySem.W.Frag} {σ : L2.St} {H : Hp} {ta tb : TE} {a b : Addr} {f : List Nat} {n j x : Nat} (p : IsPerm f n) (hx : x < n) (ha : Ev ta σ H (.ref a)) (h1 : H a = some (.lst (nats f))) (hb : Ev tb σ H (.ref b)) (h2 : H b = some (.lst (nats (way f (j + 1) x)))) :
    Ev (tOp (rIxL K) ta (tOp (rIxL K) tb (tUn (rU fun i => .int (-i)) (tC (.int 1))))) σ H (.int ((itr f (j + 1) x : Nat) : Int)) := by
  have e : nats (way f (j + 1) x) = nats (way f j x) ++ [.int ((itr f j x : Nat) : Int)] := by
    rw [way_succ]
    unfold nats
    rw [List.map_append]
    rfl
  rw [e] at h2
  have lt := itr_lt p j hx
  refine ev_op ha (ev_op hb (ev_un ev_c ru_neg) (rv_ixL (sq_of h2) (atI_last _ _))) (rv_ixL (sq_of h1) (atI_nat ?_))
  show (nats f)[itr f j x]? = some (.int ((f.getD (itr f j x) 0 : Nat) : Int))
  unfold nats
  rw [List.getElem?_map, List.getD_eq_getElem?_getD, List.getElem?_eq_getElem (by rw [p.len]; exact lt)]
  rfl
theorem ok_ringF {f : Addr} {fd : FuncData} {k : Nat} (F : Fun K "ring_from" "ring_from" sRingF f fd) : FnOk P w K mg base CX0 (k + 1) f fd ["to", "start"] spRingF := by
  refine F.ok scRingF (fun vs H Q E h => ?_) (fun cdv A outer s H vs Q E hr h => ?_)
  · obtain ⟨a, x, n, f, rfl, _⟩ := h
    rfl
  · obtain ⟨a, x, n, f, rfl, ha, p, hx, hn, q⟩ := h
    refine ⟨_, (pss_cons (ps_set (i := 2) scRingF.nd rfl (.inl rfl) (pe_lst (pa_cons (pv 1) pa_nil)))
      (pss_cons (ps_while PassesOwn.never (pt_cmpR op_ne (pe_ix ix_list (pv 0) (pe_ix ix_list (pv 2) (pe_un un_neg pe_int) (fun _ _ => rfl)) (fun _ _ => rfl)) (pv 1) (nomark _)) (pss_one (ps_expr (pe_bm PySem.F.plainAttrs_list PySem.F.slot_list_append PySem.F.type_list_append mt_append (pv 2) (pa_cons (pe_ix ix_list (pv 0) (pe_ix ix_list (pv 2) (pe_un un_neg pe_int) (fun _ _ => rfl)) (fun _ _ => rfl)) pa_nil)))))
      (pss_one (ps_ret (pv 2))))), ?_⟩
    obtain ⟨p1, p2, p3, p4⟩ := per_ok p hx
    refine q_asgL (xs := [.int (x : Int)]) (el_lst (ea_cons (ev_var rfl) ea_nil) (show 1 ≤ 100000 by decide)) fun R H1 hR e1 h1 => ?_
    refine q_while (fun m σ' H' => ∃ j, m = per f n x - j ∧ 1 ≤ j ∧ j ≤ per f n x ∧ σ' = [some (.ref a), some (.int (x : Int)), some (.ref R)] ∧ Ex H H' ∧ H' R = some (.lst (nats (way f j x)))) (per f n x - 1) ⟨1, rfl, Nat.le_refl _, p1, rfl, e1, h1⟩ ?_
    rintro m σ' H2 ⟨j, rfl, j1, jp, rfl, e2, h2⟩
    obtain ⟨i, rfl⟩ : ∃ i, j = i + 1 := ⟨j - 1, by omega⟩
    have nx : Ev (tOp (rIxL K) (tVar 0) (tOp (rIxL K) (tVar 2) (tUn (rU fun i => .int (-i)) (tC (.int 1))))) [some (.ref a), some (.int (x : Int)), some (.ref R)] H2 (.int ((itr f (i + 1) x : Nat) : Int)) := ev_next p hx (ev_var rfl) (e2 _ _ ha) (ev_var rfl) h2
    refine ⟨_, et_test (ev_op nx (ev_var rfl) (rv_ne rfl)), fun hb H3 e3 => ?_, fun hb H3 e3 => ?_⟩
    · have ne : itr f (i + 1) x ≠ x := fun z => by
        rw [z, decide_eq_true rfl] at hb
        cases hb
      have lt : i + 1 < per f n x := Nat.lt_of_le_of_ne jp fun z => ne (by rw [z]; exact p3)
      refine ⟨fun σ2 H4 => σ2 = [some (.ref a), some (.int (x : Int)), some (.ref R)] ∧ Ex H H4 ∧ H4 R = some (.lst (nats (way f (i + 2) x))), fun σ2 H4 h4 => ⟨per f n x - (i + 2), by omega, i + 2, rfl, by omega, by omega, h4⟩, ?_⟩
      refine s_app (v := .int ((itr f (i + 1) x : Nat) : Int)) (e3 _ _ h2) (ev_var rfl) (ev_next p hx (ev_var rfl) (e3 _ _ (e2 _ _ ha)) (ev_var rfl) (e3 _ _ h2)) (by rw [List.length_map, way_len]; omega) fun H4 e4 => ⟨rfl, ((e2.trans e3).trans e4).mut hR, ?_⟩
      rw [upd_same, way_succ f (i + 1)]
      unfold nats
      rw [List.map_append]
      rfl
    · have eq : itr f (i + 1) x = x := Decidable.byContradiction fun z => by
        rw [decide_eq_false (show ¬ V.int ((itr f (i + 1) x : Nat) : Int) = V.int (x : Int) from fun y => z (by have := V.int.inj y; omega))] at hb
        cases hb
      have ej : i + 1 = per f n x := Decidable.byContradiction fun z => p4 (i + 1) (by omega) (by omega) eq
      rw [ej] at h2
      exact s_ret (v := .ref R) (ev_var rfl) fun H4 e4 => q H4 R ((e2.trans e3).trans e4) hR (e4 _ _ (e3 _ _ h2))
end
end K10
namespace K10
open PySem PySem.Spec PyProof.Rows L2 Os Evl
theorem getD_ring {f : List Nat} {n i : Nat} (h : i < n) : ((List.range n).map (ringOf f n)).getD i [] = ringOf f n i := by
  rw [List.getD_eq_getElem?_getD, List.getElem?_map, List.getElem?_range h]
  rfl
/-- min of a cycle is its least place -/
theorem min_ring {K : PySem.W.Frag} {H : Hp} {b : Addr} {f : List Nat} {n x : Nat} {Q : VK} (p : IsPerm f n) (hx : x < n) (hb : H b = some (.lst (nats (ringOf f n x)))) (q : ∀ m : Nat, decide (x = m) = lead f n x → Q (.int (m : Int)) H) : rMin K [.ref b] H Q := by
  have hd := ring_head p hx
  refine ⟨b, (ringOf f n x).map fun x : Nat => (x : Int), rfl, by rw [nats_ints]; exact sq_of hb, ?_, fun m hm le => ?_⟩
  · rw [List.length_map]
    exact List.length_pos_of_mem hd.2
  · obtain ⟨y, hy, rfl⟩ := List.mem_map.mp hm
    exact q y (lead_min p hx hy fun z hz => by
      have := le (z : Int) (List.mem_map.mpr ⟨z, hz, rfl⟩)
      omega)
section
variable {P : Program} {w : World} {K : PySem.W.Frag} {mg : Str → Option Value} {base : Heap}
theorem ok_rings {f fM fF : Addr} {fd fdM fdF : FuncData} {k : Nat} (F : Fun K "rings" "rings" sRings f fd)
    (GM : FnOk P w K mg base CX0 k fM fdM ["forest", "before", "after"] spMoves) (FM : Fun K "moves" "moves" sMoves fM fdM) (bM : Binds K fdM ["forest", "before", "after"] []) (gM : mg "moves" = some (.ref fM))
    (GF : FnOk P w K mg base CX0 k fF fdF ["to", "start"] spRingF) (FF : Fun K "ring_from" "ring_from" sRingF fF fdF) (bF : Binds K fdF ["to", "start"] []) (gF : mg "ring_from" = some (.ref fF))
    (mRange : mg "range" = none) (mLen : mg "len" = none) (mMin : mg "min" = none) : FnOk P w K mg base CX0 (k + 1) f fd ["forest", "before", "after"] spRings := by
  refine F.ok scRings (fun vs H Q E h => ?_) (fun cdv A outer s H vs Q E hr h => ?_)
  · obtain ⟨v, i, u, n, es, zs, us, rfl, _⟩ := h
    rfl
  · obtain ⟨v, i, u, n, es, zs, us, rfl, hg, ok, hi, hu, az, pm, q⟩ := h
    refine ⟨_, (pss_cons (ps_set (i := 3) scRings.nd rfl (.inr rfl) (pe_call GM hr (by rfl) gM FM.kp bM .nil pass0 (pa_cons (pv 0) (pa_cons (pv 1) (pa_cons (pv 2) pa_nil)))))
      (pss_cons (ps_setLc (i := 4) (own := [("position", 5)]) (g := gName 5) (tt := tYes) rfl scRings.nd rfl rfl (sw_true rfl rfl rfl (by decide +kernel)) (pi_range1 (by rfl) mRange (pa_cons (pe_callB call_len_seq (by rfl) mLen boot_len (pa_cons (pv 3) pa_nil)) pa_nil)) (blkOk_by (N := ["forest", "before", "after", "to", "ring_at", "position", "ring"]) (sc := defScope sRings) (by decide +kernel)) (fun _ _ _ _ _ => pg_name (i := 5) scRings.nd rfl (Or.inl rfl)) (fun _ _ _ _ _ => pts_nil) (fun _ _ _ _ _ => (pe_call GF hr (by rfl) gF FF.kp bF .nil pass0 (pa_cons (pv 3) (pa_cons (pv 5) pa_nil)))))
      (pss_one (ps_ret (pe_lc (own := [("ring", 6)]) (g := gName 6) (tt := (tTest (tOp rEq (tOp (rIxL K) (tVar 6) (tC (.int 0))) (tCB (rMin K) (tCons (tVar 6) tNil))))) (te := tVar 6) rfl scRings.nd (pi_list (pv 4)) (blkOk_by (N := ["forest", "before", "after", "to", "ring_at", "position", "ring"]) (sc := defScope sRings) (by decide +kernel)) (fun _ _ _ _ _ => pg_name (i := 6) scRings.nd rfl (Or.inl rfl)) (fun _ _ _ _ _ => pts_one (pt_cmpR op_eq (pe_ix ix_list (pv 6) pe_int (fun _ _ => rfl)) (pe_callB (cr_min rfl) (by rfl) mMin boot_min (pa_cons (pv 6) pa_nil)) (nomark _))) (fun _ _ _ _ _ => pv 6)))))), ?_⟩
    have p := went_perm pm az.nd az.len
    have n40 := ok.n40
    refine ⟨_, rfl, _, rfl, _, rfl, v, i, u, n, es, zs, us, rfl, hg, ok, hi, hu, az, pm, fun H1 T e1 hT h1 => ?_⟩
    have tl : (nats (went zs us)).length = n := by rw [List.length_map, p.len]
    refine ⟨.ref T, rfl, T, _, rfl, .inl (sq_of h1), ((nats (went zs us)).length : Int), rfl, by rw [tl]; omega, by rw [tl]; omega, fun D hD => ?_⟩
    have e1D : Ex H (upd H1 D (.lst [])) := e1.trans (Ex.new hD)
    refine lc_range (lo := 0) (n := ((nats (went zs us)).length : Int).toNat) (fun i Hh => Ex H1 Hh ∧ ∃ rs, Hh D = some (.lst rs) ∧ RgV (upd H1 D (.lst [])) Hh rs ((List.range i).map (ringOf (went zs us) n))) ⟨Ex.new hD, [], upd_same, .nil⟩ ?_ ?_
    · rintro i Hh hi' ⟨x1, rs, hrs, rg⟩
      have lt : i < n := by omega
      have e0 : (0 : Int) + (i : Int) = (i : Int) := by omega
      rw [e0]
      have rl := rg.len
      rw [List.length_map, List.length_range] at rl
      refine ⟨rfl, ?_⟩
      show tCall spRingF [] E0 (tCons (tVar 3) (tCons (tVar 5) tNil)) _ _ _
      refine ⟨.ref T, rfl, .int (i : Int), rfl, T, i, n, went zs us, rfl, x1 _ _ h1, p, lt, n40, fun H4 b e4 hb h4 => ?_⟩
      have nb : b ≠ D := fun e => by
        rw [e, hrs] at hb
        cases hb
      have hb0 : upd H1 D (.lst []) b = none := by
        rw [upd_ne nb]
        exact fresh_back x1 hb
      refine ⟨rs, e4 _ _ hrs, sz_lt (by omega), (x1.trans e4).mut hD, rs ++ [.ref b], upd_same, ?_⟩
      rw [List.range_succ, List.map_append]
      exact RgV.put upd_same (RgV.app hb0 h4 (rg.ex e4))
    · rintro Hh ⟨x1, rs, hrs, rg⟩
      rw [Int.toNat_natCast, tl] at rg
      have rl := rg.len
      rw [List.length_map, List.length_range] at rl
      dsimp only [gName]
      have rgH : RgV H Hh rs ((List.range n).map (ringOf (went zs us) n)) := RgV.weak e1D rg
      refine s_retL (xs := given rs.length (lead (went zs us) n) fun i => rs.getD i .non) (el_lcL (f := lead (went zs us) n) (v := fun i => rs.getD i .non) (ev_var rfl) (sq_of hrs) (by omega) (fun _ => rfl) (fun i x H4 e4 hx => ?_) (fun i x H4 e4 hx _ => ?_)) fun r H4 hr0 e4 h4 => ?_
      · obtain ⟨b, c, rfl, hc, hb0, hb⟩ := rg.get hx
        have lt : i < n := by rw [← rl]; exact (List.getElem?_eq_some_iff.mp hx).1
        rw [List.getElem?_map, List.getElem?_range lt] at hc
        cases hc
        intro H5 e5 Q' q'
        have hb5 := e5 _ _ (e4 _ _ hb)
        have h0 : (nats (ringOf (went zs us) n i))[0]? = some (.int (i : Int)) := by
          unfold nats
          rw [List.getElem?_map, (ring_head p lt).1]
          rfl
        refine ⟨.ref b, rfl, b, _, 0, .int (i : Int), rfl, rfl, sq_of hb5, atI_nat (j := 0) h0, .ref b, rfl, ?_⟩
        dsimp only [tNil]
        refine min_ring p lt hb5 fun m hm => ⟨rfl, _, rfl, ?_⟩
        rw [show decide (V.int (i : Int) = V.int (m : Int)) = lead (went zs us) n i by
          rw [← hm]
          exact decide_eq_decide.mpr ⟨fun e => by have := V.int.inj e; omega, fun e => by rw [e]⟩]
        exact q' H5 (Ex.refl H5)
      · rw [List.getD_eq_getElem?_getD, hx]
        exact ev_var rfl
      · refine q H4 r _ ((e1.trans x1).trans e4) (fresh_back (e1.trans x1) hr0) h4 ?_
        have pk := (rgH.ex e4).pick (is := (List.range n).filter (lead (went zs us) n)) fun i hi => by
          rw [rl]
          exact List.mem_range.mp (List.mem_filter.mp hi).1
        unfold given cycles
        rw [rl]
        rw [List.map_congr_left (g := ringOf (went zs us) n) fun i hi => getD_ring (List.mem_range.mp (List.mem_filter.mp hi).1)] at pk
        exact pk
end
end K10
namespace K10
open PySem PySem.Spec PyProof.Rows L2 Os Evl
abbrev sLists : Stmt := topS 16
theorem scLists : FnScope ["forest", "n", "edges", "lists", "p", "q", "position"] ["forest"] (defScope sLists) := ⟨rfl, rfl, rfl, by decide +kernel, rfl, by decide +kernel, by decide +kernel⟩
/-- the other end, where j is one -/
def other (j : Nat) (e : Pr) : Option Nat := if e.1 = j then some e.2 else if e.2 = j then some e.1 else none
def adj (es : List Pr) (j : Nat) : List Nat := es.filterMap (other j)
theorem adj_snoc {es : List Pr} {i : Nat} {e : Pr} (h : es[i]? = some e) (lt : e.1 < e.2) (j : Nat) :
    adj (es.take (i + 1)) j = if j = e.2 then (if e.2 = e.1 then adj (es.take i) e.2 ++ [e.2] else adj (es.take i) e.2) ++ [e.1] else if j = e.1 then adj (es.take i) j ++ [e.2] else adj (es.take i) j := by
  unfold adj
  rw [List.take_add_one, h, List.filterMap_append]
  show _ ++ List.filterMap (other j) [e] = _
  unfold other
  by_cases h1 : j = e.2
  · rw [if_pos h1, if_neg (show ¬ e.2 = e.1 by omega)]
    subst h1
    simp [show ¬ e.1 = e.2 by omega]
  · rw [if_neg h1]
    by_cases h2 : j = e.1
    · rw [if_pos h2]
      subst h2
      simp
    · rw [if_neg h2]
      simp [show ¬ e.1 = j from fun z => h2 z.symm, show ¬ e.2 = j from fun z => h1 z.symm]
/-- n new lists of numbers -/
structure RwV (H0 G : Hp) (as : List Addr) (n : Nat) (f : Nat → List Nat) : Prop where
  len : as.length = n
  new : ∀ a ∈ as, H0 a = none
  at' : ∀ i a, as[i]? = some a → G a = some (.lst (nats (f i)))
  nd : as.Nodup
theorem RwV.ex {H0 G G' : Hp} {as : List Addr} {n : Nat} {f : Nat → List Nat} (h : RwV H0 G as n f) (e : Ex G G') : RwV H0 G' as n f := ⟨h.len, h.new, fun i a q => e _ _ (h.at' i a q), h.nd⟩
theorem RwV.weak {H0 H1 G : Hp} {as : List Addr} {n : Nat} {f : Nat → List Nat} (h : RwV H1 G as n f) (e : Ex H0 H1) : RwV H0 G as n f := ⟨h.len, fun a q => fresh_back e (h.new a q), h.at', h.nd⟩
theorem RwV.like {H0 G : Hp} {as : List Addr} {n : Nat} {f g : Nat → List Nat} (h : RwV H0 G as n f) (e : ∀ i, f i = g i) : RwV H0 G as n g := ⟨h.len, h.new, fun i a q => by rw [← e i]; exact h.at' i a q, h.nd⟩
theorem RwV.put {H0 G : Hp} {as : List Addr} {n p : Nat} {f : Nat → List Nat} {a : Addr} {l : List Nat} (h : RwV H0 G as n f) (ha : as[p]? = some a) : RwV H0 (upd G a (.lst (nats l))) as n (fun j => if j = p then l else f j) :=
  ⟨h.len, h.new, fun i b q => by
    by_cases e : i = p
    · subst e
      rw [ha] at q
      cases q
      rw [upd_same, if_pos rfl]
    · have ne : b ≠ a := fun z => by
        subst z
        obtain ⟨l1, e1⟩ := List.getElem?_eq_some_iff.mp q
        obtain ⟨l2, e2⟩ := List.getElem?_eq_some_iff.mp ha
        rcases Nat.lt_or_gt_of_ne e with lt | lt
        · exact List.pairwise_iff_getElem.mp h.nd i p l1 l2 lt (by rw [e1, e2])
        · exact List.pairwise_iff_getElem.mp h.nd p i l2 l1 lt (by rw [e1, e2])
      rw [upd_ne ne, if_neg e]
      exact h.at' i b q, h.nd⟩
theorem RwV.off {H0 G : Hp} {as : List Addr} {n : Nat} {f : Nat → List Nat} {p : Addr} {o u : HO} (h : RwV H0 G as n f) (hp : H0 p = some u) : RwV H0 (upd G p o) as n f := ⟨h.len, h.new, fun i a q => by
  rw [upd_ne fun e => by
    have := h.new a (List.mem_of_getElem? q)
    rw [e, hp] at this
    cases this]
  exact h.at' i a q, h.nd⟩
section
variable {P : Program} {w : World} {K : PySem.W.Frag} {mg : Str → Option Value} {base : Heap}
def spLists : Sp := fun vs H Q _ => ∃ (v : V) (n : Nat) (es : List Pr), vs = [v] ∧ GraphV H v n es ∧ IsForest n es ∧
  ∀ H' L as, Ex H H' → H L = none → H' L = some (.lst (as.map V.ref)) → RwV H H' as n (adj es) → Q (.ref L) H'
theorem ok_lists {f : Addr} {fd : FuncData} {k : Nat} (F : Fun K "neighbour_lists" "neighbour_lists" sLists f fd) (mRange : mg "range" = none) : FnOk P w K mg base CX0 (k + 1) f fd ["forest"] spLists := by
  refine F.ok scLists (fun vs H Q E h => ?_) (fun cdv A outer s H vs Q E hr h => ?_)
  · obtain ⟨v, n, es, rfl, _⟩ := h
    rfl
  · obtain ⟨v, n, es, rfl, hg, ok, q⟩ := h
    refine ⟨_, (pss_cons (ps_asg (pv 0) (pg_tup rfl (pgs_cons (pg_name (i := 1) scLists.nd rfl (Or.inl rfl)) (pgs_cons (pg_name (i := 2) scLists.nd rfl (Or.inl rfl)) pgs_nil))))
      (pss_cons (ps_setLc (i := 3) (own := [("position", 6)]) (g := gName 6) (tt := tYes) rfl scLists.nd rfl rfl (sw_true rfl rfl rfl (by decide +kernel)) (pi_range1 (by rfl) mRange (pa_cons (pv 1) pa_nil)) (blkOk_by (N := ["forest", "n", "edges", "lists", "p", "q", "position"]) (sc := defScope sLists) (by decide +kernel)) (fun _ _ _ _ _ => pg_name (i := 6) scLists.nd rfl (Or.inl rfl)) (fun _ _ _ _ _ => pts_nil) (fun _ _ _ _ _ => (pe_lst pa_nil)))
      (pss_cons (ps_for PassesOwn.never rfl (pi_list (pv 2)) (pg_tup rfl (pgs_cons (pg_name (i := 4) scLists.nd rfl (Or.inl rfl)) (pgs_cons (pg_name (i := 5) scLists.nd rfl (Or.inl rfl)) pgs_nil)))
      (pss_cons (ps_expr (pe_bm PySem.F.plainAttrs_list PySem.F.slot_list_append PySem.F.type_list_append mt_append (pe_ix ix_list (pv 3) (pv 4) (fun _ _ => rfl)) (pa_cons (pv 5) pa_nil)))
      (pss_one (ps_expr (pe_bm PySem.F.plainAttrs_list PySem.F.slot_list_append PySem.F.type_list_append mt_append (pe_ix ix_list (pv 3) (pv 5) (fun _ _ => rfl)) (pa_cons (pv 4) pa_nil))))))
      (pss_one (ps_ret (pv 3)))))), ?_⟩
    obtain ⟨g, a, xs, rfl, h2, h3, h4⟩ := hg
    have n40 := ok.n40
    have ein := ok.edges.inn
    have few := ok.few
    refine ⟨.ref g, rfl, g, _, rfl, st_of h2, rfl, .int (n : Int), _, rfl, .ref a, [], rfl, rfl, ?_⟩
    refine ⟨.int (n : Int), rfl, (n : Int), rfl, by omega, by omega, fun D hD => ?_⟩
    have eD := Ex.new (o := .lst []) hD
    refine lc_range (lo := 0) (n := ((n : Int)).toNat) (fun i Hh => Ex H Hh ∧ ∃ as : List Addr, Hh D = some (.lst (as.map V.ref)) ∧ RwV (upd H D (.lst [])) Hh as i (fun _ => [])) ⟨eD, [], upd_same, rfl, (fun a h => nomatch h), (fun i a h => by simp at h), List.nodup_nil⟩ ?_ ?_
    · rintro i Hh hi' ⟨x1, as, hrs, rg⟩
      have lt : i < n := by omega
      refine ⟨rfl, ?_⟩
      dsimp only [tYes]
      rw [if_pos rfl]
      refine ⟨Nat.zero_le _, fun b hb => ?_⟩
      have xb := Ex.new (o := .lst []) hb
      have nb : b ≠ D := fun e => by
        rw [e, hrs] at hb
        cases hb
      have hb0 : upd H D (.lst []) b = none := by
        rw [upd_ne nb]
        exact fresh_back x1 hb
      have al : ∀ {j : Nat} {c : Addr}, as[j]? = some c → c ≠ b := fun h => ne_of_none (rg.at' _ _ h) hb
      refine ⟨as.map V.ref, xb _ _ hrs, sz_lt (by rw [List.length_map, rg.len]; omega), (x1.trans xb).mut hD, as ++ [b], ?_, ?_⟩
      · rw [upd_same, List.map_append]
        rfl
      · refine RwV.off (u := .lst []) ⟨by rw [List.length_append, rg.len]; rfl, fun c hc => ?_, fun j c hc => ?_, ?_⟩ upd_same
        · rcases List.mem_append.mp hc with hc | hc
          · exact rg.new c hc
          · rw [List.mem_singleton.mp hc]
            exact hb0
        · by_cases hj : j < as.length
          · rw [List.getElem?_append_left hj] at hc
            exact xb _ _ (rg.at' j c hc)
          · rw [List.getElem?_append_right (by omega)] at hc
            have : c = b := by
              have := List.mem_of_getElem? hc
              exact List.mem_singleton.mp this
            rw [this]
            exact upd_same
        · refine List.nodup_append.mpr ⟨rg.nd, List.pairwise_singleton _ _, fun c hc d hd => ?_⟩
          rw [List.mem_singleton.mp hd]
          obtain ⟨j, hj⟩ := List.mem_iff_getElem?.mp hc
          exact al hj
    · rintro Hh ⟨x1, as, hrs, rg⟩
      rw [Int.toNat_natCast] at rg
      dsimp only [gName]
      have asH : ∀ c ∈ as, H c = none := fun c hc => fresh_back eD (rg.new c hc)
      refine q_forL (xs := xs) (ev_var rfl) (sq_of (x1 _ _ h3)) (fun i σ' H' => Ex H H' ∧ ∃ (y4 y5 y6 : Option V), σ' = [some (.ref g), some (.int (n : Int)), some (.ref a), some (.ref D), y4, y5, y6] ∧ H' D = some (.lst (as.map V.ref)) ∧ RwV (upd H D (.lst [])) H' as n (adj (es.take i)))
        (fun H4 e4 => ⟨x1.trans e4, _, _, _, rfl, e4 _ _ hrs, rg.ex e4⟩) (fun i σ' H' _ h => sq_of (h.1 _ _ h3)) ?_ ?_
      · rintro i x σ' H4 hx ⟨e4, y4, y5, y6, rfl, hD4, rw4⟩
        obtain ⟨e, he, tp, rfl, htp⟩ := h4.get hx
        have ein := ein e (List.mem_of_getElem? he)
        have il : i < es.length := (List.getElem?_eq_some_iff.mp he).1
        have adl : ∀ j, (adj (es.take i) j).length ≤ 60 := fun j => by
          unfold adj
          have h1 := List.length_filterMap_le (other j) (es.take i)
          have h2 := List.length_take_le i es
          omega
        obtain ⟨c1, hc1⟩ : ∃ c, as[e.1]? = some c := ⟨_, List.getElem?_eq_getElem (by rw [rw4.len]; omega)⟩
        obtain ⟨c2, hc2⟩ : ∃ c, as[e.2]? = some c := ⟨_, List.getElem?_eq_getElem (by rw [rw4.len]; omega)⟩
        have at' : ∀ {j : Nat} {c : Addr}, as[j]? = some c → (as.map V.ref)[j]? = some (.ref c) := fun h => by
          rw [List.getElem?_map, h]
          rfl
        refine ⟨tp, _, rfl, st_of (e4 _ _ htp), rfl, _, _, rfl, _, [], rfl, rfl, ?_⟩
        have nD : ∀ {c : Addr}, c ∈ as → D ≠ c := fun hc z => by
          have := rg.new _ hc
          rw [← z, upd_same] at this
          cases this
        refine q_app (v := .int (e.2 : Int)) (rw4.at' _ _ hc1) (ev_op (ev_var rfl) (ev_var rfl) (rv_ixL (sq_of hD4) (atI_nat (at' hc1)))) (ev_var rfl) (by rw [List.length_map]; have := adl e.1; omega) fun H5 e5 => ?_
        have m1 := List.mem_of_getElem? hc1
        have m2 := List.mem_of_getElem? hc2
        have e1 : nats (adj (es.take i) e.1) ++ [V.int (e.2 : Int)] = nats (adj (es.take i) e.1 ++ [e.2]) := by
          unfold nats
          rw [List.map_append]
          rfl
        rw [e1]
        have rw5 := (rw4.ex e5).put (l := adj (es.take i) e.1 ++ [e.2]) hc1
        have hD5 : upd H5 c1 (.lst (nats (adj (es.take i) e.1 ++ [e.2]))) D = some (.lst (as.map V.ref)) := by
          rw [upd_ne (nD m1)]
          exact e5 _ _ hD4
        have f2 := rw5.at' _ _ hc2
        rw [if_neg (show ¬ e.2 = e.1 by omega)] at f2
        refine s_app (v := .int (e.1 : Int)) f2 (ev_op (ev_var rfl) (ev_var rfl) (rv_ixL (sq_of hD5) (atI_nat (at' hc2)))) (ev_var rfl) (by rw [List.length_map]; have := adl e.2; omega) fun H6 e6 => ?_
        have e2 : nats (adj (es.take i) e.2) ++ [V.int (e.1 : Int)] = nats (adj (es.take i) e.2 ++ [e.1]) := by
          unfold nats
          rw [List.map_append]
          rfl
        rw [e2]
        have rw6 := (rw5.ex e6).put (l := adj (es.take i) e.2 ++ [e.1]) hc2
        refine ⟨((((e4.trans e5).mut (asH _ m1)).trans e6).mut (asH _ m2)), _, _, _, rfl, ?_, rw6.like fun j => ?_⟩
        · rw [upd_ne (nD m2)]
          exact e6 _ _ hD5
        · rw [adj_snoc he ein.1]
          by_cases j2 : j = e.2
          · rw [if_pos j2, if_pos j2, if_neg (show ¬ e.2 = e.1 by omega)]
          · rw [if_neg j2, if_neg j2]
            by_cases j1 : j = e.1
            · rw [if_pos j1, if_pos j1, j1]
            · rw [if_neg j1, if_neg j1]
      · rintro σ' H4 ⟨e4, y4, y5, y6, rfl, hD4, rw4⟩
        rw [h4.length, List.take_length] at rw4
        exact s_ret (v := .ref D) (ev_var rfl) fun H5 e5 => q H5 D as (e4.trans e5) hD (e5 _ _ hD4) ((rw4.ex e5).weak eD)
end
end K10
/-! min of a list of pairs, remove of a pair -/
namespace Os
open PySem PySem.Spec PyProof.Rows L2 Evl

theorem prs_lay : ∀ es : List Pr, PyData.canLayAll0 (es.map Os.prD) = true
  | [] => by simp [PyData.canLayAll0]
  | e :: es => by simp [PyData.canLayAll0, PyData.canLay0, Os.prD, prs_lay es]
theorem pr_lay (e : Pr) : (Os.prD e).canLay0 = true := by simp [Os.prD, PyData.canLay0, PyData.canLayAll0]
theorem pr_depth (e : Pr) : (Os.prD e).depth = 1 := by simp [Os.prD, PyData.depth, PyData.depthAll]
theorem prs_depth : ∀ es : List Pr, PyData.depthAll (es.map Os.prD) ≤ 1
  | [] => by simp [PyData.depthAll]
  | e :: es => by
    have h1 := prs_depth es
    have h2 := pr_depth e
    simp only [List.map_cons, PyData.depthAll]
    omega
theorem lt_pr (e f : Pr) : PySem.W.dataLt (Os.prD e) (Os.prD f) = ltP e f := by
  show PyProof.Rows.lexLt itemOrd [.inl 1, .inl (e.1 : Int), .inl 1, .inl (e.2 : Int), .inl 0] [.inl 1, .inl (f.1 : Int), .inl 1, .inl (f.2 : Int), .inl 0] = ltP e f
  have hb : ∀ a b : Nat, itemOrd.blt (.inl (a : Int)) (.inl (b : Int)) = decide (a < b) := fun a b => decide_eq_decide.mpr (show (a : Int) < (b : Int) ↔ a < b by omega)
  have hn : ∀ {a b : Nat}, a ≠ b → (Sum.inl (a : Int) : Int ⊕ List Nat) ≠ .inl (b : Int) := fun h z => h (by have := Sum.inl.inj z; omega)
  rw [lex_self]
  unfold ltP
  by_cases h1 : e.1 = f.1
  · rw [h1, lex_self, lex_self, decide_eq_false (Nat.lt_irrefl _), decide_eq_true rfl, Bool.false_or, Bool.true_and]
    by_cases h2 : e.2 = f.2
    · rw [h2, lex_irrefl, decide_eq_false (Nat.lt_irrefl _)]
    · rw [lex_diff (O := itemOrd) (hn h2)]
      exact hb _ _
  · rw [lex_diff (O := itemOrd) (hn h1), decide_eq_false h1, Bool.false_and, Bool.or_false]
    exact hb _ _
/-- the least of e and es, the first of equal ones -/
def minP (e : Pr) (es : List Pr) : Pr := es.foldl (fun a y => if ltP y a = true then y else a) e
theorem minD_pr : ∀ (es : List Pr) (e : Pr), PySem.W.minD (Os.prD e) (es.map Os.prD) = Os.prD (minP e es)
  | [], _ => rfl
  | y :: es, e => by
    show PySem.W.minD (if PySem.W.dataLt (Os.prD y) (Os.prD e) = true then Os.prD y else Os.prD e) (es.map Os.prD) = Os.prD (minP (if ltP y e = true then y else e) es)
    rw [lt_pr]
    by_cases h : ltP y e = true
    · rw [if_pos h, if_pos h]
      exact minD_pr es y
    · rw [if_neg h, if_neg h]
      exact minD_pr es e
theorem minP_least : ∀ (es : List Pr) (e : Pr), ∀ f ∈ e :: es, ltP f (minP e es) = false
  | [], e, f, hf => by
    rw [List.mem_singleton.mp hf]
    show ltP e e = false
    rw [← Bool.not_eq_true, ltP_iff]
    omega
  | y :: es, e, f, hf => by
    show ltP f (minP (if ltP y e = true then y else e) es) = false
    by_cases h : ltP y e = true
    · rw [if_pos h]
      have ih := minP_least es y
      have iy := ih y List.mem_cons_self
      rcases List.mem_cons.mp hf with rfl | hf
      · rw [ltP_iff] at h
        rw [← Bool.not_eq_true, ltP_iff] at iy ⊢
        omega
      · exact ih f hf
    · rw [if_neg h]
      have ih := minP_least es e
      have ie := ih e List.mem_cons_self
      rcases List.mem_cons.mp hf with rfl | hf
      · exact ie
      · rcases List.mem_cons.mp hf with rfl | hf
        · rw [ltP_iff] at h
          rw [← Bool.not_eq_true, ltP_iff] at ie ⊢
          omega
        · exact ih f (List.mem_cons_of_mem _ hf)
theorem prD_inj {e f : Pr} (h : Os.prD e = Os.prD f) : e = f := by
  unfold Os.prD at h
  injection h with h
  injection h with h1 h
  injection h with h2 _
  injection h1 with h1
  injection h2 with h2
  exact Prod.ext (by omega) (by omega)
theorem alike_pr (e f : Pr) : PySem.W.alike (Os.prD e) (Os.prD f) = true := by simp [Os.prD, PySem.W.alike, PySem.W.alikeAll]
section
variable {X : Cx}
def rMinP (K : PySem.W.Frag) : List V → Hp → VK → Prop := fun vs H Q => ∃ (a : Addr) (xs : List V) (es : List Pr), vs = [V.ref a] ∧ H a = some (.lst xs) ∧ PrsV H xs es ∧ es ≠ [] ∧
  ∀ (i : Nat) (v : V) (e : Pr), xs[i]? = some v → es[i]? = some e → (∀ f ∈ es, ltP f e = false) → Q v H
theorem cr_minP (hc : X.calm = true) (hu : X.A.units + 64 < cLine) : CallR X (.builtin "min") (rMinP X.K) := by
  intro pins s σ H vs us Q I r h
  obtain ⟨a, xs, es, rfl, ha, hp, ne, q⟩ := h
  obtain ⟨its, rv, hl, _⟩ := I.list (sq_of ha)
  rw [Vals.ref1 r]
  cases es with
  | nil => exact absurd rfl ne
  | cons e es =>
    obtain ⟨as, rd⟩ := Dp.readsAll I ((e :: es).map Os.prD) xs its hp.dts.dp rv
    refine PySem.W.min_list_data (x := Os.prD e) (xs := es.map Os.prD) (I.ok.hd hc) hl.isList rd ⟨fun x hx y hy => ?_, fun x hx => ?_⟩ (by have : PyData.depthAll (Os.prD e :: es.map Os.prD) ≤ 1 := prs_depth (e :: es); omega) fun i v h' tk bs hv rdm hk => ?_
    · have hx' : x ∈ (e :: es).map Os.prD := hx
      have hy' : y ∈ (e :: es).map Os.prD := hy
      obtain ⟨x1, _, rfl⟩ := List.mem_map.mp hx'
      obtain ⟨y1, _, rfl⟩ := List.mem_map.mp hy'
      exact alike_pr x1 y1
    · have hx' : x ∈ (e :: es).map Os.prD := hx
      obtain ⟨x1, _, rfl⟩ := List.mem_map.mp hx'
      exact fun z => nomatch z
    · have hv' : its[i]? = some v := by simpa using hv
      have il : i < xs.length := by
        rw [rv.length]
        exact (List.getElem?_eq_some_iff.mp hv').1
      have hx : xs[i]? = some xs[i] := List.getElem?_eq_getElem il
      generalize xs[i] = x at hx
      obtain ⟨u, hu1, ru⟩ := rv.get hx
      rw [hv'] at hu1
      cases hu1
      obtain ⟨e', he', pe⟩ := hp.get hx
      obtain ⟨bs', rd'⟩ := Dp.reads I (Os.prD e') x v pe.dt.dp ru
      have r1 := SeqAt.readOf_eq (pr_lay e') (PySem.W.reads_keeps hk rd')
      rw [minD_pr] at rdm
      have r2 := SeqAt.readOf_eq (pr_lay _) rdm
      have ee : e' = minP e es := prD_inj (r1.symm.trans r2)
      subst ee
      exact ⟨x, H, I.kept hk, ru, q i x _ hx he' (minP_least es e)⟩
/-- l.remove(x) of a list of pairs -/
def rRemP : V → List V → Hp → VK → Prop := fun x vs H Q => ∃ (l : Addr) (xs : List V) (es : List Pr) (v : V) (e : Pr) (j : Nat), x = .ref l ∧ vs = [v] ∧ H l = some (.lst xs) ∧ PrsV H xs es ∧ PrV H v e ∧ es[j]? = some e ∧ (∀ m, m < j → es[m]? ≠ some e) ∧
  Q .non (upd H l (.lst (xs.eraseIdx j)))
theorem eqv_prs (e f : Pr) : PyData.eqv (Os.prD e) (Os.prD f) = decide (e = f) := by
  have h : PyData.eqv (Os.prD e) (Os.prD f) = ((e.1 : Int) == (f.1 : Int) && ((e.2 : Int) == (f.2 : Int) && true)) := by
    simp [Os.prD, PyData.eqv, PyData.eqvAll]
  rw [h, Bool.and_true]
  by_cases h1 : e.1 = f.1
  · by_cases h2 : e.2 = f.2
    · rw [decide_eq_true (Prod.ext h1 h2), h1, h2, beq_self_eq_true, beq_self_eq_true]
      rfl
    · rw [decide_eq_false (fun z => h2 (congrArg Prod.snd z)), show ((e.2 : Int) == (f.2 : Int)) = false from beq_eq_false_iff_ne.mpr (by omega), Bool.and_false]
  · rw [decide_eq_false (fun z => h1 (congrArg Prod.fst z)), show ((e.1 : Int) == (f.1 : Int)) = false from beq_eq_false_iff_ne.mpr (by omega), Bool.false_and]
theorem mt_remP (hu : X.A.units + 64 < cLine) : MtR X "list.remove" rRemP := by
  intro pins s σ H x xs v us Q I rx rxs h
  obtain ⟨l, zs, es, y, e, j, rfl, rfl, hH, hp, hy, hj, hno, q⟩ := h
  cases rx
  obtain ⟨u, rfl, ru⟩ := rxs.one
  obtain ⟨z, its, n, r, hl, e0⟩ := I.lstM hH
  obtain ⟨bs, r1⟩ := Dp.reads I (Os.prD e) y u hy.dt.dp ru
  obtain ⟨as, h4⟩ := Dp.readsAll I (es.map Os.prD) zs its hp.dts.dp r
  have hxs := prs_lay es
  have hle := hp.length
  have hmap : its.map (SeqAt.readOf s.heap) = es.map Os.prD := SeqAt.readsAll_map (es.map Os.prD) its as hxs h4
  have jl : j < es.length := (List.getElem?_eq_some_iff.mp hj).1
  have hjs : j < its.toArray.size := by rw [List.size_toArray]; omega
  have at_ : ∀ (m : Nat) (hm : m < its.toArray.size) (f : Pr), es[m]? = some f → SeqAt.readOf s.heap its.toArray[m] = Os.prD f := by
    intro m hm f hf
    have hml : m < its.length := by simpa using hm
    have e1 : (its.map (SeqAt.readOf s.heap))[m]? = (es.map Os.prD)[m]? := by rw [hmap]
    rw [List.getElem?_map, List.getElem?_map, List.getElem?_eq_getElem hml, hf] at e1
    have e2 := Option.some.inj e1
    simpa using e2
  have dp := prs_depth es
  have de := pr_depth e
  refine call_meets PySem.F.slot_list_remove ⟨_, e0, rfl⟩ PySem.F.entry_list_remove (PySem.F.args_list_remove_2 _ _)
    (SeqAt.list_removeAt l its.toArray n none #[] u (fun w => PyData.eqv (SeqAt.readOf s.heap w) (Os.prD e)) j hjs ?_ ?_ (by rw [List.size_toArray, ← hl]; exact z)) ⟨e0, SeqAt.items_eqAt (vs := its.toArray) (show ReadsAll s.heap its.toArray.toList (es.map Os.prD) as from h4) r1 hxs (pr_lay e) (by omega), ?_⟩
  · show PyData.eqv (SeqAt.readOf s.heap its.toArray[j]) (Os.prD e) = true
    rw [at_ j hjs e hj, eqv_prs, decide_eq_true rfl]
  · intro m hm hmj
    have hf : es[m]? = some es[m] := List.getElem?_eq_getElem (by omega)
    show PyData.eqv (SeqAt.readOf s.heap its.toArray[m]) (Os.prD e) = false
    rw [at_ m hm _ hf, eqv_prs]
    refine decide_eq_false fun w => hno m hmj ?_
    rw [hf, w]
  · refine ⟨.non, _, I.lset (its' := its.eraseIdx j) hH e0 ?_ (r.eraseIdx j) ?_, rfl, q⟩
    · show its.toArray.eraseIdxIfInBounds j = (its.eraseIdx j).toArray
      rw [List.eraseIdxIfInBounds_toArray]
    · have := len_erase zs j
      omega
/-- list(x), x a text -/
def signsV (z : Str) : List V := z.cps.toList.map fun c => V.str ⟨#[c]⟩
def rListStr : List V → Hp → VK → Prop := fun vs H Q => ∃ z : Str, vs = [V.str z] ∧ z.length ≤ sizeLine ∧ ∀ l, H l = none → Q (.ref l) (upd H l (.lst (signsV z)))
theorem vals_at : ∀ {xs : List V} {us : List Value}, xs.length = us.length → (∀ (i : Nat) (x : V) (u : Value), xs[i]? = some x → us[i]? = some u → RelV x u) → Vals xs us
  | [], [], _, _ => .nil
  | x :: xs, u :: us, hl, h => .cons (h 0 x u rfl rfl) (vals_at (by simpa using hl) fun i y v h1 h2 => h (i + 1) y v (by simpa using h1) (by simpa using h2))
  | [], _ :: _, hl, _ => by simp at hl
  | _ :: _, [], hl, _ => by simp at hl
theorem call_listS (hc : X.calm = true) : CallR X (.type "list") rListStr := by
  intro pins s σ H vs us Q I r h
  obtain ⟨z, rfl, hz, q⟩ := h
  obtain ⟨u, rfl, t, rfl⟩ := vals1 r
  refine call_list_str (I.ok.hd hc) z t (fun h' tk acc' c' hk hS hacc => ?_) (hn := hz)
  have hsz : acc'.size = z.cps.size := hacc.1
  have hl : (signsV z).length = acc'.toList.length := by
    unfold signsV
    rw [List.length_map, Array.length_toList, Array.length_toList, hsz]
  refine ⟨.ref s.heap.objs.size, upd H s.heap.objs.size (.lst (signsV z)), I.laid (t' := tk) hk (Nat.le_refl _) ⟨?_, acc'.toList, c', vals_at hl fun i x v h1 h2 => ?_, by simpa using hS⟩, rfl, q _ (I.hok.fresh (Nat.le_refl _))⟩
  · unfold signsV
    rw [List.length_map, Array.length_toList]
    exact hz
  · obtain ⟨c, tk', hc', rfl⟩ := hacc.2 i v (by simpa using h2)
    unfold signsV at h1
    rw [List.getElem?_map, Array.getElem?_toList, hc'] at h1
    cases h1
    exact ⟨_, rfl⟩
end
end Os
/-! one more edge: a cycle exactly where its ends are joined already -/
namespace Os
open PySem PySem.Spec PyProof.Rows L2 Evl
def Resp (S : Nat → Bool) (es : List Pr) : Prop := ∀ f ∈ es, S f.1 = S f.2
def Conn (es : List Pr) (x y : Nat) : Prop := ∀ S : Nat → Bool, Resp S es → S x = S y
theorem bridges_add {es : List Pr} {e : Pr} {S : Nat → Bool} (h : Bridges es) (r : Resp S es) (s : S e.1 ≠ S e.2) : Bridges (es ++ [e]) := fun f hf => by
  rcases List.mem_append.mp hf with hf | hf
  · obtain ⟨T, t1, t2⟩ := h f hf
    by_cases q : T e.1 = T e.2
    · exact ⟨T, t1, fun g hg ne => by
        rcases List.mem_append.mp hg with hg | hg
        · exact t2 g hg ne
        · rw [List.mem_singleton.mp hg]
          exact q⟩
    · refine ⟨fun x => T x != S x, fun z => t1 ?_, fun g hg ne => ?_⟩
      · have rf := r f hf
        revert z
        show (T f.1 != S f.1) = (T f.2 != S f.2) → _
        rw [rf]
        cases T f.1 <;> cases T f.2 <;> cases S f.2 <;> simp
      · show (T g.1 != S g.1) = (T g.2 != S g.2)
        rcases List.mem_append.mp hg with hg | hg
        · rw [t2 g hg ne, r g hg]
        · rw [List.mem_singleton.mp hg]
          revert q s
          cases T e.1 <;> cases T e.2 <;> cases S e.1 <;> cases S e.2 <;> simp
  · rw [List.mem_singleton.mp hf]
    exact ⟨S, s, fun g hg ne => by
      rcases List.mem_append.mp hg with hg | hg
      · exact r g hg
      · exact absurd (List.mem_singleton.mp hg) ne⟩
theorem cyc_bridges : ∀ {r done : List Pr} {t : List Nat}, Bridges done → (∀ f ∈ done ++ r, f.1 < t.length ∧ f.2 < t.length) → (∀ f ∈ done, t.getD f.1 0 = t.getD f.2 0) → cycB r t = false → Bridges (done ++ r)
  | [], done, _, h, _, _, _ => by rw [List.append_nil]; exact h
  | e :: r, done, t, h, hb, hl, c => by
    unfold cycB at c
    split at c
    · cases c
    · rename_i ne
      obtain ⟨b1, b2⟩ := hb e (by simp)
      have h2 : Bridges (done ++ [e]) := bridges_add (S := fun x => decide (t.getD x 0 = t.getD e.1 0)) h (fun f hf => by
        show decide _ = decide _
        rw [hl f hf]) (by
        show decide _ ≠ decide _
        rw [decide_eq_true rfl, decide_eq_false (fun z => ne z.symm)]
        decide)
      have := cyc_bridges (r := r) (done := done ++ [e]) (t := merge t e) h2 (fun f hf => by
        rw [merge_length]
        exact hb f (by simpa using hf)) (fun f hf => ?_) c
      · rw [List.append_assoc] at this
        exact this
      · rcases List.mem_append.mp hf with hf | hf
        · obtain ⟨f1, f2⟩ := hb f (by simp [hf])
          unfold merge
          rw [getD_map f1, getD_map f2, hl f hf]
        · rw [List.mem_singleton.mp hf]
          unfold merge
          rw [getD_map b1, getD_map b2, if_neg ne, if_pos rfl]
/-- edges that a graph of n places may have, each once -/
structure Simple (n : Nat) (es : List Pr) : Prop where
  inn : ∀ e ∈ es, e.1 < e.2 ∧ e.2 < n
  asc : es.Pairwise fun e f => ltP e f = true
theorem Simple.nodup {n : Nat} {es : List Pr} (h : Simple n es) : es.Nodup := h.asc.imp fun {a b} q e => by
  rw [e, ltP_irr] at q
  cases q
theorem Simple.cyc {n : Nat} {es : List Pr} (h : Simple n es) : cycB es (List.range n) = false ↔ Bridges es := by
  constructor
  · intro c
    have := cyc_bridges (r := es) (done := []) (t := List.range n) (fun e he => nomatch he) (fun f hf => by
      have := h.inn f hf
      rw [List.length_range]
      omega) (fun f hf => nomatch hf) c
    exact this
  · intro b
    exact Edges.no_cyc ⟨h.inn, h.asc, b⟩
theorem Edges.simple {n : Nat} {es : List Pr} (h : Edges n es) : Simple n es := ⟨h.inn, h.asc⟩
theorem Simple.edges {n : Nat} {es : List Pr} (h : Simple n es) (b : Bridges es) : Edges n es := ⟨h.inn, h.asc, b⟩
theorem Simple.filter {n : Nat} {es : List Pr} (h : Simple n es) (p : Pr → Bool) : Simple n (es.filter p) := ⟨fun e he => h.inn e (List.mem_filter.mp he).1, h.asc.filter p⟩
theorem Bridges.filter {es : List Pr} (h : Bridges es) (p : Pr → Bool) : Bridges (es.filter p) := fun e he => by
  obtain ⟨S, h1, h2⟩ := h e (List.mem_filter.mp he).1
  exact ⟨S, h1, fun f hf => h2 f (List.mem_filter.mp hf).1⟩
/-- what can be reached from a place -/
structure Reach (es : List Pr) (x : Nat) (R : List Nat) : Prop where
  start : x ∈ R
  closed : ∀ f ∈ es, f.1 ∈ R ↔ f.2 ∈ R
  conn : ∀ v ∈ R, Conn es x v
theorem add_one {n : Nat} {es fs : List Pr} {e : Pr} {R : List Nat} (b : Bridges es) (nm : e ∉ es) (s : Simple n fs) (pm : fs.Perm (es ++ [e])) (rc : Reach es e.1 R) : (!cycB fs (List.range n)) = !decide (e.2 ∈ R) := by
  by_cases h : e.2 ∈ R
  · rw [decide_eq_true h]
    cases c : cycB fs (List.range n) with
    | true => rfl
    | false =>
      have bf := (s.cyc.mp c).perm pm.symm
      obtain ⟨S, h1, h2⟩ := bf e (by simp)
      exact absurd (rc.conn _ h S fun f hf => h2 f (by simp [hf]) fun z => nm (z ▸ hf)) h1
  · rw [decide_eq_false h]
    have : Bridges fs := (bridges_add (S := fun x => decide (x ∈ R)) b (fun f hf => decide_eq_decide.mpr (rc.closed f hf)) (by
      show decide _ ≠ decide _
      rw [decide_eq_true rc.start, decide_eq_false h]
      decide)).perm pm
    rw [s.cyc.mpr this]
end Os
/-! where an order takes the items: rings, and their neighbours in the order of the swaps -/
namespace Os
open PySem PySem.Spec PyProof.Rows L2 Evl
/-! ### joined places -/
theorem Conn.refl (es : List Pr) (x : Nat) : Conn es x x := fun _ _ => rfl
theorem Conn.symm {es : List Pr} {x y : Nat} (h : Conn es x y) : Conn es y x := fun S hS => (h S hS).symm
theorem Conn.trans {es : List Pr} {x y z : Nat} (h : Conn es x y) (k : Conn es y z) : Conn es x z := fun S hS => (h S hS).trans (k S hS)
theorem Conn.edge {es : List Pr} {e : Pr} (h : e ∈ es) : Conn es e.1 e.2 := fun S hS => hS e h
theorem Conn.more {es : List Pr} {e : Pr} {x y : Nat} (h : Conn es x y) : Conn (es ++ [e]) x y := fun S hS => h S fun f hf => hS f (List.mem_append_left _ hf)
theorem conn_add {es : List Pr} {e : Pr} {p x : Nat} : Conn (es ++ [e]) p x ↔ Conn es p x ∨ (Conn es p e.1 ∧ Conn es e.2 x) ∨ (Conn es p e.2 ∧ Conn es e.1 x) := by
  constructor
  · intro h
    classical
    let T : Nat → Prop := fun y => Conn es p y ∨ (Conn es p e.1 ∧ Conn es e.2 y) ∨ (Conn es p e.2 ∧ Conn es e.1 y)
    have inv : ∀ {y z : Nat}, Conn es y z → T y → T z := fun c t => by
      rcases t with t | ⟨t, u⟩ | ⟨t, u⟩
      · exact .inl (t.trans c)
      · exact .inr (.inl ⟨t, u.trans c⟩)
      · exact .inr (.inr ⟨t, u.trans c⟩)
    have ab : T e.1 ↔ T e.2 := by
      constructor
      · rintro (t | ⟨t, u⟩ | ⟨t, u⟩)
        · exact .inr (.inl ⟨t, .refl _ _⟩)
        · exact .inr (.inl ⟨t, .refl _ _⟩)
        · exact .inl t
      · rintro (t | ⟨t, u⟩ | ⟨t, u⟩)
        · exact .inr (.inr ⟨t, .refl _ _⟩)
        · exact .inl t
        · exact .inr (.inr ⟨t, .refl _ _⟩)
    have := h (fun y => decide (T y)) fun f hf => by
      rcases List.mem_append.mp hf with hf | hf
      · exact decide_eq_decide.mpr ⟨inv (.edge hf), inv (Conn.edge hf).symm⟩
      · rw [List.mem_singleton.mp hf]
        exact decide_eq_decide.mpr ab
    have tp : decide (T p) = true := decide_eq_true (.inl (.refl _ _))
    have tx : decide (T x) = true := this.symm.trans tp
    exact of_decide_eq_true tx
  · have ce : Conn (es ++ [e]) e.1 e.2 := .edge (by simp)
    rintro (h | ⟨h, k⟩ | ⟨h, k⟩)
    · exact h.more
    · exact (h.more.trans ce).trans k.more
    · exact (h.more.trans ce.symm).trans k.more
theorem conn_none {p x : Nat} : Conn [] p x ↔ x = p := by
  constructor
  · intro h
    have := h (fun y => decide (y = p)) fun f hf => nomatch hf
    have tp : decide (p = p) = true := decide_eq_true rfl
    exact of_decide_eq_true (this.symm.trans tp)
  · rintro rfl
    exact .refl _ _
/-! ### where the item of a place ends -/
def sw (e : Pr) (x : Nat) : Nat := if x = e.1 then e.2 else if x = e.2 then e.1 else x
def mvs (os : List Pr) (p : Nat) : Nat := os.foldl (fun x e => sw e x) p
theorem mvs_snoc (os : List Pr) (e : Pr) (p : Nat) : mvs (os ++ [e]) p = sw e (mvs os p) := by
  unfold mvs
  rw [List.foldl_append]
  rfl
theorem sw_ne {e : Pr} {x : Nat} (h1 : x ≠ e.1) (h2 : x ≠ e.2) : sw e x = x := by
  unfold sw
  rw [if_neg h1, if_neg h2]
theorem sw_one (e : Pr) : sw e e.1 = e.2 := if_pos rfl
theorem sw_two (e : Pr) : sw e e.2 = e.1 := by
  unfold sw
  by_cases h : e.2 = e.1
  · rw [if_pos h, h]
  · rw [if_neg h, if_pos rfl]
/-- f leads from x through l to y -/
def Ch (f : Nat → Nat) : Nat → List Nat → Nat → Prop
  | x, [], y => f x = y
  | x, a :: l, y => f x = a ∧ Ch f a l y
theorem Ch.app {f : Nat → Nat} : ∀ {l m : List Nat} {x a y : Nat}, Ch f x (l ++ a :: m) y ↔ Ch f x l a ∧ Ch f a m y
  | [], _, _, _, _ => Iff.rfl
  | b :: l, m, x, a, y => by
    show f x = b ∧ Ch f b (l ++ a :: m) y ↔ (f x = b ∧ Ch f b l a) ∧ Ch f a m y
    rw [Ch.app (l := l)]
    exact ⟨fun ⟨h, k, j⟩ => ⟨⟨h, k⟩, j⟩, fun ⟨⟨h, k⟩, j⟩ => ⟨h, k, j⟩⟩
theorem Ch.turn {f : Nat → Nat} {l m : List Nat} {x a : Nat} (h : Ch f x (l ++ a :: m) x) : Ch f a (m ++ x :: l) a := by
  obtain ⟨h1, h2⟩ := Ch.app.mp h
  exact Ch.app.mpr ⟨h2, h1⟩
theorem Ch.sw {os : List Pr} {e : Pr} : ∀ {l : List Nat} {x y : Nat}, Ch (mvs os) x l y → e.1 ∉ l → e.2 ∉ l → Ch (mvs (os ++ [e])) x l (Os.sw e y)
  | [], x, y, h, _, _ => by
    show mvs (os ++ [e]) x = _
    rw [mvs_snoc, show mvs os x = y from h]
  | a :: l, x, y, ⟨h1, h2⟩, n1, n2 => by
    refine ⟨?_, Ch.sw h2 (fun z => n1 (List.mem_cons_of_mem _ z)) fun z => n2 (List.mem_cons_of_mem _ z)⟩
    rw [mvs_snoc, h1, sw_ne (fun z => n1 (z ▸ List.mem_cons_self)) fun z => n2 (z ▸ List.mem_cons_self)]
/-! ### rings -/
/-- the turn of a place: its neighbours in the order of the swaps -/
def turnOf (p : Nat) (os : List Pr) : List Nat := os.filterMap fun e => if e.1 = p then some e.2 else if e.2 = p then some e.1 else none
theorem turn_conn {os : List Pr} {p x : Nat} (h : x ∈ turnOf p os) : Conn os p x := by
  obtain ⟨e, he, h⟩ := List.mem_filterMap.mp h
  split at h
  · rename_i h1
    cases h
    rw [← h1]
    exact .edge he
  · split at h
    · rename_i h1
      cases h
      rw [← h1]
      exact (Conn.edge he).symm
    · cases h
theorem turn_snoc (os : List Pr) (e : Pr) (p : Nat) : turnOf p (os ++ [e]) = turnOf p os ++ (if e.1 = p then [e.2] else if e.2 = p then [e.1] else []) := by
  unfold turnOf
  rw [List.filterMap_append]
  congr 1
  by_cases h1 : e.1 = p
  · simp [h1]
  · by_cases h2 : e.2 = p
    · simp [h1, h2]
    · simp [h1, h2]
/-- l is the ring of p, read behind p -/
structure RingAt (os : List Pr) (p : Nat) (l : List Nat) : Prop where
  runs : Ch (mvs os) p l p
  nd : (p :: l).Nodup
  all : ∀ x, x ∈ p :: l ↔ Conn os p x
  turn : (l.filter fun x => decide (x ∈ turnOf p os)) = turnOf p os
theorem ring_none (p : Nat) : RingAt [] p [] := ⟨rfl, List.pairwise_singleton _ _, fun x => by rw [conn_none]; simp, rfl⟩
theorem filter_none {l : List Nat} {q : Nat → Bool} (h : ∀ x ∈ l, q x = false) : l.filter q = [] := List.filter_eq_nil_iff.mpr fun x hx => by rw [h x hx]; decide
theorem filter_like {l : List Nat} {q r : Nat → Bool} (h : ∀ x ∈ l, q x = r x) : l.filter q = l.filter r := List.filter_congr h
/-- every place has its ring under every order of edges that join ever new trees -/
theorem rings_at : ∀ {os : List Pr}, (∀ pre e post, os = pre ++ e :: post → e.1 ≠ e.2 ∧ ¬ Conn pre e.1 e.2) → ∀ p, ∃ l, RingAt os p l := by
  intro os
  generalize hn : os.length = n
  induction n generalizing os with
  | zero =>
    intro _ p
    rw [List.length_eq_zero_iff.mp hn]
    exact ⟨[], ring_none p⟩
  | succ n ih =>
    intro h p
    have ne : os ≠ [] := fun z => by rw [z] at hn; cases hn
    obtain ⟨pre, e, rfl⟩ : ∃ pre e, os = pre ++ [e] := ⟨os.dropLast, os.getLast ne, (List.dropLast_concat_getLast ne).symm⟩
    obtain ⟨ab, nc⟩ := h pre e [] rfl
    have ih := ih (os := pre) (by rw [List.length_append] at hn; simpa using hn) fun p1 f p2 q => h p1 f (p2 ++ [e]) (by rw [q, List.append_assoc]; rfl)
    -- both ends, in either order
    have both : ∀ a b, (a = e.1 ∧ b = e.2 ∨ a = e.2 ∧ b = e.1) → ∀ p, Conn pre p a → ∃ l, RingAt (pre ++ [e]) p l := by
      intro a b hab p pa
      have nab : ¬ Conn pre a b := by
        rcases hab with ⟨rfl, rfl⟩ | ⟨rfl, rfl⟩
        · exact nc
        · exact fun z => nc z.symm
      have swa : sw e a = b := by
        rcases hab with ⟨rfl, rfl⟩ | ⟨rfl, rfl⟩
        · exact sw_one e
        · exact sw_two e
      have swb : sw e b = a := by
        rcases hab with ⟨rfl, rfl⟩ | ⟨rfl, rfl⟩
        · exact sw_two e
        · exact sw_one e
      have cadd : ∀ {x : Nat}, Conn (pre ++ [e]) p x ↔ Conn pre p x ∨ Conn pre b x := fun {x} => by
        rw [conn_add]
        rcases hab with ⟨rfl, rfl⟩ | ⟨rfl, rfl⟩
        · constructor
          · rintro (z | ⟨_, z⟩ | ⟨z, _⟩)
            · exact .inl z
            · exact .inr z
            · exact absurd (pa.symm.trans z) nc
          · rintro (z | z)
            · exact .inl z
            · exact .inr (.inl ⟨pa, z⟩)
        · constructor
          · rintro (z | ⟨z, _⟩ | ⟨_, z⟩)
            · exact .inl z
            · exact absurd (z.symm.trans pa) nc
            · exact .inr z
          · rintro (z | z)
            · exact .inl z
            · exact .inr (.inr ⟨pa, z⟩)
      have tsn : ∀ q, turnOf q (pre ++ [e]) = turnOf q pre ++ (if q = a then [b] else if q = b then [a] else []) := fun q => by
        rw [turn_snoc]
        congr 1
        rcases hab with ⟨rfl, rfl⟩ | ⟨rfl, rfl⟩
        · simp only [eq_comm (a := q)]
        · simp only [eq_comm (a := q)]
          by_cases h1 : e.1 = q
          · have h2 : ¬ e.2 = q := fun z => ab (h1.trans z.symm)
            rw [if_pos h1, if_neg h2, if_pos h1]
          · rw [if_neg h1]
            by_cases h2 : e.2 = q
            · rw [if_pos h2, if_pos h2]
            · rw [if_neg h2, if_neg h2, if_neg h1]
      obtain ⟨v, rv⟩ := ih b
      have vb : ∀ x ∈ b :: v, Conn pre b x := fun x hx => (rv.all x).mp hx
      have apart : ∀ {x : Nat}, Conn pre b x → ¬ Conn pre a x := fun hb ha => nab (ha.trans hb.symm)
      have ea : ∀ {l : List Nat}, a ∉ l → b ∉ l → e.1 ∉ l ∧ e.2 ∉ l := fun n1 n2 => by
        rcases hab with ⟨rfl, rfl⟩ | ⟨rfl, rfl⟩
        · exact ⟨n1, n2⟩
        · exact ⟨n2, n1⟩
      have av : a ∉ v := fun z => apart (vb a (List.mem_cons_of_mem _ z)) (.refl _ _)
      have bv : b ∉ v := fun z => (List.nodup_cons.mp rv.nd).1 z
      have chv : Ch (mvs (pre ++ [e])) b v a := by
        have := rv.runs.sw (ea av bv).1 (ea av bv).2
        rwa [swb] at this
      by_cases pe : p = a
      · subst pe
        obtain ⟨u, ru⟩ := ih p
        have ub : ∀ x ∈ p :: u, Conn pre p x := fun x hx => (ru.all x).mp hx
        have au : p ∉ u := (List.nodup_cons.mp ru.nd).1
        have bu : b ∉ u := fun z => nab (ub b (List.mem_cons_of_mem _ z))
        have chu : Ch (mvs (pre ++ [e])) p u b := by
          have := ru.runs.sw (ea au bu).1 (ea au bu).2
          rwa [swa] at this
        refine ⟨u ++ b :: v, Ch.app.mpr ⟨chu, chv⟩, ?_, fun x => ?_, ?_⟩
        · rw [← List.cons_append]
          exact List.nodup_append.mpr ⟨ru.nd, rv.nd, fun x hx y hy z => apart (vb y hy) (z ▸ ub x hx)⟩
        · rw [cadd, ← ru.all, ← rv.all, ← List.cons_append, List.mem_append]
        · rw [tsn, if_pos rfl, List.filter_append, List.filter_cons]
          rw [if_pos (by simp)]
          rw [filter_none (l := v) fun x hx => by
            refine decide_eq_false fun z => ?_
            rcases List.mem_append.mp z with z | z
            · exact apart (vb x (List.mem_cons_of_mem _ hx)) (turn_conn z)
            · rw [List.mem_singleton.mp z] at hx
              exact bv hx]
          have : u.filter (fun x => decide (x ∈ turnOf p pre ++ [b])) = turnOf p pre := (filter_like (r := fun x => decide (x ∈ turnOf p pre)) fun x hx => decide_eq_decide.mpr ⟨fun z => by
            rcases List.mem_append.mp z with z | z
            · exact z
            · rw [List.mem_singleton.mp z] at hx
              exact absurd hx bu, fun z => List.mem_append_left _ z⟩).trans ru.turn
          rw [this]
      · obtain ⟨l, rl⟩ := ih p
        have lb : ∀ x ∈ p :: l, Conn pre p x := fun x hx => (rl.all x).mp hx
        have al : a ∈ l := by
          rcases List.mem_cons.mp ((rl.all a).mpr pa) with z | z
          · exact absurd z.symm pe
          · exact z
        obtain ⟨l1, l2, rfl⟩ := List.append_of_mem al
        have pb : p ≠ b := fun z => nab (pa.symm.trans (z ▸ .refl _ _))
        have bl : b ∉ p :: (l1 ++ a :: l2) := fun z => apart (.refl _ _) (pa.symm.trans (lb b z))
        have nd0 := rl.nd
        have pm1 : (p :: (l1 ++ a :: l2)).Perm (a :: (l2 ++ p :: l1)) := by
          have h1 : (p :: l1 ++ a :: l2).Perm (a :: l2 ++ p :: l1) := List.perm_append_comm
          exact h1
        have nd1 : (a :: (l2 ++ p :: l1)).Nodup := pm1.nodup_iff.mp nd0
        have au : a ∉ l2 ++ p :: l1 := (List.nodup_cons.mp nd1).1
        have bu : b ∉ l2 ++ p :: l1 := fun z => bl (pm1.mem_iff.mpr (List.mem_cons_of_mem _ z))
        have chu : Ch (mvs (pre ++ [e])) a (l2 ++ p :: l1) b := by
          have := rl.runs.turn.sw (ea au bu).1 (ea au bu).2
          rwa [swa] at this
        have pm2 : (p :: ((l1 ++ b :: v) ++ a :: l2)).Perm ((p :: (l1 ++ a :: l2)) ++ b :: v) := by
          refine List.Perm.cons p ?_
          show ((l1 ++ b :: v) ++ a :: l2).Perm ((l1 ++ a :: l2) ++ (b :: v))
          rw [List.append_assoc, List.append_assoc]
          exact List.Perm.append_left l1 List.perm_append_comm
        have whole : Ch (mvs (pre ++ [e])) a (l2 ++ p :: (l1 ++ b :: v)) a := by
          have := Ch.app.mpr ⟨chu, chv⟩
          rwa [List.append_assoc, List.cons_append] at this
        refine ⟨(l1 ++ b :: v) ++ a :: l2, whole.turn, ?_, fun x => ?_, ?_⟩
        · refine pm2.nodup_iff.mpr (List.nodup_append.mpr ⟨nd0, rv.nd, fun x hx y hy z => apart (vb y hy) (z ▸ pa.symm.trans (lb x hx))⟩)
        · rw [pm2.mem_iff, List.mem_append, rl.all, rv.all, cadd]
        · have hn : (b :: v).filter (fun x => decide (x ∈ turnOf p pre)) = [] := filter_none fun x hx => decide_eq_false fun z => apart (vb x hx) (pa.symm.trans (turn_conn z))
          rw [tsn, if_neg pe, if_neg pb, List.append_nil, List.filter_append, List.filter_append, hn, List.append_nil, ← List.filter_append]
          exact rl.turn
    by_cases p1 : Conn pre p e.1
    · exact both e.1 e.2 (.inl ⟨rfl, rfl⟩) p p1
    · by_cases p2 : Conn pre p e.2
      · exact both e.2 e.1 (.inr ⟨rfl, rfl⟩) p p2
      · obtain ⟨l, rl⟩ := ih p
        have n1 : e.1 ∉ p :: l := fun z => p1 ((rl.all _).mp z)
        have n2 : e.2 ∉ p :: l := fun z => p2 ((rl.all _).mp z)
        refine ⟨l, ?_, rl.nd, fun x => ?_, ?_⟩
        · have := rl.runs.sw (fun z => n1 (List.mem_cons_of_mem _ z)) (fun z => n2 (List.mem_cons_of_mem _ z))
          rwa [sw_ne (fun z => n1 (z ▸ List.mem_cons_self)) (fun z => n2 (z ▸ List.mem_cons_self))] at this
        · rw [rl.all, conn_add]
          exact ⟨.inl, fun z => z.elim id fun z => z.elim (fun z => absurd z.1 p1) fun z => absurd z.1 p2⟩
        · have t : turnOf p (pre ++ [e]) = turnOf p pre := by
            rw [turn_snoc, if_neg (show ¬ e.1 = p from fun z => n1 (by rw [z]; exact List.mem_cons_self)), if_neg (show ¬ e.2 = p from fun z => n2 (by rw [z]; exact List.mem_cons_self)), List.append_nil]
          rw [t]
          exact rl.turn
end Os
/-! an order's rings, as the program and the law read them -/
namespace Os
open PySem PySem.Spec PyProof.Rows L2 Evl
/-- an order of a forest's edges joins ever new trees -/
theorem order_ok {n : Nat} {es os : List Pr} (E : Edges n es) (pm : os.Perm es) : ∀ pre e post, os = pre ++ e :: post → e.1 ≠ e.2 ∧ ¬ Conn pre e.1 e.2 := by
  intro pre e post h
  have me : e ∈ es := pm.mem_iff.mp (by rw [h]; simp)
  have nd : os.Nodup := pm.nodup_iff.mpr E.nodup
  have := E.inn e me
  refine ⟨by omega, fun c => ?_⟩
  obtain ⟨S, s1, s2⟩ := E.br e me
  refine s1 (c S fun f hf => s2 f (pm.mem_iff.mp (by rw [h]; simp [hf])) fun z => ?_)
  rw [h] at nd
  exact (List.nodup_append.mp nd).2.2 f hf e List.mem_cons_self z
theorem order_rings {n : Nat} {es os : List Pr} (E : Edges n es) (pm : os.Perm es) (p : Nat) : ∃ l, RingAt os p l := rings_at (order_ok E pm) p
theorem conn_perm {es os : List Pr} (pm : os.Perm es) {x y : Nat} : Conn os x y ↔ Conn es x y := ⟨fun h S hS => h S fun f hf => hS f (pm.mem_iff.mp hf), fun h S hS => h S fun f hf => hS f (pm.mem_iff.mpr hf)⟩
/-! ### the items -/
theorem swp_at {zs : List Str} {e : Pr} {p : Nat} (h1 : e.1 < zs.length) (h2 : e.2 < zs.length) (ne : e.1 ≠ e.2) (hp : p < zs.length) : (swp zs e)[sw e p]? = zs[p]? := by
  unfold swp sw
  by_cases c1 : p = e.1
  · rw [if_pos c1, List.getElem?_set_self (by rw [List.length_set]; exact h2), List.getD_eq_getElem?_getD, c1, List.getElem?_eq_getElem h1]
    rfl
  · rw [if_neg c1]
    by_cases c2 : p = e.2
    · rw [if_pos c2, List.getElem?_set_ne (fun z => ne z.symm), List.getElem?_set_self h1, List.getD_eq_getElem?_getD, c2, List.getElem?_eq_getElem h2]
      rfl
    · rw [if_neg c2, List.getElem?_set_ne (fun z => c2 z.symm), List.getElem?_set_ne (fun z => c1 z.symm)]
theorem sw_lt {e : Pr} {n p : Nat} (h1 : e.1 < n) (h2 : e.2 < n) (hp : p < n) : sw e p < n := by
  unfold sw
  split
  · exact h2
  · split
    · exact h1
    · exact hp
theorem mvs_lt {n : Nat} : ∀ {os : List Pr} {p : Nat}, (∀ e ∈ os, e.1 < n ∧ e.2 < n) → p < n → mvs os p < n
  | [], _, _, h => h
  | e :: r, p, h, hp => by
    obtain ⟨a, b⟩ := h e List.mem_cons_self
    exact mvs_lt (os := r) (fun f hf => h f (List.mem_cons_of_mem _ hf)) (sw_lt a b hp)
theorem swps_at {n : Nat} : ∀ {os : List Pr} {zs : List Str} {p : Nat}, zs.length = n → (∀ e ∈ os, e.1 < e.2 ∧ e.2 < n) → p < n → (swps zs os)[mvs os p]? = zs[p]?
  | [], _, _, _, _, _ => rfl
  | e :: r, zs, p, hl, h, hp => by
    obtain ⟨a, b⟩ := h e List.mem_cons_self
    show (swps (swp zs e) r)[mvs r (sw e p)]? = _
    rw [swps_at (n := n) (by rw [swp_len, hl]) (fun f hf => h f (List.mem_cons_of_mem _ hf)) (sw_lt (by omega) b hp), swp_at (by omega) (by omega) (by omega) (by omega)]
theorem idx_nodup {us : List Str} {i : Nat} {z : Str} (nd : us.Nodup) (h : us[i]? = some z) : us.idxOf z = i := by
  obtain ⟨lt, e⟩ := List.getElem?_eq_some_iff.mp h
  have m : z ∈ us := List.mem_of_getElem? h
  have lt2 := List.idxOf_lt_length_iff.mpr m
  have e2 := List.getElem_idxOf lt2
  refine Decidable.byContradiction fun ne => ?_
  rcases Nat.lt_or_gt_of_ne ne with c | c
  · exact List.pairwise_iff_getElem.mp nd _ _ lt2 lt c (e2.trans e.symm)
  · exact List.pairwise_iff_getElem.mp nd _ _ lt lt2 c (e.trans e2.symm)
theorem went_at {n : Nat} {os : List Pr} {zs : List Str} {p : Nat} (hl : zs.length = n) (nd : zs.Nodup) (h : ∀ e ∈ os, e.1 < e.2 ∧ e.2 < n) (hp : p < n) : (went zs (swps zs os)).getD p 0 = mvs os p := by
  have pm : (swps zs os).Perm zs := swps_perm hl fun e he => by have := h e he; omega
  unfold went
  rw [List.getD_eq_getElem?_getD, List.getElem?_map, List.getElem?_eq_getElem (by omega)]
  show (swps zs os).idxOf zs[p] = _
  refine idx_nodup (pm.nodup_iff.mpr nd) ?_
  rw [swps_at hl h hp, List.getElem?_eq_getElem]
theorem went_ok {n : Nat} {os : List Pr} {zs : List Str} (hl : zs.length = n) (nd : zs.Nodup) (h : ∀ e ∈ os, e.1 < e.2 ∧ e.2 < n) : IsPerm (went zs (swps zs os)) n := went_perm (swps_perm hl fun e he => by have := h e he; omega) nd hl
/-! ### the rings as they are read -/
theorem ch_itr {f : List Nat} {g : Nat → Nat} {n : Nat} (p : IsPerm f n) (fg : ∀ x, x < n → f.getD x 0 = g x) {x : Nat} (hx : x < n) : ∀ {l : List Nat} {k y z : Nat}, itr f k x = y → Ch g y l z → (∀ i, i < l.length → l[i]? = some (itr f (k + 1 + i) x)) ∧ itr f (k + 1 + l.length) x = z
  | [], k, y, z, e, c => by
    refine ⟨fun i h => absurd h (Nat.not_lt_zero i), ?_⟩
    show f.getD (itr f k x) 0 = z
    rw [fg _ (itr_lt p k hx), e]
    exact c
  | a :: l, k, y, z, e, ⟨c1, c2⟩ => by
    have e2 : itr f (k + 1) x = a := by
      show f.getD (itr f k x) 0 = a
      rw [fg _ (itr_lt p k hx), e, c1]
    obtain ⟨h1, h2⟩ := ch_itr p fg hx e2 c2
    refine ⟨fun i h => ?_, ?_⟩
    · cases i with
      | zero => exact congrArg some e2.symm
      | succ i =>
        rw [List.getElem?_cons_succ, h1 i (by simpa using h), show k + 1 + 1 + i = k + 1 + (i + 1) by omega]
    · rw [List.length_cons, show k + 1 + (l.length + 1) = k + 1 + 1 + l.length by omega]
      exact h2
theorem ring_of {f : List Nat} {n : Nat} {os : List Pr} {x : Nat} {l : List Nat} (p : IsPerm f n) (fg : ∀ x, x < n → f.getD x 0 = mvs os x) (hx : x < n) (r : RingAt os x l) : ringOf f n x = x :: l := by
  obtain ⟨h1, h2⟩ := ch_itr p fg hx (k := 0) rfl r.runs
  obtain ⟨p1, p2, p3, p4⟩ := per_ok p hx
  have at' : ∀ i, i ≤ l.length → (x :: l)[i]? = some (itr f i x) := fun i hi => by
    cases i with
    | zero => rfl
    | succ i =>
      rw [List.getElem?_cons_succ, h1 i (by omega), show 0 + 1 + i = i + 1 by omega]
  have e : per f n x = l.length + 1 := by
    rcases Nat.lt_trichotomy (per f n x) (l.length + 1) with c | c | c
    · have a0 := at' 0 (Nat.zero_le _)
      have a1 := at' (per f n x) (by omega)
      rw [p3] at a1
      obtain ⟨l0, e0⟩ := List.getElem?_eq_some_iff.mp a0
      obtain ⟨l1, e1⟩ := List.getElem?_eq_some_iff.mp a1
      exact absurd (e0.trans e1.symm) (List.pairwise_iff_getElem.mp r.nd 0 _ l0 l1 (by omega))
    · exact c
    · exact absurd (by rw [show l.length + 1 = 0 + 1 + l.length by omega]; exact h2) (p4 (l.length + 1) (by omega) c)
  unfold ringOf way
  rw [e]
  refine List.ext_getElem? fun i => ?_
  by_cases hi : i ≤ l.length
  · rw [at' i hi, List.getElem?_map, List.getElem?_range (by omega)]
    rfl
  · rw [List.getElem?_eq_none (by rw [List.length_map, List.length_range]; omega), List.getElem?_eq_none (by rw [List.length_cons]; omega)]
end Os
/-! orders reversed, exchanged, and without the last edge -/
namespace Os
open PySem PySem.Spec PyProof.Rows L2 Evl
theorem sw_sw (e : Pr) (x : Nat) : sw e (sw e x) = x := by
  by_cases h1 : x = e.1
  · rw [h1, sw_one, sw_two]
  · by_cases h2 : x = e.2
    · rw [h2, sw_two, sw_one]
    · rw [sw_ne h1 h2, sw_ne h1 h2]
theorem mvs_app (os ps : List Pr) (p : Nat) : mvs (os ++ ps) p = mvs ps (mvs os p) := by
  unfold mvs
  rw [List.foldl_append]
/-- the reversed order takes the items back -/
theorem mvs_back : ∀ (os : List Pr) (p : Nat), mvs os.reverse (mvs os p) = p
  | [], _ => rfl
  | e :: r, p => by
    rw [List.reverse_cons, mvs_app]
    show sw e (mvs r.reverse (mvs r (sw e p))) = p
    rw [mvs_back r, sw_sw]
theorem mvs_back' (os : List Pr) (p : Nat) : mvs os (mvs os.reverse p) = p := by
  have := mvs_back os.reverse p
  rwa [List.reverse_reverse] at this
theorem swps_app (zs : List Str) (os ps : List Pr) : swps zs (os ++ ps) = swps (swps zs os) ps := by
  unfold swps
  rw [List.foldl_append]
theorem swps_len {zs : List Str} : ∀ {os : List Pr}, (swps zs os).length = zs.length := by
  intro os
  induction os generalizing zs with
  | nil => rfl
  | cons e r ih =>
    show (swps (swp zs e) r).length = _
    rw [ih, swp_len]
theorem swp_swp {zs : List Str} {e : Pr} (h1 : e.1 < zs.length) (h2 : e.2 < zs.length) (ne : e.1 ≠ e.2) : swp (swp zs e) e = zs := by
  refine List.ext_getElem? fun i => ?_
  by_cases hi : i < zs.length
  · have a := swp_at (zs := swp zs e) (e := e) (p := sw e i) (by rw [swp_len]; exact h1) (by rw [swp_len]; exact h2) ne (by rw [swp_len]; exact sw_lt h1 h2 hi)
    rw [sw_sw] at a
    rw [a, swp_at h1 h2 ne hi]
  · rw [List.getElem?_eq_none (by rw [swp_len, swp_len]; omega), List.getElem?_eq_none (by omega)]
/-- the reversed order gives the arrangement back -/
theorem swps_back {n : Nat} : ∀ {os : List Pr} {zs : List Str}, zs.length = n → (∀ e ∈ os, e.1 < e.2 ∧ e.2 < n) → swps (swps zs os) os.reverse = zs
  | [], _, _, _ => rfl
  | e :: r, zs, hl, h => by
    obtain ⟨a, b⟩ := h e List.mem_cons_self
    rw [List.reverse_cons, swps_app]
    show swp (swps (swps (swp zs e) r) r.reverse) e = zs
    rw [swps_back (n := n) (by rw [swp_len, hl]) fun f hf => h f (List.mem_cons_of_mem _ hf), swp_swp (by omega) (by omega) (by omega)]
/-- two swaps without a common place may be exchanged -/
theorem sw_comm {e f : Pr} (h1 : e.1 ≠ f.1) (h2 : e.1 ≠ f.2) (h3 : e.2 ≠ f.1) (h4 : e.2 ≠ f.2) (x : Nat) : sw e (sw f x) = sw f (sw e x) := by
  by_cases a1 : x = e.1
  · rw [a1, sw_one, sw_ne h1 h2, sw_one, sw_ne h3 h4]
  · by_cases a2 : x = e.2
    · rw [a2, sw_two, sw_ne h3 h4, sw_two, sw_ne h1 h2]
    · rw [sw_ne a1 a2]
      by_cases b1 : x = f.1
      · rw [b1, sw_one, sw_ne (fun z => h2 z.symm) (fun z => h4 z.symm)]
      · by_cases b2 : x = f.2
        · rw [b2, sw_two, sw_ne (fun z => h1 z.symm) (fun z => h3 z.symm)]
        · rw [sw_ne b1 b2, sw_ne a1 a2]
/-- two with exactly one common place never: the item there ends elsewhere -/
theorem sw_apart {e f : Pr} (ne : e.1 ≠ e.2) (nf : f.1 ≠ f.2) (d : ¬ ((e.1 = f.1 ∧ e.2 = f.2) ∨ (e.1 = f.2 ∧ e.2 = f.1))) (c : e.1 = f.1 ∨ e.1 = f.2 ∨ e.2 = f.1 ∨ e.2 = f.2) : ∃ x, (x = e.1 ∨ x = e.2) ∧ sw e (sw f x) ≠ sw f (sw e x) := by
  rcases c with c | c | c | c
  · refine ⟨e.1, .inl rfl, ?_⟩
    have h : e.2 ≠ f.2 := fun z => d (.inl ⟨c, z⟩)
    rw [sw_one, c, sw_one, sw_ne (fun z => nf (c ▸ z).symm) (fun z => h z.symm), sw_ne (fun z => ne (c.trans z.symm)) h]
    exact fun z => h z.symm
  · refine ⟨e.1, .inl rfl, ?_⟩
    have h : e.2 ≠ f.1 := fun z => d (.inr ⟨c, z⟩)
    rw [sw_one, c, sw_two, sw_ne (fun z => nf (by rw [z, c])) (fun z => h z.symm), sw_ne h (fun z => ne (c.trans z.symm))]
    exact fun z => h z.symm
  · refine ⟨e.2, .inr rfl, ?_⟩
    have h : e.1 ≠ f.2 := fun z => d (.inr ⟨z, c⟩)
    rw [sw_two, c, sw_one, sw_ne (fun z => h z.symm) (fun z => nf (by rw [z, c])), sw_ne (fun z => ne (z.trans c.symm)) h]
    exact fun z => h z.symm
  · refine ⟨e.2, .inr rfl, ?_⟩
    have h : e.1 ≠ f.1 := fun z => d (.inl ⟨z, c⟩)
    rw [sw_two, c, sw_two, sw_ne (fun z => h z.symm) (fun z => nf (by rw [z, c])), sw_ne h (fun z => ne (z.trans c.symm))]
    exact fun z => h z.symm
/-! ### a place has one ring -/
theorem Ch.one {f : Nat → Nat} : ∀ {l m : List Nat} {x y : Nat}, Ch f x l y → Ch f x m y → y ∉ l → y ∉ m → l = m
  | [], [], _, _, _, _, _, _ => rfl
  | [], b :: m, x, y, h, ⟨k, _⟩, _, n => absurd (by rw [← (show f x = y from h), k]; exact List.mem_cons_self) n
  | a :: l, [], x, y, ⟨h, _⟩, k, n, _ => absurd (by rw [← (show f x = y from k), h]; exact List.mem_cons_self) n
  | a :: l, b :: m, x, y, ⟨h1, h2⟩, ⟨k1, k2⟩, n1, n2 => by
    have e : a = b := h1.symm.trans k1
    subst e
    rw [Ch.one h2 k2 (fun z => n1 (List.mem_cons_of_mem _ z)) fun z => n2 (List.mem_cons_of_mem _ z)]
theorem RingAt.one {os : List Pr} {p : Nat} {l m : List Nat} (h : RingAt os p l) (k : RingAt os p m) : l = m :=
  Ch.one h.runs k.runs (List.nodup_cons.mp h.nd).1 (List.nodup_cons.mp k.nd).1
/-- the last edge joins two rings -/
theorem last_joins {pre : List Pr} {e : Pr} {u v w : List Nat} (nc : ¬ Conn pre e.1 e.2) (ru : RingAt pre e.1 u) (rv : RingAt pre e.2 v) (rw' : RingAt (pre ++ [e]) e.1 w) : w = u ++ e.2 :: v := by
  have au : e.1 ∉ u := (List.nodup_cons.mp ru.nd).1
  have bv : e.2 ∉ v := (List.nodup_cons.mp rv.nd).1
  have bu : e.2 ∉ u := fun z => nc ((ru.all _).mp (List.mem_cons_of_mem _ z))
  have av : e.1 ∉ v := fun z => nc ((rv.all _).mp (List.mem_cons_of_mem _ z)).symm
  have c1 := ru.runs.sw au bu
  have c2 := rv.runs.sw av bv
  rw [sw_one] at c1
  rw [sw_two] at c2
  exact Ch.one rw'.runs (Ch.app.mpr ⟨c1, c2⟩) (List.nodup_cons.mp rw'.nd).1 fun z => by
    rcases List.mem_append.mp z with z | z
    · exact au z
    · rcases List.mem_cons.mp z with z | z
      · exact nc (z ▸ .refl _ _)
      · exact av z
end Os
/-! no two edges of an order cross on its rings -/
namespace Os
open PySem PySem.Spec PyProof.Rows L2 Evl
/-- of two pairs of places the first begins, then the second, then the first ends, then the second -/
def Cr (i1 i2 j1 j2 : Nat) : Prop := min i1 i2 < min j1 j2 ∧ min j1 j2 < max i1 i2 ∧ max i1 i2 < max j1 j2
theorem cr_turn {k n i1 i2 j1 j2 : Nat} (h1 : i1 < k + n) (h2 : i2 < k + n) (h3 : j1 < k + n) (h4 : j2 < k + n) (a : ¬ Cr i1 i2 j1 j2) (b : ¬ Cr j1 j2 i1 i2) :
    ¬ Cr (if i1 < k then i1 + n else i1 - k) (if i2 < k then i2 + n else i2 - k) (if j1 < k then j1 + n else j1 - k) (if j2 < k then j2 + n else j2 - k) := by
  unfold Cr at *
  split <;> split <;> split <;> split <;> omega
/-- no two edges that lie on m cross there -/
def NoCr (m : List Nat) (es : List Pr) : Prop := ∀ e ∈ es, ∀ f ∈ es, e.1 ∈ m → e.2 ∈ m → f.1 ∈ m → f.2 ∈ m → ¬ Cr (m.idxOf e.1) (m.idxOf e.2) (m.idxOf f.1) (m.idxOf f.2)
theorem idx_turn {U V : List Nat} {x : Nat} (nd : (U ++ V).Nodup) (h : x ∈ U ++ V) : (V ++ U).idxOf x = if (U ++ V).idxOf x < U.length then (U ++ V).idxOf x + V.length else (U ++ V).idxOf x - U.length := by
  rw [List.idxOf_append, List.idxOf_append]
  by_cases hu : x ∈ U
  · have hv : x ∉ V := fun z => (List.nodup_append.mp nd).2.2 x hu x z rfl
    rw [if_pos hu, if_neg hv, if_pos (List.idxOf_lt_length_iff.mpr hu)]
  · have hv : x ∈ V := (List.mem_append.mp h).resolve_left hu
    rw [if_neg hu, if_pos hv, if_neg (by omega)]
    omega
theorem NoCr.turn {U V : List Nat} {es : List Pr} (nd : (U ++ V).Nodup) (h : NoCr (U ++ V) es) : NoCr (V ++ U) es := fun e he f hf m1 m2 m3 m4 => by
  have sw' : ∀ {x : Nat}, x ∈ V ++ U → x ∈ U ++ V := fun z => (List.mem_append.mp z).elim (fun z => List.mem_append_right _ z) fun z => List.mem_append_left _ z
  have lt : ∀ {x : Nat}, x ∈ U ++ V → (U ++ V).idxOf x < U.length + V.length := fun z => by
    have := List.idxOf_lt_length_iff.mpr z
    rwa [List.length_append] at this
  rw [idx_turn nd (sw' m1), idx_turn nd (sw' m2), idx_turn nd (sw' m3), idx_turn nd (sw' m4)]
  exact cr_turn (lt (sw' m1)) (lt (sw' m2)) (lt (sw' m3)) (lt (sw' m4)) (h e he f hf (sw' m1) (sw' m2) (sw' m3) (sw' m4)) (h f hf e he (sw' m3) (sw' m4) (sw' m1) (sw' m2))
theorem no_cross : ∀ {os : List Pr}, (∀ pre e post, os = pre ++ e :: post → e.1 ≠ e.2 ∧ ¬ Conn pre e.1 e.2) → ∀ {p : Nat} {l : List Nat}, RingAt os p l → NoCr (p :: l) os := by
  intro os
  generalize hn : os.length = n
  induction n generalizing os with
  | zero =>
    intro _ p l _ e he
    rw [List.length_eq_zero_iff.mp hn] at he
    cases he
  | succ n ih =>
    intro h p l r
    have ne : os ≠ [] := fun z => by rw [z] at hn; cases hn
    obtain ⟨pre, e, rfl⟩ : ∃ pre e, os = pre ++ [e] := ⟨os.dropLast, os.getLast ne, (List.dropLast_concat_getLast ne).symm⟩
    obtain ⟨ab, nc⟩ := h pre e [] rfl
    have hpre : ∀ p1 f p2, pre = p1 ++ f :: p2 → f.1 ≠ f.2 ∧ ¬ Conn p1 f.1 f.2 := fun p1 f p2 q => h p1 f (p2 ++ [e]) (by rw [q, List.append_assoc]; rfl)
    have ih : ∀ {p : Nat} {l : List Nat}, RingAt pre p l → NoCr (p :: l) pre := ih (os := pre) (by rw [List.length_append] at hn; simpa using hn) hpre
    by_cases c : Conn (pre ++ [e]) p e.1
    · -- the joined ring
      obtain ⟨u, ru⟩ := rings_at hpre e.1
      obtain ⟨v, rv⟩ := rings_at hpre e.2
      obtain ⟨w, rw'⟩ := rings_at h e.1
      have ew := last_joins nc ru rv rw'
      subst ew
      have sep : ∀ {x : Nat}, x ∈ e.1 :: u → x ∉ e.2 :: v := fun hx hy => nc (((ru.all _).mp hx).trans ((rv.all _).mp hy).symm)
      have same : ∀ f ∈ pre, f.1 ∈ (e.1 :: u) ++ (e.2 :: v) → (f.1 ∈ e.1 :: u ∧ f.2 ∈ e.1 :: u) ∨ (f.1 ∈ e.2 :: v ∧ f.2 ∈ e.2 :: v) := fun f hf m => by
        rcases List.mem_append.mp m with m | m
        · exact .inl ⟨m, (ru.all _).mpr (((ru.all _).mp m).trans (.edge hf))⟩
        · exact .inr ⟨m, (rv.all _).mpr (((rv.all _).mp m).trans (.edge hf))⟩
      have i1 : ∀ {x : Nat}, x ∈ e.1 :: u → ((e.1 :: u) ++ (e.2 :: v)).idxOf x = (e.1 :: u).idxOf x ∧ (e.1 :: u).idxOf x < u.length + 1 := fun hx => ⟨by rw [List.idxOf_append, if_pos hx], List.idxOf_lt_length_iff.mpr hx⟩
      have i2 : ∀ {x : Nat}, x ∈ e.2 :: v → ((e.1 :: u) ++ (e.2 :: v)).idxOf x = (e.2 :: v).idxOf x + (u.length + 1) := fun hx => by
        rw [List.idxOf_append, if_neg fun z => sep z hx]
        rfl
      have ia : ((e.1 :: u) ++ (e.2 :: v)).idxOf e.1 = 0 := by
        rw [(i1 List.mem_cons_self).1, List.idxOf_cons_self]
      have ib : ((e.1 :: u) ++ (e.2 :: v)).idxOf e.2 = u.length + 1 := by
        rw [i2 List.mem_cons_self, List.idxOf_cons_self, Nat.zero_add]
      have joined : NoCr ((e.1 :: u) ++ (e.2 :: v)) (pre ++ [e]) := fun f hf g hg m1 m2 m3 m4 => by
        rcases List.mem_append.mp hf with hf | hf
        · rcases List.mem_append.mp hg with hg | hg
          · rcases same f hf m1 with ⟨f1, f2⟩ | ⟨f1, f2⟩
            · rcases same g hg m3 with ⟨g1, g2⟩ | ⟨g1, g2⟩
              · rw [(i1 f1).1, (i1 f2).1, (i1 g1).1, (i1 g2).1]
                exact ih ru f hf g hg f1 f2 g1 g2
              · rw [(i1 f1).1, (i1 f2).1, i2 g1, i2 g2]
                have := (i1 f1).2
                have := (i1 f2).2
                unfold Cr
                omega
            · rcases same g hg m3 with ⟨g1, g2⟩ | ⟨g1, g2⟩
              · rw [i2 f1, i2 f2, (i1 g1).1, (i1 g2).1]
                have := (i1 g1).2
                have := (i1 g2).2
                unfold Cr
                omega
              · rw [i2 f1, i2 f2, i2 g1, i2 g2]
                have := ih rv f hf g hg f1 f2 g1 g2
                unfold Cr at *
                omega
          · have eg := List.mem_singleton.mp hg
            subst eg
            rw [ia, ib]
            unfold Cr
            omega
        · have ef := List.mem_singleton.mp hf
          subst ef
          rcases List.mem_append.mp hg with hg | hg
          · rw [ia, ib]
            rcases same g hg m3 with ⟨g1, g2⟩ | ⟨g1, g2⟩
            · rw [(i1 g1).1, (i1 g2).1]
              have := (i1 g1).2
              have := (i1 g2).2
              unfold Cr
              omega
            · rw [i2 g1, i2 g2]
              unfold Cr
              omega
          · have eg := List.mem_singleton.mp hg
            rw [eg]
            unfold Cr
            omega
      have m1 := (r.all e.1).mpr c
      by_cases pe : p = e.1
      · subst pe
        rw [r.one rw']
        exact joined
      · have al : e.1 ∈ l := (List.mem_cons.mp m1).resolve_left fun z => pe z.symm
        obtain ⟨l1, l2, rfl⟩ := List.append_of_mem al
        have nd2 : (e.1 :: l2 ++ p :: l1).Nodup := by
          have h1 : (p :: l1 ++ e.1 :: l2).Perm (e.1 :: l2 ++ p :: l1) := List.perm_append_comm
          exact h1.nodup_iff.mp r.nd
        have ew : u ++ e.2 :: v = l2 ++ p :: l1 := Ch.one rw'.runs r.runs.turn (List.nodup_cons.mp rw'.nd).1 (List.nodup_cons.mp nd2).1
        have j2 : NoCr (e.1 :: l2 ++ p :: l1) (pre ++ [e]) := by
          have : (e.1 :: u) ++ (e.2 :: v) = e.1 :: l2 ++ p :: l1 := by
            rw [List.cons_append, ew, List.cons_append]
          rw [← this]
          exact joined
        exact NoCr.turn nd2 j2
    · have c2 : ¬ Conn (pre ++ [e]) p e.2 := fun z => c (z.trans (Conn.edge (show e ∈ pre ++ [e] by simp)).symm)
      have n1 : e.1 ∉ p :: l := fun z => c ((r.all _).mp z)
      have n2 : e.2 ∉ p :: l := fun z => c2 ((r.all _).mp z)
      obtain ⟨l', r'⟩ := rings_at hpre p
      have d1 : ¬ Conn pre p e.1 := fun z => c z.more
      have d2 : ¬ Conn pre p e.2 := fun z => c2 z.more
      have k1 : e.1 ∉ p :: l' := fun z => d1 ((r'.all _).mp z)
      have k2 : e.2 ∉ p :: l' := fun z => d2 ((r'.all _).mp z)
      have ch : Ch (mvs (pre ++ [e])) p l' p := by
        have := r'.runs.sw (fun z => k1 (List.mem_cons_of_mem _ z)) (fun z => k2 (List.mem_cons_of_mem _ z))
        rwa [sw_ne (fun z => k1 (z ▸ List.mem_cons_self)) (fun z => k2 (z ▸ List.mem_cons_self))] at this
      have el : l = l' := Ch.one r.runs ch (List.nodup_cons.mp r.nd).1 (List.nodup_cons.mp r'.nd).1
      subst el
      intro f hf g hg m1 m2 m3 m4
      have inp : ∀ f ∈ pre ++ [e], f.1 ∈ p :: l → f ∈ pre := fun f hf m => by
        rcases List.mem_append.mp hf with hf | hf
        · exact hf
        · rw [List.mem_singleton.mp hf] at m
          exact absurd m n1
      exact ih r' f (inp f hf m1) g (inp g hg m3) m1 m2 m3 m4
end Os
/-! where an item ends, from the turns alone -/
namespace Os
open PySem PySem.Spec PyProof.Rows L2 Evl
/-- an item that came from y (or began) at x ends at z, if tn are the turns -/
inductive Goes (tn : Nat → List Nat) : Option Nat → Nat → Nat → Prop
  | stay {x : Nat} : tn x = [] → Goes tn none x x
  | stop {x y : Nat} {A : List Nat} : tn x = A ++ [y] → Goes tn (some y) x x
  | first {x b z : Nat} {B : List Nat} : tn x = b :: B → Goes tn (some x) b z → Goes tn none x z
  | next {x y b z : Nat} {A B : List Nat} : tn x = A ++ y :: b :: B → Goes tn (some x) b z → Goes tn (some y) x z
theorem Goes.snoc {os : List Pr} {e : Pr} (ab : e.1 ≠ e.2) {s : Option Nat} {x z : Nat} (h : Goes (fun p => turnOf p os) s x z) : Goes (fun p => turnOf p (os ++ [e])) s x (sw e z) := by
  have tA : turnOf e.1 (os ++ [e]) = turnOf e.1 os ++ [e.2] := by rw [turn_snoc, if_pos rfl]
  have tB : turnOf e.2 (os ++ [e]) = turnOf e.2 os ++ [e.1] := by rw [turn_snoc, if_neg ab, if_pos rfl]
  have tO : ∀ {x : Nat}, x ≠ e.1 → x ≠ e.2 → turnOf x (os ++ [e]) = turnOf x os := fun h1 h2 => by
    rw [turn_snoc, if_neg (fun z => h1 z.symm), if_neg (fun z => h2 z.symm), List.append_nil]
  have more : ∀ x, ∃ E, turnOf x (os ++ [e]) = turnOf x os ++ E := fun x => ⟨_, turn_snoc os e x⟩
  induction h with
  | @stay x h =>
    have h : turnOf x os = [] := h
    by_cases h1 : x = e.1
    · subst h1
      rw [sw_one]
      exact .first (B := []) (by show turnOf _ _ = _; rw [tA, h]; rfl) (.stop (A := turnOf e.2 os) tB)
    · by_cases h2 : x = e.2
      · subst h2
        rw [sw_two]
        exact .first (B := []) (by show turnOf _ _ = _; rw [tB, h]; rfl) (.stop (A := turnOf e.1 os) tA)
      · rw [sw_ne h1 h2]
        exact .stay (by show turnOf _ _ = _; rw [tO h1 h2, h])
  | @stop x y A h =>
    have h : turnOf x os = A ++ [y] := h
    by_cases h1 : x = e.1
    · subst h1
      rw [sw_one]
      exact .next (A := A) (B := []) (by show turnOf _ _ = _; rw [tA, h, List.append_assoc]; rfl) (.stop (A := turnOf e.2 os) tB)
    · by_cases h2 : x = e.2
      · subst h2
        rw [sw_two]
        exact .next (A := A) (B := []) (by show turnOf _ _ = _; rw [tB, h, List.append_assoc]; rfl) (.stop (A := turnOf e.1 os) tA)
      · rw [sw_ne h1 h2]
        exact .stop (A := A) (by show turnOf _ _ = _; rw [tO h1 h2, h])
  | @first x b z B h _ ih =>
    obtain ⟨E, hE⟩ := more x
    exact .first (B := B ++ E) (by show turnOf _ _ = _; rw [hE, show turnOf x os = b :: B from h]; rfl) ih
  | @next x y b z A B h _ ih =>
    obtain ⟨E, hE⟩ := more x
    exact .next (A := A) (B := B ++ E) (by show turnOf _ _ = _; rw [hE, show turnOf x os = A ++ y :: b :: B from h, List.append_assoc]; rfl) ih
/-- the item of a place ends where its way by the turns ends -/
theorem goes_mvs : ∀ {os : List Pr}, (∀ e ∈ os, e.1 ≠ e.2) → ∀ p, Goes (fun p => turnOf p os) none p (mvs os p) := by
  intro os
  generalize hn : os.length = n
  induction n generalizing os with
  | zero =>
    intro _ p
    rw [List.length_eq_zero_iff.mp hn]
    exact .stay rfl
  | succ n ih =>
    intro h p
    have ne : os ≠ [] := fun z => by rw [z] at hn; cases hn
    obtain ⟨pre, e, rfl⟩ : ∃ pre e, os = pre ++ [e] := ⟨os.dropLast, os.getLast ne, (List.dropLast_concat_getLast ne).symm⟩
    rw [mvs_snoc]
    exact (ih (os := pre) (by rw [List.length_append] at hn; simpa using hn) (fun f hf => h f (List.mem_append_left _ hf)) p).snoc (h e (by simp))
theorem split_one {α : Type} {A A' : List α} {y : α} {R R' : List α} (nd : (A ++ y :: R).Nodup) (h : A ++ y :: R = A' ++ y :: R') : R = R' := by
  induction A generalizing A' with
  | nil =>
    cases A' with
    | nil => exact (List.cons.inj h).2
    | cons a A' =>
      obtain ⟨e1, e2⟩ := List.cons.inj (show y :: R = a :: (A' ++ y :: R') from h)
      have nd' : (y :: R).Nodup := nd
      exact absurd (by rw [e2]; simp) (List.nodup_cons.mp nd').1
  | cons a A ih =>
    cases A' with
    | nil =>
      obtain ⟨e1, e2⟩ := List.cons.inj (show a :: (A ++ y :: R) = y :: R' from h)
      have nd' : (a :: (A ++ y :: R)).Nodup := nd
      exact absurd (by rw [e1]; simp) (List.nodup_cons.mp nd').1
    | cons a' A' =>
      have nd' : (a :: (A ++ y :: R)).Nodup := nd
      exact ih (List.nodup_cons.mp nd').2 (List.cons.inj (show a :: (A ++ y :: R) = a' :: (A' ++ y :: R') from h)).2
/-- the way is the only one -/
theorem Goes.one {tn : Nat → List Nat} (nd : ∀ x, (tn x).Nodup) {s : Option Nat} {x z w : Nat} (h : Goes tn s x z) (k : Goes tn s x w) : z = w := by
  induction h with
  | stay h =>
    cases k with
    | stay _ => rfl
    | first k _ => rw [h] at k; cases k
  | @stop x y A h =>
    cases k with
    | stop _ => rfl
    | @next _ _ b _ A' B k _ =>
      have n0 := nd x
      rw [h] at n0 k
      cases split_one n0 k
  | @first x b z B h _ ih =>
    cases k with
    | stay k => rw [k] at h; cases h
    | first k k2 =>
      rw [h] at k
      cases k
      exact ih k2
  | @next x y b z A B h _ ih =>
    have n0 := nd x
    rw [h] at n0
    cases k with
    | @stop _ _ A' k =>
      rw [h] at k
      cases split_one n0 k
    | @next _ _ b' _ A' B' k k2 =>
      rw [h] at k
      cases split_one n0 k
      exact ih k2
end Os
/-! an outcome belongs to its turns -/
namespace Os
open PySem PySem.Spec PyProof.Rows L2 Evl
theorem turn_perm {os es : List Pr} (pm : os.Perm es) (p : Nat) : (turnOf p os).Perm (turnOf p es) := pm.filterMap _
theorem turn_rev (os : List Pr) (p : Nat) : turnOf p os.reverse = (turnOf p os).reverse := by
  unfold turnOf
  rw [List.filterMap_reverse]
theorem RingAt.nodup {os : List Pr} {p : Nat} {l : List Nat} (r : RingAt os p l) : (turnOf p os).Nodup := by
  rw [← r.turn]
  exact (List.nodup_cons.mp r.nd).2.filter _
theorem turn_nodup {n : Nat} {es os : List Pr} (E : Edges n es) (pm : os.Perm es) (p : Nat) : (turnOf p os).Nodup := by
  obtain ⟨l, r⟩ := order_rings E pm p
  exact r.nodup
theorem order_ne {n : Nat} {es os : List Pr} (E : Edges n es) (pm : os.Perm es) : ∀ e ∈ os, e.1 ≠ e.2 := fun e he => by
  have := E.inn e (pm.mem_iff.mp he)
  omega
/-- two orders move the items alike exactly if they have the same turns -/
theorem same_turns {n : Nat} {es os os' : List Pr} (E : Edges n es) (pm : os.Perm es) (pm' : os'.Perm es) : (∀ p, mvs os p = mvs os' p) ↔ ∀ p, turnOf p os = turnOf p os' := by
  constructor
  · intro h p
    have hf : mvs os = mvs os' := funext h
    obtain ⟨l, r⟩ := order_rings E pm p
    obtain ⟨l', r'⟩ := order_rings E pm' p
    have c := r.runs
    rw [hf] at c
    have e : l = l' := Ch.one c r'.runs (List.nodup_cons.mp r.nd).1 (List.nodup_cons.mp r'.nd).1
    rw [← r.turn, ← r'.turn, e]
    exact filter_like fun x _ => decide_eq_decide.mpr ((turn_perm (pm.trans pm'.symm) p).mem_iff)
  · intro h p
    have g := goes_mvs (order_ne E pm) p
    have g' := goes_mvs (order_ne E pm') p
    rw [← (funext h : (fun p => turnOf p os) = fun p => turnOf p os')] at g'
    exact Goes.one (fun x => turn_nodup E pm x) g g'
/-- two orders give the same arrangement exactly if they move the items alike -/
theorem same_swps {n : Nat} {os os' : List Pr} {zs : List Str} (hl : zs.length = n) (nd : zs.Nodup) (h : ∀ e ∈ os, e.1 < e.2 ∧ e.2 < n) (h' : ∀ e ∈ os', e.1 < e.2 ∧ e.2 < n) : swps zs os = swps zs os' ↔ ∀ p, p < n → mvs os p = mvs os' p := by
  constructor
  · intro e p hp
    rw [← went_at hl nd h hp, ← went_at hl nd h' hp, e]
  · intro e
    refine List.ext_getElem? fun i => ?_
    by_cases hi : i < n
    · have b := mvs_back' os i
      have lt : mvs os.reverse i < n := mvs_lt (fun f hf => by have := h f (List.mem_reverse.mp hf); omega) hi
      have a1 := swps_at (os := os) hl h lt
      have a2 := swps_at (os := os') hl h' lt
      rw [b] at a1
      rw [← e _ lt, b] at a2
      rw [a1, a2]
    · rw [List.getElem?_eq_none (by rw [swps_len]; omega), List.getElem?_eq_none (by rw [swps_len]; omega)]
/-- places beyond the forest's stay -/
theorem mvs_out {n : Nat} : ∀ {os : List Pr} {p : Nat}, (∀ e ∈ os, e.1 < n ∧ e.2 < n) → n ≤ p → mvs os p = p
  | [], _, _, _ => rfl
  | e :: r, p, h, hp => by
    obtain ⟨a, b⟩ := h e List.mem_cons_self
    show mvs r (sw e p) = p
    rw [sw_ne (by omega) (by omega), mvs_out (os := r) (fun f hf => h f (List.mem_cons_of_mem _ hf)) hp]
/-- an order produces the arrangement of another one exactly if it has the same turns -/
theorem same_outcome {n : Nat} {es os os' : List Pr} {zs : List Str} (E : Edges n es) (pm : os.Perm es) (pm' : os'.Perm es) (hl : zs.length = n) (nd : zs.Nodup) : swps zs os = swps zs os' ↔ ∀ p, turnOf p os = turnOf p os' := by
  have h : ∀ e ∈ os, e.1 < e.2 ∧ e.2 < n := fun e he => E.inn e (pm.mem_iff.mp he)
  have h' : ∀ e ∈ os', e.1 < e.2 ∧ e.2 < n := fun e he => E.inn e (pm'.mem_iff.mp he)
  rw [same_swps hl nd h h', ← same_turns E pm pm']
  constructor
  · intro k p
    by_cases hp : p < n
    · exact k p hp
    · rw [mvs_out (n := n) (fun e he => by have := h e he; omega) (by omega), mvs_out (n := n) (fun e he => by have := h' e he; omega) (by omega)]
  · exact fun k p _ => k p
end Os
/-! every choice of turns belongs to an order -/
namespace Os
open PySem PySem.Spec PyProof.Rows L2 Evl
def Ends2 (e : Pr) (a b : Nat) : Prop := (e.1 = a ∧ e.2 = b) ∨ (e.1 = b ∧ e.2 = a)
theorem Ends2.symm {e : Pr} {a b : Nat} (h : Ends2 e a b) : Ends2 e b a := h.elim .inr .inl
theorem mem_turn {es : List Pr} {a b : Nat} : b ∈ turnOf a es → ∃ e ∈ es, Ends2 e a b := fun h => by
  obtain ⟨e, he, h⟩ := List.mem_filterMap.mp h
  split at h
  · rename_i h1
    cases h
    exact ⟨e, he, .inl ⟨h1, rfl⟩⟩
  · split at h
    · rename_i h1
      cases h
      exact ⟨e, he, .inr ⟨rfl, h1⟩⟩
    · cases h
theorem turn_mem {es : List Pr} {e : Pr} (he : e ∈ es) (ne : e.1 ≠ e.2) {a b : Nat} (h : Ends2 e a b) : b ∈ turnOf a es := by
  refine List.mem_filterMap.mpr ⟨e, he, ?_⟩
  rcases h with ⟨h1, h2⟩ | ⟨h1, h2⟩
  · rw [if_pos h1, h2]
  · rw [if_neg (fun z => ne (z.trans h2.symm)), if_pos h2, h1]
theorem ends_one {n : Nat} {es : List Pr} (E : Edges n es) {e f : Pr} (he : e ∈ es) (hf : f ∈ es) {a b : Nat} (h : Ends2 e a b) (k : Ends2 f a b) : e = f := by
  have := E.inn e he
  have := E.inn f hf
  rcases h with ⟨h1, h2⟩ | ⟨h1, h2⟩ <;> rcases k with ⟨k1, k2⟩ | ⟨k1, k2⟩
  · exact Prod.ext (h1.trans k1.symm) (h2.trans k2.symm)
  · omega
  · omega
  · exact Prod.ext (h1.trans k1.symm) (h2.trans k2.symm)
/-- an edge that is last at both its ends -/
theorem last_both {n : Nat} {es : List Pr} (E : Edges n es) {last : Nat → Nat} (hl : ∀ a b, b ∈ turnOf a es → last a ∈ turnOf a es) : ∀ (m a : Nat) (e : Pr) (S : Nat → Bool), e ∈ es → Ends2 e a (last a) → S (last a) = true → S a = false → (∀ f ∈ es, f ≠ e → S f.1 = S f.2) → ((List.range n).filter S).length ≤ m →
    ∃ f ∈ es, ∃ c, Ends2 f c (last c) ∧ last (last c) = c := by
  intro m
  induction m with
  | zero =>
    intro a e S he en sb sa _ hm
    have hb : last a < n := by
      have := E.inn e he
      rcases en with ⟨_, h⟩ | ⟨h, _⟩ <;> omega
    have : last a ∈ (List.range n).filter S := List.mem_filter.mpr ⟨List.mem_range.mpr hb, sb⟩
    have := List.length_pos_of_mem this
    omega
  | succ m ih =>
    intro a e S he en sb sa rs hm
    have ein := E.inn e he
    by_cases q : last (last a) = a
    · exact ⟨e, he, a, en, q⟩
    · have hba : a ∈ turnOf (last a) es := turn_mem he (by omega) en.symm
      obtain ⟨g, hg, gn⟩ := mem_turn (hl _ _ hba)
      have ge : g ≠ e := fun z => by
        subst z
        rcases en with ⟨h1, h2⟩ | ⟨h1, h2⟩ <;> rcases gn with ⟨k1, k2⟩ | ⟨k1, k2⟩
        · omega
        · exact q (k1.symm.trans h1)
        · exact q (k2.symm.trans h2)
        · omega
      obtain ⟨T, t1, t2⟩ := E.br g hg
      have tbc : T (last a) ≠ T (last (last a)) := fun z => t1 (by
        rcases gn with ⟨k1, k2⟩ | ⟨k1, k2⟩
        · rw [k1, k2, z]
        · rw [k1, k2, z])
      have sc : S (last (last a)) = true := by
        have := rs g hg ge
        rcases gn with ⟨k1, k2⟩ | ⟨k1, k2⟩
        · rw [k1, k2] at this
          rw [← this, sb]
        · rw [k1, k2] at this
          rw [this, sb]
      refine ih (last a) g (fun x => S x && (T x == T (last (last a)))) hg gn ?_ ?_ (fun f hf fg => ?_) ?_
      · show (S _ && (T _ == T _)) = true
        rw [sc, beq_self_eq_true]
        rfl
      · show (S _ && (T _ == T _)) = false
        rw [beq_eq_false_iff_ne.mpr tbc, Bool.and_false]
      · show (S _ && (T _ == T _)) = (S _ && (T _ == T _))
        by_cases fe : f = e
        · subst fe
          rcases en with ⟨h1, h2⟩ | ⟨h1, h2⟩
          · rw [h1, h2, sa, beq_eq_false_iff_ne.mpr tbc, Bool.false_and, Bool.and_false]
          · rw [h1, h2, sa, beq_eq_false_iff_ne.mpr tbc, Bool.false_and, Bool.and_false]
        · rw [rs f hf fe, t2 f hf fg]
      · have hb : last a < n := by
          rcases en with ⟨_, h⟩ | ⟨h, _⟩ <;> omega
        have e1 : (List.range n).filter (fun x => S x && (T x == T (last (last a)))) = ((List.range n).filter S).filter fun x => T x == T (last (last a)) := by
          rw [List.filter_filter]
          exact List.filter_congr fun x _ => Bool.and_comm _ _
        have lt : (((List.range n).filter S).filter fun x => T x == T (last (last a))).length < ((List.range n).filter S).length := by
          refine Nat.lt_of_le_of_ne (List.length_filter_le _ _) fun z => ?_
          have := List.length_filter_eq_length_iff.mp z (last a) (List.mem_filter.mpr ⟨List.mem_range.mpr hb, sb⟩)
          exact tbc (eq_of_beq this)
        rw [e1]
        omega
theorem Bridges.sub {es fs : List Pr} (h : Bridges es) (s : ∀ e ∈ fs, e ∈ es) : Bridges fs := fun e he => by
  obtain ⟨S, h1, h2⟩ := h e (s e he)
  exact ⟨S, h1, fun f hf => h2 f (s f hf)⟩
theorem Edges.erase {n : Nat} {es : List Pr} (E : Edges n es) (f : Pr) : Edges n (es.erase f) :=
  ⟨fun e he => E.inn e (List.mem_of_mem_erase he), E.asc.sublist List.erase_sublist, E.br.sub fun e he => List.mem_of_mem_erase he⟩
def lastOf (tn : Nat → List Nat) (a : Nat) : Nat := (tn a).getLast?.getD 0
theorem last_split {l : List Nat} (h : l ≠ []) : l = l.dropLast ++ [l.getLast?.getD 0] := by
  rw [List.getLast?_eq_some_getLast h]
  exact (List.dropLast_concat_getLast h).symm
/-- every choice of turns belongs to an order -/
theorem turns_order : ∀ {n : Nat} {es : List Pr}, Edges n es → ∀ tn : Nat → List Nat, (∀ p, (tn p).Perm (turnOf p es)) → ∃ os, os.Perm es ∧ ∀ p, turnOf p os = tn p := by
  intro n es
  generalize hk : es.length = k
  induction k generalizing es with
  | zero =>
    intro _ tn h
    have e0 := List.length_eq_zero_iff.mp hk
    subst e0
    exact ⟨[], List.Perm.refl _, fun p => (List.perm_nil.mp (h p)).symm⟩
  | succ k ih =>
    intro E tn h
    have hl : ∀ a b, b ∈ turnOf a es → lastOf tn a ∈ turnOf a es := fun a b hb => by
      have hb' := (h a).mem_iff.mpr hb
      have ne : tn a ≠ [] := fun z => by rw [z] at hb'; cases hb'
      refine (h a).mem_iff.mp ?_
      have := last_split ne
      rw [this]
      exact List.mem_append_right _ (List.mem_singleton.mpr rfl)
    obtain ⟨e0, r, e1⟩ : ∃ e r, es = e :: r := by
      cases es with
      | nil => cases hk
      | cons e r => exact ⟨e, r, rfl⟩
    have m0 : e0 ∈ es := by rw [e1]; exact List.mem_cons_self
    have i0 := E.inn e0 m0
    have t0 : e0.2 ∈ turnOf e0.1 es := turn_mem m0 (by omega) (.inl ⟨rfl, rfl⟩)
    obtain ⟨g, hg, gn⟩ := mem_turn (hl _ _ t0)
    have gi := E.inn g hg
    obtain ⟨S, s1, s2⟩ := E.br g hg
    have sab : S e0.1 ≠ S (lastOf tn e0.1) := fun z => s1 (by
      rcases gn with ⟨k1, k2⟩ | ⟨k1, k2⟩
      · rw [k1, k2, z]
      · rw [k1, k2, z])
    obtain ⟨f, hf, c, fn, fl⟩ : ∃ f ∈ es, ∃ c, Ends2 f c (lastOf tn c) ∧ lastOf tn (lastOf tn c) = c := by
      refine last_both E hl _ e0.1 g (fun x => S x == S (lastOf tn e0.1)) hg gn (beq_self_eq_true _) (beq_eq_false_iff_ne.mpr sab) (fun f hf ne => ?_) (Nat.le_refl _)
      show (S _ == S _) = (S _ == S _)
      rw [s2 f hf ne]
    have fi := E.inn f hf
    have pmf : es.Perm (es.erase f ++ [f]) := (List.perm_cons_erase hf).trans (List.perm_append_comm (l₁ := [f]))
    have cd : c ≠ lastOf tn c := fun z => by
      rcases fn with ⟨k1, k2⟩ | ⟨k1, k2⟩ <;> omega
    have tsn : ∀ (os : List Pr) (p : Nat), turnOf p (os ++ [f]) = turnOf p os ++ (if p = c then [lastOf tn c] else if p = lastOf tn c then [c] else []) := fun os p => by
      rw [turn_snoc]
      congr 1
      rcases fn with ⟨k1, k2⟩ | ⟨k1, k2⟩
      · rw [k1, k2]
        simp only [eq_comm (a := p)]
      · rw [k1, k2]
        simp only [eq_comm (a := p)]
        by_cases h1 : c = p
        · rw [if_neg (fun z => cd (h1.trans z.symm)), if_pos h1, if_pos h1]
        · rw [if_neg h1, if_neg h1]
    have nonempty : ∀ {a : Nat}, a = c ∨ a = lastOf tn c → tn a ≠ [] := fun ha z => by
      have hm : ∀ {x y : Nat}, Ends2 f x y → tn x ≠ [] := fun en z => by
        have := (h _).mem_iff.mpr (turn_mem hf (by omega) en)
        rw [z] at this
        cases this
      rcases ha with rfl | rfl
      · exact hm fn z
      · exact hm fn.symm z
    obtain ⟨os, po, ho⟩ := ih (es := es.erase f) (by rw [List.length_erase_of_mem hf]; omega) (E.erase f) (fun p => if p = c ∨ p = lastOf tn c then (tn p).dropLast else tn p) fun p => by
      have hp := (h p).trans (turn_perm pmf p)
      rw [tsn] at hp
      show (if p = c ∨ p = lastOf tn c then (tn p).dropLast else tn p).Perm _
      by_cases pc : p = c
      · rw [if_pos (.inl pc)]
        rw [if_pos pc, last_split (nonempty (.inl pc))] at hp
        have el : (tn p).getLast?.getD 0 = lastOf tn c := by rw [pc]; rfl
        rw [el] at hp
        exact (List.perm_append_right_iff _).mp hp
      · by_cases pd : p = lastOf tn c
        · rw [if_pos (.inr pd)]
          rw [if_neg pc, if_pos pd, last_split (nonempty (.inr pd))] at hp
          have el : (tn p).getLast?.getD 0 = c := by rw [pd]; exact fl
          rw [el] at hp
          exact (List.perm_append_right_iff _).mp hp
        · rw [if_neg (fun z => z.elim pc pd)]
          rw [if_neg pc, if_neg pd, List.append_nil] at hp
          exact hp
    refine ⟨os ++ [f], (po.append_right [f]).trans pmf.symm, fun p => ?_⟩
    rw [tsn, ho]
    by_cases pc : p = c
    · rw [if_pos (.inl pc), if_pos pc]
      have el : lastOf tn c = (tn p).getLast?.getD 0 := by rw [pc]; rfl
      rw [el]
      exact (last_split (nonempty (.inl pc))).symm
    · by_cases pd : p = lastOf tn c
      · rw [if_pos (.inr pd), if_neg pc, if_pos pd]
        have el : c = (tn p).getLast?.getD 0 := by rw [pd]; exact fl.symm
        conv => lhs; rw [el]
        exact (last_split (nonempty (.inr pd))).symm
      · rw [if_neg (fun z => z.elim pc pd), if_neg pc, if_neg pd, List.append_nil]
end Os
/-! an order taken edge by edge from its turns -/
namespace Os
/-- what is done, what waits, and what is left of the turns -/
structure Greedy (es : List Pr) (tn : Nat → List Nat) (done ws : List Pr) (r : Nat → List Nat) : Prop where
  pm : (done ++ ws).Perm es
  tn : ∀ p, turnOf p done ++ r p = tn p
  ex : ∃ os, os.Perm ws ∧ ∀ p, turnOf p os = r p
section
variable {n : Nat} {es done ws : List Pr} {tn r : Nat → List Nat}
theorem Greedy.start (E : Edges n es) (h : ∀ p, (tn p).Perm (turnOf p es)) : Greedy es tn [] es tn :=
  ⟨List.Perm.refl _, fun p => rfl, turns_order E tn h⟩
theorem Greedy.fin (g : Greedy es tn done [] r) : done.Perm es ∧ ∀ p, turnOf p done = tn p := by
  obtain ⟨os, h1, h2⟩ := g.ex
  have e : os = [] := h1.eq_nil
  subst e
  refine ⟨by simpa using g.pm, fun p => ?_⟩
  have := g.tn p
  rw [← h2 p] at this
  simpa [turnOf] using this
theorem Greedy.inn (g : Greedy es tn done ws r) {e : Pr} (h : e ∈ ws) : e ∈ es := g.pm.mem_iff.mp (List.mem_append_right _ h)
theorem Greedy.some (E : Edges n es) (g : Greedy es tn done ws r) (ne : ws ≠ []) : ∃ e ∈ ws, (r e.1).head? = some e.2 ∧ (r e.2).head? = some e.1 := by
  obtain ⟨os, h1, h2⟩ := g.ex
  cases os with
  | nil => exact absurd h1.symm.eq_nil ne
  | cons e os =>
    have he := h1.mem_iff.mp List.mem_cons_self
    have := E.inn e (g.inn he)
    refine ⟨e, he, ?_, ?_⟩
    · rw [← h2]
      unfold turnOf
      rw [List.filterMap_cons, if_pos rfl]
      rfl
    · rw [← h2]
      unfold turnOf
      rw [List.filterMap_cons, if_neg (show ¬ e.1 = e.2 by omega), if_pos rfl]
      rfl
theorem Greedy.full (E : Edges n es) (g : Greedy es tn done ws r) {e : Pr} (he : e ∈ ws) : r e.1 ≠ [] ∧ r e.2 ≠ [] := by
  obtain ⟨os, h1, h2⟩ := g.ex
  have ne : e.1 ≠ e.2 := by have := E.inn e (g.inn he); omega
  have a := turn_mem (h1.mem_iff.mpr he) ne (a := e.1) (b := e.2) (.inl ⟨rfl, rfl⟩)
  have b := turn_mem (h1.mem_iff.mpr he) ne (a := e.2) (b := e.1) (.inr ⟨rfl, rfl⟩)
  rw [h2] at a b
  exact ⟨fun z => (by rw [z] at a; cases a), fun z => (by rw [z] at b; cases b)⟩
/-- an edge whose one end comes first at the other is one that waits -/
theorem Greedy.waits (E : Edges n es) (g : Greedy es tn done ws r) {e : Pr} (he : e ∈ es) (h : (r e.1).head? = .some e.2) : e ∈ ws := by
  obtain ⟨os, h1, h2⟩ := g.ex
  have m : e.2 ∈ turnOf e.1 os := by rw [h2]; exact List.mem_of_head? h
  obtain ⟨f, hf, k⟩ := mem_turn m
  have hf' := h1.mem_iff.mp hf
  have := ends_one E he (g.inn hf') (.inl ⟨rfl, rfl⟩) k
  rw [this]
  exact hf'
theorem head_split {α : Type} {A B : List α} {x : α} {R : List α} (h : A ++ x :: B = x :: R) (hx : A ≠ [] → x ∈ A) : A = [] ∨ x ∈ A := by
  cases A with
  | nil => exact .inl rfl
  | cons a A => exact .inr (hx (by simp))
theorem Greedy.step (E : Edges n es) (g : Greedy es tn done ws r) {e : Pr} {A B : List Nat} {ws' : List Pr} (h1 : r e.1 = e.2 :: A) (h2 : r e.2 = e.1 :: B) (hp : (e :: ws').Perm ws) :
    Greedy es tn (done ++ [e]) ws' (fun p => if p = e.2 then B else if p = e.1 then A else r p) := by
  have he : e ∈ ws := hp.mem_iff.mp List.mem_cons_self
  have hes := g.inn he
  have inn := E.inn e hes
  obtain ⟨os, o1, o2⟩ := g.ex
  obtain ⟨pre, post, rfl⟩ := List.append_of_mem (o1.mem_iff.mpr he)
  have nd : (pre ++ e :: post).Nodup := by
    refine o1.nodup_iff.mpr ?_
    have := g.pm.nodup_iff.mpr E.nodup
    exact (List.nodup_append.mp this).2.1
  have epre : e ∉ pre := fun z => (List.nodup_append.mp nd).2.2 e z e List.mem_cons_self rfl
  have sub : ∀ f ∈ pre, f ∈ es := fun f hf => g.inn (o1.mem_iff.mp (List.mem_append_left _ hf))
  have app : ∀ p, turnOf p (pre ++ e :: post) = turnOf p pre ++ ((if e.1 = p then [e.2] else if e.2 = p then [e.1] else []) ++ turnOf p post) := fun p => by
    rw [show pre ++ e :: post = (pre ++ [e]) ++ post by simp]
    have a2 : turnOf p ((pre ++ [e]) ++ post) = turnOf p (pre ++ [e]) ++ turnOf p post := by
      unfold turnOf
      rw [List.filterMap_append]
    rw [a2, turn_snoc, List.append_assoc]
  have nil1 : ∀ {a b : Nat} {R : List Nat}, Ends2 e a b → turnOf a pre ++ b :: turnOf a post = b :: R → turnOf a pre = [] := fun {a b R} k q => by
    cases hc : turnOf a pre with
    | nil => rfl
    | cons c C =>
      rw [hc] at q
      have cb : c = b := (List.cons.inj q).1
      have m : b ∈ turnOf a pre := by rw [hc, cb]; exact List.mem_cons_self
      obtain ⟨f, hf, kf⟩ := mem_turn m
      have := ends_one E hes (sub f hf) k kf
      exact absurd (this ▸ hf) epre
  have t1 := app e.1
  rw [o2, h1, if_pos rfl] at t1
  have t2 := app e.2
  rw [o2, h2, if_neg (show ¬ e.1 = e.2 by omega), if_pos rfl] at t2
  have n1 := nil1 (a := e.1) (b := e.2) (.inl ⟨rfl, rfl⟩) t1.symm
  have n2 := nil1 (a := e.2) (b := e.1) (.inr ⟨rfl, rfl⟩) t2.symm
  rw [n1] at t1
  rw [n2] at t2
  have a1 : turnOf e.1 post = A := (List.cons.inj t1).2.symm
  have b1 : turnOf e.2 post = B := (List.cons.inj t2).2.symm
  have pm' : (pre ++ post).Perm ws' := by
    have x1 : (e :: (pre ++ post)).Perm (pre ++ e :: post) := List.perm_middle.symm
    exact List.Perm.cons_inv ((x1.trans o1).trans hp.symm)
  have two : ∀ p, turnOf p (pre ++ post) = turnOf p pre ++ turnOf p post := fun p => by
    unfold turnOf
    rw [List.filterMap_append]
  refine ⟨?_, fun p => ?_, pre ++ post, pm', fun p => ?_⟩
  · rw [List.append_assoc]
    exact (List.Perm.append_left done hp).trans g.pm
  · have gt := g.tn p
    rw [turn_snoc, List.append_assoc, ← gt]
    congr 1
    by_cases c2 : p = e.2
    · subst c2
      rw [if_neg (show ¬ e.1 = e.2 by omega), if_pos rfl, if_pos rfl, h2]
      rfl
    · by_cases c1 : p = e.1
      · subst c1
        rw [if_pos rfl, if_neg c2, if_pos rfl, h1]
        rfl
      · rw [if_neg (fun z => c1 z.symm), if_neg (fun z => c2 z.symm), if_neg c2, if_neg c1]
        rfl
  · rw [two]
    by_cases c2 : p = e.2
    · subst c2
      rw [if_pos rfl, n2, b1]
      rfl
    · by_cases c1 : p = e.1
      · subst c1
        rw [if_neg c2, if_pos rfl, n1, a1]
        rfl
      · rw [if_neg c2, if_neg c1, ← o2, app, if_neg (fun z => c1 z.symm), if_neg (fun z => c2 z.symm)]
        rfl
end
end Os
/-! the least order of turns -/
namespace Os
def ltL : List Pr → List Pr → Bool
  | [], [] => false
  | [], _ :: _ => true
  | _ :: _, [] => false
  | x :: a, y :: b => if x = y then ltL a b else ltP x y
theorem ltP_self (e : Pr) : ltP e e = false := by
  rw [← Bool.not_eq_true, ltP_iff]
  omega
theorem ltP_tot {e f : Pr} (h : ltP f e = false) (ne : e ≠ f) : ltP e f = true := by
  rw [← Bool.not_eq_true, ltP_iff] at h
  rw [ltP_iff]
  have : e.1 ≠ f.1 ∨ e.2 ≠ f.2 := by
    rcases Decidable.em (e.1 = f.1) with a | a
    · exact .inr fun b => ne (Prod.ext a b)
    · exact .inl a
  omega
theorem ltP_asym {e f : Pr} (h : ltP e f = true) : ltP f e = false := by
  rw [ltP_iff] at h
  rw [← Bool.not_eq_true, ltP_iff]
  omega
theorem ltP_ne {e f : Pr} (h : ltP e f = true) : e ≠ f := fun z => by
  rw [z, ltP_self] at h
  cases h
theorem ltL_irr : ∀ a : List Pr, ltL a a = false
  | [] => rfl
  | x :: a => by
    unfold ltL
    rw [if_pos rfl]
    exact ltL_irr a
theorem ltL_one : ∀ {a b : List Pr}, ltL a b = false → ltL b a = false → a = b
  | [], [], _, _ => rfl
  | [], _ :: _, h, _ => by cases h
  | _ :: _, [], _, h => by cases h
  | x :: a, y :: b, h, k => by
    unfold ltL at h k
    by_cases e : x = y
    · subst e
      rw [if_pos rfl] at h k
      rw [ltL_one h k]
    · rw [if_neg e] at h
      rw [if_neg (Ne.symm e)] at k
      have := ltP_tot h (Ne.symm e)
      rw [this] at k
      cases k
theorem ltL_pre : ∀ (p a b : List Pr), ltL (p ++ a) (p ++ b) = ltL a b
  | [], _, _ => rfl
  | x :: p, a, b => by
    show (if x = x then ltL (p ++ a) (p ++ b) else ltP x x) = _
    rw [if_pos rfl]
    exact ltL_pre p a b
/-- an order with these turns, and none is less -/
structure LeastO (es : List Pr) (tn : Nat → List Nat) (os : List Pr) : Prop where
  pm : os.Perm es
  trn : ∀ p, turnOf p os = tn p
  least : ∀ o : List Pr, o.Perm es → (∀ p, turnOf p o = tn p) → ltL o os = false
theorem LeastO.one {es o1 o2 : List Pr} {tn : Nat → List Nat} (a : LeastO es tn o1) (b : LeastO es tn o2) : o1 = o2 := ltL_one (b.least o1 a.pm a.trn) (a.least o2 b.pm b.trn)
/-- every order with these turns goes on from what is done, or is greater at some place of it -/
def Led (es : List Pr) (tn : Nat → List Nat) (done : List Pr) : Prop := ∀ o : List Pr, o.Perm es → (∀ p, turnOf p o = tn p) → (∃ rest, o = done ++ rest) ∨ ∃ pre x y d r, done = pre ++ x :: d ∧ o = pre ++ y :: r ∧ ltP x y = true
section
variable {n : Nat} {es done ws : List Pr} {tn r : Nat → List Nat}
theorem Led.start : Led es tn [] := fun o _ _ => .inl ⟨o, rfl⟩
theorem turn_app (p : Nat) (a b : List Pr) : turnOf p (a ++ b) = turnOf p a ++ turnOf p b := by
  unfold turnOf
  rw [List.filterMap_append]
theorem Led.step (E : Edges n es) (g : Greedy es tn done ws r) (l : Led es tn done) {e : Pr} (he : e ∈ ws) (least : ∀ f ∈ ws, (r f.1).head? = some f.2 → (r f.2).head? = some f.1 → ltP f e = false) : Led es tn (done ++ [e]) := fun o po to => by
  rcases l o po to with ⟨rest, rfl⟩ | ⟨pre, x, y, d, r', rfl, rfl, h⟩
  · have pr : rest.Perm ws := (List.perm_append_left_iff done).mp (po.trans g.pm.symm)
    cases rest with
    | nil => rw [pr.symm.eq_nil] at he; cases he
    | cons f rest =>
      have tr : ∀ p, turnOf p (f :: rest) = r p := fun p => by
        have a := to p
        rw [turn_app, ← g.tn p] at a
        exact List.append_cancel_left a
      have hf := pr.mem_iff.mp List.mem_cons_self
      have := E.inn f (g.inn hf)
      have h1 : (r f.1).head? = some f.2 := by
        rw [← tr]
        unfold turnOf
        rw [List.filterMap_cons, if_pos rfl]
        rfl
      have h2 : (r f.2).head? = some f.1 := by
        rw [← tr]
        unfold turnOf
        rw [List.filterMap_cons, if_neg (show ¬ f.1 = f.2 by omega), if_pos rfl]
        rfl
      have lf := least f hf h1 h2
      by_cases ef : e = f
      · subst ef
        exact .inl ⟨rest, by rw [List.append_assoc]; rfl⟩
      · exact .inr ⟨done, e, f, [], rest, rfl, rfl, ltP_tot lf ef⟩
  · exact .inr ⟨pre, x, y, d ++ [e], r', by rw [List.append_assoc]; rfl, rfl, h⟩
theorem Led.fin (l : Led es tn done) (pm : done.Perm es) (tn' : ∀ p, turnOf p done = tn p) : LeastO es tn done := ⟨pm, tn', fun o po to => by
  rcases l o po to with ⟨rest, rfl⟩ | ⟨pre, x, y, d, r', rfl, rfl, h⟩
  · have := po.length_eq.trans pm.length_eq.symm
    rw [List.length_append] at this
    have e : rest = [] := List.length_eq_zero_iff.mp (by omega)
    rw [e, List.append_nil]
    exact ltL_irr done
  · rw [ltL_pre]
    show (if y = x then _ else ltP y x) = false
    rw [if_neg (Ne.symm (ltP_ne h))]
    exact ltP_asym h⟩
end
/-! ### all sequences -/
def seqsOf (es : List Pr) : Nat → List (List Pr)
  | 0 => [[]]
  | k + 1 => (seqsOf es k).flatMap fun l => (es.filter fun e => decide (e ∉ l)).map fun e => l ++ [e]
theorem seqs_in {es : List Pr} : ∀ {k : Nat} {l : List Pr}, l ∈ seqsOf es k → l.length = k ∧ ∃ rest, (l ++ rest).Perm es
  | 0, l, h => by
    rw [List.mem_singleton.mp h]
    exact ⟨rfl, es, List.Perm.refl _⟩
  | k + 1, l, h => by
    obtain ⟨l0, h0, h1⟩ := List.mem_flatMap.mp h
    obtain ⟨e, he, rfl⟩ := List.mem_map.mp h1
    obtain ⟨e1, e2⟩ := List.mem_filter.mp he
    have e2 := of_decide_eq_true e2
    obtain ⟨hl, rest, pm⟩ := seqs_in h0
    refine ⟨by rw [List.length_append, hl]; rfl, ?_⟩
    have er : e ∈ rest := (List.mem_append.mp (pm.mem_iff.mpr e1)).resolve_left e2
    obtain ⟨r1, r2, rfl⟩ := List.append_of_mem er
    refine ⟨r1 ++ r2, List.Perm.trans ?_ pm⟩
    rw [List.append_assoc]
    exact List.Perm.append_left l0 (show (e :: (r1 ++ r2)).Perm (r1 ++ e :: r2) from List.perm_middle.symm)
theorem seqs_perm {es l : List Pr} (h : l ∈ seqsOf es es.length) : l.Perm es := by
  obtain ⟨hl, rest, pm⟩ := seqs_in h
  have := pm.length_eq
  rw [List.length_append] at this
  have e : rest = [] := List.length_eq_zero_iff.mp (by omega)
  rwa [e, List.append_nil] at pm
theorem seqs_all {es : List Pr} {l : List Pr} (nd : es.Nodup) (pm : l.Perm es) : ∀ k, k ≤ l.length → l.take k ∈ seqsOf es k
  | 0, _ => by
    show [] ∈ [[]]
    exact List.mem_singleton.mpr rfl
  | k + 1, h => by
    have ih := seqs_all nd pm k (by omega)
    refine List.mem_flatMap.mpr ⟨l.take k, ih, List.mem_map.mpr ⟨l[k], List.mem_filter.mpr ⟨pm.mem_iff.mp (List.getElem_mem (by omega)), decide_eq_true fun z => ?_⟩, ?_⟩⟩
    · have nl := pm.nodup_iff.mpr nd
      obtain ⟨j, hj⟩ := List.mem_iff_getElem?.mp z
      rw [List.getElem?_take] at hj
      split at hj
      · rename_i lt
        obtain ⟨l1, e1⟩ := List.getElem?_eq_some_iff.mp hj
        exact List.pairwise_iff_getElem.mp nl j k l1 (by omega) lt e1
      · cases hj
    · rw [List.take_add_one, List.getElem?_eq_getElem (by omega)]
      rfl
theorem flat_len {α β : Type} {f : α → List β} {m : Nat} : ∀ {l : List α}, (∀ x ∈ l, (f x).length ≤ m) → (l.flatMap f).length ≤ l.length * m
  | [], _ => by simp
  | x :: l, h => by
    rw [List.flatMap_cons, List.length_append, List.length_cons, Nat.succ_mul]
    have a := h x List.mem_cons_self
    have b := flat_len (l := l) fun y hy => h y (List.mem_cons_of_mem _ hy)
    omega
theorem seqs_len {es : List Pr} {m : Nat} (h : es.length ≤ m) : ∀ k, (seqsOf es k).length ≤ m ^ k
  | 0 => Nat.le_refl _
  | k + 1 => by
    have ih := seqs_len h k
    have a : (seqsOf es (k + 1)).length ≤ (seqsOf es k).length * m := flat_len fun l _ => by
      rw [List.length_map]
      exact Nat.le_trans (List.length_filter_le _ _) h
    rw [Nat.pow_succ]
    exact Nat.le_trans a (Nat.mul_le_mul_right m ih)
end Os
namespace K10
open PySem PySem.Spec PyProof.Rows L2 Os Evl
theorem Drew.old {s : Addr} {B : Nat} {H0 H H' : Hp} (e : Ex H0 H) (ns : H0 s = none) (d : Drew s B H H') : Ex H0 H' := fun b o h =>
  d.get (ne_of_none h ns) (e b o h)
theorem lim_pr {e : Pr} (h1 : e.1 < 64) (h2 : e.2 < 64) : Lim 207 1 (Os.prD e) := (Lim.tup (L := 100) (D := 0) (m := 2) (fun d hd => by
  rcases List.mem_cons.mp hd with rfl | hd
  · exact .int h1
  · rw [List.mem_singleton.mp hd]
    exact .int h2) (Nat.le_refl _)).mono (by decide) (Nat.le_refl _)
theorem lim_prs {os : List Pr} (h : ∀ e ∈ os, e.1 < 64 ∧ e.2 < 64) (hl : os.length ≤ 60) : Lim 12543 2 (.list (os.map Os.prD)) := (Lim.lst (L := 207) (D := 1) (m := 60) (fun d hd => by
  obtain ⟨e, he, rfl⟩ := List.mem_map.mp hd
  exact lim_pr (h e he).1 (h e he).2) (by rw [List.length_map]; exact hl)).mono (by decide) (Nat.le_refl _)
theorem lim_graph {n : Nat} {es : List Pr} (ok : IsForest n es) : Lim 25093 3 (.tuple [.int (n : Int), .list (es.map Os.prD)]) := (Lim.tup (L := 12543) (D := 2) (m := 2) (fun d hd => by
  rcases List.mem_cons.mp hd with rfl | hd
  · exact (Lim.int (by have := ok.n40; omega)).mono (by decide) (by decide)
  · rw [List.mem_singleton.mp hd]
    exact lim_prs (fun e he => by have := ok.edges.inn e he; have := ok.n40; omega) ok.few) (Nat.le_refl _)).mono (by decide) (Nat.le_refl _)

/-- rows of numbers as data -/
theorem dts_of {G : Hp} : ∀ {xs : List V} {ds : List PyData}, xs.length = ds.length → (∀ (i : Nat) (x : V) (d : PyData), xs[i]? = some x → ds[i]? = some d → Dt G x d) → Dts G xs ds
  | [], [], _, _ => .nil
  | x :: xs, d :: ds, hl, h => .cons (h 0 x d rfl rfl) (dts_of (by simpa using hl) fun i y e h1 h2 => h (i + 1) y e (by simpa using h1) (by simpa using h2))
  | [], _ :: _, hl, _ => by simp at hl
  | _ :: _, [], hl, _ => by simp at hl
theorem adj_perm {es os : List Pr} (p : os.Perm es) (i : Nat) : (adj os i).Perm (adj es i) := p.filterMap _
theorem adj_in {n : Nat} {es : List Pr} (E : ∀ e ∈ es, e.1 < e.2 ∧ e.2 < n) {i x : Nat} (h : x ∈ adj es i) : x < n := by
  obtain ⟨e, he, h1⟩ := List.mem_filterMap.mp h
  have := E e he
  unfold other at h1
  by_cases a1 : e.1 = i
  · rw [if_pos a1] at h1
    cases h1
    omega
  · rw [if_neg a1] at h1
    by_cases a2 : e.2 = i
    · rw [if_pos a2] at h1
      cases h1
      omega
    · rw [if_neg a2] at h1
      cases h1
theorem adj_len {os : List Pr} {m : Nat} (h : os.length ≤ m) (i : Nat) : (adj os i).length ≤ m := by
  unfold adj
  exact Nat.le_trans (List.length_filterMap_le _ _) h
theorem adj_rev (os : List Pr) (i : Nat) : adj os.reverse i = (adj os i).reverse := by
  unfold adj
  rw [List.filterMap_reverse]
theorem PrsV.upd {G : Hp} {p : Addr} {xs' zs vs : List V} {es : List Pr} (h : PrsV G vs es) (hp : G p = some (.lst xs')) : PrsV (L2.upd G p (.lst zs)) vs es := by
  induction h with
  | nil => exact .nil
  | cons x _ ih =>
    obtain ⟨t, rfl, ht⟩ := x
    refine .cons ⟨t, rfl, ?_⟩ ih
    rw [upd_ne fun e => by
      rw [e, hp] at ht
      cases ht]
    exact ht
theorem RwV.snoc' {H0 G : Hp} {as : List Addr} {n : Nat} {f g : Nat → List Nat} {b : Addr} (h : RwV H0 G as n f) (hb0 : H0 b = none) (al : ∀ c ∈ as, c ≠ b) (fg : ∀ j, j < n → f j = g j) (hb : G b = some (.lst (nats (g n)))) : RwV H0 G (as ++ [b]) (n + 1) g :=
  ⟨by rw [List.length_append, h.len]; rfl, fun c hc => by
    rcases List.mem_append.mp hc with hc | hc
    · exact h.new c hc
    · rw [List.mem_singleton.mp hc]
      exact hb0, fun j c hc => by
    by_cases hj : j < as.length
    · rw [List.getElem?_append_left hj] at hc
      rw [← fg j (by rw [← h.len]; exact hj)]
      exact h.at' j c hc
    · rw [List.getElem?_append_right (by omega)] at hc
      have e1 : c = b := List.mem_singleton.mp (List.mem_of_getElem? hc)
      have e2 : j - as.length < 1 := (List.getElem?_eq_some_iff.mp hc).1
      have e3 : j = n := by have := h.len; omega
      rw [e1, e3]
      exact hb, List.nodup_append.mpr ⟨h.nd, List.pairwise_singleton _ _, fun c hc d hd => by
    rw [List.mem_singleton.mp hd]
    exact al c hc⟩⟩
theorem RwV.snoc {H0 G G' : Hp} {as : List Addr} {n : Nat} {f : Nat → List Nat} {b : Addr} (h : RwV H0 G as n f) (x : Ex G G') (hb0 : H0 b = none) (al : ∀ c ∈ as, c ≠ b) (hb : G' b = some (.lst (nats (f n)))) : RwV H0 G' (as ++ [b]) (n + 1) f :=
  (h.ex x).snoc' hb0 al (fun _ _ => rfl) hb
/-- [sorted(row) for row in rows], the rows ascending already -/
theorem adj_out {n : Nat} {es : List Pr} (E : ∀ e ∈ es, e.1 < e.2 ∧ e.2 < n) {i : Nat} (h : n ≤ i) : adj es i = [] := by
  unfold adj
  rw [List.filterMap_eq_nil_iff]
  intro e he
  have := E e he
  unfold other
  rw [if_neg (by omega), if_neg (by omega)]
end K10
/-! texts of words: join and split, lists of texts and None, a loop over enumerate -/
namespace Os
open PySem PySem.Spec PyProof.Rows L2 Evl

def isBlO : PyData → Bool
  | .bool _ => true
  | _ => false
theorem kit_boolO (d : PyData) : kitB (tyName d) "bool" = some (isBlO d) := by
  cases d <;> (simp only [tyName, isBlO]; decide +kernel)
/-! ### texts and None -/
def oV : Option Str → V
  | none => .non
  | some z => .str z
def oD : Option Str → PyData
  | none => .none
  | some z => .str z
def oW : Option Str → Str
  | none => "?"
  | some z => z
theorem dt_o {H : Hp} : ∀ o : Option Str, Dt H (oV o) (oD o)
  | none => .non
  | some z => .str z
theorem dts_o {H : Hp} : ∀ os : List (Option Str), Dts H (os.map oV) (os.map oD)
  | [] => .nil
  | o :: os => .cons (dt_o o) (dts_o os)
theorem some_V (zs : List Str) : (zs.map some).map oV = zs.map V.str := by
  rw [List.map_map]
  rfl
theorem some_D (zs : List Str) : (zs.map some).map oD = zs.map PyData.str := by
  rw [List.map_map]
  rfl
theorem some_W (zs : List Str) : (zs.map some).map oW = zs := by
  rw [List.map_map]
  exact List.map_id' zs
theorem flat_o : ∀ os : List (Option Str), (os.map oV).all flatV = true
  | [] => rfl
  | none :: os => flat_o os
  | some _ :: os => flat_o os
theorem inV_o (z : Str) : ∀ os : List (Option Str), inV (.str z) (os.map oV) = decide (some z ∈ os)
  | [] => rfl
  | none :: os => by
    have ih := inV_o z os
    unfold inV at ih ⊢
    rw [List.map_cons, List.any_cons, ih]
    show (false || decide (some z ∈ os)) = _
    rw [Bool.false_or]
    exact decide_eq_decide.mpr ⟨fun h => List.mem_cons_of_mem _ h, fun h => by
      rcases List.mem_cons.mp h with h | h
      · cases h
      · exact h⟩
  | some y :: os => by
    have ih := inV_o z os
    unfold inV at ih ⊢
    rw [List.map_cons, List.any_cons, ih]
    show ((y == z) || decide (some z ∈ os)) = decide (some z ∈ some y :: os)
    by_cases h : y = z
    · subst h
      simp
    · have h2 : ¬ z = y := fun e => h e.symm
      simp [h, h2]
theorem inV_strs' (z : Str) (zs : List Str) : inV (.str z) (zs.map V.str) = decide (z ∈ zs) := by
  rw [← some_V, inV_o]
  refine decide_eq_decide.mpr ⟨fun h => ?_, fun h => List.mem_map.mpr ⟨z, h, rfl⟩⟩
  obtain ⟨y, hy, e⟩ := List.mem_map.mp h
  rw [← Option.some.inj e]
  exact hy

theorem cut_drop (xs : List V) (k : Nat) : cutV xs (some (k : Int)) none = xs.drop k := by
  unfold cutV
  rw [HT.sIx_none, HT.sIx_nat]
  by_cases h : k ≤ xs.length
  · rw [Nat.min_eq_left h, List.take_of_length_le (by rw [List.length_drop]; exact Nat.le_refl _)]
  · rw [Nat.min_eq_right (by omega), List.drop_of_length_le (Nat.le_refl _), List.drop_of_length_le (by omega), List.take_nil]
/-! ### words -/
/-- few words that are not long -/
structure WOk (ws : List Str) : Prop where
  few : ws.length ≤ 100
  short : ∀ w ∈ ws, w.length ≤ 200
abbrev page (ws : List Str) : Str := Txt.join (" " : Str) ws
theorem sum_len {ws : List Str} {b : Nat} (h : ∀ w ∈ ws, w.length ≤ b) : (ws.map (·.length)).sum ≤ b * ws.length := by
  induction ws with
  | nil => exact Nat.le_refl _
  | cons z r ih =>
    rw [List.map_cons, List.sum_cons, List.length_cons, Nat.mul_succ]
    have := ih fun y hy => h y (List.mem_cons_of_mem _ hy)
    have := h z List.mem_cons_self
    omega
theorem WOk.sum {ws : List Str} (h : WOk ws) : (ws.map (·.length)).sum ≤ 20000 := by
  have h1 := sum_len h.short
  have h2 := Nat.mul_le_mul_left 200 h.few
  omega
theorem len_sp : (" " : Str).length = 1 := by decide
theorem len_nl : ("\n" : Str).length = 1 := by decide
theorem join_len_le {sep : Str} {ws : List Str} (hs : sep.length = 1) (h : WOk ws) : (Txt.join sep ws).length ≤ 20100 := by
  have e : Txt.join sep ws = Str.join sep ws := StrLaws.glued_eq_join _ _
  rw [e]
  have h1 := StrLaws.join_length_le sep ws
  have h2 := h.sum
  have h3 := h.few
  rw [hs] at h1
  omega
theorem join_snoc (sep : Str) : ∀ (ws : List Str) (w : Str), ws ≠ [] → Txt.join sep (ws ++ [w]) = Txt.join sep ws ++ sep ++ w
  | [], _, h => absurd rfl h
  | [x], w, _ => by
    rw [TL.join_eq, TL.join_eq]
    rfl
  | x :: y :: r, w, _ => by
    have ih := join_snoc sep (y :: r) w (fun h => nomatch h)
    rw [TL.join_eq, TL.join_eq] at ih
    rw [TL.join_eq, TL.join_eq]
    show x ++ sep ++ Str.join sep (y :: r ++ [w]) = x ++ sep ++ Str.join sep (y :: r) ++ sep ++ w
    rw [show (y :: r ++ [w]) = (y :: r) ++ [w] from rfl, ih]
    refine TL.ext_tl ?_
    simp only [TL.tl_append, List.append_assoc]
theorem join_one (sep w : Str) : Txt.join sep [w] = w := by
  rw [TL.join_eq]
  rfl
/-- a joined text, split -/
theorem split_page {ws : List Str} (ne : ws ≠ []) (h : ∀ w ∈ ws, 32 ∉ w.cps.toList) : Txt.split (page ws) (" " : Str) = ws :=
  TL.split_join (s := 32) (S := []) (by decide) (by decide +kernel) ne h
theorem split_lines {ws : List Str} (ne : ws ≠ []) (h : ∀ w ∈ ws, 10 ∉ w.cps.toList) : Txt.split (Txt.join ("\n" : Str) ws) ("\n" : Str) = ws :=
  TL.split_join (s := 10) (S := []) (by decide) (by decide +kernel) ne h
theorem codes_join {sep : Str} : ∀ {zs : List Str} {c : Nat}, c ∈ (Str.join sep zs).cps.toList → c ∈ sep.cps.toList ∨ ∃ z ∈ zs, c ∈ z.cps.toList
  | [], c, h => by simp [Str.join, Str.empty] at h
  | [x], c, h => .inr ⟨x, List.mem_cons_self, h⟩
  | x :: y :: r, c, h => by
    have h : c ∈ (x ++ sep ++ Str.join sep (y :: r)).cps.toList := h
    rw [PyProof.Rows.cps_toList_append, PyProof.Rows.cps_toList_append] at h
    rcases List.mem_append.mp h with h | h
    · rcases List.mem_append.mp h with h | h
      · exact .inr ⟨x, List.mem_cons_self, h⟩
      · exact .inl h
    · rcases codes_join h with h | ⟨z, h1, h2⟩
      · exact .inl h
      · exact .inr ⟨z, List.mem_cons_of_mem _ h1, h2⟩
theorem page_codes {sep : Str} {zs : List Str} {c : Nat} (h : c ∈ (Txt.join sep zs).cps.toList) : c ∈ sep.cps.toList ∨ ∃ z ∈ zs, c ∈ z.cps.toList := by
  rw [TL.join_eq] at h
  exact codes_join h

/-! ### what evaluates to what -/
section
variable {K : PySem.W.Frag} {σ : L2.St} {H H' : Hp} {ta tb tc te : TE} {x y z v : V} {a : Addr} {D : Ends} {tu tw tz : TS}
def rJoin (K : PySem.W.Frag) : V → List V → Hp → VK → Prop := fun x xs H Q => ∃ a p, ∃ ys : List Str, x = V.str a ∧ xs = [.ref p] ∧ (SqL K H p (ys.map V.str) ∨ SqT K H p (ys.map V.str)) ∧ (ys.map (·.length)).sum + ys.length * a.length ≤ 16777216 ∧ Q (.str (Txt.join a ys)) H
theorem ev_joinV {sep : Str} {zs : List Str} (hs : sep.length = 1) (h : Ev te σ H (.str sep)) (h2 : Ev ta σ H (.ref a)) (ha : H a = some (.lst (zs.map V.str))) (hz : WOk zs) :
    Ev (tM1 (rJoin K) te ta) σ H (.str (Txt.join sep zs)) := fun H1 e Q q =>
  h H1 e _ fun H2 e2 => ⟨⟨_, rfl⟩, h2 H2 (e.trans e2) _ fun H3 e3 => ⟨sep, a, zs, rfl, rfl, .inl (sq_of (((e.trans e2).trans e3) _ _ ha)), by have := hz.sum; have := hz.few; rw [hs]; omega, q H3 (e2.trans e3)⟩⟩
theorem ev_joinL {sep : Str} {zs : List Str} (hs : sep.length = 1) (h : Ev te σ H (.str sep)) (h2 : EvL ta σ H (zs.map V.str)) (hz : WOk zs) :
    Ev (tM1 (rJoin K) te ta) σ H (.str (Txt.join sep zs)) := fun H1 e Q q =>
  h H1 e _ fun H2 e2 => ⟨⟨_, rfl⟩, h2 H2 (e.trans e2) _ fun p H3 _ e3 hp => ⟨sep, p, zs, rfl, rfl, .inl (sq_of hp), by have := hz.sum; have := hz.few; rw [hs]; omega, q H3 (e2.trans e3)⟩⟩
def rSplit : V → List V → Hp → VK → Prop := fun x xs H Q => ∃ a b, x = .str a ∧ xs = [.str b] ∧ (b.length == 0) = false ∧ a.length + 2 ≤ sizeLine ∧ rNewStrs (Txt.split a b) H Q
theorem el_split {p sep : Str} {ws : List Str} (h : Ev te σ H (.str p)) (h2 : Ev ta σ H (.str sep)) (hs : sep.length = 1) (hl : p.length ≤ 90000) (e : Txt.split p sep = ws) : EvL (tM1 rSplit te ta) σ H (ws.map V.str) := fun H1 e1 Q q =>
  h H1 e1 _ fun H2 e2 => ⟨⟨_, rfl⟩, h2 H2 (e1.trans e2) _ fun H3 e3 => ⟨p, sep, rfl, rfl, by rw [hs]; rfl, sz_of (by omega), fun r hr => by
    rw [e]
    exact q r _ (fresh_back (e2.trans e3) hr) ((e2.trans e3).trans (Ex.new hr)) upd_same⟩⟩
theorem rv_addS' {H : Hp} {i j : Str} (h : i.length + j.length ≤ 100000) : RV (fun x y H Q => ∃ i j, x = .str i ∧ y = .str j ∧ i.length + j.length ≤ sizeLine ∧ Q (.str (i ++ j)) H) (.str i) (.str j) H (.str (i ++ j)) :=
  fun H1 _ _ q => ⟨i, j, rfl, rfl, sz_of h, q H1 (Ex.refl H1)⟩
theorem rv_isN' {H : Hp} {x : V} : RV (fun x y H Q => y = V.non ∧ Q (.bl (decide (x = .non))) H) x .non H (.bl (decide (x = .non))) := fun H1 _ _ q => ⟨rfl, q H1 (Ex.refl H1)⟩
/-- a call by keywords alone of a def that makes nothing but a value -/
theorem ev_spK {sp : Sp} {gV : List V → List V → List V} {vs zs : List V} {E : XK} {tk : TA} (h : EvA tk σ H zs) (e : gV [] zs = vs) (hs : ∀ H1, Ex H H1 → ∀ Q : VK, (∀ H2, Ex H1 H2 → Q z H2) → sp vs H1 Q E) : Ev (tCallK sp gV E tNil tk) σ H z := fun H1 e1 Q q =>
  h H1 e1 _ fun H2 e2 => by
    rw [e]
    exact hs H2 (e1.trans e2) Q fun H3 e3 => q H3 (e2.trans e3)
/-- a call that gives a new list -/
theorem el_sp {sp : Sp} {dvs vs xs : List V} {E : XK} {ta : TA} (h : EvA ta σ H vs) (hs : ∀ H1, Ex H H1 → ∀ Q : VK, (∀ p H2, H1 p = none → Ex H1 H2 → H2 p = some (.lst xs) → Q (.ref p) H2) → sp (vs ++ dvs) H1 Q E) : EvL (tCall sp dvs E ta) σ H xs := fun H1 e Q q =>
  h H1 e _ fun H2 e2 => hs H2 (e.trans e2) Q fun p H3 hp e3 h3 => q p H3 (fresh_back e2 hp) (e2.trans e3) h3
/-- a call whose argument is a new list -/
theorem ev_spL {sp : Sp} {xs : List V} {E : XK} (h : EvL te σ H xs) (hs : ∀ p H1, H1 p = some (.lst xs) → Ex H H1 → ∀ Q : VK, (∀ H2, Ex H1 H2 → Q z H2) → sp [.ref p] H1 Q E) : Ev (tCall sp [] E (tCons te tNil)) σ H z := fun H1 e Q q =>
  h H1 e _ fun p H2 _ e2 hp => hs p H2 hp (e.trans e2) Q fun H3 e3 => q H3 (e2.trans e3)
theorem el_spK {sp : Sp} {gV : List V → List V → List V} {vs zs xs : List V} {E : XK} {tk : TA} (h : EvA tk σ H zs) (e : gV [] zs = vs) (hs : ∀ H1, Ex H H1 → ∀ Q : VK, (∀ p H2, H1 p = none → Ex H1 H2 → H2 p = some (.lst xs) → Q (.ref p) H2) → sp vs H1 Q E) : EvL (tCallK sp gV E tNil tk) σ H xs := fun H1 e1 Q q =>
  h H1 e1 _ fun H2 e2 => by
    rw [e]
    exact hs H2 (e1.trans e2) Q fun p H3 hp e3 h3 => q p H3 (fresh_back e2 hp) (e2.trans e3) h3
/-- equal data -/
theorem rv_eqD {d : PyData} {n : Nat} (hx : Dt H x d) (hy : Dt H y d) (sh : Sh n d) (le : n ≤ 64) : RV (rEqD K) x y H (.bl true) := fun H1 e Q q =>
  ⟨d, d, (hx.same (same_ex e)).dp, (hy.same (same_ex e)).dp, sh.shaped le, sh.shaped le, by
    rw [sh.refl]
    exact q H1 (Ex.refl H1)⟩
theorem ev_eqD {d : PyData} {n : Nat} (ha : Ev ta σ H x) (hb : Ev tb σ H y) (hx : Dt H x d) (hy : Dt H y d) (sh : Sh n d) (le : n ≤ 64) : Ev (tOp (rEqD K) ta tb) σ H (.bl true) := ev_op ha hb (rv_eqD hx hy sh le)
theorem ev_eqD1 {xs : List V} {ds : List PyData} {n : Nat} (ha : EvL ta σ H xs) (hb : ∀ H1, Ex H H1 → Ev tb σ H1 y) (hx : Dts H xs ds) (hy : Dt H y (.list ds)) (sh : Sh n (.list ds)) (le : n ≤ 64) : Ev (tOp (rEqD K) ta tb) σ H (.bl true) :=
  ev_opL1 ha hb fun p H1 hp e => rv_eqD (.lst hp (hx.same (same_ex e))) (hy.same (same_ex e)) sh le
theorem q_clear {l : Addr} {xs : List V} (hl : H l = some (.lst xs)) (ha : Ev ta σ H (.ref l)) (k : ∀ H1, Ex H H1 → tz D σ (upd H1 l (.lst []))) : tSeq (tDrop (tBM0 K "list" rClear ta)) tz D σ H :=
  ha H (Ex.refl H) _ fun H1 e1 => ⟨Or.inl ⟨rfl, xs, sq_of (e1 l _ hl)⟩, l, xs, rfl, rfl, e1 l _ hl, k H1 e1⟩
theorem q_reverse {l : Addr} {xs : List V} (hl : H l = some (.lst xs)) (ha : Ev ta σ H (.ref l)) (k : ∀ H1, Ex H H1 → tz D σ (upd H1 l (.lst xs.reverse))) : tSeq (tDrop (tBM0 K "list" rReverse ta)) tz D σ H :=
  ha H (Ex.refl H) _ fun H1 e1 => ⟨Or.inl ⟨rfl, xs, sq_of (e1 l _ hl)⟩, l, xs, rfl, rfl, e1 l _ hl, k H1 e1⟩
/-- a for over enumerate of a new list -/
theorem s_forE {xs : List V} {tl : TE} {i j : Nat} (h : EvL tl σ H xs) (Pv : Addr → Nat → L2.St → Hp → Prop) (h0 : ∀ p H1, H p = none → Ex H H1 → H1 p = some (.lst xs) → Pv p 0 σ H1) (hl : ∀ p n σ' H', Pv p n σ' H' → SqL K H' p xs)
    (hs : ∀ p n x σ' H' H2, xs[n]? = some x → Pv p n σ' H' → Ex H' H2 → tu { D with nx := Pv p (n + 1), ct := Pv p (n + 1), bk := D.nx } ((σ'.set i (some (.int (n : Int)))).set j (some x)) H2)
    (hd : ∀ p σ' H', Pv p xs.length σ' H' → D.nx σ' H') : tFor (iEnum K (tCons tl tNil)) (gTup K 2 (gCons (gName i) (gCons (gName j) gNil))) tu D σ H :=
  h H (Ex.refl H) _ fun p H1 hp e h1 => ⟨p, xs, rfl, sq_of h1, for_it walk_enum (Pv p) (h0 p H1 hp e h1) (fun n σ H _ q => hl p n σ H q) (fun n v σ' H' H2 hn q y => by
    obtain ⟨T, x, z, rfl, nT, rfl, hx, hz⟩ := y
    cases hx
    exact ⟨T, [.int (n : Int), z], rfl, st_of upd_same, rfl, .int (n : Int), [z], rfl, z, [], rfl, rfl, hs p n z σ' H' _ hz q (Ex.new nT)⟩) (hd p)⟩
theorem q_forE {xs : List V} {tl : TE} {i j : Nat} (h : EvL tl σ H xs) (Pv : Addr → Nat → L2.St → Hp → Prop) (h0 : ∀ p H1, H p = none → Ex H H1 → H1 p = some (.lst xs) → Pv p 0 σ H1) (hl : ∀ p n σ' H', Pv p n σ' H' → SqL K H' p xs)
    (hs : ∀ p n x σ' H' H2, xs[n]? = some x → Pv p n σ' H' → Ex H' H2 → tu { D with nx := Pv p (n + 1), ct := Pv p (n + 1), bk := tz D } ((σ'.set i (some (.int (n : Int)))).set j (some x)) H2)
    (hd : ∀ p σ' H', Pv p xs.length σ' H' → tz D σ' H') : tSeq (tFor (iEnum K (tCons tl tNil)) (gTup K 2 (gCons (gName i) (gCons (gName j) gNil))) tu) tz D σ H := s_forE (D := { D with nx := tz D }) h Pv h0 hl hs hd
end
/-- lists of texts and None -/
theorem lay_o : ∀ os : List (Option Str), (∀ z, some z ∈ os → PyData.strOk z = true) → ∀ d ∈ os.map oD, Sh 0 d := fun os h d hd => by
  obtain ⟨o, ho, rfl⟩ := List.mem_map.mp hd
  cases o with
  | none => exact ⟨rfl, Nat.zero_le _⟩
  | some z => exact .str 0 (h z ho)
theorem sh_o {os : List (Option Str)} (h : ∀ z, some z ∈ os → PyData.strOk z = true) : Sh 1 (.list (os.map oD)) := .lst (lay_o os h)
end Os
namespace Os
open PySem PySem.Spec PyProof.Rows L2 Evl
/-! ### more comprehensions, truth of lists -/
section
variable {K : PySem.W.Frag} {σ : L2.St} {H H' : Hp} {ta tb tc te tl : TE} {x y z v : V} {a : Addr} {D : Ends} {tu tw tz : TS}
def tTru (K : PySem.W.Frag) (ta : TE) : TT := fun σ H Q => ta σ H fun x H' => ∃ k, TruV K x H' k ∧ Q k H'
theorem et_tru {xs : List V} (h : Ev ta σ H (.ref a)) (hx : SqL K H a xs) : EvT (tTru K ta) σ H (!xs.isEmpty) := fun H1 e Q q =>
  h H1 e _ fun H2 e2 => ⟨!xs.isEmpty, .inl ⟨xs, ex_l (e.trans e2) hx, rfl⟩, q H2 e2⟩
theorem getD_map' {α : Type} [Inhabited α] {xs : List α} {i : Nat} {x : α} (h : xs[i]? = some x) : xs.getD i default = x := by
  rw [List.getD_eq_getElem?_getD, h]
  rfl
/-- over a list of things told by xs -/
theorem el_lcMapL {α : Type} [Inhabited α] {xs : List α} {fV : α → V} {j : Nat} {vs : List Nat} (v : α → V) (h : Ev tl σ H (.ref a)) (hx : SqL K H a (xs.map fV)) (hz : xs.length ≤ 40000) (hw : ∀ x, wipe ((wipe σ vs).set j (some x)) vs = wipe σ vs)
    (he : ∀ x H1, Ex H H1 → x ∈ xs → Ev te ((wipe σ vs).set j (some (fV x))) H1 (v x)) : EvL (tLc (iList K tl) (gName j) tYes te vs) σ H (xs.map v) := by
  rw [← given_map xs v (fun i => v (xs.getD i default)) (fun i x e => by rw [getD_map' e]), ← List.length_map (f := fV) (as := xs)]
  refine el_lcL (fun _ => true) _ h hx (by rw [List.length_map]; exact hz) hw (fun i x H2 _ _ => fun H3 e3 Q q => q H3 (Ex.refl H3)) (fun i x H2 e2 hx' _ => ?_)
  rw [List.getElem?_map] at hx'
  obtain ⟨y, hy, rfl⟩ := Option.map_eq_some_iff.mp hx'
  rw [getD_map' hy]
  exact he y H2 e2 (List.mem_of_getElem? hy)
theorem el_lcMapN {α : Type} [Inhabited α] {xs : List α} {fV : α → V} {j : Nat} {vs : List Nat} (v : α → V) (h : EvL tl σ H (xs.map fV)) (hz : xs.length ≤ 40000) (hw : ∀ x, wipe ((wipe σ vs).set j (some x)) vs = wipe σ vs)
    (he : ∀ x H1, Ex H H1 → x ∈ xs → Ev te ((wipe σ vs).set j (some (fV x))) H1 (v x)) : EvL (tLc (iList K tl) (gName j) tYes te vs) σ H (xs.map v) := by
  rw [← given_map xs v (fun i => v (xs.getD i default)) (fun i x e => by rw [getD_map' e]), ← List.length_map (f := fV) (as := xs)]
  refine el_lcNL (fun _ => true) _ h (by rw [List.length_map]; exact hz) hw (fun i x H2 _ _ => fun H3 e3 Q q => q H3 (Ex.refl H3)) (fun i x H2 e2 hx' _ => ?_)
  rw [List.getElem?_map] at hx'
  obtain ⟨y, hy, rfl⟩ := Option.map_eq_some_iff.mp hx'
  rw [getD_map' hy]
  exact he y H2 e2 (List.mem_of_getElem? hy)
/-- over a list of pairs, the pair's parts in two names -/
theorem el_lcPr {xs : List V} {es : List Pr} {i j n : Nat} {vs : List Nat} (v : Pr → V) (hn : n = 2) (h : Ev tl σ H (.ref a)) (hx : H a = some (.lst xs)) (hp : PrsV H xs es) (hz : es.length ≤ 40000) (hw : ∀ x y, wipe (((wipe σ vs).set i (some x)).set j (some y)) vs = wipe σ vs)
    (he : ∀ e H1, Ex H H1 → e ∈ es → Ev te (((wipe σ vs).set i (some (.int (e.1 : Int)))).set j (some (.int (e.2 : Int)))) H1 (v e)) : EvL (tLc (iList K tl) (gTup K n (gCons (gName i) (gCons (gName j) gNil))) tYes te vs) σ H (es.map v) := fun H0 e0 Q q => h H0 e0 _ fun H1 e1 => ⟨a, rfl, ⟨xs, sq_of ((e0.trans e1) _ _ hx)⟩, fun Dl hD => by
  have hx1 := (e0.trans e1) _ _ hx
  have hlen := hp.length
  have eg : given xs.length (fun _ => true) (fun i => v (es.getD i (0, 0))) = es.map v := by
    rw [hlen]
    exact given_map es v _ fun i x e => by rw [List.getD_eq_getElem?_getD, e]; rfl
  refine lc_list (xs := xs) (Cw H1 (fun _ => true) (fun i => v (es.getD i (0, 0))) Dl) ⟨hD, Ex.new hD, upd_same⟩ (fun k H' _ p => sq_of (p.2.1 _ _ hx1)) (fun k x H' hk p => ?_) (fun H' p => q Dl H' (fresh_back e1 p.1) (e1.trans p.2.1) (by rw [← eg]; exact p.2.2))
  obtain ⟨e, hek, t, rfl, ht⟩ := hp.get hk
  have ht1 := p.2.1 _ _ ((e0.trans e1) _ _ ht)
  refine ⟨t, [.int (e.1 : Int), .int (e.2 : Int)], rfl, st_of ht1, hn.symm, .int (e.1 : Int), [.int (e.2 : Int)], rfl, .int (e.2 : Int), [], rfl, rfl, hw _ _, ?_⟩
  refine cw_turn p (by have := (List.getElem?_eq_some_iff.mp hk).1; omega) (fun H3 e3 Q q => q H3 (Ex.refl H3)) (fun _ => ?_)
  show Ev te _ H1 (v (es.getD k (0, 0)))
  rw [List.getD_eq_getElem?_getD, hek]
  exact he e H1 (e0.trans e1) (List.mem_of_getElem? hek)⟩
/-- a for over enumerate of a list that stands -/
theorem s_forEV {xs : List V} {i j : Nat} (h : Ev tl σ H (.ref a)) (hx : SqL K H a xs) (Pv : Nat → L2.St → Hp → Prop) (h0 : ∀ H1, Ex H H1 → Pv 0 σ H1) (hl : ∀ n σ' H', Pv n σ' H' → SqL K H' a xs)
    (hs : ∀ n x σ' H' H2, xs[n]? = some x → Pv n σ' H' → Ex H' H2 → tu { D with nx := Pv (n + 1), ct := Pv (n + 1), bk := D.nx } ((σ'.set i (some (.int (n : Int)))).set j (some x)) H2)
    (hd : ∀ σ' H', Pv xs.length σ' H' → D.nx σ' H') : tFor (iEnum K (tCons tl tNil)) (gTup K 2 (gCons (gName i) (gCons (gName j) gNil))) tu D σ H :=
  h H (Ex.refl H) _ fun H1 e => ⟨a, xs, rfl, ex_l e hx, for_it walk_enum Pv (h0 H1 e) (fun n σ H _ q => hl n σ H q) (fun n v σ' H' H2 hn q y => by
    obtain ⟨T, x, z, rfl, nT, rfl, hx, hz⟩ := y
    cases hx
    exact ⟨T, [.int (n : Int), z], rfl, st_of upd_same, rfl, .int (n : Int), [z], rfl, z, [], rfl, rfl, hs n z σ' H' _ hz q (Ex.new nT)⟩) hd⟩
theorem q_forEV {xs : List V} {i j : Nat} (h : Ev tl σ H (.ref a)) (hx : SqL K H a xs) (Pv : Nat → L2.St → Hp → Prop) (h0 : ∀ H1, Ex H H1 → Pv 0 σ H1) (hl : ∀ n σ' H', Pv n σ' H' → SqL K H' a xs)
    (hs : ∀ n x σ' H' H2, xs[n]? = some x → Pv n σ' H' → Ex H' H2 → tu { D with nx := Pv (n + 1), ct := Pv (n + 1), bk := tz D } ((σ'.set i (some (.int (n : Int)))).set j (some x)) H2)
    (hd : ∀ σ' H', Pv xs.length σ' H' → tz D σ' H') : tSeq (tFor (iEnum K (tCons tl tNil)) (gTup K 2 (gCons (gName i) (gCons (gName j) gNil))) tu) tz D σ H := s_forEV (D := { D with nx := tz D }) h hx Pv h0 hl hs hd
def rStrI : List V → Hp → VK → Prop := fun xs H Q => ∃ i : Int, xs = [.int i] ∧ i.natAbs.log2 < 1920 ∧ Q (.str (toString i)) H
theorem ev_strI {n : Nat} (h : Ev ta σ H (.int (n : Int))) (hn : n < 1000) : Ev (tCB rStrI (tCons ta tNil)) σ H (.str (toString ((n : Nat) : Int))) := fun H1 e Q q =>
  h H1 e _ fun H2 e2 => ⟨_, rfl, by rw [Int.natAbs_natCast]; exact Nat.lt_of_le_of_lt (Nat.log2_le_self n) (by omega), q H2 e2⟩
def rIntS : List V → Hp → VK → Prop := fun xs H Q => ∃ (a : Str) (n : Int), xs = [.str a] ∧ PySem.intText? a = some n ∧ a.length ≤ 640 ∧ Q (.int n) H
theorem ev_intS {z : Str} {n : Int} (h : Ev ta σ H (.str z)) (hz : z.length ≤ 640) (hn : PySem.intText? z = some n) : Ev (tCB rIntS (tCons ta tNil)) σ H (.int n) := fun H1 e Q q =>
  h H1 e _ fun H2 e2 => ⟨z, n, rfl, hn, hz, q H2 e2⟩
end
end Os
namespace Os
open PySem PySem.Spec PyProof.Rows L2 Evl
theorem sh_prs' (es : List Pr) : Sh 2 (.list (es.map prD)) := .lst fun d hd => by
  obtain ⟨e, _, rfl⟩ := List.mem_map.mp hd
  refine .tup fun x hx => ?_
  rcases List.mem_cons.mp hx with rfl | hx
  · exact .int 0 _
  · rw [List.mem_singleton.mp hx]
    exact .int 0 _
theorem prs_snoc {G : Hp} {v : V} {e : Pr} : ∀ {xs : List V} {es : List Pr}, PrsV G xs es → PrV G v e → PrsV G (xs ++ [v]) (es ++ [e])
  | _, _, .nil, h => .cons h .nil
  | _, _, .cons p r, h => .cons p (prs_snoc r h)
theorem prs_map {G G' : Hp} (k : ∀ v e, PrV G v e → PrV G' v e) : ∀ {xs : List V} {es : List Pr}, PrsV G xs es → PrsV G' xs es
  | _, _, .nil => .nil
  | _, _, .cons p r => .cons (k _ _ p) (prs_map k r)
end Os
namespace Os
open PySem PySem.Spec PyProof.Rows L2 Evl
theorem room65 {k : Nat} {A : Around} (r : Room k A) : A.units + 65 < cLine := by have := r.un; omega
end Os
namespace Os
open PySem PySem.Spec PyProof.Rows L2 Evl
theorem el_rg {σ : L2.St} {H : Hp} {ta : TE} {n : Nat} (h : Ev ta σ H (.int (n : Int))) (hn : n ≤ 100000) : EvL (tLstRg (tRg1 ta)) σ H ((List.range n).map fun x : Nat => V.int (x : Int)) := fun H1 e Q q =>
  h H1 e _ fun H2 e2 => ⟨(n : Int), rfl, RgOk.of_le (by omega) (by omega) (by omega) (by omega), fun L hL => q L _ (fresh_back e2 hL) (e2.trans (Ex.new hL)) (by
    rw [upd_same]
    have : rgV 0 (n : Int) = (List.range n).map fun x : Nat => V.int (x : Int) := by
      unfold rgV
      rw [show ((n : Int) - 0).toNat = n by omega]
      exact List.map_congr_left fun i _ => congrArg V.int (by omega)
    rw [this])⟩
theorem PrsV.put0 {p : Addr} {G : Hp} {xs' zs vs : List V} {es : List Pr} (h : PrsV G vs es) (hp : G p = some (.lst xs')) : PrsV (upd G p (.lst zs)) vs es := by
  induction h with
  | nil => exact .nil
  | cons x _ ih =>
    obtain ⟨t, rfl, ht⟩ := x
    refine .cons ⟨t, rfl, ?_⟩ ih
    rw [upd_ne fun e => by
      rw [e, hp] at ht
      cases ht]
    exact ht
theorem PrsV.putH {s p : Addr} {G : Hp} {xs' zs vs : List V} {es : List Pr} (h : PrsV (hide s G) vs es) (np : p ≠ s) (hp : G p = some (.lst xs')) : PrsV (hide s (upd G p (.lst zs))) vs es := by
  induction h with
  | nil => exact .nil
  | cons x _ ih =>
    obtain ⟨t, rfl, ht⟩ := x
    obtain ⟨n1, h1⟩ := hide_of ht
    refine .cons ⟨t, rfl, ?_⟩ ih
    rw [hide_ne n1, upd_ne fun e => by
      rw [e, hp] at h1
      cases h1]
    exact h1
theorem PrsV.newH {s p : Addr} {G : Hp} {o : HO} {vs : List V} {es : List Pr} (h : PrsV (hide s G) vs es) (hs : ∃ u, G s = some u) (hp : G p = none) : PrsV (hide s (upd G p o)) vs es :=
  h.ex (hide_ex (Ex.new hp))
theorem perm_pop' {α : Type} {l : List α} {k : Nat} {y : α} (acc : List α) (h : l[k]? = some y) : ((acc ++ [y]) ++ l.eraseIdx k).Perm (acc ++ l) := by
  obtain ⟨lt, e⟩ := List.getElem?_eq_some_iff.mp h
  rw [List.append_assoc]
  refine List.Perm.append_left acc ?_
  have e2 := List.drop_eq_getElem_cons lt
  rw [e] at e2
  rw [List.eraseIdx_eq_take_drop_succ]
  refine List.Perm.trans (l₂ := l.take k ++ y :: l.drop (k + 1)) (show (y :: (l.take k ++ l.drop (k + 1))).Perm _ from List.perm_middle.symm) ?_
  rw [← e2, List.take_append_drop]
end Os
namespace Os
open PySem PySem.Spec PyProof.Rows L2 Evl
/-! ### what evaluates to data, wherever it stands -/
def EvD (te : TE) (σ : L2.St) (H : Hp) (d : PyData) : Prop := ∀ H1, Ex H H1 → ∀ Q : VK, (∀ v H2, Ex H1 H2 → Dt H2 v d → Q v H2) → te σ H1 Q
def EvDs (ta : TA) (σ : L2.St) (H : Hp) (ds : List PyData) : Prop := ∀ H1, Ex H H1 → ∀ Q : List V → Hp → Prop, (∀ vs H2, Ex H1 H2 → Dts H2 vs ds → Q vs H2) → ta σ H1 Q
section
variable {K : PySem.W.Frag} {σ : L2.St} {H H' : Hp} {ta tb te : TE} {tr : TA} {x y v : V} {d : PyData} {ds : List PyData}
theorem ed_of (h : Ev te σ H v) (hd : Dt H v d) : EvD te σ H d := fun H1 e Q q => h H1 e _ fun H2 e2 => q v H2 e2 (hd.same (same_ex (e.trans e2)))
theorem ed_l {xs : List V} (h : EvL te σ H xs) (hd : Dts H xs ds) : EvD te σ H (.list ds) := fun H1 e Q q => h H1 e _ fun p H2 _ e2 hp => q _ H2 e2 (.lst hp (hd.same (same_ex (e.trans e2))))
theorem eds_nil : EvDs tNil σ H [] := fun H1 _ Q q => q [] H1 (Ex.refl H1) .nil
theorem eds_cons (h : EvD te σ H d) (hr : EvDs tr σ H ds) : EvDs (tCons te tr) σ H (d :: ds) := fun H1 e Q q =>
  h H1 e _ fun v H2 e2 hv => hr H2 (e.trans e2) _ fun vs H3 e3 hvs => q _ H3 (e2.trans e3) (.cons (hv.same (same_ex e3)) hvs)
theorem ed_lst (h : EvDs tr σ H ds) (hl : ds.length ≤ 100000) : EvD (tLst tr) σ H (.list ds) := fun H1 e Q q =>
  h H1 e _ fun vs H2 e2 hvs => ⟨sz_of (by rw [hvs.length]; exact hl), fun p hp => q (.ref p) _ (e2.trans (Ex.new hp)) (.lst upd_same (hvs.same (same_ex (Ex.new hp))))⟩
theorem ed_tup (h : EvDs tr σ H ds) (hl : ds.length ≤ 100000) : EvD (tTup tr) σ H (.tuple ds) := fun H1 e Q q =>
  h H1 e _ fun vs H2 e2 hvs => ⟨sz_of (by rw [hvs.length]; exact hl), fun p hp => q (.ref p) _ (e2.trans (Ex.new hp)) (.tup upd_same (hvs.same (same_ex (Ex.new hp))))⟩
/-- a call that gives data -/
theorem ed_sp {sp : Sp} {dvs vs : List V} {E : XK} (h : EvA tr σ H vs) (hs : ∀ H1, Ex H H1 → ∀ Q : VK, (∀ v H2, Ex H1 H2 → Dt H2 v d → Q v H2) → sp (vs ++ dvs) H1 Q E) : EvD (tCall sp dvs E tr) σ H d := fun H1 e Q q =>
  h H1 e _ fun H2 e2 => hs H2 (e.trans e2) Q fun v H3 e3 => q v H3 (e2.trans e3)
theorem ed_spK {sp : Sp} {gV : List V → List V → List V} {vs zs : List V} {E : XK} {tk : TA} (h : EvA tk σ H zs) (e : gV [] zs = vs) (hs : ∀ H1, Ex H H1 → ∀ Q : VK, (∀ v H2, Ex H1 H2 → Dt H2 v d → Q v H2) → sp vs H1 Q E) : EvD (tCallK sp gV E tNil tk) σ H d := fun H1 e1 Q q =>
  h H1 e1 _ fun H2 e2 => by
    rw [e]
    exact hs H2 (e1.trans e2) Q fun v H3 e3 => q v H3 (e2.trans e3)
theorem ev_eqDD {n : Nat} (ha : EvD ta σ H d) (hb : EvD tb σ H d) (sh : Sh n d) (le : n ≤ 64) : Ev (tOp (rEqD K) ta tb) σ H (.bl true) := fun H1 e Q q =>
  ha H1 e _ fun v H2 e2 hv => hb H2 (e.trans e2) _ fun u H3 e3 hu => ⟨d, d, (hv.same (same_ex e3)).dp, hu.dp, sh.shaped le, sh.shaped le, by
    rw [sh.refl]
    exact q H3 (e2.trans e3)⟩
theorem ev_neDD {n : Nat} (ha : EvD ta σ H d) (hb : EvD tb σ H d) (sh : Sh n d) (le : n ≤ 64) : Ev (tOp (rNeD K) ta tb) σ H (.bl false) := fun H1 e Q q =>
  ha H1 e _ fun v H2 e2 hv => hb H2 (e.trans e2) _ fun u H3 e3 hu => ⟨d, d, (hv.same (same_ex e3)).dp, hu.dp, sh.shaped le, sh.shaped le, by
    rw [sh.refl]
    exact q H3 (e2.trans e3)⟩
end
end Os
namespace Os
open PySem PySem.Spec PyProof.Rows L2 Evl
theorem last_of (xs : List V) (y : V) : atI (xs ++ [y]) (-1) = some y := by
  unfold atI
  have : ixN (xs ++ [y]).length (-1) = some xs.length := by
    unfold ixN
    rw [if_neg (by decide), List.length_append]
    show (if _ then _ else _) = _
    rw [if_pos (by simp; omega)]
    simp
    omega
  rw [this]
  show (xs ++ [y])[xs.length]? = some y
  rw [List.getElem?_append_right (Nat.le_refl _), Nat.sub_self]
  rfl
end Os
namespace Os
theorem nodup_at {α : Type} {l : List α} (h : l.Nodup) {i j : Nat} {x : α} (hi : l[i]? = some x) (hj : l[j]? = some x) : i = j := by
  obtain ⟨li, ei⟩ := List.getElem?_eq_some_iff.mp hi
  obtain ⟨lj, ej⟩ := List.getElem?_eq_some_iff.mp hj
  rcases Nat.lt_trichotomy i j with lt | e | lt
  · exact absurd (ei.trans ej.symm) (List.pairwise_iff_getElem.mp h i j li lj lt)
  · exact e
  · exact absurd (ej.trans ei.symm) (List.pairwise_iff_getElem.mp h j i lj li lt)
end Os
/-! counting: permutations of a list, choices row by row, different values of a list -/
namespace Os
open PySem PySem.Spec PyProof.Rows
def fac : Nat → Nat
  | 0 => 1
  | n + 1 => (n + 1) * fac n
theorem fac_pos : ∀ n, 1 ≤ fac n
  | 0 => Nat.le_refl _
  | n + 1 => Nat.mul_le_mul (Nat.succ_le_succ (Nat.zero_le n)) (fac_pos n)
/-! ### permutations -/
def insAll (x : Nat) : List Nat → List (List Nat)
  | [] => [[x]]
  | y :: l => (x :: y :: l) :: (insAll x l).map (y :: ·)
def permsL : List Nat → List (List Nat)
  | [] => [[]]
  | x :: l => (permsL l).flatMap (insAll x)
theorem insAll_len (x : Nat) : ∀ l : List Nat, (insAll x l).length = l.length + 1
  | [] => rfl
  | y :: l => by
    show ((insAll x l).map (y :: ·)).length + 1 = _
    rw [List.length_map, insAll_len x l]
    rfl
theorem insAll_mem {x : Nat} : ∀ {l m : List Nat}, m ∈ insAll x l ↔ ∃ A B, l = A ++ B ∧ m = A ++ x :: B
  | [], m => by
    constructor
    · intro h
      rw [List.mem_singleton.mp h]
      exact ⟨[], [], rfl, rfl⟩
    · rintro ⟨A, B, h, rfl⟩
      obtain ⟨rfl, rfl⟩ := List.append_eq_nil_iff.mp h.symm
      exact List.mem_singleton.mpr rfl
  | y :: l, m => by
    constructor
    · intro h
      rcases List.mem_cons.mp h with rfl | h
      · exact ⟨[], y :: l, rfl, rfl⟩
      · obtain ⟨m', h', rfl⟩ := List.mem_map.mp h
        obtain ⟨A, B, rfl, rfl⟩ := insAll_mem.mp h'
        exact ⟨y :: A, B, rfl, rfl⟩
    · rintro ⟨A, B, h, rfl⟩
      cases A with
      | nil => rw [show B = y :: l from h.symm]; exact List.mem_cons_self
      | cons a A =>
        injection h with h1 h2
        subst h1
        exact List.mem_cons_of_mem _ (List.mem_map.mpr ⟨A ++ x :: B, insAll_mem.mpr ⟨A, B, h2, rfl⟩, rfl⟩)
theorem perms_mem : ∀ {l m : List Nat}, m ∈ permsL l ↔ m.Perm l
  | [], m => by
    constructor
    · intro h
      rw [List.mem_singleton.mp h]
    · intro h
      rw [h.eq_nil]
      exact List.mem_singleton.mpr rfl
  | x :: l, m => by
    constructor
    · intro h
      obtain ⟨k, hk, h⟩ := List.mem_flatMap.mp h
      obtain ⟨A, B, rfl, rfl⟩ := insAll_mem.mp h
      exact List.perm_middle.trans ((perms_mem.mp hk).cons x)
    · intro h
      obtain ⟨A, B, rfl⟩ := List.append_of_mem (h.mem_iff.mpr List.mem_cons_self)
      exact List.mem_flatMap.mpr ⟨A ++ B, perms_mem.mpr ((List.perm_middle.symm.trans h).cons_inv), insAll_mem.mpr ⟨A, B, rfl, rfl⟩⟩
theorem flat_sum {α β : Type} {f : α → List β} {m : Nat} : ∀ {l : List α}, (∀ x ∈ l, (f x).length = m) → (l.flatMap f).length = l.length * m
  | [], _ => by rw [List.flatMap_nil, List.length_nil, List.length_nil, Nat.zero_mul]
  | x :: l, h => by
    rw [List.flatMap_cons, List.length_append, h x List.mem_cons_self, flat_sum fun y hy => h y (List.mem_cons_of_mem _ hy), List.length_cons, Nat.succ_mul, Nat.add_comm]
theorem perms_len : ∀ l : List Nat, (permsL l).length = fac l.length
  | [] => rfl
  | x :: l => by
    show ((permsL l).flatMap (insAll x)).length = (l.length + 1) * fac l.length
    rw [flat_sum (m := l.length + 1) fun m hm => by rw [insAll_len, (perms_mem.mp hm).length_eq], perms_len l, Nat.mul_comm]
theorem ins_inj {x : Nat} {A B C D : List Nat} (h1 : x ∉ A) (h2 : x ∉ C) (h : A ++ x :: B = C ++ x :: D) : A = C ∧ B = D := by
  induction A generalizing C with
  | nil =>
    cases C with
    | nil => exact ⟨rfl, List.tail_eq_of_cons_eq h⟩
    | cons c C =>
      injection h with e _
      exact (h2 (e ▸ List.mem_cons_self)).elim
  | cons a A ih =>
    cases C with
    | nil =>
      injection h with e _
      exact (h1 (e ▸ List.mem_cons_self)).elim
    | cons c C =>
      injection h with e h
      obtain ⟨r1, r2⟩ := ih (fun z => h1 (List.mem_cons_of_mem _ z)) (fun z => h2 (List.mem_cons_of_mem _ z)) h
      exact ⟨by rw [e, r1], r2⟩
theorem insAll_nodup {x : Nat} : ∀ {l : List Nat}, x ∉ l → (insAll x l).Nodup
  | [], _ => List.nodup_cons.mpr ⟨List.not_mem_nil, List.nodup_nil⟩
  | y :: l, h => by
    refine List.nodup_cons.mpr ⟨fun z => ?_, ?_⟩
    · obtain ⟨m, _, e⟩ := List.mem_map.mp z
      injection e with e _
      exact h (e ▸ List.mem_cons_self)
    · exact List.Pairwise.map (y :: ·) (R := (· ≠ ·)) (S := (· ≠ ·)) (fun a b ne e => ne (by injection e)) (insAll_nodup fun z => h (List.mem_cons_of_mem _ z))
theorem nodup_flat {α β : Type} {f : α → List β} : ∀ {l : List α}, l.Nodup → (∀ x ∈ l, (f x).Nodup) → (∀ x ∈ l, ∀ y ∈ l, ∀ b, b ∈ f x → b ∈ f y → x = y) → (l.flatMap f).Nodup
  | [], _, _, _ => List.nodup_nil
  | x :: l, nd, h, k => by
    rw [List.flatMap_cons]
    obtain ⟨n1, n2⟩ := List.nodup_cons.mp nd
    refine List.nodup_append.mpr ⟨h x List.mem_cons_self, nodup_flat n2 (fun y hy => h y (List.mem_cons_of_mem _ hy)) (fun y hy z hz => k y (List.mem_cons_of_mem _ hy) z (List.mem_cons_of_mem _ hz)), fun a ha b hb e => ?_⟩
    obtain ⟨y, hy, hb⟩ := List.mem_flatMap.mp hb
    exact n1 (k x List.mem_cons_self y (List.mem_cons_of_mem _ hy) a ha (e ▸ hb) ▸ hy)
theorem perms_nodup : ∀ {l : List Nat}, l.Nodup → (permsL l).Nodup
  | [], _ => List.nodup_cons.mpr ⟨List.not_mem_nil, List.nodup_nil⟩
  | x :: l, nd => by
    obtain ⟨n1, n2⟩ := List.nodup_cons.mp nd
    have out : ∀ m ∈ permsL l, x ∉ m := fun m hm z => n1 ((perms_mem.mp hm).mem_iff.mp z)
    refine nodup_flat (perms_nodup n2) (fun m hm => insAll_nodup (out m hm)) fun a ha b hb c h1 h2 => ?_
    obtain ⟨A, B, rfl, rfl⟩ := insAll_mem.mp h1
    obtain ⟨C, D, rfl, e⟩ := insAll_mem.mp h2
    have oa := out _ ha
    have ob := out _ hb
    obtain ⟨rfl, rfl⟩ := ins_inj (fun z => oa (List.mem_append_left _ z)) (fun z => ob (List.mem_append_left _ z)) e
    rfl
/-! ### one of each row -/
def cart : List (List (List Nat)) → List (List (List Nat))
  | [] => [[]]
  | P :: Ps => P.flatMap fun x => (cart Ps).map (x :: ·)
def prodL : List Nat → Nat
  | [] => 1
  | x :: l => x * prodL l
theorem cart_len : ∀ Ps : List (List (List Nat)), (cart Ps).length = prodL (Ps.map List.length)
  | [] => rfl
  | P :: Ps => by
    show (P.flatMap fun x => (cart Ps).map (x :: ·)).length = P.length * prodL (Ps.map List.length)
    rw [flat_sum (m := prodL (Ps.map List.length)) fun x _ => by rw [List.length_map, cart_len Ps]]
inductive Picks : List (List Nat) → List (List (List Nat)) → Prop
  | nil : Picks [] []
  | cons {x : List Nat} {P : List (List Nat)} {m : List (List Nat)} {Ps : List (List (List Nat))} : x ∈ P → Picks m Ps → Picks (x :: m) (P :: Ps)
theorem cart_mem : ∀ {Ps : List (List (List Nat))} {m : List (List Nat)}, m ∈ cart Ps ↔ Picks m Ps
  | [], m => by
    constructor
    · intro h
      rw [List.mem_singleton.mp h]
      exact .nil
    · intro h
      cases h
      exact List.mem_singleton.mpr rfl
  | P :: Ps, m => by
    constructor
    · intro h
      obtain ⟨x, hx, h⟩ := List.mem_flatMap.mp h
      obtain ⟨m', h', rfl⟩ := List.mem_map.mp h
      exact .cons hx (cart_mem.mp h')
    · intro h
      cases h with
      | cons a b => exact List.mem_flatMap.mpr ⟨_, a, List.mem_map.mpr ⟨_, cart_mem.mpr b, rfl⟩⟩
theorem cart_nodup : ∀ {Ps : List (List (List Nat))}, (∀ P ∈ Ps, P.Nodup) → (cart Ps).Nodup
  | [], _ => List.nodup_cons.mpr ⟨List.not_mem_nil, List.nodup_nil⟩
  | P :: Ps, h => by
    refine nodup_flat (h P List.mem_cons_self) (fun x _ => List.Pairwise.map (x :: ·) (R := (· ≠ ·)) (S := (· ≠ ·)) (fun a b ne e => ne (by injection e)) (cart_nodup fun Q hQ => h Q (List.mem_cons_of_mem _ hQ))) fun x _ y _ b h1 h2 => ?_
    obtain ⟨m1, _, rfl⟩ := List.mem_map.mp h1
    obtain ⟨m2, _, e⟩ := List.mem_map.mp h2
    injection e with e _
    exact e.symm
/-! ### different values -/
section
variable {α β γ : Type} [DecidableEq α] [DecidableEq β]
def addN (acc : List α) (x : α) : List α := if x ∈ acc then acc else acc ++ [x]
def ded (l : List α) : List α := l.foldl addN []
theorem ded_snoc (l : List α) (x : α) : ded (l ++ [x]) = addN (ded l) x := by
  unfold ded
  rw [List.foldl_append]
  rfl
theorem add_mem {acc : List α} {x y : α} : y ∈ addN acc x ↔ y ∈ acc ∨ y = x := by
  unfold addN
  by_cases h : x ∈ acc
  · rw [if_pos h]
    exact ⟨.inl, fun k => k.elim id fun e => e ▸ h⟩
  · rw [if_neg h, List.mem_append, List.mem_singleton]
theorem fold_mem : ∀ {l acc : List α} {y : α}, y ∈ l.foldl addN acc ↔ y ∈ acc ∨ y ∈ l
  | [], acc, y => by rw [List.foldl_nil]; exact ⟨.inl, fun h => h.elim id fun z => nomatch z⟩
  | x :: l, acc, y => by
    rw [List.foldl_cons, fold_mem, add_mem, List.mem_cons, or_assoc]
theorem ded_mem {l : List α} {y : α} : y ∈ ded l ↔ y ∈ l := by
  unfold ded
  rw [fold_mem]
  exact ⟨fun h => h.elim (fun z => nomatch z) id, .inr⟩
theorem fold_nodup : ∀ {l acc : List α}, acc.Nodup → (l.foldl addN acc).Nodup
  | [], _, h => h
  | x :: l, acc, h => by
    rw [List.foldl_cons]
    refine fold_nodup ?_
    unfold addN
    by_cases k : x ∈ acc
    · rw [if_pos k]
      exact h
    · rw [if_neg k]
      refine List.nodup_append.mpr ⟨h, List.nodup_cons.mpr ⟨List.not_mem_nil, List.nodup_nil⟩, fun a ha b hb e => k ?_⟩
      rw [← List.mem_singleton.mp hb, ← e]
      exact ha
theorem ded_nodup (l : List α) : (ded l).Nodup := fold_nodup List.nodup_nil
theorem ded_like {f : γ → α} {g : γ → β} : ∀ l : List γ, (∀ a ∈ l, ∀ b ∈ l, f a = f b ↔ g a = g b) → (ded (l.reverse.map f)).length = (ded (l.reverse.map g)).length
  | [], _ => rfl
  | x :: l, h => by
    rw [List.reverse_cons, List.map_append, List.map_append, List.map_singleton, List.map_singleton, ded_snoc, ded_snoc]
    have ih := ded_like l fun a ha b hb => h a (List.mem_cons_of_mem _ ha) b (List.mem_cons_of_mem _ hb)
    have e : f x ∈ ded (l.reverse.map f) ↔ g x ∈ ded (l.reverse.map g) := by
      rw [ded_mem, ded_mem, List.mem_map, List.mem_map]
      constructor
      · rintro ⟨b, hb, e⟩
        exact ⟨b, hb, (h b (List.mem_cons_of_mem _ (List.mem_reverse.mp hb)) x List.mem_cons_self).mp e⟩
      · rintro ⟨b, hb, e⟩
        exact ⟨b, hb, (h b (List.mem_cons_of_mem _ (List.mem_reverse.mp hb)) x List.mem_cons_self).mpr e⟩
    unfold addN
    by_cases k : f x ∈ ded (l.reverse.map f)
    · rw [if_pos k, if_pos (e.mp k), ih]
    · rw [if_neg k, if_neg (fun z => k (e.mpr z)), List.length_append, List.length_append, ih]
      rfl
theorem ded_same {f : γ → α} {g : γ → β} {l : List γ} (h : ∀ a ∈ l, ∀ b ∈ l, f a = f b ↔ g a = g b) : (ded (l.map f)).length = (ded (l.map g)).length := by
  have := ded_like l.reverse fun a ha b hb => h a (List.mem_reverse.mp ha) b (List.mem_reverse.mp hb)
  rwa [List.reverse_reverse] at this
end
/-! ### swaps of numbers -/
def swpN (zs : List Nat) (e : Pr) : List Nat := (zs.set e.1 (zs.getD e.2 0)).set e.2 (zs.getD e.1 0)
def swpsN (zs : List Nat) (os : List Pr) : List Nat := os.foldl swpN zs
def strN (k : Nat) : Str := ⟨#[k]⟩
theorem strN_inj {i j : Nat} (h : strN i = strN j) : i = j := by
  have : #[i] = #[j] := congrArg Str.cps h
  simpa using this
theorem swpN_len (zs : List Nat) (e : Pr) : (swpN zs e).length = zs.length := by
  unfold swpN
  rw [List.length_set, List.length_set]
theorem swpsN_len : ∀ (os : List Pr) (zs : List Nat), (swpsN zs os).length = zs.length
  | [], _ => rfl
  | e :: os, zs => (swpsN_len os (swpN zs e)).trans (swpN_len zs e)
theorem swpN_map {zs : List Nat} {e : Pr} (h1 : e.1 < zs.length) (h2 : e.2 < zs.length) : swp (zs.map strN) e = (swpN zs e).map strN := by
  unfold swp swpN
  rw [List.map_set, List.map_set]
  congr 2
  · rw [List.getD_eq_getElem?_getD, List.getD_eq_getElem?_getD, List.getElem?_map, List.getElem?_eq_getElem h2]
    rfl
  · rw [List.getD_eq_getElem?_getD, List.getD_eq_getElem?_getD, List.getElem?_map, List.getElem?_eq_getElem h1]
    rfl
theorem swpsN_map : ∀ {os : List Pr} {zs : List Nat}, (∀ e ∈ os, e.1 < zs.length ∧ e.2 < zs.length) → swps (zs.map strN) os = (swpsN zs os).map strN
  | [], _, _ => rfl
  | e :: os, zs, h => by
    obtain ⟨h1, h2⟩ := h e List.mem_cons_self
    show swps (swp (zs.map strN) e) os = (swpsN (swpN zs e) os).map strN
    rw [swpN_map h1 h2]
    exact swpsN_map fun f hf => by
      rw [swpN_len]
      exact h f (List.mem_cons_of_mem _ hf)
theorem mapN_inj : ∀ {a b : List Nat}, a.map strN = b.map strN → a = b
  | [], [], _ => rfl
  | [], _ :: _, h => nomatch h
  | _ :: _, [], h => nomatch h
  | x :: a, y :: b, h => by
    injection h with h1 h2
    rw [strN_inj h1, mapN_inj h2]
theorem same_result {n : Nat} {es os os' : List Pr} (E : Edges n es) (pm : os.Perm es) (pm' : os'.Perm es) : swpsN (List.range n) os = swpsN (List.range n) os' ↔ ∀ p, turnOf p os = turnOf p os' := by
  have inn : ∀ {qs : List Pr}, qs.Perm es → ∀ e ∈ qs, e.1 < (List.range n).length ∧ e.2 < (List.range n).length := fun q e he => by
    obtain ⟨h1, h2⟩ := E.inn e (q.mem_iff.mp he)
    rw [List.length_range]
    omega
  have nd : ((List.range n).map strN).Nodup := List.Pairwise.map strN (R := (· ≠ ·)) (S := (· ≠ ·)) (fun a b ne e => ne (strN_inj e)) List.nodup_range
  have key := same_outcome (zs := (List.range n).map strN) E pm pm' (by rw [List.length_map, List.length_range]) nd
  rw [swpsN_map (inn pm), swpsN_map (inn pm')] at key
  exact ⟨fun h => key.mp (by rw [h]), fun h => mapN_inj (key.mpr h)⟩
/-- the turns of an order, row by row -/
def rowsOf (n : Nat) (os : List Pr) : List (List Nat) := (List.range n).map fun p => turnOf p os
theorem rows_same {n : Nat} {es os os' : List Pr} (E : Edges n es) (pm : os.Perm es) (pm' : os'.Perm es) : rowsOf n os = rowsOf n os' ↔ ∀ p, turnOf p os = turnOf p os' := by
  constructor
  · intro h p
    by_cases lt : p < n
    · have := congrArg (fun l => l[p]?) h
      simp only [rowsOf, List.getElem?_map, List.getElem?_range lt, Option.map_some, Option.some.injEq] at this
      exact this
    · have none : ∀ {qs : List Pr}, qs.Perm es → turnOf p qs = [] := fun q => by
        refine List.eq_nil_iff_forall_not_mem.mpr fun x hx => ?_
        obtain ⟨e, he, k⟩ := mem_turn hx
        have := E.inn e (q.mem_iff.mp he)
        rcases k with ⟨k1, k2⟩ | ⟨k1, k2⟩ <;> omega
      rw [none pm, none pm']
  · intro h
    unfold rowsOf
    exact List.map_congr_left fun p _ => h p
theorem picks_of {n : Nat} {es os : List Pr} (pm : os.Perm es) : Picks (rowsOf n os) ((List.range n).map fun p => permsL (turnOf p es)) := by
  unfold rowsOf
  induction (List.range n) with
  | nil => exact .nil
  | cons p l ih => exact .cons (perms_mem.mpr (turn_perm pm p)) ih
theorem picks_rows : ∀ {l : List Nat} {m : List (List Nat)} {f : Nat → List Nat}, Picks m (l.map fun p => permsL (f p)) → m.length = l.length ∧ ∀ (i : Nat) (x : List Nat) (p : Nat), m[i]? = some x → l[i]? = some p → x.Perm (f p)
  | [], m, f, h => by
    cases h
    exact ⟨rfl, fun i x p e => nomatch e⟩
  | q :: l, m, f, h => by
    cases h with
    | cons a b =>
      obtain ⟨h1, h2⟩ := picks_rows b
      refine ⟨congrArg (· + 1) h1, fun i x p e1 e2 => ?_⟩
      cases i with
      | zero =>
        cases e1
        cases e2
        exact perms_mem.mp a
      | succ i => exact h2 i x p e1 e2
/-- as many results as turns -/
theorem results_count {n : Nat} {es : List Pr} {L : List (List Pr)} (E : Edges n es) (hL : ∀ os, os ∈ L ↔ os.Perm es) : (ded (L.map (swpsN (List.range n)))).length = prodL ((List.range n).map fun p => fac (turnOf p es).length) := by
  rw [ded_same (g := rowsOf n) fun a ha b hb => (same_result E ((hL a).mp ha) ((hL b).mp hb)).trans (rows_same E ((hL a).mp ha) ((hL b).mp hb)).symm]
  have pm : (ded (L.map (rowsOf n))).Perm (cart ((List.range n).map fun p => permsL (turnOf p es))) := by
    refine (List.perm_ext_iff_of_nodup (ded_nodup _) (cart_nodup fun P hP => ?_)).mpr fun m => ?_
    · obtain ⟨p, _, rfl⟩ := List.mem_map.mp hP
      exact perms_nodup (turn_nodup E (List.Perm.refl es) p)
    · rw [ded_mem, cart_mem, List.mem_map]
      constructor
      · rintro ⟨os, ho, rfl⟩
        exact picks_of ((hL os).mp ho)
      · intro h
        obtain ⟨hl, hp⟩ := picks_rows h
        rw [List.length_range] at hl
        have tp : ∀ p, (m.getD p []).Perm (turnOf p es) := fun p => by
          by_cases lt : p < n
          · rw [List.getD_eq_getElem?_getD, List.getElem?_eq_getElem (by omega)]
            exact hp p _ p (List.getElem?_eq_getElem (by omega)) (List.getElem?_range lt)
          · rw [List.getD_eq_getElem?_getD, List.getElem?_eq_none (by omega)]
            have none : turnOf p es = [] := by
              refine List.eq_nil_iff_forall_not_mem.mpr fun x hx => ?_
              obtain ⟨e, he, k⟩ := mem_turn hx
              have := E.inn e he
              rcases k with ⟨k1, k2⟩ | ⟨k1, k2⟩ <;> omega
            rw [none]
            exact List.Perm.refl _
        obtain ⟨os, po, ht⟩ := turns_order E (fun p => m.getD p []) tp
        refine ⟨os, (hL os).mpr po, ?_⟩
        refine List.ext_getElem? fun i => ?_
        unfold rowsOf
        by_cases lt : i < n
        · rw [List.getElem?_map, List.getElem?_range lt, Option.map_some, ht, List.getD_eq_getElem?_getD, List.getElem?_eq_getElem (by omega)]
          rfl
        · rw [List.getElem?_eq_none (by rw [List.length_map, List.length_range]; omega), List.getElem?_eq_none (by omega)]
  rw [pm.length_eq, cart_len, List.map_map]
  refine congrArg prodL (List.map_congr_left fun p _ => ?_)
  exact perms_len _
/-! ### products of factorials are small -/
theorem fac_mul : ∀ a b, fac a * fac b ≤ fac (a + b)
  | 0, b => by
    rw [Nat.zero_add]
    exact Nat.le_of_eq (Nat.one_mul _)
  | a + 1, b => by
    rw [Nat.add_right_comm]
    show (a + 1) * fac a * fac b ≤ (a + b + 1) * fac (a + b)
    rw [Nat.mul_assoc]
    exact Nat.mul_le_mul (by omega) (fac_mul a b)
theorem fac_mono {a b : Nat} (h : a ≤ b) : fac a ≤ fac b := by
  obtain ⟨c, rfl⟩ := Nat.le.dest h
  exact Nat.le_trans (Nat.le_mul_of_pos_right _ (fac_pos c)) (fac_mul a c)
theorem prod_fac : ∀ l : List Nat, prodL (l.map fac) ≤ fac l.sum
  | [] => Nat.le_refl _
  | x :: l => by
    show fac x * prodL (l.map fac) ≤ fac (x :: l).sum
    rw [List.sum_cons]
    exact Nat.le_trans (Nat.mul_le_mul_left _ (prod_fac l)) (fac_mul x l.sum)
theorem prod_pos : ∀ l : List Nat, 1 ≤ prodL (l.map fac)
  | [] => Nat.le_refl _
  | x :: l => Nat.mul_le_mul (fac_pos x) (prod_pos l)
theorem prod_app : ∀ a b : List Nat, prodL (a ++ b) = prodL a * prodL b
  | [], b => (Nat.one_mul _).symm
  | x :: a, b => by
    show x * prodL (a ++ b) = x * prodL a * prodL b
    rw [prod_app a b, Nat.mul_assoc]
theorem sum_add {f g : Nat → Nat} : ∀ l : List Nat, (l.map fun p => f p + g p).sum = (l.map f).sum + (l.map g).sum
  | [] => rfl
  | x :: l => by
    rw [List.map_cons, List.map_cons, List.map_cons, List.sum_cons, List.sum_cons, List.sum_cons, sum_add l]
    omega
theorem sum_one {q : Nat} : ∀ {l : List Nat}, l.Nodup → (l.map fun p => if q = p then 1 else 0).sum ≤ 1
  | [], _ => Nat.zero_le _
  | x :: l, nd => by
    obtain ⟨n1, n2⟩ := List.nodup_cons.mp nd
    rw [List.map_cons, List.sum_cons]
    by_cases e : q = x
    · rw [if_pos e]
      have z : ∀ m : List Nat, q ∉ m → (m.map fun p => if q = p then 1 else 0).sum = 0 := fun m => by
        induction m with
        | nil => exact fun _ => rfl
        | cons y m ih =>
          intro h
          rw [List.map_cons, List.sum_cons, if_neg (fun k : q = y => h (k ▸ List.mem_cons_self)), ih fun k => h (List.mem_cons_of_mem _ k)]
      rw [z l (e ▸ n1)]
      exact Nat.le_refl _
    · rw [if_neg e]
      have := sum_one (q := q) n2
      omega
theorem degs_sum {n : Nat} : ∀ es : List Pr, ((List.range n).map fun p => (turnOf p es).length).sum ≤ 2 * es.length
  | [] => by
    have : ∀ l : List Nat, (l.map fun p => (turnOf p []).length).sum = 0 := fun l => by
      induction l with
      | nil => rfl
      | cons x l ih =>
        rw [List.map_cons, List.sum_cons, ih]
        rfl
    rw [this]
    exact Nat.zero_le _
  | e :: es => by
    have step : ∀ p, (turnOf p (e :: es)).length ≤ ((if e.1 = p then 1 else 0) + (if e.2 = p then 1 else 0)) + (turnOf p es).length := fun p => by
      unfold turnOf
      rw [List.filterMap_cons]
      by_cases h1 : e.1 = p
      · rw [if_pos h1, if_pos h1]
        simp only [List.length_cons]
        omega
      · rw [if_neg h1, if_neg h1]
        by_cases h2 : e.2 = p
        · rw [if_pos h2, if_pos h2]
          simp only [List.length_cons]
          omega
        · rw [if_neg h2, if_neg h2]
          simp only
          omega
    have le : ∀ (f g : Nat → Nat) (l : List Nat), (∀ p, f p ≤ g p) → (l.map f).sum ≤ (l.map g).sum := fun f g l h => by
      induction l with
      | nil => exact Nat.le_refl _
      | cons x l ih =>
        rw [List.map_cons, List.map_cons, List.sum_cons, List.sum_cons]
        have := h x
        omega
    have h := le _ _ (List.range n) step
    rw [sum_add, sum_add] at h
    have s1 := sum_one (q := e.1) (List.nodup_range (n := n))
    have s2 := sum_one (q := e.2) (List.nodup_range (n := n))
    have ih := degs_sum (n := n) es
    rw [List.length_cons]
    omega
theorem fac78 : fac 78 < 10 ^ 200 := by decide +kernel
theorem count_small {n : Nat} {es : List Pr} (h : es.length ≤ 39) : prodL ((List.range n).map fun p => fac (turnOf p es).length) < 10 ^ 200 := by
  have e : ((List.range n).map fun p => fac (turnOf p es).length) = ((List.range n).map fun p => (turnOf p es).length).map fac := by
    rw [List.map_map]
    rfl
  rw [e]
  have h1 := prod_fac ((List.range n).map fun p => (turnOf p es).length)
  have h2 := fac_mono (Nat.le_trans (degs_sum (n := n) es) (show 2 * es.length ≤ 78 by omega))
  have := fac78
  omega
/-! ### how long a great number is written -/
theorem nat_shown {i k : Nat} (hk : 1 ≤ k) (h : i < 10 ^ k) : (PyData.int (i : Int)).shown.length ≤ k := by
  show (Str.ofString (toString (i : Int))).length ≤ k
  rw [ofString_len]
  exact (Nat.length_repr_le_iff hk).mpr h
theorem Lim.nat {i k : Nat} (hk : 1 ≤ k) (hk' : k ≤ 570) (h : i < 10 ^ k) : Lim k 0 (.int (i : Int)) := by
  refine ⟨nat_shown hk h, Nat.zero_le _, ?_, rfl⟩
  show decide (((i : Int)).natAbs.log2 < 1920) = true
  refine decide_eq_true ?_
  have : ((i : Int)).natAbs = i := by omega
  rw [this]
  by_cases z : i = 0
  · rw [z]
    decide
  · refine (Nat.log2_lt z).mpr (Nat.lt_of_lt_of_le h (Nat.le_trans (Nat.pow_le_pow_right (by decide) hk') ?_))
    decide +kernel
end Os
/-! products in place, factorials, dicts with tuples as keys -/
namespace Os
open PySem PySem.Spec PyProof.Rows L2 Evl
section
variable {X : Cx}
def ipC (C : Int → Int → Prop) (f : Int → Int → Int) : TIp := fun x y H Q => ∃ i j, x = .int i ∧ y = .int j ∧ C i j ∧ Q (.int (f i j)) H
theorem ip_mulW : PIp X .Mult (ipC CMulW fun i j => i * j) := by
  intro pins s σ H x y v u Q I r1 r2 h
  obtain ⟨i, j, e1, e2, c, q⟩ := h
  subst e1; subst e2
  obtain ⟨t, rfl⟩ := r1
  obtain ⟨t', rfl⟩ := r2
  exact imul_int ⟨.int _, H, I.tok _, ⟨_, rfl⟩, q⟩ c.ok
theorem fact_fac (n : Nat) : Builtin.Math.factorialNat n = fac n := by
  induction n with
  | zero => rfl
  | succ n ih =>
    have s : Builtin.Math.factorialNat (n + 1) = Builtin.Math.factorialNat n * (n + 1) := by
      unfold Builtin.Math.factorialNat
      rw [List.range_succ, List.foldl_append]
      rfl
    rw [s, ih, Nat.mul_comm]
    rfl
def rFact : List V → Hp → VK → Prop := fun vs H Q => ∃ n : Nat, vs = [.int (n : Int)] ∧ n ≤ 60 ∧ Q (.int ((fac n : Nat) : Int)) H
theorem fac60 : fac 60 < 2 ^ 300 := by decide +kernel
theorem fac_bits {n : Nat} (h : n ≤ 60) : ((fac n : Nat) : Int).natAbs < 2 ^ 300 := by
  have h1 : ((fac n : Nat) : Int).natAbs = fac n := by omega
  rw [h1]
  exact Nat.lt_of_le_of_lt (fac_mono h) fac60
theorem cr_fact : CallR X (.builtin "math.factorial") rFact := by
  intro pins s σ H vs us Q I r h
  obtain ⟨n, rfl, hn, q⟩ := h
  obtain ⟨u, rfl, ru⟩ := Vals.one r
  obtain ⟨t, rfl⟩ := ru
  have e : Builtin.Math.factorialNat ((n : Int)).toNat = fac n := by rw [Int.toNat_natCast, fact_fac]
  refine PySem.W.mg_factorial_v (c := ((fac n : Nat) : Int)) ?_ ?_ ?_ (by rw [e]) ?_ ⟨.int _, H, I.tok _, ⟨_, rfl⟩, q⟩
  · have : Builtin.Math.maxSsize = 9223372036854775807 := by decide
    omega
  · omega
  · have : (60 : Int) ≤ Builtin.Math.manyFactors := by decide
    omega
  · exact Nat.lt_of_lt_of_le (PySem.Flt.log2_lt_of (by decide) (fac_bits hn)) (by decide)
end
section
variable {K : PySem.W.Frag} {σ : L2.St} {H : Hp} {D : Ends} {ta tb te : TE} {tz : TS}
theorem ev_fact {n : Nat} (h : Ev ta σ H (.int (n : Int))) (hn : n ≤ 60) : Ev (tCB rFact (tCons ta tNil)) σ H (.int ((fac n : Nat) : Int)) := fun H1 e Q q =>
  h H1 e _ fun H2 e2 => ⟨n, rfl, hn, q H2 e2⟩
theorem s_augC {i : Nat} {C : Int → Int → Prop} {f : Int → Int → Int} {a b : Int} (hx : σ[i]? = some (some (.int a))) (h : Ev te σ H (.int b)) (c : C a b) (k : ∀ H1, Ex H H1 → D.nx (σ.set i (some (.int (f a b)))) H1) : tAug i te (ipC C f) D σ H :=
  ⟨_, hx, h H (Ex.refl H) _ fun H1 e => ⟨a, b, rfl, rfl, c, k H1 e⟩⟩
theorem q_augC {i : Nat} {C : Int → Int → Prop} {f : Int → Int → Int} {a b : Int} (hx : σ[i]? = some (some (.int a))) (h : Ev te σ H (.int b)) (c : C a b) (k : ∀ H1, Ex H H1 → tz D (σ.set i (some (.int (f a b)))) H1) : tSeq (tAug i te (ipC C f)) tz D σ H :=
  s_augC (D := { D with nx := tz D }) hx h c k
theorem rv_mulW {i j : Int} (c : CMulW i j) : RV (rI CMulW fun i j => .int (i * j)) (.int i) (.int j) H (.int (i * j)) := fun H1 _ _ q => ⟨i, j, rfl, rfl, c, q H1 (Ex.refl H1)⟩
theorem ev_lenDT {p : Addr} {kvs : List (List Key × V)} (h : Ev ta σ H (.ref p)) (hp : H p = some (.dT kvs)) : Ev (tCB rLenT (tCons ta tNil)) σ H (.int ((kvs.length : Nat) : Int)) := fun H1 e Q q =>
  h H1 e _ fun H2 e2 => ⟨p, kvs, rfl, e2 _ _ (e _ _ hp), q H2 e2⟩
/-! ### the keys of a dict -/
def intKey (l : List Nat) : List Key := l.map fun x : Nat => Sum.inl (x : Int)
theorem intKey_inj : ∀ {a b : List Nat}, intKey a = intKey b → a = b
  | [], [], _ => rfl
  | [], _ :: _, h => nomatch h
  | _ :: _, [], h => nomatch h
  | x :: a, y :: b, h => by
    have h1 := (List.cons.inj h).1
    have h2 := (List.cons.inj h).2
    have h3 : (x : Int) = (y : Int) := Sum.inl.inj h1
    rw [Int.ofNat.inj h3, intKey_inj h2]
def trueAll (l : List (List Nat)) : List (List Key × V) := l.map fun k => (intKey k, V.bl true)
theorem put_true (l : List (List Nat)) (x : List Nat) : putK (trueAll l) (intKey x) (.bl true) = trueAll (addN l x) := by
  unfold putK addN
  have e : ((trueAll l).any fun kv => decide (kv.1 = intKey x)) = decide (x ∈ l) := by
    unfold trueAll
    rw [List.any_map]
    by_cases h : x ∈ l
    · rw [decide_eq_true h, List.any_eq_true]
      exact ⟨x, h, decide_eq_true rfl⟩
    · rw [decide_eq_false h, List.any_eq_false]
      intro y hy z
      exact h (intKey_inj (of_decide_eq_true z) ▸ hy)
  rw [e]
  by_cases h : x ∈ l
  · rw [decide_eq_true h, if_pos rfl, if_pos h]
    unfold trueAll
    rw [List.map_map]
    refine List.map_congr_left fun y _ => ?_
    show (if intKey y = intKey x then (intKey y, V.bl true) else (intKey y, V.bl true)) = _
    rw [ite_self]
  · rw [decide_eq_false h, if_neg (by decide), if_neg h]
    unfold trueAll
    rw [List.map_append]
    rfl
end
end Os
/-! loops over what a call returns; simple forests by computation -/
namespace Os
open PySem PySem.Spec PyProof.Rows L2 Evl
section
variable {K : PySem.W.Frag} {σ : L2.St} {H : Hp} {D : Ends} {tl : TE} {tu tz : TS} {g : TG}
theorem s_forC (R : Addr → List V → Hp → Prop) (h : ∀ Q : VK, (∀ p xs H1, R p xs H1 → Q (.ref p) H1) → tl σ H Q) (Pv : Addr → List V → Nat → L2.St → Hp → Prop) (h0 : ∀ p xs H1, R p xs H1 → H1 p = some (.lst xs) ∧ Pv p xs 0 σ H1) (hl : ∀ p xs i σ' H', Pv p xs i σ' H' → H' p = some (.lst xs))
    (hs : ∀ p xs i x σ' H', xs[i]? = some x → Pv p xs i σ' H' → g x σ' H' fun σ2 H2 => tu { D with nx := Pv p xs (i + 1), ct := Pv p xs (i + 1), bk := D.nx } σ2 H2) (hd : ∀ p xs σ' H', Pv p xs xs.length σ' H' → D.nx σ' H') : tFor (iList K tl) g tu D σ H :=
  h _ fun p xs H1 r => ⟨p, rfl, ⟨xs, sq_of (h0 p xs H1 r).1⟩, for_list (Pv p xs) (h0 p xs H1 r).2 (fun i σ' H' _ q => sq_of (hl p xs i σ' H' q)) (hs p xs) (hd p xs)⟩
theorem q_forC (R : Addr → List V → Hp → Prop) (h : ∀ Q : VK, (∀ p xs H1, R p xs H1 → Q (.ref p) H1) → tl σ H Q) (Pv : Addr → List V → Nat → L2.St → Hp → Prop) (h0 : ∀ p xs H1, R p xs H1 → H1 p = some (.lst xs) ∧ Pv p xs 0 σ H1) (hl : ∀ p xs i σ' H', Pv p xs i σ' H' → H' p = some (.lst xs))
    (hs : ∀ p xs i x σ' H', xs[i]? = some x → Pv p xs i σ' H' → g x σ' H' fun σ2 H2 => tu { D with nx := Pv p xs (i + 1), ct := Pv p xs (i + 1), bk := tz D } σ2 H2) (hd : ∀ p xs σ' H', Pv p xs xs.length σ' H' → tz D σ' H') : tSeq (tFor (iList K tl) g tu) tz D σ H :=
  s_forC (D := { D with nx := tz D }) R h Pv h0 hl hs hd
end
section
variable {K : PySem.W.Frag} {σ : L2.St} {H : Hp} {D : Ends} {t : TT} {tu tz : TS}
theorem q_whenR {b : Bool} (R : L2.St → Hp → Prop) (k : ∀ σ' H', R σ' H' → tz D σ' H') (h : EvT t σ H b) (h1 : (∀ σ' H', R σ' H' → tz D σ' H') → b = true → ∀ H1, Ex H H1 → tu { D with nx := tz D } σ H1) (h2 : b = false → ∀ H1, Ex H H1 → R σ H1) : tSeq (tIfS t tu tNext) tz D σ H :=
  q_when h (h1 k) fun hb H1 e => k _ _ (h2 hb H1 e)
theorem q_te' {i : Nat} {te : TE} (h : te σ H fun v H' => D.nx (σ.set i (some v)) H') : tAsg te (gName i) D σ H := h
theorem q_te {i : Nat} {te : TE} (h : te σ H fun v H' => tz D (σ.set i (some v)) H') : tSeq (tAsg te (gName i)) tz D σ H := h
theorem q_asgG {te : TE} {g : TG} (h : te σ H fun v H1 => g v σ H1 fun σ2 H2 => tz D σ2 H2) : tSeq (tAsg te g) tz D σ H := h
theorem cb_one {te : TE} {r : List V → Hp → VK → Prop} {Q : VK} (h : te σ H fun v H1 => r [v] H1 Q) : tCB r (tCons te tNil) σ H Q := h
theorem room1 {k : Nat} {A : Around} (r : Room k A) : A.units + 1 < cLine := by have := r.un; omega
end
theorem rgV_nat (n : Nat) : rgV 0 (n : Int) = (List.range n).map fun x : Nat => V.int (x : Int) := by
  unfold rgV
  rw [show ((n : Int) - 0).toNat = n by omega]
  exact List.map_congr_left fun i _ => congrArg V.int (by omega)
/-! ### forests by computation -/
def pairB : List Pr → Bool
  | [] => true
  | e :: r => r.all (fun f => ltP e f) && pairB r
theorem pairB_ok : ∀ {es : List Pr}, pairB es = true → es.Pairwise (fun e f => ltP e f = true)
  | [], _ => .nil
  | e :: r, h => by
    have h' : (r.all (fun f => ltP e f) && pairB r) = true := h
    rw [Bool.and_eq_true] at h'
    exact List.pairwise_cons.mpr ⟨fun f hf => List.all_eq_true.mp h'.1 f hf, pairB_ok h'.2⟩
def forB (n : Nat) (es : List Pr) : Bool := (es.all fun e => decide (e.1 < e.2) && decide (e.2 < n)) && pairB es && !cycB es (List.range n)
theorem forB_edges {n : Nat} {es : List Pr} (h : forB n es = true) : Edges n es := by
  have h' : ((es.all fun e => decide (e.1 < e.2) && decide (e.2 < n)) && pairB es && !cycB es (List.range n)) = true := h
  rw [Bool.and_eq_true, Bool.and_eq_true] at h'
  obtain ⟨⟨h1, h2⟩, h3⟩ := h'
  have s : Simple n es := ⟨fun e he => by
    have := List.all_eq_true.mp h1 e he
    rw [Bool.and_eq_true] at this
    exact ⟨of_decide_eq_true this.1, of_decide_eq_true this.2⟩, pairB_ok h2⟩
  exact s.edges (s.cyc.mp (by
    cases hc : cycB es (List.range n) with
    | false => rfl
    | true => rw [hc] at h3; cases h3))
end Os
/-! the search of a tree: steps towards a goal -/
namespace Os
open PySem PySem.Spec PyProof.Rows L2 Evl
def stepV : Option Nat → V
  | none => .non
  | some y => .int (y : Int)
def stepK (ks : List (Nat × Option Nat)) : List (Key × V) := ks.map fun k => (Sum.inl (k.1 : Int), stepV k.2)
theorem step_any (ks : List (Nat × Option Nat)) (x : Nat) : ((stepK ks).any fun kv => decide (kv.1 = (Sum.inl (x : Int) : Key))) = decide (x ∈ ks.map (·.1)) := by
  unfold stepK
  rw [List.any_map]
  by_cases h : x ∈ ks.map (·.1)
  · rw [decide_eq_true h, List.any_eq_true]
    obtain ⟨k, hk, rfl⟩ := List.mem_map.mp h
    exact ⟨k, hk, decide_eq_true rfl⟩
  · rw [decide_eq_false h, List.any_eq_false]
    intro k hk z
    have e : (Sum.inl (k.1 : Int) : Key) = Sum.inl (x : Int) := of_decide_eq_true z
    have e2 : (k.1 : Int) = (x : Int) := Sum.inl.inj e
    exact h (List.mem_map.mpr ⟨k, hk, Int.ofNat.inj e2⟩)
theorem step_val (ks : List (Nat × Option Nat)) (x : Nat) : (valV (stepK ks) (Sum.inl (x : Int))).isSome = decide (x ∈ ks.map (·.1)) := by
  unfold valV
  rw [Option.isSome_map, ← step_any]
  cases hf : (stepK ks).find? (fun kv => decide (kv.1 = (Sum.inl (x : Int) : Key))) with
  | none =>
    symm
    rw [List.find?_eq_none] at hf
    exact List.any_eq_false.mpr hf
  | some kv =>
    symm
    exact List.any_eq_true.mpr ⟨kv, List.mem_of_find?_eq_some hf, List.find?_some (p := fun kv : Key × V => decide (kv.1 = (Sum.inl (x : Int) : Key))) hf⟩
theorem step_put {ks : List (Nat × Option Nat)} {x y : Nat} (h : x ∉ ks.map (·.1)) : putK (stepK ks) (Sum.inl (x : Int)) (.int (y : Int)) = stepK (ks ++ [(x, some y)]) := by
  unfold putK
  rw [step_any, decide_eq_false h, if_neg (by decide)]
  unfold stepK
  rw [List.map_append]
  rfl
structure Stp (n : Nat) (es : List Pr) (goal : Nat) (ks : List (Nat × Option Nat)) (op : List Nat) : Prop where
  nd : (ks.map (·.1)).Nodup
  gk : goal ∈ ks.map (·.1)
  lt : ∀ x ∈ ks.map (·.1), x < n
  con : ∀ x ∈ ks.map (·.1), Conn es goal x
  wk : ∀ x ∈ op, x ∈ ks.map (·.1)
  cl : ∀ x ∈ ks.map (·.1), x ∉ op → ∀ y ∈ turnOf x es, y ∈ ks.map (·.1)
  par : ∀ (i x y : Nat), ks[i]? = some (x, some y) → x ∈ turnOf y es ∧ ∃ j, j < i ∧ (ks.map (·.1))[j]? = some y
  root : ∀ x, (x, none) ∈ ks → x = goal
theorem Stp.start {n : Nat} {es : List Pr} {g : Nat} (h : g < n) : Stp n es g [(g, none)] [g] := by
  have m : ∀ x, x ∈ [(g, (none : Option Nat))].map (·.1) → x = g := fun x hx => List.mem_singleton.mp hx
  refine ⟨List.nodup_cons.mpr ⟨List.not_mem_nil, List.nodup_nil⟩, List.mem_singleton.mpr rfl, fun x hx => by rw [m x hx]; exact h, fun x hx => by rw [m x hx]; exact Conn.refl es g, fun x hx => by rw [List.mem_singleton.mp hx]; exact List.mem_singleton.mpr rfl, fun x hx no => (no (by rw [m x hx]; exact List.mem_singleton.mpr rfl)).elim, fun i x y e => ?_, fun x hx => ?_⟩
  · cases i with
    | zero => cases e
    | succ i => cases e
  · have := List.mem_singleton.mp hx
    exact congrArg Prod.fst this
theorem Stp.few {n : Nat} {es : List Pr} {g : Nat} {ks : List (Nat × Option Nat)} {op : List Nat} (h : Stp n es g ks op) : ks.length ≤ n := by
  have := few_below n h.nd h.lt
  rwa [List.length_map] at this
theorem Stp.like {n : Nat} {es : List Pr} {g : Nat} {ks : List (Nat × Option Nat)} {op op' : List Nat} (h : Stp n es g ks op) (e : ∀ x, x ∈ op ↔ x ∈ op') : Stp n es g ks op' :=
  ⟨h.nd, h.gk, h.lt, h.con, fun x hx => h.wk x ((e x).mpr hx), fun x hx no => h.cl x hx fun z => no ((e x).mp z), h.par, h.root⟩
theorem Stp.close {n : Nat} {es : List Pr} {g x : Nat} {ks : List (Nat × Option Nat)} {op : List Nat} (h : Stp n es g ks (x :: op)) (all : ∀ y ∈ turnOf x es, y ∈ ks.map (·.1)) : Stp n es g ks op :=
  ⟨h.nd, h.gk, h.lt, h.con, fun y hy => h.wk y (List.mem_cons_of_mem _ hy), fun y hy no => by
    by_cases e : y = x
    · rw [e]
      exact all
    · exact h.cl y hy fun z => (List.mem_cons.mp z).elim e no, h.par, h.root⟩
theorem Stp.add {n : Nat} {es : List Pr} {g x y : Nat} {ks : List (Nat × Option Nat)} {op : List Nat} (h : Stp n es g ks op) (hy : y ∈ ks.map (·.1)) (hx : x ∈ turnOf y es) (no : x ∉ ks.map (·.1)) (lt : x < n) : Stp n es g (ks ++ [(x, some y)]) (op ++ [x]) := by
  have mk : ∀ z, z ∈ (ks ++ [(x, some y)]).map (·.1) ↔ z ∈ ks.map (·.1) ∨ z = x := fun z => by
    rw [List.map_append, List.mem_append]
    show _ ∨ z ∈ [x] ↔ _
    rw [List.mem_singleton]
  have cx : Conn es g x := (h.con y hy).trans (turn_conn hx)
  refine ⟨?_, (mk g).mpr (.inl h.gk), fun z hz => ((mk z).mp hz).elim (h.lt z) fun e => e ▸ lt, fun z hz => ((mk z).mp hz).elim (h.con z) fun e => e ▸ cx, fun z hz => (mk z).mpr ((List.mem_append.mp hz).elim (fun k => .inl (h.wk z k)) fun k => .inr (List.mem_singleton.mp k)), fun z hz nz w hw => ?_, fun i a b e => ?_, fun z hz => ?_⟩
  · rw [List.map_append]
    refine List.nodup_append.mpr ⟨h.nd, List.nodup_cons.mpr ⟨List.not_mem_nil, List.nodup_nil⟩, fun a ha b hb e => no ?_⟩
    have eb : b = x := List.mem_singleton.mp hb
    rw [← eb, ← e]
    exact ha
  · rcases (mk z).mp hz with hz | rfl
    · exact (mk w).mpr (.inl (h.cl z hz (fun k => nz (List.mem_append_left _ k)) w hw))
    · exact (nz (List.mem_append_right _ (List.mem_singleton.mpr rfl))).elim
  · by_cases il : i < ks.length
    · rw [List.getElem?_append_left il] at e
      obtain ⟨h1, j, h2, h3⟩ := h.par i a b e
      refine ⟨h1, j, h2, ?_⟩
      rw [List.map_append, List.getElem?_append_left (by rw [List.length_map]; omega)]
      exact h3
    · rw [List.getElem?_append_right (by omega)] at e
      have i0 : i - ks.length = 0 := by
        have := (List.getElem?_eq_some_iff.mp e).1
        rw [List.length_singleton] at this
        omega
      rw [i0] at e
      cases e
      refine ⟨hx, ?_⟩
      obtain ⟨j, hj⟩ := List.mem_iff_getElem?.mp hy
      have jl := (List.getElem?_eq_some_iff.mp hj).1
      rw [List.length_map] at jl
      refine ⟨j, by omega, ?_⟩
      rw [List.map_append, List.getElem?_append_left (by rw [List.length_map]; exact jl)]
      exact hj
  · rcases List.mem_append.mp hz with hz | hz
    · exact h.root z hz
    · cases List.mem_singleton.mp hz
/-- what was found at the end: the tree -/
theorem Stp.tree {n : Nat} {es : List Pr} {g : Nat} {ks : List (Nat × Option Nat)} (h : Stp n es g ks []) (x : Nat) : x ∈ ks.map (·.1) ↔ Conn es g x := by
  refine ⟨h.con x, fun c => ?_⟩
  have r : Resp (fun z => decide (z ∈ ks.map (·.1))) es := fun f hf => by
    show decide (f.1 ∈ ks.map (·.1)) = decide (f.2 ∈ ks.map (·.1))
    have t1 : f.2 ∈ turnOf f.1 es := List.mem_filterMap.mpr ⟨f, hf, if_pos rfl⟩
    have t2 : f.1 ∈ turnOf f.2 es := List.mem_filterMap.mpr ⟨f, hf, by
      by_cases e : f.1 = f.2
      · rw [if_pos e, e]
      · rw [if_neg e, if_pos rfl]⟩
    exact decide_eq_decide.mpr ⟨fun k => h.cl _ k List.not_mem_nil _ t1, fun k => h.cl _ k List.not_mem_nil _ t2⟩
  have := c _ r
  exact of_decide_eq_true (this ▸ decide_eq_true h.gk)
end Os
namespace K10
open PySem PySem.Spec PyProof.Rows L2 Os Evl
abbrev sSteps : Stmt := topS 17
theorem scSteps : FnScope ["nearby", "goal", "steps", "waiting", "here", "there"] ["nearby", "goal"] (defScope sSteps) := ⟨rfl, rfl, rfl, by decide +kernel, rfl, by decide +kernel, by decide +kernel⟩
abbrev sTrees : Stmt := topS 18
theorem scTrees : FnScope ["forest", "nearby", "position"] ["forest"] (defScope sTrees) := ⟨rfl, rfl, rfl, by decide +kernel, rfl, by decide +kernel, by decide +kernel⟩
abbrev rSrtD : List V → Hp → VK → Prop := fun xs H Q => ∃ (a : Addr) (kvs : List (Key × V)) (ks : List Int), xs = [.ref a] ∧ Rd H a (.dK kvs) ∧ kvs.map (·.1) = ks.map Sum.inl ∧ ks.length < 64 ∧
    ∀ (ys : List Int) (p : Addr), ys.Perm ks → ys.Pairwise (· ≤ ·) → H p = none → Q (.ref p) (upd H p (.lst (ys.map V.int)))
section
variable {P : Program} {w : World} {K : PySem.W.Frag} {mg : Str → Option Value} {base : Heap}
/-- lists of numbers that stand, row by row -/
def NearV (H : Hp) (a : Addr) (as : List Addr) (n : Nat) (es : List Pr) : Prop := H a = some (.lst (as.map V.ref)) ∧ as.length = n ∧ ∀ (i : Nat) (c : Addr), as[i]? = some c → H c = some (.lst (nats (turnOf i es)))
def spSteps : Sp := fun vs H Q _ => ∃ (a : Addr) (as : List Addr) (n g : Nat) (es : List Pr), vs = [.ref a, .int (g : Int)] ∧ NearV H a as n es ∧ (∀ e ∈ es, e.1 < n ∧ e.2 < n) ∧ g < n ∧ n ≤ 1000 ∧ es.length ≤ 1000 ∧
  ∀ H' p ks, Ex H H' → H p = none → H' p = some (.dK (Os.stepK ks)) → Stp n es g ks [] → Q (.ref p) H'
theorem ok_steps {f : Addr} {fd : FuncData} {k : Nat} (F : Fun K "steps_towards" "steps_towards" sSteps f fd) : FnOk P w K mg base CX0 (k + 1) f fd ["nearby", "goal"] spSteps := by
  refine F.ok scSteps (fun vs H Q E h => ?_) (fun cdv A outer s H vs Q E hr h => ?_)
  · obtain ⟨a, as, n, g, es, rfl, _⟩ := h
    rfl
  · obtain ⟨a, as, n, g, es, rfl, near, inn, gn, n1000, few, q⟩ := h
    refine ⟨_, (pss_cons (ps_set (i := 2) scSteps.nd rfl (.inl rfl) (pe_disp (pps_cons (pv 1) pe_non pps_nil) rfl rfl (by decide) (by decide)))
      (pss_cons (ps_set (i := 3) scSteps.nd rfl (.inl rfl) (pe_lst (pa_cons (pv 1) pa_nil)))
      (pss_cons (ps_while PassesOwn.never (pt_truth (pv 3) (fun _ => rfl)) (pss_cons (ps_set (i := 4) scSteps.nd rfl (.inl rfl) (pe_bm0 PySem.F.plainAttrs_list PySem.F.slot_list_pop PySem.F.type_list_pop mt_pop (pv 3)))
      (pss_one (ps_for PassesOwn.never rfl (pi_list (pe_ix ix_list (pv 0) (pv 4) (fun _ _ => rfl))) (pg_name (i := 5) scSteps.nd rfl (Or.inl rfl))
      (pss_one (ps_if (pt_cmp (pc_dnotin (room1 hr) (pv 5) (pv 2))) (pss_cons (ps_dput (room1 hr) (pv 2) (pv 5) (pv 4) (by rfl))
      (pss_one (ps_expr (pe_bm PySem.F.plainAttrs_list PySem.F.slot_list_append PySem.F.type_list_append mt_append (pv 3) (pa_cons (pv 5) pa_nil))))) pss_nil))))))
      (pss_one (ps_ret (pv 2)))))), ?_⟩
    -- steps = {goal: None}
    refine q_te fun D hD => ⟨_, rfl, ⟨upd_same, [(Sum.inl (g : Int), V.non)], rfl, (by show 1 ≤ 15; decide), ?_⟩⟩
    have e0 : upd (upd H D (.dK [])) D (.dK (mergeK [] [(Sum.inl (g : Int), V.non)])) = upd H D (.dK (Os.stepK [(g, none)])) := by
      rw [upd_upd]
      rfl
    rw [e0]
    have eD := Ex.new (o := .dK (Os.stepK [(g, none)])) hD
    refine q_asgL (xs := [.int (g : Int)]) (el_lst (ea_cons (ev_var rfl) ea_nil) (show 1 ≤ 100000 by decide)) fun W H1 hW e1 hW1 => ?_
    have x1 := eD.trans e1
    have hW0 : H W = none := fresh_back eD hW
    have nDW : D ≠ W := fun z => by
      rw [← z, upd_same] at hW
      cases hW
    refine q_while (fun m σ' H' => ∃ (ks : List (Nat × Option Nat)) (ws : List Nat) (y4 y5 : Option V), σ' = [some (.ref a), some (.int (g : Int)), some (.ref D), some (.ref W), y4, y5] ∧ Ex H H' ∧ H' D = some (.dK (Os.stepK ks)) ∧ H' W = some (.lst (nats ws)) ∧ Stp n es g ks ws ∧ m = 2 * (n - ks.length) + ws.length ∧ m ≤ 2 * n) _
      ⟨[(g, none)], [g], _, _, rfl, x1, e1 _ _ upd_same, hW1, Stp.start gn, rfl, by show 2 * (n - 1) + 1 ≤ 2 * n; omega⟩ ?_
    rintro m σ' H2 ⟨ks, ws, y4, y5, rfl, x2, hD2, hW2, st, rfl, m2⟩
    refine ⟨!(nats ws).isEmpty, et_tru (ev_var rfl) (sq_of hW2), fun hb H3 e3 => ?_, fun hb H3 e3 => ?_⟩
    · obtain ⟨vs, here, rfl⟩ : ∃ vs here, ws = vs ++ [here] := by
        rcases List.eq_nil_or_concat ws with rfl | ⟨vs, here, rfl⟩
        · cases hb
        · exact ⟨vs, here, by rw [List.concat_eq_append]⟩
      have x3 := x2.trans e3
      have hk : here ∈ ks.map (·.1) := st.wk here (List.mem_append_right _ (List.mem_singleton.mpr rfl))
      have hn := st.lt here hk
      have fewk := st.few
      refine ⟨fun σ' H' => ∃ (ks' : List (Nat × Option Nat)) (ws' : List Nat) (y4 y5 : Option V), σ' = [some (.ref a), some (.int (g : Int)), some (.ref D), some (.ref W), y4, y5] ∧ Ex H H' ∧ H' D = some (.dK (Os.stepK ks')) ∧ H' W = some (.lst (nats ws')) ∧ Stp n es g ks' ws' ∧ 2 * (n - ks'.length) + ws'.length < 2 * (n - ks.length) + (vs ++ [here]).length,
        fun σ4 H4 h4 => ?_, ?_⟩
      · obtain ⟨ks', ws', z4, z5, rfl, x4, d4, w4, s4, lt⟩ := h4
        exact ⟨_, lt, ks', ws', z4, z5, rfl, x4, d4, w4, s4, rfl, by omega⟩
      refine ⟨.ref W, rfl, .inl ⟨rfl, _, sq_of (e3 _ _ hW2)⟩, W, _, .int (here : Int), rfl, rfl, e3 _ _ hW2, ?_, ?_⟩
      · show (nats (vs ++ [here]))[(nats (vs ++ [here])).length - 1]? = _
        unfold nats
        rw [List.length_map, List.length_append, List.getElem?_map, List.getElem?_append_right (by simp)]
        simp
      have edl : (nats (vs ++ [here])).dropLast = nats vs := by
        unfold nats
        rw [List.map_append]
        exact List.dropLast_concat
      rw [edl]
      dsimp only [gName]
      obtain ⟨n1, n2, n3⟩ := near
      obtain ⟨c, hc⟩ : ∃ c, as[here]? = some c := ⟨_, List.getElem?_eq_getElem (by omega)⟩
      have hrow := n3 here c hc
      have x4 : Ex H (upd H3 W (.lst (nats vs))) := x3.mut hW0
      have d4 : (upd H3 W (.lst (nats vs))) D = some (.dK (Os.stepK ks)) := by
        rw [upd_ne nDW]
        exact e3 _ _ hD2
      have st4 : Stp n es g ks (here :: vs) := st.like fun x => by
        rw [List.mem_append, List.mem_singleton, List.mem_cons]
        exact or_comm
      refine s_forL (a := c) (xs := nats (turnOf here es)) (ev_op (ev_var rfl) (ev_var rfl) (rv_ixL (sq_of (x4 _ _ n1)) (atI_nat (by rw [List.getElem?_map, hc]; rfl)))) (sq_of (x4 _ _ hrow))
        (fun i σ' H' => ∃ (ks' : List (Nat × Option Nat)) (ws' : List Nat) (y5 : Option V), σ' = [some (.ref a), some (.int (g : Int)), some (.ref D), some (.ref W), some (.int (here : Int)), y5] ∧ Ex H H' ∧ H' D = some (.dK (Os.stepK ks')) ∧ H' W = some (.lst (nats ws')) ∧ Stp n es g ks' (here :: ws') ∧
          (∀ y ∈ (turnOf here es).take i, y ∈ ks'.map (·.1)) ∧ here ∈ ks'.map (·.1) ∧ 2 * (n - ks'.length) + ws'.length ≤ 2 * (n - ks.length) + vs.length)
        (fun H5 e5 => ⟨ks, vs, _, rfl, x4.trans e5, e5 _ _ d4, e5 _ _ upd_same, st4, (fun y hy => by rw [List.take_zero] at hy; exact nomatch hy), hk, Nat.le_refl _⟩) (fun i σ' H' _ h => ?_) ?_ ?_
      · obtain ⟨ks', ws', z5, _, x5, _⟩ := h
        exact sq_of (x5 _ _ hrow)
      · rintro i x σ' H5 hx ⟨ks', ws', z5, rfl, x5, d5, w5, s5, tk, hk', le⟩
        unfold nats at hx
        rw [List.getElem?_map] at hx
        obtain ⟨y, hy, rfl⟩ := Option.map_eq_some_iff.mp hx
        have hyt := List.mem_of_getElem? hy
        have yn : y < n := by
          obtain ⟨e, he, k⟩ := mem_turn hyt
          have := inn e he
          rcases k with ⟨k1, k2⟩ | ⟨k1, k2⟩ <;> omega
        dsimp only [gName]
        have fk := s5.few
        refine s_when (b := !decide (y ∈ ks'.map (·.1))) (fun H6 e6 Q q => ?_) (fun hb H6 e6 => ?_) fun hb H6 e6 => ?_
        · refine ⟨.int (y : Int), rfl, .ref D, rfl, D, _, rfl, DGet.k (k := Sum.inl (y : Int)) (e6 _ _ d5), _, rfl, ?_⟩
          rw [step_val]
          exact q H6 (Ex.refl _)
        · have no : y ∉ ks'.map (·.1) := fun z => by
            rw [decide_eq_true z] at hb
            cases hb
          have lk : (Os.stepK ks').length < sizeLine := sz_lt (by
            unfold Os.stepK
            rw [List.length_map]
            omega)
          refine ⟨.int (here : Int), rfl, .ref D, rfl, .int (y : Int), rfl, D, _, rfl, DPut.k (k := Sum.inl (y : Int)) (e6 _ _ d5) lk, ?_⟩
          rw [step_put no]
          have s6 := s5.add hk' hyt no yn
          have f6 := s6.few
          rw [List.length_append, List.length_singleton] at f6
          have wD : (upd H6 D (.dK (Os.stepK (ks' ++ [(y, some here)])))) W = some (.lst (nats ws')) := by
            rw [upd_ne nDW.symm]
            exact e6 _ _ w5
          refine ⟨.ref W, rfl, .inl ⟨rfl, _, sq_of wD⟩, .int (y : Int), rfl, W, nats ws', .int (y : Int), rfl, rfl, wD, sz_lt (by unfold nats; rw [List.length_map]; rw [List.length_append, List.length_singleton] at m2; omega), ?_⟩
          refine ⟨ks' ++ [(y, some here)], ws' ++ [y], _, rfl, ((x5.trans e6).mut hD).mut hW0, ?_, ?_, s6, fun z hz => ?_, ?_, ?_⟩
          · rw [upd_ne nDW, upd_same]
          · rw [upd_same]
            unfold nats
            rw [List.map_append]
            rfl
          · rw [List.take_add_one, hy] at hz
            rw [List.map_append]
            rcases List.mem_append.mp hz with hz | hz
            · exact List.mem_append_left _ (tk z hz)
            · have : z = y := List.mem_singleton.mp hz
              rw [this]
              exact List.mem_append_right _ (List.mem_singleton.mpr rfl)
          · rw [List.map_append]
            exact List.mem_append_left _ hk'
          · rw [List.length_append, List.length_append, List.length_singleton, List.length_singleton]
            omega
        · have yes : y ∈ ks'.map (·.1) := by
            by_cases z : y ∈ ks'.map (·.1)
            · exact z
            · rw [decide_eq_false z] at hb
              cases hb
          refine ⟨ks', ws', _, rfl, x5.trans e6, e6 _ _ d5, e6 _ _ w5, s5, fun z hz => ?_, hk', le⟩
          rw [List.take_add_one, hy] at hz
          rcases List.mem_append.mp hz with hz | hz
          · exact tk z hz
          · have : z = y := List.mem_singleton.mp hz
            rw [this]
            exact yes
      · rintro σ' H5 ⟨ks', ws', z5, rfl, x5, d5, w5, s5, tk, hk', le⟩
        have eT : (turnOf here es).take (nats (turnOf here es)).length = turnOf here es := by
          unfold nats
          rw [List.length_map, List.take_length]
        rw [eT] at tk
        refine ⟨ks', ws', _, _, rfl, x5, d5, w5, s5.close tk, ?_⟩
        rw [List.length_append, List.length_singleton]
        omega
    · have wn : ws = [] := by
        cases ws with
        | nil => rfl
        | cons x l => cases hb
      subst wn
      exact s_ret (v := .ref D) (ev_var rfl) fun H4 e4 => q H4 D ks ((x2.trans e3).trans e4) hD (e4 _ _ (e3 _ _ hD2)) st
theorem ints_of : ∀ {ys : List Int} {l : List Nat}, ys.Perm (l.map fun x : Nat => (x : Int)) → ∃ us : List Nat, ys = us.map (fun x : Nat => (x : Int)) ∧ us.Perm l := fun {ys l} pm => by
  have e : ys = (ys.map Int.toNat).map (fun x : Nat => (x : Int)) := by
    rw [List.map_map]
    symm
    refine (List.map_congr_left (g := id) fun y hy => ?_).trans (List.map_id _)
    obtain ⟨x, _, rfl⟩ := List.mem_map.mp (pm.mem_iff.mp hy)
    rfl
  refine ⟨ys.map Int.toNat, e, ?_⟩
  have := pm.map Int.toNat
  rw [List.map_map] at this
  have i : l.map (Int.toNat ∘ fun x : Nat => (x : Int)) = l := (List.map_congr_left (g := id) fun y _ => rfl).trans (List.map_id _)
  rwa [i] at this
theorem pw_lt : ∀ {us : List Nat}, (us.map fun x : Nat => (x : Int)).Pairwise (· ≤ ·) → us.Nodup → us.Pairwise (· < ·) := fun {us} h nd => by
  rw [List.pairwise_map] at h
  refine (List.Pairwise.and h nd).imp fun {a b} k => ?_
  have := k.1
  have := k.2
  omega
/-- a tree for every position -/
def TreesF (n : Nat) (es : List Pr) (tr : Nat → List Nat) : Prop := ∀ i, i < n → (tr i).Pairwise (· < ·) ∧ ∀ x, x ∈ tr i ↔ Conn es i x
def spTrees : Sp := fun vs H Q _ => ∃ (v : V) (n : Nat) (es : List Pr), vs = [v] ∧ GraphV H v n es ∧ IsForest n es ∧
  ∀ H' L as tr, Ex H H' → H L = none → H' L = some (.lst (as.map V.ref)) → RwV H H' as n tr → TreesF n es tr → Q (.ref L) H'
theorem ok_trees {f fL fS : Addr} {fd fdL fdS : FuncData} {k : Nat} (F : Fun K "tree_lists" "tree_lists" sTrees f fd)
    (GL : FnOk P w K mg base CX0 k fL fdL ["forest"] spLists) (FL : Fun K "neighbour_lists" "neighbour_lists" sLists fL fdL) (bL : Binds K fdL ["forest"] []) (gL : mg "neighbour_lists" = some (.ref fL))
    (GS : FnOk P w K mg base CX0 k fS fdS ["nearby", "goal"] spSteps) (FS : Fun K "steps_towards" "steps_towards" sSteps fS fdS) (bS : Binds K fdS ["nearby", "goal"] []) (gS : mg "steps_towards" = some (.ref fS))
    (mRange : mg "range" = none) (mSorted : mg "sorted" = none) : FnOk P w K mg base CX0 (k + 1) f fd ["forest"] spTrees := by
  refine F.ok scTrees (fun vs H Q E h => ?_) (fun cdv A outer s H vs Q E hr h => ?_)
  · obtain ⟨v, n, es, rfl, _⟩ := h
    rfl
  · obtain ⟨v, n, es, rfl, hg, ok, q⟩ := h
    refine ⟨_, (pss_cons (ps_set (i := 1) scTrees.nd rfl (.inr rfl) (pe_call GL hr (by rfl) gL FL.kp bL .nil pass0 (pa_cons (pv 0) pa_nil)))
      (pss_one (ps_ret (pe_lc (own := [("position", 2)]) (g := gName 2) (tt := tYes) (te := tCB rSrtD (tCons (tCall spSteps [] E0 (tCons (tVar 1) (tCons (tVar 2) tNil))) tNil)) rfl scTrees.nd (pi_range1 (by rfl) mRange (pa_cons (pe_ix ix_tup (pv 0) pe_int (fun _ _ => rfl)) pa_nil)) (blkOk_by (N := ["forest", "nearby", "position"]) (sc := defScope sTrees) (by decide +kernel)) (fun _ _ _ _ _ => pg_name (i := 2) scTrees.nd rfl (Or.inl rfl)) (fun _ _ _ _ _ => pts_nil) (fun _ _ _ _ _ => (pe_callB (call_sortedDI rfl) (by rfl) mSorted boot_sorted (pa_cons (pe_call GS hr (by rfl) gS FS.kp bS .nil pass0 (pa_cons (pv 1) (pa_cons (pv 2) pa_nil))) pa_nil))))))), ?_⟩
    refine ⟨v, rfl, v, n, es, rfl, hg, ok, fun H1 L as e1 hL h1 rw1 => ?_⟩
    dsimp only [gName]
    obtain ⟨g, ge, xs, rfl, g1, g2, g3⟩ := hg
    have n40 := ok.n40
    have few := ok.few
    have near : NearV H1 L as n es := ⟨h1, rw1.len, fun i c hc => rw1.at' i c hc⟩
    refine ⟨.ref g, rfl, g, _, 0, .int (n : Int), rfl, rfl, st_of (e1 _ _ g1), rfl, (n : Int), rfl, by omega, by omega, fun D hD => ?_⟩
    have eD := Ex.new (o := .lst []) hD
    refine lc_range (lo := 0) (n := ((n : Int)).toNat) (fun k Hh => Ex H1 Hh ∧ ∃ (bs : List Addr) (tr : Nat → List Nat), Hh D = some (.lst (bs.map V.ref)) ∧ RwV (upd H1 D (.lst [])) Hh bs k tr ∧ TreesF k es tr)
      ⟨eD, [], fun _ => [], upd_same, ⟨rfl, (fun a h => nomatch h), (fun i a h => by cases h), List.nodup_nil⟩, fun i hi => nomatch hi⟩ ?_ ?_
    · rintro k Hh hk ⟨x1, bs, tr, hbs, rg, tt⟩
      have kn : k < n := by omega
      rw [Int.zero_add]
      refine ⟨rfl, ?_⟩
      dsimp only [tYes]
      rw [if_pos rfl]
      refine ⟨.ref L, rfl, .int (k : Int), rfl, L, as, n, k, es, rfl, ⟨x1 _ _ near.1, near.2.1, fun i c hc => x1 _ _ (near.2.2 i c hc)⟩, fun e he => by
        have := ok.edges.inn e he
        omega, kn, by omega, by omega, fun H2 p ks e2 hp h2 st => ?_⟩
      have fewk := st.few
      refine ⟨p, _, (ks.map (·.1)).map (fun x : Nat => (x : Int)), rfl, .inl h2, ?_, by rw [List.length_map, List.length_map]; omega, fun ys p' pm pw hp' => ?_⟩
      · unfold Os.stepK
        rw [List.map_map, List.map_map, List.map_map]
        rfl
      obtain ⟨us, rfl, pu⟩ := ints_of pm
      have e3 := Ex.new (o := .lst ((us.map fun x : Nat => (x : Int)).map V.int)) hp'
      have e23 := e2.trans e3
      have bl := rg.len
      refine ⟨bs.map V.ref, e23 _ _ hbs, sz_lt (by rw [List.length_map]; omega), (x1.trans e23).mut hD, bs ++ [p'], fun i => if i = k then us else tr i, ?_, ?_, fun i hi => ?_⟩
      · rw [upd_same, List.map_append]
        rfl
      · have hp0 : (upd H1 D (.lst [])) p' = none := by
          cases hq : (upd H1 D (.lst [])) p' with
          | none => rfl
          | some o =>
            by_cases e : p' = D
            · rw [e] at hp'
              rw [e2 _ _ hbs] at hp'
              cases hp'
            · rw [upd_ne e] at hq
              rw [e2 _ _ (x1 _ _ hq)] at hp'
              cases hp'
        refine RwV.off (u := .lst []) (RwV.snoc' (rg.ex e23) hp0 (fun c hc z => ?_) (fun j hj => by rw [if_neg (by omega)]) ?_) upd_same
        · obtain ⟨j, hj⟩ := List.mem_iff_getElem?.mp hc
          have := e2 _ _ (rg.at' j c hj)
          rw [z, hp'] at this
          cases this
        · rw [upd_same, if_pos rfl, nats_ints]
      · dsimp only
        by_cases e : i = k
        · rw [if_pos e, e]
          exact ⟨pw_lt pw (pu.nodup_iff.mpr st.nd), fun x => by rw [pu.mem_iff]; exact st.tree x⟩
        · rw [if_neg e]
          exact tt i (by omega)
    · rintro Hh ⟨x1, bs, tr, hbs, rg, tt⟩
      rw [Int.toNat_natCast] at rg tt
      exact q Hh D bs tr (e1.trans x1) (fresh_back e1 hD) hbs ((rg.weak eD).weak e1) tt
end
end K10
/-! what is judged of an arrangement that an order produced -/
namespace Os
open PySem PySem.Spec PyProof.Rows
section
variable {n : Nat} {es os : List Pr} {zs : List Str}
theorem order_in (E : Edges n es) (pm : os.Perm es) : ∀ e ∈ os, e.1 < e.2 ∧ e.2 < n := fun e he => E.inn e (pm.mem_iff.mp he)
theorem ring_is (E : Edges n es) (pm : os.Perm es) (hl : zs.length = n) (nd : zs.Nodup) {x : Nat} (hx : x < n) : ∃ l, RingAt os x l ∧ ringOf (went zs (swps zs os)) n x = x :: l := by
  obtain ⟨l, r⟩ := order_rings E pm x
  exact ⟨l, r, ring_of (went_ok hl nd (order_in E pm)) (fun y hy => went_at hl nd (order_in E pm) hy) hx r⟩
theorem ring_first {os : List Pr} {x : Nat} {l : List Nat} (r : RingAt os x l) : mvs os x ∈ x :: l := by
  have h := r.runs
  cases l with
  | nil =>
    have h' : mvs os x = x := h
    rw [h']
    exact List.mem_cons_self
  | cons a l =>
    have h' : mvs os x = a := h.1
    rw [h']
    exact List.mem_cons_of_mem _ List.mem_cons_self
theorem moved_in (E : Edges n es) (pm : os.Perm es) {x : Nat} : Conn es x (mvs os x) := by
  obtain ⟨l, r⟩ := order_rings E pm x
  exact (conn_perm pm).mp ((r.all _).mp (ring_first r))
theorem ring_tree (E : Edges n es) (pm : os.Perm es) {x : Nat} {l t : List Nat} (r : RingAt os x l) (ht : t.Pairwise (· < ·)) (mt : ∀ y, y ∈ t ↔ Conn es x y) : (x :: l).length = t.length := by
  have pe : (x :: l).Perm t := (List.perm_ext_iff_of_nodup r.nd (ht.imp fun {a b} h => by omega)).mpr fun y => by
    rw [r.all, mt, conn_perm pm]
  exact pe.length_eq
theorem ring_nocr (E : Edges n es) (pm : os.Perm es) {x : Nat} {l : List Nat} (r : RingAt os x l) : NoCr (x :: l) es := fun e he f hf =>
  no_cross (order_ok E pm) r e (pm.mem_iff.mpr he) f (pm.mem_iff.mpr hf)
theorem ring_turn (E : Edges n es) (pm : os.Perm es) {x : Nat} {l : List Nat} (r : RingAt os x l) : (x :: l).filter (fun y => decide (y ∈ turnOf x es)) = turnOf x os := by
  have nx : x ∉ turnOf x es := fun h => by
    obtain ⟨e, he, k⟩ := mem_turn h
    have := E.inn e he
    rcases k with ⟨k1, k2⟩ | ⟨k1, k2⟩ <;> omega
  rw [List.filter_cons, if_neg (by rw [decide_eq_false nx]; decide)]
  refine Eq.trans (List.filter_congr fun y _ => ?_) r.turn
  exact decide_eq_decide.mpr (turn_perm pm x).mem_iff.symm
end
end Os
/-! what meets at an edge, and what happens without it -/
namespace Os
open PySem PySem.Spec PyProof.Rows
theorem split_front {α : Type} {A A' : List α} {y : α} {R R' : List α} (nd : (A ++ y :: R).Nodup) (h : A ++ y :: R = A' ++ y :: R') : A = A' := by
  have h1 := congrArg List.reverse h
  rw [List.reverse_append, List.reverse_append, List.reverse_cons, List.reverse_cons, List.append_assoc, List.append_assoc] at h1
  have n1 : (R.reverse ++ y :: A.reverse).Nodup := by
    have p : (R.reverse ++ y :: A.reverse).Perm (A ++ y :: R) := by
      have e : R.reverse ++ y :: A.reverse = (A ++ y :: R).reverse := by
        rw [List.reverse_append, List.reverse_cons, List.append_assoc]
        rfl
      rw [e]
      exact List.reverse_perm _
    exact p.nodup_iff.mpr nd
  have h2 := split_one (A := R.reverse) (A' := R'.reverse) (y := y) (R := A.reverse) (R' := A'.reverse) n1 h1
  exact List.reverse_inj.mp h2
/-- where the item that is at p behind these swaps began -/
def src (A : List Pr) (p : Nat) : Nat := A.foldr sw p
theorem src_app (A B : List Pr) (p : Nat) : src (A ++ B) p = src A (src B p) := List.foldr_append
theorem mvs_src : ∀ (A : List Pr) (p : Nat), mvs A (src A p) = p
  | [], _ => rfl
  | x :: A, p => by
    show mvs A (sw x (sw x (src A p))) = p
    rw [sw_sw]
    exact mvs_src A p
theorem src_mvs : ∀ (A : List Pr) (p : Nat), src A (mvs A p) = p
  | [], _ => rfl
  | x :: A, p => by
    show sw x (src A (mvs A (sw x p))) = p
    rw [src_mvs A (sw x p), sw_sw]
theorem src_lt {n : Nat} : ∀ {A : List Pr} {p : Nat}, (∀ e ∈ A, e.1 < n ∧ e.2 < n) → p < n → src A p < n
  | [], _, _, h => h
  | x :: A, p, h, hp => sw_lt (h x List.mem_cons_self).1 (h x List.mem_cons_self).2 (src_lt (fun e he => h e (List.mem_cons_of_mem _ he)) hp)
theorem swps_src {n : Nat} {A : List Pr} {zs : List Str} {p : Nat} (hl : zs.length = n) (h : ∀ e ∈ A, e.1 < e.2 ∧ e.2 < n) (hp : p < n) : (swps zs A)[p]? = zs[src A p]? := by
  have := swps_at (os := A) (zs := zs) (p := src A p) hl h (src_lt (fun e he => by have := h e he; omega) hp)
  rwa [mvs_src] at this
theorem turn_cons (p : Nat) (e : Pr) (A : List Pr) : turnOf p (e :: A) = (if e.1 = p then [e.2] else if e.2 = p then [e.1] else []) ++ turnOf p A := by
  show List.filterMap _ (e :: A) = _
  rw [List.filterMap_cons]
  by_cases h1 : e.1 = p
  · rw [if_pos h1, if_pos h1]
    rfl
  · rw [if_neg h1, if_neg h1]
    by_cases h2 : e.2 = p
    · rw [if_pos h2, if_pos h2]
      rfl
    · rw [if_neg h2, if_neg h2]
      rfl
theorem turn_append (p : Nat) (A B : List Pr) : turnOf p (A ++ B) = turnOf p A ++ turnOf p B := List.filterMap_append
theorem src_idle : ∀ {A : List Pr} {p : Nat}, turnOf p A = [] → src A p = p
  | [], _, _ => rfl
  | x :: A, p, h => by
    rw [turn_cons] at h
    obtain ⟨h1, h2⟩ := List.append_eq_nil_iff.mp h
    show sw x (src A p) = p
    rw [src_idle h2]
    by_cases a : x.1 = p
    · rw [if_pos a] at h1; cases h1
    · rw [if_neg a] at h1
      by_cases b : x.2 = p
      · rw [if_pos b] at h1; cases h1
      · exact sw_ne (fun z => a z.symm) (fun z => b z.symm)
/-- p and q are the ends of e -/
def Tch (e : Pr) (p q : Nat) : Prop := (e.1 = p ∧ e.2 = q) ∨ (e.2 = p ∧ e.1 = q)
theorem Tch.sw {e : Pr} {p q : Nat} (h : Tch e p q) : Os.sw e p = q := by
  rcases h with ⟨rfl, rfl⟩ | ⟨rfl, rfl⟩
  · exact sw_one e
  · exact sw_two e
theorem Tch.symm {e : Pr} {p q : Nat} (h : Tch e p q) : Tch e q p := by
  rcases h with ⟨a, b⟩ | ⟨a, b⟩
  · exact .inr ⟨b, a⟩
  · exact .inl ⟨b, a⟩
theorem Tch.turn {e : Pr} {p q : Nat} (h : Tch e p q) (ne : e.1 ≠ e.2) (A : List Pr) : turnOf p (e :: A) = q :: turnOf p A := by
  rw [turn_cons]
  rcases h with ⟨a, b⟩ | ⟨a, b⟩
  · rw [if_pos a, b]
    rfl
  · rw [if_neg (fun z => ne (z.trans a.symm)), if_pos a, b]
    rfl
theorem Tch.eq {e f : Pr} {p q : Nat} (he : Tch e p q) (hf : Tch f p q) (le : e.1 < e.2) (lf : f.1 < f.2) : e = f := by
  rcases he with ⟨a, b⟩ | ⟨a, b⟩ <;> rcases hf with ⟨c, d⟩ | ⟨c, d⟩ <;> refine Prod.ext ?_ ?_ <;> omega
theorem last_touch {p r : Nat} {A : List Pr} {T : List Nat} (h : turnOf p A = T ++ [r]) : ∃ A1 f A2, A = A1 ++ f :: A2 ∧ Tch f p r ∧ turnOf p A2 = [] := by
  obtain ⟨l1, l2, rfl, _, h2⟩ := List.filterMap_eq_append_iff.mp h
  obtain ⟨m1, f, m2, rfl, _, hf, hm⟩ := List.filterMap_eq_cons_iff.mp h2
  refine ⟨l1 ++ m1, f, m2, by rw [List.append_assoc], ?_, hm⟩
  by_cases h1 : f.1 = p
  · rw [if_pos h1] at hf
    exact .inl ⟨h1, Option.some.inj hf⟩
  · rw [if_neg h1] at hf
    by_cases h2 : f.2 = p
    · rw [if_pos h2] at hf
      exact .inr ⟨h2, Option.some.inj hf⟩
    · rw [if_neg h2] at hf
      cases hf
theorem snoc_cases {α : Type} (l : List α) : l = [] ∨ ∃ T r, l = T ++ [r] := by
  rcases h : l.reverse with _ | ⟨r, T⟩
  · exact .inl (List.reverse_eq_nil_iff.mp h)
  · refine .inr ⟨T.reverse, r, ?_⟩
    have := congrArg List.reverse h
    rwa [List.reverse_reverse, List.reverse_cons] at this
/-- what stands at an edge's ends when it is its turn began where the turns say -/
theorem src_same {n : Nat} {es os os' : List Pr} (E : Edges n es) (pm : os.Perm es) (pm' : os'.Perm es) (same : ∀ p, turnOf p os = turnOf p os') :
    ∀ m, ∀ (A : List Pr) (e : Pr) (B A' B' : List Pr) (p q : Nat), A.length ≤ m → os = A ++ e :: B → os' = A' ++ e :: B' → Tch e p q → src A p = src A' p := by
  intro m
  induction m with
  | zero =>
    intro A e B A' B' p q hm h1 h2 t
    have hA : A = [] := List.eq_nil_of_length_eq_zero (by omega)
    subst hA
    have ne : e.1 ≠ e.2 := by
      have := E.inn e (pm.mem_iff.mp (by rw [h1]; exact List.mem_append_right _ List.mem_cons_self))
      omega
    have s := same p
    have nd := turn_nodup E pm p
    rw [h1, h2, turn_append, turn_append, t.turn ne, t.turn ne] at s
    rw [h1, turn_append, t.turn ne] at nd
    have f := split_front nd s
    rw [src_idle (A := A') (p := p) f.symm]
    rfl
  | succ m ih =>
    intro A e B A' B' p q hm h1 h2 t
    have ne : e.1 ≠ e.2 := by
      have := E.inn e (pm.mem_iff.mp (by rw [h1]; exact List.mem_append_right _ List.mem_cons_self))
      omega
    have s := same p
    have nd := turn_nodup E pm p
    rw [h1, h2, turn_append, turn_append, t.turn ne, t.turn ne] at s
    rw [h1, turn_append, t.turn ne] at nd
    have f := split_front nd s
    rcases snoc_cases (turnOf p A) with hz | ⟨T, r, hz⟩
    · rw [src_idle hz, src_idle (A := A') (p := p) (by rw [← f, hz])]
    · obtain ⟨A1, g, A2, rfl, tg, i2⟩ := last_touch hz
      obtain ⟨A1', g', A2', rfl, tg', i2'⟩ := last_touch (f ▸ hz)
      have gl : g.1 < g.2 := (E.inn g (pm.mem_iff.mp (by rw [h1, List.append_assoc]; exact List.mem_append_right _ List.mem_cons_self))).1
      have gl' : g'.1 < g'.2 := (E.inn g' (pm'.mem_iff.mp (by rw [h2, List.append_assoc]; exact List.mem_append_right _ List.mem_cons_self))).1
      have gg := tg.eq tg' gl gl'
      subst gg
      have one : ∀ (U V : List Pr), turnOf p V = [] → src (U ++ g :: V) p = src U r := fun U V hV => by
        rw [src_app]
        show src U (sw g (src V p)) = src U r
        rw [src_idle hV, tg.sw]
      rw [one A1 A2 i2, one A1' A2' i2']
      rw [List.length_append, List.length_cons] at hm
      exact ih A1 g (A2 ++ e :: B) A1' (A2' ++ e :: B') r p (by omega) (by rw [h1, List.append_assoc]; rfl) (by rw [h2, List.append_assoc]; rfl) tg.symm
/-- the two items that meet at e -/
def metA (zs : List Str) (os : List Pr) (e : Pr) : Str := (swps zs (os.take (os.idxOf e))).getD e.1 ⟨#[]⟩
def metB (zs : List Str) (os : List Pr) (e : Pr) : Str := (swps zs (os.take (os.idxOf e))).getD e.2 ⟨#[]⟩
theorem cut_at {os : List Pr} {e : Pr} (h : e ∈ os) : os = os.take (os.idxOf e) ++ e :: os.drop (os.idxOf e + 1) := by
  have lt := List.idxOf_lt_length_of_mem h
  have h1 : os[os.idxOf e] = e := List.getElem_idxOf lt
  have h2 : os.drop (os.idxOf e) = e :: os.drop (os.idxOf e + 1) := by rw [List.drop_eq_getElem_cons lt, h1]
  rw [← h2, List.take_append_drop]
theorem met_same {n : Nat} {es os os' : List Pr} {zs : List Str} (E : Edges n es) (pm : os.Perm es) (pm' : os'.Perm es) (same : ∀ p, turnOf p os = turnOf p os') (hl : zs.length = n) {e : Pr} (he : e ∈ es) : metA zs os e = metA zs os' e ∧ metB zs os e = metB zs os' e := by
  have h1 := cut_at (pm.mem_iff.mpr he)
  have h2 := cut_at (pm'.mem_iff.mpr he)
  obtain ⟨ei, en⟩ := E.inn e he
  have inn : ∀ {l : List Pr}, l.Perm es → ∀ k, ∀ f ∈ l.take k, f.1 < f.2 ∧ f.2 < n := fun p k f hf => E.inn f (p.mem_iff.mp (List.mem_of_mem_take hf))
  have one : ∀ {p q : Nat}, Tch e p q → p < n → (swps zs (os.take (os.idxOf e))).getD p ⟨#[]⟩ = (swps zs (os'.take (os'.idxOf e))).getD p ⟨#[]⟩ := fun t hp => by
    rw [List.getD_eq_getElem?_getD, List.getD_eq_getElem?_getD, swps_src hl (inn pm _) hp, swps_src hl (inn pm' _) hp, src_same E pm pm' same _ _ e _ _ _ _ _ (Nat.le_refl _) h1 h2 t]
  exact ⟨one (.inl ⟨rfl, rfl⟩) (by omega), one (.inr ⟨rfl, rfl⟩) en⟩
/-- a for b, b for a -/
def rn (a b z : Str) : Str := if z = a then b else if z = b then a else z
theorem rn_rn (a b z : Str) : rn a b (rn a b z) = z := by
  unfold rn
  by_cases h1 : z = a
  · rw [if_pos h1]
    by_cases h2 : b = a
    · rw [if_pos h2, h1, h2]
    · rw [if_neg h2, if_pos rfl, h1]
  · rw [if_neg h1]
    by_cases h2 : z = b
    · rw [if_pos h2, if_pos rfl, h2]
    · rw [if_neg h2, if_neg h1, if_neg h2]
theorem rn_comm {a b : Str} (z : Str) : rn a b z = rn b a z := by
  unfold rn
  by_cases h1 : z = a <;> by_cases h2 : z = b
  · rw [if_pos h1, if_pos h2, ← h1, ← h2]
  · rw [if_pos h1, if_neg h2, if_pos h1]
  · rw [if_neg h1, if_pos h2, if_pos h2]
  · rw [if_neg h1, if_neg h2, if_neg h2, if_neg h1]
theorem swp_rn {w : List Str} {e : Pr} (nd : w.Nodup) (h1 : e.1 < w.length) (h2 : e.2 < w.length) : swp w e = w.map (rn (w.getD e.1 ⟨#[]⟩) (w.getD e.2 ⟨#[]⟩)) := by
  have g : ∀ {i : Nat}, i < w.length → w.getD i ⟨#[]⟩ = w[i]! ∧ w[i]? = some (w.getD i ⟨#[]⟩) := fun {i} h => by
    rw [List.getD_eq_getElem?_getD, List.getElem?_eq_getElem h]
    refine ⟨?_, rfl⟩
    rw [getElem!_pos w i h]
    rfl
  refine List.ext_getElem? fun j => ?_
  by_cases hj : j < w.length
  · have ej := (g hj).2
    have inj : ∀ {i : Nat}, i < w.length → w.getD j ⟨#[]⟩ = w.getD i ⟨#[]⟩ → j = i := fun {i} hi e => by
      have a := ej
      rw [e, ← (g hi).2] at a
      exact (List.getElem?_inj hj nd).mp a
    rw [List.getElem?_map, ej]
    unfold swp
    show _ = some (rn _ _ _)
    unfold rn
    by_cases a : j = e.2
    · subst a
      rw [List.getElem?_set_self (by rw [List.length_set]; exact h2)]
      by_cases b : w.getD e.2 ⟨#[]⟩ = w.getD e.1 ⟨#[]⟩
      · rw [if_pos b, b]
      · rw [if_neg b, if_pos rfl]
    · rw [List.getElem?_set_ne (fun z => a z.symm)]
      by_cases b : j = e.1
      · subst b
        rw [List.getElem?_set_self h1, if_pos rfl]
      · rw [List.getElem?_set_ne (fun z => b z.symm), ej, if_neg (fun z => b (inj h1 z)), if_neg (fun z => a (inj h2 z))]
  · rw [List.getElem?_eq_none (by rw [swp_len]; omega), List.getElem?_eq_none (by rw [List.length_map]; omega)]
theorem swp_map {w : List Str} {e : Pr} (g : Str → Str) (h1 : e.1 < w.length) (h2 : e.2 < w.length) : swp (w.map g) e = (swp w e).map g := by
  have k : ∀ {i : Nat}, i < w.length → (w.map g).getD i ⟨#[]⟩ = g (w.getD i ⟨#[]⟩) := fun {i} h => by
    rw [List.getD_eq_getElem?_getD, List.getD_eq_getElem?_getD, List.getElem?_map, List.getElem?_eq_getElem h]
    rfl
  unfold swp
  rw [k h1, k h2, List.map_set, List.map_set]
theorem swps_map {n : Nat} (g : Str → Str) : ∀ {B : List Pr} {w : List Str}, w.length = n → (∀ e ∈ B, e.1 < n ∧ e.2 < n) → swps (w.map g) B = (swps w B).map g
  | [], _, _, _ => rfl
  | e :: B, w, hl, h => by
    obtain ⟨a, b⟩ := h e List.mem_cons_self
    show swps (swp (w.map g) e) B = (swps (swp w e) B).map g
    rw [swp_map g (by omega) (by omega)]
    exact swps_map g (by rw [swp_len, hl]) fun f hf => h f (List.mem_cons_of_mem _ hf)
theorem swps_append (zs : List Str) (A B : List Pr) : swps zs (A ++ B) = swps (swps zs A) B := List.foldl_append
theorem left_eq {n : Nat} {A B : List Pr} {e : Pr} {zs : List Str} (hl : zs.length = n) (nd : zs.Nodup) (h : ∀ f ∈ A ++ e :: B, f.1 < n ∧ f.2 < n) :
    swps zs (A ++ B) = (swps zs (A ++ e :: B)).map (rn ((swps zs A).getD e.1 ⟨#[]⟩) ((swps zs A).getD e.2 ⟨#[]⟩)) := by
  have hA : ∀ f ∈ A, f.1 < n ∧ f.2 < n := fun f hf => h f (List.mem_append_left _ hf)
  have hB : ∀ f ∈ B, f.1 < n ∧ f.2 < n := fun f hf => h f (List.mem_append_right _ (List.mem_cons_of_mem _ hf))
  obtain ⟨e1, e2⟩ := h e (List.mem_append_right _ List.mem_cons_self)
  have pA := swps_perm hl hA
  have wl : (swps zs A).length = n := by rw [pA.length_eq, hl]
  have wnd := pA.nodup_iff.mpr nd
  rw [swps_append, swps_append]
  generalize swps zs A = w at wl wnd
  show swps w B = (swps (swp w e) B).map _
  rw [swp_rn wnd (by omega) (by omega), swps_map _ wl hB, List.map_map]
  refine (List.map_id _).symm.trans (List.map_congr_left fun z _ => ?_)
  exact (rn_rn _ _ z).symm
theorem filter_cut {A B : List Pr} {e : Pr} (nd : (A ++ e :: B).Nodup) : (A ++ e :: B).filter (fun f => decide (f ≠ e)) = A ++ B := by
  obtain ⟨nA, nB, dis⟩ := List.nodup_append.mp nd
  rw [List.filter_append, List.filter_cons, if_neg (by rw [decide_eq_false (fun h => h rfl)]; decide)]
  have fa : A.filter (fun f => decide (f ≠ e)) = A := List.filter_eq_self.mpr fun f hf => decide_eq_true (dis f hf e List.mem_cons_self)
  have fb : B.filter (fun f => decide (f ≠ e)) = B := List.filter_eq_self.mpr fun f hf => decide_eq_true fun z => by
    rw [z] at hf
    exact (List.nodup_cons.mp nB).1 hf
  rw [fa, fb]
theorem met_ne {n : Nat} {es os : List Pr} {zs : List Str} (E : Edges n es) (pm : os.Perm es) (hl : zs.length = n) (nd : zs.Nodup) {e : Pr} (he : e ∈ es) : metA zs os e ≠ metB zs os e ∧ metA zs os e ∈ zs ∧ metB zs os e ∈ zs := by
  obtain ⟨e1, e2⟩ := E.inn e he
  have hA : ∀ f ∈ os.take (os.idxOf e), f.1 < n ∧ f.2 < n := fun f hf => by
    have := E.inn f (pm.mem_iff.mp (List.mem_of_mem_take hf))
    omega
  have pA := swps_perm hl hA
  unfold metA metB
  have wl : (swps zs (os.take (os.idxOf e))).length = n := by rw [pA.length_eq, hl]
  have wnd := pA.nodup_iff.mpr nd
  generalize swps zs (os.take (os.idxOf e)) = w at *
  have g : ∀ {i : Nat}, i < n → w[i]? = some (w.getD i ⟨#[]⟩) := fun {i} h => by
    rw [List.getD_eq_getElem?_getD, List.getElem?_eq_getElem (by omega)]
    rfl
  refine ⟨fun z => ?_, pA.mem_iff.mp (List.mem_of_getElem? (g (by omega))), pA.mem_iff.mp (List.mem_of_getElem? (g e2))⟩
  have a := g (i := e.1) (by omega)
  rw [z, ← g e2] at a
  have := (List.getElem?_inj (by omega) wnd).mp a
  omega
end Os
/-! slices from the front, to the end -/
namespace Os
open PySem PySem.Spec PyProof.Rows L2 Evl
theorem cut_front (xs : List V) (k : Nat) : cutV xs none (some (k : Int)) = xs.take k := by
  unfold cutV
  rw [HT.sIx_none, HT.sIx_nat, List.drop_zero, Nat.sub_zero]
  rcases Nat.le_total k xs.length with h | h
  · rw [Nat.min_eq_left h]
  · rw [Nat.min_eq_right h, List.take_length, List.take_of_length_le h]
theorem cut_back (xs : List V) (k : Nat) : cutV xs (some (k : Int)) none = xs.drop k := by
  unfold cutV
  rw [HT.sIx_none, HT.sIx_nat]
  rcases Nat.le_total k xs.length with h | h
  · rw [Nat.min_eq_left h]
    exact List.take_of_length_le (by rw [List.length_drop]; omega)
  · rw [Nat.min_eq_right h, List.drop_length, List.take_nil, List.drop_of_length_le h]
theorem perm_pop {α : Type} {l : List α} {k : Nat} {y : α} (acc : List α) (h : l[k]? = some y) : ((acc ++ [y]) ++ l.eraseIdx k).Perm (acc ++ l) := by
  obtain ⟨lt, e⟩ := List.getElem?_eq_some_iff.mp h
  rw [List.append_assoc]
  refine List.Perm.append_left acc ?_
  have e2 := List.drop_eq_getElem_cons lt
  rw [e] at e2
  rw [List.eraseIdx_eq_take_drop_succ]
  refine List.Perm.trans (l₂ := l.take k ++ y :: l.drop (k + 1)) (show (y :: (l.take k ++ l.drop (k + 1))).Perm _ from List.perm_middle.symm) ?_
  rw [← e2, List.take_append_drop]
end Os
/-! readings that give a new list of pairs -/
namespace Os
open PySem PySem.Spec PyProof.Rows L2 Evl
/-- a reading that gives a new list of these pairs -/
def EvP (te : TE) (σ : L2.St) (H : Hp) (es : List Pr) : Prop := ∀ H1, Ex H H1 → ∀ Q : VK, (∀ p xs H2, H1 p = none → Ex H1 H2 → H2 p = some (.lst xs) → PrsV H2 xs es → Q (.ref p) H2) → te σ H1 Q
section
variable {K : PySem.W.Frag} {σ : L2.St} {H : Hp} {D : Ends} {ta tb tl te : TE} {tr : TA} {tz : TS} {a : Addr} {i j : Nat} {vs : List Nat}
theorem EvP.ex {H' : Hp} {es : List Pr} (h : EvP te σ H es) (e : Ex H H') : EvP te σ H' es := fun H1 e1 => h H1 (e.trans e1)
theorem evp_lst0 : EvP (tLst tNil) σ H [] := fun H1 e Q q => ⟨Nat.zero_le _, fun p hp => q p [] _ hp (Ex.new hp) upd_same .nil⟩
theorem evp_rng (f : Nat → Pr) {lo n : Nat} (hn : n ≤ 100000) (hw : ∀ x, wipe ((wipe σ vs).set j (some x)) vs = wipe σ vs)
    (h1 : ∀ i, i < n → ∀ H1, Ex H H1 → Ev ta ((wipe σ vs).set j (some (.int ((lo + i : Nat) : Int)))) H1 (.int ((f i).1 : Int))) (h2 : ∀ i, i < n → ∀ H1, Ex H H1 → Ev tb ((wipe σ vs).set j (some (.int ((lo + i : Nat) : Int)))) H1 (.int ((f i).2 : Int)))
    {Q : VK} (q : ∀ p xs H2, H p = none → Ex H H2 → H2 p = some (.lst xs) → PrsV H2 xs ((List.range n).map f) → Q (.ref p) H2) : ∀ D, H D = none → ∃ W : Nat → Nat → Hp → Prop, (∃ m, W 0 m (upd H D (.lst []))) ∧ ∀ i m H', W i m H' →
      ((Itr (lo : Int) n).stop i H' ∧ Q (.ref D) H') ∨ ((Itr (lo : Int) n).go i H' ∧ ∃ Nx : Hp → Prop, (∀ H', Nx H' → ∃ m', m' < m ∧ W (i + 1) m' H') ∧ ∀ x H'', (Itr (lo : Int) n).yld i H' x H'' → (gName j) x (wipe σ vs) H'' fun σ2 H2 => wipe σ2 vs = wipe σ vs ∧ tYes σ2 H2 fun b H3 =>
        if b = true then (tTup (tCons ta (tCons tb tNil))) σ2 H3 fun y H4 => ∃ acc, H4 D = some (.lst acc) ∧ acc.length < sizeLine ∧ Nx (upd H4 D (.lst (acc ++ [y]))) else Nx H3) := fun D hD => by
  refine lc_range (lo := (lo : Int)) (n := n) (fun k Hh => Ex H Hh ∧ ∃ zs, Hh D = some (.lst zs) ∧ PrsV Hh zs ((List.range k).map f)) ⟨Ex.new hD, [], upd_same, .nil⟩ ?_ ?_
  · rintro k Hh hk ⟨x1, zs, hzs, pz⟩
    have e0 : (lo : Int) + (k : Int) = ((lo + k : Nat) : Int) := by omega
    rw [e0]
    refine ⟨hw _, ?_⟩
    dsimp only [tYes]
    rw [if_pos rfl]
    refine h1 k hk Hh x1 _ (Ex.refl _) _ fun H3 e3 => h2 k hk H3 (x1.trans e3) _ (Ex.refl _) _ fun H4 e4 => ⟨show 2 ≤ sizeLine by decide, fun t ht => ?_⟩
    have et := Ex.new (o := .tup [.int ((f k).1 : Int), .int ((f k).2 : Int)]) ht
    have X := (e3.trans e4).trans et
    have zl := pz.length
    rw [List.length_map, List.length_range] at zl
    refine ⟨zs, X _ _ hzs, sz_lt (by omega), (x1.trans X).mut hD, zs ++ [.ref t], upd_same, ?_⟩
    rw [List.range_succ, List.map_append]
    exact PrsV.put0 (prs_snoc (pz.ex X) ⟨t, rfl, upd_same⟩) (X _ _ hzs)
  · rintro Hh ⟨x1, zs, hzs, pz⟩
    exact q D zs Hh hD x1 hzs pz
theorem evp_rng1 (f : Nat → Pr) {n : Nat} (hs : EvA tr σ H [.int (n : Int)]) (hn : n ≤ 100000) (hw : ∀ x, wipe ((wipe σ vs).set j (some x)) vs = wipe σ vs)
    (h1 : ∀ i, i < n → ∀ H1, Ex H H1 → Ev ta ((wipe σ vs).set j (some (.int (i : Int)))) H1 (.int ((f i).1 : Int))) (h2 : ∀ i, i < n → ∀ H1, Ex H H1 → Ev tb ((wipe σ vs).set j (some (.int (i : Int)))) H1 (.int ((f i).2 : Int))) :
    EvP (tLc (iRng1 tr) (gName j) tYes (tTup (tCons ta (tCons tb tNil))) vs) σ H ((List.range n).map f) := fun H1 e Q q => hs H1 e _ fun H2 e2 => ⟨(n : Int), rfl, by omega, by omega, by
  have := evp_rng (σ := σ) (H := H2) (vs := vs) (j := j) (ta := ta) (tb := tb) (lo := 0) (Q := Q) f hn hw (fun i hi H3 e3 => by rw [Nat.zero_add]; exact h1 i hi H3 ((e.trans e2).trans e3)) (fun i hi H3 e3 => by rw [Nat.zero_add]; exact h2 i hi H3 ((e.trans e2).trans e3))
    fun p xs H3 hp e3 => q p xs H3 (fresh_back e2 hp) (e2.trans e3)
  have en : ((n : Int)).toNat = n := Int.toNat_natCast n
  rw [en]
  exact this⟩
theorem evp_rng2 (f : Nat → Pr) {lo hi n : Nat} (hs : EvA tr σ H [.int (lo : Int), .int (hi : Int)]) (hn : hi - lo = n) (hh : hi ≤ 100000) (hl : lo ≤ 100000) (hw : ∀ x, wipe ((wipe σ vs).set j (some x)) vs = wipe σ vs)
    (h1 : ∀ i, i < n → ∀ H1, Ex H H1 → Ev ta ((wipe σ vs).set j (some (.int ((lo + i : Nat) : Int)))) H1 (.int ((f i).1 : Int))) (h2 : ∀ i, i < n → ∀ H1, Ex H H1 → Ev tb ((wipe σ vs).set j (some (.int ((lo + i : Nat) : Int)))) H1 (.int ((f i).2 : Int))) :
    EvP (tLc (iRng2 tr) (gName j) tYes (tTup (tCons ta (tCons tb tNil))) vs) σ H ((List.range n).map f) := fun H1 e Q q => hs H1 e _ fun H2 e2 => ⟨(lo : Int), (hi : Int), rfl, ⟨by omega, by omega, by omega, by omega⟩, by
  have h := evp_rng (σ := σ) (H := H2) (vs := vs) (j := j) (ta := ta) (tb := tb) (lo := lo) (Q := Q) f (n := n) (by omega) hw (fun i hi H3 e3 => h1 i hi H3 ((e.trans e2).trans e3)) (fun i hi H3 e3 => h2 i hi H3 ((e.trans e2).trans e3))
    fun p xs H3 hp e3 => q p xs H3 (fresh_back e2 hp) (e2.trans e3)
  have e1 : ((hi : Int) - (lo : Int)).toNat = n := by omega
  rw [e1]
  exact h⟩
/-- over a list of pairs, new pairs -/
theorem evp_prs (f : Pr → Pr) {xs : List V} {es : List Pr} {n : Nat} (hn : n = 2) (h : Ev tl σ H (.ref a)) (hx : H a = some (.lst xs)) (hp : PrsV H xs es) (hz : es.length ≤ 40000) (hw : ∀ x y, wipe (((wipe σ vs).set i (some x)).set j (some y)) vs = wipe σ vs)
    (h1 : ∀ e, e ∈ es → ∀ H1, Ex H H1 → Ev ta (((wipe σ vs).set i (some (.int (e.1 : Int)))).set j (some (.int (e.2 : Int)))) H1 (.int ((f e).1 : Int))) (h2 : ∀ e, e ∈ es → ∀ H1, Ex H H1 → Ev tb (((wipe σ vs).set i (some (.int (e.1 : Int)))).set j (some (.int (e.2 : Int)))) H1 (.int ((f e).2 : Int))) :
    EvP (tLc (iList K tl) (gTup K n (gCons (gName i) (gCons (gName j) gNil))) tYes (tTup (tCons ta (tCons tb tNil))) vs) σ H (es.map f) := fun H0 e0 Q q => h H0 e0 _ fun H1 e1 => ⟨a, rfl, ⟨xs, sq_of ((e0.trans e1) _ _ hx)⟩, fun Dl hD => by
  have X1 := e0.trans e1
  have hlen := hp.length
  refine lc_list (xs := xs) (fun k Hh => Ex H1 Hh ∧ ∃ zs, Hh Dl = some (.lst zs) ∧ PrsV Hh zs ((es.take k).map f)) ⟨Ex.new hD, [], upd_same, .nil⟩ (fun k H' _ p => sq_of (p.1 _ _ (X1 _ _ hx))) (fun k x H' hk p => ?_) (fun H' p => ?_)
  · obtain ⟨x1, zs, hzs, pz⟩ := p
    obtain ⟨e, hek, t, rfl, ht⟩ := hp.get hk
    have ht1 := x1 _ _ (X1 _ _ ht)
    have he := List.mem_of_getElem? hek
    have kl := (List.getElem?_eq_some_iff.mp hek).1
    refine ⟨t, [.int (e.1 : Int), .int (e.2 : Int)], rfl, st_of ht1, hn.symm, .int (e.1 : Int), [.int (e.2 : Int)], rfl, .int (e.2 : Int), [], rfl, rfl, hw _ _, ?_⟩
    dsimp only [tYes]
    rw [if_pos rfl]
    refine h1 e he H' (X1.trans x1) _ (Ex.refl _) _ fun H3 e3 => h2 e he H3 ((X1.trans x1).trans e3) _ (Ex.refl _) _ fun H4 e4 => ⟨show 2 ≤ sizeLine by decide, fun t' ht' => ?_⟩
    have et := Ex.new (o := .tup [.int ((f e).1 : Int), .int ((f e).2 : Int)]) ht'
    have X := (e3.trans e4).trans et
    have zl := pz.length
    rw [List.length_map, List.length_take] at zl
    refine ⟨zs, X _ _ hzs, sz_lt (by omega), (x1.trans X).mut hD, zs ++ [.ref t'], upd_same, ?_⟩
    rw [List.take_add_one, hek, List.map_append]
    exact PrsV.put0 (prs_snoc (pz.ex X) ⟨t', rfl, upd_same⟩) (X _ _ hzs)
  · obtain ⟨x1, zs, hzs, pz⟩ := p
    rw [hlen, List.take_length] at pz
    exact q Dl zs H' (fresh_back e1 hD) (e1.trans x1) hzs pz⟩
/-- list + list -/
theorem evp_cat {es fs : List Pr} {xs : List V} (h1 : Ev ta σ H (.ref a)) (hx : H a = some (.lst xs)) (px : PrsV H xs es) (h2 : EvP tb σ H fs) (hz : es.length + fs.length ≤ 100000) : EvP (tOp rCat ta tb) σ H (es ++ fs) := fun H1 e Q q =>
  h1 H1 e _ fun H2 e2 => h2 H2 (e.trans e2) _ fun p ys H3 hp e3 hy py => by
    have X := (e.trans e2).trans e3
    have l1 := px.length
    have l2 := py.length
    refine ⟨a, p, xs, ys, rfl, rfl, X _ _ hx, hy, sz_of (by omega), fun r hr => ?_⟩
    exact q r _ _ (fresh_back (e2.trans e3) hr) ((e2.trans e3).trans (Ex.new hr)) upd_same (((px.ex X).append py).ex (Ex.new hr))
theorem q_asgP {es : List Pr} (h : EvP te σ H es) (k : ∀ p xs H1, H p = none → Ex H H1 → H1 p = some (.lst xs) → PrsV H1 xs es → tz D (σ.set i (some (.ref p))) H1) : tSeq (tAsg te (gName i)) tz D σ H :=
  h H (Ex.refl H) _ fun p xs H1 hp e h1 h2 => k p xs H1 hp e h1 h2
end
end Os
/-! what pairs keep of their values -/
namespace Os
open PySem PySem.Spec PyProof.Rows L2 Evl
theorem PrsV.mem {G : Hp} : ∀ {vs : List V} {es : List Pr} {e : Pr}, PrsV G vs es → e ∈ es → ∃ v ∈ vs, PrV G v e
  | _, _, _, .cons p r, h => by
    rcases List.mem_cons.mp h with rfl | h
    · exact ⟨_, List.mem_cons_self, p⟩
    · obtain ⟨v, h1, h2⟩ := PrsV.mem r h
      exact ⟨v, List.mem_cons_of_mem _ h1, h2⟩
theorem PrsV.pairwise {G : Hp} {R : V → V → Prop} {S : Pr → Pr → Prop} : ∀ {vs : List V} {es : List Pr}, PrsV G vs es → vs.Pairwise R → (∀ v u e f, R v u → PrV G v e → PrV G u f → S e f) → es.Pairwise S
  | _, _, .nil, _, _ => .nil
  | _, _, .cons p r, h, k => by
    obtain ⟨h1, h2⟩ := List.pairwise_cons.mp h
    refine List.pairwise_cons.mpr ⟨fun f hf => ?_, PrsV.pairwise r h2 k⟩
    obtain ⟨u, hu, pu⟩ := PrsV.mem r hf
    exact k _ _ _ _ (h1 u hu) p pu
end Os
/-! pairs in lists: in, index, filters -/
namespace Os
open PySem PySem.Spec PyProof.Rows L2 Evl
theorem any_pr (es : List Pr) (f : Pr) : ((es.map Os.prD).any fun z => PyData.eqv z (Os.prD f)) = decide (f ∈ es) := by
  rw [List.any_map]
  by_cases h : f ∈ es
  · rw [decide_eq_true h, List.any_eq_true]
    exact ⟨f, h, by show PyData.eqv (Os.prD f) (Os.prD f) = true; rw [eqv_prs, decide_eq_true rfl]⟩
  · rw [decide_eq_false h, List.any_eq_false]
    intro e he z
    have z' : PyData.eqv (Os.prD e) (Os.prD f) = true := z
    rw [eqv_prs] at z'
    exact h (of_decide_eq_true z' ▸ he)
theorem sh_pr (e : Pr) : Sh 1 (Os.prD e) := .tup fun x hx => by
  rcases List.mem_cons.mp hx with rfl | hx
  · exact .int 0 _
  · rw [List.mem_singleton.mp hx]
    exact .int 0 _
section
variable {K : PySem.W.Frag} {σ : L2.St} {H : Hp} {D : Ends} {ta tb tl te : TE} {tt : TT} {tz : TS} {a : Addr} {i j : Nat} {vs : List Nat} {v u : V} {e f : Pr} {es : List Pr} {xs : List V}
theorem rv_inP (hv : PrV H v e) (ha : H a = some (.lst xs)) (px : PrsV H xs es) : RV (rInD K) v (.ref a) H (.bl (decide (e ∈ es))) := fun H1 e1 Q q =>
  ⟨prD e, es.map prD, ((hv.ex e1).dt).dp, (Dt.lst (e1 _ _ ha) ((px.ex e1).dts)).dp, (sh_pr e).shaped (by decide), (sh_prs' es).shaped (by decide), by
    rw [any_pr]
    exact q H1 (Ex.refl H1)⟩
theorem rv_ninP (hv : PrV H v e) (ha : H a = some (.lst xs)) (px : PrsV H xs es) : RV (rNotInD K) v (.ref a) H (.bl (!decide (e ∈ es))) := fun H1 e1 Q q =>
  ⟨prD e, es.map prD, ((hv.ex e1).dt).dp, (Dt.lst (e1 _ _ ha) ((px.ex e1).dts)).dp, (sh_pr e).shaped (by decide), (sh_prs' es).shaped (by decide), by
    rw [any_pr]
    exact q H1 (Ex.refl H1)⟩
theorem eqD_pr (hv : PrV H v e) (hu : PrV H u f) : RV (rEqD K) v u H (.bl (decide (e = f))) := fun H1 e1 Q q =>
  ⟨prD e, prD f, ((hv.ex e1).dt).dp, ((hu.ex e1).dt).dp, (sh_pr e).shaped (by decide), (sh_pr f).shaped (by decide), by
    rw [eqv_prs]
    exact q H1 (Ex.refl H1)⟩
theorem neD_pr (hv : PrV H v e) (hu : PrV H u f) : RV (rNeD K) v u H (.bl (!decide (e = f))) := fun H1 e1 Q q =>
  ⟨prD e, prD f, ((hv.ex e1).dt).dp, ((hu.ex e1).dt).dp, (sh_pr e).shaped (by decide), (sh_pr f).shaped (by decide), by
    rw [eqv_prs]
    exact q H1 (Ex.refl H1)⟩
theorem ev_indexP (h : Ev ta σ H (.ref a)) (ha : H a = some (.lst xs)) (px : PrsV H xs es) (he : Ev te σ H v) (hv : PrV H v e) (hx : e ∈ es) : Ev (tBM K "list" (rIndexD K) ta (tCons te tNil)) σ H (.int ((es.idxOf e : Nat) : Int)) := fun H1 e1 Q q =>
  h H1 e1 _ fun H2 e2 => ⟨Or.inl ⟨rfl, _, sq_of ((e1.trans e2) _ _ ha)⟩, he H2 (e1.trans e2) _ fun H3 e3 => by
    have x3 := (e1.trans e2).trans e3
    have lt := List.idxOf_lt_length_of_mem hx
    refine ⟨a, v, prD e, es.map prD, es.idxOf e, prD e, rfl, rfl, (Dt.lst (x3 _ _ ha) ((px.ex x3).dts)).dp, ((hv.ex x3).dt).dp, (sh_prs' es).shaped (by decide), (sh_pr e).shaped (by decide), ?_, (sh_pr e).refl, ?_, q H3 (e2.trans e3)⟩
    · rw [List.getElem?_map, List.getElem?_eq_getElem lt, List.getElem_idxOf]
      rfl
    · intro m z hm hz
      rw [List.getElem?_map] at hz
      obtain ⟨g, hg, rfl⟩ := Option.map_eq_some_iff.mp hz
      rw [eqv_prs]
      refine decide_eq_false fun z => ?_
      obtain ⟨ml, me⟩ := List.getElem?_eq_some_iff.mp hg
      have := List.not_of_lt_findIdx (p := fun z => z == e) (xs := es) hm
      rw [me, z, beq_self_eq_true] at this
      cases this⟩
/-- [x for x in a list of pairs if ..] -/
theorem evp_filter (f : Pr → Bool) (h : Ev tl σ H (.ref a)) (hx : H a = some (.lst xs)) (px : PrsV H xs es) (few : es.length ≤ 40000) (hw : ∀ x, wipe ((wipe σ vs).set j (some x)) vs = wipe σ vs)
    (hj : ∀ x, ((wipe σ vs).set j (some x))[j]? = some (some x))
    (ht : ∀ e v H1, Ex H H1 → e ∈ es → PrV H1 v e → EvT tt ((wipe σ vs).set j (some v)) H1 (f e)) : EvP (tLc (iList K tl) (gName j) tt (tVar j) vs) σ H (es.filter f) := fun H0 e0 Q q => h H0 e0 _ fun H1 e1 => ⟨a, rfl, ⟨xs, sq_of ((e0.trans e1) _ _ hx)⟩, fun Dl hD => by
  have X1 := e0.trans e1
  have hlen := px.length
  have px1 := px.ex X1
  refine lc_list (xs := xs) (fun k Hh => Ex H1 Hh ∧ ∃ zs, Hh Dl = some (.lst zs) ∧ PrsV Hh zs ((es.take k).filter f)) ⟨Ex.new hD, [], upd_same, .nil⟩ (fun k H' _ p => sq_of (p.1 _ _ (X1 _ _ hx))) (fun k x H' hk p => ?_) (fun H' p => ?_)
  · obtain ⟨x1, zs, hzs, pz⟩ := p
    obtain ⟨e, hek, pe⟩ := px1.get hk
    have kl := (List.getElem?_eq_some_iff.mp hek).1
    have tk : (es.take (k + 1)).filter f = (es.take k).filter f ++ (if f e = true then [e] else []) := by
      rw [List.take_add_one, hek, List.filter_append]
      show _ ++ List.filter f [e] = _
      rw [List.filter_cons]
      rfl
    refine ⟨hw _, ?_⟩
    refine ht e x H' (X1.trans x1) (List.mem_of_getElem? hek) (pe.ex x1) H' (Ex.refl _) _ fun H3 e3 => ?_
    have zl := pz.length
    have fl := List.length_filter_le f (es.take k)
    rw [List.length_take] at fl
    cases hf : f e with
    | true =>
      rw [if_pos rfl]
      refine ⟨x, hj x, zs, e3 _ _ hzs, sz_lt (by omega), (x1.trans e3).mut hD, zs ++ [x], upd_same, ?_⟩
      rw [tk, hf, if_pos rfl]
      exact PrsV.put0 (prs_snoc (pz.ex e3) ((pe.ex x1).ex e3)) (e3 _ _ hzs)
    | false =>
      rw [if_neg (by decide)]
      refine ⟨x1.trans e3, zs, e3 _ _ hzs, ?_⟩
      rw [tk, hf, if_neg (by decide), List.append_nil]
      exact pz.ex e3
  · obtain ⟨x1, zs, hzs, pz⟩ := p
    rw [hlen, List.take_length] at pz
    exact q Dl zs H' (fresh_back e1 hD) (e1.trans x1) hzs pz⟩
end
end Os
/-! min of a list of lists of pairs -/
namespace Os
open PySem PySem.Spec PyProof.Rows L2 Evl
theorem ltL_trans : ∀ {a b c : List Pr}, ltL a b = true → ltL b c = true → ltL a c = true
  | [], [], _, h, _ => by cases h
  | [], _ :: _, [], _, k => by cases k
  | [], _ :: _, _ :: _, _, _ => rfl
  | _ :: _, [], _, h, _ => by cases h
  | _ :: _, _ :: _, [], _, k => by cases k
  | x :: a, y :: b, z :: c, h, k => by
    unfold ltL at h k ⊢
    by_cases e1 : x = y
    · subst e1
      rw [if_pos rfl] at h
      by_cases e2 : x = z
      · subst e2
        rw [if_pos rfl] at k ⊢
        exact ltL_trans h k
      · rw [if_neg e2] at k ⊢
        exact k
    · rw [if_neg e1] at h
      by_cases e2 : y = z
      · subst e2
        rw [if_neg e1]
        exact h
      · rw [if_neg e2] at k
        have lt : Os.ltP x z = true := by
          rw [ltP_iff] at h k ⊢
          omega
        rw [if_neg (ltP_ne lt)]
        exact lt
def minL (e : List Pr) (es : List (List Pr)) : List Pr := es.foldl (fun a y => if ltL y a = true then y else a) e
theorem minL_least : ∀ (es : List (List Pr)) (e : List Pr), ∀ f ∈ e :: es, ltL f (minL e es) = false
  | [], e, f, hf => by
    rw [List.mem_singleton.mp hf]
    exact ltL_irr e
  | y :: es, e, f, hf => by
    show ltL f (minL (if ltL y e = true then y else e) es) = false
    by_cases h : ltL y e = true
    · rw [if_pos h]
      have ih := minL_least es y
      have iy := ih y List.mem_cons_self
      rcases List.mem_cons.mp hf with rfl | hf
      · rw [← Bool.not_eq_true]
        intro z
        rw [ltL_trans h z] at iy
        cases iy
      · exact ih f hf
    · rw [if_neg h]
      have ih := minL_least es e
      have ie := ih e List.mem_cons_self
      rcases List.mem_cons.mp hf with rfl | hf
      · exact ie
      · rcases List.mem_cons.mp hf with rfl | hf
        · rw [← Bool.not_eq_true]
          intro z
          have h' : ltL f e = false := by
            rw [← Bool.not_eq_true]
            exact h
          cases k : ltL e f with
          | true =>
            rw [ltL_trans k z] at ie
            cases ie
          | false =>
            have := ltL_one h' k
            rw [this] at z
            rw [z] at ie
            cases ie
        · exact ih f (List.mem_cons_of_mem _ hf)
def prsD (l : List Pr) : PyData := .list (l.map Os.prD)
theorem lt_prs : ∀ a b : List Pr, PyProof.Rows.lexLt itemOrd (PySem.W.keyToksAll (a.map Os.prD)) (PySem.W.keyToksAll (b.map Os.prD)) = ltL a b
  | [], [] => lex_irrefl _
  | [], y :: b => by
    show PyProof.Rows.lexLt itemOrd [.inl 0] (.inl 1 :: _) = true
    exact lex_diff (O := itemOrd) (x := .inl 0) (y := .inl 1) (by decide)
  | x :: a, [] => by
    show PyProof.Rows.lexLt itemOrd (.inl 1 :: _) [.inl 0] = false
    exact lex_diff (O := itemOrd) (x := .inl 1) (y := .inl 0) (by decide)
  | x :: a, y :: b => by
    show PyProof.Rows.lexLt itemOrd (PySem.W.keyToksAll (Os.prD x :: a.map Os.prD)) (PySem.W.keyToksAll (Os.prD y :: b.map Os.prD)) = if x = y then ltL a b else Os.ltP x y
    by_cases e : x = y
    · subst e
      rw [if_pos rfl, PySem.W.dataLt_all_yes (alike_pr x x) (by rw [eqv_prs, decide_eq_true rfl])]
      exact lt_prs a b
    · rw [if_neg e, PySem.W.dataLt_all_no (alike_pr x y) (by rw [eqv_prs, decide_eq_false e])]
      exact lt_pr x y
theorem lt_prsD (a b : List Pr) : PySem.W.dataLt (prsD a) (prsD b) = ltL a b := lt_prs a b
theorem minD_prs : ∀ (es : List (List Pr)) (e : List Pr), PySem.W.minD (prsD e) (es.map prsD) = prsD (minL e es)
  | [], _ => rfl
  | y :: es, e => by
    show PySem.W.minD (if PySem.W.dataLt (prsD y) (prsD e) = true then prsD y else prsD e) (es.map prsD) = prsD (minL (if ltL y e = true then y else e) es)
    rw [lt_prsD]
    by_cases h : ltL y e = true
    · rw [if_pos h, if_pos h]
      exact minD_prs es y
    · rw [if_neg h, if_neg h]
      exact minD_prs es e
theorem prs_inj : ∀ {a b : List Pr}, a.map Os.prD = b.map Os.prD → a = b
  | [], [], _ => rfl
  | [], _ :: _, h => by cases h
  | _ :: _, [], h => by cases h
  | x :: a, y :: b, h => by
    rw [prD_inj (List.cons.inj h).1, prs_inj (List.cons.inj h).2]
theorem prsD_inj {a b : List Pr} (h : prsD a = prsD b) : a = b := prs_inj (PyData.list.inj h)
theorem alike_prs : ∀ a b : List Pr, PySem.W.alikeAll (a.map Os.prD) (b.map Os.prD) = true
  | [], [] => by simp [PySem.W.alikeAll]
  | [], _ :: _ => by simp [PySem.W.alikeAll]
  | _ :: _, [] => by simp [PySem.W.alikeAll]
  | x :: a, y :: b => by
    show PySem.W.alikeAll (Os.prD x :: a.map Os.prD) (Os.prD y :: b.map Os.prD) = true
    rw [PySem.W.alikeAll, alike_pr, alike_prs a b]
    rfl
theorem prsD_lay (l : List Pr) : (prsD l).canLay0 = true := by
  unfold prsD
  simp only [PyData.canLay0]
  exact prs_lay l
theorem prsD_depth : ∀ Ls : List (List Pr), PyData.depthAll (Ls.map prsD) ≤ 2
  | [] => by simp [PyData.depthAll]
  | l :: Ls => by
    have h1 := prsD_depth Ls
    have h2 := prs_depth l
    show max (prsD l).depth (PyData.depthAll (Ls.map prsD)) ≤ 2
    have h3 : (prsD l).depth ≤ 2 := by
      unfold prsD
      simp only [PyData.depth]
      omega
    omega
/-- lists of pairs -/
inductive SqsV (G : Hp) : List V → List (List Pr) → Prop
  | nil : SqsV G [] []
  | cons {a : Addr} {xs : List V} {l : List Pr} {vs : List V} {L : List (List Pr)} : G a = some (.lst xs) → PrsV G xs l → SqsV G vs L → SqsV G (.ref a :: vs) (l :: L)
theorem SqsV.length {G : Hp} : ∀ {vs : List V} {L : List (List Pr)}, SqsV G vs L → vs.length = L.length
  | _, _, .nil => rfl
  | _, _, .cons _ _ t => congrArg (· + 1) (SqsV.length t)
theorem SqsV.dts {G : Hp} : ∀ {vs : List V} {L : List (List Pr)}, SqsV G vs L → Dts G vs (L.map prsD)
  | _, _, .nil => .nil
  | _, _, .cons h p t => .cons (.lst h p.dts) (SqsV.dts t)
theorem SqsV.get {G : Hp} : ∀ {vs : List V} {L : List (List Pr)} {i : Nat} {v : V}, SqsV G vs L → vs[i]? = some v → ∃ l a xs, L[i]? = some l ∧ v = .ref a ∧ G a = some (.lst xs) ∧ PrsV G xs l
  | _, _, _, _, .nil, e => by simp at e
  | _, _, 0, _, .cons h p _, e => by
    simp at e
    subst e
    exact ⟨_, _, _, rfl, rfl, h, p⟩
  | _, _, i + 1, v, .cons _ _ t, e => by
    obtain ⟨l, a, xs, h1, h2⟩ := SqsV.get (i := i) (v := v) t (by simpa using e)
    exact ⟨l, a, xs, by simpa using h1, h2⟩
section
variable {X : Cx}
def rMinL : List V → Hp → VK → Prop := fun vs H Q => ∃ (a : Addr) (xs : List V) (Ls : List (List Pr)), vs = [V.ref a] ∧ H a = some (.lst xs) ∧ SqsV H xs Ls ∧ Ls ≠ [] ∧
  ∀ (i : Nat) (v : V) (l : List Pr), xs[i]? = some v → Ls[i]? = some l → (∀ f ∈ Ls, ltL f l = false) → Q v H
theorem cr_minL (hc : X.calm = true) (hu : X.A.units + 64 < cLine) : CallR X (.builtin "min") rMinL := by
  intro pins s σ H vs us Q I r h
  obtain ⟨a, xs, es, rfl, ha, hp, ne, q⟩ := h
  obtain ⟨its, rv, hl, _⟩ := I.list (sq_of ha)
  rw [Vals.ref1 r]
  cases es with
  | nil => exact absurd rfl ne
  | cons e es =>
    obtain ⟨as, rd⟩ := Dp.readsAll I ((e :: es).map prsD) xs its hp.dts.dp rv
    refine PySem.W.min_list_data (x := prsD e) (xs := es.map prsD) (I.ok.hd hc) hl.isList rd ⟨fun x hx y hy => ?_, fun x hx => ?_⟩ (by have : PyData.depthAll (prsD e :: es.map prsD) ≤ 2 := prsD_depth (e :: es); omega) fun i v h' tk bs hv rdm hk => ?_
    · have hx' : x ∈ (e :: es).map prsD := hx
      have hy' : y ∈ (e :: es).map prsD := hy
      obtain ⟨x1, _, rfl⟩ := List.mem_map.mp hx'
      obtain ⟨y1, _, rfl⟩ := List.mem_map.mp hy'
      show PySem.W.alike (.list _) (.list _) = true
      rw [PySem.W.alike]
      exact alike_prs x1 y1
    · have hx' : x ∈ (e :: es).map prsD := hx
      obtain ⟨x1, _, rfl⟩ := List.mem_map.mp hx'
      exact fun z => nomatch z
    · have hv' : its[i]? = some v := by simpa using hv
      have il : i < xs.length := by
        rw [rv.length]
        exact (List.getElem?_eq_some_iff.mp hv').1
      have hx : xs[i]? = some xs[i] := List.getElem?_eq_getElem il
      generalize xs[i] = x at hx
      obtain ⟨u, hu1, ru⟩ := rv.get hx
      rw [hv'] at hu1
      cases hu1
      obtain ⟨l, b, ys, he', rfl, hb, pe⟩ := hp.get hx
      obtain ⟨bs', rd'⟩ := Dp.reads I (prsD l) (.ref b) v (Dt.dp (.lst hb pe.dts)) ru
      have r1 := SeqAt.readOf_eq (prsD_lay l) (PySem.W.reads_keeps hk rd')
      rw [minD_prs] at rdm
      have r2 := SeqAt.readOf_eq (prsD_lay _) rdm
      have ee : l = minL e es := prsD_inj (r1.symm.trans r2)
      subst ee
      exact ⟨.ref b, H, I.kept hk, ru, q i _ _ hx he' (minL_least es e)⟩
end
end Os
/-! sorted of tuples of any data -/
namespace Os
open PySem PySem.Spec PyProof.Rows L2 Evl
open PySem.W (EachIs dataLe AllAlike Sortable)
theorem each_at {α β : Type} {R : α → β → Prop} : ∀ {as : List α} {bs : List β}, as.length = bs.length → (∀ (i : Nat) (a : α) (b : β), as[i]? = some a → bs[i]? = some b → R a b) → EachIs R as bs
  | [], [], _, _ => .nil
  | [], _ :: _, h, _ => nomatch h
  | _ :: _, [], h, _ => nomatch h
  | a :: as, b :: bs, h, k => .cons (k 0 a b rfl rfl) (each_at (Nat.succ.inj h) fun i x y hx hy => k (i + 1) x y hx hy)
theorem each_get {α β : Type} {R : α → β → Prop} : ∀ {as : List α} {bs : List β} {i : Nat} {a : α}, EachIs R as bs → as[i]? = some a → ∃ b, bs[i]? = some b ∧ R a b
  | _, _, 0, _, .cons r _, h => by
    cases h
    exact ⟨_, rfl, r⟩
  | _, _, i + 1, _, .cons _ t, h => each_get (i := i) t h
section
variable {X : Cx} {β : Type}
/-- sorted(xs): the items are tuples that read as the data of bs -/
def rSortE (K : PySem.W.Frag) (enc : β → PyData) : List V → Hp → VK → Prop := fun vs H Q => ∃ (a : Addr) (xs : List V) (bs : List β), vs = [V.ref a] ∧ H a = some (.lst xs) ∧ Dts H xs (bs.map enc) ∧ (∀ x ∈ xs, ∃ t, x = V.ref t) ∧ AllAlike (bs.map enc) ∧ Sortable (bs.map enc) ∧ (∀ b ∈ bs, (enc b).depth ≤ 40) ∧ xs.length ≤ 100000 ∧
  ∀ (ys : List V) (p : Addr), ys.length = bs.length → (∀ (j : Nat) (y : V), ys[j]? = some y → ∃ (i : Nat) (b : β), xs[i]? = some y ∧ bs[i]? = some b ∧ (bs.mergeSort (dataLe false enc))[j]? = some b) → H p = none → Q (.ref p) (upd H p (.lst ys))
theorem cr_sortE (enc : β → PyData) (hu : X.A.units + 64 < cLine) : CallR X (.builtin "sorted") (rSortE X.K enc) := by
  intro pins s σ H vs us Q I r h
  obtain ⟨a, xs, bs, rfl, ha, hd, hrf, al, so, dep, hz0, q⟩ := h
  obtain ⟨its, rv, hl, hz⟩ := I.list (sq_of ha)
  rw [Vals.ref1 r]
  obtain ⟨e1, e2⟩ := bkV_refs rv hrf
  obtain ⟨as, rd⟩ := Dp.readsAll I (bs.map enc) xs its hd.dp rv
  have lx : xs.length = bs.length := by rw [hd.length, List.length_map]
  have li : its.length = bs.length := by rw [← lx, e1, List.length_map]
  refine PySem.W.sorted_data (R := fun v b => ∃ i, its[i]? = some v ∧ bs[i]? = some b) (enc := enc) (bs := bs) hl.isList (each_at li fun i v b hv hb => ⟨i, hv, hb⟩) (PySem.W.readsAll_each enc rd) al so (by rw [← lx]; exact sz_of hz0) (fun b hb => by have := dep b hb; omega) fun out ol eo => ?_
  obtain ⟨ep, he'⟩ := PyProof.Rows.sortedAll_at s.heap its (List.toArray out)
  have h3 : ∀ u ∈ out, ∃ a, u = Value.ref a := fun u hu => by
    obtain ⟨j, hj⟩ := List.mem_iff_getElem?.mp hu
    obtain ⟨b, _, i, hi, _⟩ := each_get eo hj
    exact e2 u (List.mem_of_getElem? hi)
  have hlen : (out.map bkV).length ≤ sizeLine := by
    rw [List.length_map, ol, ← lx]
    exact hz
  refine ⟨.ref _, upd H (s.heap.objs.size + 1) (.lst (out.map bkV)), I.laid (t' := s.toks) (fun _ _ => PyProof.Rows.sortedAll_old) (Nat.le_succ _) ⟨hlen, out, ep, bkV_vals h3, by simpa using he'⟩, rfl, q _ _ (by rw [List.length_map, ol]) (fun j y hy => ?_) (I.hok.fresh (Nat.le_succ _))⟩
  rw [List.getElem?_map] at hy
  obtain ⟨u, hu, rfl⟩ := Option.map_eq_some_iff.mp hy
  obtain ⟨b, hb, i, hi, hbi⟩ := each_get eo hu
  exact ⟨i, b, by rw [e1, List.getElem?_map, hi]; rfl, hbi, hb⟩
end
/-! ### pairs of pairs -/
abbrev PP := Pr × Pr
def ppD (q : PP) : PyData := .tuple [prD q.1, prD q.2]
def PPV (G : Hp) (v : V) (q : PP) : Prop := ∃ t v1 v2, v = .ref t ∧ G t = some (.tup [v1, v2]) ∧ PrV G v1 q.1 ∧ PrV G v2 q.2
def PPsV (G : Hp) (xs : List V) (L : List PP) : Prop := xs.length = L.length ∧ ∀ (i : Nat) (x : V) (q : PP), xs[i]? = some x → L[i]? = some q → PPV G x q
theorem PPV.ex {G G' : Hp} {v : V} {q : PP} (h : PPV G v q) (e : Ex G G') : PPV G' v q := by
  obtain ⟨t, v1, v2, h1, h2, h3, h4⟩ := h
  exact ⟨t, v1, v2, h1, e _ _ h2, h3.ex e, h4.ex e⟩
theorem PPV.dt {G : Hp} {v : V} {q : PP} (h : PPV G v q) : Dt G v (ppD q) := by
  obtain ⟨t, v1, v2, rfl, h2, h3, h4⟩ := h
  exact .tup h2 (.cons h3.dt (.cons h4.dt .nil))
theorem PPsV.ex {G G' : Hp} {xs : List V} {L : List PP} (h : PPsV G xs L) (e : Ex G G') : PPsV G' xs L := ⟨h.1, fun i x q hx hq => (h.2 i x q hx hq).ex e⟩
theorem PPsV.get {G : Hp} {xs : List V} {L : List PP} {i : Nat} {x : V} (h : PPsV G xs L) (hx : xs[i]? = some x) : ∃ q, L[i]? = some q ∧ PPV G x q := by
  obtain ⟨il, _⟩ := List.getElem?_eq_some_iff.mp hx
  have il2 : i < L.length := by have := h.1; omega
  have hq : L[i]? = some L[i] := List.getElem?_eq_getElem il2
  exact ⟨_, hq, h.2 i x _ hx hq⟩
theorem pps_nil {G : Hp} : PPsV G [] [] := ⟨rfl, fun i x q h => nomatch h⟩
theorem pps_snoc {G : Hp} {xs : List V} {L : List PP} {v : V} {q : PP} (h : PPsV G xs L) (hv : PPV G v q) : PPsV G (xs ++ [v]) (L ++ [q]) := by
  refine ⟨by rw [List.length_append, List.length_append, h.1]; rfl, fun i x r hx hr => ?_⟩
  by_cases il : i < xs.length
  · rw [List.getElem?_append_left il] at hx
    rw [List.getElem?_append_left (by have := h.1; omega)] at hr
    exact h.2 i x r hx hr
  · rw [List.getElem?_append_right (by omega)] at hx
    rw [List.getElem?_append_right (by have := h.1; omega)] at hr
    have e1 := List.mem_singleton.mp (List.mem_of_getElem? hx)
    have e2 := List.mem_singleton.mp (List.mem_of_getElem? hr)
    rw [e1, e2]
    exact hv
theorem PPsV.app {G : Hp} {xs ys : List V} {L M : List PP} (h : PPsV G xs L) (k : PPsV G ys M) : PPsV G (xs ++ ys) (L ++ M) := by
  refine ⟨by rw [List.length_append, List.length_append, h.1, k.1], fun i x r hx hr => ?_⟩
  by_cases il : i < xs.length
  · rw [List.getElem?_append_left il] at hx
    rw [List.getElem?_append_left (by have := h.1; omega)] at hr
    exact h.2 i x r hx hr
  · rw [List.getElem?_append_right (by omega)] at hx
    rw [List.getElem?_append_right (by have := h.1; omega)] at hr
    rw [h.1] at hx
    exact k.2 _ x r hx hr
/-- an object that is no tuple may change -/
theorem PPsV.put0 {p : Addr} {G : Hp} {xs' zs vs : List V} {L : List PP} (h : PPsV G vs L) (hp : G p = some (.lst xs')) : PPsV (L2.upd G p (.lst zs)) vs L := ⟨h.1, fun i x q hx hq => by
  obtain ⟨t, v1, v2, rfl, h2, ⟨t1, rfl, h3⟩, ⟨t2, rfl, h4⟩⟩ := h.2 i x q hx hq
  have off : ∀ {y : Addr} {ws : List V}, G y = some (.tup ws) → (L2.upd G p (.lst zs)) y = some (.tup ws) := fun {y ws} hy => by
    rw [L2.upd_ne fun e => by
      rw [e, hp] at hy
      cases hy]
    exact hy
  exact ⟨t, _, _, rfl, off h2, ⟨t1, rfl, off h3⟩, ⟨t2, rfl, off h4⟩⟩⟩
theorem PPsV.dts {G : Hp} : ∀ {xs : List V} {L : List PP}, PPsV G xs L → Dts G xs (L.map ppD)
  | [], [], _ => .nil
  | [], _ :: _, h => nomatch h.1
  | _ :: _, [], h => nomatch h.1
  | x :: xs, q :: L, h => .cons (h.2 0 x q rfl rfl).dt (PPsV.dts (xs := xs) (L := L) ⟨Nat.succ.inj h.1, fun i y r hy hr => h.2 (i + 1) y r hy hr⟩)
theorem pp_alike (L : List PP) : AllAlike (L.map ppD) := AllAlike.of fun p q => by
  show PySem.W.alike (.tuple _) (.tuple _) = true
  rw [PySem.W.alike]
  show PySem.W.alikeAll [prD p.1, prD p.2] [prD q.1, prD q.2] = true
  rw [PySem.W.alikeAll, PySem.W.alikeAll, alike_pr, alike_pr]
  simp [PySem.W.alikeAll]
theorem pp_sortable (L : List PP) : Sortable (L.map ppD) := Sortable.tuples fun q => ⟨_, _, rfl⟩
theorem pp_depth (q : PP) : (ppD q).depth ≤ 40 := by
  show (PyData.tuple [prD q.1, prD q.2]).depth ≤ 40
  simp [PyData.depth, PyData.depthAll, prD]
/-- pairs of pairs in ascending order -/
def ordPP (L : List PP) : List PP := L.mergeSort (dataLe false ppD)
theorem ord_perm (L : List PP) : (ordPP L).Perm L := List.mergeSort_perm L _
theorem ord_mem {L : List PP} {q : PP} : q ∈ ordPP L ↔ q ∈ L := (ord_perm L).mem_iff
section
variable {K : PySem.W.Frag} {σ : L2.St} {H : Hp} {te : TE}
/-- sorted of a list of pairs of pairs, behind what gives the list -/
theorem sort_pp {a : Addr} {xs : List V} {L : List PP} {Q : VK} (ha : H a = some (.lst xs)) (hp : PPsV H xs L) (few : L.length ≤ 100000)
    (q : ∀ p ys, H p = none → PPsV (L2.upd H p (.lst ys)) ys (ordPP L) → Q (.ref p) (L2.upd H p (.lst ys))) : rSortE K ppD [.ref a] H Q := by
  refine ⟨a, xs, L, rfl, ha, hp.dts, fun x hx => ?_, pp_alike L, pp_sortable L, fun b _ => pp_depth b, by rw [hp.1]; exact few, fun ys p yl at' hpn => q p ys hpn (PPsV.ex ⟨?_, fun j y r hy hr => ?_⟩ (Ex.new hpn))⟩
  · obtain ⟨i, hi⟩ := List.mem_iff_getElem?.mp hx
    obtain ⟨r, _, t, _, _, h, _⟩ := hp.get hi
    exact ⟨t, h⟩
  · rw [yl, (ord_perm L).length_eq]
  · obtain ⟨i, b, h1, h2, h3⟩ := at' j y hy
    have h3' : (ordPP L)[j]? = some b := h3
    rw [hr] at h3'
    cases h3'
    exact hp.2 i y r h1 h2
end
end Os
/-! which swap comes directly before which; what follows what -/
namespace Os
open PySem PySem.Spec PyProof.Rows
def eb (p q : Nat) : Pr := (min p q, max p q)
theorem eb_touch {e : Pr} {p q : Nat} (h : Tch e p q) (lt : e.1 < e.2) : eb p q = e := by
  rcases h with ⟨a, b⟩ | ⟨a, b⟩ <;> refine Prod.ext ?_ ?_ <;> simp only [eb] <;> omega
theorem eb_tch {p q : Nat} (ne : p ≠ q) : Tch (eb p q) p q := by
  unfold Tch eb
  rcases Nat.lt_or_gt_of_ne ne with h | h
  · exact .inl ⟨by simp only []; omega, by simp only []; omega⟩
  · exact .inr ⟨by simp only []; omega, by simp only []; omega⟩
/-- the pairs of edges that directly follow one another at p -/
def folT (p : Nat) (t : List Nat) : List PP := (t.zip t.tail).map fun ab => (eb p ab.1, eb p ab.2)
def folN (n : Nat) (tn : Nat → List Nat) : List PP := (List.range n).flatMap fun p => folT p (tn p)
theorem zip_tail {α : Type} : ∀ {l : List α} {a b : α}, (a, b) ∈ l.zip l.tail ↔ ∃ T1 T2, l = T1 ++ a :: b :: T2
  | [], a, b => ⟨fun h => (by simp at h), fun ⟨T1, T2, h⟩ => (by simp at h)⟩
  | [x], a, b => ⟨fun h => (by simp at h), fun ⟨T1, T2, h⟩ => by
      have := congrArg List.length h
      simp at this
      omega⟩
  | x :: y :: l, a, b => by
    show (a, b) ∈ (x, y) :: (y :: l).zip l ↔ _
    rw [List.mem_cons]
    have ih := zip_tail (l := y :: l) (a := a) (b := b)
    constructor
    · rintro (h | h)
      · cases h
        exact ⟨[], l, rfl⟩
      · obtain ⟨T1, T2, e⟩ := ih.mp h
        exact ⟨x :: T1, T2, by rw [e]; rfl⟩
    · rintro ⟨T1, T2, e⟩
      cases T1 with
      | nil =>
        have e' : x :: y :: l = a :: b :: T2 := e
        cases e'
        exact .inl rfl
      | cons z T1 =>
        have e' : x :: y :: l = z :: (T1 ++ a :: b :: T2) := e
        injection e' with e1 e2
        exact .inr (ih.mpr ⟨T1, T2, e2⟩)
theorem mem_folT {p : Nat} {t : List Nat} {q : PP} : q ∈ folT p t ↔ ∃ T1 a b T2, t = T1 ++ a :: b :: T2 ∧ q = (eb p a, eb p b) := by
  unfold folT
  rw [List.mem_map]
  constructor
  · rintro ⟨⟨a, b⟩, h, rfl⟩
    obtain ⟨T1, T2, e⟩ := zip_tail.mp h
    exact ⟨T1, a, b, T2, e, rfl⟩
  · rintro ⟨T1, a, b, T2, e, rfl⟩
    exact ⟨(a, b), zip_tail.mpr ⟨T1, T2, e⟩, rfl⟩
theorem mem_folN {n : Nat} {tn : Nat → List Nat} {q : PP} : q ∈ folN n tn ↔ ∃ p, p < n ∧ ∃ T1 a b T2, tn p = T1 ++ a :: b :: T2 ∧ q = (eb p a, eb p b) := by
  unfold folN
  rw [List.mem_flatMap]
  constructor
  · rintro ⟨p, hp, h⟩
    exact ⟨p, List.mem_range.mp hp, mem_folT.mp h⟩
  · rintro ⟨p, hp, h⟩
    exact ⟨p, List.mem_range.mpr hp, mem_folT.mpr h⟩
/-- e comes before f -/
def Bef (os : List Pr) (e f : Pr) : Prop := ∃ A B C, os = A ++ e :: (B ++ f :: C)
theorem turn_edge {n : Nat} {es : List Pr} (E : Edges n es) {p a : Nat} (h : a ∈ turnOf p es) : eb p a ∈ es ∧ Tch (eb p a) p a ∧ p ≠ a ∧ p < n := by
  obtain ⟨e, he, t⟩ := mem_turn h
  have t' : Tch e p a := by
    rcases t with ⟨h1, h2⟩ | ⟨h1, h2⟩
    · exact .inl ⟨h1, h2⟩
    · exact .inr ⟨h2, h1⟩
  have := E.inn e he
  have ee := eb_touch t' this.1
  rw [ee]
  refine ⟨he, t', ?_, ?_⟩ <;> rcases t' with ⟨h1, h2⟩ | ⟨h1, h2⟩ <;> omega
section
variable {n : Nat} {es os : List Pr}
theorem some_touch {p a : Nat} {e : Pr} (h : (if e.1 = p then some e.2 else if e.2 = p then some e.1 else none) = some a) : Tch e p a := by
  by_cases h1 : e.1 = p
  · rw [if_pos h1] at h
    exact .inl ⟨h1, Option.some.inj h⟩
  · rw [if_neg h1] at h
    by_cases h2 : e.2 = p
    · rw [if_pos h2] at h
      exact .inr ⟨h2, Option.some.inj h⟩
    · rw [if_neg h2] at h
      cases h
theorem turn_two {p a b : Nat} {T1 T2 : List Nat} (h : turnOf p os = T1 ++ a :: b :: T2) : ∃ A e B f C, os = A ++ e :: (B ++ f :: C) ∧ Tch e p a ∧ Tch f p b := by
  obtain ⟨l1, l2, rfl, _, h2⟩ := List.filterMap_eq_append_iff.mp h
  obtain ⟨m1, e, m2, rfl, _, he, hm⟩ := List.filterMap_eq_cons_iff.mp h2
  obtain ⟨k1, f, k2, rfl, _, hf, _⟩ := List.filterMap_eq_cons_iff.mp hm
  exact ⟨l1 ++ m1, e, k1, f, k2, by simp [List.append_assoc], some_touch he, some_touch hf⟩
/-- what a pair is -/
theorem fol_is (E : Edges n es) (pm : os.Perm es) {e f : Pr} (h : (e, f) ∈ folN n fun p => turnOf p os) : e ∈ es ∧ f ∈ es ∧ Bef os e f ∧ ∃ p a b T1 T2, turnOf p os = T1 ++ a :: b :: T2 ∧ Tch e p a ∧ Tch f p b := by
  obtain ⟨p, hp, T1, a, b, T2, ht, q⟩ := mem_folN.mp h
  have ht' : turnOf p os = T1 ++ a :: b :: T2 := ht
  obtain ⟨A, e', B, f', C, ho, te, tf⟩ := turn_two ht'
  have me : e' ∈ es := pm.mem_iff.mp (by rw [ho]; simp)
  have mf : f' ∈ es := pm.mem_iff.mp (by rw [ho]; simp)
  have q1 : e = eb p a := congrArg Prod.fst q
  have q2 : f = eb p b := congrArg Prod.snd q
  rw [eb_touch te (E.inn e' me).1] at q1
  rw [eb_touch tf (E.inn f' mf).1] at q2
  rw [q1, q2]
  exact ⟨me, mf, ⟨A, B, C, ho⟩, p, a, b, T1, T2, ht', te, tf⟩
theorem Bef.idx (nd : os.Nodup) {e f : Pr} (h : Bef os e f) : os.idxOf e < os.idxOf f := by
  obtain ⟨A, B, C, rfl⟩ := h
  obtain ⟨n1, n2, dis⟩ := List.nodup_append.mp nd
  have eA : e ∉ A := fun z => dis e z e List.mem_cons_self rfl
  have fA : f ∉ A := fun z => dis f z f (List.mem_cons_of_mem _ (List.mem_append_right _ List.mem_cons_self)) rfl
  have ef : e ≠ f := fun z => (List.nodup_cons.mp n2).1 (z ▸ List.mem_append_right _ List.mem_cons_self)
  rw [List.idxOf_append, List.idxOf_append, if_neg eA, if_neg fA, List.idxOf_cons_self, List.idxOf_cons, beq_eq_false_iff_ne.mpr ef]
  show 0 + A.length < List.idxOf f (B ++ f :: C) + 1 + A.length
  omega
/-- one after the other, through the pairs -/
inductive Rch (S : List PP) : Pr → Pr → Prop
  | refl (e : Pr) : Rch S e e
  | step {e g f : Pr} : (e, g) ∈ S → Rch S g f → Rch S e f
theorem Rch.snoc {S : List PP} {e g f : Pr} (h : Rch S e g) (k : (g, f) ∈ S) : Rch S e f := by
  induction h with
  | refl e => exact .step k (.refl _)
  | step a _ ih => exact .step a (ih k)
theorem Rch.last {S : List PP} {e f : Pr} (h : Rch S e f) : e = f ∨ ∃ g, Rch S e g ∧ (g, f) ∈ S := by
  induction h with
  | refl e => exact .inl rfl
  | step a r ih =>
    rcases ih with rfl | ⟨g, h1, h2⟩
    · exact .inr ⟨_, .refl _, a⟩
    · exact .inr ⟨g, .step a h1, h2⟩
theorem Rch.trans {S : List PP} {e g f : Pr} (h : Rch S e g) (k : Rch S g f) : Rch S e f := by
  induction h with
  | refl e => exact k
  | step a _ ih => exact .step a (ih k)
variable (E : Edges n es) (pm : os.Perm es)
include E pm
theorem rch_idx {e f : Pr} (h : Rch (folN n fun p => turnOf p os) e f) : os.idxOf e ≤ os.idxOf f := by
  induction h with
  | refl e => exact Nat.le_refl _
  | step a _ ih =>
    have := (fol_is E pm a).2.2.1.idx (pm.nodup_iff.mpr E.nodup)
    omega
theorem rch_in {e f : Pr} (h : Rch (folN n fun p => turnOf p os) e f) (he : e ∈ es) : f ∈ es := by
  induction h with
  | refl e => exact he
  | step a _ ih => exact ih (fol_is E pm a).2.1
/-- what is reached without an edge stays on its side -/
theorem rch_side {e x f : Pr} (h : Rch (folN n fun p => turnOf p os) e x) (he : e ∈ es) (hi : os.idxOf x < os.idxOf f) {S : Nat → Bool} (hS : ∀ g ∈ es, g ≠ f → S g.1 = S g.2) : S e.1 = S x.1 := by
  induction h with
  | refl e => rfl
  | @step e g x a r ih =>
    obtain ⟨h1, h2, h3, p, u, v, _, _, _, t1, t2⟩ := fol_is E pm a
    have i1 := h3.idx (pm.nodup_iff.mpr E.nodup)
    have i2 := rch_idx E pm r
    have e1 := hS e h1 (fun z => by rw [z] at i1; omega)
    have e2 := hS g h2 (fun z => by rw [z] at i2; omega)
    rw [← ih h2 hi]
    have a1 : S e.1 = S p := by rcases t1 with ⟨z, _⟩ | ⟨z, _⟩ <;> rw [← z] <;> simp_all
    have a2 : S g.1 = S p := by rcases t2 with ⟨z, _⟩ | ⟨z, _⟩ <;> rw [← z] <;> simp_all
    rw [a1, a2]
/-- of what one edge reaches, one alone comes directly before another one -/
theorem one_before {w x y f : Pr} (hw : w ∈ es) (hx : Rch (folN n fun p => turnOf p os) w x) (hy : Rch (folN n fun p => turnOf p os) w y) (kx : (x, f) ∈ folN n fun p => turnOf p os) (ky : (y, f) ∈ folN n fun p => turnOf p os) : x = y := by
  obtain ⟨x1, f1, bx, p, a, b, T1, T2, ht, tx, tf⟩ := fol_is E pm kx
  obtain ⟨y1, _, by', q, c, d, U1, U2, hu, ty, tf'⟩ := fol_is E pm ky
  have nd := pm.nodup_iff.mpr E.nodup
  by_cases pq : p = q
  · subst pq
    have bd : b = d := by
      have := E.inn f f1
      rcases tf with ⟨z1, z2⟩ | ⟨z1, z2⟩ <;> rcases tf' with ⟨z3, z4⟩ | ⟨z3, z4⟩ <;> omega
    subst bd
    have nt := turn_nodup E pm p
    have h1 : (T1 ++ [a]) ++ b :: T2 = (U1 ++ [c]) ++ b :: U2 := by
      rw [List.append_assoc, List.append_assoc]
      exact ht.symm.trans hu
    have h2 : ((T1 ++ [a]) ++ b :: T2).Nodup := by
      rw [List.append_assoc]
      have := nt
      rw [ht] at this
      exact this
    have h3 := split_front h2 h1
    have ac : a = c := by
      have := congrArg List.getLast? h3
      simpa using this
    subst ac
    exact tx.eq ty (E.inn x x1).1 (E.inn y y1).1
  · obtain ⟨S, hS, hS2⟩ := E.br f f1
    exfalso
    have cut : ∀ g ∈ es, g ≠ f → S g.1 = S g.2 := fun g hg ne => hS2 g hg ne
    have sx := rch_side E pm hx hw (bx.idx nd) cut
    have sy := rch_side E pm hy hw (by'.idx nd) cut
    have ex : S x.1 = S p := by
      have := cut x x1 (fun z => by have := bx.idx nd; rw [z] at this; omega)
      rcases tx with ⟨z, _⟩ | ⟨z, _⟩ <;> rw [← z] <;> simp_all
    have ey : S y.1 = S q := by
      have := cut y y1 (fun z => by have := by'.idx nd; rw [z] at this; omega)
      rcases ty with ⟨z, _⟩ | ⟨z, _⟩ <;> rw [← z] <;> simp_all
    have pq' : S p = S q := by rw [← ex, ← ey, ← sx, ← sy]
    have fin : (f.1 = p ∧ f.2 = q) ∨ (f.2 = p ∧ f.1 = q) := by
      rcases tf with ⟨z1, z2⟩ | ⟨z1, z2⟩ <;> rcases tf' with ⟨z3, z4⟩ | ⟨z3, z4⟩ <;> omega
    rcases fin with ⟨z1, z2⟩ | ⟨z1, z2⟩ <;> rw [← z1, ← z2] at pq' <;> simp_all
end
end Os
/-! the search through the pairs, the greedy order -/
namespace Os
open PySem PySem.Spec PyProof.Rows
theorem nodup_sub {α : Type} [DecidableEq α] : ∀ {l m : List α}, l.Nodup → (∀ x ∈ l, x ∈ m) → l.length ≤ m.length
  | [], _, _, _ => Nat.zero_le _
  | x :: l, m, nd, h => by
    obtain ⟨n1, n2⟩ := List.nodup_cons.mp nd
    have hx := h x List.mem_cons_self
    have ih := nodup_sub (m := m.erase x) n2 fun y hy => (List.mem_erase_of_ne fun z => by rw [z] at hy; exact n1 hy).mpr (h y (List.mem_cons_of_mem _ hy))
    have := List.length_erase_of_mem hx
    have pos := List.length_pos_of_mem hx
    rw [List.length_cons]
    omega
theorem nodup_full {α : Type} [DecidableEq α] {l m : List α} (nd : l.Nodup) (h : ∀ x ∈ l, x ∈ m) (len : m.length ≤ l.length) {x : α} (hx : x ∈ m) : x ∈ l := Decidable.byContradiction fun ne => by
  have := nodup_sub (l := x :: l) (m := m) (List.nodup_cons.mpr ⟨ne, nd⟩) fun y hy => by
    rcases List.mem_cons.mp hy with rfl | hy
    · exact hx
    · exact h y hy
  rw [List.length_cons] at this
  omega
theorem eb_inj {p a b : Nat} (ha : p ≠ a) (hb : p ≠ b) (h : eb p a = eb p b) : a = b := by
  have t1 := eb_tch ha
  have t2 := eb_tch hb
  rw [h] at t1
  rcases t1 with ⟨x, y⟩ | ⟨x, y⟩ <;> rcases t2 with ⟨z, w⟩ | ⟨z, w⟩ <;> omega
section
variable {n : Nat} {es os : List Pr} (E : Edges n es) (pm : os.Perm es)
include E pm
theorem turn_ne {p a : Nat} (h : a ∈ turnOf p os) : p ≠ a := (turn_edge E ((turn_perm pm p).mem_iff.mp h)).2.2.1
theorem folT_nodup (p : Nat) : (folT p (turnOf p os)).Nodup := by
  unfold folT
  refine List.pairwise_map.mpr (List.pairwise_iff_getElem.mpr fun i j hi hj ij z => ?_)
  have nd := turn_nodup E pm p
  rw [List.length_zip, List.length_tail] at hi hj
  rw [List.getElem_zip, List.getElem_zip] at z
  have z1 : eb p (turnOf p os)[i] = eb p (turnOf p os)[j] := congrArg Prod.fst z
  have e := eb_inj (turn_ne E pm (List.getElem_mem (by omega))) (turn_ne E pm (List.getElem_mem (by omega))) z1
  exact List.pairwise_iff_getElem.mp nd i j (by omega) (by omega) ij e
theorem folN_nodup : (folN n fun p => turnOf p os).Nodup := by
  unfold folN
  refine List.pairwise_flatMap.mpr ⟨fun p _ => folT_nodup E pm p, (List.nodup_range (n := n)).imp fun {p q} pq x hx y hy z => ?_⟩
  obtain ⟨T1, a, b, T2, h1, h2⟩ := mem_folT.mp hx
  obtain ⟨U1, c, d, U2, k1, k2⟩ := mem_folT.mp hy
  have h1 : turnOf p os = T1 ++ a :: b :: T2 := h1
  have k1 : turnOf q os = U1 ++ c :: d :: U2 := k1
  have nd := turn_nodup E pm p
  have ha := turn_ne E pm (show a ∈ turnOf p os by rw [h1]; simp)
  have hb := turn_ne E pm (show b ∈ turnOf p os by rw [h1]; simp)
  have hc := turn_ne E pm (show c ∈ turnOf q os by rw [k1]; simp)
  have hd := turn_ne E pm (show d ∈ turnOf q os by rw [k1]; simp)
  rw [z, k2] at h2
  have e1 : eb q c = eb p a := congrArg Prod.fst h2
  have e2 : eb q d = eb p b := congrArg Prod.snd h2
  have t1 := eb_tch ha
  have t2 := eb_tch hc
  rw [e1] at t2
  have t3 := eb_tch hb
  have t4 := eb_tch hd
  rw [e2] at t4
  have aq : a = q := by rcases t1 with ⟨x, y⟩ | ⟨x, y⟩ <;> rcases t2 with ⟨z, w⟩ | ⟨z, w⟩ <;> omega
  have bq : b = q := by rcases t3 with ⟨x, y⟩ | ⟨x, y⟩ <;> rcases t4 with ⟨z, w⟩ | ⟨z, w⟩ <;> omega
  rw [h1, aq, bq] at nd
  have := (List.nodup_append.mp nd).2.1
  exact (List.nodup_cons.mp this).1 List.mem_cons_self
end
/-! ### the search -/
def succs (S : List PP) (x : Pr) : List Pr := (S.filter fun q => decide (q.1 = x)).map (·.2)
theorem mem_succs {S : List PP} {x f : Pr} : f ∈ succs S x ↔ (x, f) ∈ S := by
  unfold succs
  rw [List.mem_map]
  constructor
  · rintro ⟨⟨a, b⟩, h, rfl⟩
    obtain ⟨h1, h2⟩ := List.mem_filter.mp h
    have := of_decide_eq_true h2
    have e : a = x := this
    rw [← e]
    exact h1
  · intro h
    exact ⟨(x, f), List.mem_filter.mpr ⟨h, decide_eq_true rfl⟩, rfl⟩
theorem succs_nodup {S : List PP} (nd : S.Nodup) (x : Pr) : (succs S x).Nodup := by
  unfold succs
  refine List.pairwise_map.mpr ((nd.sublist List.filter_sublist).imp_of_mem fun {a b} ha hb ab z => ab ?_)
  have h1 : a.1 = x := of_decide_eq_true (List.mem_filter.mp ha).2
  have h2 : b.1 = x := of_decide_eq_true (List.mem_filter.mp hb).2
  exact Prod.ext (h1.trans h2.symm) z
structure Srch (S : List PP) (w : Pr) (later waiting : List Pr) : Prop where
  nl : later.Nodup
  nw : waiting.Nodup
  no : w ∉ later
  sub : ∀ x ∈ waiting, x = w ∨ x ∈ later
  rc : ∀ x ∈ later, Rch S w x
  don : ∀ f ∈ later, ∃ z, (z = w ∨ z ∈ later) ∧ (z, f) ∈ S ∧ z ∉ waiting
  all : ∀ z, (z = w ∨ z ∈ later) → z ∉ waiting → ∀ f, (z, f) ∈ S → f ∈ later
/-- what the pairs of an order are like -/
structure PairsOk (S : List PP) (es os : List Pr) : Prop where
  nd : S.Nodup
  inn : ∀ q ∈ S, q.1 ∈ es ∧ q.2 ∈ es ∧ os.idxOf q.1 < os.idxOf q.2
  one : ∀ {w x y f : Pr}, w ∈ es → Rch S w x → Rch S w y → (x, f) ∈ S → (y, f) ∈ S → x = y
theorem Rch.mono {S T : List PP} (h : ∀ q ∈ S, q ∈ T) {e f : Pr} (r : Rch S e f) : Rch T e f := by
  induction r with
  | refl e => exact .refl e
  | step a _ ih => exact .step (h _ a) ih
theorem pairs_ok {n : Nat} {es os : List Pr} (E : Edges n es) (pm : os.Perm es) : PairsOk (ordPP (folN n fun p => turnOf p os)) es os := by
  have sub : ∀ q ∈ ordPP (folN n fun p => turnOf p os), q ∈ folN n fun p => turnOf p os := fun q h => ord_mem.mp h
  refine ⟨(ord_perm _).nodup_iff.mpr (folN_nodup E pm), fun q hq => ?_, fun hw hx hy kx ky => one_before E pm hw (hx.mono sub) (hy.mono sub) (sub _ kx) (sub _ ky)⟩
  obtain ⟨h1, h2, h3, _⟩ := fol_is E pm (e := q.1) (f := q.2) (sub q hq)
  exact ⟨h1, h2, h3.idx (pm.nodup_iff.mpr E.nodup)⟩
section
variable {S : List PP} {es os : List Pr} (ok : PairsOk S es os) {w : Pr}
include ok
theorem PairsOk.idx {e f : Pr} (h : Rch S e f) : os.idxOf e ≤ os.idxOf f := by
  induction h with
  | refl e => exact Nat.le_refl _
  | step a _ ih =>
    have := (ok.inn _ a).2.2
    exact Nat.le_trans (Nat.le_of_lt this) ih
theorem PairsOk.mem {e f : Pr} (h : Rch S e f) (he : e ∈ es) : f ∈ es := by
  induction h with
  | refl e => exact he
  | step a _ ih => exact ih (ok.inn _ a).2.1
theorem Srch.start (hw : w ∈ es) : Srch S w [] [w] := ⟨List.nodup_nil, List.pairwise_singleton _ _, fun h => (by cases h), fun x hx => .inl (List.mem_singleton.mp hx), fun x h => (by cases h), fun x h => (by cases h), fun z hz hn => by
  rcases hz with rfl | hz
  · exact absurd List.mem_cons_self hn
  · cases hz⟩
theorem Srch.step (hw : w ∈ es) {later ws : List Pr} {x : Pr} (h : Srch S w later (ws ++ [x])) : Srch S w (later ++ succs S x) (ws ++ succs S x) := by
  obtain ⟨nl, nw, no, sub, rc, don, all⟩ := h
  obtain ⟨nws, _, dws⟩ := List.nodup_append.mp nw
  have xw : x ∉ ws := fun z => dws x z x (List.mem_singleton.mpr rfl) rfl
  have xin : x ∈ ws ++ [x] := List.mem_append_right _ (List.mem_singleton.mpr rfl)
  have rall : ∀ z, (z = w ∨ z ∈ later) → Rch S w z := fun z hz => by
    rcases hz with rfl | hz
    · exact .refl _
    · exact rc z hz
  have rx := rall x (sub x xin)
  have fnew : ∀ f ∈ succs S x, f ∉ later := fun f hf hl => by
    obtain ⟨z, hz, hzf, hzn⟩ := don f hl
    have := ok.one hw (rall z hz) rx hzf (mem_succs.mp hf)
    exact hzn (this ▸ xin)
  have fw : ∀ f ∈ succs S x, f ≠ w := fun f hf z => by
    have h1 := (ok.inn _ (mem_succs.mp hf)).2.2
    have h2 := ok.idx rx
    rw [z] at h1
    have h1' : os.idxOf x < os.idxOf w := h1
    omega
  have fold : ∀ z, (z = w ∨ z ∈ later) → z ∉ succs S x := fun z hz hf => by
    rcases hz with rfl | hz
    · exact fw _ hf rfl
    · exact fnew z hf hz
  have sn := succs_nodup ok.nd x
  refine ⟨List.nodup_append.mpr ⟨nl, sn, fun a ha b hb z => fnew b hb (z ▸ ha)⟩, List.nodup_append.mpr ⟨nws, sn, fun a ha b hb z => ?_⟩, fun z => ?_, fun z hz => ?_, fun z hz => ?_, fun f hf => ?_, fun z hz hn f hf => ?_⟩
  · exact fold a (sub a (List.mem_append_left _ ha)) (z ▸ hb)
  · rcases List.mem_append.mp z with z | z
    · exact no z
    · exact fw w z rfl
  · rcases List.mem_append.mp hz with hz | hz
    · rcases sub z (List.mem_append_left _ hz) with h | h
      · exact .inl h
      · exact .inr (List.mem_append_left _ h)
    · exact .inr (List.mem_append_right _ hz)
  · rcases List.mem_append.mp hz with hz | hz
    · exact rc z hz
    · exact rx.snoc (mem_succs.mp hz)
  · rcases List.mem_append.mp hf with hf | hf
    · obtain ⟨z, hz, hzf, hzn⟩ := don f hf
      refine ⟨z, hz.elim .inl fun h => .inr (List.mem_append_left _ h), hzf, fun m => ?_⟩
      rcases List.mem_append.mp m with m | m
      · exact hzn (List.mem_append_left _ m)
      · exact fold z hz m
    · refine ⟨x, (sub x xin).elim .inl fun h => .inr (List.mem_append_left _ h), mem_succs.mp hf, fun m => ?_⟩
      rcases List.mem_append.mp m with m | m
      · exact xw m
      · exact fold x (sub x xin) m
  · have zf : z ∉ succs S x := fun m => hn (List.mem_append_right _ m)
    have zw : z ∉ ws := fun m => hn (List.mem_append_left _ m)
    have hz' : z = w ∨ z ∈ later := by
      rcases hz with h | h
      · exact .inl h
      · exact .inr ((List.mem_append.mp h).resolve_right zf)
    by_cases zx : z = x
    · rw [zx] at hf
      exact List.mem_append_right _ (mem_succs.mpr hf)
    · refine List.mem_append_left _ (all z hz' (fun m => ?_) f hf)
      rcases List.mem_append.mp m with m | m
      · exact zw m
      · exact zx (List.mem_singleton.mp m)
theorem Srch.len (hw : w ∈ es) {later ws : List Pr} (nes : es.Nodup) (h : Srch S w later ws) : later.length ≤ es.length ∧ ws.length ≤ es.length + 1 := by
  have l1 : later.length ≤ es.length := nodup_sub h.nl fun x hx => ok.mem (h.rc x hx) hw
  have l2 : ws.length ≤ (w :: later).length := nodup_sub h.nw fun x hx => by
    rcases h.sub x hx with rfl | h
    · exact List.mem_cons_self
    · exact List.mem_cons_of_mem _ h
  rw [List.length_cons] at l2
  exact ⟨l1, by omega⟩
theorem Srch.fin {later : List Pr} (h : Srch S w later []) {f : Pr} : f ∈ later ↔ Rch S w f ∧ f ≠ w := by
  constructor
  · intro hf
    exact ⟨h.rc f hf, fun z => h.no (z ▸ hf)⟩
  · rintro ⟨r, ne⟩
    have key : ∀ {x f : Pr}, Rch S x f → (x = w ∨ x ∈ later) → f = w ∨ f ∈ later := fun {x f} r => by
      induction r with
      | refl e => exact fun h => h
      | step a _ ih => exact fun hx => ih (.inr (h.all _ hx (fun z => by cases z) _ a))
    exact (key r (.inl rfl)).resolve_left ne
end
/-! ### the greedy order of the law -/
def aheadG (S : List PP) (found : List Pr) : List Pr := (S.filter fun q => decide (q.1 ∉ found)).map (·.2)
theorem mem_ahead {S : List PP} {found : List Pr} {f : Pr} : f ∈ aheadG S found ↔ ∃ x, (x, f) ∈ S ∧ x ∉ found := by
  unfold aheadG
  rw [List.mem_map]
  constructor
  · rintro ⟨⟨a, b⟩, h, rfl⟩
    obtain ⟨h1, h2⟩ := List.mem_filter.mp h
    exact ⟨a, h1, of_decide_eq_true h2⟩
  · rintro ⟨x, h1, h2⟩
    exact ⟨(x, f), List.mem_filter.mpr ⟨h1, decide_eq_true h2⟩, rfl⟩
def readyG (S : List PP) (wt : Option Pr) (found : List Pr) (e : Pr) : Bool := decide (e ∉ found) && (decide (e ∉ aheadG S found) && decide (some e ≠ wt))
theorem readyG_iff {S : List PP} {wt : Option Pr} {found : List Pr} {e : Pr} : readyG S wt found e = true ↔ e ∉ found ∧ (∀ x, (x, e) ∈ S → x ∈ found) ∧ some e ≠ wt := by
  unfold readyG
  rw [Bool.and_eq_true, Bool.and_eq_true, decide_eq_true_iff, decide_eq_true_iff, decide_eq_true_iff]
  refine and_congr_right fun _ => and_congr_left fun _ => ?_
  rw [mem_ahead]
  constructor
  · intro h x hx
    exact Decidable.byContradiction fun z => h ⟨x, hx, z⟩
  · rintro h ⟨x, hx, z⟩
    exact z (h x hx)
def stepG (es : List Pr) (S : List PP) (wt : Option Pr) (found : List Pr) : List Pr := match es.filter (readyG S wt found) with
  | [] => found
  | e :: _ => found ++ [e]
def grdG (es : List Pr) (S : List PP) (wt : Option Pr) : Nat → List Pr
  | 0 => []
  | k + 1 => stepG es S wt (grdG es S wt k)
theorem grd_len (es : List Pr) (S : List PP) (wt : Option Pr) : ∀ k, (grdG es S wt k).length ≤ k
  | 0 => Nat.le_refl _
  | k + 1 => by
    have := grd_len es S wt k
    show (stepG es S wt _).length ≤ k + 1
    unfold stepG
    split
    · omega
    · rw [List.length_append]
      show _ + 1 ≤ _
      omega
theorem grd_stops {S : List PP} {es os : List Pr} (ok : PairsOk S es os) (nes : es.Nodup) {w : Pr} : ∀ k, (∀ e ∈ grdG es S (some w) k, e ∈ es ∧ ¬ Rch S w e) ∧ (grdG es S (some w) k).Nodup ∧ ((grdG es S (some w) k).length = k ∨ ∀ e ∈ es, ¬ Rch S w e → e ∈ grdG es S (some w) k)
  | 0 => ⟨fun e h => (by cases h), List.nodup_nil, .inl rfl⟩
  | k + 1 => by
    obtain ⟨h1, h2, h3⟩ := grd_stops ok nes (w := w) k
    show (∀ e ∈ stepG es S (some w) (grdG es S (some w) k), _) ∧ (stepG es S (some w) (grdG es S (some w) k)).Nodup ∧ ((stepG es S (some w) (grdG es S (some w) k)).length = k + 1 ∨ ∀ e ∈ es, ¬ Rch S w e → e ∈ stepG es S (some w) (grdG es S (some w) k))
    generalize grdG es S (some w) k = found at h1 h2 h3
    cases hr : es.filter (readyG S (some w) found) with
    | nil =>
      have se : stepG es S (some w) found = found := by unfold stepG; rw [hr]
      rw [se]
      refine ⟨h1, h2, .inr ?_⟩
      have key : ∀ m, ∀ e ∈ es, os.idxOf e ≤ m → ¬ Rch S w e → e ∈ found := by
        intro m
        induction m with
        | zero =>
          intro e he hi hn
          refine Decidable.byContradiction fun ne => ?_
          have : e ∈ es.filter (readyG S (some w) found) := List.mem_filter.mpr ⟨he, readyG_iff.mpr ⟨ne, fun x hx => ?_, fun z => hn (by cases z; exact .refl _)⟩⟩
          · rw [hr] at this
            cases this
          · have := (ok.inn _ hx).2.2
            have this' : os.idxOf x < os.idxOf e := this
            omega
        | succ m ih =>
          intro e he hi hn
          refine Decidable.byContradiction fun ne => ?_
          have : e ∈ es.filter (readyG S (some w) found) := List.mem_filter.mpr ⟨he, readyG_iff.mpr ⟨ne, fun x hx => ?_, fun z => hn (by cases z; exact .refl _)⟩⟩
          · rw [hr] at this
            cases this
          · have := (ok.inn _ hx).2.2
            have this' : os.idxOf x < os.idxOf e := this
            exact ih x (ok.inn _ hx).1 (by omega) fun r => hn (r.snoc hx)
      exact fun e he hn => key _ e he (Nat.le_refl _) hn
    | cons e rest =>
      have se : stepG es S (some w) found = found ++ [e] := by unfold stepG; rw [hr]
      rw [se]
      have he : e ∈ es.filter (readyG S (some w) found) := by rw [hr]; exact List.mem_cons_self
      obtain ⟨e1, e2⟩ := List.mem_filter.mp he
      obtain ⟨r1, r2, r3⟩ := readyG_iff.mp e2
      have nr : ¬ Rch S w e := fun r => by
        rcases r.last with z | ⟨g, g1, g2⟩
        · exact r3 (by rw [z])
        · exact (h1 g (r2 g g2)).2 g1
      refine ⟨fun f hf => ?_, List.nodup_append.mpr ⟨h2, List.pairwise_singleton _ _, fun a ha b hb z => ?_⟩, ?_⟩
      · rcases List.mem_append.mp hf with hf | hf
        · exact h1 f hf
        · rw [List.mem_singleton.mp hf]
          exact ⟨e1, nr⟩
      · rw [z, List.mem_singleton.mp hb] at ha
        exact r1 ha
      · rcases h3 with h3 | h3
        · left
          rw [List.length_append, h3]
          rfl
        · exact .inr fun f hf hn => List.mem_append_left _ (h3 f hf hn)
theorem grd_none {S : List PP} {es os : List Pr} (ok : PairsOk S es os) (nes : es.Nodup) {w : Pr} {e : Pr} (he : e ∈ es) : e ∈ grdG es S (some w) es.length ↔ ¬ Rch S w e := by
  obtain ⟨h1, h2, h3⟩ := grd_stops ok nes (w := w) es.length
  refine ⟨fun h => (h1 e h).2, fun hn => ?_⟩
  rcases h3 with h3 | h3
  · exact nodup_full h2 (fun x hx => (h1 x hx).1) (Nat.le_of_eq h3.symm) he
  · exact h3 e he hn
section
variable {n : Nat} {es os : List Pr} (E : Edges n es) (pm : os.Perm es)
include E pm
/-- what is ready is first at both ends -/
theorem ready_heads {done ws : List Pr} {r : Nat → List Nat} (g : Greedy es (fun p => turnOf p os) done ws r) {e : Pr} (he : e ∈ es) :
    readyG (ordPP (folN n fun p => turnOf p os)) none done e = true ↔ e ∈ ws ∧ (r e.1).head? = some e.2 ∧ (r e.2).head? = some e.1 := by
  have nd : (done ++ ws).Nodup := g.pm.nodup_iff.mpr E.nodup
  have dis := (List.nodup_append.mp nd).2.2
  have el := E.inn e he
  obtain ⟨oz, oz1, oz2⟩ := g.ex
  have inR : ∀ {p u : Nat}, u ∈ r p → eb p u ∈ ws := fun {p u} hu => by
    have hu' : u ∈ turnOf p oz := by rw [oz2]; exact hu
    obtain ⟨f, hf, t⟩ := mem_turn hu'
    have t' : Tch f p u := by
      rcases t with ⟨h1, h2⟩ | ⟨h1, h2⟩
      · exact .inl ⟨h1, h2⟩
      · exact .inr ⟨h2, h1⟩
    have fw := oz1.mem_iff.mp hf
    rw [eb_touch t' (E.inn f (g.inn fw)).1]
    exact fw
  have inD : ∀ {p u : Nat}, u ∈ turnOf p done → eb p u ∈ done := fun {p u} hu => by
    obtain ⟨f, hf, t⟩ := mem_turn hu
    have t' : Tch f p u := by
      rcases t with ⟨h1, h2⟩ | ⟨h1, h2⟩
      · exact .inl ⟨h1, h2⟩
      · exact .inr ⟨h2, h1⟩
    rw [eb_touch t' (E.inn f (g.pm.mem_iff.mp (List.mem_append_left _ hf))).1]
    exact hf
  rw [readyG_iff]
  constructor
  · rintro ⟨h1, h2, _⟩
    have ew : e ∈ ws := (List.mem_append.mp (g.pm.mem_iff.mpr he)).resolve_left h1
    have one : ∀ {p q : Nat}, Tch e p q → p < n → (r p).head? = some q := fun {p q} t hp => by
      have qr : q ∈ r p := by
        rw [← oz2]
        refine turn_mem (oz1.mem_iff.mpr ew) (by omega) ?_
        rcases t with ⟨a, b⟩ | ⟨a, b⟩
        · exact .inl ⟨a, b⟩
        · exact .inr ⟨b, a⟩
      cases hrp : r p with
      | nil => rw [hrp] at qr; cases qr
      | cons c rest =>
        by_cases cq : c = q
        · rw [cq]
          rfl
        · exfalso
          rw [hrp] at qr
          have qrest : q ∈ rest := (List.mem_cons.mp qr).resolve_left fun z => cq z.symm
          obtain ⟨U, V, rfl⟩ := List.append_of_mem qrest
          rcases snoc_cases (c :: U) with hz | ⟨T, u, hz⟩
          · cases hz
          · have ur : u ∈ r p := by
              rw [hrp, show c :: (U ++ q :: V) = (c :: U) ++ q :: V from rfl, hz]
              simp
            have tp := g.tn p
            rw [hrp, show c :: (U ++ q :: V) = (c :: U) ++ q :: V from rfl, hz] at tp
            have m : (eb p u, eb p q) ∈ folN n fun p => turnOf p os := mem_folN.mpr ⟨p, hp, turnOf p done ++ T, u, q, V, by rw [← tp]; simp, rfl⟩
            rw [eb_touch t el.1] at m
            exact dis _ (h2 _ (ord_mem.mpr m)) _ (inR ur) rfl
    exact ⟨ew, one (.inl ⟨rfl, rfl⟩) (by omega), one (.inr ⟨rfl, rfl⟩) el.2⟩
  · rintro ⟨ew, k1, k2⟩
    refine ⟨fun z => dis e z e ew rfl, fun x hx => ?_, fun z => by cases z⟩
    obtain ⟨p, hp, T1, a, b, T2, ht, q⟩ := mem_folN.mp (ord_mem.mp hx)
    have ht' : turnOf p os = T1 ++ a :: b :: T2 := ht
    have q1 : x = eb p a := congrArg Prod.fst q
    have q2 : e = eb p b := congrArg Prod.snd q
    have pb := turn_ne E pm (show b ∈ turnOf p os by rw [ht']; simp)
    have t := eb_tch pb
    rw [← q2] at t
    have hd : (r p).head? = some b := by
      rcases t with ⟨z1, z2⟩ | ⟨z1, z2⟩
      · rw [← z1, ← z2]
        exact k1
      · rw [← z1, ← z2]
        exact k2
    have tp := g.tn p
    have tp' : turnOf p done ++ r p = turnOf p os := tp
    cases hrp : r p with
    | nil => rw [hrp] at hd; cases hd
    | cons c rest =>
      rw [hrp] at hd tp'
      have cb : c = b := Option.some.inj hd
      subst cb
      have n1 := turn_nodup E pm p
      have e1 : turnOf p done ++ c :: rest = (T1 ++ [a]) ++ c :: T2 := by
        rw [tp', ht', List.append_assoc]
        rfl
      rw [← tp'] at n1
      have e2 := split_front n1 e1
      rw [q1]
      exact inD (by rw [e2]; simp)
theorem grd_least_at : ∀ k, k ≤ es.length → ∃ ws r, Greedy es (fun p => turnOf p os) (grdG es (ordPP (folN n fun p => turnOf p os)) none k) ws r ∧ Led es (fun p => turnOf p os) (grdG es (ordPP (folN n fun p => turnOf p os)) none k) ∧ (grdG es (ordPP (folN n fun p => turnOf p os)) none k).length = k
  | 0, _ => ⟨es, _, Greedy.start E (fun p => turn_perm pm p), Led.start, rfl⟩
  | k + 1, hk => by
    obtain ⟨ws, r, g, l, len⟩ := grd_least_at k (by omega)
    show ∃ ws r, Greedy es _ (stepG es _ none _) ws r ∧ Led es _ (stepG es _ none _) ∧ (stepG es _ none _).length = k + 1
    generalize grdG es (ordPP (folN n fun p => turnOf p os)) none k = done at g l len
    have wne : ws ≠ [] := fun z => by
      have := g.pm.length_eq
      rw [z, List.append_nil, len] at this
      omega
    obtain ⟨e0, he0, a1, a2⟩ := g.some E wne
    cases hr : es.filter (readyG (ordPP (folN n fun p => turnOf p os)) none done) with
    | nil =>
      have : e0 ∈ es.filter (readyG (ordPP (folN n fun p => turnOf p os)) none done) := List.mem_filter.mpr ⟨g.inn he0, (ready_heads E pm g (g.inn he0)).mpr ⟨he0, a1, a2⟩⟩
      rw [hr] at this
      cases this
    | cons e rest =>
      have se : stepG es (ordPP (folN n fun p => turnOf p os)) none done = done ++ [e] := by unfold stepG; rw [hr]
      rw [se]
      have he : e ∈ es.filter (readyG (ordPP (folN n fun p => turnOf p os)) none done) := by rw [hr]; exact List.mem_cons_self
      obtain ⟨e1, e2⟩ := List.mem_filter.mp he
      obtain ⟨ew, b1, b2⟩ := (ready_heads E pm g e1).mp e2
      obtain ⟨A, hA⟩ : ∃ A, r e.1 = e.2 :: A := by
        cases h : r e.1 with
        | nil => rw [h] at b1; cases b1
        | cons c A => rw [h] at b1; exact ⟨A, by rw [Option.some.inj b1]⟩
      obtain ⟨B, hB⟩ : ∃ B, r e.2 = e.1 :: B := by
        cases h : r e.2 with
        | nil => rw [h] at b2; cases b2
        | cons c A => rw [h] at b2; exact ⟨A, by rw [Option.some.inj b2]⟩
      refine ⟨ws.erase e, _, g.step E hA hB (List.perm_cons_erase ew).symm, l.step E g ew fun f hf f1 f2 => ?_, by rw [List.length_append, len]; rfl⟩
      have hff : f ∈ es.filter (readyG (ordPP (folN n fun p => turnOf p os)) none done) := List.mem_filter.mpr ⟨g.inn hf, (ready_heads E pm g (g.inn hf)).mpr ⟨hf, f1, f2⟩⟩
      have asc := E.asc.sublist (List.filter_sublist (p := readyG (ordPP (folN n fun p => turnOf p os)) none done))
      rw [hr] at hff asc
      rcases List.mem_cons.mp hff with rfl | hff
      · exact ltP_irr f
      · exact ltP_asym ((List.pairwise_cons.mp asc).1 f hff)
theorem grd_least : LeastO es (fun p => turnOf p os) (grdG es (ordPP (folN n fun p => turnOf p os)) none es.length) := by
  obtain ⟨ws, r, g, l, len⟩ := grd_least_at E pm es.length (Nat.le_refl _)
  have wz : ws = [] := by
    have := g.pm.length_eq
    rw [List.length_append, len] at this
    exact List.length_eq_zero_iff.mp (by omega)
  subst wz
  exact l.fin g.fin.1 g.fin.2
end
end Os
/-! places of an edge in the orders of its side: choices, the lists of the program, their sizes -/
namespace Os
open PySem PySem.Spec PyProof.Rows L2 Evl
/-- choices of k among n -/
def chs : Nat → Nat → Nat
  | _, 0 => 1
  | 0, _ + 1 => 0
  | n + 1, k + 1 => chs n k + chs n (k + 1)
theorem chs_zero (n : Nat) : chs n 0 = 1 := by cases n <;> rfl
theorem chs_gt : ∀ {n k : Nat}, n < k → chs n k = 0
  | 0, k + 1, _ => rfl
  | n + 1, k + 1, h => by
    show chs n k + chs n (k + 1) = 0
    rw [chs_gt (show n < k by omega), chs_gt (show n < k + 1 by omega)]
theorem chs_self : ∀ n : Nat, chs n n = 1
  | 0 => rfl
  | n + 1 => by
    show chs n n + chs n (n + 1) = 1
    rw [chs_self n, chs_gt (Nat.lt_succ_self n)]
theorem chs_fac : ∀ (s a b : Nat), a + b = s → chs (a + b) a * (fac a * fac b) = fac (a + b)
  | s, 0, b, _ => by rw [chs_zero, Nat.one_mul]; show 1 * fac b = fac (0 + b); rw [Nat.one_mul, Nat.zero_add]
  | s, a + 1, 0, _ => by rw [Nat.add_zero, chs_self]; show 1 * (fac (a + 1) * 1) = _; rw [Nat.one_mul, Nat.mul_one]
  | 0, a + 1, b + 1, h => by omega
  | s + 1, a + 1, b + 1, h => by
    have h1 := chs_fac s a (b + 1) (by omega)
    have h2 := chs_fac s (a + 1) b (by omega)
    have e0 : a + 1 + (b + 1) = (a + b + 1) + 1 := by omega
    have e1 : a + (b + 1) = a + b + 1 := by omega
    have e2 : a + 1 + b = a + b + 1 := by omega
    rw [e1] at h1
    rw [e2] at h2
    rw [e0]
    show (chs (a + b + 1) a + chs (a + b + 1) (a + 1)) * (fac (a + 1) * fac (b + 1)) = (a + b + 1 + 1) * fac (a + b + 1)
    have f1 : fac (a + 1) = (a + 1) * fac a := rfl
    have f2 : fac (b + 1) = (b + 1) * fac b := rfl
    generalize chs (a + b + 1) a = x at *
    generalize chs (a + b + 1) (a + 1) = y at *
    generalize fac (a + b + 1) = z at *
    have t1 : x * (fac (a + 1) * fac (b + 1)) = (a + 1) * z := by rw [f1, ← h1, Nat.mul_assoc, Nat.mul_left_comm]
    have t2 : y * (fac (a + 1) * fac (b + 1)) = (b + 1) * z := by rw [f2, ← h2, Nat.mul_left_comm (fac (a + 1)), Nat.mul_left_comm y]
    rw [Nat.add_mul, t1, t2, ← Nat.add_mul]
    congr 1
theorem chs_sym (a b : Nat) : chs (a + b) a = chs (a + b) b := by
  have h1 := chs_fac _ a b rfl
  have h2 := chs_fac _ b a rfl
  rw [Nat.add_comm b a, Nat.mul_comm (fac b)] at h2
  have p : 0 < fac a * fac b := Nat.mul_pos (fac_pos a) (fac_pos b)
  exact Nat.eq_of_mul_eq_mul_right p (h1.trans h2.symm)
theorem chs_two : ∀ n k : Nat, chs n k ≤ 2 ^ n
  | n, 0 => by rw [chs_zero]; exact Nat.one_le_two_pow
  | 0, k + 1 => Nat.zero_le _
  | n + 1, k + 1 => by
    have h1 := chs_two n k
    have h2 := chs_two n (k + 1)
    show chs n k + chs n (k + 1) ≤ 2 ^ (n + 1)
    rw [Nat.pow_succ]
    omega
theorem fall_fac (n : Nat) : ∀ k, k ≤ n → Builtin.Math.fallingProduct (n : Int) k * (fac (n - k) : Nat) = ((fac n : Nat) : Int)
  | 0, _ => by
    show (1 : Int) * _ = _
    rw [Int.one_mul, Nat.sub_zero]
  | k + 1, h => by
    have ih := fall_fac n k (by omega)
    have s : Builtin.Math.fallingProduct (n : Int) (k + 1) = Builtin.Math.fallingProduct (n : Int) k * ((n : Int) - (k : Int)) := by
      unfold Builtin.Math.fallingProduct
      rw [List.range_succ, List.foldl_append]
      rfl
    have e : n - k = (n - (k + 1)) + 1 := by omega
    have f : fac (n - k) = (n - k) * fac (n - (k + 1)) := by
      rw [e]
      rfl
    rw [s, ← ih, f, Int.mul_assoc, Int.natCast_mul]
    congr 2
    omega
theorem fall_chs (a b : Nat) : Builtin.Math.fallingProduct ((a + b : Nat) : Int) a = ((chs (a + b) a * fac a : Nat) : Int) := by
  have h := fall_fac (a + b) a (by omega)
  rw [Nat.add_sub_cancel_left, ← chs_fac _ a b rfl, ← Nat.mul_assoc, Int.natCast_mul] at h
  exact Int.eq_of_mul_eq_mul_right (by have := fac_pos b; omega) h
theorem comb_chs (n k : Nat) : PySem.W.mcComb (n : Int) (k : Int) = ((chs n k : Nat) : Int) := by
  unfold PySem.W.mcComb
  by_cases h : n < k
  · rw [if_pos (by omega), chs_gt h]
    rfl
  · rw [if_neg (by omega)]
    have key : ∀ a b : Nat, Builtin.Math.fallingProduct ((a + b : Nat) : Int) a / Builtin.Math.fallingProduct (a : Int) a = ((chs (a + b) a : Nat) : Int) := fun a b => by
      have e := fall_chs a 0
      rw [Nat.add_zero, chs_self, Nat.one_mul] at e
      rw [fall_chs, e, Int.natCast_mul]
      exact Int.mul_ediv_cancel _ (by have := fac_pos a; omega)
    by_cases h2 : k ≤ n - k
    · have e : min (k : Int) ((n : Int) - (k : Int)) = (k : Int) := by omega
      rw [e, Int.toNat_natCast]
      have := key k (n - k)
      rw [show k + (n - k) = n by omega] at this
      exact this
    · have e : min (k : Int) ((n : Int) - (k : Int)) = ((n - k : Nat) : Int) := by omega
      rw [e, Int.toNat_natCast]
      have := key (n - k) k
      rw [show n - k + k = n by omega] at this
      rw [this]
      have s := chs_sym (n - k) k
      rw [show n - k + k = n by omega] at s
      rw [s]
/-- math.comb of small numbers -/
def rComb : List V → Hp → VK → Prop := fun vs H Q => ∃ n k : Nat, vs = [.int (n : Int), .int (k : Int)] ∧ n ≤ 9000 ∧ k ≤ 9000 ∧ Q (.int ((chs n k : Nat) : Int)) H
section
variable {X : Cx}
theorem cr_comb : CallR X (.builtin "math.comb") rComb := by
  intro pins s σ H vs us Q I r h
  obtain ⟨n, k, rfl, hn, hk, q⟩ := h
  obtain ⟨u, v, rfl, ru, rv⟩ := Vals.two r
  obtain ⟨t, rfl⟩ := ru
  obtain ⟨t', rfl⟩ := rv
  exact PySem.W.mc_comb_v (c := ((chs n k : Nat) : Int)) (by omega) (by omega) (by omega) (.inl (by omega)) (comb_chs n k) ⟨.int _, H, I.tok _, ⟨_, rfl⟩, q⟩
def rGetN : V → V → Hp → VK → Prop := fun o i H Q => ∃ (p : Addr) (xs : List V) (k : Nat) (v : V), o = .ref p ∧ i = .int (k : Int) ∧ H p = some (.lst xs) ∧ xs[k]? = some v ∧ Q v H
theorem pget_list : PGet X rGetN := by
  intro pins s σ H o i ov iv Q I r1 r2 h
  obtain ⟨p, xs, k, v, e1, e2, hp, ha, q⟩ := h
  subst e1; subst e2
  cases r1
  obtain ⟨t, rfl⟩ := r2
  obtain ⟨z, its, n, r, hl, e0⟩ := I.lstM hp
  obtain ⟨u, hu, ru⟩ := r.get ha
  have hk := (List.getElem?_eq_some_iff.mp ha).1
  have : xs.length < 2 ^ 63 := Nat.lt_of_le_of_lt z (by decide)
  exact wpAny_getItem_list ⟨_, e0, rfl, _, rfl⟩ (by omega) (by omega) (by rw [Int.toNat_natCast, List.getElem?_toArray]; exact hu) ⟨v, H, I, ru, q⟩
end
abbrev natV (l : List Nat) : List V := l.map fun x : Nat => V.int (x : Int)
/-- xs[i] += e on a list of numbers -/
theorem s_augAt {σ : L2.St} {H : Hp} {D : Ends} {to ti te : TE} {p : Addr} {k y : Nat} {ns : List Nat}
    (h1 : Ev to σ H (.ref p)) (h2 : Ev ti σ H (.int (k : Int))) (hp : H p = some (.lst (natV ns))) (hk : k < ns.length)
    (h3 : Ev te σ H (.int (y : Int))) (q : ∀ H1, Ex H H1 → D.nx σ (upd H1 p (.lst (natV (ns.set k (ns.getD k 0 + y)))))) : tAugS to ti te rGetN (ipI fun i j => i + j) rSetL D σ H :=
  h1 H (Ex.refl H) _ fun H1 e1 => h2 H1 e1 _ fun H2 e2 => by
    have e12 := e1.trans e2
    have hg : (natV ns)[k]? = some (.int ((ns.getD k 0 : Nat) : Int)) := by
      show (ns.map _)[k]? = _
      rw [List.getElem?_map, List.getD_eq_getElem?_getD, List.getElem?_eq_getElem hk]
      rfl
    refine ⟨p, natV ns, k, _, rfl, rfl, e12 _ _ hp, hg, h3 H2 e12 _ fun H3 e3 => ⟨_, _, rfl, rfl, p, natV ns, (k : Int), k, rfl, rfl, (e12.trans e3) _ _ hp, ?_, ?_⟩⟩
    · unfold ixN
      rw [if_pos (by omega), if_pos (by rw [List.length_map]; omega), Int.toNat_natCast]
    · have := q H3 (e12.trans e3)
      rw [show (natV ns).set k (V.int (((ns.getD k 0 : Nat) : Int) + ((y : Nat) : Int))) = natV (ns.set k (ns.getD k 0 + y)) by
        show (ns.map _).set k _ = (ns.set k _).map _
        rw [List.map_set]
        rfl]
      exact this
/-! the lists of the program -/
/-- one term of the merged places -/
def trm (ps os : List Nat) (a e : Nat) : Nat := ps.getD a 0 * (os.drop e).sum * (chs (a + e) e * chs (ps.length - 1 - a + (os.length - e)) (os.length - e))
def pbIn (ps os : List Nat) (a : Nat) (j : List Nat) (m : Nat) : List Nat := (List.range m).foldl (fun j e => j.set (a + e) (j.getD (a + e) 0 + trm ps os a e)) j
def pbUp (ps os : List Nat) (m : Nat) : List Nat := (List.range m).foldl (fun j a => pbIn ps os a j os.length) (List.replicate (ps.length + os.length) 0)
def pb (ps os : List Nat) : List Nat := pbUp ps os ps.length
def pa (ps os : List Nat) : List Nat := (pb ps.reverse os.reverse).reverse
theorem pbIn_succ (ps os : List Nat) (a : Nat) (j : List Nat) (m : Nat) : pbIn ps os a j (m + 1) = (pbIn ps os a j m).set (a + m) ((pbIn ps os a j m).getD (a + m) 0 + trm ps os a m) := by
  unfold pbIn
  rw [List.range_succ, List.foldl_append]
  rfl
theorem pbIn_len (ps os : List Nat) (a : Nat) (j : List Nat) : ∀ m, (pbIn ps os a j m).length = j.length
  | 0 => rfl
  | m + 1 => by rw [pbIn_succ, List.length_set, pbIn_len ps os a j m]
theorem pbUp_succ (ps os : List Nat) (m : Nat) : pbUp ps os (m + 1) = pbIn ps os m (pbUp ps os m) os.length := by
  unfold pbUp
  rw [List.range_succ, List.foldl_append]
  rfl
theorem pbUp_len (ps os : List Nat) : ∀ m, (pbUp ps os m).length = ps.length + os.length
  | 0 => List.length_replicate
  | m + 1 => by rw [pbUp_succ, pbIn_len, pbUp_len ps os m]
theorem pb_len (ps os : List Nat) : (pb ps os).length = ps.length + os.length := pbUp_len ps os _
theorem pa_len (ps os : List Nat) : (pa ps os).length = ps.length + os.length := by
  unfold pa
  rw [List.length_reverse, pb_len, List.length_reverse, List.length_reverse]
/-- sizes -/
def Sz (ps : List Nat) : Prop := ∀ x ∈ ps, x * 2 ^ 60 ≤ 2 ^ (60 * ps.length)
theorem sz_one : Sz [1] := fun x hx => by
  rw [List.mem_singleton.mp hx]
  exact Nat.le_of_eq rfl
theorem Sz.rev {ps : List Nat} (h : Sz ps) : Sz ps.reverse := fun x hx => by
  rw [List.length_reverse]
  exact h x (List.mem_reverse.mp hx)
theorem sum_le {X : Nat} : ∀ {l : List Nat}, (∀ x ∈ l, x ≤ X) → l.sum ≤ l.length * X
  | [], _ => Nat.zero_le _
  | x :: l, h => by
    have a := sum_le (l := l) fun y hy => h y (List.mem_cons_of_mem _ hy)
    have b := h x List.mem_cons_self
    rw [List.sum_cons, List.length_cons, Nat.add_mul, Nat.one_mul]
    omega
theorem getD_set (l : List Nat) (i j y : Nat) : (l.set i y).getD j 0 = if i = j ∧ i < l.length then y else l.getD j 0 := by
  rw [List.getD_eq_getElem?_getD, List.getD_eq_getElem?_getD, List.getElem?_set]
  by_cases h : i = j
  · subst h
    rw [if_pos rfl]
    by_cases h2 : i < l.length
    · rw [if_pos h2, if_pos ⟨rfl, h2⟩]
      rfl
    · rw [if_neg h2, if_neg (fun z => h2 z.2), List.getElem?_eq_none (by omega)]
  · rw [if_neg h, if_neg (fun z => h z.1)]
theorem pbIn_le {ps os : List Nat} {a T : Nat} (hT : ∀ e, e < os.length → trm ps os a e ≤ T) {j : List Nat} (k : Nat) : ∀ m, m ≤ os.length → (pbIn ps os a j m).getD k 0 ≤ j.getD k 0 + (if k < a + m then T else 0)
  | 0, _ => by
    show j.getD k 0 ≤ _
    omega
  | m + 1, h => by
    have ih := pbIn_le hT (j := j) k m (by omega)
    have ih2 : ∀ k', a + m ≤ k' → (pbIn ps os a j m).getD k' 0 ≤ j.getD k' 0 := fun k' hk => by
      have := pbIn_le hT (j := j) k' m (by omega)
      rw [if_neg (by omega)] at this
      omega
    have t := hT m (by omega)
    rw [pbIn_succ, getD_set]
    split
    · rename_i c
      have := ih2 (a + m) (Nat.le_refl _)
      rw [← c.1, if_pos (by omega)]
      omega
    · refine Nat.le_trans ih ?_
      split
      · rw [if_pos (by omega)]
        exact Nat.le_refl _
      · omega
theorem pbUp_le {ps os : List Nat} {T : Nat} (hT : ∀ a e, a < ps.length → e < os.length → trm ps os a e ≤ T) (k : Nat) : ∀ m, m ≤ ps.length → (pbUp ps os m).getD k 0 ≤ m * T
  | 0, _ => by
    show (List.replicate _ 0).getD k 0 ≤ _
    rw [List.getD_eq_getElem?_getD, List.getElem?_replicate]
    split <;> exact Nat.zero_le _
  | m + 1, h => by
    have ih := pbUp_le hT k m (by omega)
    rw [pbUp_succ]
    have := pbIn_le (fun e he => hT m e (by omega) he) (j := pbUp ps os m) k os.length (Nat.le_refl _)
    rw [Nat.add_mul, Nat.one_mul]
    split at this <;> omega
theorem getD_le {l : List Nat} {X : Nat} (h : ∀ x ∈ l, x ≤ X) (i : Nat) : l.getD i 0 ≤ X := by
  rw [List.getD_eq_getElem?_getD]
  rcases Nat.lt_or_ge i l.length with lt | ge
  · rw [List.getElem?_eq_getElem lt]
    exact h _ (List.getElem_mem lt)
  · rw [List.getElem?_eq_none ge]
    exact Nat.zero_le _
theorem trm_le {ps os : List Nat} {X Y : Nat} (hx : ∀ x ∈ ps, x ≤ X) (hy : ∀ y ∈ os, y ≤ Y) (few : ps.length + os.length ≤ 40) {a e : Nat} (ha : a < ps.length) (he : e < os.length) : trm ps os a e ≤ X * (40 * Y) * 2 ^ 40 := by
  unfold trm
  have s : (os.drop e).sum ≤ 40 * Y := by
    have h := sum_le (X := Y) (l := os.drop e) fun y hy' => hy y (List.mem_of_mem_drop hy')
    refine Nat.le_trans h (Nat.mul_le_mul_right _ ?_)
    rw [List.length_drop]
    omega
  have c : chs (a + e) e * chs (ps.length - 1 - a + (os.length - e)) (os.length - e) ≤ 2 ^ 40 := by
    refine Nat.le_trans (Nat.mul_le_mul (chs_two _ _) (chs_two _ _)) ?_
    rw [← Nat.pow_add]
    exact Nat.pow_le_pow_right (by decide) (by omega)
  exact Nat.mul_le_mul (Nat.mul_le_mul (getD_le hx a) s) c
theorem Sz.le {ps : List Nat} (h : Sz ps) : ∀ x ∈ ps, x ≤ 2 ^ (60 * ps.length) / 2 ^ 60 := fun x hx => (Nat.le_div_iff_mul_le (by decide)).mpr (h x hx)
theorem sz_pb {ps os : List Nat} (h1 : Sz ps) (h2 : Sz os) (few : ps.length + os.length ≤ 40) : Sz (pb ps os) := fun x hx => by
  obtain ⟨k, hk⟩ := List.mem_iff_getElem?.mp hx
  have e : x = (pb ps os).getD k 0 := by
    rw [List.getD_eq_getElem?_getD, hk]
    rfl
  have le := pbUp_le (fun a e ha he => trm_le h1.le h2.le few ha he) k ps.length (Nat.le_refl _)
  have le : x ≤ ps.length * ((2 ^ (60 * ps.length) / 2 ^ 60) * (40 * (2 ^ (60 * os.length) / 2 ^ 60)) * 2 ^ 40) := by
    rw [e]
    exact le
  rw [pb_len]
  have dx := Nat.div_mul_le_self (2 ^ (60 * ps.length)) (2 ^ 60)
  have dy := Nat.div_mul_le_self (2 ^ (60 * os.length)) (2 ^ 60)
  rw [show 60 * (ps.length + os.length) = 60 * ps.length + 60 * os.length by omega, Nat.pow_add]
  generalize 2 ^ (60 * ps.length) / 2 ^ 60 = X at *
  generalize 2 ^ (60 * os.length) / 2 ^ 60 = Y at *
  generalize 2 ^ (60 * ps.length) = A at *
  generalize 2 ^ (60 * os.length) = B at *
  have l40 : ps.length ≤ 40 := by omega
  generalize ps.length = n at *
  refine Nat.le_trans (Nat.mul_le_mul_right _ le) ?_
  refine Nat.le_trans ?_ (Nat.mul_le_mul dx dy)
  have e1 : n * (X * (40 * Y) * 2 ^ 40) * 2 ^ 60 = n * (40 * 2 ^ 40) * 2 ^ 60 * (X * Y) := by
    rw [show X * (40 * Y) = 40 * (X * Y) from Nat.mul_left_comm X 40 Y, Nat.mul_right_comm 40 (X * Y), ← Nat.mul_assoc, Nat.mul_right_comm]
  have e2 : X * 2 ^ 60 * (Y * 2 ^ 60) = 2 ^ 120 * (X * Y) := by
    rw [Nat.mul_comm X, Nat.mul_comm Y, Nat.mul_mul_mul_comm]
  rw [e1, e2]
  refine Nat.mul_le_mul_right _ ?_
  have : n * (40 * 2 ^ 40) ≤ 2 ^ 60 := Nat.le_trans (Nat.mul_le_mul_right _ l40) (by decide)
  exact Nat.le_trans (Nat.mul_le_mul_right _ this) (by decide)
theorem sz_pa {ps os : List Nat} (h1 : Sz ps) (h2 : Sz os) (few : ps.length + os.length ≤ 40) : Sz (pa ps os) := by
  refine Sz.rev (sz_pb h1.rev h2.rev ?_)
  rw [List.length_reverse, List.length_reverse]
  exact few
/-- the sum of part of the places, with the last count before it: small -/
theorem Sz.lt {ps : List Nat} (h : Sz ps) (few : ps.length ≤ 40) {x : Nat} (hx : x ∈ ps) : x < 2 ^ 2341 := by
  have a := h x hx
  have b : 2 ^ (60 * ps.length) ≤ 2 ^ 2400 := Nat.pow_le_pow_right (by decide) (by omega)
  have c : x * 2 ^ 60 ≤ 2 ^ 2340 * 2 ^ 60 := by
    rw [← Nat.pow_add]
    omega
  have d := Nat.le_of_mul_le_mul_right c (by decide)
  exact Nat.lt_of_le_of_lt d (Nat.pow_lt_pow_right (by decide) (by decide))
end Os
/-! the pairs of following edges have no cycle; the side of an edge -/
namespace Os
open PySem PySem.Spec PyProof.Rows
def BridgesP (S : List PP) : Prop := ∀ q ∈ S, ∃ T : Pr → Bool, T q.1 ≠ T q.2 ∧ ∀ r ∈ S, r ≠ q → T r.1 = T r.2
theorem any_congr' {α : Type} {f g : α → Bool} : ∀ {l : List α}, (∀ x ∈ l, f x = g x) → l.any f = l.any g
  | [], _ => rfl
  | x :: l, h => by
    rw [List.any_cons, List.any_cons, h x List.mem_cons_self, any_congr' fun y hy => h y (List.mem_cons_of_mem _ hy)]
theorem fol_bridges {n : Nat} {es os : List Pr} (E : Edges n es) (pm : os.Perm es) : BridgesP (folN n fun p => turnOf p os) := fun q hq => by
  obtain ⟨p, hp, T1, a, b, T2, ht, rfl⟩ := mem_folN.mp hq
  have ht : turnOf p os = (T1 ++ [a]) ++ b :: T2 := by
    show turnOf p os = _
    rw [List.append_assoc]
    exact ht
  have nd := turn_nodup E pm p
  have te : ∀ {p c : Nat}, c ∈ turnOf p os → eb p c ∈ es ∧ Tch (eb p c) p c ∧ p ≠ c ∧ p < n := fun {p c} h => turn_edge E ((turn_perm pm p).mem_iff.mp h)
  have ex : ∀ c, ∃ f : Nat → Bool, c ∈ turnOf p os → (f p = false ∧ f c = true ∧ ∀ g ∈ es, g ≠ eb p c → f g.1 = f g.2) := fun c => by
    by_cases hc : c ∈ turnOf p os
    · obtain ⟨h1, h2, _, _⟩ := te hc
      obtain ⟨B, b1, b2⟩ := E.br _ h1
      refine ⟨fun x => B x != B p, fun _ => ⟨by simp, ?_, fun g hg ne => by
        show (B g.1 != B p) = (B g.2 != B p)
        rw [b2 g hg ne]⟩⟩
      show (B c != B p) = true
      rcases h2 with ⟨x, y⟩ | ⟨x, y⟩
      · rw [x, y] at b1
        exact bne_iff_ne.mpr (Ne.symm b1)
      · rw [x, y] at b1
        exact bne_iff_ne.mpr b1
    · exact ⟨fun _ => false, fun h => absurd h hc⟩
  obtain ⟨far, hf⟩ := Classical.axiomOfChoice ex
  have pin : ∀ h ∈ T1 ++ [a], h ∈ turnOf p os := fun h hh => by
    rw [ht]
    exact List.mem_append_left _ hh
  -- at p
  have at1 : ∀ c ∈ turnOf p os, ((T1 ++ [a]).any fun h => far h (eb p c).1 || far h (eb p c).2) = decide (c ∈ T1 ++ [a]) := fun c hc => by
    obtain ⟨c1, c2, c3, _⟩ := te hc
    by_cases m : c ∈ T1 ++ [a]
    · rw [decide_eq_true m]
      refine List.any_eq_true.mpr ⟨c, m, ?_⟩
      obtain ⟨f1, f2, f3⟩ := hf c hc
      rcases c2 with ⟨x, y⟩ | ⟨x, y⟩
      · rw [y, f2, Bool.or_true]
      · rw [y, f2, Bool.true_or]
    · rw [decide_eq_false m]
      refine List.any_eq_false.mpr fun h hh z => ?_
      obtain ⟨f1, f2, f3⟩ := hf h (pin h hh)
      have ne : eb p c ≠ eb p h := fun z => m (eb_inj c3 (te (pin h hh)).2.2.1 z ▸ hh)
      have q := f3 _ c1 ne
      rcases c2 with ⟨x, y⟩ | ⟨x, y⟩
      · rw [← q, x, f1] at z
        cases z
      · rw [q, x, f1] at z
        cases z
  -- elsewhere
  have at2 : ∀ p' c, p' ≠ p → c ∈ turnOf p' os → ((T1 ++ [a]).any fun h => far h (eb p' c).1 || far h (eb p' c).2) = (T1 ++ [a]).any fun h => far h p' := fun p' c ne hc => by
    obtain ⟨c1, c2, c3, _⟩ := te hc
    refine any_congr' fun h hh => ?_
    obtain ⟨f1, f2, f3⟩ := hf h (pin h hh)
    by_cases e : eb p' c = eb p h
    · have t := (te (pin h hh)).2.1
      rw [← e] at t
      have : p' = h := by
        rcases t with ⟨x, y⟩ | ⟨x, y⟩ <;> rcases c2 with ⟨z, w⟩ | ⟨z, w⟩ <;> omega
      rw [this] at c2 ⊢
      rcases c2 with ⟨x, y⟩ | ⟨x, y⟩
      · rw [x, f2, Bool.true_or]
      · rw [x, f2, Bool.or_true]
    · have q := f3 _ c1 e
      rcases c2 with ⟨x, y⟩ | ⟨x, y⟩
      · rw [← q, x, Bool.or_self]
      · rw [q, x, Bool.or_self]
  have nd2 := nd
  rw [ht] at nd2
  have dis : ∀ x ∈ T1 ++ [a], x ∉ b :: T2 := fun x h1 h2 => (List.nodup_append.mp nd2).2.2 x h1 x h2 rfl
  refine ⟨fun g => (T1 ++ [a]).any fun h => far h g.1 || far h g.2, ?_, fun r hr ne => ?_⟩
  · show ((T1 ++ [a]).any fun h => far h (eb p a).1 || far h (eb p a).2) ≠ ((T1 ++ [a]).any fun h => far h (eb p b).1 || far h (eb p b).2)
    rw [at1 a (by rw [ht]; simp), at1 b (by rw [ht]; simp), decide_eq_true (by simp), decide_eq_false (fun z => dis b z List.mem_cons_self)]
    exact Bool.noConfusion
  · obtain ⟨p', hp', U1, c, d, U2, hu, rfl⟩ := mem_folN.mp hr
    have hu : turnOf p' os = (U1 ++ [c]) ++ d :: U2 := by
      show turnOf p' os = _
      rw [List.append_assoc]
      exact hu
    have cin : c ∈ turnOf p' os := by rw [hu]; simp
    have din : d ∈ turnOf p' os := by rw [hu]; simp
    show ((T1 ++ [a]).any fun h => far h (eb p' c).1 || far h (eb p' c).2) = ((T1 ++ [a]).any fun h => far h (eb p' d).1 || far h (eb p' d).2)
    by_cases hpp : p' = p
    · subst hpp
      rw [at1 c cin, at1 d din]
      refine decide_eq_decide.mpr ?_
      rw [ht] at hu
      have same : T1 ++ [a] = U1 ++ [c] → d :: U2 = b :: T2 → False := fun e1 e2 => by
        have := (List.append_inj' e1 rfl).2
        cases this
        cases e2
        exact ne rfl
      rcases List.append_eq_append_iff.mp hu with ⟨as, h1, h2⟩ | ⟨bs, h1, h2⟩
      · cases as with
        | nil => exact (same (by rw [h1, List.append_nil]) h2.symm).elim
        | cons x as =>
          have lc : c ∈ x :: as := by
            have : (U1 ++ [c]).getLast? = ((T1 ++ [a]) ++ x :: as).getLast? := by rw [h1]
            rw [List.getLast?_append, List.getLast?_append] at this
            have e : (x :: as).getLast? = some c := by
              cases hl : (x :: as).getLast? with
              | none => simp at hl
              | some y =>
                rw [hl] at this
                exact this.symm
            exact List.mem_of_getLast? e
          have c2 : c ∈ b :: T2 := by rw [h2]; exact List.mem_append_left _ lc
          have d2 : d ∈ b :: T2 := by rw [h2]; exact List.mem_append_right _ List.mem_cons_self
          exact ⟨fun h => absurd c2 (dis _ h), fun h => absurd d2 (dis _ h)⟩
      · cases bs with
        | nil => exact (same (by rw [h1, List.append_nil]) h2).elim
        | cons x bs =>
          have e2 : d :: U2 = x :: (bs ++ b :: T2) := h2
          cases e2
          exact ⟨fun _ => by rw [h1]; simp, fun _ => by rw [h1]; simp⟩
    · rw [at2 p' c hpp cin, at2 p' d hpp din]
/-! sides -/
def Lk (S : List PP) (e f : Pr) : Prop := (e, f) ∈ S ∨ (f, e) ∈ S
def AwayC (S : List PP) (s : Option Pr) (e : Pr) (T : Pr → Bool) : Prop := ∀ r ∈ S, ¬ (some r.1 = s ∧ r.2 = e) → ¬ (r.1 = e ∧ some r.2 = s) → T r.1 = T r.2
def FarP (S : List PP) (s : Option Pr) (e g : Pr) : Prop := ∀ T, AwayC S s e T → T g = T e
section
variable {S : List PP}
theorem lk_of {q : PP} {e f : Pr} (h : q = (e, f) ∨ q = (f, e)) (hq : q ∈ S) : Lk S e f := h.elim (fun z => .inl (z ▸ hq)) (fun z => .inr (z ▸ hq))
theorem lk_cut (B : BridgesP S) {e f : Pr} (h : Lk S e f) : ∃ T : Pr → Bool, T e ≠ T f ∧ ∀ r ∈ S, r ≠ (e, f) → r ≠ (f, e) → T r.1 = T r.2 := by
  rcases h with h | h
  · obtain ⟨T, t1, t2⟩ := B _ h
    exact ⟨T, t1, fun r hr n1 _ => t2 r hr n1⟩
  · obtain ⟨T, t1, t2⟩ := B _ h
    exact ⟨T, Ne.symm t1, fun r hr _ n2 => t2 r hr n2⟩
theorem lk_one (B : BridgesP S) {e f : Pr} (h1 : (e, f) ∈ S) (h2 : (f, e) ∈ S) : False := by
  obtain ⟨T, t1, t2⟩ := B _ h1
  by_cases c : e = f
  · rw [c] at t1
    exact t1 rfl
  · exact t1 (t2 _ h2 (fun z => c (Prod.mk.inj z).2)).symm
theorem away_cut {e f : Pr} {T : Pr → Bool} (h : ∀ r ∈ S, r ≠ (e, f) → r ≠ (f, e) → T r.1 = T r.2) : AwayC S (some e) f T := fun r hr n1 n2 => h r hr (fun z => n1 (by rw [z]; exact ⟨rfl, rfl⟩)) fun z => n2 (by rw [z]; exact ⟨rfl, rfl⟩)
theorem far_sub (B : BridgesP S) {e f g : Pr} {s : Option Pr} (l : Lk S e f) (ns : some f ≠ s) (h : FarP S (some e) f g) : FarP S s e g ∧ g ≠ e := by
  obtain ⟨T, t1, t2⟩ := lk_cut B l
  have tg := h T (away_cut t2)
  refine ⟨fun R hR => ?_, fun z => t1 (by rw [← z]; exact tg)⟩
  have aw : AwayC S (some e) f fun x => if T x = T f then R x else R f := away_cut fun r hr n1 n2 => by
    have q := t2 r hr n1 n2
    show (if T r.1 = T f then R r.1 else R f) = (if T r.2 = T f then R r.2 else R f)
    rw [q]
    split
    · rename_i c
      exact hR r hr (fun z => t1 (by rw [← c, z.2])) fun z => t1 (by rw [← c, ← q, z.1])
    · rfl
  have u : (if T g = T f then R g else R f) = (if T f = T f then R f else R f) := h _ aw
  rw [if_pos tg, if_pos rfl] at u
  rw [u]
  rcases l with l | l
  · exact (hR _ l (fun z => t1 (by rw [← z.2])) fun z => ns z.2).symm
  · exact hR _ l (fun z => ns z.1) fun z => t1 (by rw [← z.1])
theorem far_dis (B : BridgesP S) {e f f' g : Pr} (l : Lk S e f) (l' : Lk S e f') (ne : f ≠ f') (h : FarP S (some e) f g) (h' : FarP S (some e) f' g) : False := by
  obtain ⟨T, t1, t2⟩ := lk_cut B l
  obtain ⟨R, r1, r2⟩ := lk_cut B l'
  have tg := h T (away_cut t2)
  have rg := h' R (away_cut r2)
  have aw : AwayC S (some e) f' fun x => if R x = R f' then T x else T e := away_cut fun r hr n1 n2 => by
    have q := r2 r hr n1 n2
    show (if R r.1 = R f' then T r.1 else T e) = (if R r.2 = R f' then T r.2 else T e)
    rw [q]
    split
    · rename_i c
      exact t2 r hr (fun z => r1 (by rw [← c, ← q, z])) fun z => r1 (by rw [← c, z])
    · rfl
  have u : (if R g = R f' then T g else T e) = (if R f' = R f' then T f' else T e) := h' _ aw
  rw [if_pos rg, if_pos rfl, tg] at u
  have nef : e ≠ f := fun z => t1 (by rw [z])
  have k : T f' = T e := by
    rcases l' with l' | l'
    · exact (t2 _ l' (fun z => ne (Prod.mk.inj z).2.symm) fun z => nef (Prod.mk.inj z).1).symm
    · exact t2 _ l' (fun z => nef (Prod.mk.inj z).2) fun z => ne (Prod.mk.inj z).1.symm
  exact t1 (by rw [u, k])
noncomputable def farL (S : List PP) (es : List Pr) (s : Option Pr) (e : Pr) : List Pr := es.filter fun g => @decide (FarP S s e g) (Classical.propDecidable _)
theorem mem_far {es : List Pr} {s : Option Pr} {e g : Pr} : g ∈ farL S es s e ↔ g ∈ es ∧ FarP S s e g := by
  unfold farL
  rw [List.mem_filter]
  exact and_congr_right fun _ => ⟨fun h => @of_decide_eq_true _ (Classical.propDecidable _) h, fun h => @decide_eq_true _ (Classical.propDecidable _) h⟩
theorem far_nodup {es : List Pr} (nd : es.Nodup) (s : Option Pr) (e : Pr) : (farL S es s e).Nodup := nd.filter _
end
/-! the places, by steps of the recursion -/
def plcStep (sub : Pr → List Nat) (e : Pr) (s : Option Pr) (P : List Nat) (q : PP) : List Nat :=
  let P1 := if q.1 = e ∧ some q.2 ≠ s then pb P (sub q.2) else P
  if q.2 = e ∧ some q.1 ≠ s then pa P1 (sub q.1) else P1
def plc (S : List PP) : Nat → Pr → Option Pr → List Nat
  | 0, _, _ => [1]
  | j + 1, e, s => S.foldl (plcStep (fun f => plc S j f (some e)) e s) [1]
def FitP (S : List PP) : Nat → Pr → Option Pr → Prop
  | 0, _, _ => False
  | j + 1, e, s => (∀ f, Lk S e f → some f ≠ s → FitP S j f (some e)) ∧ (plc S (j + 1) e s).length ≤ 40
theorem step_len (sub : Pr → List Nat) (e : Pr) (s : Option Pr) (P : List Nat) (q : PP) : (plcStep sub e s P q).length = P.length + (if q.1 = e ∧ some q.2 ≠ s then (sub q.2).length else 0) + (if q.2 = e ∧ some q.1 ≠ s then (sub q.1).length else 0) := by
  have g : plcStep sub e s P q = if q.2 = e ∧ some q.1 ≠ s then pa (if q.1 = e ∧ some q.2 ≠ s then pb P (sub q.2) else P) (sub q.1) else (if q.1 = e ∧ some q.2 ≠ s then pb P (sub q.2) else P) := rfl
  rw [g]
  by_cases h1 : q.1 = e ∧ some q.2 ≠ s <;> by_cases h2 : q.2 = e ∧ some q.1 ≠ s
  · rw [if_pos h2, if_pos h2, if_pos h1, if_pos h1, pa_len, pb_len]
  · rw [if_neg h2, if_neg h2, if_pos h1, if_pos h1, pb_len, Nat.add_zero]
  · rw [if_pos h2, if_pos h2, if_neg h1, if_neg h1, pa_len, Nat.add_zero]
  · rw [if_neg h2, if_neg h2, if_neg h1, if_neg h1, Nat.add_zero]
theorem fold_len (sub : Pr → List Nat) (e : Pr) (s : Option Pr) : ∀ (l : List PP) (P : List Nat), P.length ≤ (l.foldl (plcStep sub e s) P).length
  | [], P => Nat.le_refl _
  | q :: l, P => by
    have a := fold_len sub e s l (plcStep sub e s P q)
    have b := step_len sub e s P q
    show P.length ≤ (l.foldl (plcStep sub e s) (plcStep sub e s P q)).length
    omega
theorem fold_sz {sub : Pr → List Nat} {e : Pr} {s : Option Pr} : ∀ (l : List PP) (P : List Nat), Sz P → (∀ q ∈ l, (q.1 = e ∧ some q.2 ≠ s → Sz (sub q.2)) ∧ (q.2 = e ∧ some q.1 ≠ s → Sz (sub q.1))) → (l.foldl (plcStep sub e s) P).length ≤ 40 → Sz (l.foldl (plcStep sub e s) P)
  | [], P, h, _, _ => h
  | q :: l, P, h, hs, few => by
    have few : (l.foldl (plcStep sub e s) (plcStep sub e s P q)).length ≤ 40 := few
    have a := fold_len sub e s l (plcStep sub e s P q)
    have b := step_len sub e s P q
    obtain ⟨s1, s2⟩ := hs q List.mem_cons_self
    refine fold_sz l (plcStep sub e s P q) ?_ (fun r hr => hs r (List.mem_cons_of_mem _ hr)) few
    have h1 : Sz (if q.1 = e ∧ some q.2 ≠ s then pb P (sub q.2) else P) := by
      by_cases c : q.1 = e ∧ some q.2 ≠ s
      · rw [if_pos c] at b ⊢
        exact sz_pb h (s1 c) (by omega)
      · rw [if_neg c]
        exact h
    unfold plcStep
    by_cases c : q.2 = e ∧ some q.1 ≠ s
    · rw [if_pos c] at b ⊢
      refine sz_pa h1 (s2 c) ?_
      split
      · rename_i c2
        rw [if_pos c2] at b
        rw [pb_len]
        omega
      · omega
    · rw [if_neg c]
      exact h1
theorem plc_sz {S : List PP} : ∀ {j : Nat} {e : Pr} {s : Option Pr}, FitP S j e s → Sz (plc S j e s)
  | 0, _, _, h => h.elim
  | j + 1, e, s, h => fold_sz S [1] sz_one (fun q hq => ⟨fun c => plc_sz (h.1 _ (.inl (by rw [← c.1]; exact hq)) c.2), fun c => plc_sz (h.1 _ (.inr (by rw [← c.1]; exact hq)) c.2)⟩) h.2
section
variable {S : List PP} {es : List Pr}
noncomputable def nbs (S : List PP) (es : List Pr) (e : Pr) (s : Option Pr) (q : PP) : List Pr := (if q.1 = e ∧ some q.2 ≠ s then farL S es (some e) q.2 else []) ++ (if q.2 = e ∧ some q.1 ≠ s then farL S es (some e) q.1 else [])
theorem mem_nbs {e : Pr} {s : Option Pr} {q : PP} {g : Pr} (h : g ∈ nbs S es e s q) : ∃ f, (q = (e, f) ∨ q = (f, e)) ∧ some f ≠ s ∧ g ∈ farL S es (some e) f := by
  unfold nbs at h
  rcases List.mem_append.mp h with h | h
  · split at h
    · rename_i c
      exact ⟨q.2, .inl (by rw [← c.1]), c.2, h⟩
    · cases h
  · split at h
    · rename_i c
      exact ⟨q.1, .inr (by rw [← c.1]), c.2, h⟩
    · cases h
theorem fold_nbs {sub : Pr → List Nat} {e : Pr} {s : Option Pr} : ∀ (l : List PP) (P : List Nat), (∀ q ∈ l, (q.1 = e ∧ some q.2 ≠ s → (sub q.2).length ≤ (farL S es (some e) q.2).length) ∧ (q.2 = e ∧ some q.1 ≠ s → (sub q.1).length ≤ (farL S es (some e) q.1).length)) → (l.foldl (plcStep sub e s) P).length ≤ P.length + (l.flatMap (nbs S es e s)).length
  | [], P, _ => Nat.le_refl _
  | q :: l, P, h => by
    have a := fold_nbs l (plcStep sub e s P q) fun r hr => h r (List.mem_cons_of_mem _ hr)
    have b := step_len sub e s P q
    obtain ⟨s1, s2⟩ := h q List.mem_cons_self
    show (l.foldl (plcStep sub e s) (plcStep sub e s P q)).length ≤ _
    rw [List.flatMap_cons, List.length_append]
    have c : (if q.1 = e ∧ some q.2 ≠ s then (sub q.2).length else 0) + (if q.2 = e ∧ some q.1 ≠ s then (sub q.1).length else 0) ≤ (nbs S es e s q).length := by
      unfold nbs
      rw [List.length_append]
      refine Nat.add_le_add ?_ ?_
      · by_cases c : q.1 = e ∧ some q.2 ≠ s
        · rw [if_pos c, if_pos c]
          exact s1 c
        · rw [if_neg c]
          exact Nat.zero_le _
      · by_cases c : q.2 = e ∧ some q.1 ≠ s
        · rw [if_pos c, if_pos c]
          exact s2 c
        · rw [if_neg c]
          exact Nat.zero_le _
    omega
theorem fit_far (B : BridgesP S) (nS : S.Nodup) (nes : es.Nodup) (few : es.length ≤ 40) (inn : ∀ q ∈ S, q.1 ∈ es ∧ q.2 ∈ es) : ∀ (j : Nat) (e : Pr) (s : Option Pr), e ∈ es → (farL S es s e).length ≤ j → FitP S j e s ∧ (plc S j e s).length ≤ (farL S es s e).length
  | 0, e, s, he, h => by
    have : e ∈ farL S es s e := mem_far.mpr ⟨he, fun _ _ => rfl⟩
    have := List.length_pos_of_mem this
    omega
  | j + 1, e, s, he, h => by
    have ein : e ∈ farL S es s e := mem_far.mpr ⟨he, fun _ _ => rfl⟩
    have less : ∀ f, Lk S e f → some f ≠ s → f ∈ es ∧ (farL S es (some e) f).length ≤ j := fun f l ns => by
      refine ⟨l.elim (fun l => (inn _ l).2) (fun l => (inn _ l).1), ?_⟩
      have := nodup_sub (l := e :: farL S es (some e) f) (m := farL S es s e) (List.nodup_cons.mpr ⟨fun z => (far_sub B l ns (mem_far.mp z).2).2 rfl, far_nodup nes _ _⟩) fun g hg => by
        rcases List.mem_cons.mp hg with rfl | hg
        · exact ein
        · exact mem_far.mpr ⟨(mem_far.mp hg).1, (far_sub B l ns (mem_far.mp hg).2).1⟩
      rw [List.length_cons] at this
      omega
    have ih : ∀ f, Lk S e f → some f ≠ s → FitP S j f (some e) ∧ (plc S j f (some e)).length ≤ (farL S es (some e) f).length := fun f l ns => fit_far B nS nes few inn j f (some e) (less f l ns).1 (less f l ns).2
    have len : (plc S (j + 1) e s).length ≤ (farL S es s e).length := by
      have a : (plc S (j + 1) e s).length ≤ [1].length + (S.flatMap (nbs S es e s)).length := fold_nbs S [1] fun q hq => ⟨fun c => (ih q.2 (.inl (by rw [← c.1]; exact hq)) c.2).2, fun c => (ih q.1 (.inr (by rw [← c.1]; exact hq)) c.2).2⟩
      have nd : (e :: S.flatMap (nbs S es e s)).Nodup := by
        refine List.nodup_cons.mpr ⟨fun z => ?_, nodup_flat nS (fun q hq => ?_) fun q hq r hr g hg hg' => ?_⟩
        · obtain ⟨q, hq, hz⟩ := List.mem_flatMap.mp z
          obtain ⟨f, hf, ns, hm⟩ := mem_nbs hz
          exact (far_sub B (lk_of hf hq) ns (mem_far.mp hm).2).2 rfl
        · unfold nbs
          by_cases c1 : q.1 = e ∧ some q.2 ≠ s
          · by_cases c2 : q.2 = e ∧ some q.1 ≠ s
            · have : q = (e, e) := Prod.ext c1.1 c2.1
              rw [this] at hq
              exact (lk_one B hq hq).elim
            · rw [if_neg c2, List.append_nil, if_pos c1]
              exact far_nodup nes _ _
          · rw [if_neg c1, List.nil_append]
            split
            · exact far_nodup nes _ _
            · exact List.nodup_nil
        · obtain ⟨f, hf, ns, hm⟩ := mem_nbs hg
          obtain ⟨f', hf', ns', hm'⟩ := mem_nbs hg'
          have l : Lk S e f := lk_of hf hq
          have l' : Lk S e f' := lk_of hf' hr
          have ff : f = f' := Decidable.byContradiction fun ne => far_dis B l l' ne (mem_far.mp hm).2 (mem_far.mp hm').2
          subst ff
          rcases hf with rfl | rfl <;> rcases hf' with rfl | rfl
          · rfl
          · exact (lk_one B hq hr).elim
          · exact (lk_one B hr hq).elim
          · rfl
      have b := nodup_sub (m := farL S es s e) nd fun g hg => by
        rcases List.mem_cons.mp hg with rfl | hg
        · exact ein
        · obtain ⟨q, hq, hz⟩ := List.mem_flatMap.mp hg
          obtain ⟨f, hf, ns, hm⟩ := mem_nbs hz
          exact mem_far.mpr ⟨(mem_far.mp hm).1, (far_sub B (lk_of hf hq) ns (mem_far.mp hm).2).1⟩
      rw [List.length_cons] at b
      rw [List.length_singleton] at a
      omega
    refine ⟨⟨fun f l ns => (ih f l ns).1, ?_⟩, len⟩
    have : (farL S es s e).length ≤ es.length := List.length_filter_le _ _
    omega
/-- the recursion over the pairs of an outcome ends, its lists stay short -/
theorem fit_out {n : Nat} {os : List Pr} (E : Edges n es) (pm : os.Perm es) (few : es.length ≤ 40) {S : List PP} (hS : S.Perm (folN n fun p => turnOf p os)) {e : Pr} (he : e ∈ es) {j : Nat} (hj : es.length ≤ j) : FitP S j e none := by
  have B : BridgesP S := fun q hq => by
    obtain ⟨T, t1, t2⟩ := fol_bridges E pm q (hS.mem_iff.mp hq)
    exact ⟨T, t1, fun r hr ne => t2 r (hS.mem_iff.mp hr) ne⟩
  refine (fit_far B (hS.nodup_iff.mpr (folN_nodup E pm)) E.nodup few (fun q hq => ?_) j e none he (Nat.le_trans (List.length_filter_le _ _) hj)).1
  have := fol_is E pm (e := q.1) (f := q.2) (hS.mem_iff.mp hq)
  exact ⟨this.1, this.2.1⟩
end
end Os
/-! permutations of anything, shuffles of two lists, how many have an element at a place -/
namespace Os
section
variable {α : Type}
def insA (x : α) : List α → List (List α)
  | [] => [[x]]
  | y :: l => (x :: y :: l) :: (insA x l).map (y :: ·)
def prms : List α → List (List α)
  | [] => [[]]
  | x :: l => (prms l).flatMap (insA x)
theorem insA_len (x : α) : ∀ l : List α, (insA x l).length = l.length + 1
  | [] => rfl
  | y :: l => by
    show ((insA x l).map (y :: ·)).length + 1 = _
    rw [List.length_map, insA_len x l]
    rfl
theorem insA_mem {x : α} : ∀ {l m : List α}, m ∈ insA x l ↔ ∃ A B, l = A ++ B ∧ m = A ++ x :: B
  | [], m => by
    constructor
    · intro h
      rw [List.mem_singleton.mp h]
      exact ⟨[], [], rfl, rfl⟩
    · rintro ⟨A, B, h, rfl⟩
      obtain ⟨rfl, rfl⟩ := List.append_eq_nil_iff.mp h.symm
      exact List.mem_singleton.mpr rfl
  | y :: l, m => by
    constructor
    · intro h
      rcases List.mem_cons.mp h with rfl | h
      · exact ⟨[], y :: l, rfl, rfl⟩
      · obtain ⟨m', h', rfl⟩ := List.mem_map.mp h
        obtain ⟨A, B, rfl, rfl⟩ := insA_mem.mp h'
        exact ⟨y :: A, B, rfl, rfl⟩
    · rintro ⟨A, B, h, rfl⟩
      cases A with
      | nil => rw [show B = y :: l from h.symm]; exact List.mem_cons_self
      | cons a A =>
        injection h with h1 h2
        subst h1
        exact List.mem_cons_of_mem _ (List.mem_map.mpr ⟨A ++ x :: B, insA_mem.mpr ⟨A, B, h2, rfl⟩, rfl⟩)
theorem prms_mem : ∀ {l m : List α}, m ∈ prms l ↔ m.Perm l
  | [], m => by
    constructor
    · intro h
      rw [List.mem_singleton.mp h]
    · intro h
      rw [h.eq_nil]
      exact List.mem_singleton.mpr rfl
  | x :: l, m => by
    constructor
    · intro h
      obtain ⟨k, hk, h⟩ := List.mem_flatMap.mp h
      obtain ⟨A, B, rfl, rfl⟩ := insA_mem.mp h
      exact List.perm_middle.trans ((prms_mem.mp hk).cons x)
    · intro h
      obtain ⟨A, B, rfl⟩ := List.append_of_mem (h.mem_iff.mpr List.mem_cons_self)
      exact List.mem_flatMap.mpr ⟨A ++ B, prms_mem.mpr ((List.perm_middle.symm.trans h).cons_inv), insA_mem.mpr ⟨A, B, rfl, rfl⟩⟩
theorem prms_len : ∀ l : List α, (prms l).length = fac l.length
  | [] => rfl
  | x :: l => by
    show ((prms l).flatMap (insA x)).length = (l.length + 1) * fac l.length
    rw [flat_sum (m := l.length + 1) fun m hm => by rw [insA_len, (prms_mem.mp hm).length_eq], prms_len l, Nat.mul_comm]
theorem insA_inj {x : α} {A B C D : List α} (h1 : x ∉ A) (h2 : x ∉ C) (h : A ++ x :: B = C ++ x :: D) : A = C ∧ B = D := by
  induction A generalizing C with
  | nil =>
    cases C with
    | nil => exact ⟨rfl, List.tail_eq_of_cons_eq h⟩
    | cons c C =>
      injection h with e _
      exact (h2 (e ▸ List.mem_cons_self)).elim
  | cons a A ih =>
    cases C with
    | nil =>
      injection h with e _
      exact (h1 (e ▸ List.mem_cons_self)).elim
    | cons c C =>
      injection h with e h
      obtain ⟨r1, r2⟩ := ih (fun z => h1 (List.mem_cons_of_mem _ z)) (fun z => h2 (List.mem_cons_of_mem _ z)) h
      exact ⟨by rw [e, r1], r2⟩
theorem insA_nodup {x : α} : ∀ {l : List α}, x ∉ l → (insA x l).Nodup
  | [], _ => List.nodup_cons.mpr ⟨List.not_mem_nil, List.nodup_nil⟩
  | y :: l, h => by
    refine List.nodup_cons.mpr ⟨fun z => ?_, ?_⟩
    · obtain ⟨m, _, e⟩ := List.mem_map.mp z
      injection e with e _
      exact h (e ▸ List.mem_cons_self)
    · exact List.Pairwise.map (y :: ·) (R := (· ≠ ·)) (S := (· ≠ ·)) (fun a b ne e => ne (by injection e)) (insA_nodup fun z => h (List.mem_cons_of_mem _ z))
theorem prms_nodup : ∀ {l : List α}, l.Nodup → (prms l).Nodup
  | [], _ => List.nodup_cons.mpr ⟨List.not_mem_nil, List.nodup_nil⟩
  | x :: l, nd => by
    obtain ⟨n1, n2⟩ := List.nodup_cons.mp nd
    have out : ∀ m ∈ prms l, x ∉ m := fun m hm z => n1 ((prms_mem.mp hm).mem_iff.mp z)
    refine nodup_flat (prms_nodup n2) (fun m hm => insA_nodup (out m hm)) fun a ha b hb c h1 h2 => ?_
    obtain ⟨A, B, rfl, rfl⟩ := insA_mem.mp h1
    obtain ⟨C, D, rfl, e⟩ := insA_mem.mp h2
    have oa := out _ ha
    have ob := out _ hb
    obtain ⟨rfl, rfl⟩ := insA_inj (fun z => oa (List.mem_append_left _ z)) (fun z => ob (List.mem_append_left _ z)) e
    rfl
end
/-! ### sums over ranges -/
def sumR (n : Nat) (f : Nat → Nat) : Nat := ((List.range n).map f).sum
theorem sumR_succ (n : Nat) (f : Nat → Nat) : sumR (n + 1) f = sumR n f + f n := by
  unfold sumR
  rw [List.range_succ, List.map_append, List.sum_append]
  simp
theorem sumR_congr {n : Nat} {f g : Nat → Nat} (h : ∀ i, i < n → f i = g i) : sumR n f = sumR n g := by
  unfold sumR
  rw [List.map_congr_left fun i hi => h i (List.mem_range.mp hi)]
theorem sumR_zero {n : Nat} {f : Nat → Nat} (h : ∀ i, i < n → f i = 0) : sumR n f = 0 := by
  induction n with
  | zero => rfl
  | succ n ih => rw [sumR_succ, ih fun i hi => h i (by omega), h n (by omega)]
theorem sumR_add (n : Nat) (f g : Nat → Nat) : sumR n (fun i => f i + g i) = sumR n f + sumR n g := by
  induction n with
  | zero => rfl
  | succ n ih =>
    rw [sumR_succ, sumR_succ, sumR_succ, ih]
    omega
theorem sumR_mul (n c : Nat) (f : Nat → Nat) : sumR n (fun i => f i * c) = sumR n f * c := by
  induction n with
  | zero => exact (Nat.zero_mul c).symm
  | succ n ih => rw [sumR_succ, sumR_succ, ih, Nat.add_mul]
theorem sumR_head (n : Nat) (f : Nat → Nat) : sumR (n + 1) f = f 0 + sumR n fun i => f (i + 1) := by
  induction n with
  | zero =>
    rw [sumR_succ]
    show 0 + f 0 = f 0 + 0
    omega
  | succ n ih =>
    rw [sumR_succ, ih, sumR_succ]
    omega
theorem sumR_rev (n : Nat) (f : Nat → Nat) : sumR n f = sumR n fun i => f (n - 1 - i) := by
  induction n with
  | zero => rfl
  | succ n ih =>
    rw [sumR_head n fun i => f (n + 1 - 1 - i), sumR_succ, ih]
    rw [Nat.add_comm]
    congr 1
    exact sumR_congr fun i hi => by congr 1; omega
theorem sumR_one {n k : Nat} (f : Nat → Nat) (hk : k < n) : (sumR n fun i => if i = k then f i else 0) = f k := by
  induction n with
  | zero => omega
  | succ n ih =>
    rw [sumR_succ]
    by_cases h : k = n
    · subst h
      rw [if_pos rfl, sumR_zero fun i hi => if_neg (by omega), Nat.zero_add]
    · rw [if_neg (fun z => h z.symm), ih (by omega), Nat.add_zero]
theorem sum_getD (l : List Nat) : l.sum = sumR l.length fun i => l.getD i 0 := by
  induction l with
  | nil => rfl
  | cons x l ih =>
    rw [List.sum_cons, List.length_cons, sumR_head, ih]
    rfl
theorem sum_drop (l : List Nat) (e : Nat) : (l.drop e).sum = sumR l.length fun i => if e ≤ i then l.getD i 0 else 0 := by
  induction l generalizing e with
  | nil =>
    rw [List.drop_nil]
    rfl
  | cons x l ih =>
    rw [List.length_cons, sumR_head]
    cases e with
    | zero =>
      rw [List.drop_zero, List.sum_cons, if_pos (Nat.zero_le _), sum_getD l]
      congr 1
    | succ e =>
      rw [List.drop_succ_cons, ih, if_neg (by omega), Nat.zero_add]
      exact sumR_congr fun i _ => by
        by_cases h : e ≤ i
        · rw [if_pos h, if_pos (by omega)]
          rfl
        · rw [if_neg h, if_neg (by omega)]
/-- a sum over a list, by a number of each element -/
theorem sum_by {α : Type} {n : Nat} (f : α → Nat) (g : Nat → Nat) : ∀ {l : List α}, (∀ x ∈ l, f x < n) → (l.map fun x => g (f x)).sum = sumR n fun t => (l.countP fun x => decide (f x = t)) * g t
  | [], _ => (sumR_zero fun i _ => by rw [List.countP_nil, Nat.zero_mul]).symm
  | x :: l, h => by
    rw [List.map_cons, List.sum_cons, sum_by f g fun y hy => h y (List.mem_cons_of_mem _ hy)]
    rw [← sumR_one (n := n) g (h x List.mem_cons_self), ← sumR_add]
    refine sumR_congr fun i _ => ?_
    rw [List.countP_cons]
    by_cases c : f x = i
    · rw [if_pos c.symm, if_pos (decide_eq_true c), Nat.add_mul, Nat.one_mul, Nat.add_comm]
    · rw [if_neg (fun z => c z.symm), if_neg (by rw [decide_eq_false c]; exact Bool.noConfusion), Nat.zero_add, Nat.add_zero]
theorem count_ge {α : Type} {n : Nat} (f : α → Nat) (e : Nat) {l : List α} (h : ∀ x ∈ l, f x < n) : (l.countP fun x => decide (e ≤ f x)) = sumR n fun t => if e ≤ t then l.countP fun x => decide (f x = t) else 0 := by
  have := sum_by f (fun t => if e ≤ t then 1 else 0) h
  rw [← sumR_congr (f := fun t => (l.countP fun x => decide (f x = t)) * (if e ≤ t then 1 else 0)) fun t _ => by
    split <;> omega, ← this]
  clear this h
  induction l with
  | nil => rfl
  | cons x l ih =>
    rw [List.countP_cons, List.map_cons, List.sum_cons, ih]
    by_cases c : e ≤ f x
    · rw [if_pos (decide_eq_true c), if_pos c, Nat.add_comm]
    · rw [if_neg (by rw [decide_eq_false c]; exact Bool.noConfusion), if_neg c, Nat.zero_add, Nat.add_zero]
/-! ### the program's lists, place by place -/
theorem pbIn_get {ps os : List Nat} {a : Nat} {j : List Nat} (k : Nat) : ∀ m, a + m ≤ j.length → (pbIn ps os a j m).getD k 0 = j.getD k 0 + (if a ≤ k ∧ k < a + m then trm ps os a (k - a) else 0)
  | 0, _ => by
    rw [if_neg (by omega)]
    rfl
  | m + 1, h => by
    rw [pbIn_succ, getD_set, pbIn_len]
    by_cases c : a + m = k
    · rw [if_pos ⟨c, by omega⟩, if_pos (by omega), pbIn_get (a + m) m (by omega), if_neg (by omega), Nat.add_zero]
      rw [← c, Nat.add_sub_cancel_left]
    · rw [if_neg (fun z => c z.1), pbIn_get k m (by omega)]
      congr 1
      by_cases d : a ≤ k ∧ k < a + m
      · rw [if_pos d, if_pos (by omega)]
      · rw [if_neg d, if_neg (by omega)]
theorem pbUp_get {ps os : List Nat} (k : Nat) : ∀ m, m ≤ ps.length → (pbUp ps os m).getD k 0 = sumR m fun t => if t ≤ k ∧ k < t + os.length then trm ps os t (k - t) else 0
  | 0, _ => by
    show (List.replicate _ 0).getD k 0 = 0
    rw [List.getD_eq_getElem?_getD, List.getElem?_replicate]
    split <;> rfl
  | m + 1, h => by
    rw [pbUp_succ, pbIn_get k os.length (by rw [pbUp_len]; omega), pbUp_get k m (by omega), sumR_succ]
theorem pb_get (ps os : List Nat) (k : Nat) : (pb ps os).getD k 0 = sumR ps.length fun t => if t ≤ k then trm ps os t (k - t) else 0 := by
  unfold pb
  rw [pbUp_get k ps.length (Nat.le_refl _)]
  refine sumR_congr fun t _ => ?_
  by_cases h : t ≤ k
  · rw [if_pos h]
    by_cases h2 : k < t + os.length
    · rw [if_pos ⟨h, h2⟩]
    · rw [if_neg (fun z => h2 z.2)]
      unfold trm
      rw [List.drop_of_length_le (by omega)]
      simp
  · rw [if_neg h, if_neg (fun z => h z.1)]
/-- .. with those of the other edges that come after -/
def trmA (ps os : List Nat) (a e : Nat) : Nat := ps.getD a 0 * (os.take e).sum * (chs (a + e) e * chs (ps.length - 1 - a + (os.length - e)) (os.length - e))
theorem getD_rev {l : List Nat} {i : Nat} (h : i < l.length) : l.reverse.getD i 0 = l.getD (l.length - 1 - i) 0 := by
  rw [List.getD_eq_getElem?_getD, List.getD_eq_getElem?_getD, List.getElem?_reverse h]
theorem pa_get {ps os : List Nat} {k : Nat} (hk : k < ps.length + os.length) : (pa ps os).getD k 0 = sumR ps.length fun t => if t ≤ k ∧ k - t ≤ os.length then trmA ps os t (k - t) else 0 := by
  have e : (pa ps os).getD k 0 = (pb ps.reverse os.reverse).getD (ps.length + os.length - 1 - k) 0 := by
    unfold pa
    have l : (pb ps.reverse os.reverse).length = ps.length + os.length := by rw [pb_len, List.length_reverse, List.length_reverse]
    rw [getD_rev (by rw [l]; exact hk), l]
  rw [e, pb_get, List.length_reverse, sumR_rev]
  refine sumR_congr fun t ht => ?_
  have hl : ps.length - 1 - (ps.length - 1 - t) = t := by omega
  by_cases c : t ≤ k ∧ k - t ≤ os.length
  · rw [if_pos c, if_pos (by omega)]
    unfold trm trmA
    have e2 : ps.length + os.length - 1 - k - (ps.length - 1 - t) = os.length - (k - t) := by omega
    rw [e2, getD_rev (by omega), hl, List.length_reverse, List.length_reverse]
    have e3 : ps.length - 1 - (ps.length - 1 - t) = t := hl
    rw [e3, show os.length - (os.length - (k - t)) = k - t by omega]
    congr 1
    · congr 1
      rw [List.drop_reverse, List.sum_reverse]
      congr 2
      omega
    · rw [Nat.mul_comm]
  · rw [if_neg c]
    split
    · rename_i d
      unfold trm
      have : os.length ≤ ps.length + os.length - 1 - k - (ps.length - 1 - t) := by omega
      rw [List.drop_of_length_le (by rw [List.length_reverse]; exact this)]
      simp
    · rfl
/-! ### shuffles -/
section
variable {α : Type}
def shf : List α → List α → List (List α)
  | [], b => [b]
  | x :: a, [] => [x :: a]
  | x :: a, y :: b => (shf a (y :: b)).map (x :: ·) ++ (shf (x :: a) b).map (y :: ·)
termination_by a b => a.length + b.length
theorem shf_nil (b : List α) : shf [] b = [b] := by rw [shf]
theorem shf_nil2 (a : List α) : shf a [] = [a] := by cases a <;> rw [shf]
theorem shf_cons (x y : α) (a b : List α) : shf (x :: a) (y :: b) = (shf a (y :: b)).map (x :: ·) ++ (shf (x :: a) b).map (y :: ·) := by rw [shf]
theorem shf_len : ∀ (s : Nat) (a b : List α), a.length + b.length = s → (shf a b).length = chs (a.length + b.length) b.length
  | _, [], b, _ => by
    rw [shf_nil, List.length_nil, Nat.zero_add, chs_self]
    rfl
  | _, x :: a, [], _ => by
    rw [shf_nil2, List.length_nil, chs_zero]
    rfl
  | 0, x :: a, y :: b, h => by simp at h
  | s + 1, x :: a, y :: b, h => by
    have h : (a.length + 1) + (b.length + 1) = s + 1 := h
    rw [shf_cons, List.length_append, List.length_map, List.length_map, shf_len s a (y :: b) (by rw [List.length_cons]; omega), shf_len s (x :: a) b (by rw [List.length_cons]; omega)]
    rw [List.length_cons, List.length_cons, show a.length + 1 + (b.length + 1) = (a.length + b.length + 1) + 1 by omega, show a.length + (b.length + 1) = a.length + b.length + 1 by omega, show a.length + 1 + b.length = a.length + b.length + 1 by omega]
    show _ = chs (a.length + b.length + 1) b.length + chs (a.length + b.length + 1) (b.length + 1)
    rw [Nat.add_comm]
/-- a shuffle of a list with x in it: a shuffle ahead of x, one behind it -/
def spl (a1 : List α) (x : α) (a2 b : List α) : List (List α) := (List.range (b.length + 1)).flatMap fun e => (shf a1 (b.take e)).flatMap fun o1 => (shf a2 (b.drop e)).map fun o2 => o1 ++ x :: o2
theorem perm_interleave {β : Type} {f g : Nat → List β} : ∀ n, ((List.range n).flatMap fun e => f e ++ g e).Perm ((List.range n).flatMap f ++ (List.range n).flatMap g)
  | 0 => .nil
  | n + 1 => by
    rw [List.range_succ, List.flatMap_append, List.flatMap_append, List.flatMap_append, List.flatMap_singleton, List.flatMap_singleton, List.flatMap_singleton]
    refine ((perm_interleave n).append_right _).trans ?_
    rw [List.append_assoc, List.append_assoc]
    refine List.Perm.append_left _ ?_
    rw [← List.append_assoc, ← List.append_assoc]
    exact List.Perm.append_right _ List.perm_append_comm
theorem spl_perm : ∀ (s : Nat) (a1 : List α) (x : α) (a2 b : List α), a1.length + b.length = s → (shf (a1 ++ x :: a2) b).Perm (spl a1 x a2 b)
  | _, [], x, a2, [], _ => by
    rw [List.nil_append, shf_nil2]
    unfold spl
    rw [List.length_nil, show List.range (0 + 1) = [0] from rfl, List.flatMap_singleton, List.take_zero, List.drop_zero, shf_nil, List.flatMap_singleton, shf_nil2]
    exact .refl _
  | 0, [], x, a2, y :: b, h => by simp at h
  | s + 1, [], x, a2, y :: b, h => by
    have h : 0 + (b.length + 1) = s + 1 := h
    rw [List.nil_append, shf_cons]
    unfold spl
    rw [List.range_succ_eq_map, List.flatMap_cons, List.take_zero, List.drop_zero, shf_nil, List.flatMap_singleton]
    refine List.Perm.append (.refl _) ?_
    rw [List.flatMap_map]
    have ih := spl_perm s [] x a2 b (by rw [List.length_nil]; omega)
    refine (ih.map _).trans ?_
    unfold spl
    rw [List.map_flatMap]
    refine .of_eq ?_
    congr 1
    funext e
    rw [shf_nil, List.flatMap_singleton, List.take_succ_cons, List.drop_succ_cons, shf_nil, List.flatMap_singleton, List.map_map]
    rfl
  | s, z :: a1, x, a2, [], _ => by
    rw [shf_nil2]
    unfold spl
    rw [List.length_nil, show List.range (0 + 1) = [0] from rfl, List.flatMap_singleton, List.take_zero, List.drop_zero, shf_nil2 (z :: a1), List.flatMap_singleton, shf_nil2 a2]
    exact .refl _
  | 0, z :: a1, x, a2, y :: b, h => by simp at h
  | s + 1, z :: a1, x, a2, y :: b, h => by
    have h : (a1.length + 1) + (b.length + 1) = s + 1 := h
    rw [List.cons_append, shf_cons]
    have i1 := spl_perm s a1 x a2 (y :: b) (by rw [List.length_cons]; omega)
    have i2 := spl_perm s (z :: a1) x a2 b (by rw [List.length_cons]; omega)
    refine (List.Perm.append (i1.map _) (i2.map _)).trans ?_
    unfold spl
    rw [List.map_flatMap, List.map_flatMap]
    have up : ∀ (F : Nat → List (List α)), (List.range ((y :: b).length + 1)).flatMap F = F 0 ++ (List.range (b.length + 1)).flatMap fun e => F (e + 1) := fun F => by
      rw [List.length_cons, List.range_succ_eq_map, List.flatMap_cons, List.flatMap_map]
    rw [up, up]
    have first : ((shf a1 ((y :: b).take 0)).flatMap fun o1 => (shf a2 ((y :: b).drop 0)).map fun o2 => o1 ++ x :: o2).map (z :: ·) = (shf (z :: a1) ((y :: b).take 0)).flatMap fun o1 => (shf a2 ((y :: b).drop 0)).map fun o2 => o1 ++ x :: o2 := by
      rw [List.take_zero, shf_nil2, shf_nil2, List.flatMap_singleton, List.flatMap_singleton, List.map_map]
      rfl
    rw [first, List.append_assoc]
    refine List.Perm.append_left _ ?_
    have mid : (fun e => (shf (z :: a1) ((y :: b).take (e + 1))).flatMap fun o1 => (shf a2 ((y :: b).drop (e + 1))).map fun o2 => o1 ++ x :: o2) = fun e => ((shf a1 ((y :: b).take (e + 1))).flatMap fun o1 => (shf a2 ((y :: b).drop (e + 1))).map fun o2 => o1 ++ x :: o2).map (z :: ·) ++ ((shf (z :: a1) (b.take e)).flatMap fun o1 => (shf a2 (b.drop e)).map fun o2 => o1 ++ x :: o2).map (y :: ·) := by
      funext e
      rw [List.take_succ_cons, List.drop_succ_cons, shf_cons, List.flatMap_append, List.flatMap_map, List.flatMap_map, List.map_flatMap, List.map_flatMap]
      congr 1
      · congr 1
        funext o1
        rw [List.map_map]
        rfl
      · congr 1
        funext o1
        rw [List.map_map]
        rfl
    rw [mid]
    exact (perm_interleave (b.length + 1)).symm
end
end Os
/-! orders of two sets of edges merged: how many have an edge at a place -/
namespace Os
section
variable {α : Type}
theorem shf_perm : ∀ (s : Nat) (a b o : List α), a.length + b.length = s → o ∈ shf a b → o.Perm (a ++ b)
  | _, [], b, o, _, h => by
    rw [shf_nil] at h
    rw [List.mem_singleton.mp h]
    exact .refl _
  | _, x :: a, [], o, _, h => by
    rw [shf_nil2] at h
    rw [List.mem_singleton.mp h, List.append_nil]
  | 0, x :: a, y :: b, o, e, _ => by simp at e
  | s + 1, x :: a, y :: b, o, e, h => by
    have e : (a.length + 1) + (b.length + 1) = s + 1 := e
    rw [shf_cons] at h
    rcases List.mem_append.mp h with h | h
    · obtain ⟨o', h', rfl⟩ := List.mem_map.mp h
      exact (shf_perm s a (y :: b) o' (by rw [List.length_cons]; omega) h').cons x
    · obtain ⟨o', h', rfl⟩ := List.mem_map.mp h
      exact ((shf_perm s (x :: a) b o' (by rw [List.length_cons]; omega) h').cons y).trans List.perm_middle.symm
theorem shf_left (z : α) : ∀ {a b o : List α}, o ∈ shf a b → z :: o ∈ shf (z :: a) b
  | a, [], o, h => by
    rw [shf_nil2] at h ⊢
    rw [List.mem_singleton.mp h]
    exact List.mem_singleton.mpr rfl
  | a, y :: b, o, h => by
    rw [shf_cons]
    exact List.mem_append_left _ (List.mem_map.mpr ⟨o, h, rfl⟩)
theorem shf_right (z : α) : ∀ {a b o : List α}, o ∈ shf a b → z :: o ∈ shf a (z :: b)
  | [], b, o, h => by
    rw [shf_nil] at h ⊢
    rw [List.mem_singleton.mp h]
    exact List.mem_singleton.mpr rfl
  | x :: a, b, o, h => by
    rw [shf_cons]
    exact List.mem_append_right _ (List.mem_map.mpr ⟨o, h, rfl⟩)
theorem shf_parts {c : α → Bool} : ∀ (s : Nat) (a b o : List α), a.length + b.length = s → (∀ z ∈ a, c z = true) → (∀ z ∈ b, c z = false) → o ∈ shf a b → o.filter c = a ∧ (o.filter fun z => !c z) = b
  | _, [], b, o, _, _, hb, h => by
    rw [shf_nil] at h
    rw [List.mem_singleton.mp h]
    exact ⟨List.filter_eq_nil_iff.mpr fun z hz => by rw [hb z hz]; exact Bool.noConfusion, List.filter_eq_self.mpr fun z hz => by rw [hb z hz]; rfl⟩
  | _, x :: a, [], o, _, ha, _, h => by
    rw [shf_nil2] at h
    rw [List.mem_singleton.mp h]
    exact ⟨List.filter_eq_self.mpr fun z hz => ha z hz, List.filter_eq_nil_iff.mpr fun z hz => by rw [ha z hz]; exact Bool.noConfusion⟩
  | 0, x :: a, y :: b, o, e, _, _, _ => by simp at e
  | s + 1, x :: a, y :: b, o, e, ha, hb, h => by
    have e : (a.length + 1) + (b.length + 1) = s + 1 := e
    have hx := ha x List.mem_cons_self
    have hy := hb y List.mem_cons_self
    rw [shf_cons] at h
    rcases List.mem_append.mp h with h | h
    · obtain ⟨o', h', rfl⟩ := List.mem_map.mp h
      obtain ⟨i1, i2⟩ := shf_parts s a (y :: b) o' (by rw [List.length_cons]; omega) (fun z hz => ha z (List.mem_cons_of_mem _ hz)) hb h'
      rw [List.filter_cons, List.filter_cons, if_pos hx, if_neg (by rw [hx]; exact Bool.noConfusion), i1, i2]
      exact ⟨rfl, rfl⟩
    · obtain ⟨o', h', rfl⟩ := List.mem_map.mp h
      obtain ⟨i1, i2⟩ := shf_parts s (x :: a) b o' (by rw [List.length_cons]; omega) ha (fun z hz => hb z (List.mem_cons_of_mem _ hz)) h'
      rw [List.filter_cons, List.filter_cons, if_neg (by rw [hy]; exact Bool.noConfusion), if_pos (by rw [hy]; rfl), i1, i2]
      exact ⟨rfl, rfl⟩
theorem shf_of (c : α → Bool) : ∀ o : List α, o ∈ shf (o.filter c) (o.filter fun z => !c z)
  | [] => by
    rw [List.filter_nil, List.filter_nil, shf_nil]
    exact List.mem_singleton.mpr rfl
  | z :: o => by
    rw [List.filter_cons, List.filter_cons]
    cases h : c z with
    | true => exact shf_left z (shf_of c o)
    | false => exact shf_right z (shf_of c o)
theorem shf_nodup {c : α → Bool} : ∀ (s : Nat) (a b : List α), a.length + b.length = s → (∀ z ∈ a, c z = true) → (∀ z ∈ b, c z = false) → (shf a b).Nodup
  | _, [], b, _, _, _ => by
    rw [shf_nil]
    exact List.pairwise_singleton _ _
  | _, x :: a, [], _, _, _ => by
    rw [shf_nil2]
    exact List.pairwise_singleton _ _
  | 0, x :: a, y :: b, e, _, _ => by simp at e
  | s + 1, x :: a, y :: b, e, ha, hb => by
    have e : (a.length + 1) + (b.length + 1) = s + 1 := e
    have hx := ha x List.mem_cons_self
    have hy := hb y List.mem_cons_self
    rw [shf_cons]
    refine List.nodup_append.mpr ⟨?_, ?_, fun p hp q hq z => ?_⟩
    · exact List.Pairwise.map (x :: ·) (R := (· ≠ ·)) (S := (· ≠ ·)) (fun a b ne e => ne (by injection e)) (shf_nodup s a (y :: b) (by rw [List.length_cons]; omega) (fun z hz => ha z (List.mem_cons_of_mem _ hz)) hb)
    · exact List.Pairwise.map (y :: ·) (R := (· ≠ ·)) (S := (· ≠ ·)) (fun a b ne e => ne (by injection e)) (shf_nodup s (x :: a) b (by rw [List.length_cons]; omega) ha (fun z hz => hb z (List.mem_cons_of_mem _ hz)))
    · obtain ⟨_, _, rfl⟩ := List.mem_map.mp hp
      obtain ⟨_, _, rfl⟩ := List.mem_map.mp hq
      injection z with z _
      rw [z, hy] at hx
      cases hx
theorem countP_const {p : α → Bool} {c : Bool} : ∀ {l : List α}, (∀ x ∈ l, p x = c) → l.countP p = if c = true then l.length else 0
  | [], _ => by
    rw [List.countP_nil]
    split <;> rfl
  | x :: l, h => by
    rw [List.countP_cons, countP_const fun y hy => h y (List.mem_cons_of_mem _ hy), h x List.mem_cons_self]
    cases c <;> rfl
theorem sum_if {p : α → Bool} {C : Nat} : ∀ {l : List α}, (l.map fun x => if p x = true then C else 0).sum = l.countP p * C
  | [] => by
    rw [List.countP_nil, Nat.zero_mul]
    rfl
  | x :: l => by
    rw [List.map_cons, List.sum_cons, sum_if, List.countP_cons]
    cases p x with
    | true =>
      rw [if_pos rfl, if_pos rfl, Nat.add_mul, Nat.one_mul, Nat.add_comm]
    | false =>
      rw [if_neg Bool.noConfusion, if_neg Bool.noConfusion, Nat.zero_add, Nat.add_zero]
variable [DecidableEq α]
theorem sub_xy {x y : α} {o1 o2 : List α} (h1 : x ∉ o1) (h2 : x ∉ o2) : [x, y].Sublist (o1 ++ x :: o2) ↔ y ∈ o2 := by
  constructor
  · intro h
    obtain ⟨l1, l2, e, s1, s2⟩ := List.sublist_append_iff.mp h
    cases l1 with
    | nil =>
      rw [show l2 = [x, y] from e.symm] at s2
      exact List.singleton_sublist.mp (List.cons_sublist_cons.mp s2)
    | cons z l1 =>
      injection e with e _
      exact (h1 (e ▸ s1.subset List.mem_cons_self)).elim
  · intro h
    exact (List.Sublist.cons₂ x (List.singleton_sublist.mpr h)).trans (List.sublist_append_right _ _)
theorem sub_yx {x y : α} {o1 o2 : List α} (h1 : x ∉ o1) (h2 : x ∉ o2) (ne : y ≠ x) : [y, x].Sublist (o1 ++ x :: o2) ↔ y ∈ o1 := by
  constructor
  · intro h
    obtain ⟨l1, l2, e, s1, s2⟩ := List.sublist_append_iff.mp h
    cases l1 with
    | nil =>
      rw [show l2 = [y, x] from e.symm] at s2
      cases s2 with
      | cons _ s => exact (h2 (s.subset (List.mem_cons_of_mem _ List.mem_cons_self))).elim
      | cons_cons _ s => exact (ne rfl).elim
    | cons z l1 =>
      injection e with e _
      exact e ▸ s1.subset List.mem_cons_self
  · intro h
    exact List.Sublist.append (List.singleton_sublist.mpr h) (List.singleton_sublist.mpr List.mem_cons_self)
theorem idx_mid {x : α} {o1 o2 : List α} (h1 : x ∉ o1) : (o1 ++ x :: o2).idxOf x = o1.length := by
  rw [List.idxOf_append, if_neg h1, List.idxOf_cons_self]
  omega
/-- what is counted in one shuffle -/
def gB (k n m t j : Nat) : Nat := if (decide (t ≤ k) && decide (k - t ≤ j)) = true then chs k (k - t) * chs (n - 1 - t + (m - (k - t))) (m - (k - t)) else 0
def gA (k n m t j : Nat) : Nat := if (decide (t ≤ k ∧ k - t ≤ m) && decide (j < k - t)) = true then chs k (k - t) * chs (n - 1 - t + (m - (k - t))) (m - (k - t)) else 0
section
variable {a1 a2 b : List α} {x y : α} {c : α → Bool} (nd : (a1 ++ x :: a2).Nodup) (nb : b.Nodup) (ca : ∀ z ∈ a1 ++ x :: a2, c z = true) (cb : ∀ z ∈ b, c z = false) (hy : y ∈ b)
include nd nb ca cb hy
theorem count_gen (first : Bool) (k : Nat) : (shf (a1 ++ x :: a2) b).countP (fun o => decide (o.idxOf x = k) && decide ((if first then [x, y] else [y, x]).Sublist o)) =
    sumR (b.length + 1) fun e => if (decide (a1.length + e = k) && (if first then decide (e ≤ b.idxOf y) else decide (b.idxOf y < e))) = true then chs (a1.length + e) e * chs (a2.length + (b.length - e)) (b.length - e) else 0 := by
  rw [(spl_perm _ a1 x a2 b rfl).countP_eq]
  unfold spl sumR
  rw [List.countP_flatMap]
  congr 1
  refine List.map_congr_left fun e he => ?_
  have el : e ≤ b.length := by have := List.mem_range.mp he; omega
  have xb : x ∉ b := fun z => by
    have := ca x (by simp)
    rw [cb x z] at this
    cases this
  obtain ⟨n1, n2, n3⟩ := List.nodup_append.mp nd
  have x1 : x ∉ a1 := fun z => n3 x z x List.mem_cons_self rfl
  have x2 : x ∉ a2 := (List.nodup_cons.mp n2).1
  have ne : y ≠ x := fun z => xb (z ▸ hy)
  have ya1 : y ∉ a1 := fun z => by
    have := ca y (List.mem_append_left _ z)
    rw [cb y hy] at this
    cases this
  have ya2 : y ∉ a2 := fun z => by
    have := ca y (List.mem_append_right _ (List.mem_cons_of_mem _ z))
    rw [cb y hy] at this
    cases this
  have bl := List.idxOf_lt_length_of_mem hy
  have yget : b[b.idxOf y]? = some y := by
    rw [List.getElem?_eq_getElem bl, List.getElem_idxOf]
  have intake : y ∈ b.take e ↔ b.idxOf y < e := by
    constructor
    · intro h
      obtain ⟨i, hi⟩ := List.mem_iff_getElem?.mp h
      have il := (List.getElem?_eq_some_iff.mp hi).1
      rw [List.length_take] at il
      rw [List.getElem?_take_of_lt (by omega)] at hi
      have := (List.getElem?_inj bl nb).mp (yget.trans hi.symm)
      omega
    · intro h
      exact List.mem_of_getElem? (i := b.idxOf y) (by rw [List.getElem?_take_of_lt h]; exact yget)
  have indrop : y ∈ b.drop e ↔ e ≤ b.idxOf y := by
    constructor
    · intro h
      refine Nat.le_of_not_lt fun z => ?_
      have h2 := intake.mpr z
      have nb2 := nb
      rw [← List.take_append_drop e b] at nb2
      exact (List.nodup_append.mp nb2).2.2 y h2 y h rfl
    · intro h
      refine List.mem_of_getElem? (i := b.idxOf y - e) ?_
      rw [List.getElem?_drop, show e + (b.idxOf y - e) = b.idxOf y by omega]
      exact yget
  have all : ∀ o ∈ ((shf a1 (b.take e)).flatMap fun o1 => (shf a2 (b.drop e)).map fun o2 => o1 ++ x :: o2), (decide (o.idxOf x = k) && decide ((if first then [x, y] else [y, x]).Sublist o)) = (decide (a1.length + e = k) && (if first then decide (e ≤ b.idxOf y) else decide (b.idxOf y < e))) := fun o ho => by
    obtain ⟨o1, h1, ho⟩ := List.mem_flatMap.mp ho
    obtain ⟨o2, h2, rfl⟩ := List.mem_map.mp ho
    have p1 := shf_perm _ _ _ _ rfl h1
    have p2 := shf_perm _ _ _ _ rfl h2
    have m1 : x ∉ o1 := fun z => by
      rcases List.mem_append.mp (p1.mem_iff.mp z) with z | z
      · exact x1 z
      · exact xb (List.mem_of_mem_take z)
    have m2 : x ∉ o2 := fun z => by
      rcases List.mem_append.mp (p2.mem_iff.mp z) with z | z
      · exact x2 z
      · exact xb (List.mem_of_mem_drop z)
    rw [idx_mid m1, p1.length_eq, List.length_append, List.length_take, Nat.min_eq_left el]
    congr 1
    cases first with
    | true =>
      rw [if_pos rfl, if_pos rfl]
      refine decide_eq_decide.mpr ((sub_xy m1 m2).trans ?_)
      rw [p2.mem_iff, List.mem_append, ← indrop]
      exact ⟨fun h => h.elim (fun h => absurd h ya2) id, .inr⟩
    | false =>
      rw [if_neg Bool.noConfusion, if_neg Bool.noConfusion]
      refine decide_eq_decide.mpr ((sub_yx m1 m2 ne).trans ?_)
      rw [p1.mem_iff, List.mem_append, ← intake]
      exact ⟨fun h => h.elim (fun h => absurd h ya1) id, .inr⟩
  show List.countP _ _ = _
  rw [countP_const all, flat_sum (m := (shf a2 (b.drop e)).length) fun o1 _ => List.length_map .., shf_len _ _ _ rfl, shf_len _ _ _ rfl, List.length_take, List.length_drop, Nat.min_eq_left el]
theorem count_before (k : Nat) : (shf (a1 ++ x :: a2) b).countP (fun o => decide (o.idxOf x = k) && decide ([x, y].Sublist o)) = gB k (a1 ++ x :: a2).length b.length a1.length (b.idxOf y) := by
  have h := count_gen nd nb ca cb hy true k
  rw [show (fun o : List α => decide (o.idxOf x = k) && decide ([x, y].Sublist o)) = fun o => decide (o.idxOf x = k) && decide ((if true then [x, y] else [y, x]).Sublist o) from rfl, h]
  have bl := List.idxOf_lt_length_of_mem hy
  have al : (a1 ++ x :: a2).length - 1 - a1.length = a2.length := by
    rw [List.length_append, List.length_cons]
    omega
  have one : a1.length ≤ k → k - a1.length < b.length + 1 → chs k (k - a1.length) * chs (a2.length + (b.length - (k - a1.length))) (b.length - (k - a1.length)) = sumR (b.length + 1) fun i => if i = k - a1.length then chs (a1.length + i) i * chs (a2.length + (b.length - i)) (b.length - i) else 0 := fun l1 l2 => by
    rw [sumR_one (n := b.length + 1) (k := k - a1.length) (fun e => chs (a1.length + e) e * chs (a2.length + (b.length - e)) (b.length - e)) l2, show a1.length + (k - a1.length) = k by omega]
  unfold gB
  rw [al]
  by_cases c1 : a1.length ≤ k ∧ k - a1.length ≤ b.idxOf y
  · rw [if_pos (by rw [decide_eq_true c1.1, decide_eq_true c1.2]; rfl), show chs k (k - a1.length) * chs (a2.length + (b.length - (k - a1.length))) (b.length - (k - a1.length)) = _ from one (by omega) (by omega)]
    refine sumR_congr fun e _ => ?_
    by_cases d : e = k - a1.length
    · rw [if_pos d, if_pos (by rw [decide_eq_true (by omega), if_pos rfl, decide_eq_true (by omega)]; rfl)]
    · rw [if_neg d, if_neg (by rw [decide_eq_false (by omega)]; exact Bool.noConfusion)]
  · rw [if_neg (by rw [Bool.and_eq_true, decide_eq_true_iff, decide_eq_true_iff]; exact c1)]
    refine sumR_zero fun e _ => if_neg ?_
    rw [Bool.and_eq_true, decide_eq_true_iff, if_pos rfl, decide_eq_true_iff]
    omega
theorem count_after (k : Nat) : (shf (a1 ++ x :: a2) b).countP (fun o => decide (o.idxOf x = k) && decide ([y, x].Sublist o)) = gA k (a1 ++ x :: a2).length b.length a1.length (b.idxOf y) := by
  have h := count_gen nd nb ca cb hy false k
  rw [show (fun o : List α => decide (o.idxOf x = k) && decide ([y, x].Sublist o)) = fun o => decide (o.idxOf x = k) && decide ((if false then [x, y] else [y, x]).Sublist o) from rfl, h]
  have bl := List.idxOf_lt_length_of_mem hy
  have al : (a1 ++ x :: a2).length - 1 - a1.length = a2.length := by
    rw [List.length_append, List.length_cons]
    omega
  have one : a1.length ≤ k → k - a1.length < b.length + 1 → chs k (k - a1.length) * chs (a2.length + (b.length - (k - a1.length))) (b.length - (k - a1.length)) = sumR (b.length + 1) fun i => if i = k - a1.length then chs (a1.length + i) i * chs (a2.length + (b.length - i)) (b.length - i) else 0 := fun l1 l2 => by
    rw [sumR_one (n := b.length + 1) (k := k - a1.length) (fun e => chs (a1.length + e) e * chs (a2.length + (b.length - e)) (b.length - e)) l2, show a1.length + (k - a1.length) = k by omega]
  unfold gA
  rw [al]
  by_cases c1 : (a1.length ≤ k ∧ k - a1.length ≤ b.length) ∧ b.idxOf y < k - a1.length
  · rw [if_pos (by rw [decide_eq_true c1.1, decide_eq_true c1.2]; rfl), show chs k (k - a1.length) * chs (a2.length + (b.length - (k - a1.length))) (b.length - (k - a1.length)) = _ from one (by omega) (by omega)]
    refine sumR_congr fun e _ => ?_
    by_cases d : e = k - a1.length
    · rw [if_pos d, if_pos (by rw [decide_eq_true (by omega), if_neg Bool.noConfusion, decide_eq_true (by omega)]; rfl)]
    · rw [if_neg d, if_neg (by rw [decide_eq_false (by omega)]; exact Bool.noConfusion)]
  · rw [if_neg (by rw [Bool.and_eq_true, decide_eq_true_iff, decide_eq_true_iff]; exact c1)]
    refine sumR_zero fun e he => if_neg ?_
    rw [Bool.and_eq_true, decide_eq_true_iff, if_neg Bool.noConfusion, decide_eq_true_iff]
    omega
end
/-- in how many of these orders x is at each place -/
def plcs (L : List (List α)) (x : α) (n : Nat) : List Nat := (List.range n).map fun k => L.countP fun o => decide (o.idxOf x = k)
theorem plcs_len (L : List (List α)) (x : α) (n : Nat) : (plcs L x n).length = n := by
  unfold plcs
  rw [List.length_map, List.length_range]
theorem plcs_get {L : List (List α)} {x : α} {n k : Nat} (h : k < n) : (plcs L x n).getD k 0 = L.countP fun o => decide (o.idxOf x = k) := by
  unfold plcs
  rw [List.getD_eq_getElem?_getD, List.getElem?_map, List.getElem?_range h]
  rfl
theorem plcs_perm {L M : List (List α)} (h : L.Perm M) (x : α) (n : Nat) : plcs L x n = plcs M x n := List.map_congr_left fun k _ => h.countP_eq _
def mrg (first : Bool) (x y : α) (LA LB : List (List α)) : List (List α) := LA.flatMap fun a => LB.flatMap fun b => (shf a b).filter fun o => decide ((if first then [x, y] else [y, x]).Sublist o)
structure Parts (c : α → Bool) (v : Bool) (x : α) (n : Nat) (L : List (List α)) : Prop where
  nd : ∀ a ∈ L, a.Nodup
  len : ∀ a ∈ L, a.length = n
  mem : ∀ a ∈ L, x ∈ a
  col : ∀ a ∈ L, ∀ z ∈ a, c z = v
theorem list_getD {l m : List Nat} (h : l.length = m.length) (k : ∀ i, i < l.length → l.getD i 0 = m.getD i 0) : l = m := List.ext_getElem h fun i h1 h2 => by
  have := k i h1
  rw [List.getD_eq_getElem?_getD, List.getD_eq_getElem?_getD, List.getElem?_eq_getElem h1, List.getElem?_eq_getElem h2] at this
  exact this
theorem sum_takeR (l : List Nat) (e : Nat) : (l.take e).sum = sumR l.length fun i => if i < e then l.getD i 0 else 0 := by
  induction l generalizing e with
  | nil =>
    rw [List.take_nil]
    rfl
  | cons x l ih =>
    rw [List.length_cons, sumR_head]
    cases e with
    | zero =>
      rw [List.take_zero, if_neg (Nat.lt_irrefl _), sumR_zero fun i _ => if_neg (by omega)]
      rfl
    | succ e =>
      rw [List.take_succ_cons, List.sum_cons, ih, if_pos (Nat.succ_pos _)]
      congr 1
      exact sumR_congr fun i _ => by
        by_cases h : i < e
        · rw [if_pos h, if_pos (by omega)]
          rfl
        · rw [if_neg h, if_neg (by omega)]
theorem count_lt {β : Type} {n : Nat} (f : β → Nat) (e : Nat) {l : List β} (h : ∀ x ∈ l, f x < n) : (l.countP fun x => decide (f x < e)) = sumR n fun t => if t < e then l.countP fun x => decide (f x = t) else 0 := by
  have := sum_by f (fun t => if t < e then 1 else 0) h
  rw [← sumR_congr (f := fun t => (l.countP fun x => decide (f x = t)) * (if t < e then 1 else 0)) fun t _ => by
    split <;> omega, ← this]
  have q := sum_if (p := fun x => decide (f x < e)) (C := 1) (l := l)
  rw [Nat.mul_one] at q
  rw [← q]
  congr 1
  exact List.map_congr_left fun x _ => by
    by_cases c : f x < e
    · rw [if_pos c, if_pos (decide_eq_true c)]
    · rw [if_neg c, if_neg (by rw [decide_eq_false c]; exact Bool.noConfusion)]
theorem split_at {a : List α} {x : α} (nd : a.Nodup) (h : x ∈ a) : ∃ a1 a2, a = a1 ++ x :: a2 ∧ a1.length = a.idxOf x := by
  obtain ⟨a1, a2, rfl⟩ := List.append_of_mem h
  refine ⟨a1, a2, rfl, ?_⟩
  obtain ⟨n1, n2, n3⟩ := List.nodup_append.mp nd
  rw [idx_mid fun z => n3 x z x List.mem_cons_self rfl]
theorem mrg_before {c : α → Bool} {x y : α} {n m : Nat} {LA LB : List (List α)} (A : Parts c true x n LA) (B : Parts c false y m LB) : plcs (mrg true x y LA LB) x (n + m) = pb (plcs LA x n) (plcs LB y m) := by
  refine list_getD (by rw [plcs_len, pb_len, plcs_len, plcs_len]) fun k hk => ?_
  rw [plcs_len] at hk
  rw [plcs_get hk, pb_get, plcs_len]
  have ax : ∀ a ∈ LA, a.idxOf x < n := fun a ha => by
    rw [← A.len a ha]
    exact List.idxOf_lt_length_of_mem (A.mem a ha)
  have bx : ∀ b ∈ LB, b.idxOf y < m := fun b hb => by
    rw [← B.len b hb]
    exact List.idxOf_lt_length_of_mem (B.mem b hb)
  unfold mrg
  obtain ⟨h, hh⟩ : ∃ h : Nat → Nat, ∀ t, h t = if t ≤ k then ((plcs LB y m).drop (k - t)).sum * (chs k (k - t) * chs (n - 1 - t + (m - (k - t))) (m - (k - t))) else 0 := ⟨_, fun t => rfl⟩
  rw [List.countP_flatMap]
  have inner : LA.map (List.countP (fun o => decide (o.idxOf x = k)) ∘ fun a => LB.flatMap fun b => (shf a b).filter fun o => decide ((if true then [x, y] else [y, x]).Sublist o)) = LA.map fun a => h (a.idxOf x) := List.map_congr_left fun a ha => by
    show List.countP _ (LB.flatMap _) = _
    rw [List.countP_flatMap]
    have one : LB.map (List.countP (fun o => decide (o.idxOf x = k)) ∘ fun b => (shf a b).filter fun o => decide ((if true then [x, y] else [y, x]).Sublist o)) = LB.map fun b => gB k n m (a.idxOf x) (b.idxOf y) := List.map_congr_left fun b hb => by
      show List.countP _ (List.filter _ _) = _
      rw [List.countP_filter]
      obtain ⟨a1, a2, e, el⟩ := split_at (A.nd a ha) (A.mem a ha)
      have nd := A.nd a ha
      have ca := A.col a ha
      rw [← el, ← A.len a ha, ← B.len b hb]
      rw [e] at nd ca ⊢
      exact count_before nd (B.nd b hb) ca (B.col b hb) (B.mem b hb) k
    rw [one, hh]
    unfold gB
    by_cases t : a.idxOf x ≤ k
    · rw [if_pos t]
      have : (LB.map fun b => if (decide (a.idxOf x ≤ k) && decide (k - a.idxOf x ≤ b.idxOf y)) = true then chs k (k - a.idxOf x) * chs (n - 1 - a.idxOf x + (m - (k - a.idxOf x))) (m - (k - a.idxOf x)) else 0) = LB.map fun b => if decide (k - a.idxOf x ≤ b.idxOf y) = true then chs k (k - a.idxOf x) * chs (n - 1 - a.idxOf x + (m - (k - a.idxOf x))) (m - (k - a.idxOf x)) else 0 := List.map_congr_left fun b _ => by rw [decide_eq_true t, Bool.true_and]
      rw [this, sum_if (p := fun b : List α => decide (k - a.idxOf x ≤ b.idxOf y)), count_ge (fun b : List α => b.idxOf y) (k - a.idxOf x) bx, sum_drop, plcs_len]
      congr 1
      exact sumR_congr fun i hi => by rw [plcs_get hi]
    · rw [if_neg t]
      have : (LB.map fun b => if (decide (a.idxOf x ≤ k) && decide (k - a.idxOf x ≤ b.idxOf y)) = true then chs k (k - a.idxOf x) * chs (n - 1 - a.idxOf x + (m - (k - a.idxOf x))) (m - (k - a.idxOf x)) else 0) = LB.map fun b => if (fun _ => false) b = true then 0 else 0 := List.map_congr_left fun b _ => by
        rw [decide_eq_false t]
        rfl
      rw [this, sum_if, Nat.mul_zero]
  rw [inner, sum_by (fun a : List α => a.idxOf x) h ax]
  refine sumR_congr fun t ht => ?_
  rw [hh]
  by_cases c1 : t ≤ k
  · rw [if_pos c1, if_pos c1]
    unfold trm
    rw [plcs_get ht, plcs_len, plcs_len, show t + (k - t) = k by omega, Nat.mul_assoc]
  · rw [if_neg c1, if_neg c1, Nat.mul_zero]
theorem mrg_after {c : α → Bool} {x y : α} {n m : Nat} {LA LB : List (List α)} (A : Parts c true x n LA) (B : Parts c false y m LB) : plcs (mrg false x y LA LB) x (n + m) = pa (plcs LA x n) (plcs LB y m) := by
  refine list_getD (by rw [plcs_len, pa_len, plcs_len, plcs_len]) fun k hk => ?_
  rw [plcs_len] at hk
  rw [plcs_get hk, pa_get (by rw [plcs_len, plcs_len]; exact hk), plcs_len, plcs_len]
  have ax : ∀ a ∈ LA, a.idxOf x < n := fun a ha => by
    rw [← A.len a ha]
    exact List.idxOf_lt_length_of_mem (A.mem a ha)
  have bx : ∀ b ∈ LB, b.idxOf y < m := fun b hb => by
    rw [← B.len b hb]
    exact List.idxOf_lt_length_of_mem (B.mem b hb)
  unfold mrg
  obtain ⟨h, hh⟩ : ∃ h : Nat → Nat, ∀ t, h t = if t ≤ k ∧ k - t ≤ m then ((plcs LB y m).take (k - t)).sum * (chs k (k - t) * chs (n - 1 - t + (m - (k - t))) (m - (k - t))) else 0 := ⟨_, fun t => rfl⟩
  rw [List.countP_flatMap]
  have inner : LA.map (List.countP (fun o => decide (o.idxOf x = k)) ∘ fun a => LB.flatMap fun b => (shf a b).filter fun o => decide ((if false then [x, y] else [y, x]).Sublist o)) = LA.map fun a => h (a.idxOf x) := List.map_congr_left fun a ha => by
    show List.countP _ (LB.flatMap _) = _
    rw [List.countP_flatMap]
    have one : LB.map (List.countP (fun o => decide (o.idxOf x = k)) ∘ fun b => (shf a b).filter fun o => decide ((if false then [x, y] else [y, x]).Sublist o)) = LB.map fun b => gA k n m (a.idxOf x) (b.idxOf y) := List.map_congr_left fun b hb => by
      show List.countP _ (List.filter _ _) = _
      rw [List.countP_filter]
      obtain ⟨a1, a2, e, el⟩ := split_at (A.nd a ha) (A.mem a ha)
      have nd := A.nd a ha
      have ca := A.col a ha
      rw [← el, ← A.len a ha, ← B.len b hb]
      rw [e] at nd ca ⊢
      exact count_after nd (B.nd b hb) ca (B.col b hb) (B.mem b hb) k
    rw [one, hh]
    unfold gA
    by_cases t : a.idxOf x ≤ k ∧ k - a.idxOf x ≤ m
    · rw [if_pos t]
      have : (LB.map fun b => if (decide (a.idxOf x ≤ k ∧ k - a.idxOf x ≤ m) && decide (b.idxOf y < k - a.idxOf x)) = true then chs k (k - a.idxOf x) * chs (n - 1 - a.idxOf x + (m - (k - a.idxOf x))) (m - (k - a.idxOf x)) else 0) = LB.map fun b => if decide (b.idxOf y < k - a.idxOf x) = true then chs k (k - a.idxOf x) * chs (n - 1 - a.idxOf x + (m - (k - a.idxOf x))) (m - (k - a.idxOf x)) else 0 := List.map_congr_left fun b _ => by rw [decide_eq_true t, Bool.true_and]
      rw [this, sum_if (p := fun b : List α => decide (b.idxOf y < k - a.idxOf x)), count_lt (fun b : List α => b.idxOf y) (k - a.idxOf x) bx, sum_takeR, plcs_len]
      congr 1
      exact sumR_congr fun i hi => by rw [plcs_get hi]
    · rw [if_neg t]
      have : (LB.map fun b => if (decide (a.idxOf x ≤ k ∧ k - a.idxOf x ≤ m) && decide (b.idxOf y < k - a.idxOf x)) = true then chs k (k - a.idxOf x) * chs (n - 1 - a.idxOf x + (m - (k - a.idxOf x))) (m - (k - a.idxOf x)) else 0) = LB.map fun b => if (fun _ => false) b = true then 0 else 0 := List.map_congr_left fun b _ => by
        rw [decide_eq_false t]
        rfl
      rw [this, sum_if, Nat.mul_zero]
  rw [inner, sum_by (fun a : List α => a.idxOf x) h ax]
  refine sumR_congr fun t ht => ?_
  rw [hh]
  by_cases c1 : t ≤ k ∧ k - t ≤ m
  · rw [if_pos c1, if_pos c1]
    unfold trmA
    rw [plcs_get ht, plcs_len, plcs_len, show t + (k - t) = k by omega, Nat.mul_assoc]
  · rw [if_neg c1, if_neg c1, Nat.mul_zero]
end
end Os
/-! orders that keep pairs: the places that the program counts are exact -/
namespace Os
section
variable {α : Type} [DecidableEq α]
def okL (S : List (α × α)) (V o : List α) : Bool := decide (∀ q ∈ S, q.1 ∈ V → q.2 ∈ V → [q.1, q.2].Sublist o)
/-- the orders of V that keep the pairs -/
def leL (S : List (α × α)) (V : List α) : List (List α) := (prms V).filter (okL S V)
theorem leL_mem {S : List (α × α)} {V o : List α} : o ∈ leL S V ↔ o.Perm V ∧ ∀ q ∈ S, q.1 ∈ V → q.2 ∈ V → [q.1, q.2].Sublist o := by
  unfold leL okL
  rw [List.mem_filter, prms_mem, decide_eq_true_iff]
theorem leL_nodup {S : List (α × α)} {V : List α} (nd : V.Nodup) : (leL S V).Nodup := (prms_nodup nd).filter _
theorem leL_perm {S : List (α × α)} {V W : List α} (nd : V.Nodup) (p : V.Perm W) : (leL S V).Perm (leL S W) :=
  (List.perm_ext_iff_of_nodup (leL_nodup nd) (leL_nodup (p.nodup_iff.mp nd))).mpr fun o => by
    rw [leL_mem, leL_mem]
    exact ⟨fun ⟨h, k⟩ => ⟨h.trans p, fun q hq h1 h2 => k q hq (p.mem_iff.mpr h1) (p.mem_iff.mpr h2)⟩, fun ⟨h, k⟩ => ⟨h.trans p.symm, fun q hq h1 h2 => k q hq (p.mem_iff.mp h1) (p.mem_iff.mp h2)⟩⟩
theorem leL_parts {S : List (α × α)} {V : List α} {c : α → Bool} {v : Bool} {x : α} (nd : V.Nodup) (hx : x ∈ V) (hc : ∀ z ∈ V, c z = v) : Parts c v x V.length (leL S V) := by
  refine ⟨fun a ha => ?_, fun a ha => ?_, fun a ha => ?_, fun a ha z hz => ?_⟩ <;> have p := (leL_mem.mp ha).1
  · exact p.nodup_iff.mpr nd
  · exact p.length_eq
  · exact p.mem_iff.mpr hx
  · exact hc z (p.mem_iff.mp hz)
theorem leL_one {S : List (α × α)} {e : α} (h : (e, e) ∉ S) : plcs (leL S [e]) e 1 = [1] := by
  have : leL S [e] = [[e]] := by
    show List.filter _ [[e]] = _
    rw [List.filter_cons, if_pos]
    · rfl
    · refine decide_eq_true fun q hq h1 h2 => ?_
      obtain ⟨q1, q2⟩ := q
      rw [List.mem_singleton] at h1 h2
      have h1 : q1 = e := h1
      have h2 : q2 = e := h2
      rw [h1, h2] at hq
      exact absurd hq h
  rw [this]
  unfold plcs
  rw [show List.range 1 = [0] from rfl, List.map_singleton, List.countP_singleton, if_pos (decide_eq_true List.idxOf_cons_self)]
/-- two parts joined by one pair -/
theorem leL_mrg {S : List (α × α)} {A B : List α} {x y : α} (first : Bool) (nd : (A ++ B).Nodup) (hx : x ∈ A) (hy : y ∈ B) (link : (if first then (x, y) else (y, x)) ∈ S)
    (cross : ∀ r ∈ S, (r.1 ∈ A ∧ r.2 ∈ B) ∨ (r.1 ∈ B ∧ r.2 ∈ A) → r = if first then (x, y) else (y, x)) : (leL S (A ++ B)).Perm (mrg first x y (leL S A) (leL S B)) := by
  obtain ⟨na, nb, nab⟩ := List.nodup_append.mp nd
  have cA : ∀ z ∈ A, decide (z ∈ A) = true := fun z hz => decide_eq_true hz
  have cB : ∀ z ∈ B, decide (z ∈ A) = false := fun z hz => decide_eq_false fun k => nab z k z hz rfl
  have PA := leL_parts (S := S) na hx cA
  have PB := leL_parts (S := S) nb hy cB
  have fA : (A ++ B).filter (fun z => decide (z ∈ A)) = A := by
    rw [List.filter_append, List.filter_eq_self.mpr cA, List.filter_eq_nil_iff.mpr fun z hz => by rw [cB z hz]; exact Bool.noConfusion, List.append_nil]
  have fB : (A ++ B).filter (fun z => !decide (z ∈ A)) = B := by
    rw [List.filter_append, List.filter_eq_nil_iff.mpr fun z hz => by rw [cA z hz]; exact Bool.noConfusion, List.filter_eq_self.mpr fun z hz => by rw [cB z hz]; rfl, List.nil_append]
  have parts : ∀ {a b o : List α}, a ∈ leL S A → b ∈ leL S B → o ∈ shf a b → o.filter (fun z => decide (z ∈ A)) = a ∧ o.filter (fun z => !decide (z ∈ A)) = b := fun {a b o} ha hb ho => shf_parts _ a b o rfl (PA.col a ha) (PB.col b hb) ho
  have mnd : (mrg first x y (leL S A) (leL S B)).Nodup := by
    unfold mrg
    refine nodup_flat (leL_nodup na) (fun a ha => nodup_flat (leL_nodup nb) (fun b hb => (shf_nodup _ a b rfl (PA.col a ha) (PB.col b hb)).filter _) fun b hb b' hb' o h1 h2 => ?_) fun a ha a' ha' o h1 h2 => ?_
    · rw [← (parts ha hb (List.mem_filter.mp h1).1).2, (parts ha hb' (List.mem_filter.mp h2).1).2]
    · obtain ⟨b, hb, h1⟩ := List.mem_flatMap.mp h1
      obtain ⟨b', hb', h2⟩ := List.mem_flatMap.mp h2
      rw [← (parts ha hb (List.mem_filter.mp h1).1).1, (parts ha' hb' (List.mem_filter.mp h2).1).1]
  refine (List.perm_ext_iff_of_nodup (leL_nodup nd) mnd).mpr fun o => ?_
  have lk : ∀ o : List α, [(if first then (x, y) else (y, x)).1, (if first then (x, y) else (y, x)).2] = if first then [x, y] else [y, x] := fun _ => by cases first <;> rfl
  constructor
  · intro h
    obtain ⟨p, k⟩ := leL_mem.mp h
    unfold mrg
    refine List.mem_flatMap.mpr ⟨o.filter fun z => decide (z ∈ A), leL_mem.mpr ⟨?_, fun q hq h1 h2 => ?_⟩, List.mem_flatMap.mpr ⟨o.filter fun z => !decide (z ∈ A), leL_mem.mpr ⟨?_, fun q hq h1 h2 => ?_⟩, List.mem_filter.mpr ⟨shf_of _ o, decide_eq_true ?_⟩⟩⟩
    · have := p.filter fun z => decide (z ∈ A)
      rw [fA] at this
      exact this
    · have := (k q hq (List.mem_append_left _ h1) (List.mem_append_left _ h2)).filter fun z => decide (z ∈ A)
      rw [List.filter_eq_self.mpr fun z hz => ?_] at this
      · exact this
      · rcases List.mem_cons.mp hz with rfl | hz
        · exact cA _ h1
        · rw [List.mem_singleton.mp hz]
          exact cA _ h2
    · have := p.filter fun z => !decide (z ∈ A)
      rw [fB] at this
      exact this
    · have := (k q hq (List.mem_append_right _ h1) (List.mem_append_right _ h2)).filter fun z => !decide (z ∈ A)
      rw [List.filter_eq_self.mpr fun z hz => ?_] at this
      · exact this
      · rcases List.mem_cons.mp hz with rfl | hz
        · rw [cB _ h1]
          rfl
        · rw [List.mem_singleton.mp hz, cB _ h2]
          rfl
    · have := k _ link (by cases first <;> simp [hx, hy]) (by cases first <;> simp [hx, hy])
      rw [lk o] at this
      exact this
  · intro h
    unfold mrg at h
    obtain ⟨a, ha, h⟩ := List.mem_flatMap.mp h
    obtain ⟨b, hb, h⟩ := List.mem_flatMap.mp h
    obtain ⟨ho, hs⟩ := List.mem_filter.mp h
    have hs := of_decide_eq_true hs
    obtain ⟨pa, ka⟩ := leL_mem.mp ha
    obtain ⟨pb, kb⟩ := leL_mem.mp hb
    obtain ⟨ea, eb⟩ := parts ha hb ho
    refine leL_mem.mpr ⟨(shf_perm _ a b o rfl ho).trans (pa.append pb), fun q hq h1 h2 => ?_⟩
    rcases List.mem_append.mp h1 with h1 | h1 <;> rcases List.mem_append.mp h2 with h2 | h2
    · have := ka q hq h1 h2
      rw [← ea] at this
      exact this.trans List.filter_sublist
    · rw [cross q hq (.inl ⟨h1, h2⟩), lk o]
      exact hs
    · rw [cross q hq (.inr ⟨h1, h2⟩), lk o]
      exact hs
    · have := kb q hq h1 h2
      rw [← eb] at this
      exact this.trans List.filter_sublist
end
/-! ### the recursion -/
section
variable {S : List PP} {es : List Pr}
theorem far_on {s : Option Pr} {e z w : Pr} (h : FarP S s e z) (l : Lk S z w) (n1 : ¬ (some z = s ∧ w = e)) (n2 : ¬ (z = e ∧ some w = s)) : FarP S s e w := fun T hT => by
  rw [← h T hT]
  rcases l with l | l
  · exact (hT _ l n1 n2).symm
  · exact hT _ l (fun k => n2 ⟨k.2, k.1⟩) fun k => n1 ⟨k.2, k.1⟩
/-- the side of e: e and the sides of the others -/
theorem far_all {s : Option Pr} {e g : Pr} (h : FarP S s e g) : g = e ∨ ∃ f, Lk S e f ∧ some f ≠ s ∧ FarP S (some e) f g := by
  have key := h (fun z => @decide (z = e ∨ ∃ f, Lk S e f ∧ some f ≠ s ∧ FarP S (some e) f z) (Classical.propDecidable _)) fun r hr n1 n2 => by
    obtain ⟨r1, r2⟩ := r
    have n1 : ¬ (some r1 = s ∧ r2 = e) := n1
    have n2 : ¬ (r1 = e ∧ some r2 = s) := n2
    have iff : (r1 = e ∨ ∃ f, Lk S e f ∧ some f ≠ s ∧ FarP S (some e) f r1) ↔ (r2 = e ∨ ∃ f, Lk S e f ∧ some f ≠ s ∧ FarP S (some e) f r2) := by
      by_cases c1 : r1 = e
      · subst c1
        exact ⟨fun _ => .inr ⟨r2, .inl hr, fun z => n2 ⟨rfl, z⟩, fun _ _ => rfl⟩, fun _ => .inl rfl⟩
      · by_cases c2 : r2 = e
        · subst c2
          exact ⟨fun _ => .inl rfl, fun _ => .inr ⟨r1, .inr hr, fun z => n1 ⟨z, rfl⟩, fun _ _ => rfl⟩⟩
        · constructor
          · rintro (h | ⟨f, l, ns, k⟩)
            · exact absurd h c1
            · exact .inr ⟨f, l, ns, far_on k (.inl hr) (fun z => c1 (Option.some.inj z.1)) fun z => c2 (Option.some.inj z.2)⟩
          · rintro (h | ⟨f, l, ns, k⟩)
            · exact absurd h c2
            · exact .inr ⟨f, l, ns, far_on k (.inr hr) (fun z => c2 (Option.some.inj z.1)) fun z => c1 (Option.some.inj z.2)⟩
    show @decide (r1 = e ∨ ∃ f, Lk S e f ∧ some f ≠ s ∧ FarP S (some e) f r1) (Classical.propDecidable _) = @decide (r2 = e ∨ ∃ f, Lk S e f ∧ some f ≠ s ∧ FarP S (some e) f r2) (Classical.propDecidable _)
    by_cases c : r1 = e ∨ ∃ f, Lk S e f ∧ some f ≠ s ∧ FarP S (some e) f r1
    · rw [@decide_eq_true _ (Classical.propDecidable _) c, @decide_eq_true _ (Classical.propDecidable _) (iff.mp c)]
    · rw [@decide_eq_false _ (Classical.propDecidable _) c, @decide_eq_false _ (Classical.propDecidable _) fun z => c (iff.mpr z)]
  rw [@decide_eq_true (e = e ∨ ∃ f, Lk S e f ∧ some f ≠ s ∧ FarP S (some e) f e) (Classical.propDecidable _) (.inl rfl)] at key
  exact @of_decide_eq_true _ (Classical.propDecidable _) key
theorem nbs_nodup (B : BridgesP S) (nS : S.Nodup) (nes : es.Nodup) (e : Pr) (s : Option Pr) : (e :: S.flatMap (nbs S es e s)).Nodup := by
  refine List.nodup_cons.mpr ⟨fun z => ?_, nodup_flat nS (fun q hq => ?_) fun q hq r hr g hg hg' => ?_⟩
  · obtain ⟨q, hq, hz⟩ := List.mem_flatMap.mp z
    obtain ⟨f, hf, ns, hm⟩ := mem_nbs hz
    exact (far_sub B (lk_of hf hq) ns (mem_far.mp hm).2).2 rfl
  · unfold nbs
    by_cases c1 : q.1 = e ∧ some q.2 ≠ s
    · by_cases c2 : q.2 = e ∧ some q.1 ≠ s
      · have : q = (e, e) := Prod.ext c1.1 c2.1
        rw [this] at hq
        exact (lk_one B hq hq).elim
      · rw [if_neg c2, List.append_nil, if_pos c1]
        exact far_nodup nes _ _
    · rw [if_neg c1, List.nil_append]
      split
      · exact far_nodup nes _ _
      · exact List.nodup_nil
  · obtain ⟨f, hf, ns, hm⟩ := mem_nbs hg
    obtain ⟨f', hf', ns', hm'⟩ := mem_nbs hg'
    have l := lk_of hf hq
    have l' := lk_of hf' hr
    have ff : f = f' := Decidable.byContradiction fun ne => far_dis B l l' ne (mem_far.mp hm).2 (mem_far.mp hm').2
    subst ff
    rcases hf with rfl | rfl <;> rcases hf' with rfl | rfl
    · rfl
    · exact (lk_one B hq hr).elim
    · exact (lk_one B hr hq).elim
    · rfl
theorem far_is (B : BridgesP S) (nS : S.Nodup) (nes : es.Nodup) (inn : ∀ q ∈ S, q.1 ∈ es ∧ q.2 ∈ es) {e : Pr} (he : e ∈ es) (s : Option Pr) : (e :: S.flatMap (nbs S es e s)).Perm (farL S es s e) :=
  (List.perm_ext_iff_of_nodup (nbs_nodup B nS nes e s) (far_nodup nes s e)).mpr fun g => by
    constructor
    · intro hg
      rcases List.mem_cons.mp hg with rfl | hg
      · exact mem_far.mpr ⟨he, fun _ _ => rfl⟩
      · obtain ⟨q, hq, hz⟩ := List.mem_flatMap.mp hg
        obtain ⟨f, hf, ns, hm⟩ := mem_nbs hz
        exact mem_far.mpr ⟨(mem_far.mp hm).1, (far_sub B (lk_of hf hq) ns (mem_far.mp hm).2).1⟩
    · intro hg
      obtain ⟨g1, g2⟩ := mem_far.mp hg
      rcases far_all g2 with rfl | ⟨f, l, ns, k⟩
      · exact List.mem_cons_self
      · have m : g ∈ farL S es (some e) f := mem_far.mpr ⟨g1, k⟩
        refine List.mem_cons_of_mem _ (List.mem_flatMap.mpr ?_)
        rcases l with l | l
        · refine ⟨(e, f), l, ?_⟩
          unfold nbs
          rw [if_pos ⟨rfl, ns⟩]
          exact List.mem_append_left _ m
        · refine ⟨(f, e), l, ?_⟩
          unfold nbs
          rw [if_pos (show ((f, e) : PP).2 = e ∧ some ((f, e) : PP).1 ≠ s from ⟨rfl, ns⟩)]
          exact List.mem_append_right _ m
theorem plc_exact (B : BridgesP S) (nS : S.Nodup) (nes : es.Nodup) (inn : ∀ q ∈ S, q.1 ∈ es ∧ q.2 ∈ es) : ∀ (j : Nat) (e : Pr) (s : Option Pr), e ∈ es → (farL S es s e).length ≤ j → plc S j e s = plcs (leL S (farL S es s e)) e (farL S es s e).length
  | 0, e, s, he, h => by
    have : e ∈ farL S es s e := mem_far.mpr ⟨he, fun _ _ => rfl⟩
    have := List.length_pos_of_mem this
    omega
  | j + 1, e, s, he, h => by
    have ein : e ∈ farL S es s e := mem_far.mpr ⟨he, fun _ _ => rfl⟩
    have less : ∀ f, Lk S e f → some f ≠ s → f ∈ es ∧ (farL S es (some e) f).length ≤ j := fun f l ns => by
      refine ⟨l.elim (fun l => (inn _ l).2) (fun l => (inn _ l).1), ?_⟩
      have := nodup_sub (l := e :: farL S es (some e) f) (m := farL S es s e) (List.nodup_cons.mpr ⟨fun z => (far_sub B l ns (mem_far.mp z).2).2 rfl, far_nodup nes _ _⟩) fun g hg => by
        rcases List.mem_cons.mp hg with rfl | hg
        · exact ein
        · exact mem_far.mpr ⟨(mem_far.mp hg).1, (far_sub B l ns (mem_far.mp hg).2).1⟩
      rw [List.length_cons] at this
      omega
    have ih : ∀ f, Lk S e f → some f ≠ s → plc S j f (some e) = plcs (leL S (farL S es (some e) f)) f (farL S es (some e) f).length := fun f l ns => plc_exact B nS nes inn j f (some e) (less f l ns).1 (less f l ns).2
    have big := nbs_nodup B nS nes e s
    have noloop : ∀ {f : Pr}, (f, f) ∉ S := fun h => lk_one B h h
    have step : ∀ m, m ≤ S.length → (S.take m).foldl (plcStep (fun f => plc S j f (some e)) e s) [1] = plcs (leL S (e :: (S.take m).flatMap (nbs S es e s))) e (e :: (S.take m).flatMap (nbs S es e s)).length := by
      intro m
      induction m with
      | zero => exact fun _ => (leL_one noloop).symm
      | succ m ihl =>
        intro hm
        obtain ⟨q, hqm⟩ : ∃ q, S[m]? = some q := ⟨_, List.getElem?_eq_getElem (by omega)⟩
        have hS2 : S = S.take m ++ (q :: S.drop (m + 1)) := by
          have h1 := (List.take_append_drop m S).symm
          have h2 : S.drop m = q :: S.drop (m + 1) := by
            rw [List.drop_eq_getElem_cons (by omega)]
            congr 1
            exact (List.getElem?_eq_some_iff.mp hqm).2
          rw [← h2]
          exact h1
        have hq : q ∈ S := List.mem_of_getElem? hqm
        have I := ihl (by omega)
        rw [show S.take (m + 1) = S.take m ++ [q] by rw [List.take_add_one, hqm]; rfl]
        generalize S.take m = l at *
        generalize S.drop (m + 1) = r at *
        rw [List.foldl_append, I]
        have nd : ((e :: l.flatMap (nbs S es e s)) ++ nbs S es e s q).Nodup := by
          have h2 := big
          rw [show S.flatMap (nbs S es e s) = (l ++ q :: r).flatMap (nbs S es e s) from congrArg (fun L => L.flatMap (nbs S es e s)) hS2, List.flatMap_append, List.flatMap_cons, ← List.append_assoc, ← List.cons_append, ← List.cons_append] at h2
          exact (List.nodup_append.mp h2).1
        rw [List.flatMap_append, List.flatMap_singleton, ← List.cons_append]
        generalize hV : e :: l.flatMap (nbs S es e s) = V at *
        have eV : e ∈ V := by rw [← hV]; exact List.mem_cons_self
        have eN : nbs S es e s q ⊆ es := fun g hg => by
          obtain ⟨f, _, _, hm⟩ := mem_nbs hg
          exact (mem_far.mp hm).1
        -- a pair across
        have across : ∀ {f : Pr}, Lk S e f → nbs S es e s q = farL S es (some e) f → ∀ r ∈ S, (r.1 ∈ V ∧ r.2 ∈ nbs S es e s q) ∨ (r.1 ∈ nbs S es e s q ∧ r.2 ∈ V) → r = (e, f) ∨ r = (f, e) := fun {f} lf en r hr h => Decidable.byContradiction fun no => by
          have dis : ∀ z ∈ V, z ∉ nbs S es e s q := fun z h1 h2 => (List.nodup_append.mp nd).2.2 z h1 z h2 rfl
          obtain ⟨r1, r2⟩ := r
          rw [en] at h dis
          rcases h with ⟨h1, h2⟩ | ⟨h1, h2⟩
          · have := far_on (mem_far.mp h2).2 (.inr hr) (fun z => no (.inr (Prod.ext z.2 (Option.some.inj z.1)))) fun z => no (.inl (Prod.ext (Option.some.inj z.2) z.1))
            exact dis r1 h1 (mem_far.mpr ⟨(inn _ hr).1, this⟩)
          · have := far_on (mem_far.mp h1).2 (.inl hr) (fun z => no (.inl (Prod.ext (Option.some.inj z.1) z.2))) fun z => no (.inr (Prod.ext z.1 (Option.some.inj z.2)))
            exact dis r2 h2 (mem_far.mpr ⟨(inn _ hr).2, this⟩)
        have g : plcStep (fun f => plc S j f (some e)) e s (plcs (leL S V) e V.length) q = if q.2 = e ∧ some q.1 ≠ s then pa (if q.1 = e ∧ some q.2 ≠ s then pb (plcs (leL S V) e V.length) (plc S j q.2 (some e)) else plcs (leL S V) e V.length) (plc S j q.1 (some e)) else (if q.1 = e ∧ some q.2 ≠ s then pb (plcs (leL S V) e V.length) (plc S j q.2 (some e)) else plcs (leL S V) e V.length) := rfl
        show plcStep (fun f => plc S j f (some e)) e s (plcs (leL S V) e V.length) q = _
        rw [g, List.length_append]
        have cV : ∀ z ∈ V, decide (z ∈ V) = true := fun z hz => decide_eq_true hz
        have cN : ∀ z ∈ nbs S es e s q, decide (z ∈ V) = false := fun z hz => decide_eq_false fun k => (List.nodup_append.mp nd).2.2 z k z hz rfl
        obtain ⟨nV, nN, _⟩ := List.nodup_append.mp nd
        obtain ⟨q1, q2⟩ := q
        by_cases c2 : q2 = e ∧ some q1 ≠ s
        · have c1 : ¬ (q1 = e ∧ some q2 ≠ s) := fun c1 => by
            rw [c1.1, c2.1] at hq
            exact noloop hq
          have en : nbs S es e s (q1, q2) = farL S es (some e) q1 := by
            unfold nbs
            rw [if_neg c1, if_pos c2, List.nil_append]
          have lf : Lk S e q1 := .inr (by rw [← c2.1]; exact hq)
          rw [if_pos c2, if_neg c1, ih q1 lf c2.2, ← en]
          have fin : q1 ∈ nbs S es e s (q1, q2) := by
            rw [en]
            exact mem_far.mpr ⟨(inn _ hq).1, fun _ _ => rfl⟩
          rw [← mrg_after (leL_parts nV eV cV) (leL_parts nN fin cN)]
          refine plcs_perm (List.Perm.symm (leL_mrg false nd eV fin (by rw [if_neg Bool.noConfusion, ← c2.1]; exact hq) fun r hr h => ?_)) _ _
          rw [if_neg Bool.noConfusion]
          rcases across lf en r hr h with k | k
          · rw [k] at hr
            rw [c2.1] at hq
            exact (lk_one B hr hq).elim
          · exact k
        · rw [if_neg c2]
          by_cases c1 : q1 = e ∧ some q2 ≠ s
          · have en : nbs S es e s (q1, q2) = farL S es (some e) q2 := by
              unfold nbs
              rw [if_pos c1, if_neg c2, List.append_nil]
            have lf : Lk S e q2 := .inl (by rw [← c1.1]; exact hq)
            rw [if_pos c1, ih q2 lf c1.2, ← en]
            have fin : q2 ∈ nbs S es e s (q1, q2) := by
              rw [en]
              exact mem_far.mpr ⟨(inn _ hq).2, fun _ _ => rfl⟩
            rw [← mrg_before (leL_parts nV eV cV) (leL_parts nN fin cN)]
            refine plcs_perm (List.Perm.symm (leL_mrg true nd eV fin (by rw [if_pos rfl, ← c1.1]; exact hq) fun r hr h => ?_)) _ _
            rw [if_pos rfl]
            rcases across lf en r hr h with k | k
            · exact k
            · rw [k] at hr
              rw [c1.1] at hq
              exact (lk_one B hq hr).elim
          · have en : nbs S es e s (q1, q2) = [] := by
              unfold nbs
              rw [if_neg c1, if_neg c2, List.append_nil]
            rw [if_neg c1, en, List.append_nil, List.length_nil, Nat.add_zero]
    have fi := step S.length (Nat.le_refl _)
    rw [List.take_length] at fi
    have fp := far_is B nS nes inn he s
    show S.foldl _ [1] = _
    rw [fi, fp.length_eq]
    exact plcs_perm (leL_perm big fp) _ _
end
end Os
/-! an order without one of its swaps -/
namespace Os
open PySem PySem.Spec PyProof.Rows
def wo (e : Pr) (os : List Pr) : List Pr := os.filter fun f => decide (f ≠ e)
theorem wo_mem {e f : Pr} {os : List Pr} : f ∈ wo e os ↔ f ∈ os ∧ f ≠ e := by
  unfold wo
  rw [List.mem_filter, decide_eq_true_iff]
theorem wo_perm {e : Pr} {os es : List Pr} (h : os.Perm es) : (wo e os).Perm (wo e es) := h.filter _
theorem wo_edges {n : Nat} {es : List Pr} (E : Edges n es) (e : Pr) : Edges n (wo e es) := by
  have sub : (wo e es).Sublist es := List.filter_sublist
  exact ⟨fun f hf => E.inn f (sub.subset hf), E.asc.sublist sub, Bridges.sub E.br fun f hf => sub.subset hf⟩
theorem wo_comm (e f : Pr) (os : List Pr) : wo e (wo f os) = wo f (wo e os) := by
  unfold wo
  rw [List.filter_filter, List.filter_filter]
  exact List.filter_congr fun x _ => Bool.and_comm _ _
theorem wo_app (e : Pr) (A B : List Pr) : wo e (A ++ B) = wo e A ++ wo e B := List.filter_append _ _
theorem wo_cons_ne {e f : Pr} (h : f ≠ e) (A : List Pr) : wo e (f :: A) = f :: wo e A := by
  unfold wo
  rw [List.filter_cons, if_pos (decide_eq_true h)]
theorem wo_cons_eq (e : Pr) (A : List Pr) : wo e (e :: A) = wo e A := by
  unfold wo
  rw [List.filter_cons, if_neg (by rw [decide_eq_false (fun h => h rfl)]; decide)]
theorem turn_filter {e : Pr} (p : Nat) : ∀ {os : List Pr}, (∀ f ∈ os, f.1 < f.2) → turnOf p (wo e os) = (turnOf p os).filter fun q => decide (eb p q ≠ e)
  | [], _ => rfl
  | f :: os, h => by
    have ih := turn_filter p (e := e) (os := os) fun g hg => h g (List.mem_cons_of_mem _ hg)
    have lf := h f List.mem_cons_self
    by_cases fe : f = e
    · subst fe
      rw [wo_cons_eq, turn_cons, List.filter_append, ih]
      have z : (if f.1 = p then [f.2] else if f.2 = p then [f.1] else []).filter (fun q => decide (eb p q ≠ f)) = [] := by
        by_cases h1 : f.1 = p
        · rw [if_pos h1, List.filter_cons, if_neg (by rw [eb_touch (.inl ⟨h1, rfl⟩) lf, decide_eq_false (fun h => h rfl)]; decide)]
          rfl
        · rw [if_neg h1]
          by_cases h2 : f.2 = p
          · rw [if_pos h2, List.filter_cons, if_neg (by rw [eb_touch (.inr ⟨h2, rfl⟩) lf, decide_eq_false (fun h => h rfl)]; decide)]
            rfl
          · rw [if_neg h2]
            rfl
      rw [z, List.nil_append]
    · rw [wo_cons_ne fe, turn_cons, turn_cons, List.filter_append, ih]
      refine congrArg (· ++ _) ?_
      by_cases h1 : f.1 = p
      · rw [if_pos h1, List.filter_cons, if_pos (by rw [eb_touch (.inl ⟨h1, rfl⟩) lf]; exact decide_eq_true fe)]
        rfl
      · rw [if_neg h1]
        by_cases h2 : f.2 = p
        · rw [if_pos h2, List.filter_cons, if_pos (by rw [eb_touch (.inr ⟨h2, rfl⟩) lf]; exact decide_eq_true fe)]
          rfl
        · rw [if_neg h2]
          rfl
section
variable {n : Nat} {es os : List Pr} (E : Edges n es) (pm : os.Perm es)
include E pm
theorem os_lt : ∀ f ∈ os, f.1 < f.2 := fun f hf => (E.inn f (pm.mem_iff.mp hf)).1
/-- what follows nothing may come last -/
theorem last_moves {zs : List Str} {e : Pr} (hl : zs.length = n) (nd : zs.Nodup) (he : e ∈ es) (no : ∀ f, (e, f) ∉ folN n fun p => turnOf p os) : swps zs (wo e os ++ [e]) = swps zs os := by
  have cut := cut_at (pm.mem_iff.mpr he)
  have nos : os.Nodup := pm.nodup_iff.mpr E.nodup
  have le := E.inn e he
  have fc : wo e os = os.take (os.idxOf e) ++ os.drop (os.idxOf e + 1) := by
    have h0 := nos
    rw [cut] at h0
    have := filter_cut h0
    rw [← cut] at this
    exact this
  generalize os.take (os.idxOf e) = A at *
  generalize os.drop (os.idxOf e + 1) = B at *
  have pm' : (wo e os ++ [e]).Perm es := by
    refine List.Perm.trans ?_ pm
    rw [fc, cut, List.append_assoc]
    exact List.Perm.append_left A (List.perm_append_comm (l₁ := B) (l₂ := [e]))
  refine (same_outcome E pm' pm hl nd).mpr fun p => ?_
  rw [fc, cut, turn_append, turn_append, turn_append, List.append_assoc]
  refine congrArg (turnOf p A ++ ·) ?_
  by_cases tp : e.1 = p ∨ e.2 = p
  · obtain ⟨q, t⟩ : ∃ q, Tch e p q := by
      rcases tp with h | h
      · exact ⟨_, .inl ⟨h, rfl⟩⟩
      · exact ⟨_, .inr ⟨h, rfl⟩⟩
    have pn : p < n := by rcases t with ⟨a, b⟩ | ⟨a, b⟩ <;> omega
    have ne : e.1 ≠ e.2 := by omega
    rw [t.turn ne, t.turn ne]
    cases hB : turnOf p B with
    | nil => rfl
    | cons b rest =>
      exfalso
      refine no (eb p b) (mem_folN.mpr ⟨p, pn, turnOf p A, q, b, rest, ?_, by rw [eb_touch t le.1]⟩)
      show turnOf p os = _
      rw [cut, turn_append, t.turn ne, hB]
  · have z : ∀ X : List Pr, turnOf p (e :: X) = turnOf p X := fun X => by
      rw [turn_cons, if_neg fun h => tp (.inl h), if_neg fun h => tp (.inr h), List.nil_append]
    rw [z, z]
    show turnOf p B ++ [] = _
    rw [List.append_nil]
/-- what nothing comes before may come first -/
theorem first_moves {zs : List Str} {e : Pr} (hl : zs.length = n) (nd : zs.Nodup) (he : e ∈ es) (no : ∀ f, (f, e) ∉ folN n fun p => turnOf p os) : swps (swp zs e) (wo e os) = swps zs os := by
  have cut := cut_at (pm.mem_iff.mpr he)
  have nos : os.Nodup := pm.nodup_iff.mpr E.nodup
  have le := E.inn e he
  have fc : wo e os = os.take (os.idxOf e) ++ os.drop (os.idxOf e + 1) := by
    have h0 := nos
    rw [cut] at h0
    have := filter_cut h0
    rw [← cut] at this
    exact this
  generalize os.take (os.idxOf e) = A at *
  generalize os.drop (os.idxOf e + 1) = B at *
  have pm' : (e :: wo e os).Perm es := by
    refine List.Perm.trans ?_ pm
    rw [fc, cut]
    exact List.perm_middle.symm
  refine (same_outcome (os := e :: wo e os) E pm' pm hl nd).mpr fun p => ?_
  by_cases tp : e.1 = p ∨ e.2 = p
  · obtain ⟨q, t⟩ : ∃ q, Tch e p q := by
      rcases tp with h | h
      · exact ⟨_, .inl ⟨h, rfl⟩⟩
      · exact ⟨_, .inr ⟨h, rfl⟩⟩
    have pn : p < n := by rcases t with ⟨a, b⟩ | ⟨a, b⟩ <;> omega
    have ne : e.1 ≠ e.2 := by omega
    rw [t.turn ne, fc, cut, turn_append, turn_append, t.turn ne]
    rcases snoc_cases (turnOf p A) with hA | ⟨T, r, hA⟩
    · rw [hA]
      rfl
    · exfalso
      refine no (eb p r) (mem_folN.mpr ⟨p, pn, T, r, q, turnOf p B, ?_, by rw [eb_touch t le.1]⟩)
      show turnOf p os = _
      rw [cut, turn_append, t.turn ne, hA, List.append_assoc]
      rfl
  · have z : ∀ X : List Pr, turnOf p (e :: X) = turnOf p X := fun X => by
      rw [turn_cons, if_neg fun h => tp (.inl h), if_neg fun h => tp (.inr h), List.nil_append]
    rw [z, fc, cut, turn_append, turn_append, z]
theorem src_wo {e : Pr} : ∀ m, ∀ (A : List Pr) (f : Pr) (B : List Pr) (p q : Nat), A.length ≤ m → os = A ++ f :: B → Tch f p q → ¬ Rch (folN n fun p => turnOf p os) e f → src A p = src (wo e A) p := by
  intro m
  induction m with
  | zero =>
    intro A f B p q hm h1 t hn
    have hA : A = [] := List.eq_nil_of_length_eq_zero (by omega)
    subst hA
    rfl
  | succ m ih =>
    intro A f B p q hm h1 t hn
    have lt := os_lt E pm
    have ltA : ∀ g ∈ A, g.1 < g.2 := fun g hg => lt g (by rw [h1]; exact List.mem_append_left _ hg)
    have lf := lt f (by rw [h1]; simp)
    rcases snoc_cases (turnOf p A) with hz | ⟨T, r, hz⟩
    · rw [src_idle hz, src_idle (A := wo e A) (p := p) (by rw [turn_filter p ltA, hz]; rfl)]
    · obtain ⟨A1, g, A2, rfl, tg, i2⟩ := last_touch hz
      have lg := ltA g (by simp)
      have pn : p < n := by
        have := E.inn f (pm.mem_iff.mp (by rw [h1]; simp))
        rcases t with ⟨a, b⟩ | ⟨a, b⟩ <;> omega
      have kg : (g, f) ∈ folN n fun p => turnOf p os := mem_folN.mpr ⟨p, pn, T, r, q, turnOf p B, by
        show turnOf p os = _
        rw [h1, turn_append, hz, t.turn (by omega), List.append_assoc]
        rfl, by rw [eb_touch tg lg, eb_touch t lf]⟩
      have ng : ¬ Rch (folN n fun p => turnOf p os) e g := fun z => hn (z.snoc kg)
      have ge : g ≠ e := fun z => ng (by rw [z]; exact .refl _)
      have one : ∀ (U V : List Pr), turnOf p V = [] → src (U ++ g :: V) p = src U r := fun U V hV => by
        rw [src_app]
        show src U (sw g (src V p)) = src U r
        rw [src_idle hV, tg.sw]
      have i2' : turnOf p (wo e A2) = [] := by
        rw [turn_filter p fun x hx => ltA x (by simp [hx]), i2]
        rfl
      rw [one A1 A2 i2, wo_app, wo_cons_ne ge, one (wo e A1) (wo e A2) i2']
      rw [List.length_append, List.length_cons] at hm
      exact ih A1 g (A2 ++ f :: B) r p (by omega) (by rw [h1, List.append_assoc]; rfl) tg.symm ng
theorem met_wo {zs : List Str} {e f : Pr} (hl : zs.length = n) (hf : f ∈ es) (hn : ¬ Rch (folN n fun p => turnOf p os) e f) : metA zs (wo e os) f = metA zs os f ∧ metB zs (wo e os) f = metB zs os f := by
  have fe : f ≠ e := fun z => hn (by rw [z]; exact .refl _)
  have h1 := cut_at (pm.mem_iff.mpr hf)
  have nos : os.Nodup := pm.nodup_iff.mpr E.nodup
  have hf' : f ∈ wo e os := wo_mem.mpr ⟨pm.mem_iff.mpr hf, fe⟩
  have h2 := cut_at hf'
  have nw : (wo e os).Nodup := nos.sublist List.filter_sublist
  have h3 : wo e os = wo e (os.take (os.idxOf f)) ++ f :: wo e (os.drop (os.idxOf f + 1)) := by
    conv => lhs; rw [h1]
    rw [wo_app, wo_cons_ne fe]
  have same : (wo e os).take ((wo e os).idxOf f) = wo e (os.take (os.idxOf f)) := by
    have n2 := nw
    rw [h2] at n2
    exact split_front n2 (h2.symm.trans h3)
  obtain ⟨ei, en⟩ := E.inn f hf
  have inn : ∀ g ∈ os.take (os.idxOf f), g.1 < g.2 ∧ g.2 < n := fun g hg => E.inn g (pm.mem_iff.mp (List.mem_of_mem_take hg))
  have inn2 : ∀ g ∈ wo e (os.take (os.idxOf f)), g.1 < g.2 ∧ g.2 < n := fun g hg => inn g (wo_mem.mp hg).1
  unfold metA metB
  rw [same]
  have one : ∀ {p q : Nat}, Tch f p q → p < n → (swps zs (wo e (os.take (os.idxOf f)))).getD p ⟨#[]⟩ = (swps zs (os.take (os.idxOf f))).getD p ⟨#[]⟩ := fun t hp => by
    rw [List.getD_eq_getElem?_getD, List.getD_eq_getElem?_getD, swps_src hl inn2 hp, swps_src hl inn hp, src_wo E pm _ _ f _ _ _ (Nat.le_refl _) h1 t hn]
  exact ⟨one (.inl ⟨rfl, rfl⟩) (by omega), one (.inr ⟨rfl, rfl⟩) en⟩
/-! ### one more ring -/
theorem lead_iff {zs : List Str} (hl : zs.length = n) (nd : zs.Nodup) {x : Nat} (hx : x < n) : lead (went zs (swps zs os)) n x = true ↔ ∀ y, Conn es x y → x ≤ y := by
  obtain ⟨l, r, er⟩ := ring_is E pm hl nd hx
  unfold lead
  rw [decide_eq_true_iff, er]
  exact ⟨fun h y hy => h y ((r.all y).mpr ((conn_perm pm).mpr hy)), fun h y hy => h y ((conn_perm pm).mp ((r.all y).mp hy))⟩
end
theorem filter_one {p p' : Nat → Bool} {m : Nat} : ∀ {l : List Nat}, l.Nodup → m ∈ l → p m = false → (∀ x ∈ l, p' x = (p x || decide (x = m))) → (l.filter p').length = (l.filter p).length + 1
  | [], _, h, _, _ => (by cases h)
  | x :: l, nd, h, hp, k => by
    obtain ⟨n1, n2⟩ := List.nodup_cons.mp nd
    have kx := k x List.mem_cons_self
    by_cases xm : x = m
    · subst xm
      rw [hp, decide_eq_true rfl, Bool.or_true] at kx
      rw [List.filter_cons, if_pos kx, List.filter_cons, if_neg (by rw [hp]; decide), List.length_cons]
      refine congrArg (· + 1) (congrArg List.length (List.filter_congr fun y hy => ?_))
      rw [k y (List.mem_cons_of_mem _ hy), decide_eq_false (fun z => n1 (by rw [← z]; exact hy)), Bool.or_false]
    · have hm := (List.mem_cons.mp h).resolve_left fun z => xm z.symm
      have ih := filter_one n2 hm hp fun y hy => k y (List.mem_cons_of_mem _ hy)
      rw [decide_eq_false xm, Bool.or_false] at kx
      rw [List.filter_cons, List.filter_cons, kx]
      cases p x with
      | true =>
        rw [if_pos rfl, if_pos rfl, List.length_cons, List.length_cons, ih]
      | false => exact ih
theorem has_least (R : Nat → Prop) : ∀ k x : Nat, x ≤ k → R x → ∃ m, R m ∧ ∀ y, R y → m ≤ y
  | 0, x, hx, h => ⟨x, h, fun y _ => by omega⟩
  | k + 1, x, hx, h => by
    by_cases c : ∃ y, R y ∧ y ≤ k
    · obtain ⟨y, hy, le⟩ := c
      exact has_least R k y le hy
    · exact ⟨x, h, fun y hy => by
        have : ¬ y ≤ k := fun z => c ⟨y, hy, z⟩
        omega⟩
theorem rings_one {n : Nat} {es os : List Pr} {zs : List Str} {e : Pr} (E : Edges n es) (pm : os.Perm es) (hl : zs.length = n) (nd : zs.Nodup) (he : e ∈ es) :
    (cycles (went zs (swps zs (wo e os))) n).length = (cycles (went zs (swps zs os)) n).length + 1 := by
  have E' := wo_edges E e
  have pm' := wo_perm (e := e) pm
  have le := E.inn e he
  have cut := cut_at he
  have nes := E.nodup
  have pe : (wo e es ++ [e]).Perm es := by
    have fc : wo e es = es.take (es.idxOf e) ++ es.drop (es.idxOf e + 1) := by
      have h0 := nes
      rw [cut] at h0
      have := filter_cut h0
      rw [← cut] at this
      exact this
    rw [fc, List.append_assoc]
    conv => rhs; rw [cut]
    exact List.Perm.append_left _ (List.perm_append_comm (l₁ := es.drop (es.idxOf e + 1)) (l₂ := [e]))
  have cadd : ∀ {x y : Nat}, Conn es x y ↔ Conn (wo e es) x y ∨ (Conn (wo e es) x e.1 ∧ Conn (wo e es) e.2 y) ∨ (Conn (wo e es) x e.2 ∧ Conn (wo e es) e.1 y) := fun {x y} => by
    rw [← conn_perm pe]
    exact conn_add
  have nc : ¬ Conn (wo e es) e.1 e.2 := fun h => by
    obtain ⟨S, hS, hS2⟩ := E.br e he
    exact hS (h S fun f hf => hS2 f (wo_mem.mp hf).1 (wo_mem.mp hf).2)
  obtain ⟨m1, c1, l1⟩ := has_least (fun y => Conn (wo e es) e.1 y) _ e.1 (Nat.le_refl _) (Conn.refl _ _)
  obtain ⟨m2, c2, l2⟩ := has_least (fun y => Conn (wo e es) e.2 y) _ e.2 (Nat.le_refl _) (Conn.refl _ _)
  have m12 : m1 ≠ m2 := fun z => nc (c1.trans (z ▸ c2.symm))
  have b1 : m1 < n := by have := l1 e.1 (Conn.refl _ _); omega
  have b2 : m2 < n := by have := l2 e.2 (Conn.refl _ _); omega
  have only : ∀ {a m x : Nat}, Conn (wo e es) a m → (∀ y, Conn (wo e es) a y → m ≤ y) → Conn (wo e es) x a → (∀ y, Conn (wo e es) x y → x ≤ y) → x = m := fun {a m x} ca la cx lx => by
    have h1 := lx m (cx.trans ca)
    have h2 := la x cx.symm
    omega
  unfold cycles
  rw [List.length_map, List.length_map]
  -- the greater of the two least ones is new
  have main : ∀ {a b ma mb : Nat}, Conn (wo e es) a ma → (∀ y, Conn (wo e es) a y → ma ≤ y) → Conn (wo e es) b mb → (∀ y, Conn (wo e es) b y → mb ≤ y) → ma < mb → mb < n → (∀ {x y : Nat}, Conn es x y ↔ Conn (wo e es) x y ∨ (Conn (wo e es) x a ∧ Conn (wo e es) b y) ∨ (Conn (wo e es) x b ∧ Conn (wo e es) a y)) →
      ((List.range n).filter (lead (went zs (swps zs (wo e os))) n)).length = ((List.range n).filter (lead (went zs (swps zs os)) n)).length + 1 := by
    intro a b ma mb ca la cb lb lt bn add
    refine filter_one List.nodup_range (m := mb) (List.mem_range.mpr bn) ?_ fun x hx => ?_
    · rw [← Bool.not_eq_true, lead_iff E pm hl nd bn]
      intro h
      have := h ma (add.mpr (.inr (.inr ⟨cb.symm, ca⟩)))
      omega
    · have xn := List.mem_range.mp hx
      rw [Bool.eq_iff_iff, Bool.or_eq_true, decide_eq_true_iff, lead_iff E' pm' hl nd xn, lead_iff E pm hl nd xn]
      constructor
      · intro h
        by_cases xm : x = mb
        · exact .inr xm
        · left
          intro y hy
          rcases add.mp hy with k | ⟨k1, k2⟩ | ⟨k1, k2⟩
          · exact h y k
          · have := only ca la k1 h
            have := lb y k2
            omega
          · exact absurd (only cb lb k1 h) xm
      · rintro (h | rfl)
        · exact fun y hy => h y (add.mpr (.inl hy))
        · exact fun y hy => lb y (cb.trans hy)
  rcases Nat.lt_or_gt_of_ne m12 with lt | lt
  · exact main c1 l1 c2 l2 lt b2 cadd
  · refine main c2 l2 c1 l1 lt b1 ?_
    intro x y
    rw [cadd]
    constructor
    · rintro (k | k | k)
      · exact .inl k
      · exact .inr (.inr k)
      · exact .inr (.inl k)
    · rintro (k | k | k)
      · exact .inl k
      · exact .inr (.inr k)
      · exact .inr (.inl k)
end Os
/-! all orders of one outcome: which swap always comes ahead of which -/
namespace Os
open PySem PySem.Spec PyProof.Rows
open PySem.W (dataLe)
theorem turn_filterP (P : Pr → Bool) (p : Nat) : ∀ {os : List Pr}, (∀ f ∈ os, f.1 < f.2) → turnOf p (os.filter P) = (turnOf p os).filter fun q => P (eb p q)
  | [], _ => rfl
  | f :: os, h => by
    have ih := turn_filterP P p (os := os) fun g hg => h g (List.mem_cons_of_mem _ hg)
    have lf := h f List.mem_cons_self
    have z : (if f.1 = p then [f.2] else if f.2 = p then [f.1] else []).filter (fun q => P (eb p q)) = if P f = true then (if f.1 = p then [f.2] else if f.2 = p then [f.1] else []) else [] := by
      by_cases h1 : f.1 = p
      · have e : eb p f.2 = f := eb_touch (.inl ⟨h1, rfl⟩) lf
        rw [if_pos h1, List.filter_cons, e]
        rfl
      · rw [if_neg h1]
        by_cases h2 : f.2 = p
        · have e : eb p f.1 = f := eb_touch (.inr ⟨h2, rfl⟩) lf
          rw [if_pos h2, List.filter_cons, e]
          rfl
        · rw [if_neg h2]
          split <;> rfl
    rw [turn_cons, List.filter_append, z, List.filter_cons]
    by_cases hP : P f = true
    · rw [if_pos hP, if_pos hP, turn_cons, ih]
    · rw [if_neg hP, if_neg hP, ih]
      rfl
theorem up_all {R : Nat → Bool} : ∀ {L : List Nat} {x : Nat}, (∀ A a b B, x :: L = A ++ a :: b :: B → R a = true → R b = true) → R x = true → ∀ z ∈ L, R z = true
  | [], _, _, _, z, hz => by cases hz
  | y :: L, x, h, hx, z, hz => by
    have hy := h [] x y L rfl hx
    rcases List.mem_cons.mp hz with rfl | hz
    · exact hy
    · exact up_all (L := L) (x := y) (fun A a b B e => h (x :: A) a b B (by rw [e]; rfl)) hy z hz
theorem up_split {R : Nat → Bool} : ∀ {L : List Nat}, (∀ A a b B, L = A ++ a :: b :: B → R a = true → R b = true) → (L.filter fun x => !R x) ++ L.filter R = L
  | [], _ => rfl
  | x :: L, h => by
    cases hx : R x with
    | false =>
      have ih := up_split (L := L) fun A a b B e => h (x :: A) a b B (by rw [e]; rfl)
      rw [List.filter_cons, if_pos (by rw [hx]; rfl), List.filter_cons, if_neg (by rw [hx]; decide), List.cons_append, ih]
    | true =>
      have al := up_all h hx
      have e1 : ((x :: L).filter fun x => !R x) = [] := List.filter_eq_nil_iff.mpr fun z hz => by
        rcases List.mem_cons.mp hz with rfl | hz
        · rw [hx]; decide
        · rw [al z hz]; decide
      have e2 : (x :: L).filter R = x :: L := List.filter_eq_self.mpr fun z hz => by
        rcases List.mem_cons.mp hz with rfl | hz
        · exact hx
        · exact al z hz
      rw [e1, e2]
      rfl
/-- what holds R comes last -/
def lateO (R : Pr → Bool) (os : List Pr) : List Pr := (os.filter fun g => !R g) ++ os.filter R
theorem late_perm (R : Pr → Bool) (os : List Pr) : (lateO R os).Perm os := List.perm_append_comm.trans (List.filter_append_perm R os)
theorem late_idx {R : Pr → Bool} {os : List Pr} {e f : Pr} (he : R e = true) (hf : R f = false) (mf : f ∈ os) : (lateO R os).idxOf f < (lateO R os).idxOf e := by
  have f1 : f ∈ os.filter fun g => !R g := List.mem_filter.mpr ⟨mf, by rw [hf]; rfl⟩
  have e1 : e ∉ os.filter fun g => !R g := fun h => by
    have := (List.mem_filter.mp h).2
    rw [he] at this
    cases this
  unfold lateO
  rw [List.idxOf_append, if_pos f1, List.idxOf_append, if_neg e1]
  have := List.idxOf_lt_length_of_mem f1
  omega
theorem bef_of {os : List Pr} {e f : Pr} (nd : os.Nodup) (he : e ∈ os) (hf : f ∈ os) (h : os.idxOf e < os.idxOf f) : Bef os e f := by
  obtain ⟨A, R, rfl⟩ := List.append_of_mem he
  rcases List.mem_append.mp hf with a | a
  · obtain ⟨A1, A2, rfl⟩ := List.append_of_mem a
    have b : Bef (A1 ++ f :: A2 ++ e :: R) f e := ⟨A1, A2, R, by rw [List.append_assoc]; rfl⟩
    have := b.idx nd
    omega
  · rcases List.mem_cons.mp a with rfl | a
    · omega
    · obtain ⟨B, C, rfl⟩ := List.append_of_mem a
      exact ⟨A, B, C, rfl⟩
section
variable {n : Nat} {es os : List Pr} (E : Edges n es) (pm : os.Perm es)
include E pm
theorem late_turn {R : Pr → Bool} (h : ∀ g k, (g, k) ∈ (folN n fun p => turnOf p os) → R g = true → R k = true) (p : Nat) : turnOf p (lateO R os) = turnOf p os := by
  have lt := os_lt E pm
  unfold lateO
  rw [turn_app, turn_filterP _ p lt, turn_filterP _ p lt]
  refine up_split (R := fun q => R (eb p q)) fun A a b B e ha => ?_
  have ha' : a ∈ turnOf p os := by rw [e]; exact List.mem_append_right _ List.mem_cons_self
  have pn := (turn_edge E ((turn_perm pm p).mem_iff.mp ha')).2.2.2
  exact h (eb p a) (eb p b) (mem_folN.mpr ⟨p, pn, A, a, b, B, e, rfl⟩) ha
/-- one comes ahead of the other in all orders of the outcome: there is a chain between them -/
theorem always_iff {e f : Pr} (he : e ∈ es) (hf : f ∈ es) (ne : e ≠ f) : (∀ o : List Pr, o.Perm es → (∀ p, turnOf p o = turnOf p os) → ¬ o.idxOf f < o.idxOf e) ↔ Rch (folN n fun p => turnOf p os) e f := by
  classical
  constructor
  · intro h
    refine Decidable.byContradiction fun nr => ?_
    refine h (lateO (fun g => decide (Rch (folN n fun p => turnOf p os) e g)) os) ((late_perm _ _).trans pm) (late_turn E pm fun g k m hg => ?_) (late_idx (decide_eq_true (.refl e)) (decide_eq_false nr) (pm.mem_iff.mpr hf))
    exact decide_eq_true ((of_decide_eq_true hg).snoc m)
  · intro r o po to lt
    have tf : (fun p => turnOf p o) = fun p => turnOf p os := funext to
    rw [← tf] at r
    have := rch_idx E po r
    omega
/-- two swaps that meet at p follow each other there, or another stands between them -/
theorem fol_iff {e f : Pr} {p a b : Nat} (ta : Tch e p a) (tb : Tch f p b) (ne : e ≠ f) (he : e ∈ es) (hf : f ∈ es) :
    (e, f) ∈ (folN n fun p => turnOf p os) ↔ os.idxOf e < os.idxOf f ∧ ∀ g ∈ es, ∀ c, Tch g p c → ¬ (os.idxOf e < os.idxOf g ∧ os.idxOf g < os.idxOf f) := by
  have nd : os.Nodup := pm.nodup_iff.mpr E.nodup
  have turn1 : ∀ {g : Pr} {c : Nat}, g ∈ es → Tch g p c → turnOf p [g] = [c] := fun {g c} hg t => by
    have lg := (E.inn g hg).1
    rw [turn_cons]
    rcases t with ⟨h1, h2⟩ | ⟨h1, h2⟩
    · rw [if_pos h1, h2]; rfl
    · rw [if_neg (by omega), if_pos h1, h2]; rfl
  have e1 : eb p a = e := eb_touch ta (E.inn e he).1
  have f1 : eb p b = f := eb_touch tb (E.inn f hf).1
  constructor
  · intro h
    refine ⟨(fol_is E pm h).2.2.1.idx nd, fun g hg c tc ⟨l1, l2⟩ => ?_⟩
    obtain ⟨p', pn', T1, x, y, T2, ht, he'⟩ := mem_folN.mp h
    obtain ⟨A, e', B, f', C, ho, te', tf'⟩ := turn_two ht
    have x1 : e' ∈ es := pm.mem_iff.mp (by rw [ho]; exact List.mem_append_right _ List.mem_cons_self)
    have y1 : f' ∈ es := pm.mem_iff.mp (by rw [ho]; exact List.mem_append_right _ (List.mem_cons_of_mem _ (List.mem_append_right _ List.mem_cons_self)))
    have ee : e' = e := by
      rw [← eb_touch te' (E.inn e' x1).1]
      exact (congrArg Prod.fst he').symm
    have ff : f' = f := by
      rw [← eb_touch tf' (E.inn f' y1).1]
      exact (congrArg Prod.snd he').symm
    subst ee
    subst ff
    -- the position is the same
    have pp : p' = p := by
      refine Decidable.byContradiction fun np => ne ?_
      have i1 := E.inn e' he
      have i2 := E.inn f' hf
      unfold Tch at ta tb te' tf'
      refine Prod.ext ?_ ?_ <;> omega
    subst pp
    have nT : (turnOf p' os).Nodup := turn_nodup E pm p'
    have eA : turnOf p' os = turnOf p' A ++ x :: (turnOf p' B ++ y :: turnOf p' C) := by
      rw [ho, turn_app, show e' :: (B ++ f' :: C) = [e'] ++ (B ++ ([f'] ++ C)) from rfl, turn_app, turn_app, turn_app, turn1 x1 te', turn1 y1 tf']
      rfl
    have h2 := split_one (A := T1) (A' := turnOf p' A) (y := x) (R := y :: T2) (R' := turnOf p' B ++ y :: turnOf p' C) (by rw [← ht]; exact nT) (by rw [← ht, eA])
    have nB : turnOf p' B = [] := by
      have nd2 : (turnOf p' B ++ y :: turnOf p' C).Nodup := by
        have : (turnOf p' A ++ x :: (turnOf p' B ++ y :: turnOf p' C)).Nodup := by rw [← eA]; exact nT
        exact (List.nodup_cons.mp (List.nodup_append.mp this).2.1).2
      have t2 : turnOf p' B ++ y :: turnOf p' C = y :: T2 := h2.symm
      cases hB : turnOf p' B with
      | nil => rfl
      | cons z zs =>
        rw [hB] at t2 nd2
        have z1 : z = y := (List.cons.inj t2).1
        rw [z1] at nd2
        exact absurd (List.mem_append_right zs List.mem_cons_self) (List.nodup_cons.mp nd2).1
    -- g lies between
    have hg' : g ∈ os := pm.mem_iff.mpr hg
    have gB : g ∈ B := by
      rw [ho] at hg'
      rcases List.mem_append.mp hg' with a | a
      · obtain ⟨A1, A2, rfl⟩ := List.append_of_mem a
        have b : Bef os g e' := ⟨A1, A2, B ++ f' :: C, by rw [ho, List.append_assoc]; rfl⟩
        have := b.idx nd
        omega
      · rcases List.mem_cons.mp a with rfl | a
        · omega
        · rcases List.mem_append.mp a with a | a
          · exact a
          · rcases List.mem_cons.mp a with rfl | a
            · omega
            · obtain ⟨C1, C2, rfl⟩ := List.append_of_mem a
              have b : Bef os f' g := ⟨A ++ e' :: B, C1, C2, by rw [ho, List.append_assoc]; rfl⟩
              have := b.idx nd
              omega
    obtain ⟨B1, B2, rfl⟩ := List.append_of_mem gB
    rw [turn_app, show g :: B2 = [g] ++ B2 from rfl, turn_app, turn1 hg tc] at nB
    have := congrArg List.length nB
    rw [List.length_append, List.length_append] at this
    simp at this
  · rintro ⟨l, no⟩
    obtain ⟨A, B, C, ho⟩ := bef_of nd (pm.mem_iff.mpr he) (pm.mem_iff.mpr hf) l
    have nB : turnOf p B = [] := by
      cases hB : turnOf p B with
      | nil => rfl
      | cons z zs =>
        obtain ⟨g, hg, hz⟩ := List.mem_filterMap.mp (show z ∈ turnOf p B by rw [hB]; exact List.mem_cons_self)
        have tg : Tch g p z := some_touch hz
        obtain ⟨B1, B2, rfl⟩ := List.append_of_mem hg
        have b1 : Bef os e g := ⟨A, B1, B2 ++ f :: C, by rw [ho]; simp⟩
        have b2 : Bef os g f := ⟨A ++ e :: B1, B2, C, by rw [ho]; simp⟩
        have hge : g ∈ es := pm.mem_iff.mp (by rw [ho]; simp)
        exact absurd ⟨b1.idx nd, b2.idx nd⟩ (no g hge z tg)
    have pn : p < n := by
      have i1 := E.inn e he
      unfold Tch at ta
      omega
    refine mem_folN.mpr ⟨p, pn, turnOf p A, a, b, turnOf p C, ?_, by rw [e1, f1]⟩
    rw [ho, turn_app, show e :: (B ++ f :: C) = [e] ++ (B ++ ([f] ++ C)) from rfl, turn_app, turn_app, turn_app, turn1 he ta, turn1 hf tb, nB]
    rfl
end
/-! ### one ascending list -/
theorem le_pp (p q : PP) (h1 : dataLe false ppD p q = true) (h2 : dataLe false ppD q p = true) : p = q := by
  have al : ∀ e f : Pr, PySem.W.alike (prD e) (prD f) = true := alike_pr
  have f1 : PySem.W.dataLt (ppD q) (ppD p) = false := by
    have : (!PySem.W.dataLt (ppD q) (ppD p)) = true := h1
    cases h : PySem.W.dataLt (ppD q) (ppD p) with
    | true => rw [h] at this; cases this
    | false => rfl
  have f2 : PySem.W.dataLt (ppD p) (ppD q) = false := by
    have : (!PySem.W.dataLt (ppD p) (ppD q)) = true := h2
    cases h : PySem.W.dataLt (ppD p) (ppD q) with
    | true => rw [h] at this; cases this
    | false => rfl
  have lt : ∀ {e f : Pr}, PySem.W.dataLt (prD e) (prD f) = false → PySem.W.dataLt (prD f) (prD e) = false → e = f := fun {e f} a b => by
    unfold prD at a b
    rw [PySem.W.dataLt_ii] at a b
    have a := of_decide_eq_false a
    have b := of_decide_eq_false b
    refine Prod.ext ?_ ?_ <;> omega
  unfold ppD at f1 f2
  rw [PySem.W.dataLt_pair (al _ _) (al _ _), eqv_prs, eqv_prs] at f1 f2
  obtain ⟨p1, p2⟩ := p
  obtain ⟨q1, q2⟩ := q
  dsimp only at f1 f2
  by_cases e1 : q1 = p1
  · subst e1
    rw [if_pos (decide_eq_true rfl)] at f1 f2
    by_cases e2 : q2 = p2
    · rw [e2]
    · rw [if_neg (by rw [decide_eq_false e2]; decide)] at f1
      rw [if_neg (by rw [decide_eq_false (Ne.symm e2)]; decide)] at f2
      exact absurd (lt f1 f2) e2
  · rw [if_neg (by rw [decide_eq_false e1]; decide)] at f1
    rw [if_neg (by rw [decide_eq_false (Ne.symm e1)]; decide)] at f2
    exact absurd (lt f1 f2) e1
theorem ord_asc (L : List PP) : (ordPP L).Pairwise fun p q => dataLe false ppD p q = true := PySem.W.sort_pairwise (PySem.W.sortLe_total _ false _) L
theorem ord_same {L M : List PP} (p : L.Perm M) : ordPP L = ordPP M :=
  List.Perm.eq_of_pairwise (fun a b _ _ x y => le_pp a b x y) (ord_asc L) (ord_asc M) ((ord_perm L).trans (p.trans (ord_perm M).symm))
/-- the pairs of a list that follow, one after the other -/
def pairsL (es : List Pr) (C : Pr → Pr → Bool) : List PP := es.flatMap fun e => (es.filter (C e)).map fun f => (e, f)
theorem mem_pairs {es : List Pr} {C : Pr → Pr → Bool} {q : PP} : q ∈ pairsL es C ↔ q.1 ∈ es ∧ q.2 ∈ es ∧ C q.1 q.2 = true := by
  unfold pairsL
  rw [List.mem_flatMap]
  constructor
  · rintro ⟨e, he, h⟩
    obtain ⟨f, hf, rfl⟩ := List.mem_map.mp h
    exact ⟨he, (List.mem_filter.mp hf).1, (List.mem_filter.mp hf).2⟩
  · rintro ⟨h1, h2, h3⟩
    exact ⟨q.1, h1, List.mem_map.mpr ⟨q.2, List.mem_filter.mpr ⟨h2, h3⟩, rfl⟩⟩
theorem pairs_nodup {es : List Pr} {C : Pr → Pr → Bool} (nd : es.Nodup) : (pairsL es C).Nodup := by
  have g : ∀ {l : List Pr}, l.Nodup → (l.flatMap fun e => (es.filter (C e)).map fun f => ((e, f) : PP)).Nodup := by
    intro l
    induction l with
    | nil => intro _; exact List.nodup_nil
    | cons e l ih =>
      intro h
      obtain ⟨h1, h2⟩ := List.nodup_cons.mp h
      rw [List.flatMap_cons]
      refine List.nodup_append.mpr ⟨?_, ih h2, fun x hx y hy z => ?_⟩
      · exact List.Pairwise.map _ (fun a b ab z => ab (congrArg Prod.snd z)) (nd.filter _)
      · subst z
        obtain ⟨f, _, rfl⟩ := List.mem_map.mp hx
        obtain ⟨e', he', h'⟩ := List.mem_flatMap.mp hy
        obtain ⟨f', _, hq⟩ := List.mem_map.mp h'
        have ee : e' = e := congrArg Prod.fst hq
        subst ee
        exact h1 he'
  exact g nd
end Os
/-! how many orders keep the turns: tree by tree -/
namespace Os
/-- the positions that come first in their trees -/
def headsN (n : Nat) (tr : Nat → List Nat) : List Nat := (List.range n).filter fun i => decide ((tr i)[0]? = some i)
def inT (es : List Pr) (t : List Nat) : List Pr := es.filter fun e => decide (e.1 ∈ t)
def ocStep (S : List PP) (es : List Pr) (cm : Nat × Nat) (t : List Nat) : Nat × Nat :=
  if 0 < (inT es t).length then
    (cm.1 * ((plc S 40 ((inT es t).getD 0 (0, 0)) none).sum * chs (cm.2 + (inT es t).length) (inT es t).length), cm.2 + (inT es t).length) else cm
def ocF (S : List PP) (es : List Pr) (ts : List (List Nat)) : Nat × Nat := ts.foldl (ocStep S es) (1, 0)
section
variable {α : Type} [DecidableEq α]
theorem idx_lt {o : List α} {x : α} (h : x ∈ o) : o.idxOf x < o.length := List.idxOf_lt_length_of_mem h
theorem sub_idx {l : List α} {a b : α} (nd : l.Nodup) (h : [a, b].Sublist l) : l.idxOf a < l.idxOf b := by
  obtain ⟨r1, r2, e, ha, hb⟩ := List.cons_sublist_iff.mp h
  have hb := List.singleton_sublist.mp hb
  rw [e] at nd
  have nb : b ∉ r1 := fun z => (List.nodup_append.mp nd).2.2 b z b hb rfl
  rw [e, List.idxOf_append, List.idxOf_append, if_pos ha, if_neg nb]
  have := idx_lt ha
  omega
theorem idx_get {l : List α} (nd : l.Nodup) {i : Nat} (h : i < l.length) : l.idxOf l[i] = i := by
  have lt := idx_lt (List.getElem_mem h)
  have e := List.getElem_idxOf lt
  exact (List.getElem?_inj lt nd).mp (by rw [List.getElem?_eq_getElem lt, List.getElem?_eq_getElem h, e])
theorem plcs_sum {L : List (List α)} {x : α} {n : Nat} (h : ∀ o ∈ L, o.idxOf x < n) : (plcs L x n).sum = L.length := by
  have := count_ge (fun o : List α => o.idxOf x) 0 h
  rw [sum_getD, plcs_len]
  rw [sumR_congr (g := fun t => if 0 ≤ t then L.countP (fun o => decide (o.idxOf x = t)) else 0) fun t ht => by rw [plcs_get ht, if_pos (Nat.zero_le _)]]
  rw [← this]
  exact List.countP_eq_length.mpr fun o _ => decide_eq_true (Nat.zero_le _)
/-- two parts without a pair across -/
theorem leL_mrg0 {S : List (α × α)} {A B : List α} (nd : (A ++ B).Nodup) (cross : ∀ r ∈ S, ¬ ((r.1 ∈ A ∧ r.2 ∈ B) ∨ (r.1 ∈ B ∧ r.2 ∈ A))) : (leL S (A ++ B)).length = (leL S A).length * ((leL S B).length * chs (A.length + B.length) B.length) := by
  obtain ⟨na, nb, nab⟩ := List.nodup_append.mp nd
  have cA : ∀ z ∈ A, decide (z ∈ A) = true := fun z hz => decide_eq_true hz
  have cB : ∀ z ∈ B, decide (z ∈ A) = false := fun z hz => decide_eq_false fun k => nab z k z hz rfl
  have fA : (A ++ B).filter (fun z => decide (z ∈ A)) = A := by
    rw [List.filter_append, List.filter_eq_self.mpr cA, List.filter_eq_nil_iff.mpr fun z hz => by rw [cB z hz]; exact Bool.noConfusion, List.append_nil]
  have fB : (A ++ B).filter (fun z => !decide (z ∈ A)) = B := by
    rw [List.filter_append, List.filter_eq_nil_iff.mpr fun z hz => by rw [cA z hz]; exact Bool.noConfusion, List.filter_eq_self.mpr fun z hz => by rw [cB z hz]; rfl, List.nil_append]
  have colA : ∀ a ∈ leL S A, ∀ z ∈ a, decide (z ∈ A) = true := fun a ha z hz => cA z ((leL_mem.mp ha).1.mem_iff.mp hz)
  have colB : ∀ a ∈ leL S B, ∀ z ∈ a, decide (z ∈ A) = false := fun a ha z hz => cB z ((leL_mem.mp ha).1.mem_iff.mp hz)
  have parts : ∀ {a b o : List α}, a ∈ leL S A → b ∈ leL S B → o ∈ shf a b → o.filter (fun z => decide (z ∈ A)) = a ∧ o.filter (fun z => !decide (z ∈ A)) = b := fun {a b o} ha hb ho => shf_parts _ a b o rfl (colA a ha) (colB b hb) ho
  have mnd : ((leL S A).flatMap fun a => (leL S B).flatMap fun b => shf a b).Nodup := by
    refine nodup_flat (leL_nodup na) (fun a ha => nodup_flat (leL_nodup nb) (fun b hb => shf_nodup _ a b rfl (colA a ha) (colB b hb)) fun b hb b' hb' o h1 h2 => ?_) fun a ha a' ha' o h1 h2 => ?_
    · rw [← (parts ha hb h1).2, (parts ha hb' h2).2]
    · obtain ⟨b, hb, h1⟩ := List.mem_flatMap.mp h1
      obtain ⟨b', hb', h2⟩ := List.mem_flatMap.mp h2
      rw [← (parts ha hb h1).1, (parts ha' hb' h2).1]
  have pm : (leL S (A ++ B)).Perm ((leL S A).flatMap fun a => (leL S B).flatMap fun b => shf a b) := by
    refine (List.perm_ext_iff_of_nodup (leL_nodup nd) mnd).mpr fun o => ?_
    constructor
    · intro h
      obtain ⟨p, k⟩ := leL_mem.mp h
      refine List.mem_flatMap.mpr ⟨o.filter fun z => decide (z ∈ A), leL_mem.mpr ⟨?_, fun q hq h1 h2 => ?_⟩, List.mem_flatMap.mpr ⟨o.filter fun z => !decide (z ∈ A), leL_mem.mpr ⟨?_, fun q hq h1 h2 => ?_⟩, shf_of _ o⟩⟩
      · have := p.filter fun z => decide (z ∈ A)
        rw [fA] at this
        exact this
      · have := (k q hq (List.mem_append_left _ h1) (List.mem_append_left _ h2)).filter fun z => decide (z ∈ A)
        rw [List.filter_eq_self.mpr fun z hz => ?_] at this
        · exact this
        · rcases List.mem_cons.mp hz with rfl | hz
          · exact cA _ h1
          · rw [List.mem_singleton.mp hz]
            exact cA _ h2
      · have := p.filter fun z => !decide (z ∈ A)
        rw [fB] at this
        exact this
      · have := (k q hq (List.mem_append_right _ h1) (List.mem_append_right _ h2)).filter fun z => !decide (z ∈ A)
        rw [List.filter_eq_self.mpr fun z hz => ?_] at this
        · exact this
        · rcases List.mem_cons.mp hz with rfl | hz
          · rw [cB _ h1]
            rfl
          · rw [List.mem_singleton.mp hz, cB _ h2]
            rfl
    · intro h
      obtain ⟨a, ha, h⟩ := List.mem_flatMap.mp h
      obtain ⟨b, hb, ho⟩ := List.mem_flatMap.mp h
      obtain ⟨pa, ka⟩ := leL_mem.mp ha
      obtain ⟨pb, kb⟩ := leL_mem.mp hb
      obtain ⟨ea, eb⟩ := parts ha hb ho
      refine leL_mem.mpr ⟨(shf_perm _ a b o rfl ho).trans (pa.append pb), fun q hq h1 h2 => ?_⟩
      rcases List.mem_append.mp h1 with h1 | h1 <;> rcases List.mem_append.mp h2 with h2 | h2
      · have := ka q hq h1 h2
        rw [← ea] at this
        exact this.trans List.filter_sublist
      · exact absurd (.inl ⟨h1, h2⟩) (cross q hq)
      · exact absurd (.inr ⟨h1, h2⟩) (cross q hq)
      · have := kb q hq h1 h2
        rw [← eb] at this
        exact this.trans List.filter_sublist
  rw [pm.length_eq, flat_sum (m := (leL S B).length * chs (A.length + B.length) B.length) fun a ha => ?_]
  rw [flat_sum (m := chs (A.length + B.length) B.length) fun b hb => ?_]
  rw [shf_len _ _ _ rfl, (leL_mem.mp ha).1.length_eq, (leL_mem.mp hb).1.length_eq]
end
theorem first_le {l : List Nat} {a x : Nat} (p : l.Pairwise (· < ·)) (h : l[0]? = some a) (hx : x ∈ l) : a ≤ x := by
  cases l with
  | nil => cases hx
  | cons b l =>
    cases h
    rcases List.mem_cons.mp hx with rfl | hx
    · exact Nat.le_refl _
    · exact Nat.le_of_lt ((List.pairwise_cons.mp p).1 x hx)
section
variable {n : Nat} {es os : List Pr} {S : List PP} (E : Edges n es) (pm : os.Perm es) (hS : S.Perm (folN n fun p => turnOf p os))
include E pm hS
/-- what two following edges share -/
theorem pair_at {r : PP} (hr : r ∈ S) : r.1 ∈ es ∧ r.2 ∈ es ∧ ∃ p a b, Tch r.1 p a ∧ Tch r.2 p b := by
  obtain ⟨h1, h2, _, p, a, b, _, _, _, t1, t2⟩ := fol_is E pm (e := r.1) (f := r.2) (hS.mem_iff.mp hr)
  exact ⟨h1, h2, p, a, b, t1, t2⟩
theorem conn_tch {e : Pr} {p a : Nat} (he : e ∈ es) (t : Tch e p a) : Conn es e.1 p := fun R hR => by
  rcases t with ⟨h1, h2⟩ | ⟨h1, h2⟩
  · rw [h1]
  · rw [hR e he]
    first | rw [h2] | rw [h1]
/-- all edges at one position are on one side -/
theorem same_at {T : Pr → Bool} (hT : ∀ r ∈ S, T r.1 = T r.2) {e f : Pr} {p a b : Nat} (he : e ∈ es) (hf : f ∈ es) (te : Tch e p a) (tf : Tch f p b) : T e = T f := by
  have chain : ∀ (L : List Nat), (∀ A x y B, L = A ++ x :: y :: B → T (eb p x) = T (eb p y)) → ∀ x ∈ L, ∀ y ∈ L, T (eb p x) = T (eb p y) := by
    have key : ∀ (L : List Nat) (x : Nat), (∀ A u v B, x :: L = A ++ u :: v :: B → T (eb p u) = T (eb p v)) → ∀ y ∈ L, T (eb p x) = T (eb p y) := by
      intro L
      induction L with
      | nil => exact fun x _ y hy => nomatch hy
      | cons z L ih =>
        intro x h y hy
        have xz := h [] x z L rfl
        rcases List.mem_cons.mp hy with rfl | hy
        · exact xz
        · rw [xz]
          exact ih z (fun A u v B e => h (x :: A) u v B (by rw [e]; rfl)) y hy
    intro L h x hx y hy
    cases L with
    | nil => cases hx
    | cons z L =>
      have k := key L z h
      rcases List.mem_cons.mp hx with h1 | h1 <;> rcases List.mem_cons.mp hy with h2 | h2
      · rw [h1, h2]
      · rw [h1]
        exact k y h2
      · rw [h2]
        exact (k x h1).symm
      · rw [← k x h1, k y h2]
  have inT : ∀ {e : Pr} {a : Nat}, e ∈ es → Tch e p a → a ∈ turnOf p os ∧ e = eb p a := fun {e a} he t => by
    refine ⟨(turn_perm pm p).mem_iff.mpr ?_, (eb_touch t (E.inn e he).1).symm⟩
    refine List.mem_filterMap.mpr ⟨e, he, ?_⟩
    rcases t with ⟨h1, h2⟩ | ⟨h1, h2⟩
    · rw [if_pos h1, h2]
    · have := (E.inn e he).1
      rw [if_neg (by omega), if_pos (by omega)]
      first | rw [h2] | rw [h1]
  obtain ⟨m1, e1⟩ := inT he te
  obtain ⟨m2, e2⟩ := inT hf tf
  rw [e1, e2]
  have pn : p < n := (turn_edge E ((turn_perm pm p).mem_iff.mp m1)).2.2.2
  exact chain (turnOf p os) (fun A x y B h => hT (eb p x, eb p y) (hS.mem_iff.mpr (mem_folN.mpr ⟨p, pn, A, x, y, B, h, rfl⟩))) a m1 b m2
theorem far_tree {e g : Pr} (he : e ∈ es) (hg : g ∈ es) : FarP S none e g ↔ Conn es e.1 g.1 := by
  constructor
  · intro h R hR
    have := h (fun z => R z.1) fun r hr _ _ => by
      obtain ⟨h1, h2, p, a, b, t1, t2⟩ := pair_at E pm hS hr
      show R r.1.1 = R r.2.1
      rw [conn_tch E pm hS h1 t1 R hR, conn_tch E pm hS h2 t2 R hR]
    exact this.symm
  · intro h T hT
    have hT : ∀ r ∈ S, T r.1 = T r.2 := fun r hr => hT r hr (fun z => nomatch z.1) fun z => nomatch z.2
    have e1 : Tch e e.1 e.2 := .inl ⟨rfl, rfl⟩
    have R := h (fun p => @decide (∃ f ∈ es, (∃ a, Tch f p a) ∧ T f = T e) (Classical.propDecidable _)) fun f hf => by
      have iff : ∀ {p a : Nat}, Tch f p a → ((∃ f' ∈ es, (∃ a, Tch f' p a) ∧ T f' = T e) ↔ T f = T e) := fun {p a} t => ⟨fun ⟨f', hf', ⟨a', t'⟩, e'⟩ => by
        rw [← e']
        exact same_at E pm hS hT hf hf' t t', fun e' => ⟨f, hf, ⟨a, t⟩, e'⟩⟩
      have t1 : Tch f f.1 f.2 := .inl ⟨rfl, rfl⟩
      have t2 : Tch f f.2 f.1 := .inr (by first | exact ⟨rfl, rfl⟩)
      show @decide _ (Classical.propDecidable _) = @decide _ (Classical.propDecidable _)
      by_cases c : T f = T e
      · rw [@decide_eq_true _ (Classical.propDecidable _) ((iff t1).mpr c), @decide_eq_true _ (Classical.propDecidable _) ((iff t2).mpr c)]
      · rw [@decide_eq_false _ (Classical.propDecidable _) fun z => c ((iff t1).mp z), @decide_eq_false _ (Classical.propDecidable _) fun z => c ((iff t2).mp z)]
    have R : @decide (∃ f ∈ es, (∃ a, Tch f e.1 a) ∧ T f = T e) (Classical.propDecidable _) = @decide (∃ f ∈ es, (∃ a, Tch f g.1 a) ∧ T f = T e) (Classical.propDecidable _) := R
    rw [@decide_eq_true (∃ f ∈ es, (∃ a, Tch f e.1 a) ∧ T f = T e) (Classical.propDecidable _) ⟨e, he, ⟨_, e1⟩, rfl⟩] at R
    obtain ⟨f, hf, ⟨a, t⟩, ef⟩ := @of_decide_eq_true _ (Classical.propDecidable _) R.symm
    rw [← ef]
    exact same_at E pm hS hT hg hf (.inl ⟨rfl, rfl⟩ : Tch g g.1 g.2) t
/-- the orders of a tree's edges -/
theorem tree_count (few : es.length ≤ 40) {t : List Nat} {e0 : Pr} (ht : ∀ x, x ∈ t ↔ Conn es e0.1 x) (he : e0 ∈ es) : (plc S 40 e0 none).sum = (leL S (inT es t)).length := by
  have B : BridgesP S := fun q hq => by
    obtain ⟨T, t1, t2⟩ := fol_bridges E pm q (hS.mem_iff.mp hq)
    exact ⟨T, t1, fun r hr ne => t2 r (hS.mem_iff.mp hr) ne⟩
  have inn : ∀ q ∈ S, q.1 ∈ es ∧ q.2 ∈ es := fun q hq => ⟨(pair_at E pm hS hq).1, (pair_at E pm hS hq).2.1⟩
  have eq : farL S es none e0 = inT es t := List.filter_congr fun g hg => by
    rw [Bool.eq_iff_iff]
    constructor
    · intro h
      exact decide_eq_true ((ht g.1).mpr ((far_tree E pm hS he hg).mp (@of_decide_eq_true _ (Classical.propDecidable _) h)))
    · intro h
      exact @decide_eq_true _ (Classical.propDecidable _) ((far_tree E pm hS he hg).mpr ((ht g.1).mp (of_decide_eq_true h)))
  rw [plc_exact B (hS.nodup_iff.mpr (folN_nodup E pm)) E.nodup inn 40 e0 none he (Nat.le_trans (List.length_filter_le _ _) few), eq]
  refine plcs_sum fun o ho => ?_
  have p := (leL_mem.mp ho).1
  rw [← p.length_eq]
  refine idx_lt (p.mem_iff.mpr ?_)
  rw [← eq]
  exact mem_far.mpr ⟨he, fun _ _ => rfl⟩
theorem oc_exact (few : es.length ≤ 40) {tr : Nat → List Nat} (tf : ∀ i, i < n → (tr i).Pairwise (· < ·) ∧ ∀ x, x ∈ tr i ↔ Conn es i x) : (ocF S es ((headsN n tr).map tr)).1 = (leL S es).length := by
  have hin : ∀ h ∈ headsN n tr, h < n ∧ (tr h)[0]? = some h := fun h hh => ⟨List.mem_range.mp (List.mem_filter.mp hh).1, of_decide_eq_true (List.mem_filter.mp hh).2⟩
  have hnd : (headsN n tr).Nodup := List.Pairwise.filter _ List.nodup_range
  have closed : ∀ r ∈ S, ∀ h, h < n → (r.1 ∈ inT es (tr h) ↔ r.2 ∈ inT es (tr h)) := fun r hr h hn => by
    obtain ⟨h1, h2, p, a, b, t1, t2⟩ := pair_at E pm hS hr
    have c := (conn_tch E pm hS h1 t1).trans (conn_tch E pm hS h2 t2).symm
    unfold inT
    rw [List.mem_filter, List.mem_filter, decide_eq_true_iff, decide_eq_true_iff, (tf h hn).2, (tf h hn).2]
    exact ⟨fun k => ⟨h2, k.2.trans c⟩, fun k => ⟨h1, k.2.trans c.symm⟩⟩
  have one : ∀ h h', (h < n ∧ (tr h)[0]? = some h) → (h' < n ∧ (tr h')[0]? = some h') → ∀ e, e ∈ inT es (tr h) → e ∈ inT es (tr h') → h = h' := fun h h' k k' e he he' => by
    have c1 := ((tf h k.1).2 e.1).mp (of_decide_eq_true (List.mem_filter.mp he).2)
    have c2 := ((tf h' k'.1).2 e.1).mp (of_decide_eq_true (List.mem_filter.mp he').2)
    have l1 := first_le (tf h k.1).1 k.2 (((tf h k.1).2 h').mpr (c1.trans c2.symm))
    have l2 := first_le (tf h' k'.1).1 k'.2 (((tf h' k'.1).2 h).mpr (c2.trans c1.symm))
    omega
  have p1 : ((headsN n tr).flatMap fun h => inT es (tr h)).Nodup := nodup_flat hnd (fun h _ => E.nodup.filter _) fun h hh h' hh' e he he' => one h h' (hin h hh) (hin h' hh') e he he'
  have run : ∀ (hs : List Nat) (W : List Pr), (∀ h ∈ hs, h < n) → (W ++ hs.flatMap fun h => inT es (tr h)).Nodup →
      (hs.map tr).foldl (ocStep S es) ((leL S W).length, W.length) = ((leL S (W ++ hs.flatMap fun h => inT es (tr h))).length, (W ++ hs.flatMap fun h => inT es (tr h)).length) := by
    intro hs
    induction hs with
    | nil =>
      intro W _ _
      rw [List.flatMap_nil, List.append_nil]
      rfl
    | cons h hs ih =>
      intro W hl nd
      rw [List.flatMap_cons, ← List.append_assoc] at nd ⊢
      have ndW := (List.nodup_append.mp nd).1
      rw [List.map_cons, List.foldl_cons]
      have stp : ocStep S es ((leL S W).length, W.length) (tr h) = ((leL S (W ++ inT es (tr h))).length, (W ++ inT es (tr h)).length) := by
        have hn := hl h List.mem_cons_self
        unfold ocStep
        by_cases c : 0 < (inT es (tr h)).length
        · rw [if_pos c]
          obtain ⟨e0, he0⟩ : ∃ e0, (inT es (tr h))[0]? = some e0 := ⟨_, List.getElem?_eq_getElem c⟩
          have g0 : (inT es (tr h)).getD 0 (0, 0) = e0 := by
            rw [List.getD_eq_getElem?_getD, he0]
            rfl
          have m0 := List.mem_filter.mp (List.mem_of_getElem? he0)
          have c0 := ((tf h hn).2 e0.1).mp (of_decide_eq_true m0.2)
          rw [g0, tree_count E pm hS few (t := tr h) (fun x => by
            rw [(tf h hn).2 x]
            exact ⟨fun k => c0.symm.trans k, fun k => c0.trans k⟩) m0.1]
          rw [leL_mrg0 ndW fun r hr k => ?_, List.length_append]
          have dis := (List.nodup_append.mp ndW).2.2
          rcases k with ⟨k1, k2⟩ | ⟨k1, k2⟩
          · exact dis r.1 k1 r.1 ((closed r hr h hn).mpr k2) rfl
          · exact dis r.2 k2 r.2 ((closed r hr h hn).mp k1) rfl
        · rw [if_neg c, List.length_eq_zero_iff.mp (by omega : (inT es (tr h)).length = 0), List.append_nil]
      rw [stp]
      exact ih _ (fun h' hh' => hl h' (List.mem_cons_of_mem _ hh')) nd
  have p2 := run (headsN n tr) [] (fun h hh => (hin h hh).1) (by rw [List.nil_append]; exact p1)
  rw [List.nil_append] at p2
  have z : ((leL S ([] : List Pr)).length, ([] : List Pr).length) = (1, 0) := by
    have : leL S ([] : List Pr) = [[]] := by
      show List.filter _ [[]] = _
      have k : okL S ([] : List Pr) [] = true := decide_eq_true fun q hq h1 => absurd h1 List.not_mem_nil
      rw [List.filter_cons, if_pos k]
      rfl
    rw [this]
    rfl
  rw [z] at p2
  unfold ocF
  rw [p2]
  show (leL S _).length = _
  refine (leL_perm p1 ?_).length_eq
  refine (List.perm_ext_iff_of_nodup p1 E.nodup).mpr fun g => ?_
  constructor
  · intro hg
    obtain ⟨h, _, k⟩ := List.mem_flatMap.mp hg
    exact (List.mem_filter.mp k).1
  · intro hg
    have gi := E.inn g hg
    have gn : g.1 < n := by omega
    have self : g.1 ∈ tr g.1 := ((tf _ gn).2 _).mpr (Conn.refl _ _)
    obtain ⟨m, hm⟩ : ∃ m, (tr g.1)[0]? = some m := ⟨_, List.getElem?_eq_getElem (List.length_pos_of_mem self)⟩
    have cm := ((tf _ gn).2 m).mp (List.mem_of_getElem? hm)
    have mn : m < n := by
      have := cm (fun z => decide (z < n)) fun e he => by
        have := E.inn e he
        show decide (e.1 < n) = decide (e.2 < n)
        rw [decide_eq_true (by omega), decide_eq_true (by omega)]
      exact of_decide_eq_true (this.symm.trans (decide_eq_true gn))
    have mself : m ∈ tr m := ((tf _ mn).2 _).mpr (Conn.refl _ _)
    obtain ⟨m2, hm2⟩ : ∃ m2, (tr m)[0]? = some m2 := ⟨_, List.getElem?_eq_getElem (List.length_pos_of_mem mself)⟩
    have c2 := ((tf _ mn).2 m2).mp (List.mem_of_getElem? hm2)
    have l1 := first_le (tf _ gn).1 hm (((tf _ gn).2 m2).mpr (cm.trans c2))
    have l2 := first_le (tf _ mn).1 hm2 mself
    have e2 : m2 = m := by omega
    rw [e2] at hm2
    exact List.mem_flatMap.mpr ⟨m, List.mem_filter.mpr ⟨List.mem_range.mpr mn, decide_eq_true hm2⟩, List.mem_filter.mpr ⟨hg, decide_eq_true (((tf _ mn).2 _).mpr cm.symm)⟩⟩
/-- the pairs are in their order exactly if the turns are the same -/
theorem keeps_iff {o : List Pr} (po : o.Perm es) : (∀ q ∈ S, q.1 ∈ es → q.2 ∈ es → [q.1, q.2].Sublist o) ↔ ∀ p, turnOf p o = turnOf p os := by
  constructor
  · intro h p
    have nd := turn_nodup E pm p
    have no := turn_nodup E po p
    have pp : (turnOf p o).Perm (turnOf p os) := (turn_perm po p).trans (turn_perm pm p).symm
    have cons : ∀ A a b B, turnOf p os = A ++ a :: b :: B → [a, b].Sublist (turnOf p o) := fun A a b B e => by
      have pn : p < n := (turn_edge E ((turn_perm pm p).mem_iff.mp (show a ∈ turnOf p os by rw [e]; simp))).2.2.2
      have m : (eb p a, eb p b) ∈ folN n fun p => turnOf p os := mem_folN.mpr ⟨p, pn, A, a, b, B, e, rfl⟩
      have i := fol_is E pm m
      have s := h _ (hS.mem_iff.mpr m) i.1 i.2.1
      have ta := turn_edge E ((turn_perm pm p).mem_iff.mp (show a ∈ turnOf p os by rw [e]; simp))
      have tb := turn_edge E ((turn_perm pm p).mem_iff.mp (show b ∈ turnOf p os by rw [e]; simp))
      have get : ∀ {x : Nat}, eb p x ∈ es → Tch (eb p x) p x → (if (eb p x).1 = p then some (eb p x).2 else if (eb p x).2 = p then some (eb p x).1 else none) = some x := fun {x} hx t => by
        have lt := (E.inn _ hx).1
        rcases t with ⟨h1, h2⟩ | ⟨h1, h2⟩
        · rw [if_pos h1, h2]
        · rw [if_neg (by omega), if_pos h1, h2]
      have f : (List.filterMap (fun e : Pr => if e.1 = p then some e.2 else if e.2 = p then some e.1 else none) [eb p a, eb p b]).Sublist (turnOf p o) := s.filterMap _
      have e1 : List.filterMap (fun e : Pr => if e.1 = p then some e.2 else if e.2 = p then some e.1 else none) [eb p a, eb p b] = [a, b] := by
        rw [List.filterMap_cons, get ta.1 ta.2.1, List.filterMap_cons, get tb.1 tb.2.1]
        rfl
      rw [e1] at f
      exact f
    -- the place in the other turn grows
    have up : (turnOf p os).Pairwise fun a b => (turnOf p o).idxOf a < (turnOf p o).idxOf b := by
      have gen : ∀ L : List Nat, (∀ A a b B, L = A ++ a :: b :: B → (turnOf p o).idxOf a < (turnOf p o).idxOf b) → L.Pairwise fun a b => (turnOf p o).idxOf a < (turnOf p o).idxOf b := by
        intro L
        induction L with
        | nil => exact fun _ => .nil
        | cons x L ih =>
          intro h
          have r := ih fun A a b B e => h (x :: A) a b B (by rw [e]; rfl)
          refine .cons (fun y hy => ?_) r
          cases L with
          | nil => cases hy
          | cons z L =>
            have xz := h [] x z L rfl
            rcases List.mem_cons.mp hy with rfl | hy
            · exact xz
            · exact Nat.lt_trans xz ((List.pairwise_cons.mp r).1 y hy)
      refine gen _ fun A a b B e => ?_
      exact sub_idx no (cons A a b B e)
    refine List.Perm.eq_of_pairwise (le := fun a b => (turnOf p o).idxOf a ≤ (turnOf p o).idxOf b) (fun a b ha hb h1 h2 => ?_) (List.pairwise_iff_getElem.mpr fun i j hi hj ij => ?_) (up.imp fun h => Nat.le_of_lt h) pp
    · have hb := pp.mem_iff.mpr hb
      have la := idx_lt ha
      have lb := idx_lt hb
      have e1 := List.getElem_idxOf la
      have e2 := List.getElem_idxOf lb
      rw [← e1, ← e2]
      congr 1
      omega
    · show (turnOf p o).idxOf (turnOf p o)[i] ≤ (turnOf p o).idxOf (turnOf p o)[j]
      rw [idx_get no hi, idx_get no hj]
      omega
  · intro h q hq h1 h2
    have e : (folN n fun p => turnOf p o) = folN n fun p => turnOf p os := by
      congr 1
      funext p
      exact h p
    have m : (q.1, q.2) ∈ folN n fun p => turnOf p o := by
      rw [e]
      exact hS.mem_iff.mp hq
    obtain ⟨A, B, C, ho⟩ := (fol_is E po m).2.2.1
    rw [ho]
    exact (List.Sublist.cons₂ q.1 ((List.singleton_sublist.mpr List.mem_cons_self).trans (List.sublist_append_right B _))).trans (List.sublist_append_right A _)
end
end Os
namespace K10
open PySem PySem.Spec PyProof.Rows L2 Os Evl
abbrev sTrs : Stmt := topS 20
theorem scTrs : FnScope ["forest", "position", "tree"] ["forest"] (defScope sTrs) := ⟨rfl, rfl, rfl, by decide +kernel, rfl, by decide +kernel, by decide +kernel⟩
abbrev sChkP : Stmt := topS 15
theorem scChkP : FnScope ["forest", "position"] ["forest", "position"] (defScope sChkP) := ⟨rfl, rfl, rfl, by decide +kernel, rfl, by decide +kernel, by decide +kernel⟩
abbrev sNbr : Stmt := topS 19
theorem scNbr : FnScope ["forest", "position"] ["forest", "position"] (defScope sNbr) := ⟨rfl, rfl, rfl, by decide +kernel, rfl, by decide +kernel, by decide +kernel⟩
theorem heads_le (n : Nat) (tr : Nat → List Nat) : (headsN n tr).length ≤ n := by
  have := List.length_filter_le (fun i => decide ((tr i)[0]? = some i)) (List.range n)
  rw [List.length_range] at this
  exact this
def TrsV (H : Hp) (bs : List Addr) (tr : Nat → List Nat) (L : List Nat) : Prop := bs.length = L.length ∧ ∀ (j : Nat) (c : Addr), bs[j]? = some c → ∃ i, L[j]? = some i ∧ H c = some (.lst (nats (tr i)))
theorem TrsV.ex {H H' : Hp} {bs : List Addr} {tr : Nat → List Nat} {L : List Nat} (h : TrsV H bs tr L) (e : Ex H H') : TrsV H' bs tr L := ⟨h.1, fun j c hc => by
  obtain ⟨i, hi, h2⟩ := h.2 j c hc
  exact ⟨i, hi, e _ _ h2⟩⟩
theorem TrsV.snoc {H : Hp} {bs : List Addr} {tr : Nat → List Nat} {L : List Nat} {c : Addr} {i : Nat} (h : TrsV H bs tr L) (hc : H c = some (.lst (nats (tr i)))) : TrsV H (bs ++ [c]) tr (L ++ [i]) := ⟨by rw [List.length_append, List.length_append, h.1]; rfl, fun j d hd => by
  rcases Nat.lt_or_ge j bs.length with lt | ge
  · rw [List.getElem?_append_left lt] at hd
    obtain ⟨i, hi, h2⟩ := h.2 j d hd
    exact ⟨i, by rw [List.getElem?_append_left (by rw [← h.1]; exact lt)]; exact hi, h2⟩
  · rw [List.getElem?_append_right ge] at hd
    have z : j - bs.length = 0 := by
      have := (List.getElem?_eq_some_iff.mp hd).1
      rw [List.length_singleton] at this
      omega
    rw [z] at hd
    cases hd
    refine ⟨i, ?_, hc⟩
    rw [List.getElem?_append_right (by rw [← h.1]; exact ge), ← h.1, z]
    rfl⟩
theorem TrsV.put {H : Hp} {bs : List Addr} {tr : Nat → List Nat} {L : List Nat} {D : Addr} {ws zs : List V} (h : TrsV H bs tr L) (hD : H D = some (.lst ws)) (nd : ∀ c ∈ bs, c ≠ D) : TrsV (upd H D (.lst zs)) bs tr L := ⟨h.1, fun j c hc => by
  obtain ⟨i, hi, h2⟩ := h.2 j c hc
  exact ⟨i, hi, by rw [upd_ne (nd c (List.mem_of_getElem? hc))]; exact h2⟩⟩
section
variable {P : Program} {w : World} {K : PySem.W.Frag} {mg : Str → Option Value} {base : Heap}
def spTrs : Sp := fun vs H Q _ => ∃ (v : V) (n : Nat) (es : List Pr), vs = [v] ∧ GraphV H v n es ∧ IsForest n es ∧
  ∀ H' L bs tr, Ex H H' → H L = none → H' L = some (.lst (bs.map V.ref)) → TreesF n es tr → TrsV H' bs tr (headsN n tr) → Q (.ref L) H'
theorem ok_trs {f fF fT : Addr} {fd fdF fdT : FuncData} {k : Nat} (F : Fun K "trees" "trees" sTrs f fd)
    (GF : FnOk P w K mg base CX0 k fF fdF ["forest"] spChkF) (FF : Fun K "check_forest" "check_forest" sChkF fF fdF) (bF : Binds K fdF ["forest"] []) (gF : mg "check_forest" = some (.ref fF))
    (GT : FnOk P w K mg base CX0 k fT fdT ["forest"] spTrees) (FT : Fun K "tree_lists" "tree_lists" sTrees fT fdT) (bT : Binds K fdT ["forest"] []) (gT : mg "tree_lists" = some (.ref fT)) (mEnum : mg "enumerate" = none) : FnOk P w K mg base CX0 (k + 1) f fd ["forest"] spTrs := by
  refine F.ok scTrs (fun vs H Q E h => ?_) (fun cdv A outer s H vs Q E hr h => ?_)
  · obtain ⟨v, n, es, rfl, _⟩ := h
    rfl
  · obtain ⟨g, n, es, rfl, hg, ok, q⟩ := h
    refine ⟨_, (pss_cons (ps_expr (pe_call GF hr (by rfl) gF FF.kp bF .nil pass0 (pa_cons (pv 0) pa_nil)))
      (pss_one (ps_ret (pe_lc (own := [("position", 1), ("tree", 2)]) (g := gTup K 2 (gCons (gName 1) (gCons (gName 2) gNil))) (tt := tTest (tOp rEq (tOp (rIxL K) (tVar 2) (tC (.int 0))) (tVar 1))) (te := tVar 2) rfl scTrs.nd (pi_enum (by rfl) mEnum (pa_cons (pe_call GT hr (by rfl) gT FT.kp bT .nil pass0 (pa_cons (pv 0) pa_nil)) pa_nil)) (blkOk_by (N := ["forest", "position", "tree"]) (sc := defScope sTrs) (by decide +kernel)) (fun _ _ _ _ _ => pg_tup rfl (pgs_cons (pg_name (i := 1) scTrs.nd rfl (Or.inl rfl)) (pgs_cons (pg_name (i := 2) scTrs.nd rfl (Or.inl rfl)) pgs_nil))) (fun _ _ _ _ _ => pts_one (pt_cmpR op_eq (pe_ix ix_list (pv 2) pe_int (fun _ _ => rfl)) (pv 1) (nomark _))) (fun _ _ _ _ _ => pv 2))))), ?_⟩
    refine q_drop (v := .non) (ev_sp (ea_cons (ev_var rfl) ea_nil) fun H1 e1 Q q => ⟨_, n, es, rfl, hg.ex e1, ok, q⟩) fun H2 x2 => ?_
    have n40 := ok.n40
    refine ⟨g, rfl, g, n, es, rfl, hg.ex x2, ok, fun H5 L as tr e5 hL h5 rw5 tf => ⟨L, as.map V.ref, rfl, sq_of h5, fun D hD => ?_⟩⟩
    have al : (as.map V.ref).length = n := by rw [List.length_map, rw5.len]
    refine lc_it walk_enum (fun i Hh => Ex H5 Hh ∧ ∃ bs, Hh D = some (.lst (bs.map V.ref)) ∧ bs.length ≤ i ∧ i ≤ n ∧ TrsV Hh bs tr ((List.range i).filter fun i => decide ((tr i)[0]? = some i)) ∧ ∀ c ∈ bs, ∃ o, H5 c = some o) ⟨Ex.new hD, [], upd_same, Nat.le_refl _, Nat.zero_le _, ⟨rfl, fun j c h => nomatch h⟩, fun c h => nomatch h⟩ (fun i Hh _ p => sq_of (p.1 _ _ h5)) ?_ ?_
    · rintro i x Hh H6 hk ⟨x6, bs, hws, wl, il, tv, old⟩ ⟨t, y, z, rfl, ht, rfl, hy, hz⟩
      have kn : i < n := by omega
      cases hy
      dsimp only at hz
      rw [List.getElem?_map] at hz
      obtain ⟨c, hc, rfl⟩ := Option.map_eq_some_iff.mp hz
      have et := Ex.new (o := .tup [.int (i : Int), .ref c]) ht
      refine ⟨t, _, rfl, st_of upd_same, rfl, _, _, rfl, _, [], rfl, rfl, ?_⟩
      refine ⟨rfl, ?_⟩
      have x7 := x6.trans et
      have row := x7 _ _ (rw5.at' _ _ hc)
      obtain ⟨l0, r0, er⟩ : ∃ a r, tr i = a :: r := by
        have : i ∈ tr i := ((tf i kn).2 i).mpr (Conn.refl es i)
        cases htr : tr i with
        | nil => rw [htr] at this; cases this
        | cons a r => exact ⟨a, r, rfl⟩
      have rng : (List.range (i + 1)).filter (fun i => decide ((tr i)[0]? = some i)) = ((List.range i).filter fun i => decide ((tr i)[0]? = some i)) ++ (if decide ((tr i)[0]? = some i) = true then [i] else []) := by
        rw [List.range_succ, List.filter_append]
        show _ ++ List.filter _ [i] = _
        rw [List.filter_cons]
        rfl
      have dn : ∀ c ∈ bs, c ≠ D := fun c hc z => by
        obtain ⟨o, ho⟩ := old c hc
        rw [z, hD] at ho
        cases ho
      refine (et_test (ev_op (ev_op (ev_var rfl) ev_c (rv_ixL (sq_of row) (atI_nat (j := 0) (by rw [er]; rfl)))) (ev_var rfl) (rv_eq rfl))) _ (Ex.refl _) _ fun H8 e8 => ?_
      have ws8 := e8 _ _ (et _ _ hws)
      have tv8 := tv.ex (et.trans e8)
      have row8 := e8 _ _ row
      have same : decide (V.int ((l0 : Nat) : Int) = V.int (i : Int)) = decide ((tr i)[0]? = some i) := by
        rw [er]
        show _ = decide (some l0 = some i)
        refine decide_eq_decide.mpr ⟨fun h => ?_, fun h => ?_⟩
        · have := V.int.inj h
          exact congrArg some (by omega)
        · rw [Option.some.inj h]
      rw [same]
      split
      · rename_i hb
        rw [if_pos hb] at rng
        refine ⟨.ref c, rfl, bs.map V.ref, ws8, sz_lt (by rw [List.length_map]; omega), (x7.trans e8).mut hD, bs ++ [c], ?_, ?_, by omega, ?_, fun c' hc' => ?_⟩
        · rw [upd_same, List.map_append]
          rfl
        · rw [List.length_append]
          show bs.length + 1 ≤ i + 1
          omega
        · rw [rng]
          refine TrsV.put (tv8.snoc row8) ws8 fun c' hc' => ?_
          rcases List.mem_append.mp hc' with h | h
          · exact dn c' h
          · rw [List.mem_singleton.mp h]
            exact fun z => by
              have := rw5.at' _ _ hc
              rw [z, hD] at this
              cases this
        · rcases List.mem_append.mp hc' with h | h
          · exact old c' h
          · rw [List.mem_singleton.mp h]
            exact ⟨_, rw5.at' _ _ hc⟩
      · rename_i hb
        rw [if_neg hb, List.append_nil] at rng
        refine ⟨x7.trans e8, bs, ws8, by omega, by omega, ?_, old⟩
        rw [rng]
        exact tv8
    · rintro Hh ⟨x6, bs, hbs, _, _, tv, _⟩
      rw [al] at tv
      exact q Hh D bs tr (x2.trans (e5.trans x6)) (fresh_back (x2.trans e5) hD) hbs tf tv
end
section
variable {P : Program} {w : World} {K : PySem.W.Frag} {mg : Str → Option Value} {base : Heap}
def spChkP : Sp := fun vs H Q _ => ∃ (v : V) (p n : Nat) (es : List Pr), vs = [v, .int (p : Int)] ∧ GraphV H v n es ∧ p < n ∧ ∀ H', Ex H H' → Q .non H'
theorem ok_chkP {f fP : Addr} {fd fdP : FuncData} {k : Nat} (F : Fun K "check_position" "check_position" sChkP f fd)
    (GP : FnOk P w K mg base CX0 k fP fdP ["n", "thing"] spPos) (FP : Fun K "is_position" "is_position" sPos fP fdP) (bP : Binds K fdP ["n", "thing"] []) (gP : mg "is_position" = some (.ref fP)) : FnOk P w K mg base CX0 (k + 1) f fd ["forest", "position"] spChkP := by
  refine F.ok scChkP (fun vs H Q E h => ?_) (fun cdv A outer s H vs Q E hr h => ?_)
  · obtain ⟨v, p, n, es, rfl, _⟩ := h
    rfl
  · obtain ⟨v, p, n, es, rfl, hg, hp, q⟩ := h
    refine ⟨_, (pss_one (ps_if (pt_not (pt_val (pe_call GP hr (by rfl) gP FP.kp bP .nil pass0 (pa_cons (pe_ix ix_tup (pv 0) pe_int (fun _ _ => rfl)) (pa_cons (pv 1) pa_nil))))) pss_never pss_nil)), ?_⟩
    obtain ⟨g, a, xs, rfl, h1, _⟩ := hg
    have pos : posB (n : Int) (.int (p : Int)) = true := by
      show (decide ((0 : Int) ≤ (p : Int)) && decide ((p : Int) < (n : Int))) = true
      rw [decide_eq_true (by omega), decide_eq_true (by omega)]
      rfl
    refine s_when (b := !true) (et_not (et_B (ev_sp (ea_cons (ev_op (ev_var rfl) ev_c (rv_ixT (st_of h1) (atI_nat (j := 0) rfl))) (ea_cons (ev_var rfl) ea_nil)) fun H1 e1 Q q => ⟨(n : Int), _, .int (p : Int), rfl, .int _, by rw [pos]; exact q⟩))) (fun h => nomatch h) fun _ H1 e1 => q H1 e1
def spNbr : Sp := fun vs H Q _ => ∃ (v : V) (p n : Nat) (es : List Pr), vs = [v, .int (p : Int)] ∧ GraphV H v n es ∧ IsForest n es ∧ p < n ∧ ∀ H' c, Ex H H' → H c = none → H' c = some (.lst (nats (adj es p))) → Q (.ref c) H'
theorem ok_nbr {f fF fCP fL : Addr} {fd fdF fdCP fdL : FuncData} {k : Nat} (F : Fun K "neighbours" "neighbours" sNbr f fd)
    (GF : FnOk P w K mg base CX0 k fF fdF ["forest"] spChkF) (FF : Fun K "check_forest" "check_forest" sChkF fF fdF) (bF : Binds K fdF ["forest"] []) (gF : mg "check_forest" = some (.ref fF))
    (GCP : FnOk P w K mg base CX0 k fCP fdCP ["forest", "position"] spChkP) (FCP : Fun K "check_position" "check_position" sChkP fCP fdCP) (bCP : Binds K fdCP ["forest", "position"] []) (gCP : mg "check_position" = some (.ref fCP))
    (GL : FnOk P w K mg base CX0 k fL fdL ["forest"] spLists) (FL : Fun K "neighbour_lists" "neighbour_lists" sLists fL fdL) (bL : Binds K fdL ["forest"] []) (gL : mg "neighbour_lists" = some (.ref fL)) : FnOk P w K mg base CX0 (k + 1) f fd ["forest", "position"] spNbr := by
  refine F.ok scNbr (fun vs H Q E h => ?_) (fun cdv A outer s H vs Q E hr h => ?_)
  · obtain ⟨v, p, n, es, rfl, _⟩ := h
    rfl
  · obtain ⟨v, p, n, es, rfl, hg, ok, hp, q⟩ := h
    refine ⟨_, (pss_cons (ps_expr (pe_call GF hr (by rfl) gF FF.kp bF .nil pass0 (pa_cons (pv 0) pa_nil)))
      (pss_cons (ps_expr (pe_call GCP hr (by rfl) gCP FCP.kp bCP .nil pass0 (pa_cons (pv 0) (pa_cons (pv 1) pa_nil))))
      (pss_one (ps_ret (pe_ix ix_list (pe_call GL hr (by rfl) gL FL.kp bL .nil pass0 (pa_cons (pv 0) pa_nil)) (pv 1) (fun _ _ => rfl)))))), ?_⟩
    refine q_drop (v := .non) (ev_sp (ea_cons (ev_var rfl) ea_nil) fun H1 e1 Q q => ⟨_, n, es, rfl, hg.ex e1, ok, q⟩) fun H1 e1 => ?_
    refine q_drop (v := .non) (ev_sp (ea_cons (ev_var rfl) (ea_cons (ev_var rfl) ea_nil)) fun H2 e2 Q q => ⟨_, p, n, es, rfl, hg.ex (e1.trans e2), hp, q⟩) fun H2 e2 => ?_
    have x2 := e1.trans e2
    exact ⟨v, rfl, v, n, es, rfl, hg.ex x2, ok, fun H3 L as e3 hL h3 rw3 => by
      have lt : p < as.length := by
        rw [rw3.len]
        exact hp
      refine ⟨.int (p : Int), rfl, L, as.map V.ref, (p : Int), .ref as[p], rfl, rfl, sq_of h3, atI_nat (by rw [List.getElem?_map, List.getElem?_eq_getElem lt]; rfl), ?_⟩
      exact q H3 as[p] (x2.trans e3) (fresh_back x2 (rw3.new _ (List.getElem_mem lt))) (rw3.at' p _ (List.getElem?_eq_getElem lt))⟩
end
end K10
namespace K10
open PySem PySem.Spec PyProof.Rows L2 Os Evl
theorem flat_nats (l : List Nat) : (nats l).all flatV = true := List.all_eq_true.mpr fun x hx => by
  obtain ⟨z, _, rfl⟩ := List.mem_map.mp hx
  rfl
theorem inV_nats (x : Nat) : ∀ l : List Nat, inV (.int (x : Int)) (nats l) = decide (x ∈ l)
  | [] => rfl
  | y :: l => by
    have ih := inV_nats x l
    unfold inV nats at ih ⊢
    rw [List.map_cons, List.any_cons, ih]
    show (((y : Int) == (x : Int)) || decide (x ∈ l)) = decide (x ∈ y :: l)
    by_cases h : y = x
    · subst h
      simp
    · have h2 : ¬ x = y := fun e => h e.symm
      have h3 : ((y : Int) == (x : Int)) = false := beq_eq_false_iff_ne.mpr fun e => h (Int.ofNat.inj e)
      rw [h3]
      simp [h2]
section
variable {K : PySem.W.Frag} {σ : L2.St} {H : Hp} {ta te tl : TE} {a : Addr}
theorem ev_indexN {l : List Nat} {x : Nat} (h : Ev ta σ H (.ref a)) (ha : H a = some (.lst (nats l))) (he : Ev te σ H (.int (x : Int))) (hx : x ∈ l) :
    Ev (tBM K "list" (rIndex K) ta (tCons te tNil)) σ H (.int ((l.idxOf x : Nat) : Int)) := fun H1 e1 Q q =>
  h H1 e1 _ fun H2 e2 => ⟨.inl ⟨rfl, _, sq_of ((e1.trans e2) _ _ ha)⟩, he H2 (e1.trans e2) _ fun H3 e3 => by
    have lt := List.idxOf_lt_length_iff.mpr hx
    refine ⟨a, nats l, .int (x : Int), l.idxOf x, .int (x : Int), rfl, rfl, sq_of (((e1.trans e2).trans e3) _ _ ha), rfl, flat_nats l, ?_, beq_self_eq_true (x : Int), fun m z' hm hz' => ?_, q H3 (e2.trans e3)⟩
    · unfold nats
      rw [List.getElem?_map, List.getElem?_eq_getElem lt, List.getElem_idxOf]
      rfl
    · unfold nats at hz'
      rw [List.getElem?_map] at hz'
      obtain ⟨y, hy, rfl⟩ := Option.map_eq_some_iff.mp hz'
      have ne : y ≠ x := fun e => by
        obtain ⟨ml, me⟩ := List.getElem?_eq_some_iff.mp hy
        have := List.not_of_lt_findIdx (p := fun z => z == x) (xs := l) hm
        rw [me, e, beq_self_eq_true] at this
        cases this
      exact beq_eq_false_iff_ne.mpr fun e => ne (Int.ofNat.inj e)⟩
theorem ev_inN {l : List Nat} {x : Nat} (hx : Ev ta σ H (.int (x : Int))) (h : Ev tl σ H (.ref a)) (ha : SqL K H a (nats l) ∨ SqT K H a (nats l)) : Ev (tOp (rIn K false) ta tl) σ H (.bl (decide (x ∈ l))) := fun H1 e1 Q q =>
  hx H1 e1 _ fun H2 e2 => h H2 (e1.trans e2) _ fun H3 e3 => ⟨a, nats l, rfl, ha.elim (fun k => .inl (ex_l ((e1.trans e2).trans e3) k)) (fun k => .inr (ex_t ((e1.trans e2).trans e3) k)), rfl, flat_nats l, by
    show Q (.bl (inV (.int (x : Int)) (nats l))) H3
    rw [inV_nats]
    exact q H3 (e2.trans e3)⟩
/-- a comprehension over a tuple of numbers -/
theorem el_lcTN {l : List Nat} {j : Nat} {vs : List Nat} (v : Nat → V) (h : ∀ H1, Ex H H1 → ∀ Q : VK, (∀ a H2, Ex H1 H2 → SqT K H2 a (nats l) → Q (.ref a) H2) → tl σ H1 Q) (hz : l.length ≤ 40000) (hw : ∀ x, wipe ((wipe σ vs).set j (some x)) vs = wipe σ vs)
    (he : ∀ x H1, Ex H H1 → x ∈ l → Ev te ((wipe σ vs).set j (some (.int (x : Int)))) H1 (v x)) : EvL (tLc (iTup K tl) (gName j) tYes te vs) σ H (l.map v) := fun H0 e Q q => h H0 e _ fun a H1 e1 hx => ⟨a, rfl, ⟨nats l, hx⟩, fun Dl hD => by
  have eg : given (nats l).length (fun _ => true) (fun i => v (l.getD i 0)) = l.map v := by
    unfold nats
    rw [List.length_map]
    exact given_map l v _ fun i x e => by rw [List.getD_eq_getElem?_getD, e]; rfl
  refine lc_tup (xs := nats l) (Cw H1 (fun _ => true) (fun i => v (l.getD i 0)) Dl) ⟨hD, Ex.new hD, upd_same⟩ (fun k H' _ p => ex_t p.2.1 hx) (fun k x H' hk p => ?_) (fun H' p => q Dl H' (fresh_back e1 p.1) (e1.trans p.2.1) (by rw [← eg]; exact p.2.2))
  have lk : k < l.length := by
    have := (List.getElem?_eq_some_iff.mp hk).1
    unfold nats at this
    rwa [List.length_map] at this
  unfold nats at hk
  rw [List.getElem?_map] at hk
  obtain ⟨y, hy, rfl⟩ := Option.map_eq_some_iff.mp hk
  refine ⟨hw _, cw_turn p (by omega) (fun H3 e3 Q q => q H3 (Ex.refl H3)) (fun _ => ?_)⟩
  show Ev te _ H1 (v (l.getD k 0))
  rw [List.getD_eq_getElem?_getD, hy]
  exact he y H1 (e.trans e1) (List.mem_of_getElem? hy)⟩
end
/-- whether two edges cross on a ring -/
def crossB (l : List Nat) (e f : Pr) : Bool :=
  if e.1 ∈ [f.1, f.2] ∨ e.2 ∈ [f.1, f.2] ∨ ¬ ∀ x ∈ [e.1, e.2, f.1, f.2], x ∈ l then false else
  let lo := min (l.idxOf e.1) (l.idxOf e.2); let hi := max (l.idxOf e.1) (l.idxOf e.2)
  (decide (lo < l.idxOf f.1) && decide (l.idxOf f.1 < hi)) != (decide (lo < l.idxOf f.2) && decide (l.idxOf f.2 < hi))
theorem cross_no {l : List Nat} {es : List Pr} {e f : Pr} (nc : NoCr l es) (he : e ∈ es) (hf : f ∈ es) : crossB l e f = false := by
  unfold crossB
  by_cases h : e.1 ∈ [f.1, f.2] ∨ e.2 ∈ [f.1, f.2] ∨ ¬ ∀ x ∈ [e.1, e.2, f.1, f.2], x ∈ l
  · rw [if_pos h]
  · rw [if_neg h]
    have all : ∀ x ∈ [e.1, e.2, f.1, f.2], x ∈ l := Classical.byContradiction fun z => h (.inr (.inr z))
    have n1 : e.1 ∉ [f.1, f.2] := fun z => h (.inl z)
    have n2 : e.2 ∉ [f.1, f.2] := fun z => h (.inr (.inl z))
    simp only [List.mem_cons, List.not_mem_nil, or_false, not_or] at n1 n2
    have m1 := all e.1 (by simp)
    have m2 := all e.2 (by simp)
    have m3 := all f.1 (by simp)
    have m4 := all f.2 (by simp)
    have c1 := nc e he f hf m1 m2 m3 m4
    have c2 := nc f hf e he m3 m4 m1 m2
    have inj : ∀ {x y : Nat}, x ∈ l → l.idxOf x = l.idxOf y → x = y := fun {x y} hx e => by
      have lt := List.idxOf_lt_length_iff.mpr hx
      have a1 : l[l.idxOf x] = x := List.getElem_idxOf lt
      have lt2 : l.idxOf y < l.length := e ▸ lt
      have a2 : l[l.idxOf y] = y := List.getElem_idxOf lt2
      rw [← a1, ← a2]
      congr 1
    have d1 : l.idxOf e.1 ≠ l.idxOf f.1 := fun z => n1.1 (inj m1 z)
    have d2 : l.idxOf e.1 ≠ l.idxOf f.2 := fun z => n1.2 (inj m1 z)
    have d3 : l.idxOf e.2 ≠ l.idxOf f.1 := fun z => n2.1 (inj m2 z)
    have d4 : l.idxOf e.2 ≠ l.idxOf f.2 := fun z => n2.2 (inj m2 z)
    unfold Cr at c1 c2
    generalize l.idxOf e.1 = i1 at *
    generalize l.idxOf e.2 = i2 at *
    generalize l.idxOf f.1 = j1 at *
    generalize l.idxOf f.2 = j2 at *
    rw [bne_eq_false_iff_eq, Bool.eq_iff_iff, Bool.and_eq_true, Bool.and_eq_true, decide_eq_true_eq, decide_eq_true_eq, decide_eq_true_eq, decide_eq_true_eq]
    omega
theorem two_sorted {a b : Nat} {ns : List Int} (pm : ns.Perm [(a : Int), (b : Int)]) (pw : ns.Pairwise (· ≤ ·)) : ns = [((min a b : Nat) : Int), ((max a b : Nat) : Int)] := by
  have hl := pm.length_eq
  match ns, hl with
  | [x, y], _ =>
    have le : x ≤ y := (List.pairwise_cons.mp pw).1 y (List.mem_singleton.mpr rfl)
    have hx := pm.mem_iff.mp (List.mem_cons_self (a := x) (l := [y]))
    have hy := pm.mem_iff.mp (List.mem_cons_of_mem x (List.mem_singleton.mpr rfl : y ∈ [y]))
    have ha := pm.mem_iff.mpr (List.mem_cons_self (a := (a : Int)) (l := [(b : Int)]))
    have hb := pm.mem_iff.mpr (List.mem_cons_of_mem (a : Int) (List.mem_singleton.mpr rfl : (b : Int) ∈ [(b : Int)]))
    simp only [List.mem_cons, List.not_mem_nil, or_false] at hx hy ha hb
    have h1 : x = ((min a b : Nat) : Int) := by omega
    have h2 : y = ((max a b : Nat) : Int) := by omega
    rw [h1, h2]
section
variable {P : Program} {w : World} {K : PySem.W.Frag} {mg : Str → Option Value} {base : Heap}
def spCross : Sp := fun vs H Q _ => ∃ (r : Addr) (u v : V) (l : List Nat) (e f : Pr), vs = [.ref r, u, v] ∧ H r = some (.lst (nats l)) ∧ l.length ≤ 1000 ∧ PrV H u e ∧ PrV H v f ∧ ∀ H', Ex H H' → Q (.bl (crossB l e f)) H'
end
end K10
/-! the order reversed: pairs, ends, numbers of orders, items that meet -/
namespace Os
open PySem
def swP (q : PP) : PP := (q.2, q.1)
section
variable {n : Nat} {es os : List Pr} (E : Edges n es) (pm : os.Perm es)
include E pm
theorem fol_rev {q : PP} : q ∈ (folN n fun p => turnOf p os.reverse) ↔ swP q ∈ folN n fun p => turnOf p os := by
  rw [mem_folN, mem_folN]
  constructor
  · rintro ⟨p, hp, T1, a, b, T2, e, rfl⟩
    refine ⟨p, hp, T2.reverse, b, a, T1.reverse, ?_, rfl⟩
    have e : turnOf p os.reverse = T1 ++ a :: b :: T2 := e
    rw [turn_rev] at e
    have := congrArg List.reverse e
    rw [List.reverse_reverse] at this
    rw [this]
    simp
  · rintro ⟨p, hp, T1, a, b, T2, e, e2⟩
    refine ⟨p, hp, T2.reverse, b, a, T1.reverse, ?_, ?_⟩
    · have e : turnOf p os = T1 ++ a :: b :: T2 := e
      show turnOf p os.reverse = _
      rw [turn_rev, e]
      simp
    · obtain ⟨q1, q2⟩ := q
      injection e2 with h1 h2
      exact Prod.ext h2 h1
theorem fol_rev_perm : (folN n fun p => turnOf p os.reverse).Perm ((folN n fun p => turnOf p os).map swP) := by
  have pr : os.reverse.Perm es := os.reverse_perm.trans pm
  have inj : ∀ a b : PP, swP a = swP b → a = b := fun a b h => by
    injection h with h1 h2
    exact Prod.ext h2 h1
  refine (List.perm_ext_iff_of_nodup (folN_nodup E pr) ?_).mpr fun q => ?_
  · exact List.Pairwise.map swP (R := (· ≠ ·)) (S := (· ≠ ·)) (fun a b ne e => ne (inj a b e)) (folN_nodup E pm)
  · rw [fol_rev E pm, List.mem_map]
    exact ⟨fun h => ⟨swP q, h, rfl⟩, fun ⟨r, hr, e⟩ => by
      rw [← e]
      exact hr⟩
theorem pairs_rev : ordPP (folN n fun p => turnOf p os.reverse) = ordPP ((ordPP (folN n fun p => turnOf p os)).map swP) :=
  ord_same ((fol_rev_perm E pm).trans ((ord_perm _).map swP).symm)
theorem mem_rev {q : PP} : q ∈ ordPP (folN n fun p => turnOf p os.reverse) ↔ swP q ∈ ordPP (folN n fun p => turnOf p os) := by
  rw [(ord_perm _).mem_iff, (ord_perm _).mem_iff, fol_rev E pm]
theorem rch_rev {e f : Pr} : Rch (ordPP (folN n fun p => turnOf p os.reverse)) e f ↔ Rch (ordPP (folN n fun p => turnOf p os)) f e := by
  have key : ∀ {S T : List PP}, (∀ q, q ∈ S → swP q ∈ T) → ∀ {e f : Pr}, Rch S e f → Rch T f e := fun {S T} h {e f} r => by
    induction r with
    | refl e => exact .refl e
    | step k _ ih => exact ih.snoc (h _ k)
  exact ⟨key fun q hq => (mem_rev E pm).mp hq, key fun q hq => (mem_rev E pm).mpr hq⟩
theorem count_rev (few : es.length ≤ 40) {tr tr' : Nat → List Nat} (tf : ∀ i, i < n → (tr i).Pairwise (· < ·) ∧ ∀ x, x ∈ tr i ↔ Conn es i x) (tf' : ∀ i, i < n → (tr' i).Pairwise (· < ·) ∧ ∀ x, x ∈ tr' i ↔ Conn es i x) :
    (ocF (ordPP (folN n fun p => turnOf p os.reverse)) es ((headsN n tr').map tr')).1 = (ocF (ordPP (folN n fun p => turnOf p os)) es ((headsN n tr).map tr)).1 := by
  have pr : os.reverse.Perm es := os.reverse_perm.trans pm
  rw [oc_exact E pr (ord_perm _) few tf', oc_exact E pm (ord_perm _) few tf]
  have p : (leL (ordPP (folN n fun p => turnOf p os.reverse)) es).Perm ((leL (ordPP (folN n fun p => turnOf p os)) es).map List.reverse) := by
    refine (List.perm_ext_iff_of_nodup (leL_nodup E.nodup) ?_).mpr fun o => ?_
    · exact List.Pairwise.map List.reverse (R := (· ≠ ·)) (S := (· ≠ ·)) (fun a b ne e => ne (List.reverse_inj.mp e)) (leL_nodup E.nodup)
    · rw [leL_mem, List.mem_map]
      constructor
      · rintro ⟨h, k⟩
        refine ⟨o.reverse, leL_mem.mpr ⟨o.reverse_perm.trans h, fun q hq h1 h2 => ?_⟩, List.reverse_reverse o⟩
        have := k (swP q) ((mem_rev E pm).mpr hq) h2 h1
        exact List.reverse_sublist.mpr this
      · rintro ⟨o', ho', rfl⟩
        obtain ⟨h, k⟩ := leL_mem.mp ho'
        refine ⟨o'.reverse_perm.trans h, fun q hq h1 h2 => ?_⟩
        have := k (swP q) ((mem_rev E pm).mp hq) h2 h1
        exact List.reverse_sublist.mpr this
  rw [p.length_eq, List.length_map]
theorem met_rev {zs : List Str} (hl : zs.length = n) {e : Pr} (he : e ∈ es) : metA (swps zs os) os.reverse e = metB zs os e ∧ metB (swps zs os) os.reverse e = metA zs os e := by
  have nd : os.Nodup := pm.nodup_iff.mpr E.nodup
  have eo := pm.mem_iff.mpr he
  obtain ⟨h1, h2⟩ := E.inn e he
  obtain ⟨A, B, rfl⟩ := List.append_of_mem eo
  obtain ⟨nA, nB, nAB⟩ := List.nodup_append.mp nd
  have xA : e ∉ A := fun z => nAB e z e List.mem_cons_self rfl
  have xB : e ∉ B := (List.nodup_cons.mp nB).1
  have inn : ∀ f ∈ A ++ e :: B, f.1 < f.2 ∧ f.2 < n := fun f hf => E.inn f (pm.mem_iff.mp hf)
  have i1 : (A ++ e :: B).take ((A ++ e :: B).idxOf e) = A := by
    rw [List.idxOf_append, if_neg xA, List.idxOf_cons_self, Nat.zero_add, List.take_left]
  have i2 : (A ++ e :: B).reverse.take ((A ++ e :: B).reverse.idxOf e) = B.reverse := by
    have : (A ++ e :: B).reverse = B.reverse ++ e :: A.reverse := by simp
    rw [this, List.idxOf_append, if_neg (fun z => xB (List.mem_reverse.mp z)), List.idxOf_cons_self, Nat.zero_add, List.take_left]
  have la : (swps zs A).length = n := by rw [swps_len, hl]
  have undo : swps (swps zs (A ++ e :: B)) B.reverse = swp (swps zs A) e := by
    rw [swps_append]
    show swps (swps (swp (swps zs A) e) B) B.reverse = _
    exact swps_back (n := n) (by rw [swp_len, la]) fun f hf => inn f (List.mem_append_right _ (List.mem_cons_of_mem _ hf))
  unfold metA metB
  rw [i1, i2, undo]
  have g1 : (swp (swps zs A) e).getD e.1 ⟨#[]⟩ = (swps zs A).getD e.2 ⟨#[]⟩ := by
    unfold swp
    rw [List.getD_eq_getElem?_getD, List.getElem?_set_ne (by omega), List.getElem?_set_self (by omega)]
    rfl
  have g2 : (swp (swps zs A) e).getD e.2 ⟨#[]⟩ = (swps zs A).getD e.1 ⟨#[]⟩ := by
    unfold swp
    rw [List.getD_eq_getElem?_getD, List.getElem?_set_self (by rw [List.length_set]; omega)]
    rfl
  exact ⟨g1, g2⟩
end
end Os
/-! loops over zip; filters of pairs of pairs; what stands in lists of pairs of pairs -/
namespace Os
open PySem PySem.Spec PyProof.Rows L2 Evl
section
variable {K : PySem.W.Frag} {σ : L2.St} {H : Hp} {D : Ends} {ta tb tl te : TE} {tt : TT} {tu tz : TS} {a : Addr}
theorem s_forZ {xs ys : List V} {i j n : Nat} (hn : n = min xs.length ys.length) (h1 : Ev ta σ H (.ref a)) (hx : H a = some (.lst xs)) (h2 : EvL tb σ H ys) (Pv : Addr → Nat → L2.St → Hp → Prop) (h0 : ∀ c H1, H c = none → Ex H H1 → H1 c = some (.lst ys) → Pv c 0 σ H1)
    (hl : ∀ c m σ' H', Pv c m σ' H' → H' a = some (.lst xs) ∧ H' c = some (.lst ys))
    (hs : ∀ c m x y σ' H' H2, xs[m]? = some x → ys[m]? = some y → Pv c m σ' H' → Ex H' H2 → tu { D with nx := Pv c (m + 1), ct := Pv c (m + 1), bk := D.nx } ((σ'.set i (some x)).set j (some y)) H2)
    (hd : ∀ c σ' H', Pv c n σ' H' → D.nx σ' H') : tFor (iZip K (tCons ta (tCons tb tNil))) (gTup K 2 (gCons (gName i) (gCons (gName j) gNil))) tu D σ H :=
  h1 H (Ex.refl H) _ fun H1 e1 => h2 H1 e1 _ fun c H2 hc e2 hc2 => ⟨a, c, xs, ys, rfl, sq_of ((e1.trans e2) _ _ hx), sq_of hc2, for_it (walk_zip hn) (Pv c) (h0 c H2 (fresh_back e1 hc) (e1.trans e2) hc2) (fun m σ H _ q => ⟨sq_of (hl c m σ H q).1, sq_of (hl c m σ H q).2⟩) (fun m v σ' H' H3 hm q y => by
    obtain ⟨T, x, z, rfl, nT, rfl, hx', hz'⟩ := y
    exact ⟨T, [x, z], rfl, st_of upd_same, rfl, x, [z], rfl, z, [], rfl, rfl, hs c m x z σ' H' _ hx' hz' q (Ex.new nT)⟩) (hd c)⟩
/-- a reading that gives a new list of pairs of pairs -/
def EvPP (te : TE) (σ : L2.St) (H : Hp) (L : List PP) : Prop := ∀ H1, Ex H H1 → ∀ Q : VK, (∀ p xs H2, H1 p = none → Ex H1 H2 → H2 p = some (.lst xs) → PPsV H2 xs L → Q (.ref p) H2) → te σ H1 Q
/-- .. a list of pairs of pairs -/
def EvPV (te : TE) (σ : L2.St) (H : Hp) (L : List PP) : Prop := ∀ H1, Ex H H1 → ∀ Q : VK, (∀ p xs H2, Ex H1 H2 → H2 p = some (.lst xs) → PPsV H2 xs L → Q (.ref p) H2) → te σ H1 Q
theorem EvPP.pv {L : List PP} (h : EvPP te σ H L) : EvPV te σ H L := fun H1 e Q q => h H1 e Q fun p xs H2 _ e2 h2 pp => q p xs H2 e2 h2 pp
theorem epv_of {xs : List V} {L : List PP} (h : Ev te σ H (.ref a)) (hx : H a = some (.lst xs)) (pp : PPsV H xs L) : EvPV te σ H L := fun H1 e Q q => h H1 e Q fun H2 e2 => q a xs H2 e2 ((e.trans e2) _ _ hx) (pp.ex (e.trans e2))
/-- [one part of each pair, for the pairs that ..] -/
theorem evp_part {L : List PP} {i j n : Nat} {vs : List Nat} (second : Bool) (f : PP → Bool) (hn : n = 2) (h : EvPV tl σ H L) (few : L.length ≤ 40000) (hw : ∀ x y, wipe (((wipe σ vs).set i (some x)).set j (some y)) vs = wipe σ vs)
    (ht : ∀ q v1 v2 H1, Ex H H1 → q ∈ L → PrV H1 v1 q.1 → PrV H1 v2 q.2 → EvT tt (((wipe σ vs).set i (some v1)).set j (some v2)) H1 (f q))
    (he : ∀ v1 v2 H1, Ev te (((wipe σ vs).set i (some v1)).set j (some v2)) H1 (if second then v2 else v1)) :
    EvP (tLc (iList K tl) (gTup K n (gCons (gName i) (gCons (gName j) gNil))) tt te vs) σ H ((L.filter f).map fun q => if second then q.2 else q.1) := fun H0 e0 Q q => h H0 e0 _ fun a xs H1 e1 h1 pp => ⟨a, rfl, ⟨xs, sq_of h1⟩, fun Dl hD => by
  have X1 := e0.trans e1
  have xl := pp.1
  refine lc_list (xs := xs) (fun k Hh => Ex H1 Hh ∧ ∃ zs, Hh Dl = some (.lst zs) ∧ PrsV Hh zs (((L.take k).filter f).map fun q => if second then q.2 else q.1)) ⟨Ex.new hD, [], upd_same, .nil⟩ (fun k H' _ p => sq_of (p.1 _ _ h1)) (fun k x H' hk p => ?_) (fun H' p => ?_)
  · obtain ⟨x1, zs, hzs, pz⟩ := p
    obtain ⟨r, hr, t, v1, v2, rfl, ht1, p1, p2⟩ := pp.get hk
    have kl := (List.getElem?_eq_some_iff.mp hr).1
    have tk : (L.take (k + 1)).filter f = (L.take k).filter f ++ (if f r = true then [r] else []) := by
      rw [List.take_add_one, hr, List.filter_append]
      show _ ++ List.filter f [r] = _
      rw [List.filter_cons]
      rfl
    have fl := List.length_filter_le f (L.take k)
    rw [List.length_take] at fl
    have zl := pz.length
    rw [List.length_map] at zl
    refine ⟨t, [v1, v2], rfl, st_of (x1 _ _ ht1), hn.symm, v1, [v2], rfl, v2, [], rfl, rfl, hw _ _, ?_⟩
    refine ht r v1 v2 H' (X1.trans x1) (List.mem_of_getElem? hr) (p1.ex x1) (p2.ex x1) H' (Ex.refl _) _ fun H3 e3 => ?_
    cases hf : f r with
    | true =>
      rw [if_pos rfl]
      refine he v1 v2 H3 H3 (Ex.refl _) _ fun H4 e4 => ⟨zs, (e3.trans e4) _ _ hzs, sz_lt (by omega), (x1.trans (e3.trans e4)).mut hD, zs ++ [if second then v2 else v1], upd_same, ?_⟩
      rw [tk, hf, if_pos rfl, List.map_append]
      have x4 := x1.trans (e3.trans e4)
      refine PrsV.put0 (prs_snoc (pz.ex (e3.trans e4)) ?_) ((e3.trans e4) _ _ hzs)
      cases second with
      | true => exact p2.ex x4
      | false => exact p1.ex x4
    | false =>
      rw [if_neg (by decide)]
      refine ⟨x1.trans e3, zs, e3 _ _ hzs, ?_⟩
      rw [tk, hf, if_neg (by decide), List.append_nil]
      exact pz.ex e3
  · obtain ⟨x1, zs, hzs, pz⟩ := p
    rw [xl, List.take_length] at pz
    exact q Dl zs H' (fresh_back e1 hD) (e1.trans x1) hzs pz⟩
end
theorem folT_len (p : Nat) (t : List Nat) : (folT p t).length = t.length - 1 := by
  unfold folT
  rw [List.length_map, List.length_zip, List.length_tail]
  omega
theorem folT_at {p j a b : Nat} {t : List Nat} (ha : t[j]? = some a) (hb : t[j + 1]? = some b) : (folT p t)[j]? = some (eb p a, eb p b) := by
  unfold folT
  rw [List.getElem?_map, List.getElem?_zip_eq_some (z := (a, b)) |>.mpr ⟨ha, by rw [List.getElem?_tail]; exact hb⟩]
  rfl
theorem folR_succ (tn : Nat → List Nat) (i : Nat) : (List.range (i + 1)).flatMap (fun p => folT p (tn p)) = (List.range i).flatMap (fun p => folT p (tn p)) ++ folT i (tn i) := by
  rw [List.range_succ, List.flatMap_append]
  simp
theorem folR_len {tn : Nat → List Nat} {m : Nat} (h : ∀ p, (tn p).length ≤ m) : ∀ i, ((List.range i).flatMap (fun p => folT p (tn p))).length ≤ i * m
  | 0 => Nat.zero_le _
  | i + 1 => by
    rw [folR_succ, List.length_append, folT_len, Nat.succ_mul]
    have a := folR_len h i
    have b := h i
    omega
end Os
/-! readings told as data: comparisons of what two calls give; pairs turned round -/
namespace Os
open PySem PySem.Spec PyProof.Rows L2 Evl
/-- a value told as data, new or not -/
def EvDt (te : TE) (σ : L2.St) (H : Hp) (d : PyData) : Prop := ∀ H1, Ex H H1 → ∀ Q : VK, (∀ v H2, Ex H1 H2 → Dt H2 v d → Q v H2) → te σ H1 Q
section
variable {K : PySem.W.Frag} {σ : L2.St} {H : Hp} {D : Ends} {ta tb tl te : TE} {tu tz : TS} {a : Addr} {d d' : PyData} {n : Nat}
theorem ev_neDt (ha : EvDt ta σ H d) (hb : EvDt tb σ H d) (s : Sh n d) (hn : n ≤ 64) : Ev (tOp (rNeD K) ta tb) σ H (.bl false) := fun H1 e1 Q q =>
  ha H1 e1 _ fun x H2 e2 hx => hb H2 (e1.trans e2) _ fun y H3 e3 hy => ⟨d, d, (hx.same (same_ex e3)).dp, hy.dp, s.shaped hn, s.shaped hn, by
    rw [s.refl]
    exact q H3 (e2.trans e3)⟩
theorem ev_eqDt (ha : EvDt ta σ H d) (hb : EvDt tb σ H d) (s : Sh n d) (hn : n ≤ 64) : Ev (tOp (rEqD K) ta tb) σ H (.bl true) := fun H1 e1 Q q =>
  ha H1 e1 _ fun x H2 e2 hx => hb H2 (e1.trans e2) _ fun y H3 e3 hy => ⟨d, d, (hx.same (same_ex e3)).dp, hy.dp, s.shaped hn, s.shaped hn, by
    rw [s.refl]
    exact q H3 (e2.trans e3)⟩
/-- a value told by a property -/
def EvI (te : TE) (σ : L2.St) (H : Hp) (P : V → Prop) : Prop := ∀ H1, Ex H H1 → ∀ Q : VK, (∀ x H2, Ex H1 H2 → P x → Q x H2) → te σ H1 Q
theorem evi_sp {sp : Sp} {dvs vs : List V} {E : XK} {t : TA} {P : V → Prop} (h : EvA t σ H vs) (hs : ∀ H1, Ex H H1 → ∀ Q : VK, (∀ x H2, Ex H1 H2 → P x → Q x H2) → sp (vs ++ dvs) H1 Q E) : EvI (tCall sp dvs E t) σ H P := fun H1 e1 Q q =>
  h H1 e1 _ fun H2 e2 => hs H2 (e1.trans e2) Q fun x H3 e3 hx => q x H3 (e2.trans e3) hx
theorem ev_eq2 {P P' : V → Prop} (ha : EvI ta σ H P) (hb : EvI tb σ H P') (h : ∀ x y, P x → P' y → ∃ b : V, scal b b = true ∧ x = b ∧ y = b) : Ev (tOp rEq ta tb) σ H (.bl true) := fun H1 e1 Q q =>
  ha H1 e1 _ fun x H2 e2 hx => hb H2 (e1.trans e2) _ fun y H3 e3 hy => by
    obtain ⟨b, hs, rfl, rfl⟩ := h x y hx hy
    exact rv_eq hs H3 (Ex.refl _) _ fun H4 e4 => by
      rw [decide_eq_true rfl]
      exact q H4 (e2.trans (e3.trans e4))
theorem dt_ev {v : V} (h : Ev te σ H v) (hd : Dt H v d) : EvDt te σ H d := fun H1 e1 Q q => h H1 e1 _ fun H2 e2 => q v H2 e2 (hd.same (same_ex (e1.trans e2)))
theorem dt_evl {xs : List V} {ds : List PyData} (h : EvL te σ H xs) (hd : Dts H xs ds) : EvDt te σ H (.list ds) := fun H1 e1 Q q => h H1 e1 _ fun p H2 _ e2 h2 => q _ H2 e2 (.lst h2 (hd.same (same_ex (e1.trans e2))))
theorem dt_pv {L : List PP} (h : EvPV te σ H L) : EvDt te σ H (.list (L.map ppD)) := fun H1 e1 Q q => h H1 e1 _ fun p xs H2 e2 h2 pp => q _ H2 e2 (.lst h2 pp.dts)
theorem sh_ppD (q : PP) : Sh 2 (ppD q) := .tup fun x hx => by
  rcases List.mem_cons.mp hx with rfl | hx
  · exact sh_pr _
  · rw [List.mem_singleton.mp hx]
    exact sh_pr _
theorem sh_pps (L : List PP) : Sh 3 (.list (L.map ppD)) := .lst fun d hd => by
  obtain ⟨q, _, rfl⟩ := List.mem_map.mp hd
  exact sh_ppD q
/-- sorted(..) of pairs of pairs -/
theorem epv_sort {L : List PP} (h : EvPV te σ H L) (few : L.length ≤ 100000) : EvPV (tCB (rSortE K ppD) (tCons te tNil)) σ H (ordPP L) := fun H1 e1 Q q =>
  h H1 e1 _ fun p xs H2 e2 h2 pp => sort_pp (K := K) h2 pp few fun r ys hr pr => q r ys _ (e2.trans (Ex.new hr)) upd_same pr
/-- [(f, e) for e, f in pairs] -/
theorem epv_swap {L : List PP} {i j n : Nat} {vs : List Nat} (hn : n = 2) (h : EvPV tl σ H L) (few : L.length ≤ 40000) (hw : ∀ x y, wipe (((wipe σ vs).set i (some x)).set j (some y)) vs = wipe σ vs)
    (h1' : ∀ x y, (((wipe σ vs).set i (some x)).set j (some y))[i]? = some (some x)) (h2' : ∀ x y, (((wipe σ vs).set i (some x)).set j (some y))[j]? = some (some y)) :
    EvPV (tLc (iList K tl) (gTup K n (gCons (gName i) (gCons (gName j) gNil))) tYes (tTup (tCons (tVar j) (tCons (tVar i) tNil))) vs) σ H (L.map swP) := fun H0 e0 Q q => h H0 e0 _ fun a xs H1 e1 h1 pp => ⟨a, rfl, ⟨xs, sq_of h1⟩, fun Dl hD => by
  have xl := pp.1
  refine lc_list (xs := xs) (fun k Hh => Ex H1 Hh ∧ ∃ zs, Hh Dl = some (.lst zs) ∧ PPsV Hh zs ((L.take k).map swP)) ⟨Ex.new hD, [], upd_same, pps_nil⟩ (fun k H' _ p => sq_of (p.1 _ _ h1)) (fun k x H' hk p => ?_) (fun H' p => ?_)
  · obtain ⟨x1, zs, hzs, pz⟩ := p
    obtain ⟨r, hr, t, v1, v2, rfl, ht1, p1, p2⟩ := pp.get hk
    have kl := (List.getElem?_eq_some_iff.mp hr).1
    have tk : (L.take (k + 1)).map swP = (L.take k).map swP ++ [swP r] := by
      rw [List.take_add_one, hr, List.map_append]
      rfl
    have zl := pz.1
    rw [List.length_map, List.length_take] at zl
    refine ⟨t, [v1, v2], rfl, st_of (x1 _ _ ht1), hn.symm, v1, [v2], rfl, v2, [], rfl, rfl, hw _ _, ?_⟩
    dsimp only [tYes]
    rw [if_pos rfl]
    refine ⟨v2, h2' _ _, v1, h1' _ _, show 2 ≤ sizeLine by decide, fun u hu => ?_⟩
    have eu := Ex.new (o := .tup [v2, v1]) hu
    refine ⟨zs, eu _ _ hzs, sz_lt (by omega), (x1.trans eu).mut hD, zs ++ [.ref u], upd_same, ?_⟩
    rw [tk]
    refine PPsV.put0 (pps_snoc (pz.ex eu) ?_) (eu _ _ hzs)
    exact ⟨u, v2, v1, rfl, upd_same, p2.ex (x1.trans eu), p1.ex (x1.trans eu)⟩
  · obtain ⟨x1, zs, hzs, pz⟩ := p
    rw [xl, List.take_length] at pz
    exact q Dl zs H' (e1.trans x1) hzs pz⟩
end
end Os
/-! readings for the places: choices, sums of slices, loops over pairs of edges -/
namespace Os
open PySem PySem.Spec PyProof.Rows L2 Evl
theorem cmul_nat {i j a b : Nat} (h1 : i < 2 ^ a) (h2 : j < 2 ^ b) (ha : 0 < a) (hb : 0 < b) (h : a + b < 1000000) : CMulW (i : Int) (j : Int) := by
  have e1 := PySem.Flt.log2_lt_of ha (show ((i : Nat) : Int).natAbs < 2 ^ a by rw [Int.natAbs_natCast]; exact h1)
  have e2 := PySem.Flt.log2_lt_of hb (show ((j : Nat) : Int).natAbs < 2 ^ b by rw [Int.natAbs_natCast]; exact h2)
  show _ < _
  omega
/-- None, or an edge -/
def SrcV (H : Hp) (v : V) : Option Pr → Prop
  | none => v = .non
  | some e => PrV H v e
theorem SrcV.ex {H H' : Hp} {v : V} {s : Option Pr} (h : SrcV H v s) (e : Ex H H') : SrcV H' v s := by
  cases s with
  | none => exact h
  | some x => exact PrV.ex e h
section
variable {K : PySem.W.Frag} {σ : L2.St} {H : Hp} {D : Ends} {ta tb tl te : TE} {tu tz : TS} {a : Addr} {i j : Nat} {v u : V} {e f : Pr}
theorem neD_src {s : Option Pr} (hv : PrV H v e) (hu : SrcV H u s) : RV (rNeD K) v u H (.bl (!decide (some e = s))) := by
  cases s with
  | none =>
    cases hu
    exact fun H1 e1 Q q => ⟨prD e, .none, ((hv.ex e1).dt).dp, (Dt.non (H := H1)).dp, (sh_pr e).shaped (by decide), rfl, by
      have : PyData.eqv (Os.prD e) .none = false := rfl
      rw [this]
      exact q H1 (Ex.refl H1)⟩
  | some x =>
    have := neD_pr (K := K) hv (show PrV H u x from hu)
    rw [show decide (some e = some x) = decide (e = x) from decide_eq_decide.mpr ⟨Option.some.inj, congrArg some⟩]
    exact this
theorem ev_comb {n k : Nat} (h1 : Ev ta σ H (.int (n : Int))) (h2 : Ev tb σ H (.int (k : Int))) (hn : n ≤ 9000) (hk : k ≤ 9000) : Ev (tCB rComb (tCons ta (tCons tb tNil))) σ H (.int ((chs n k : Nat) : Int)) := fun H1 e Q q =>
  h1 H1 e _ fun H2 e2 => h2 H2 (e.trans e2) _ fun H3 e3 => ⟨n, k, rfl, hn, hk, q H3 (e2.trans e3)⟩
theorem sum_cast (l : List Nat) : (l.map fun x : Nat => (x : Int)).sum = ((l.sum : Nat) : Int) := by
  induction l with
  | nil => rfl
  | cons x l ih => rw [List.map_cons, List.sum_cons, List.sum_cons, ih, Int.natCast_add]
theorem natV_ints (l : List Nat) : natV l = (l.map fun x : Nat => (x : Int)).map V.int := by
  show l.map _ = _
  rw [List.map_map]
  rfl
theorem ev_sumN {l : List Nat} (h : EvL te σ H (natV l)) : Ev (tCB (rSum K) (tCons te tNil)) σ H (.int ((l.sum : Nat) : Int)) := fun H1 e Q q =>
  h H1 e _ fun p H2 hp e2 h2 => ⟨p, l.map fun x : Nat => (x : Int), rfl, by rw [← natV_ints]; exact sq_of h2, by rw [sum_cast]; exact q H2 e2⟩
theorem ev_sumV {l : List Nat} (h : Ev te σ H (.ref a)) (ha : H a = some (.lst (natV l))) : Ev (tCB (rSum K) (tCons te tNil)) σ H (.int ((l.sum : Nat) : Int)) := fun H1 e Q q =>
  h H1 e _ fun H2 e2 => ⟨a, l.map fun x : Nat => (x : Int), rfl, by rw [← natV_ints]; exact sq_of ((e.trans e2) _ _ ha), by rw [sum_cast]; exact q H2 e2⟩
theorem el_from {l : List Nat} {k : Nat} {th : TO} (h : Ev te σ H (.ref a)) {tl2 : TO} (hk2 : EvO tl2 σ H (some (k : Int))) (ho : EvO th σ H none) (ha : H a = some (.lst (natV l))) : EvL (tSl (rSlL K) te tl2 th) σ H (natV (l.drop k)) := by
  have := el_sl (K := K) h hk2 ho (sq_of (K := K) ha)
  rw [show cutV (natV l) (some (k : Int)) none = natV (l.drop k) by
    rw [cut_back]
    exact (List.map_drop).symm] at this
  exact this
theorem el_rev {l : List Nat} (h : Ev te σ H (.ref a)) (ha : H a = some (.lst (natV l))) : EvL (L2.tRevL K te) σ H (natV l.reverse) := fun H1 e Q q =>
  h H1 e _ fun H2 e2 => ⟨a, natV l, rfl, sq_of ((e.trans e2) _ _ ha), fun p hp => q p _ (fresh_back e2 hp) (e2.trans (Ex.new hp)) (by
    rw [upd_same]
    show some (HO.lst (l.map _).reverse) = some (.lst (l.reverse.map _))
    rw [List.map_reverse])⟩
theorem el_revN {l : List Nat} (h : EvL te σ H (natV l)) : EvL (L2.tRevL K te) σ H (natV l.reverse) := fun H1 e Q q =>
  h H1 e _ fun p H2 hp e2 h2 => ⟨p, natV l, rfl, sq_of h2, fun r hr => q r _ (fresh_back e2 hr) (e2.trans (Ex.new hr)) (by
    rw [upd_same]
    show some (HO.lst (l.map _).reverse) = some (.lst (l.reverse.map _))
    rw [List.map_reverse])⟩
theorem el_sp2 {sp : Sp} {E : XK} {xs ys zs : List V} (h1 : EvL ta σ H xs) (h2 : EvL tb σ H ys) (hs : ∀ a b H1, Ex H H1 → H1 a = some (.lst xs) → H1 b = some (.lst ys) → ∀ Q : VK, (∀ p H2, H1 p = none → Ex H1 H2 → H2 p = some (.lst zs) → Q (.ref p) H2) → sp [.ref a, .ref b] H1 Q E) : EvL (tCall sp [] E (tCons ta (tCons tb tNil))) σ H zs := fun H1 e1 Q q =>
  h1 H1 e1 _ fun a H2 _ e2 ha => h2 H2 (e1.trans e2) _ fun b H3 _ e3 hb => hs a b H3 (e1.trans (e2.trans e3)) (e3 _ _ ha) hb Q fun p H4 hp e4 h4 => q p H4 (fresh_back (e2.trans e3) hp) ((e2.trans e3).trans e4) h4
theorem el_spVL {sp : Sp} {E : XK} {ys zs : List V} (h1 : Ev ta σ H (.ref a)) (h2 : EvL tb σ H ys) (hs : ∀ b H1, Ex H H1 → H1 b = some (.lst ys) → ∀ Q : VK, (∀ p H2, H1 p = none → Ex H1 H2 → H2 p = some (.lst zs) → Q (.ref p) H2) → sp [.ref a, .ref b] H1 Q E) : EvL (tCall sp [] E (tCons ta (tCons tb tNil))) σ H zs := fun H1 e1 Q q =>
  h1 H1 e1 _ fun H2 e2 => h2 H2 (e1.trans e2) _ fun b H3 _ e3 hb => hs b H3 (e1.trans (e2.trans e3)) hb Q fun p H4 hp e4 h4 => q p H4 (fresh_back (e2.trans e3) hp) ((e2.trans e3).trans e4) h4
/-- for e, f in pairs: .. -/
theorem q_forPP {xs : List V} {L : List PP} (h : Ev tl σ H (.ref a)) (hx : H a = some (.lst xs)) (pp : PPsV H xs L) (Pv : Nat → L2.St → Hp → Prop) (h0 : ∀ H1, Ex H H1 → Pv 0 σ H1) (hl : ∀ n σ' H', Pv n σ' H' → Ex H H')
    (hs : ∀ n q σ' H' x y, L[n]? = some q → Pv n σ' H' → PrV H' x q.1 → PrV H' y q.2 → tu { D with nx := Pv (n + 1), ct := Pv (n + 1), bk := tz D } ((σ'.set i (some x)).set j (some y)) H')
    (hd : ∀ σ' H', Pv L.length σ' H' → tz D σ' H') : tSeq (tFor (iList K tl) (gTup K 2 (gCons (gName i) (gCons (gName j) gNil))) tu) tz D σ H := by
  refine q_forL h (sq_of hx) (fun n σ' H' => Pv n σ' H') h0 (fun n σ' H' _ p => sq_of (hl n σ' H' p _ _ hx)) (fun n x σ' H' hn p => ?_) fun σ' H' p => hd σ' H' (by rw [← pp.1]; exact p)
  obtain ⟨q, hq, t, v1, v2, rfl, ht, p1, p2⟩ := pp.get hn
  have e := hl n σ' H' p
  exact ⟨t, [v1, v2], rfl, st_of (e _ _ ht), rfl, v1, [v2], rfl, v2, [], rfl, rfl, hs n q σ' H' v1 v2 hq p (p1.ex e) (p2.ex e)⟩
end
end Os
namespace K10
open PySem PySem.Spec PyProof.Rows L2 Os Evl
abbrev sTN : Stmt := topS 41
theorem scTN : FnScope ["ring", "here", "near", "at", "spot"] ["ring", "here", "near"] (defScope sTN) := ⟨rfl, rfl, rfl, by decide +kernel, rfl, by decide +kernel, by decide +kernel⟩
abbrev sTR : Stmt := topS 42
theorem scTR : FnScope ["graph", "circles", "sequence", "ring", "here", "due", "one", "two"] ["graph", "circles", "sequence"] (defScope sTR) := ⟨rfl, rfl, rfl, by decide +kernel, rfl, by decide +kernel, by decide +kernel⟩
theorem sub_len : ∀ {a b : List Nat}, a.Nodup → (∀ x ∈ a, x ∈ b) → a.length ≤ b.length
  | [], _, _, _ => Nat.zero_le _
  | x :: a, b, nd, h => by
    obtain ⟨n1, n2⟩ := List.nodup_cons.mp nd
    have hx := h x List.mem_cons_self
    have := sub_len (a := a) (b := b.erase x) n2 fun y hy => (List.mem_erase_of_ne fun z => n1 (by rw [← z]; exact hy)).mpr (h y (List.mem_cons_of_mem _ hy))
    rw [List.length_erase_of_mem hx] at this
    have := List.length_pos_of_mem hx
    rw [List.length_cons]
    omega
theorem ring_nd {f : List Nat} {n x : Nat} (p : IsPerm f n) (hx : x < n) : (ringOf f n x).Nodup := by
  unfold ringOf Os.way
  have h := per_ok p hx
  refine List.pairwise_iff_getElem.mpr fun i j hi hj lt e => ?_
  rw [List.getElem_map, List.getElem_map, List.getElem_range, List.getElem_range] at e
  rw [List.length_map, List.length_range] at hi hj
  have e2 : itr f i x = itr f (i + (j - i)) x := by rw [show i + (j - i) = j by omega]; exact e
  have := (itr_back p hx i (j - i) e2).symm
  exact h.2.2.2 (j - i) (by omega) (by omega) this
abbrev fu (f : List Nat) : Nat → Nat := fun z => f.getD z z
theorem itr_fu {f : List Nat} {n x : Nat} (p : IsPerm f n) (hx : x < n) (i : Nat) : fu f (itr f i x) = itr f (i + 1) x := by
  have lt := itr_lt p i hx
  have hl : itr f i x < f.length := by rw [p.len]; exact lt
  show f.getD (itr f i x) (itr f i x) = f.getD (itr f i x) 0
  rw [List.getD_eq_getElem?_getD, List.getD_eq_getElem?_getD, List.getElem?_eq_getElem hl]
  rfl
theorem ch_range {f : List Nat} {n x : Nat} (p : IsPerm f n) (hx : x < n) : ∀ k i, Ch (fu f) (itr f i x) ((List.range k).map fun j => itr f (i + 1 + j) x) (itr f (i + k + 1) x)
  | 0, i => itr_fu p hx i
  | k + 1, i => by
    rw [List.range_succ_eq_map, List.map_cons, List.map_map]
    refine ⟨itr_fu p hx i, ?_⟩
    have := ch_range p hx k (i + 1)
    rw [show i + 1 + k + 1 = i + (k + 1) + 1 by omega] at this
    have e : ((List.range k).map fun j => itr f (i + 1 + 1 + j) x) = (List.range k).map ((fun j => itr f (i + 1 + j) x) ∘ Nat.succ) := List.map_congr_left fun j _ => by
      show itr f (i + 1 + 1 + j) x = itr f (i + 1 + (j + 1)) x
      rw [show i + 1 + 1 + j = i + 1 + (j + 1) by omega]
    rw [e] at this
    exact this
theorem ring_ch {f : List Nat} {n x : Nat} (p : IsPerm f n) (hx : x < n) : ∃ l, ringOf f n x = x :: l ∧ Ch (fu f) x l x := by
  obtain ⟨h1, h2, h3, _⟩ := per_ok p hx
  obtain ⟨k, hk⟩ : ∃ k, per f n x = k + 1 := ⟨per f n x - 1, by omega⟩
  refine ⟨(List.range k).map fun j => itr f (0 + 1 + j) x, ?_, ?_⟩
  · unfold ringOf Os.way
    rw [hk, List.range_succ_eq_map, List.map_cons, List.map_map]
    refine congrArg (List.cons x) (List.map_congr_left fun j _ => ?_)
    show itr f (j + 1) x = itr f (0 + 1 + j) x
    rw [show 0 + 1 + j = j + 1 by omega]
  · have := ch_range p hx k 0
    rw [show 0 + k + 1 = k + 1 by omega, ← hk, h3] at this
    exact this
theorem ch_same {F : Nat → Nat} {x : Nat} : ∀ {l m : List Nat} {y : Nat}, Ch F y l x → Ch F y m x → x ∉ l → x ∉ m → l = m
  | [], [], _, _, _, _, _ => rfl
  | [], b :: m, _, h, k, _, n2 => absurd (show x ∈ b :: m by
      have h' : F _ = x := h
      rw [← h', k.1]
      exact List.mem_cons_self) n2
  | a :: l, [], _, h, k, n1, _ => absurd (show x ∈ a :: l by
      have k' : F _ = x := k
      rw [← k', h.1]
      exact List.mem_cons_self) n1
  | a :: l, b :: m, _, h, k, n1, n2 => by
    have e : a = b := h.1.symm.trans k.1
    subst e
    rw [ch_same h.2 k.2 (fun z => n1 (List.mem_cons_of_mem _ z)) fun z => n2 (List.mem_cons_of_mem _ z)]
/-- the ring from another of its places -/
theorem ring_rot {f : List Nat} {n x y : Nat} (p : IsPerm f n) (hx : x < n) (hy : y ∈ ringOf f n x) : ∃ U V, ringOf f n x = U ++ V ∧ ringOf f n y = V ++ U := by
  obtain ⟨l, el, cl⟩ := ring_ch p hx
  have yn := ring_lt p hx hy
  obtain ⟨m, em, cm⟩ := ring_ch p yn
  have nd := ring_nd p hx
  have nm := ring_nd p yn
  rw [el] at hy nd
  rw [em] at nm
  rcases List.mem_cons.mp hy with rfl | h
  · exact ⟨[], ringOf f n y, rfl, by rw [List.append_nil]⟩
  · obtain ⟨l1, l2, rfl⟩ := List.append_of_mem h
    have t := cl.turn
    have ny : y ∉ l2 ++ x :: l1 := by
      have pm : (x :: l1 ++ y :: l2).Perm (y :: (l2 ++ x :: l1)) := List.perm_append_comm
      exact (List.nodup_cons.mp (pm.nodup_iff.mp nd)).1
    have e := ch_same t cm ny (List.nodup_cons.mp nm).1
    refine ⟨x :: l1, y :: l2, el, ?_⟩
    rw [em, ← e]
    rfl
theorem list_min : ∀ l : List Nat, l ≠ [] → ∃ m ∈ l, ∀ y ∈ l, m ≤ y
  | [], h => absurd rfl h
  | [x], _ => ⟨x, List.mem_cons_self, fun y hy => by rw [List.mem_singleton.mp hy]; exact Nat.le_refl _⟩
  | x :: y :: l, _ => by
    obtain ⟨m, hm, le⟩ := list_min (y :: l) (fun h => nomatch h)
    by_cases c : x ≤ m
    · refine ⟨x, List.mem_cons_self, fun z hz => ?_⟩
      rcases List.mem_cons.mp hz with rfl | hz
      · exact Nat.le_refl _
      · exact Nat.le_trans c (le z hz)
    · refine ⟨m, List.mem_cons_of_mem _ hm, fun z hz => ?_⟩
      rcases List.mem_cons.mp hz with rfl | hz
      · omega
      · exact le z hz
theorem dts_ints' {G : Hp} : ∀ c : List Nat, Dts G (nats c) (c.map fun x : Nat => PyData.int (x : Int))
  | [] => .nil
  | x :: c => .cons (.int _) (dts_ints' c)
theorem sh_ints' (c : List Nat) : Sh 1 (.list (c.map fun x : Nat => PyData.int (x : Int))) := .lst fun d hd => by
  obtain ⟨x, _, rfl⟩ := List.mem_map.mp hd
  exact .int 0 _
section
variable {K : PySem.W.Frag} {σ : L2.St} {H : Hp} {te ta tb tl : TE} {t tt : TT} {a : Addr}
theorem el_cat {xs ys : List V} (h1 : EvL ta σ H xs) (h2 : EvL tb σ H ys) (hz : xs.length + ys.length ≤ 100000) : EvL (tOp rCat ta tb) σ H (xs ++ ys) := fun H1 e Q q =>
  h1 H1 e _ fun p H2 hp e2 h2' => h2 H2 (e.trans e2) _ fun r H3 hr e3 h3 => ⟨p, r, xs, ys, rfl, rfl, e3 _ _ h2', h3, sz_of hz, fun u hu => q u _ (fresh_back (e2.trans e3) hu) ((e2.trans e3).trans (Ex.new hu)) upd_same⟩

theorem el_fil {l : List Nat} {j : Nat} {vs : List Nat} (f : Nat → Bool) (h : EvL tl σ H (nats l)) (hz : l.length ≤ 1000) (hw : ∀ x, wipe ((wipe σ vs).set j (some x)) vs = wipe σ vs) (hj : ∀ x, ((wipe σ vs).set j (some x))[j]? = some (some x))
    (ht : ∀ y H1, Ex H H1 → EvT t ((wipe σ vs).set j (some (.int ((y : Nat) : Int)))) H1 (f y)) : EvL (tLc (iList K tl) (gName j) t (tVar j) vs) σ H (nats (l.filter f)) := by
  have h1 := el_lcNL (K := K) (t := t) (te := tVar j) (j := j) (vs := vs) (fun i => f (l.getD i 0)) (fun i => .int ((l.getD i 0 : Nat) : Int)) h (by unfold nats; rw [List.length_map]; omega) hw (fun i z G eG hz => by
    unfold nats at hz
    rw [List.getElem?_map] at hz
    obtain ⟨y, hy, rfl⟩ := Option.map_eq_some_iff.mp hz
    have ey : l.getD i 0 = y := by rw [List.getD_eq_getElem?_getD, hy]; rfl
    rw [ey]
    exact ht y G eG) (fun i z G eG hz _ => by
    unfold nats at hz
    rw [List.getElem?_map] at hz
    obtain ⟨y, hy, rfl⟩ := Option.map_eq_some_iff.mp hz
    have ey : l.getD i 0 = y := by rw [List.getD_eq_getElem?_getD, hy]; rfl
    rw [ey]
    exact ev_var (hj _))
  have h2 := given_filter (fun y : Nat => V.int (y : Int)) f (fun i => f (l.getD i 0)) (fun i => .int ((l.getD i 0 : Nat) : Int)) l (fun j y e => by rw [List.getD_eq_getElem?_getD, e]; rfl) (fun j y e => by rw [List.getD_eq_getElem?_getD, e]; rfl)
  have h3 : (nats l).length = l.length := List.length_map _
  rw [h3, h2] at h1
  exact h1

theorem el_to {l : List Nat} {k : Nat} {tlo tlo2 : TO} (h : Ev te σ H (.ref a)) (hk : EvO tlo2 σ H (some (k : Int))) (ho : EvO tlo σ H none) (ha : H a = some (.lst (natV l))) : EvL (tSl (rSlL K) te tlo tlo2) σ H (natV (l.take k)) := by
  have := el_sl (K := K) h ho hk (sq_of (K := K) ha)
  rw [show cutV (natV l) none (some (k : Int)) = natV (l.take k) by
    show cutV (l.map _) _ _ = (l.take k).map _
    rw [cut_front]
    exact (List.map_take).symm] at this
  exact this
/-- [v(e) for p, q in pairs if ..] -/
theorem el_prF {xs : List V} {es : List Pr} {i j n : Nat} {vs : List Nat} (f : Pr → Bool) (v : Pr → V) (hn : n = 2) (h : Ev tl σ H (.ref a)) (hx : H a = some (.lst xs)) (hp : PrsV H xs es) (hz : es.length ≤ 40000) (hw : ∀ x y, wipe (((wipe σ vs).set i (some x)).set j (some y)) vs = wipe σ vs)
    (ht : ∀ e H1, Ex H H1 → e ∈ es → EvT tt (((wipe σ vs).set i (some (.int (e.1 : Int)))).set j (some (.int (e.2 : Int)))) H1 (f e))
    (he : ∀ e H1, Ex H H1 → e ∈ es → f e = true → Ev te (((wipe σ vs).set i (some (.int (e.1 : Int)))).set j (some (.int (e.2 : Int)))) H1 (v e)) : EvL (tLc (iList K tl) (gTup K n (gCons (gName i) (gCons (gName j) gNil))) tt te vs) σ H ((es.filter f).map v) := fun H0 e0 Q q => h H0 e0 _ fun H1 e1 => ⟨a, rfl, ⟨xs, sq_of ((e0.trans e1) _ _ hx)⟩, fun Dl hD => by
  have X1 := e0.trans e1
  have xl := hp.length
  have pp := hp.ex X1
  refine lc_list (xs := xs) (fun k Hh => Ex H1 Hh ∧ Hh Dl = some (.lst (((es.take k).filter f).map v))) ⟨Ex.new hD, upd_same⟩ (fun k H' _ p => sq_of (p.1 _ _ (X1 _ _ hx))) (fun k x H' hk p => ?_) (fun H' p => ?_)
  · obtain ⟨x1, hzs⟩ := p
    obtain ⟨r, hr, tp, rfl, htp⟩ := pp.get hk
    have kl := (List.getElem?_eq_some_iff.mp hr).1
    have tk : ((es.take (k + 1)).filter f).map v = ((es.take k).filter f).map v ++ (if f r = true then [v r] else []) := by
      rw [List.take_add_one, hr, List.filter_append, List.map_append]
      congr 1
      show List.map v (List.filter f [r]) = _
      rw [List.filter_cons]
      split <;> rfl
    have fl := List.length_filter_le f (es.take k)
    rw [List.length_take] at fl
    refine ⟨tp, [.int (r.1 : Int), .int (r.2 : Int)], rfl, st_of (x1 _ _ htp), hn.symm, _, [.int (r.2 : Int)], rfl, _, [], rfl, rfl, hw _ _, ?_⟩
    have rm := List.mem_of_getElem? hr
    refine ht r H' (X1.trans x1) rm H' (Ex.refl _) _ fun H3 e3 => ?_
    cases hf : f r with
    | true =>
      rw [if_pos rfl]
      refine he r H3 ((X1.trans x1).trans e3) rm hf H3 (Ex.refl _) _ fun H4 e4 => ⟨_, (e3.trans e4) _ _ hzs, sz_lt (by rw [List.length_map]; omega), (x1.trans (e3.trans e4)).mut hD, ?_⟩
      rw [upd_same, tk, hf, if_pos rfl]
    | false =>
      rw [if_neg (by decide)]
      refine ⟨x1.trans e3, ?_⟩
      rw [tk, hf, if_neg (by decide), List.append_nil]
      exact e3 _ _ hzs
  · obtain ⟨x1, hzs⟩ := p
    rw [xl, List.take_length] at hzs
    exact q Dl H' (fresh_back e1 hD) (e1.trans x1) hzs⟩
end
theorem turn_sum {n : Nat} {es os : List Pr} (E : Edges n es) (pm : os.Perm es) (y : Nat) : (os.filter fun e => decide (y ∈ [e.1, e.2])).map (fun e => V.int (((e.1 : Nat) : Int) + ((e.2 : Nat) : Int) - ((y : Nat) : Int))) = nats (turnOf y os) := by
  have key : ∀ l : List Pr, (∀ e ∈ l, e.1 < e.2) → (l.filter fun e => decide (y ∈ [e.1, e.2])).map (fun e => V.int (((e.1 : Nat) : Int) + ((e.2 : Nat) : Int) - ((y : Nat) : Int))) = nats (turnOf y l) := by
    intro l
    induction l with
    | nil => exact fun _ => rfl
    | cons e l ih =>
      intro h
      have ih := ih fun f hf => h f (List.mem_cons_of_mem _ hf)
      have lt := h e List.mem_cons_self
      rw [List.filter_cons]
      unfold turnOf at ih ⊢
      by_cases h1 : e.1 = y
      · rw [if_pos (decide_eq_true (by rw [h1]; exact List.mem_cons_self)), List.map_cons, ih, List.filterMap_cons, if_pos h1]
        show _ = V.int ((e.2 : Nat) : Int) :: _
        congr 1
        exact congrArg V.int (by omega)
      · by_cases h2 : e.2 = y
        · rw [if_pos (decide_eq_true (by rw [h2]; simp)), List.map_cons, ih, List.filterMap_cons, if_neg h1, if_pos h2]
          show _ = V.int ((e.1 : Nat) : Int) :: _
          congr 1
          exact congrArg V.int (by omega)
        · rw [if_neg (by
            rw [decide_eq_true_iff]
            intro z
            rcases List.mem_cons.mp z with z | z
            · exact h1 z.symm
            · exact h2 (List.mem_singleton.mp z).symm), ih, List.filterMap_cons, if_neg h1, if_neg h2]
  exact key os fun e he => (E.inn e (pm.mem_iff.mp he)).1
section
variable {P : Program} {w : World} {K : PySem.W.Frag} {mg : Str → Option Value} {base : Heap}
def spTN : Sp := fun vs H Q _ => ∃ (r c : Addr) (x : Nat) (l nr : List Nat), vs = [.ref r, .int (x : Int), .ref c] ∧ H r = some (.lst (nats l)) ∧ x ∈ l ∧ l.length ≤ 400 ∧ H c = some (.lst (nats nr)) ∧
  ∀ H' d, Ex H H' → H d = none → H' d = some (.lst (nats ((l.drop (l.idxOf x) ++ l.take (l.idxOf x)).filter fun z => decide (z ∈ nr)))) → Q (.ref d) H'
theorem ok_tn {f : Addr} {fd : FuncData} {k : Nat} (F : Fun K "_law_turn" "_law_turn" sTN f fd) : FnOk P w K mg base CX0 (k + 1) f fd ["ring", "here", "near"] spTN := by
  refine F.ok scTN (fun vs H Q E h => ?_) (fun cdv A outer s H vs Q E hr h => ?_)
  · obtain ⟨r, c, x, l, nr, rfl, _⟩ := h
    rfl
  · obtain ⟨r, c, x, l, nr, rfl, hl, hx, few, hc, q⟩ := h
    refine ⟨_, (pss_cons (ps_set (i := 3) scTN.nd rfl (.inl rfl) (pe_bm PySem.F.plainAttrs_list PySem.F.slot_list_index PySem.F.type_list_index mt_index (pv 0) (pa_cons (pv 1) pa_nil)))
      (pss_one (ps_ret (pe_lc (own := [("spot", 4)]) (g := gName 4) (tt := tTest (tOp (rIn K false) (tVar 4) (tVar 2))) (te := tVar 4) rfl scTN.nd (pi_list (pe_op op_cat (pe_slice sl_list (pv 0) (po_some (pv 3)) po_none) (pe_slice sl_list (pv 0) po_none (po_some (pv 3))))) (blkOk_by (N := ["ring", "here", "near", "at", "spot"]) (sc := defScope sTN) (by decide +kernel)) (fun _ _ _ _ _ => pg_name (i := 4) scTN.nd rfl (Or.inl rfl)) (fun _ _ _ _ _ => pts_one (pt_cmpR op_in_seq (pv 4) (pv 2) (by rfl))) (fun _ _ _ _ _ => (pv 4)))))), ?_⟩
    refine q_asg (v := .int ((l.idxOf x : Nat) : Int)) (ev_indexN (ev_var rfl) hl (ev_var rfl) hx) fun H1 e1 => ?_
    have d1 := el_from (K := K) (te := tVar 0) (tl2 := tPart (tVar 3)) (th := tNoPart) (σ := [some (.ref r), some (.int (x : Int)), some (.ref c), some (.int ((l.idxOf x : Nat) : Int)), none]) (H := H1) (a := r) (l := l) (k := l.idxOf x) (ev_var rfl) (eo_some (ev_var rfl)) eo_none (e1 _ _ hl)
    have d2 := el_to (K := K) (te := tVar 0) (tlo2 := tPart (tVar 3)) (tlo := tNoPart) (σ := [some (.ref r), some (.int (x : Int)), some (.ref c), some (.int ((l.idxOf x : Nat) : Int)), none]) (H := H1) (a := r) (l := l) (k := l.idxOf x) (ev_var rfl) (eo_some (ev_var rfl)) eo_none (e1 _ _ hl)
    have d3 := el_cat d1 d2 (by rw [List.length_map, List.length_map, List.length_drop, List.length_take]; omega)
    rw [show natV (l.drop (l.idxOf x)) ++ natV (l.take (l.idxOf x)) = nats (l.drop (l.idxOf x) ++ l.take (l.idxOf x)) from List.map_append.symm] at d3
    refine s_retL (el_fil (K := K) (j := 4) (vs := [4]) (fun z => decide (z ∈ nr)) d3 (by rw [List.length_append, List.length_drop, List.length_take]; omega) (fun _ => rfl) (fun _ => rfl) fun y H2 e2 => et_test (ev_inN (ev_var rfl) (ev_var rfl) (.inl (sq_of ((e1.trans e2) _ _ hc))))) fun d H2 hd e2 h2 => q H2 d (e1.trans e2) (fresh_back e1 hd) h2
/-- the rings of an outcome -/
def CyV (H : Hp) (cc : Addr) (n : Nat) (f : List Nat) : Prop := ∃ as : List Addr, H cc = some (.lst (as.map V.ref)) ∧ as.length = (cycles f n).length ∧ ∀ (j : Nat) (c : Addr), as[j]? = some c → ∃ l, (cycles f n)[j]? = some l ∧ H c = some (.lst (nats l))
theorem CyV.ex {H H' : Hp} {cc : Addr} {n : Nat} {f : List Nat} (h : CyV H cc n f) (e : Ex H H') : CyV H' cc n f := by
  obtain ⟨as, h1, h2, h3⟩ := h
  exact ⟨as, e _ _ h1, h2, fun j c hc => by
    obtain ⟨l, k1, k2⟩ := h3 j c hc
    exact ⟨l, k1, e _ _ k2⟩⟩
theorem cyc_at {n j : Nat} {f l : List Nat} (h : (cycles f n)[j]? = some l) : ∃ x, x < n ∧ lead f n x = true ∧ l = ringOf f n x := by
  obtain ⟨x, hx, rfl⟩ := List.mem_map.mp (List.mem_of_getElem? h)
  exact ⟨x, List.mem_range.mp (List.mem_filter.mp hx).1, (List.mem_filter.mp hx).2, rfl⟩
/-- a ring turned to one of its positions -/
theorem rot_at {f : List Nat} {n x y : Nat} (p : IsPerm f n) (hx : x < n) (hy : y ∈ ringOf f n x) : (ringOf f n x).drop ((ringOf f n x).idxOf y) ++ (ringOf f n x).take ((ringOf f n x).idxOf y) = ringOf f n y := by
  obtain ⟨U, V, e1, e2⟩ := ring_rot p hx hy
  have yn := ring_lt p hx hy
  have hd := (ring_head p yn).1
  have nd := ring_nd p hx
  rw [e1] at nd
  rw [e1, e2]
  rw [e2] at hd
  cases V with
  | nil =>
    rw [List.nil_append] at hd
    cases U with
    | nil => cases hd
    | cons z U =>
      cases hd
      rw [List.append_nil, List.idxOf_cons_self]
      simp
  | cons z V =>
    cases hd
    have nU : y ∉ U := fun k => (List.nodup_append.mp nd).2.2 y k y List.mem_cons_self rfl
    rw [List.idxOf_append, if_neg nU, List.idxOf_cons_self, Nat.zero_add, List.drop_left, List.take_left]
def spTR : Sp := fun vs H Q _ => ∃ (v : V) (cc sq : Addr) (n : Nat) (es os : List Pr) (zs : List Str), vs = [v, .ref cc, .ref sq] ∧ GraphV H v n es ∧ IsForest n es ∧ os.Perm es ∧ zs.length = n ∧ zs.Nodup ∧ CyV H cc n (went zs (swps zs os)) ∧ OrdV H (.ref sq) os ∧ ∀ H', Ex H H' → Q (.bl true) H'
theorem ok_tr {f fTN fNB : Addr} {fd fdTN fdNB : FuncData} {k : Nat} (F : Fun K "_law_turns_right" "_law_turns_right" sTR f fd)
    (GTN : FnOk P w K mg base CX0 k fTN fdTN ["ring", "here", "near"] spTN) (FTN : Fun K "_law_turn" "_law_turn" sTN fTN fdTN) (bTN : Binds K fdTN ["ring", "here", "near"] []) (gTN : mg "_law_turn" = some (.ref fTN))
    (GNB : FnOk P w K mg base CX0 k fNB fdNB ["forest", "position"] spNbr) (FNB : Fun K "neighbours" "neighbours" sNbr fNB fdNB) (bNB : Binds K fdNB ["forest", "position"] []) (gNB : mg "neighbours" = some (.ref fNB)) : FnOk P w K mg base CX0 (k + 1) f fd ["graph", "circles", "sequence"] spTR := by
  refine F.ok scTR (fun vs H Q E h => ?_) (fun cdv A outer s H vs Q E hr h => ?_)
  · obtain ⟨v, cc, sq, n, es, os, zs, rfl, _⟩ := h
    rfl
  · obtain ⟨v, cc, sq, n, es, os, zs, rfl, hg, ok, pm, hl, nd, ⟨as, hcc, al, rows⟩, ⟨sq', ys, e, hsq, po⟩, q⟩ := h
    cases e
    refine ⟨_, (pss_cons (ps_for PassesOwn.never rfl (pi_list (pv 1)) (pg_name (i := 3) scTR.nd rfl (Or.inl rfl))
      (pss_one (ps_for PassesOwn.never rfl (pi_list (pv 3)) (pg_name (i := 4) scTR.nd rfl (Or.inr rfl))
      (pss_cons (ps_setLc (i := 5) (own := [("one", 6), ("two", 7)]) (g := gTup K 2 (gCons (gName 6) (gCons (gName 7) gNil))) (tt := tTest (tOp (rIn K false) (tVar 4) (tTup (tCons (tVar 6) (tCons (tVar 7) tNil))))) (te := tOp (rI0 fun i j => .int (i - j)) (tOp (rI0 fun i j => .int (i + j)) (tVar 6) (tVar 7)) (tVar 4)) rfl scTR.nd rfl rfl (sw_true rfl rfl rfl (by decide +kernel)) (pi_list (pv 2)) (blkOk_by (N := ["graph", "circles", "sequence", "ring", "here", "due", "one", "two"]) (sc := defScope sTR) (by decide +kernel)) (fun _ _ _ _ _ => pg_tup rfl (pgs_cons (pg_name (i := 6) scTR.nd rfl (Or.inl rfl)) (pgs_cons (pg_name (i := 7) scTR.nd rfl (Or.inl rfl)) pgs_nil))) (fun _ _ _ _ _ => pts_one (pt_cmpR op_in_seq (pv 4) (pe_tup (pa_cons (pv 6) (pa_cons (pv 7) pa_nil))) (by rfl))) (fun _ _ _ _ _ => (pe_op op_sub (pe_op op_add (pv 6) (pv 7)) (pv 4))))
      (pss_one (ps_if (pt_cmpR (op_neD hr.units) (pe_call GTN hr (by rfl) gTN FTN.kp bTN .nil pass0 (pa_cons (pv 3) (pa_cons (pv 4) (pa_cons (pe_call GNB hr (by rfl) gNB FNB.kp bNB .nil pass0 (pa_cons (pv 0) (pa_cons (pv 4) pa_nil))) pa_nil)))) (pv 5) (nomark _)) pss_never pss_nil))))))
      (pss_one (ps_ret pe_bl))), ?_⟩
    have E' := ok.edges
    have n40 := ok.n40
    have pw : (swps zs os).Perm zs := swps_perm hl fun e he => by
      have := E'.inn e (pm.mem_iff.mp he)
      omega
    have P' := went_perm pw nd hl
    generalize hf : went zs (swps zs os) = fw at *
    have yl := po.length
    have ol : os.length ≤ 60 := by
      rw [pm.length_eq]
      exact ok.few
    refine q_forL (xs := as.map V.ref) (ev_var rfl) (sq_of hcc) (fun i σ' H' => Ex H H' ∧ ∃ y3 y4 y5, σ' = [some v, some (.ref cc), some (.ref sq), y3, y4, y5, none, none]) (fun H1 e1 => ⟨e1, _, _, _, rfl⟩) (fun i σ' H' _ h => sq_of (h.1 _ _ hcc)) ?_ ?_
    · rintro i x σ' H1 hx ⟨e1, y3, y4, y5, rfl⟩
      rw [List.getElem?_map] at hx
      obtain ⟨c, hc, rfl⟩ := Option.map_eq_some_iff.mp hx
      obtain ⟨l, hlj, hcl⟩ := rows i c hc
      obtain ⟨x0, xn, _, rfl⟩ := cyc_at hlj
      have rlen := ring_len P' xn
      dsimp only [gName]
      refine s_forL (xs := nats (ringOf fw n x0)) (ev_var rfl) (sq_of (e1 _ _ hcl)) (fun j σ' H' => Ex H H' ∧ ∃ y4 y5, σ' = [some v, some (.ref cc), some (.ref sq), some (.ref c), y4, y5, none, none]) (fun H2 e2 => ⟨e1.trans e2, _, _, rfl⟩) (fun j σ' H' _ h => sq_of (h.1 _ _ hcl)) ?_ ?_
      · rintro j z σ' H2 hz ⟨e2, y4, y5, rfl⟩
        have hz : ((ringOf fw n x0).map fun x : Nat => V.int (x : Int))[j]? = some z := hz
        rw [List.getElem?_map] at hz
        obtain ⟨y, hy, rfl⟩ := Option.map_eq_some_iff.mp hz
        have ym := List.mem_of_getElem? hy
        have yn := ring_lt P' xn ym
        dsimp only [gName]
        have due := el_prF (K := K) (σ := [some v, some (.ref cc), some (.ref sq), some (.ref c), some (.int (y : Int)), y5, none, none]) (H := H2) (a := sq) (xs := ys) (es := os) (i := 6) (j := 7) (n := 2) (vs := [6, 7]) (tl := tVar 2) (tt := tTest (tOp (rIn K false) (tVar 4) (tTup (tCons (tVar 6) (tCons (tVar 7) tNil))))) (te := tOp (rI0 fun i j => .int (i - j)) (tOp (rI0 fun i j => .int (i + j)) (tVar 6) (tVar 7)) (tVar 4))
          (fun e => decide (y ∈ [e.1, e.2])) (fun e => V.int (((e.1 : Nat) : Int) + ((e.2 : Nat) : Int) - ((y : Nat) : Int))) rfl (ev_var rfl) (e2 _ _ hsq) (po.ex e2) (by omega) (fun _ _ => rfl) (fun e H3 e3 _ => et_test fun H4 e4 Q q => ⟨_, rfl, _, rfl, _, rfl, show 2 ≤ sizeLine by decide, fun tp htp => ⟨tp, nats [e.1, e.2], rfl, .inr (st_of upd_same), rfl, flat_nats _, by
            show Q (.bl (inV (.int (y : Int)) (nats [e.1, e.2]))) _
            rw [inV_nats]
            exact q _ (Ex.new htp)⟩⟩) (fun e H3 e3 _ _ => ev_op (ev_op (ev_var rfl) (ev_var rfl) rv_I0) (ev_var rfl) rv_I0)
        rw [turn_sum E' pm y] at due
        refine q_asgL due fun d H3 hd3 e3 h3 => ?_
        have x3 := e2.trans e3
        have tn : EvDt (tCall spTN [] E0 (tCons (tVar 3) (tCons (tVar 4) (tCons (tCall spNbr [] E0 (tCons (tVar 0) (tCons (tVar 4) tNil))) tNil)))) [some v, some (.ref cc), some (.ref sq), some (.ref c), some (.int (y : Int)), some (.ref d), none, none] H3 (.list ((turnOf y os).map fun x : Nat => PyData.int (x : Int))) := fun H4 e4 Q q4 => by
          have y4 := x3.trans e4
          refine ⟨.ref c, rfl, .int (y : Int), rfl, v, rfl, .int (y : Int), rfl, v, y, n, es, rfl, hg.ex y4, ok, yn, fun H5 b e5 hb h5 => ⟨c, b, y, ringOf fw n x0, adj es y, rfl, (y4.trans e5) _ _ hcl, ym, by omega, h5, fun H6 r e6 hr h6 => ?_⟩⟩
          rw [rot_at P' xn ym] at h6
          obtain ⟨l', ra, el⟩ := ring_is E' pm hl nd yn
          rw [hf] at el
          rw [el] at h6
          have rt := ring_turn E' pm ra
          have same : (fun z => decide (z ∈ adj es y)) = fun z => decide (z ∈ turnOf y es) := rfl
          rw [same, rt] at h6
          exact q4 _ H6 (e5.trans e6) (.lst h6 (dts_ints' _))
        refine s_when (b := false) (et_test (ev_neDt tn (dt_ev (ev_var rfl) (.lst h3 (dts_ints' _))) (sh_ints' _) (by decide))) (fun h => nomatch h) fun _ H4 e4 => ?_
        exact ⟨x3.trans e4, _, _, rfl⟩
      · rintro σ' H2 ⟨e2, y4, y5, rfl⟩
        exact ⟨e2, _, _, _, rfl⟩
    · rintro σ' H1 ⟨e1, y3, y4, y5, rfl⟩
      exact s_ret (v := .bl true) ev_c fun H2 e2 => q H2 (e1.trans e2)
end
end K10
namespace K10
open PySem PySem.Spec PyProof.Rows L2 Os Evl
abbrev sIsOrd : Stmt := topS 25
theorem scIsOrd : FnScope ["forest", "thing", "n", "edges", "entry"] ["forest", "thing"] (defScope sIsOrd) := ⟨rfl, rfl, rfl, by decide +kernel, rfl, by decide +kernel, by decide +kernel⟩
section
variable {P : Program} {w : World} {K : PySem.W.Frag} {mg : Str → Option Value} {base : Heap}
def spIsOrd : Sp := fun vs H Q _ => ∃ (v o : V) (n : Nat) (es os : List Pr), vs = [v, o] ∧ GraphV H v n es ∧ IsForest n es ∧ OrdV H o os ∧ os.Perm es ∧ ∀ H', Ex H H' → Q (.bl true) H'
def spChkO : Sp := fun vs H Q _ => ∃ (v o : V) (n : Nat) (es os : List Pr), vs = [v, o] ∧ GraphV H v n es ∧ IsForest n es ∧ OrdV H o os ∧ os.Perm es ∧ ∀ H', Ex H H' → Q .non H'
theorem ok_isord {f fE : Addr} {fd fdE : FuncData} {k : Nat} (F : Fun K "is_order" "is_order" sIsOrd f fd)
    (GE : FnOk P w K mg base CX0 k fE fdE ["n", "thing"] spEdge) (FE : Fun K "is_edge" "is_edge" sEdge fE fdE) (bE : Binds K fdE ["n", "thing"] []) (gE : mg "is_edge" = some (.ref fE))
    (mIsi : mg "isinstance" = none) (mList : mg "list" = none) (mAll : mg "all" = none) (mSorted : mg "sorted" = none) : FnOk P w K mg base CX0 (k + 1) f fd ["forest", "thing"] spIsOrd := by
  refine F.ok scIsOrd (fun vs H Q E h => ?_) (fun cdv A outer s H vs Q E hr h => ?_)
  · obtain ⟨v, o, n, es, os, rfl, _⟩ := h
    rfl
  · obtain ⟨v, o, n, es, os, rfl, hg, ok, ho, pm, q⟩ := h
    refine ⟨_, (pss_cons (ps_asg (pv 0) (pg_tup rfl (pgs_cons (pg_name (i := 2) scIsOrd.nd rfl (Or.inr rfl)) (pgs_cons (pg_name (i := 3) scIsOrd.nd rfl (Or.inl rfl)) pgs_nil))))
      (pss_cons (ps_if (PW.pt (pw_or (pt_not (pt_val (pe_callB call_isi (by rfl) mIsi boot_isinstance (pa_cons (pv 1) (pa_cons (pe_bltn (v := .ty "list") (by rfl) mList boot_list rfl) pa_nil))))) (pw_or1 (pt_not (pt_val (pe_callB (cr_all rfl) (by rfl) mAll boot_all (pa_cons (pe_lc (own := [("entry", 4)]) (g := gName 4) (tt := tYes) rfl scIsOrd.nd (pi_list (pv 1)) (blkOk_by (N := ["forest", "thing", "n", "edges", "entry"]) (sc := defScope sIsOrd) (by decide +kernel)) (fun _ _ _ _ _ => pg_name (i := 4) scIsOrd.nd rfl (Or.inl rfl)) (fun _ _ _ _ _ => pts_nil) (fun _ _ _ _ _ => (pe_call GE hr (by rfl) gE FE.kp bE .nil pass0 (pa_cons (pv 2) (pa_cons (pv 4) pa_nil))))) pa_nil))))))) (pss_one (ps_ret pe_bl)) pss_nil)
      (pss_one (ps_ret (pe_cmpR (op_eqD hr.units) (pe_callB (cr_sortT (d := 2) (B := 64) (by decide)) (by rfl) mSorted boot_sorted (pa_cons (pv 1) pa_nil)) (pv 3) (nomark _)))))), ?_⟩
    obtain ⟨g, a, xs, rfl, h2, h3, h4⟩ := hg
    obtain ⟨b, ys, rfl, h5, h6⟩ := ho
    have ly := h6.length
    have lo := pm.length_eq
    have few := ok.few
    have small : ∀ e ∈ es, e.1 < 64 ∧ e.2 < 64 := fun e he => by have := ok.edges.inn e he; have := ok.n40; omega
    refine ⟨.ref g, rfl, g, _, rfl, st_of h2, rfl, .int (n : Int), _, rfl, .ref a, [], rfl, rfl, ?_⟩
    refine q_when (b := false) (et_is (et_or (a := !true) (b := !true) (et_not (et_B (ev_isi (ev_var rfl) (.lst h5 h6.dts) (kit_list _)))) fun _ => et_not (et_B (ev_is (ev_all (bs := os.map fun _ => true) ?_) ?_))) rfl) (fun h => nomatch h) fun _ H1 e1 => ?_
    · rw [List.map_map, ← given_map os (V.bl ∘ fun _ => true) (fun _ => .bl true) (fun _ _ _ => rfl), ← ly]
      refine el_lcL (f := fun _ => true) (v := _) (ev_var rfl) (sq_of h5) (by omega) (fun _ => rfl) (fun i c H2 _ _ => fun H3 e3 Q q => q H3 (Ex.refl H3)) (fun i x H4 e4 hx _ => ?_)
      obtain ⟨e, he, pe⟩ := h6.get hx
      refine ev_sp (ea_cons (ev_var rfl) (ea_cons (ev_var rfl) ea_nil)) fun H5 e5 Q q => ⟨(n : Int), x, Os.prD e, rfl, (pe.ex (e4.trans e5)).dt, fun H6 e6 => ?_⟩
      rw [edge_ok ok (pm.mem_iff.mp (List.mem_of_getElem? he))]
      exact q H6 e6
    · rw [List.all_eq_true.mpr (fun b hb => by
        obtain ⟨_, _, rfl⟩ := List.mem_map.mp hb
        rfl)]
    · refine ⟨.ref b, rfl, b, ys, rfl, sq_of (e1 _ _ h5), by omega, fun x hx => ?_, fun ys' p pmy pw hp => ?_⟩
      · obtain ⟨j, hj⟩ := List.mem_iff_getElem?.mp hx
        obtain ⟨e, he, tt, rfl, htt⟩ := h6.get hj
        have se := small e (pm.mem_iff.mp (List.mem_of_getElem? he))
        exact ⟨[(e.1 : Int), (e.2 : Int)], ⟨tt, rfl, st_of (e1 _ _ htt)⟩, rfl, fun m hm => by
          rcases List.mem_cons.mp hm with rfl | hm
          · omega
          · rw [List.mem_singleton.mp hm]
            omega⟩
      · obtain ⟨fs, pf, pmf⟩ := (h6.ex e1).perm pmy
        have sf : fs.Pairwise fun e f => (e.1 : Int) * 64 + (e.2 : Int) ≤ (f.1 : Int) * 64 + (f.2 : Int) := PrsV.pairwise pf pw fun v u e f r pv pu => by
          obtain ⟨tv, rfl, hv⟩ := pv
          obtain ⟨tu, rfl, hu⟩ := pu
          have := r [(e.1 : Int), (e.2 : Int)] [(f.1 : Int), (f.2 : Int)] ⟨tv, rfl, st_of hv⟩ ⟨tu, rfl, st_of hu⟩
          rwa [code_pair, code_pair] at this
        have same : fs = es := pairs_same (pmf.trans pm) sf ok.edges.asc small
        subst same
        have x1 := Ex.new (o := .lst ys') hp
        refine ⟨.ref a, rfl, .list (fs.map Os.prD), .list (fs.map Os.prD), Dt.dp (.lst upd_same (pf.ex x1).dts), Dt.dp (.lst (x1 _ _ (e1 _ _ h3)) (h4.ex (e1.trans x1)).dts), (sh_prs fs).shaped (by decide), (sh_prs fs).shaped (by decide), ?_⟩
        rw [(sh_prs fs).refl]
        exact q _ (e1.trans x1)
theorem ok_chkO {f fO : Addr} {fd fdO : FuncData} {k : Nat} (F : Fun K "check_order" "check_order" sChkO f fd)
    (GO : FnOk P w K mg base CX0 k fO fdO ["forest", "thing"] spIsOrd) (FO : Fun K "is_order" "is_order" sIsOrd fO fdO) (bO : Binds K fdO ["forest", "thing"] []) (gO : mg "is_order" = some (.ref fO)) : FnOk P w K mg base CX0 (k + 1) f fd ["forest", "order"] spChkO := by
  refine F.ok scChkO (fun vs H Q E h => ?_) (fun cdv A outer s H vs Q E hr h => ?_)
  · obtain ⟨v, o, n, es, os, rfl, _⟩ := h
    rfl
  · obtain ⟨v, o, n, es, os, rfl, hg, ok, ho, pm, q⟩ := h
    refine ⟨_, (pss_one (ps_if (pt_not (pt_val (pe_call GO hr (by rfl) gO FO.kp bO .nil pass0 (pa_cons (pv 0) (pa_cons (pv 1) pa_nil))))) pss_never pss_nil)), ?_⟩
    refine s_when (b := !true) (et_not (et_B (ev_sp (ea_cons (ev_var rfl) (ea_cons (ev_var rfl) ea_nil)) fun H1 e1 Q q => ⟨_, _, n, es, os, rfl, hg.ex e1, ok, ho.ex e1, pm, q⟩))) (fun h => nomatch h) fun _ H1 e1 => q H1 e1
end
end K10
namespace K10
open PySem PySem.Spec PyProof.Rows L2 Os Evl
section
variable {P : Program} {w : World} {K : PySem.W.Frag} {mg : Str → Option Value} {base : Heap}
theorem ok_apply {f fF fA fO fW : Addr} {fd fdF fdA fdO fdW : FuncData} {k : Nat} (F : Fun K "apply_order" "apply_order" sApply f fd)
    (GF : FnOk P w K mg base CX0 k fF fdF ["forest"] spChkF) (FF : Fun K "check_forest" "check_forest" sChkF fF fdF) (bF : Binds K fdF ["forest"] []) (gF : mg "check_forest" = some (.ref fF))
    (GA : FnOk P w K mg base CX0 k fA fdA ["n", "items"] spChkA) (FA : Fun K "check_arrangement" "check_arrangement" sChkA fA fdA) (bA : Binds K fdA ["n", "items"] []) (gA : mg "check_arrangement" = some (.ref fA))
    (GO : FnOk P w K mg base CX0 k fO fdO ["forest", "order"] spChkO) (FO : Fun K "check_order" "check_order" sChkO fO fdO) (bO : Binds K fdO ["forest", "order"] []) (gO : mg "check_order" = some (.ref fO))
    (GW : FnOk P w K mg base CX0 k fW fdW ["items", "edges"] spSwp) (FW : Fun K "swapped" "swapped" sSwp fW fdW) (bW : Binds K fdW ["items", "edges"] []) (gW : mg "swapped" = some (.ref fW)) : FnOk P w K mg base CX0 (k + 1) f fd ["forest", "items", "order"] spApply := by
  refine F.ok scApply (fun vs H Q E h => ?_) (fun cdv A outer s H vs Q E hr h => ?_)
  · obtain ⟨v, i, o, n, es, os, zs, rfl, _⟩ := h
    rfl
  · obtain ⟨v, i, o, n, es, os, zs, rfl, hg, ok, hi, az, ho, pm, q⟩ := h
    refine ⟨_, (pss_cons (ps_expr (pe_call GF hr (by rfl) gF FF.kp bF .nil pass0 (pa_cons (pv 0) pa_nil)))
      (pss_cons (ps_expr (pe_call GA hr (by rfl) gA FA.kp bA .nil pass0 (pa_cons (pe_ix ix_tup (pv 0) pe_int (fun _ _ => rfl)) (pa_cons (pv 1) pa_nil))))
      (pss_cons (ps_expr (pe_call GO hr (by rfl) gO FO.kp bO .nil pass0 (pa_cons (pv 0) (pa_cons (pv 2) pa_nil))))
      (pss_one (ps_ret (pe_call GW hr (by rfl) gW FW.kp bW .nil pass0 (pa_cons (pv 1) (pa_cons (pv 2) pa_nil)))))))), ?_⟩
    refine q_drop (v := .non) (ev_sp (ea_cons (ev_var rfl) ea_nil) fun H1 e1 Q q => ⟨_, n, es, rfl, hg.ex e1, ok, q⟩) fun H1 e1 => ?_
    have hg1 := hg.ex e1
    obtain ⟨g, a, xs, rfl, h2, h3, h4⟩ := hg1
    refine q_drop (v := .non) (ev_sp (ea_cons (ev_op (ev_var rfl) ev_c (rv_ixT (st_of h2) (atI_nat (j := 0) rfl))) (ea_cons (ev_var rfl) ea_nil)) fun H2 e2 Q q => ⟨_, n, zs, rfl, hi.ex (e1.trans e2), az, ok.n40, q⟩) fun H2 e2 => ?_
    refine q_drop (v := .non) (ev_sp (ea_cons (ev_var rfl) (ea_cons (ev_var rfl) ea_nil)) fun H3 e3 Q q => ⟨_, _, n, es, os, rfl, hg.ex ((e1.trans e2).trans e3), ok, ho.ex ((e1.trans e2).trans e3), pm, q⟩) fun H3 e3 => ?_
    have e13 := (e1.trans e2).trans e3
    exact ⟨i, rfl, o, rfl, i, o, n, zs, os, rfl, hi.ex e13, az.len, ho.ex e13, (fun e he => by have := ok.edges.inn e (pm.mem_iff.mp he); omega), fun H' p e' hp h' => q H' p (e13.trans e') (fresh_back e13 hp) h'⟩
end
end K10
/-! tuples: what is in them; comprehensions over them; empty lists -/
namespace L2
open PySem PySem.Spec PyProof.Rows
section
variable {X : Cx}
def rNotInU (K : PySem.W.Frag) : R2 := fun x y H Q => ∃ d ds, Dp K H x d ∧ Dp K H y (.tuple ds) ∧ SeqAt.shaped d = true ∧ SeqAt.shaped (.list ds) = true ∧ Q (.bl (!ds.any fun z => PyData.eqv z d)) H
theorem op_notInU (hu : X.A.units + 65 < cLine) : OpR X (compareOp .NotIn) (rNotInU X.K) := by
  intro pins s σ H x y v u Q I rx ry h
  obtain ⟨d, ds, hd, he, sd, se, q⟩ := h
  obtain ⟨as, r1⟩ := Dp.reads I d x v hd rx
  obtain ⟨bs, r2⟩ := Dp.reads I (.tuple ds) y u he ry
  exact SeqAt.notIn_tuple_reads r2 r1 (SeqAt.canLay_of_shaped se) (SeqAt.canLay_of_shaped sd) (room_in_shaped sd hu) ⟨.bl _, H, I, rfl, q⟩
end
end L2
namespace Os
open PySem PySem.Spec PyProof.Rows L2 Evl
section
variable {K : PySem.W.Frag} {σ : L2.St} {H : Hp} {D : Ends} {ta tb tl te : TE} {t tt : TT} {tu tz : TS} {a : Addr} {v u x y : V} {e f g : Pr}
/-- not among two pairs -/
theorem ev_nin2 (hv : Ev tl σ H v) (ha : Ev ta σ H x) (hb : Ev tb σ H y) (pv : PrV H v g) (px : PrV H x e) (py : PrV H y f) : Ev (tOp (rNotInU K) tl (tTup (tCons ta (tCons tb tNil)))) σ H (.bl (!(decide (e = g) || decide (f = g)))) := fun H1 e1 Q q =>
  hv H1 e1 _ fun H2 e2 => ha H2 (e1.trans e2) _ fun H3 e3 => hb H3 ((e1.trans e2).trans e3) _ fun H4 e4 => ⟨show 2 ≤ sizeLine by decide, fun t ht => by
    have et := Ex.new (o := .tup [x, y]) ht
    have x4 := ((e1.trans e2).trans (e3.trans e4)).trans et
    refine ⟨prD g, [prD e, prD f], ((pv.ex x4).dt).dp, (Dt.tup upd_same (.cons (px.ex x4).dt (.cons (py.ex x4).dt .nil))).dp, (sh_pr g).shaped (by decide), (sh_prs' [e, f]).shaped (by decide), ?_⟩
    have z : ([prD e, prD f].any fun z => PyData.eqv z (prD g)) = (decide (e = g) || decide (f = g)) := by
      rw [List.any_cons, List.any_cons, List.any_nil, Bool.or_false, eqv_prs, eqv_prs]
    rw [z]
    exact q _ ((e2.trans (e3.trans e4)).trans et)⟩
def touch (e : Pr) (p : Nat) : Bool := decide (e.1 = p) || decide (e.2 = p)
/-- a number in a pair -/
theorem rv_inT {p : Nat} (hv : PrV H v e) : RV (rIn K false) (.int (p : Int)) v H (.bl (touch e p)) := fun H1 e1 Q q => by
  obtain ⟨t, rfl, ht⟩ := hv
  refine ⟨t, _, rfl, .inr (st_of (e1 _ _ ht)), rfl, rfl, ?_⟩
  have z : (if false = true then !inV (.int (p : Int)) [V.int (e.1 : Int), V.int (e.2 : Int)] else inV (.int (p : Int)) [V.int (e.1 : Int), V.int (e.2 : Int)]) = touch e p := by
    rw [if_neg (by decide)]
    unfold inV touch
    rw [List.any_cons, List.any_cons, List.any_nil, Bool.or_false]
    have : ∀ a b : Nat, eqV (.int (a : Int)) (.int (b : Int)) = decide (a = b) := fun a b => by
      show ((a : Int) == (b : Int)) = _
      by_cases h : a = b
      · subst h; simp
      · rw [decide_eq_false h]
        exact beq_eq_false_iff_ne.mpr (by omega)
    rw [this, this]
  rw [z]
  exact q H1 (Ex.refl H1)
/-- a comprehension over a tuple -/
theorem el_lcU {xs : List V} {j : Nat} {vs : List Nat} (f : Nat → Bool) (v : Nat → V) (h : Ev tl σ H (.ref a)) (hx : SqT K H a xs) (hz : xs.length ≤ 40000) (hw : ∀ x, wipe ((wipe σ vs).set j (some x)) vs = wipe σ vs)
    (ht : ∀ (i : Nat) (x : V) H1, Ex H H1 → xs[i]? = some x → EvT t ((wipe σ vs).set j (some x)) H1 (f i)) (he : ∀ (i : Nat) (x : V) H1, Ex H H1 → xs[i]? = some x → f i = true → Ev te ((wipe σ vs).set j (some x)) H1 (v i)) :
    EvL (tLc (iTup K tl) (gName j) t te vs) σ H (given xs.length f v) := fun H0 e Q q => h H0 e _ fun H1 e1 => ⟨a, rfl, ⟨xs, ex_t (e.trans e1) hx⟩, fun Dl hD =>
  lc_tup (xs := xs) (Cw H1 f v Dl) ⟨hD, Ex.new hD, upd_same⟩ (fun i H' _ p => ex_t ((e.trans e1).trans p.2.1) hx) (fun i x H' hi p => ⟨hw x, cw_turn p (by have := (List.getElem?_eq_some_iff.mp hi).1; omega) (ht i x H1 (e.trans e1) hi) (fun hf => he i x H1 (e.trans e1) hi hf)⟩)
    (fun H' p => q Dl H' (fresh_back e1 p.1) (e1.trans p.2.1) p.2.2)⟩
theorem eqv_nil : ∀ ds : List PyData, PyData.eqv (.list ds) (.list []) = decide (ds = [])
  | [] => by decide
  | d :: ds => by
    rw [decide_eq_false (fun h => nomatch h)]
    rfl
/-- the empty list or not -/
theorem eq_nil {xs : List V} {ds : List PyData} {n : Nat} (h : EvL te σ H xs) (hx : ∀ H1, Ex H H1 → Dts H1 xs ds) (sh : Sh n (.list ds)) (le : n ≤ 64) : Ev (tOp (rEqD K) te (tLst tNil)) σ H (.bl (decide (ds = []))) := fun H1 e1 Q q =>
  h H1 e1 _ fun p H2 hp e2 h2 => ⟨show 0 ≤ sizeLine by decide, fun t ht => by
    have e3 := Ex.new (o := .lst []) ht
    refine ⟨.list ds, .list [], (Dt.lst (e3 _ _ h2) (hx _ ((e1.trans e2).trans e3))).dp, (Dt.lst upd_same .nil).dp, sh.shaped le, (Sh.lst (n := 1) fun d hd => by cases hd).shaped (by decide), ?_⟩
    rw [eqv_nil]
    exact q _ (e2.trans e3)⟩
theorem eq_nilV {xs : List V} {ds : List PyData} {n : Nat} (h : Ev te σ H (.ref a)) (ha : H a = some (.lst xs)) (hx : Dts H xs ds) (sh : Sh n (.list ds)) (le : n ≤ 64) : Ev (tOp (rEqD K) te (tLst tNil)) σ H (.bl (decide (ds = []))) := fun H1 e1 Q q =>
  h H1 e1 _ fun H2 e2 => ⟨show 0 ≤ sizeLine by decide, fun t ht => by
    have e3 := Ex.new (o := .lst []) ht
    have x3 := (e1.trans e2).trans e3
    refine ⟨.list ds, .list [], (Dt.lst (x3 _ _ ha) (hx.same (same_ex x3))).dp, (Dt.lst upd_same .nil).dp, sh.shaped le, (Sh.lst (n := 1) fun d hd => by cases hd).shaped (by decide), ?_⟩
    rw [eqv_nil]
    exact q _ (e2.trans e3)⟩
theorem ne_nilV {xs : List V} {ds : List PyData} {n : Nat} (h : Ev te σ H (.ref a)) (ha : H a = some (.lst xs)) (hx : Dts H xs ds) (sh : Sh n (.list ds)) (le : n ≤ 64) : Ev (tOp (rNeD K) te (tLst tNil)) σ H (.bl (!decide (ds = []))) := fun H1 e1 Q q =>
  h H1 e1 _ fun H2 e2 => ⟨show 0 ≤ sizeLine by decide, fun t ht => by
    have e3 := Ex.new (o := .lst []) ht
    have x3 := (e1.trans e2).trans e3
    refine ⟨.list ds, .list [], (Dt.lst (x3 _ _ ha) (hx.same (same_ex x3))).dp, (Dt.lst upd_same .nil).dp, sh.shaped le, (Sh.lst (n := 1) fun d hd => by cases hd).shaped (by decide), ?_⟩
    rw [eqv_nil]
    exact q _ (e2.trans e3)⟩
end
end Os
/-! heaps but for some addresses -/
namespace Os
open PySem PySem.Spec PyProof.Rows L2 Evl
def hds (L : List Addr) (H : Hp) : Hp := fun b => if b ∈ L then none else H b
section
variable {L M : List Addr} {H H' : Hp} {a b s : Addr} {o : HO} {v : V} {d : PyData} {xs : List V} {ds : List PyData}
theorem hds_ne (h : b ∉ L) : hds L H b = H b := if_neg h
theorem hds_of (h : hds L H b = some o) : b ∉ L ∧ H b = some o := by
  unfold hds at h
  split at h
  · cases h
  · exact ⟨by assumption, h⟩
theorem hds_ex (e : Ex H H') : Ex (hds L H) (hds L H') := fun b o h => by
  obtain ⟨h1, h2⟩ := hds_of h
  rw [hds_ne h1]
  exact e _ _ h2
theorem hds_up : Ex (hds L H) H := fun b o h => (hds_of h).2
theorem hds_upd (h : a ∈ L) : hds L (upd H a o) = hds L H := by
  funext b
  unfold hds
  split
  · rfl
  · rename_i n
    exact upd_ne fun z => n (z ▸ h)
/-- what stands but for fewer places -/
theorem hds_sub (h : ∀ b ∈ M, b ∈ L) (e : Ex (hds M H) (hds M H')) : Ex (hds L H) (hds L H') := fun b o q => by
  obtain ⟨h1, h2⟩ := hds_of q
  rw [hds_ne h1]
  exact (hds_of (e b o (by rw [hds_ne fun z => h1 (h b z)]; exact h2))).2
theorem hds_new (h : H a = none) : Ex (hds L H) (hds L (upd H a o)) := hds_ex (Ex.new h)
theorem hds_drew {B : Nat} (d : Drew s B H H') (h : s ∈ L) : Ex (hds L H) (hds L H') := fun b o q => by
  obtain ⟨h1, h2⟩ := hds_of q
  rw [hds_ne h1]
  exact d.get (fun z => h1 (z ▸ h)) h2
theorem Dt.hex (h : Dt H v d) (e : Ex H H') : Dt H' v d := h.same (same_ex e)
theorem Dts.hex (h : Dts H xs ds) (e : Ex H H') : Dts H' xs ds := h.same (same_ex e)
theorem prs_hds {es : List Pr} (h : PrsV H xs es) (hl : ∀ b ∈ L, ∃ ys, H b = some (.lst ys)) : PrsV (hds L H) xs es := prs_map (fun v e hv => by
  obtain ⟨t, rfl, ht⟩ := hv
  refine ⟨t, rfl, ?_⟩
  rw [hds_ne fun z => ?_]
  · exact ht
  · obtain ⟨ys, hy⟩ := hl t z
    rw [hy] at ht
    cases ht) h
end
/-- all but the source and the list at a stands as it was -/
structure Drw2 (s a : Addr) (B : Nat) (H H' : Hp) : Prop where
  kept : Ex (hds [s, a] H) (hds [s, a] H')
  src : Src H' s B
section
variable {s a : Addr} {B C : Nat} {H H1 H2 : Hp}
theorem Drw2.refl (h : Src H s B) : Drw2 s a B H H := ⟨Ex.refl _, h⟩
theorem Drw2.trans (x : Drw2 s a B H H1) (y : Drw2 s a C H1 H2) : Drw2 s a C H H2 := ⟨x.kept.trans y.kept, y.src⟩
theorem Drw2.ex (x : Drw2 s a B H H1) (e : Ex H1 H2) : Drw2 s a B H H2 := ⟨x.kept.trans (hds_ex e), x.src.ex e⟩
theorem Drw2.mono (x : Drw2 s a B H H1) (le : B ≤ C) : Drw2 s a C H H1 := ⟨x.kept, x.src.mono le⟩
theorem Drew.two (x : Drew s B H H1) : Drw2 s a B H H1 := ⟨hds_drew x (by simp), x.src⟩
theorem Drw2.get (x : Drw2 s a B H H1) {b : Addr} {o : HO} (n1 : b ≠ s) (n2 : b ≠ a) (h : H b = some o) : H1 b = some o :=
  (hds_of (x.kept b o (by rw [hds_ne (by simp [n1, n2])]; exact h))).2
/-- the list itself changes -/
theorem Drw2.row (x : Drw2 s a B H H1) {o : HO} (n : a ≠ s) : Drw2 s a B H (upd H1 a o) := by
  refine ⟨by rw [hds_upd (by simp)]; exact x.kept, ?_⟩
  obtain ⟨p, q, r, h1, h2⟩ := x.src
  exact ⟨p, q, r, by rw [upd_ne n.symm]; exact h1, h2⟩
/-- an object that H does not know changes -/
theorem Drw2.mut (x : Drw2 s a B H H1) {p : Addr} {o : HO} (hs : ∃ u, H s = some u) (h : H p = none) : Drw2 s a B H (upd H1 p o) := by
  obtain ⟨u, hu⟩ := hs
  have np : s ≠ p := ne_of_none hu h
  refine ⟨fun b v q => ?_, ?_⟩
  · obtain ⟨q1, q2⟩ := hds_of q
    rw [hds_ne q1, upd_ne (ne_of_none q2 h)]
    exact (hds_of (x.kept b v q)).2
  · obtain ⟨y, z, w, h1, h2⟩ := x.src
    exact ⟨y, z, w, by rw [upd_ne np]; exact h1, h2⟩
/-- of a list that H does not know -/
theorem Drw2.off (y : Drw2 s a C H1 H2) {B : Nat} (x : Drew s B H H1) (h : H a = none) : Drew s C H H2 := by
  refine ⟨fun b o q => ?_, y.src⟩
  obtain ⟨q1, q2⟩ := hide_of q
  rw [hide_ne q1]
  exact y.get q1 (ne_of_none q2 h) (x.get q1 q2)
end
end Os
namespace Os
open PySem PySem.Spec PyProof.Rows L2 Evl
section
variable {G : Hp}
theorem Dts.app : ∀ {xs ys : List V} {ds es : List PyData}, Dts G xs ds → Dts G ys es → Dts G (xs ++ ys) (ds ++ es)
  | _, _, _, _, .nil, h => h
  | _, _, _, _, .cons h t, h2 => .cons h (Dts.app t h2)
theorem Dts.tk : ∀ {ds : List PyData} {xs : List V} (i : Nat), Dts G xs ds → Dts G (xs.take i) (ds.take i)
  | _, _, 0, _ => .nil
  | _, _, _ + 1, .nil => .nil
  | _, _, i + 1, .cons h t => .cons h (Dts.tk i t)
theorem Dts.dr : ∀ {ds : List PyData} {xs : List V} (i : Nat), Dts G xs ds → Dts G (xs.drop i) (ds.drop i)
  | _, _, 0, h => h
  | _, _, _ + 1, .nil => .nil
  | _, _, i + 1, .cons h t => Dts.dr i t
theorem Dts.st {v : V} {d : PyData} (hv : Dt G v d) : ∀ {ds : List PyData} {xs : List V} (i : Nat), Dts G xs ds → Dts G (xs.set i v) (ds.set i d)
  | _, _, _, .nil => .nil
  | _, _, 0, .cons h t => .cons hv t
  | _, _, i + 1, .cons h t => .cons h (Dts.st hv i t)
theorem Dts.er : ∀ {ds : List PyData} {xs : List V} (i : Nat), Dts G xs ds → Dts G (xs.eraseIdx i) (ds.eraseIdx i)
  | _, _, _, .nil => .nil
  | _, _, 0, .cons h t => t
  | _, _, i + 1, .cons h t => .cons h (Dts.er i t)
theorem Dts.at2 : ∀ {xs : List V} {ds : List PyData} {i : Nat} {x : V}, Dts G xs ds → xs[i]? = some x → ∃ d, ds[i]? = some d ∧ Dt G x d
  | _, _, _, _, .nil, h => by simp at h
  | _, _, 0, _, .cons h1 _, h => by
    simp at h
    subst h
    exact ⟨_, rfl, h1⟩
  | _, _, i + 1, _, .cons _ r, h => by
    have h' := Dts.at2 (i := i) r (by simpa using h)
    simpa using h'
end
end Os
namespace Os
open PySem PySem.Spec PyProof.Rows L2 Evl
section
variable {σ : L2.St} {H : Hp} {ta tb : TE} {x y : V} {D : Ends} {tz : TS} {i j : Nat}
theorem q_par (ha : Ev ta σ H x) (hb : Ev tb σ H y) (k : ∀ H1, Ex H H1 → tz D ((σ.set i (some x)).set j (some y)) H1) : tSeq (tPar i j (tCons ta (tCons tb tNil))) tz D σ H :=
  ha H (Ex.refl H) _ fun H1 e1 => hb H1 e1 _ fun H2 e2 => ⟨x, y, rfl, k H2 (e1.trans e2)⟩
end
end Os
namespace Os
open PySem PySem.Spec PyProof.Rows L2 Evl
section
variable {K : PySem.W.Frag} {σ : L2.St} {H : Hp} {ta tb te : TE} {t u : TT} {tu tz : TS} {D : Ends}
/-- if a and b: .., b told by hand -/
theorem q_andIf {b : Bool} (h : EvT t σ H b) (h2 : b = true → ∀ H1, Ex H H1 → u σ H1 fun c H2 => if c = true then tu { D with nx := tz D } σ H2 else tz D σ H2) (h3 : b = false → ∀ H1, Ex H H1 → tz D σ H1) : tSeq (tIfS (tAnd t u) tu tNext) tz D σ H :=
  h H (Ex.refl H) _ fun H1 e => by
    cases b with
    | true => exact h2 rfl H1 e
    | false => exact h3 rfl H1 e
theorem s_andIf {b : Bool} (h : EvT t σ H b) (h2 : b = true → ∀ H1, Ex H H1 → u σ H1 fun c H2 => if c = true then tu D σ H2 else D.nx σ H2) (h3 : b = false → ∀ H1, Ex H H1 → D.nx σ H1) : tIfS (tAnd t u) tu tNext D σ H :=
  h H (Ex.refl H) _ fun H1 e => by
    cases b with
    | true => exact h2 rfl H1 e
    | false => exact h3 rfl H1 e
/-- xs[i] = a new list -/
theorem s_setLL {l : Addr} {xs ys : List V} {j : Nat} (hl : H l = some (.lst xs)) (h : EvL te σ H ys) (ho : Ev ta σ H (.ref l)) (hi : Ev tb σ H (.int (j : Int))) (hj : j < xs.length) (k : ∀ p H1, H p = none → Ex H H1 → H1 p = some (.lst ys) → D.nx σ (upd H1 l (.lst (xs.set j (.ref p))))) :
    tAsg te (gSub ta tb rSetL) D σ H := h H (Ex.refl H) _ fun p H1 hp e1 h1 => ho H1 e1 _ fun H2 e2 => hi H2 (e1.trans e2) _ fun H3 e3 =>
  ⟨l, xs, (j : Int), j, rfl, rfl, ((e1.trans e2).trans e3) l _ hl, ixN_nat hj, k p H3 hp ((e1.trans e2).trans e3) (e3 _ _ (e2 _ _ h1))⟩
end
end Os
/-! objects of any kind: how long their text is, how deep they go; displays of such, told in a heap without some addresses -/
namespace Os
open PySem PySem.Spec PyProof.Rows L2 Evl
mutual
/-- how long the longest text within is -/
def smx : PyData → Nat
  | .str z => z.length
  | .list xs => smxAll xs
  | .tuple xs => smxAll xs
  | _ => 0
def smxAll : List PyData → Nat
  | [] => 0
  | x :: xs => max (smx x) (smxAll xs)
end
theorem smx_all {m : Nat} : ∀ {ds : List PyData}, (∀ d ∈ ds, smx d ≤ m) → smxAll ds ≤ m
  | [], _ => Nat.zero_le _
  | d :: ds, h => by
    show max (smx d) (smxAll ds) ≤ m
    have := h d List.mem_cons_self
    have := smx_all (ds := ds) fun x hx => h x (List.mem_cons_of_mem _ hx)
    omega
theorem smx_of {ds : List PyData} : ∀ d ∈ ds, smx d ≤ smxAll ds := by
  induction ds with
  | nil => intro d h; cases h
  | cons x xs ih =>
    intro d h
    show smx d ≤ max (smx x) (smxAll xs)
    rcases List.mem_cons.mp h with rfl | h
    · omega
    · have := ih d h
      omega
structure Kd (L D : Nat) (d : PyData) : Prop where
  lim : Lim L D d
  lay : PyData.canLay0 d = true
  sm : smx d ≤ 1000
theorem Kd.mono {L D L' D' : Nat} {d : PyData} (h : Kd L D d) (h1 : L ≤ L') (h2 : D ≤ D') : Kd L' D' d := ⟨h.lim.mono h1 h2, h.lay, h.sm⟩
theorem Kd.sh {L D : Nat} {d : PyData} (h : Kd L D d) : Sh D d := ⟨h.lay, h.lim.deep⟩
theorem Kd.lst {L D m : Nat} {ds : List PyData} (h : ∀ d ∈ ds, Kd L D d) (hm : ds.length ≤ m) : Kd (3 + (L + 2) * m) (D + 1) (.list ds) := ⟨Lim.lst (fun d hd => (h d hd).lim) hm, (sh_all fun d hd => (h d hd).sh).1, smx_all fun d hd => (h d hd).sm⟩
theorem Kd.tup {L D m : Nat} {ds : List PyData} (h : ∀ d ∈ ds, Kd L D d) (hm : ds.length ≤ m) : Kd (3 + (L + 2) * m) (D + 1) (.tuple ds) := ⟨Lim.tup (fun d hd => (h d hd).lim) hm, (sh_all fun d hd => (h d hd).sh).1, smx_all fun d hd => (h d hd).sm⟩
theorem kd_int64 : ∀ i, i < 64 → (PyData.int ((i : Nat) : Int)).shown.length ≤ 70 := by decide +kernel
theorem kd_big64 : ∀ i, i < 64 → (PyData.int ((i : Nat) + 10 ^ 59 : Int)).shown.length ≤ 70 ∧ (PyData.int ((i : Nat) + 10 ^ 59 : Int)).showable = true := by decide +kernel
theorem kd_str64 : ∀ i, i < 64 → (toString ((i : Nat) : Int) : Str).length ≤ 2 ∧ PyData.strOk (toString ((i : Nat) : Int)) = true := by decide +kernel
theorem Kd.int {i : Nat} (h : i < 64) : Kd 70 0 (.int (i : Int)) := ⟨⟨kd_int64 i h, Nat.zero_le _, (Lim.int h).show', rfl⟩, rfl, Nat.zero_le _⟩
theorem Kd.big {i : Nat} (h : i < 64) : Kd 70 0 (.int ((i : Int) + 10 ^ 59)) := ⟨⟨(kd_big64 i h).1, Nat.zero_le _, (kd_big64 i h).2, rfl⟩, rfl, Nat.zero_le _⟩
theorem Kd.non : Kd 70 0 .none := ⟨⟨by decide, Nat.zero_le _, rfl, rfl⟩, rfl, Nat.zero_le _⟩
theorem Kd.bl (b : Bool) : Kd 70 0 (.bool b) := ⟨⟨by cases b <;> decide, Nat.zero_le _, rfl, rfl⟩, rfl, Nat.zero_le _⟩
theorem Kd.neg : Kd 70 0 (.int (-1)) := ⟨⟨by decide +kernel, Nat.zero_le _, by decide +kernel, rfl⟩, rfl, Nat.zero_le _⟩
theorem Kd.str {z : Str} (h : z.length ≤ 4) (ok : PyData.strOk z = true) : Kd 70 0 (.str z) := by
  refine ⟨⟨?_, Nat.zero_le _, rfl, rfl⟩, ok, show z.length ≤ 1000 by omega⟩
  show (reprText z).length ≤ _
  have := StrLaws.reprText_len z fun c hc => Nat.lt_trans (str_codes ok c hc) (by decide)
  omega
theorem Kd.name {z : Str} (h : z.length ≤ 16) (ok : PyData.strOk z = true) : Kd 200 0 (.str z) := by
  refine ⟨⟨?_, Nat.zero_le _, rfl, rfl⟩, ok, show z.length ≤ 1000 by omega⟩
  show (reprText z).length ≤ _
  have := StrLaws.reprText_len z fun c hc => Nat.lt_trans (str_codes ok c hc) (by decide)
  omega
/-- no longer list than a thousand -/
def ShL : PyData → Prop
  | .list ds => ds.length ≤ 1000
  | _ => True
/-- such an object -/
def KV (n d : Nat) (G : Hp) (v : V) : Prop := ∃ x, Dt G v x ∧ Kd n d x ∧ ShL x
theorem kv_up {n d : Nat} : Up (KV n d) := fun _ _ _ e ⟨x, h, i⟩ => ⟨x, h.same (same_ex e), i⟩
theorem dts_exK {G : Hp} {R : PyData → Prop} : ∀ {xs : List V}, (∀ x ∈ xs, ∃ d, Dt G x d ∧ R d) → ∃ ds, Dts G xs ds ∧ (∀ d ∈ ds, R d) ∧ ds.length = xs.length
  | [], _ => ⟨[], .nil, (fun _ h => nomatch h), rfl⟩
  | x :: xs, h => by
    obtain ⟨d, h1, h2⟩ := h x List.mem_cons_self
    obtain ⟨ds, h3, h4, h5⟩ := dts_exK (xs := xs) fun y hy => h y (List.mem_cons_of_mem _ hy)
    refine ⟨d :: ds, .cons h1 h3, fun y hy => ?_, by rw [List.length_cons, h5, List.length_cons]⟩
    rcases List.mem_cons.mp hy with rfl | hy
    · exact h2
    · exact h4 y hy
section
variable {G G' : Hp} {n d n' d' m : Nat} {v : V} {q : Addr} {xs : List V}
theorem KV.mono (h : KV n d G v) (h1 : n ≤ n') (h2 : d ≤ d') : KV n' d' G v := by
  obtain ⟨x, a, b, c⟩ := h
  exact ⟨x, a, b.mono h1 h2, c⟩
theorem KV.ex (h : KV n d G v) (e : Ex G G') : KV n d G' v := kv_up _ _ _ e h
theorem kv_list (h : G q = some (.lst xs)) (hl : xs.length ≤ m) (hm : m ≤ 1000) (hx : ∀ x ∈ xs, KV n d G x) : KV (3 + (n + 2) * m) (d + 1) G (.ref q) := by
  obtain ⟨ds, h1, h2, h3⟩ := dts_exK hx
  exact ⟨.list ds, .lst h h1, Kd.lst (fun d hd => (h2 d hd).1) (by omega), show ds.length ≤ 1000 by omega⟩
theorem kv_tup (h : G q = some (.tup xs)) (hl : xs.length ≤ m) (hx : ∀ x ∈ xs, KV n d G x) : KV (3 + (n + 2) * m) (d + 1) G (.ref q) := by
  obtain ⟨ds, h1, h2, h3⟩ := dts_exK hx
  exact ⟨.tuple ds, .tup h h1, Kd.tup (fun d hd => (h2 d hd).1) (by omega), trivial⟩
theorem kv_non : KV 70 0 G .non := ⟨_, .non, Kd.non, trivial⟩
theorem kv_bl {b : Bool} : KV 70 0 G (.bl b) := ⟨_, .bl b, Kd.bl b, trivial⟩
theorem kv_int {i : Nat} (h : i < 64) : KV 70 0 G (.int (i : Int)) := ⟨_, .int _, Kd.int h, trivial⟩
theorem kv_big {i : Nat} (h : i < 64) : KV 70 0 G (.int ((i : Int) + 10 ^ 59)) := ⟨_, .int _, Kd.big h, trivial⟩
theorem kv_neg : KV 70 0 G (.int (-1)) := ⟨_, .int _, Kd.neg, trivial⟩
theorem kv_str {z : Str} (h : z.length ≤ 4) (ok : PyData.strOk z = true) : KV 70 0 G (.str z) := ⟨_, .str _, Kd.str h ok, trivial⟩
theorem kv_name {z : Str} (h : z.length ≤ 16) (ok : PyData.strOk z = true) : KV 200 0 G (.str z) := ⟨_, .str _, Kd.name h ok, trivial⟩
theorem kv_pr {e : Pr} (h : PrV G v e) (h1 : e.1 < 64) (h2 : e.2 < 64) : KV 147 1 G v := by
  obtain ⟨t, rfl, ht⟩ := h
  refine kv_tup (n := 70) (d := 0) (m := 2) ht (Nat.le_refl _) fun x hx => ?_
  rcases List.mem_cons.mp hx with rfl | hx
  · exact kv_int h1
  · rw [List.mem_singleton.mp hx]
    exact kv_int h2
theorem kv_prs {es : List Pr} (h : PrsV G xs es) (hs : ∀ e ∈ es, e.1 < 64 ∧ e.2 < 64) : ∀ x ∈ xs, KV 147 1 G x := fun x hx => by
  obtain ⟨i, hi⟩ := List.mem_iff_getElem?.mp hx
  obtain ⟨e, he, pe⟩ := h.get hi
  have := hs e (List.mem_of_getElem? he)
  exact kv_pr pe this.1 this.2
end
section
variable (L : List Addr) (R : Hp → V → Prop)
def Stn (H : Hp) : Prop := ∀ b ∈ L, ∃ o, H b = some o
def EvK (te : TE) (σ : L2.St) (H : Hp) : Prop := ∀ H1, Ex H H1 → ∀ Q : VK, (∀ v H2, Ex H1 H2 → R (hds L H2) v → Q v H2) → te σ H1 Q
def EvKs (ta : TA) (σ : L2.St) (H : Hp) (n : Nat) : Prop := ∀ H1, Ex H H1 → ∀ Q : List V → Hp → Prop, (∀ vs H2, Ex H1 H2 → vs.length = n → (∀ v ∈ vs, R (hds L H2) v) → Q vs H2) → ta σ H1 Q
/-- a new list of lo to hi such items -/
def EvLK (te : TE) (σ : L2.St) (H : Hp) (lo hi : Nat) : Prop := ∀ H1, Ex H H1 → ∀ Q : VK,
  (∀ p xs H2, H1 p = none → Ex H1 H2 → H2 p = some (.lst xs) → lo ≤ xs.length → xs.length ≤ hi → (∀ x ∈ xs, R (hds L H2) x) → Q (.ref p) H2) → te σ H1 Q
/-- a list that stands at p, the same of its items -/
def LsK (H : Hp) (p : Addr) (lo hi : Nat) : Prop := p ∉ L ∧ ∃ xs, H p = some (.lst xs) ∧ lo ≤ xs.length ∧ xs.length ≤ hi ∧ ∀ x ∈ xs, R (hds L H) x
end
section
variable {K : PySem.W.Frag} {L : List Addr} {R R' : Hp → V → Prop} {σ : L2.St} {H H' : Hp} {ta tb te : TE} {tl tr : TA} {n m lo hi lo' hi' : Nat} {v : V}
theorem Stn.ex (h : Stn L H) (e : Ex H H') : Stn L H' := fun b hb => by
  obtain ⟨o, ho⟩ := h b hb
  exact ⟨o, e _ _ ho⟩
theorem Stn.out (h : Stn L H) {p : Addr} (hp : H p = none) : p ∉ L := fun hb => by
  obtain ⟨o, ho⟩ := h p hb
  rw [hp] at ho
  cases ho
theorem Stn.at (h : Stn L H) {p : Addr} {o : HO} (hp : H p = none) (hq : H' p = some o) : hds L H' p = some o := by
  rw [hds_ne (h.out hp)]
  exact hq
theorem ek_of (up : Up R) (h : Ev te σ H v) (r : R (hds L H) v) : EvK L R te σ H := fun H1 e Q q =>
  h H1 e _ fun H2 e2 => q v H2 e2 (up _ _ _ (hds_ex (e.trans e2)) r)
theorem ek_imp (h : EvK L R te σ H) (f : ∀ G v, R G v → R' G v) : EvK L R' te σ H := fun H1 e Q q => h H1 e Q fun v H2 e2 r => q v H2 e2 (f _ _ r)
theorem ek_mono (e : Ex H H') (h : EvK L R te σ H) : EvK L R te σ H' := fun H1 a Q q => h H1 (e.trans a) Q q
theorem eks_nil : EvKs L R tNil σ H 0 := fun H1 _ Q q => q [] H1 (Ex.refl _) rfl fun _ h => nomatch h
theorem eks_cons (up : Up R) (h : EvK L R te σ H) (hr : EvKs L R tr σ H n) : EvKs L R (tCons te tr) σ H (n + 1) := fun H1 e Q q =>
  h H1 e _ fun v H2 e2 r => hr H2 (e.trans e2) _ fun vs H3 e3 hn hv => q (v :: vs) H3 (e2.trans e3) (by rw [List.length_cons, hn]) fun x hx => by
    rcases List.mem_cons.mp hx with rfl | hx
    · exact up _ _ _ (hds_ex e3) r
    · exact hv x hx
theorem elk_lst (up : Up R) (h : EvKs L R tl σ H n) (hn : n ≤ 1000) : EvLK L R (tLst tl) σ H n n := fun H1 e Q q =>
  h H1 e _ fun vs H2 e2 hl hv => ⟨by rw [hl]; exact sz_of (by omega), fun p hp => q p vs _ (fresh_back e2 hp) (e2.trans (Ex.new hp)) upd_same (by omega) (by omega) fun x hx => up _ _ _ (hds_ex (Ex.new hp)) (hv x hx)⟩
theorem elk_cat (up : Up R) (h1 : EvLK L R ta σ H lo hi) (h2 : EvLK L R tb σ H lo' hi') (hn : hi + hi' ≤ 10000) : EvLK L R (tOp rCat ta tb) σ H (lo + lo') (hi + hi') := fun H1 e Q q =>
  h1 H1 e _ fun p xs H2 hp e2 hx l1 l2 rx => h2 H2 (e.trans e2) _ fun p' ys H3 hp' e3 hy l3 l4 ry =>
    ⟨p, p', xs, ys, rfl, rfl, e3 _ _ hx, hy, sz_of (by omega), fun r hr => q r (xs ++ ys) _ (fresh_back (e2.trans e3) hr) ((e2.trans e3).trans (Ex.new hr)) upd_same (by rw [List.length_append]; omega) (by rw [List.length_append]; omega) fun x hx => by
      rcases List.mem_append.mp hx with z | z
      · exact up _ _ _ (hds_ex (e3.trans (Ex.new hr))) (rx x z)
      · exact up _ _ _ (hds_ex (Ex.new hr)) (ry x z)⟩
/-- the left one stands there already -/
theorem elk_catV (up : Up R) {p : Addr} (h1 : Ev ta σ H (.ref p)) (hp : LsK L R H p lo hi) (h2 : EvLK L R tb σ H lo' hi') (hn : hi + hi' ≤ 10000) : EvLK L R (tOp rCat ta tb) σ H (lo + lo') (hi + hi') := fun H1 e Q q => by
  obtain ⟨_, xs, hx, l1, l2, rx⟩ := hp
  exact h1 H1 e _ fun H2 e2 => h2 H2 (e.trans e2) _ fun p' ys H3 hp' e3 hy l3 l4 ry =>
    ⟨p, p', xs, ys, rfl, rfl, ((e.trans e2).trans e3) _ _ hx, hy, sz_of (by omega), fun r hr => q r (xs ++ ys) _ (fresh_back (e2.trans e3) hr) ((e2.trans e3).trans (Ex.new hr)) upd_same (by rw [List.length_append]; omega) (by rw [List.length_append]; omega) fun x hx => by
      rcases List.mem_append.mp hx with z | z
      · exact up _ _ _ (hds_ex (((e.trans e2).trans e3).trans (Ex.new hr))) (rx x z)
      · exact up _ _ _ (hds_ex (Ex.new hr)) (ry x z)⟩
/-- both stand there already -/
theorem elk_catVV (up : Up R) {p p' : Addr} (h1 : Ev ta σ H (.ref p)) (hp : LsK L R H p lo hi) (h2 : Ev tb σ H (.ref p')) (hp' : LsK L R H p' lo' hi') (hn : hi + hi' ≤ 10000) : EvLK L R (tOp rCat ta tb) σ H (lo + lo') (hi + hi') := fun H1 e Q q => by
  obtain ⟨_, xs, hx, l1, l2, rx⟩ := hp
  obtain ⟨_, ys, hy, l3, l4, ry⟩ := hp'
  exact h1 H1 e _ fun H2 e2 => h2 H2 (e.trans e2) _ fun H3 e3 =>
    ⟨p, p', xs, ys, rfl, rfl, ((e.trans e2).trans e3) _ _ hx, ((e.trans e2).trans e3) _ _ hy, sz_of (by omega), fun r hr => q r (xs ++ ys) _ (fresh_back (e2.trans e3) hr) ((e2.trans e3).trans (Ex.new hr)) upd_same (by rw [List.length_append]; omega) (by rw [List.length_append]; omega) fun x hx => by
      rcases List.mem_append.mp hx with z | z
      · exact up _ _ _ (hds_ex (((e.trans e2).trans e3).trans (Ex.new hr))) (rx x z)
      · exact up _ _ _ (hds_ex (((e.trans e2).trans e3).trans (Ex.new hr))) (ry x z)⟩
/-- a list that is known whole -/
theorem elk_of (up : Up R) {xs : List V} (h : EvL te σ H xs) (l1 : lo ≤ xs.length) (l2 : xs.length ≤ hi) (r : ∀ x ∈ xs, R (hds L H) x) : EvLK L R te σ H lo hi := fun H1 e Q q =>
  h H1 e _ fun p H2 hp e2 h2 => q p xs H2 hp e2 h2 l1 l2 fun x hx => up _ _ _ (hds_ex (e.trans e2)) (r x hx)
theorem elk_rep (up : Up R) {k : Nat} (h : EvLK L R ta σ H lo hi) (h2 : Ev tb σ H (.int (k : Int))) (hk : k ≤ 100) (hn : hi * k ≤ 10000) : EvLK L R (tOp rRep ta tb) σ H (lo * k) (hi * k) := fun H1 e Q q =>
  h H1 e _ fun p xs H2 hp e2 hx l1 l2 rx => h2 H2 (e.trans e2) _ fun H3 e3 => by
    have m1 : xs.length * k ≤ hi * k := Nat.mul_le_mul l2 (Nat.le_refl _)
    have m2 : lo * k ≤ xs.length * k := Nat.mul_le_mul l1 (Nat.le_refl _)
    have fl : ((List.replicate k xs).flatten).length = xs.length * k := by
      rw [List.length_flatten, List.map_replicate, List.sum_replicate_nat, Nat.mul_comm]
    refine ⟨p, (k : Int), xs, rfl, rfl, e3 _ _ hx, by omega, by omega, sz_of (by rw [Int.toNat_natCast]; omega), fun r hr => ?_⟩
    rw [Int.toNat_natCast]
    refine q r ((List.replicate k xs).flatten) _ (fresh_back (e2.trans e3) hr) ((e2.trans e3).trans (Ex.new hr)) upd_same (by omega) (by omega) fun x hx' => ?_
    obtain ⟨l, hl, hxl⟩ := List.mem_flatten.mp hx'
    rw [(List.mem_replicate.mp hl).2] at hxl
    exact up _ _ _ (hds_ex (e3.trans (Ex.new hr))) (rx x hxl)
theorem elk_imp (h : EvLK L R te σ H lo hi) (f : ∀ G v, R G v → R' G v) : EvLK L R' te σ H lo hi := fun H1 e Q q => h H1 e Q fun p xs H2 hp e2 h2 l1 l2 r => q p xs H2 hp e2 h2 l1 l2 fun x hx => f _ _ (r x hx)
theorem elk_wide (h : EvLK L R te σ H lo hi) (h1 : lo' ≤ lo) (h2 : hi ≤ hi') : EvLK L R te σ H lo' hi' := fun H1 e Q q => h H1 e Q fun p xs H2 hp e2 h3 l1 l2 r => q p xs H2 hp e2 h3 (by omega) (by omega) r
section
variable {a b a' b' : Nat}
/-- such a list as a value of a kind -/
theorem ek_list (st : Stn L H) (m : Nat) (h : EvLK L (KV a b) te σ H lo hi) (h1 : hi ≤ m) (hm : m ≤ 1000) (h2 : 3 + (a + 2) * m ≤ a') (h3 : b + 1 ≤ b') : EvK L (KV a' b') te σ H := fun H1 e Q q =>
  h H1 e _ fun p xs H2 hp e2 hx l1 l2 r => q (.ref p) H2 e2 ((kv_list (m := m) ((st.ex e).at hp hx) (by omega) hm r).mono h2 h3)
theorem ek_tup (st : Stn L H) (h : EvKs L (KV a b) tl σ H n) (hn : n ≤ 1000) (h2 : 3 + (a + 2) * n ≤ a') (h3 : b + 1 ≤ b') : EvK L (KV a' b') (tTup tl) σ H := fun H1 e Q q =>
  h H1 e _ fun vs H2 e2 hl hv => ⟨by rw [hl]; exact sz_of (by omega), fun p hp => q (.ref p) _ (e2.trans (Ex.new hp)) ((kv_tup (m := n) ((st.ex (e.trans e2)).at hp upd_same) (by omega) fun x hx => kv_up _ _ _ (hds_ex (Ex.new hp)) (hv x hx)).mono h2 h3)⟩
/-- a display of a list -/
theorem ek_lst (st : Stn L H) (h : EvKs L (KV a b) tl σ H n) (hn : n ≤ 1000) (h2 : 3 + (a + 2) * n ≤ a') (h3 : b + 1 ≤ b') : EvK L (KV a' b') (tLst tl) σ H := ek_list st n (elk_lst kv_up h hn) (Nat.le_refl _) hn h2 h3
/-- tuple(list) -/
theorem ek_tof (st : Stn L H) {p : Addr} {xs : List V} (m : Nat) (h : Ev ta σ H (.ref p)) (hp : H p = some (.lst xs)) (hx : ∀ x ∈ xs, KV a b (hds L H) x) (hm : xs.length ≤ m) (h2 : 3 + (a + 2) * m ≤ a') (h3 : b + 1 ≤ b') :
    EvK L (KV a' b') (tCB (fun xs H Q => ∃ p ys, xs = [V.ref p] ∧ ((SqL K H p ys ∧ ∀ l, H l = none → Q (.ref l) (upd H l (.tup ys))) ∨ (SqT K H p ys ∧ Q (.ref p) H))) (tCons ta tNil)) σ H := fun H1 e Q q =>
  h H1 e _ fun H2 e2 => ⟨p, xs, rfl, .inl ⟨sq_of ((e.trans e2) _ _ hp), fun b hb => q (.ref b) _ (e2.trans (Ex.new hb)) ((kv_tup (m := m) ((st.ex (e.trans e2)).at hb upd_same) hm fun x hx' => kv_up _ _ _ (hds_ex ((e.trans e2).trans (Ex.new hb))) (hx x hx')).mono h2 h3)⟩⟩
/-- a list that stands there -/
theorem kv_at {p : Addr} {xs : List V} (np : p ∉ L) (hp : H p = some (.lst xs)) (m : Nat) (hl : xs.length ≤ m) (hm : m ≤ 1000) (hx : ∀ x ∈ xs, KV a b (hds L H) x) : KV (3 + (a + 2) * m) (b + 1) (hds L H) (.ref p) := kv_list (by rw [hds_ne np]; exact hp) hl hm hx
end
/-- statements -/
theorem q_asgK {i : Nat} {D : Ends} {tz : TS} (h : EvK L R te σ H) (k : ∀ v H1, Ex H H1 → R (hds L H1) v → tz D (σ.set i (some v)) H1) : tSeq (tAsg te (gName i)) tz D σ H := h H (Ex.refl H) _ fun v H1 e r => k v H1 e r
theorem q_asgLK {i : Nat} {D : Ends} {tz : TS} (st : Stn L H) (h : EvLK L R te σ H lo hi) (k : ∀ p H1, H p = none → Ex H H1 → LsK L R H1 p lo hi → tz D (σ.set i (some (.ref p))) H1) : tSeq (tAsg te (gName i)) tz D σ H :=
  h H (Ex.refl H) _ fun p xs H1 hp e h1 l1 l2 r => k p H1 hp e ⟨st.out hp, xs, h1, l1, l2, r⟩
theorem LsK.ex (up : Up R) {p : Addr} (h : LsK L R H p lo hi) (e : Ex H H') : LsK L R H' p lo hi := by
  obtain ⟨np, xs, hx, l1, l2, r⟩ := h
  exact ⟨np, xs, e _ _ hx, l1, l2, fun x hx => up _ _ _ (hds_ex e) (r x hx)⟩
theorem LsK.drew (up : Up R) {s : Addr} {B : Nat} {p : Addr} (h : LsK L R H p lo hi) (hs : s ∈ L) (d : Drew s B H H') : LsK L R H' p lo hi := by
  obtain ⟨np, xs, hx, l1, l2, r⟩ := h
  exact ⟨np, xs, d.get (fun z => np (z ▸ hs)) hx, l1, l2, fun x hx => up _ _ _ (hds_drew d hs) (r x hx)⟩
theorem LsK.pick {p : Addr} {r : Int} {Q : VK} (h : LsK L R H p lo hi) (r0 : 0 ≤ r) (r1 : r < (lo : Int)) (q : ∀ x, R (hds L H) x → Q x H) : rIxL K (.ref p) (.int r) H Q := by
  obtain ⟨_, xs, hx, l1, l2, hr⟩ := h
  have lt : r.toNat < xs.length := by omega
  have e : r = (r.toNat : Int) := by omega
  rw [e]
  exact ⟨p, xs, _, xs[r.toNat], rfl, rfl, sq_of hx, atI_nat (List.getElem?_eq_getElem lt), q _ (hr _ (List.getElem_mem lt))⟩
theorem Stn.drew {s : Addr} {B : Nat} (h : Stn L H) (d : Drew s B H H') : Stn L H' := fun b hb => by
  by_cases e : b = s
  · subst e
    exact d.src.at
  · obtain ⟨o, ho⟩ := h b hb
    exact ⟨o, d.get e ho⟩
theorem mem_cutK {x : V} {xs : List V} {lo hi : Option Int} (h : x ∈ cutV xs lo hi) : x ∈ xs := List.mem_of_mem_drop (List.mem_of_mem_take h)
/-- a part of a list that stands there -/
theorem elk_sl {xs : List V} {lo hi : Option Int} (up : Up R) (h : EvL te σ H (cutV xs lo hi)) (hl : xs.length ≤ m) (r : ∀ x ∈ xs, R (hds L H) x) : EvLK L R te σ H 0 m :=
  elk_of up h (Nat.zero_le _) (Nat.le_trans (cutV_length _ _ _) hl) fun x hx => r x (mem_cutK hx)
end
end Os
namespace Os
open PySem PySem.Spec PyProof.Rows L2 Evl
/-- an assignment whose value is told in cases -/
theorem q_asgG2 {te : TE} {g : TG} {tz : TS} {D : Ends} {σ : L2.St} {H : Hp} (P : L2.St → Hp → Prop) (h : ∀ T : L2.St → Hp → Prop, (∀ σ' H', P σ' H' → T σ' H') → te σ H fun v H1 => g v σ H1 T) (k : ∀ σ' H', P σ' H' → tz D σ' H') : tSeq (tAsg te g) tz D σ H := h _ k
theorem prs_hdsL {s D : Addr} {H : Hp} {xs : List V} {es : List Pr} {ys : List V} {B : Nat} (h : PrsV H xs es) (hs : Src H s B) (hD : H D = some (.lst ys)) : PrsV (hds [s, D] H) xs es := prs_hds h fun b hb => by
  rcases List.mem_cons.mp hb with rfl | hb
  · obtain ⟨x, y, z, h1, _⟩ := hs
    exact ⟨_, h1⟩
  · rw [List.mem_singleton.mp hb]
    exact ⟨_, hD⟩
end Os
namespace Os
open PySem PySem.Spec PyProof.Rows L2 Evl
/-- an if without else whose test draws -/
theorem q_ifD {t : TT} {tu tz : TS} {D : Ends} {σ : L2.St} {H : Hp} (P : L2.St → Hp → Prop) (h : ∀ D' : Ends, (∀ σ' H', P σ' H' → D'.nx σ' H') → tIfS t tu tNext D' σ H) (k : ∀ σ' H', P σ' H' → tz D σ' H') : tSeq (tIfS t tu tNext) tz D σ H := h { D with nx := tz D } k
theorem oldK {s : Addr} {B : Nat} {H0 H H' : Hp} (e : Ex H0 H) (ns : H0 s = none) (d : Drew s B H H') : Ex H0 H' := fun b o h =>
  d.get (ne_of_none h ns) (e _ _ h)
theorem fit_boolK : ∀ b : Bool, Fit sizeLine (.bool b)
  | true => ⟨by decide +kernel, by decide, by decide, by decide⟩
  | false => ⟨by decide +kernel, by decide, by decide, by decide⟩
end Os
namespace Os
open PySem PySem.Spec PyProof.Rows L2 Evl
/-! ### exact data, in a heap without some addresses -/
def EvX (L : List Addr) (d : PyData) (te : TE) (σ : L2.St) (H : Hp) : Prop := EvK L (fun G v => Dt G v d) te σ H
def EvXs (L : List Addr) (ds : List PyData) (ta : TA) (σ : L2.St) (H : Hp) : Prop := ∀ H1, Ex H H1 → ∀ Q : List V → Hp → Prop, (∀ vs H2, Ex H1 H2 → Dts (hds L H2) vs ds → Q vs H2) → ta σ H1 Q
/-- objects of some kind -/
def KP (P : PyData → Prop) (G : Hp) (v : V) : Prop := ∃ d, Dt G v d ∧ P d
theorem dt_upd (d : PyData) : Up (fun G v => Dt G v d) := fun _ _ _ e h => h.same (same_ex e)
theorem kp_up {P : PyData → Prop} : Up (KP P) := fun _ _ _ e ⟨d, h, p⟩ => ⟨d, h.same (same_ex e), p⟩
section
variable {K : PySem.W.Frag} {L : List Addr} {P : PyData → Prop} {σ : L2.St} {H H' : Hp} {ta tb te : TE} {tl tr : TA} {d : PyData} {ds a b : List PyData} {v : V}
theorem x_of (h : Ev te σ H v) (hd : Dt (hds L H) v d) : EvX L d te σ H := ek_of (dt_upd d) h hd
theorem x_int {i : Int} : EvX L (.int i) (tC (.int i)) σ H := x_of ev_c (.int i)
theorem x_bl {i : Bool} : EvX L (.bool i) (tC (.bl i)) σ H := x_of ev_c (.bl i)
theorem x_str {z : Str} : EvX L (.str z) (tC (.str z)) σ H := x_of ev_c (.str z)
theorem x_non : EvX L .none (tC .non) σ H := x_of ev_c .non
theorem xs_nil : EvXs L [] tNil σ H := fun H1 _ Q q => q [] H1 (Ex.refl _) .nil
theorem xs_cons (h : EvX L d te σ H) (hr : EvXs L ds tr σ H) : EvXs L (d :: ds) (tCons te tr) σ H := fun H1 e Q q =>
  h H1 e _ fun v H2 e2 r => hr H2 (e.trans e2) _ fun vs H3 e3 hv => q (v :: vs) H3 (e2.trans e3) (.cons (r.same (same_ex (hds_ex e3))) hv)
theorem x_tup (st : Stn L H) (h : EvXs L ds tl σ H) (hl : ds.length ≤ 1000) : EvX L (.tuple ds) (tTup tl) σ H := fun H1 e Q q =>
  h H1 e _ fun vs H2 e2 hv => ⟨by rw [hv.length]; exact sz_of (by omega), fun p hp => q (.ref p) _ (e2.trans (Ex.new hp)) (.tup ((st.ex (e.trans e2)).at hp upd_same) (hv.same (same_ex (hds_ex (Ex.new hp)))))⟩
theorem x_lst (st : Stn L H) (h : EvXs L ds tl σ H) (hl : ds.length ≤ 1000) : EvX L (.list ds) (tLst tl) σ H := fun H1 e Q q =>
  h H1 e _ fun vs H2 e2 hv => ⟨by rw [hv.length]; exact sz_of (by omega), fun p hp => q (.ref p) _ (e2.trans (Ex.new hp)) (.lst ((st.ex (e.trans e2)).at hp upd_same) (hv.same (same_ex (hds_ex (Ex.new hp)))))⟩
theorem x_list_inv {G : Hp} (h : Dt (hds L G) v (.list ds)) : ∃ p xs, v = .ref p ∧ G p = some (.lst xs) ∧ Dts (hds L G) xs ds := by
  cases h with
  | lst ha t => exact ⟨_, _, rfl, (hds_of ha).2, t⟩
theorem x_cat (st : Stn L H) (h1 : EvX L (.list a) ta σ H) (h2 : EvX L (.list b) tb σ H) (hl : a.length + b.length ≤ 10000) : EvX L (.list (a ++ b)) (tOp rCat ta tb) σ H := fun H1 e Q q =>
  h1 H1 e _ fun v1 H2 e2 d1 => h2 H2 (e.trans e2) _ fun v2 H3 e3 d2 => by
    obtain ⟨p, xs, rfl, hx, t1⟩ := x_list_inv (d1.same (same_ex (hds_ex e3)))
    obtain ⟨p', ys, rfl, hy, t2⟩ := x_list_inv d2
    refine ⟨p, p', xs, ys, rfl, rfl, hx, hy, sz_of (by rw [t1.length, t2.length]; omega), fun r hr => q (.ref r) _ ((e2.trans e3).trans (Ex.new hr)) (.lst ((st.ex ((e.trans e2).trans e3)).at hr upd_same) ((t1.app t2).same (same_ex (hds_ex (Ex.new hr)))))⟩
theorem x_tof (st : Stn L H) (h : EvX L (.list ds) ta σ H) : EvX L (.tuple ds) (tCB (fun xs H Q => ∃ p ys, xs = [V.ref p] ∧ ((SqL K H p ys ∧ ∀ l, H l = none → Q (.ref l) (upd H l (.tup ys))) ∨ (SqT K H p ys ∧ Q (.ref p) H))) (tCons ta tNil)) σ H := fun H1 e Q q =>
  h H1 e _ fun v H2 e2 d => by
    obtain ⟨p, xs, rfl, hx, t⟩ := x_list_inv d
    exact ⟨p, xs, rfl, .inl ⟨sq_of hx, fun r hr => q (.ref r) _ (e2.trans (Ex.new hr)) (.tup ((st.ex (e.trans e2)).at hr upd_same) (t.same (same_ex (hds_ex (Ex.new hr)))))⟩⟩
/-- a list known whole, its data too -/
theorem x_L (st : Stn L H) {xs : List V} (h : EvL te σ H xs) (hd : Dts (hds L H) xs ds) : EvX L (.list ds) te σ H := fun H1 e Q q =>
  h H1 e _ fun p H2 hp e2 hx => q (.ref p) H2 e2 (.lst ((st.ex e).at hp hx) (hd.same (same_ex (hds_ex (e.trans e2)))))
theorem x_is (h : EvX L a' te σ H) (e : a' = d) : EvX L d te σ H := e ▸ h
theorem ek_x (h : EvX L d te σ H) (p : P d) : EvK L (KP P) te σ H := fun H1 e Q q => h H1 e Q fun v H2 e2 r => q v H2 e2 ⟨d, r, p⟩
end
theorem kd_of {L D : Nat} {d : PyData} (h : (decide (d.shown.length ≤ L) && (decide (d.depth ≤ D) && (d.showable && (!d.hasDict && (d.canLay0 && decide (smx d ≤ 1000)))))) = true) : Kd L D d := by
  rw [Bool.and_eq_true, Bool.and_eq_true, Bool.and_eq_true, Bool.and_eq_true, Bool.and_eq_true] at h
  obtain ⟨h1, h2, h3, h4, h5, h6⟩ := h
  exact ⟨⟨of_decide_eq_true h1, of_decide_eq_true h2, h3, (Bool.not_eq_true' _).mp h4⟩, h5, of_decide_eq_true h6⟩
theorem kd_prD {e : Pr} (h1 : e.1 < 64) (h2 : e.2 < 64) : Kd 147 1 (prD e) := Kd.tup (m := 2) (fun d hd => by
  rcases List.mem_cons.mp hd with rfl | hd
  · exact Kd.int h1
  · rw [List.mem_singleton.mp hd]
    exact Kd.int h2) (Nat.le_refl _)
theorem kd_prs {es : List Pr} (h : ∀ e ∈ es, e.1 < 64 ∧ e.2 < 64) : ∀ d ∈ es.map prD, Kd 147 1 d := fun d hd => by
  obtain ⟨e, he, rfl⟩ := List.mem_map.mp hd
  exact kd_prD (h e he).1 (h e he).2
theorem kd_pair {L D : Nat} {a b : PyData} (h1 : Kd L D a) (h2 : Kd L D b) : Kd (3 + (L + 2) * 2) (D + 1) (.tuple [a, b]) := Kd.tup (m := 2) (fun d hd => by
  rcases List.mem_cons.mp hd with rfl | hd
  · exact h1
  · rw [List.mem_singleton.mp hd]
    exact h2) (Nat.le_refl _)
end Os
/-! orders among any objects; sorted pairs of whole numbers of any size -/
namespace Os
open PySem PySem.Spec PyProof.Rows L2 Evl
open PySem.W (dataLe AllAlike Sortable)
theorem prDs_inj : ∀ {es fs : List Pr}, es.map prD = fs.map prD → es = fs
  | [], [], _ => rfl
  | [], _ :: _, h => nomatch h
  | _ :: _, [], h => nomatch h
  | e :: es, f :: fs, h => by
    rw [List.map_cons, List.map_cons] at h
    obtain ⟨h1, h2⟩ := List.cons.inj h
    rw [prD_inj h1, prDs_inj h2]
theorem eqv_prL : ∀ es fs : List Pr, PyData.eqvAll (es.map prD) (fs.map prD) = decide (es = fs)
  | [], [] => rfl
  | [], _ :: _ => rfl
  | _ :: _, [] => rfl
  | e :: es, f :: fs => by
    show (PyData.eqv (prD e) (prD f) && PyData.eqvAll (es.map prD) (fs.map prD)) = _
    rw [eqv_prs, eqv_prL es fs]
    by_cases h1 : e = f
    · subst h1
      rw [decide_eq_true rfl, Bool.true_and]
      exact decide_eq_decide.mpr ⟨fun h => by rw [h], fun h => (List.cons.inj h).2⟩
    · rw [decide_eq_false h1, Bool.false_and, decide_eq_false fun z => h1 (List.cons.inj z).1]
/-- a list of the edges, each once -/
def IsOrd (es : List Pr) (d : PyData) : Prop := ∃ os : List Pr, d = .list (os.map prD) ∧ os.Perm es
noncomputable def ordB (es : List Pr) (d : PyData) : Bool := @decide (IsOrd es d) (Classical.propDecidable _)
theorem ordB_yes {es : List Pr} {d : PyData} (h : IsOrd es d) : ordB es d = true := @decide_eq_true _ (Classical.propDecidable _) h
theorem ordB_no {es : List Pr} {d : PyData} (h : ¬ IsOrd es d) : ordB es d = false := @decide_eq_false _ (Classical.propDecidable _) h
theorem ordB_of {es : List Pr} {d : PyData} (h : ordB es d = true) : IsOrd es d := @of_decide_eq_true _ (Classical.propDecidable _) h
theorem ordB_pr (es os : List Pr) : ordB es (.list (os.map prD)) = os.isPerm es := by
  cases h : os.isPerm es with
  | true => exact ordB_yes ⟨os, rfl, List.isPerm_iff.mp h⟩
  | false =>
    refine ordB_no fun ⟨fs, e, p⟩ => ?_
    rw [prDs_inj (PyData.list.inj e), List.isPerm_iff.mpr p] at h
    cases h
/-! ### pairs of whole numbers -/
abbrev IP := Int × Int
def ipD (e : IP) : PyData := .tuple [.int e.1, .int e.2]
def toIP (e : Pr) : IP := ((e.1 : Int), (e.2 : Int))
def ip2 : PyData → Bool
  | .tuple [.int _, .int _] => true
  | _ => false
theorem ip2_is {d : PyData} (h : ip2 d = true) : ∃ e : IP, d = ipD e := by
  unfold ip2 at h
  split at h
  · exact ⟨(_, _), rfl⟩
  · cases h
theorem ip2_all : ∀ {ds : List PyData}, (∀ d ∈ ds, ip2 d = true) → ∃ bs : List IP, ds = bs.map ipD
  | [], _ => ⟨[], rfl⟩
  | d :: ds, h => by
    obtain ⟨e, he⟩ := ip2_is (h d List.mem_cons_self)
    obtain ⟨bs, hb⟩ := ip2_all (ds := ds) fun x hx => h x (List.mem_cons_of_mem _ hx)
    exact ⟨e :: bs, by rw [he, hb]; rfl⟩
theorem ipD_pr (e : Pr) : ipD (toIP e) = prD e := rfl
theorem ipDs_pr (es : List Pr) : es.map prD = (es.map toIP).map ipD := by
  rw [List.map_map]
  rfl
theorem toIP_inj {e f : Pr} (h : toIP e = toIP f) : e = f := by
  have h1 := congrArg Prod.fst h
  have h2 := congrArg Prod.snd h
  have h1 : (e.1 : Int) = f.1 := h1
  have h2 : (e.2 : Int) = f.2 := h2
  exact Prod.ext (by omega) (by omega)
theorem ipD_inj {e f : IP} (h : ipD e = ipD f) : e = f := by
  unfold ipD at h
  injection h with h
  injection h with h1 h
  injection h with h2 _
  injection h1 with h1
  injection h2 with h2
  exact Prod.ext h1 h2
theorem eqv_ip (e f : IP) : PyData.eqv (ipD e) (ipD f) = decide (e = f) := by
  have h : PyData.eqv (ipD e) (ipD f) = (e.1 == f.1 && (e.2 == f.2 && true)) := by
    simp [ipD, PyData.eqv, PyData.eqvAll]
  rw [h, Bool.and_true]
  by_cases h1 : e.1 = f.1
  · by_cases h2 : e.2 = f.2
    · rw [decide_eq_true (Prod.ext h1 h2), h1, h2, beq_self_eq_true, beq_self_eq_true]
      rfl
    · rw [decide_eq_false (fun z => h2 (congrArg Prod.snd z)), beq_eq_false_iff_ne.mpr h2, Bool.and_false]
  · rw [decide_eq_false (fun z => h1 (congrArg Prod.fst z)), beq_eq_false_iff_ne.mpr h1, Bool.false_and]
theorem eqv_ips : ∀ as bs : List IP, PyData.eqvAll (as.map ipD) (bs.map ipD) = decide (as = bs)
  | [], [] => rfl
  | [], _ :: _ => rfl
  | _ :: _, [] => rfl
  | e :: es, f :: fs => by
    show (PyData.eqv (ipD e) (ipD f) && PyData.eqvAll (es.map ipD) (fs.map ipD)) = _
    rw [eqv_ip, eqv_ips es fs]
    by_cases h1 : e = f
    · subst h1
      rw [decide_eq_true rfl, Bool.true_and]
      exact decide_eq_decide.mpr ⟨fun h => by rw [h], fun h => (List.cons.inj h).2⟩
    · rw [decide_eq_false h1, Bool.false_and, decide_eq_false fun z => h1 (List.cons.inj z).1]
theorem ip_le (p q : IP) : dataLe false ipD p q = decide (p.1 < q.1 ∨ (p.1 = q.1 ∧ p.2 ≤ q.2)) := congrFun (congrFun (PySem.W.dataLe_ii (β := IP) Prod.fst Prod.snd) p) q
theorem ip_alike (L : List IP) : AllAlike (L.map ipD) := AllAlike.of fun p q => by simp [ipD, PySem.W.alike, PySem.W.alikeAll]
theorem ip_sortable (L : List IP) : Sortable (L.map ipD) := Sortable.tuples fun q => ⟨_, _, rfl⟩
theorem ip_depth (q : IP) : (ipD q).depth ≤ 40 := by simp [ipD, PyData.depth, PyData.depthAll]
def ordIP (L : List IP) : List IP := L.mergeSort (dataLe false ipD)
theorem ordIP_perm (L : List IP) : (ordIP L).Perm L := List.mergeSort_perm L _
theorem ordIP_asc (L : List IP) : (ordIP L).Pairwise fun p q => dataLe false ipD p q = true := PySem.W.sort_pairwise (PySem.W.sortLe_total _ false _) L
theorem perm_map_of {bs : List IP} {es : List Pr} (p : bs.Perm (es.map toIP)) : ∃ os : List Pr, bs = os.map toIP ∧ os.Perm es := by
  refine ⟨bs.map fun b => (b.1.toNat, b.2.toNat), ?_, ?_⟩
  · rw [List.map_map]
    refine (List.map_id bs).symm.trans (List.map_congr_left fun b hb => ?_)
    obtain ⟨e, _, rfl⟩ := List.mem_map.mp (p.mem_iff.mp hb)
    rfl
  · have h := p.map fun b : IP => (b.1.toNat, b.2.toNat)
    rw [List.map_map] at h
    have e : es.map ((fun b : IP => (b.1.toNat, b.2.toNat)) ∘ toIP) = es := (List.map_congr_left fun b _ => rfl).trans (List.map_id es)
    rwa [e] at h
/-- sorted, then compared with the edges -/
theorem ordIP_is {bs : List IP} {es : List Pr} (asc : es.Pairwise fun e f => ltP e f = true) : decide (ordIP bs = es.map toIP) = ordB es (.list (bs.map ipD)) := by
  by_cases h : IsOrd es (.list (bs.map ipD))
  · rw [ordB_yes h]
    obtain ⟨os, e, p⟩ := h
    have e2 : bs = os.map toIP := by
      have e := PyData.list.inj e
      rw [ipDs_pr] at e
      exact List.map_inj_right (fun a b h => ipD_inj h) |>.mp e
    refine decide_eq_true (List.Perm.eq_of_pairwise (fun a b _ _ x y => ?_) (ordIP_asc bs) ?_ ((ordIP_perm bs).trans (by rw [e2]; exact p.map toIP)))
    · rw [ip_le] at x y
      have x := of_decide_eq_true x
      have y := of_decide_eq_true y
      exact Prod.ext (by omega) (by omega)
    · refine List.pairwise_map.mpr (asc.imp fun {e f} l => ?_)
      rw [ip_le]
      rw [ltP_iff] at l
      refine decide_eq_true ?_
      show ((e.1 : Int) < f.1 ∨ ((e.1 : Int) = f.1 ∧ (e.2 : Int) ≤ f.2))
      omega
  · rw [ordB_no h]
    refine decide_eq_false fun z => h ?_
    obtain ⟨os, e, p⟩ := perm_map_of (bs := bs) (es := es) (by rw [← z]; exact (ordIP_perm bs).symm)
    exact ⟨os, by rw [e, List.map_map]; rfl, p⟩
theorem sh_ips (L : List IP) : Sh 2 (.list (L.map ipD)) := .lst fun d hd => by
  obtain ⟨e, _, rfl⟩ := List.mem_map.mp hd
  refine .tup fun x hx => ?_
  rcases List.mem_cons.mp hx with rfl | hx
  · exact .int 0 _
  · rw [List.mem_singleton.mp hx]
    exact .int 0 _
section
variable {K : PySem.W.Frag} {H : Hp}
/-- sorted of pairs of whole numbers -/
theorem sort_ip {a : Addr} {xs : List V} {L : List IP} {Q : VK} (ha : H a = some (.lst xs)) (hp : Dts H xs (L.map ipD)) (few : L.length ≤ 100000)
    (q : ∀ p ys, H p = none → Dts (L2.upd H p (.lst ys)) ys ((ordIP L).map ipD) → Q (.ref p) (L2.upd H p (.lst ys))) : rSortE K ipD [.ref a] H Q := by
  have lx : xs.length = L.length := by rw [hp.length, List.length_map]
  refine ⟨a, xs, L, rfl, ha, hp, fun x hx => ?_, ip_alike L, ip_sortable L, fun b _ => ip_depth b, by rw [lx]; exact few, fun ys p yl at' hpn => q p ys hpn (Dts.same (same_ex (Ex.new hpn)) (dts_at (by rw [List.length_map, yl, (ordIP_perm L).length_eq]) fun j y d hy hd => ?_))⟩
  · obtain ⟨i, hi⟩ := List.mem_iff_getElem?.mp hx
    obtain ⟨d, hd, dt⟩ := hp.at2 hi
    rw [List.getElem?_map] at hd
    obtain ⟨e, _, rfl⟩ := Option.map_eq_some_iff.mp hd
    have dt : Dt H x (.tuple [.int e.1, .int e.2]) := dt
    cases dt with
    | tup h t => exact ⟨_, rfl⟩
  · obtain ⟨i, b, h1, h2, h3⟩ := at' j y hy
    have h3' : (ordIP L)[j]? = some b := h3
    rw [List.getElem?_map, h3'] at hd
    cases hd
    obtain ⟨d, hd, dt⟩ := hp.at2 h1
    rw [List.getElem?_map, h2] at hd
    cases hd
    exact dt
where dts_at : ∀ {xs : List V} {ds : List PyData}, xs.length = ds.length → (∀ (i : Nat) (x : V) (d : PyData), xs[i]? = some x → ds[i]? = some d → Dt H x d) → Dts H xs ds
  | [], [], _, _ => .nil
  | [], _ :: _, h, _ => nomatch h
  | _ :: _, [], h, _ => nomatch h
  | x :: xs, d :: ds, h, k => .cons (k 0 x d rfl rfl) (dts_at (Nat.succ.inj h) fun i y e hy he => k (i + 1) y e hy he)
end
end Os
namespace Os
open PySem PySem.Spec PyProof.Rows L2 Evl
theorem prs_ofD {G : Hp} : ∀ {es : List Pr} {xs : List V}, Dts G xs (es.map prD) → PrsV G xs es
  | [], _, .nil => .nil
  | e :: es, _, .cons h t => by
    refine .cons ?_ (prs_ofD t)
    have h : Dt G _ (.tuple [.int (e.1 : Int), .int (e.2 : Int)]) := h
    cases h with
    | tup ha hs =>
      cases hs with
      | cons a b =>
        cases b with
        | cons b c =>
          cases a
          cases b
          cases c
          exact ⟨_, rfl, ha⟩
theorem dts_zip {G : Hp} : ∀ {zs : List (V × PyData)}, (∀ z ∈ zs, Dt G z.1 z.2) → Dts G (zs.map Prod.fst) (zs.map Prod.snd)
  | [], _ => .nil
  | _ :: _, h => .cons (h _ List.mem_cons_self) (dts_zip fun y hy => h y (List.mem_cons_of_mem _ hy))
theorem dts_sel {G : Hp} {xs : List V} {ds : List PyData} (h : Dts G xs ds) (p : PyData → Bool) : Dts G (given xs.length (fun i => p (ds.getD i .none)) fun i => xs.getD i .non) (ds.filter p) := by
  have l := h.length
  have zl : (xs.zip ds).length = xs.length := by rw [List.length_zip]; omega
  have e1 : given xs.length (fun i => p (ds.getD i .none)) (fun i => xs.getD i .non) = ((xs.zip ds).filter (p ∘ Prod.snd)).map Prod.fst := by
    rw [← zl]
    refine given_filter Prod.fst (p ∘ Prod.snd) _ _ (xs.zip ds) (fun i z e => ?_) (fun i z e => ?_)
    · obtain ⟨_, e2⟩ := List.getElem?_zip_eq_some.mp e
      show p (ds.getD i .none) = p z.2
      rw [List.getD_eq_getElem?_getD, e2]
      rfl
    · obtain ⟨e1, _⟩ := List.getElem?_zip_eq_some.mp e
      rw [List.getD_eq_getElem?_getD, e1]
      rfl
  have e2 : ds.filter p = ((xs.zip ds).filter (p ∘ Prod.snd)).map Prod.snd := by
    rw [← List.filter_map, List.map_snd_zip (by omega)]
  rw [e1, e2]
  refine dts_zip fun z hz => ?_
  obtain ⟨i, hi⟩ := List.mem_iff_getElem?.mp (List.mem_filter.mp hz).1
  obtain ⟨a1, a2⟩ := List.getElem?_zip_eq_some.mp hi
  obtain ⟨d, hd, dt⟩ := h.at2 a1
  rw [a2] at hd
  cases hd
  exact dt
theorem canLay_of : ∀ {ds : List PyData}, PyData.canLayAll0 ds = true → ∀ d ∈ ds, PyData.canLay0 d = true
  | d :: ds, h, x, hx => by
    have h : (PyData.canLay0 d && PyData.canLayAll0 ds) = true := h
    rw [Bool.and_eq_true] at h
    rcases List.mem_cons.mp hx with rfl | hx
    · exact h.1
    · exact canLay_of h.2 x hx
theorem depth_of : ∀ {ds : List PyData}, ∀ d ∈ ds, d.depth ≤ PyData.depthAll ds
  | d :: ds, x, hx => by
    show x.depth ≤ max d.depth (PyData.depthAll ds)
    rcases List.mem_cons.mp hx with rfl | hx
    · omega
    · have := depth_of (ds := ds) x hx
      omega
theorem sh_item {n : Nat} {ds : List PyData} (h : Sh n (.list ds)) : ∀ d ∈ ds, Sh n d := fun d hd => ⟨canLay_of h.lay d hd, by
  have h2 : PyData.depthAll ds + 1 ≤ n := h.deep
  have := depth_of d hd
  omega⟩
theorem sh_itemT {n : Nat} {ds : List PyData} (h : Sh n (.tuple ds)) : ∀ d ∈ ds, Sh n d := fun d hd => ⟨canLay_of h.lay d hd, by
  have h2 : PyData.depthAll ds + 1 ≤ n := h.deep
  have := depth_of d hd
  omega⟩
theorem sh_partT {n : Nat} {ds : List PyData} (h : Sh n (.tuple ds)) (p : PyData → Bool) : Sh (n + 1) (.list (ds.filter p)) := Sh.lst fun d hd => sh_itemT h d (List.mem_filter.mp hd).1
theorem ev_neNil {K : PySem.W.Frag} {σ : L2.St} {H : Hp} {te : TE} {xs : List V} {ds : List PyData} (h : EvL te σ H xs) (hd : Dts H xs ds) (sh : SeqAt.shaped (.list ds) = true) :
    Ev (tOp (rNeD K) te (tLst tNil)) σ H (.bl (!ds.isEmpty)) := fun H1 e Q q => h H1 e _ fun p H2 hp e2 h2 => ⟨by decide, fun p' hp' => by
  have x3 := Ex.new (o := .lst []) hp'
  refine ⟨.list ds, .list [], Dt.dp (.lst (x3 _ _ h2) (hd.same (same_ex ((e.trans e2).trans x3)))), Dt.dp (.lst upd_same .nil), sh, by decide, ?_⟩
  have : PyData.eqv (.list ds) (.list []) = ds.isEmpty := by
    cases ds <;> rfl
  rw [this]
  exact q _ (e2.trans x3)⟩
theorem eqv_strL : ∀ as bs : List Str, PyData.eqvAll (as.map PyData.str) (bs.map PyData.str) = decide (as = bs)
  | [], [] => rfl
  | [], _ :: _ => rfl
  | _ :: _, [] => rfl
  | e :: es, f :: fs => by
    show (PyData.eqv (.str e) (.str f) && PyData.eqvAll (es.map PyData.str) (fs.map PyData.str)) = _
    rw [eqv_strL es fs, show PyData.eqv (.str e) (.str f) = (e == f) from rfl]
    by_cases h1 : e = f
    · subst h1
      rw [beq_self_eq_true, Bool.true_and]
      exact decide_eq_decide.mpr ⟨fun h => by rw [h], fun h => (List.cons.inj h).2⟩
    · rw [beq_eq_false_iff_ne.mpr h1, Bool.false_and, decide_eq_false fun z => h1 (List.cons.inj z).1]
end Os
namespace Os
open PySem PySem.Spec PyProof.Rows L2 Evl
theorem PrsV.drew {s : Addr} {B C : Nat} {H H' : Hp} {vs : List V} {es : List Pr} (h : PrsV H vs es) (hs : Src H s C) (d : Drew s B H H') : PrsV H' vs es := by
  induction h with
  | nil => exact .nil
  | cons x _ ih =>
    obtain ⟨t, rfl, ht⟩ := x
    refine .cons ⟨t, rfl, d.get (fun e => ?_) ht⟩ ih
    obtain ⟨x, y, z, h1, _⟩ := hs
    rw [e, h1] at ht
    cases ht
end Os
namespace K10
open PySem PySem.Spec PyProof.Rows L2 Os Evl
abbrev sRR : Stmt := topS 43
theorem scRR : FnScope ["graph", "row", "result", "sequence", "back", "inverse", "steps", "due", "spot"] ["graph", "row", "result", "sequence"] (defScope sRR) := ⟨rfl, rfl, rfl, by decide +kernel, rfl, by decide +kernel, by decide +kernel⟩
abbrev sXR : Stmt := topS 44
theorem scXR : FnScope ["graph", "row", "result", "sequence", "k", "pair", "changed", "other", "shared", "spot"] ["graph", "row", "result", "sequence"] (defScope sXR) := ⟨rfl, rfl, rfl, by decide +kernel, rfl, by decide +kernel, by decide +kernel⟩
theorem order_in' {n : Nat} {es os : List Pr} (E : Edges n es) (pm : os.Perm es) : ∀ e ∈ os, e.1 < e.2 ∧ e.2 < n := fun e he => E.inn e (pm.mem_iff.mp he)
theorem came_perm {n : Nat} {es os : List Pr} {zs : List Str} (E : Edges n es) (pm : os.Perm es) (hl : zs.length = n) : (swps zs os).Perm zs := swps_perm hl fun e he => by
  have := E.inn e (pm.mem_iff.mp he)
  omega
theorem went_get {n : Nat} {es os : List Pr} {zs : List Str} (E : Edges n es) (pm : os.Perm es) (hl : zs.length = n) (nd : zs.Nodup) : went zs (swps zs os) = (List.range n).map (mvs os) := by
  have P' := went_perm (came_perm E pm hl) nd hl
  refine List.ext_getElem (by rw [P'.len, List.length_map, List.length_range]) fun i h1 h2 => ?_
  have hi : i < n := by rw [P'.len] at h1; exact h1
  have := went_at hl nd (order_in' E pm) hi
  rw [List.getD_eq_getElem?_getD, List.getElem?_eq_getElem h1] at this
  rw [List.getElem_map, List.getElem_range]
  exact this
theorem sh_strs'' {n : Nat} {zs : List Str} (h : ArrOk zs n) : Sh 1 (.list (zs.map PyData.str)) := sh_strs fun z hz => (h.ok z hz).2
/-- where the inverse moves go -/
theorem inv_idx {n : Nat} {es os : List Pr} {zs : List Str} (E : Edges n es) (pm : os.Perm es) (hl : zs.length = n) (nd : zs.Nodup) : went zs (swps zs os.reverse) = ((List.range n).map fun s => (went zs (swps zs os)).idxOf s) ∧ ∀ s, s < n → s ∈ went zs (swps zs os) := by
  have P' := went_perm (came_perm E pm hl) nd hl
  have key : ∀ s, s < n → mvs os.reverse s < n ∧ (went zs (swps zs os))[mvs os.reverse s]? = some s := fun s hs => by
    have lt : mvs os.reverse s < n := mvs_lt (fun e he => by
      have := order_in' E pm e (List.mem_reverse.mp he)
      omega) hs
    refine ⟨lt, ?_⟩
    rw [went_get E pm hl nd, List.getElem?_map, List.getElem?_range lt]
    exact congrArg some (mvs_back' os s)
  refine ⟨?_, fun s hs => List.mem_of_getElem? (key s hs).2⟩
  rw [went_get E ((List.reverse_perm os).trans pm) hl nd]
  refine List.map_congr_left fun s hs => ?_
  obtain ⟨lt, e⟩ := key s (List.mem_range.mp hs)
  obtain ⟨h', e'⟩ := List.getElem?_eq_some_iff.mp e
  have il := List.idxOf_lt_length_iff.mpr (List.mem_of_getElem? e)
  refine P'.inj _ _ lt (by rw [← P'.len]; exact il) ?_
  rw [List.getD_eq_getElem?_getD, e, List.getD_eq_getElem?_getD, List.getElem?_eq_getElem il, List.getElem_idxOf il]
section
variable {K : PySem.W.Frag} {σ : L2.St} {H : Hp} {te ta tb tl : TE} {tr : TA} {t tt : TT} {a : Addr}
/-- [v(x) for x in range(n)] -/
theorem el_lcRg (v : Nat → V) {n j : Nat} {vs : List Nat} (hs : EvA tr σ H [.int (n : Int)]) (hn : n ≤ 100000) (hw : ∀ x, wipe ((wipe σ vs).set j (some x)) vs = wipe σ vs)
    (he : ∀ i, i < n → ∀ H1, Ex H H1 → Ev te ((wipe σ vs).set j (some (.int (i : Int)))) H1 (v i)) : EvL (tLc (iRng1 tr) (gName j) tYes te vs) σ H ((List.range n).map v) := fun H1 e Q q => hs H1 e _ fun H2 e2 => ⟨(n : Int), rfl, by omega, by omega, fun D hD => by
  have en : ((n : Int)).toNat = n := Int.toNat_natCast n
  rw [en]
  refine lc_range (lo := 0) (n := n) (fun k Hh => Ex H2 Hh ∧ Hh D = some (.lst ((List.range k).map v))) ⟨Ex.new hD, upd_same⟩ ?_ ?_
  · rintro k Hh hk ⟨x1, hzs⟩
    have e0 : (0 : Int) + (k : Int) = ((k : Nat) : Int) := by omega
    rw [e0]
    refine ⟨hw _, ?_⟩
    dsimp only [tYes]
    rw [if_pos rfl]
    refine he k hk Hh ((e.trans e2).trans x1) _ (Ex.refl _) _ fun H3 e3 => ⟨_, e3 _ _ hzs, sz_lt (by rw [List.length_map, List.length_range]; omega), (x1.trans e3).mut hD, ?_⟩
    rw [upd_same, List.range_succ, List.map_append]
    rfl
  · rintro Hh ⟨x1, hzs⟩
    exact q D Hh (fresh_back e2 hD) (e2.trans x1) hzs⟩
theorem evp_rev {es : List Pr} {xs : List V} (h : Ev te σ H (.ref a)) (ha : H a = some (.lst xs)) (px : PrsV H xs es) : EvP (L2.tRevL K te) σ H es.reverse := fun H1 e Q q =>
  h H1 e _ fun H2 e2 => ⟨a, xs, rfl, sq_of ((e.trans e2) _ _ ha), fun p hp => by
    have en := Ex.new (o := .lst xs.reverse) hp
    exact q p _ _ (fresh_back e2 hp) (e2.trans en) upd_same ((px.ex (e.trans e2)).ex en).reverse⟩
theorem ev_eqDD {d d' : PyData} {n m : Nat} (ha : EvDt ta σ H d) (hb : EvDt tb σ H d') (s : Sh n d) (s' : Sh m d') (hn : n ≤ 64) (hm : m ≤ 64) : Ev (tOp (rEqD K) ta tb) σ H (.bl (PyData.eqv d d')) := fun H1 e1 Q q =>
  ha H1 e1 _ fun x H2 e2 hx => hb H2 (e1.trans e2) _ fun y H3 e3 hy => ⟨d, d', (hx.same (same_ex e3)).dp, hy.dp, s.shaped hn, s'.shaped hm, q H3 (e2.trans e3)⟩
theorem ev_neB {a b : Bool} (ha : Ev ta σ H (.bl a)) (hb : Ev tb σ H (.bl b)) : Ev (tOp rNe ta tb) σ H (.bl (!decide (a = b))) := fun H1 e1 Q q =>
  ha H1 e1 _ fun H2 e2 => hb H2 (e1.trans e2) _ fun H3 e3 => ⟨rfl, by
    have : decide (V.bl a = V.bl b) = decide (a = b) := decide_eq_decide.mpr ⟨fun h => V.bl.inj h, fun h => by rw [h]⟩
    rw [this]
    exact q H3 (e2.trans e3)⟩
theorem cut_mid (xs : List V) (k m : Nat) : cutV xs (some (k : Int)) (some ((k + m : Nat) : Int)) = (xs.drop k).take m := by
  unfold cutV
  rw [HT.sIx_nat, HT.sIx_nat]
  rcases Nat.le_total k xs.length with h | h
  · rw [Nat.min_eq_left h]
    rcases Nat.le_total (k + m) xs.length with h2 | h2
    · rw [Nat.min_eq_left h2]
      congr 1
      omega
    · rw [Nat.min_eq_right h2, List.take_of_length_le (by rw [List.length_drop]; omega), List.take_of_length_le (by rw [List.length_drop]; omega)]
  · rw [Nat.min_eq_right h, List.drop_of_length_le h, List.drop_length, List.take_nil, List.take_nil]
theorem evp_sl {es fs : List Pr} {xs : List V} {lo hi : Option Int} {tlo thi : TO} (h : Ev te σ H (.ref a)) (hlo : EvO tlo σ H lo) (hhi : EvO thi σ H hi) (ha : H a = some (.lst xs)) (pc : PrsV H (cutV xs lo hi) fs) : EvP (tSl (rSlL K) te tlo thi) σ H fs := fun H1 e1 Q q =>
  el_sl (K := K) h hlo hhi (sq_of (K := K) ha) H1 e1 Q fun p H2 hp e2 h2 => q p _ H2 hp e2 h2 (pc.ex (e1.trans e2))
theorem evp_cat2 {es fs : List Pr} (h1 : EvP ta σ H es) (h2 : EvP tb σ H fs) (hz : es.length + fs.length ≤ 100000) : EvP (tOp rCat ta tb) σ H (es ++ fs) := fun H1 e Q q =>
  h1 H1 e _ fun p1 xs H2 hp1 e2 hx px => h2 H2 (e.trans e2) _ fun p ys H3 hp e3 hy py => by
    have l1 := px.length
    have l2 := py.length
    refine ⟨p1, p, xs, ys, rfl, rfl, e3 _ _ hx, hy, sz_of (by omega), fun r hr => ?_⟩
    exact q r _ _ (fresh_back (e2.trans e3) hr) ((e2.trans e3).trans (Ex.new hr)) upd_same (((px.ex e3).append py).ex (Ex.new hr))
end
theorem turn_two {e f : Pr} (he : e.1 < e.2) (hf : f.1 < f.2) (ne : e ≠ f) : (∀ p, turnOf p [e, f] = turnOf p [f, e]) ↔ ([e.1, e.2].filter fun z => decide (z ∈ [f.1, f.2])) = [] := by
  have two : ∀ (p : Nat) (x y : Pr), turnOf p [x, y] = ((if x.1 = p then some x.2 else if x.2 = p then some x.1 else none).toList ++ (if y.1 = p then some y.2 else if y.2 = p then some y.1 else none).toList) := fun p x y => by
    unfold turnOf
    rw [List.filterMap_cons, List.filterMap_cons, List.filterMap_nil]
    split <;> split <;> simp_all
  constructor
  · intro h
    refine List.filter_eq_nil_iff.mpr fun z hz hzf => ?_
    have hzf := of_decide_eq_true hzf
    have := h z
    rw [two, two] at this
    apply ne
    rcases List.mem_cons.mp hz with h1 | h1
    · rcases List.mem_cons.mp hzf with h2 | h2
      · rw [if_pos h1.symm, if_pos h2.symm] at this
        injection this with t1
        exact Prod.ext (h1.symm.trans h2) t1
      · have h2 := List.mem_singleton.mp h2
        rw [if_pos h1.symm, if_neg (by omega), if_pos h2.symm] at this
        injection this with t1
        omega
    · have h1 := List.mem_singleton.mp h1
      rcases List.mem_cons.mp hzf with h2 | h2
      · rw [if_neg (by omega), if_pos h1.symm, if_pos h2.symm] at this
        injection this with t1
        omega
      · have h2 := List.mem_singleton.mp h2
        rw [if_neg (by omega), if_pos h1.symm, if_neg (by omega), if_pos h2.symm] at this
        injection this with t1
        exact Prod.ext t1 (h1.symm.trans h2)
  · intro h p
    rw [two, two]
    have no : ∀ z, z ∈ [e.1, e.2] → z ∈ [f.1, f.2] → False := fun z h1 h2 => List.filter_eq_nil_iff.mp h z h1 (decide_eq_true h2)
    by_cases hp : p ∈ [e.1, e.2]
    · have nf : ¬ p ∈ [f.1, f.2] := no p hp
      have a1 : f.1 ≠ p := fun z => nf (by rw [z]; exact List.mem_cons_self)
      have a2 : f.2 ≠ p := fun z => nf (by rw [z]; simp)
      rw [if_neg a1, if_neg a2]
      simp
    · have a1 : e.1 ≠ p := fun z => hp (by rw [z]; exact List.mem_cons_self)
      have a2 : e.2 ≠ p := fun z => hp (by rw [z]; simp)
      rw [if_neg a1, if_neg a2]
      simp
/-- two that follow one another, exchanged -/
theorem exch_two {n k : Nat} {es os : List Pr} {zs : List Str} {e f : Pr} (E : Edges n es) (pm : os.Perm es) (hl : zs.length = n) (nd : zs.Nodup) (hk : (os.drop k).take 2 = [e, f]) (lt : k + 1 < os.length) :
    (os.take k ++ [f, e] ++ os.drop (k + 2)).Perm es ∧ (swps zs (os.take k ++ [f, e] ++ os.drop (k + 2)) = swps zs os ↔ ([e.1, e.2].filter fun z => decide (z ∈ [f.1, f.2])) = []) := by
  have cut : os = os.take k ++ [e, f] ++ os.drop (k + 2) := by
    have : os.drop k = [e, f] ++ os.drop (k + 2) := by
      conv => lhs; rw [← List.take_append_drop 2 (os.drop k)]
      rw [hk, List.drop_drop]
    rw [List.append_assoc, ← this, List.take_append_drop]
  have pm' : (os.take k ++ [f, e] ++ os.drop (k + 2)).Perm es := by
    refine List.Perm.trans ?_ pm
    conv => rhs; rw [cut]
    exact ((List.Perm.swap e f []).append_left _).append_right _
  refine ⟨pm', ?_⟩
  have me : e ∈ os := by rw [cut]; simp
  have mf : f ∈ os := by rw [cut]; simp
  have ne : e ≠ f := fun z => by
    have nd' := pm.nodup_iff.mpr (E.nodup)
    rw [cut, z, List.append_assoc] at nd'
    have := (List.nodup_append.mp nd').2.1
    rw [List.cons_append, List.nodup_cons] at this
    exact this.1 (by simp)
  rw [← turn_two (order_in' E pm e me).1 (order_in' E pm f mf).1 ne, same_outcome E pm' pm hl nd]
  constructor
  · intro h p
    have := h p
    conv at this => rhs; rw [cut]
    rw [turn_app, turn_app, turn_app, turn_app] at this
    exact (List.append_cancel_left (List.append_cancel_right this)).symm
  · intro h p
    conv => rhs; rw [cut]
    rw [turn_app, turn_app, turn_app, turn_app, h p]
section
variable {K : PySem.W.Frag} {σ : L2.St} {H : Hp} {D : Ends} {tu tz : TS}
theorem q_forRm {ta : TA} {j : Nat} {n : Int} (h : EvA ta σ H [.int n]) (hn : -100 ≤ n ∧ n ≤ 100000) (Pv : Nat → L2.St → Hp → Prop) (h0 : ∀ H1, Ex H H1 → Pv 0 σ H1)
    (hs : ∀ (i : Nat) σ' H', (i : Int) < n → Pv i σ' H' → tu { D with nx := Pv (i + 1), ct := Pv (i + 1), bk := tz D } (σ'.set j (some (.int (i : Int)))) H') (hd : ∀ σ' H', Pv n.toNat σ' H' → tz D σ' H') : tSeq (tFor (iRng1 ta) (gName j) tu) tz D σ H :=
  h H (Ex.refl H) _ fun H1 e => ⟨n, rfl, by omega, by omega, for_range (lo := 0) (n := n.toNat) (D := { D with nx := tz D }) Pv (h0 H1 e) (fun i σ' H' hi p => by
    have e0 : (0 : Int) + (i : Int) = (i : Int) := Int.zero_add _
    show tu { D with nx := Pv (i + 1), ct := Pv (i + 1), bk := tz D } (σ'.set j (some (.int ((0 : Int) + (i : Int))))) H'
    rw [e0]
    exact hs i σ' H' (by omega) p) hd⟩
end
section
variable {P : Program} {w : World} {K : PySem.W.Frag} {mg : Str → Option Value} {base : Heap}
def spRR : Sp := fun vs H Q _ => ∃ (v i u o : V) (n : Nat) (es os : List Pr) (zs : List Str), vs = [v, i, u, o] ∧ GraphV H v n es ∧ IsForest n es ∧ ArrV H i zs ∧ ArrV H u (swps zs os) ∧ ArrOk zs n ∧ OrdV H o os ∧ os.Perm es ∧ ∀ H', Ex H H' → Q (.bl true) H'
theorem ok_rr {f fAO fMV : Addr} {fd fdAO fdMV : FuncData} {k : Nat} (F : Fun K "_law_reverse_right" "_law_reverse_right" sRR f fd)
    (GAO : FnOk P w K mg base CX0 k fAO fdAO ["forest", "items", "order"] spApply) (FAO : Fun K "apply_order" "apply_order" sApply fAO fdAO) (bAO : Binds K fdAO ["forest", "items", "order"] []) (gAO : mg "apply_order" = some (.ref fAO))
    (GMV : FnOk P w K mg base CX0 k fMV fdMV ["forest", "before", "after"] spMoves) (FMV : Fun K "moves" "moves" sMoves fMV fdMV) (bMV : Binds K fdMV ["forest", "before", "after"] []) (gMV : mg "moves" = some (.ref fMV))(mLen : mg "len" = none) (mRange : mg "range" = none) : FnOk P w K mg base CX0 (k + 1) f fd ["graph", "row", "result", "sequence"] spRR := by
  refine F.ok scRR (fun vs H Q E h => ?_) (fun cdv A outer s H vs Q E hr h => ?_)
  · obtain ⟨v, i, u, o, n, es, os, zs, rfl, _⟩ := h
    rfl
  · obtain ⟨v, i, u, o, n, es, os, zs, rfl, hg, ok, ⟨a1, rfl, h1⟩, ⟨a2, rfl, h2⟩, az, ⟨a3, ys, rfl, h3, po⟩, pm, q⟩ := h
    refine ⟨_, (pss_cons (ps_set (i := 4) scRR.nd rfl (.inl rfl) (pe_call GAO hr (by rfl) gAO FAO.kp bAO .nil pass0 (pa_cons (pv 0) (pa_cons (pv 2) (pa_cons (pe_revL (pv 3)) pa_nil)))))
      (pss_cons (ps_set (i := 5) scRR.nd rfl (.inl rfl) (pe_call GAO hr (by rfl) gAO FAO.kp bAO .nil pass0 (pa_cons (pv 0) (pa_cons (pv 1) (pa_cons (pe_revL (pv 3)) pa_nil)))))
      (pss_cons (ps_set (i := 6) scRR.nd rfl (.inr rfl) (pe_call GMV hr (by rfl) gMV FMV.kp bMV .nil pass0 (pa_cons (pv 0) (pa_cons (pv 1) (pa_cons (pv 2) pa_nil)))))
      (pss_cons (ps_setLc (i := 7) (own := [("spot", 8)]) (g := gName 8) (tt := tYes) (te := tBM K "list" (rIndex K) (tVar 6) (tCons (tVar 8) tNil)) rfl scRR.nd rfl rfl (sw_true rfl rfl rfl (by decide +kernel)) (pi_range1 (by rfl) mRange (pa_cons (pe_callB call_len_seq (by rfl) mLen boot_len (pa_cons (pv 6) pa_nil)) pa_nil)) (blkOk_by (N := ["graph", "row", "result", "sequence", "back", "inverse", "steps", "due", "spot"]) (sc := defScope sRR) (by decide +kernel)) (fun _ _ _ _ _ => pg_name (i := 8) scRR.nd rfl (Or.inl rfl)) (fun _ _ _ _ _ => pts_nil) (fun _ _ _ _ _ => (pe_bm PySem.F.plainAttrs_list PySem.F.slot_list_index PySem.F.type_list_index mt_index (pv 6) (pa_cons (pv 8) pa_nil))))
      (pss_one (ps_ret (pe_and (pe_cmpR (op_eqD hr.units) (pv 4) (pv 1) (nomark _)) (pe_one (pe_cmpR (op_eqD hr.units) (pe_call GMV hr (by rfl) gMV FMV.kp bMV .nil pass0 (pa_cons (pv 0) (pa_cons (pv 1) (pa_cons (pv 5) pa_nil)))) (pv 7) (nomark _)))))))))), ?_⟩
    have E' := ok.edges
    have pr := (List.reverse_perm os).trans pm
    have cp := came_perm E' pm az.len
    have cpr := came_perm E' pr az.len
    have al : ArrOk (swps zs os) n := az.perm cp
    have back := swps_back az.len (order_in' E' pm)
    have n40 := ok.n40
    have back : swps (swps zs os) os.reverse = zs := back
    refine q_asgL (xs := zs.map V.str) (fun H1 e1 Q q => ⟨v, rfl, .ref a2, rfl, evp_rev (ev_var rfl) h3 po H1 e1 _ fun p xs H2 hp e2 h2' p2 => ⟨v, .ref a2, .ref p, n, es, os.reverse, swps zs os, rfl, (hg.ex e1).ex e2, ok, ⟨a2, rfl, e2 _ _ (e1 _ _ h2)⟩, al, ⟨p, xs, rfl, h2', p2⟩, pr, fun H3 r e3 hr h3 => q r H3 (fresh_back e2 hr) (e2.trans e3) (by rw [back] at h3; exact h3)⟩⟩) fun d4 H4 hd4 e4 h4 => ?_
    refine q_asgL (xs := (swps zs os.reverse).map V.str) (fun H1 e1 Q q => ⟨v, rfl, .ref a1, rfl, evp_rev (ev_var rfl) (e4 _ _ h3) (po.ex e4) H1 e1 _ fun p xs H2 hp e2 h2' p2 => ⟨v, .ref a1, .ref p, n, es, os.reverse, zs, rfl, ((hg.ex e4).ex e1).ex e2, ok, ⟨a1, rfl, e2 _ _ (e1 _ _ (e4 _ _ h1))⟩, az, ⟨p, xs, rfl, h2', p2⟩, pr, fun H3 r e3 hr h3 => q r H3 (fresh_back e2 hr) (e2.trans e3) h3⟩⟩) fun d5 H5 hd5 e5 h5 => ?_
    have x5 := e4.trans e5
    refine q_asgL (xs := nats (went zs (swps zs os))) (fun H1 e1 Q q => ⟨v, rfl, .ref a1, rfl, .ref a2, rfl, v, .ref a1, .ref a2, n, es, zs, swps zs os, rfl, (hg.ex x5).ex e1, ok, ⟨a1, rfl, e1 _ _ (x5 _ _ h1)⟩, ⟨a2, rfl, e1 _ _ (x5 _ _ h2)⟩, az, cp, fun H3 r e3 hr h3 => q r H3 hr e3 h3⟩) fun d6 H6 hd6 e6 h6 => ?_
    have x6 := x5.trans e6
    have P' := went_perm cp az.nd az.len
    obtain ⟨inv, mem⟩ := inv_idx E' pm az.len az.nd
    refine q_asgL (el_lcRg (te := tBM K "list" (rIndex K) (tVar 6) (tCons (tVar 8) tNil)) (j := 8) (vs := [8]) (fun s => V.int (((went zs (swps zs os)).idxOf s : Nat) : Int)) (n := n) (ea_cons (ev_is (ev_len (ev_var rfl) (sq_of h6)) (congrArg V.int (congrArg Nat.cast ((List.length_map _).trans P'.len)))) ea_nil) (by omega) (fun _ => rfl) fun s hs H7 e7 => ev_indexN (ev_var rfl) (e7 _ _ h6) (ev_var rfl) (mem s hs)) fun d7 H7 hd7 e7 h7 => ?_
    have x7 := x6.trans e7
    have due : (List.range n).map (fun s => V.int (((went zs (swps zs os)).idxOf s : Nat) : Int)) = nats (went zs (swps zs os.reverse)) := by
      rw [inv]
      exact (List.map_map (f := fun s => (went zs (swps zs os)).idxOf s) (g := fun x : Nat => V.int (x : Int))).symm
    rw [due] at h7
    refine s_ret (v := .bl true) (ev_is (ev_andV (a := true) (b := true) (ev_eqDt (dt_ev (ev_var rfl) (.lst (((e5.trans e6).trans e7) _ _ h4) (dts_strs _))) (dt_ev (ev_var rfl) (.lst (x7 _ _ h1) (dts_strs _))) (sh_strs'' az) (by decide)) fun _ => ev_eqDt (fun H1 e1 Q q => ⟨v, rfl, .ref a1, rfl, .ref d5, rfl, v, .ref a1, .ref d5, n, es, zs, _, rfl, (hg.ex x7).ex e1, ok, ⟨a1, rfl, e1 _ _ (x7 _ _ h1)⟩, ⟨d5, rfl, e1 _ _ ((e6.trans e7) _ _ h5)⟩, az, cpr, fun H3 r e3 hr h3 => q _ H3 e3 (.lst h3 (dts_ints' _))⟩) (dt_ev (ev_var rfl) (.lst h7 (dts_ints' _))) (sh_ints' _) (by decide)) rfl) fun H8 e8 => q H8 (x7.trans e8)
end
section
variable {P : Program} {w : World} {K : PySem.W.Frag} {mg : Str → Option Value} {base : Heap}
theorem ok_xr {f fAO : Addr} {fd fdAO : FuncData} {k : Nat} (F : Fun K "_law_exchange_right" "_law_exchange_right" sXR f fd)
    (GAO : FnOk P w K mg base CX0 k fAO fdAO ["forest", "items", "order"] spApply) (FAO : Fun K "apply_order" "apply_order" sApply fAO fdAO) (bAO : Binds K fdAO ["forest", "items", "order"] []) (gAO : mg "apply_order" = some (.ref fAO))(mLen : mg "len" = none) (mRange : mg "range" = none) : FnOk P w K mg base CX0 (k + 1) f fd ["graph", "row", "result", "sequence"] spRR := by
  refine F.ok scXR (fun vs H Q E h => ?_) (fun cdv A outer s H vs Q E hr h => ?_)
  · obtain ⟨v, i, u, o, n, es, os, zs, rfl, _⟩ := h
    rfl
  · obtain ⟨v, i, u, o, n, es, os, zs, rfl, hg, ok, ⟨a1, rfl, h1⟩, ⟨a2, rfl, h2⟩, az, ⟨a3, ys, rfl, h3, po⟩, pm, q⟩ := h
    refine ⟨_, (pss_cons (ps_for PassesOwn.never rfl (pi_range1 (by rfl) mRange (pa_cons (pe_op op_sub (pe_callB call_len_seq (by rfl) mLen boot_len (pa_cons (pv 3) pa_nil)) pe_int) pa_nil)) (pg_name (i := 4) scXR.nd rfl (Or.inl rfl))
      (pss_cons (ps_set (i := 5) scXR.nd rfl (.inr rfl) (pe_slice sl_list (pv 3) (po_some (pv 4)) (po_some (pe_op op_add (pv 4) pe_int))))
      (pss_cons (ps_set (i := 6) scXR.nd rfl (.inl rfl) (pe_op op_cat (pe_op op_cat (pe_slice sl_list (pv 3) po_none (po_some (pv 4))) (pe_revL (pv 5))) (pe_slice sl_list (pv 3) (po_some (pe_op op_add (pv 4) pe_int)) po_none)))
      (pss_cons (ps_set (i := 7) scXR.nd rfl (.inl rfl) (pe_call GAO hr (by rfl) gAO FAO.kp bAO .nil pass0 (pa_cons (pv 0) (pa_cons (pv 1) (pa_cons (pv 6) pa_nil)))))
      (pss_cons (ps_setLc (i := 8) (own := [("spot", 9)]) (g := gName 9) (tt := tTest (tOp (rIn K false) (tVar 9) (tOp (rIxL K) (tVar 5) (tC (.int 1))))) (te := tVar 9) rfl scXR.nd rfl rfl (sw_true rfl rfl rfl (by decide +kernel)) (pi_tup (pe_ix ix_list (pv 5) pe_int (fun _ _ => rfl))) (blkOk_by (N := ["graph", "row", "result", "sequence", "k", "pair", "changed", "other", "shared", "spot"]) (sc := defScope sXR) (by decide +kernel)) (fun _ _ _ _ _ => pg_name (i := 9) scXR.nd rfl (Or.inl rfl)) (fun _ _ _ _ _ => pts_one (pt_cmpR op_in_seq (pv 9) (pe_ix ix_list (pv 5) pe_int (fun _ _ => rfl)) (by rfl))) (fun _ _ _ _ _ => (pv 9)))
      (pss_one (ps_if (pt_cmpR op_ne (pe_cmpR (op_eqD hr.units) (pv 7) (pv 2) (nomark _)) (pe_cmpR (op_eqD hr.units) (pv 8) (pe_lst pa_nil) (nomark _)) (nomark _)) pss_never pss_nil)))))))
      (pss_one (ps_ret pe_bl))), ?_⟩
    have E' := ok.edges
    have n40 := ok.n40
    have yl := po.length
    have few : os.length ≤ 60 := by
      rw [pm.length_eq]
      exact ok.few
    have cp := came_perm E' pm az.len
    have al : ArrOk (swps zs os) n := az.perm cp
    refine q_forRm (n := (os.length : Int) - 1) (ea_cons (ev_is (ev_op (ev_len (ev_var rfl) (sq_of h3)) ev_c rv_I0) (by rw [yl])) ea_nil) ⟨by omega, by omega⟩ (fun i σ' H' => Ex H H' ∧ ∃ y4 y5 y6 y7 y8, σ' = [some v, some (.ref a1), some (.ref a2), some (.ref a3), y4, y5, y6, y7, y8, none]) (fun H1 e1 => ⟨e1, _, _, _, _, _, rfl⟩) ?_ ?_
    · rintro k σ' H1 hk ⟨e1, y4, y5, y6, y7, y8, rfl⟩
      dsimp only [List.set_cons_succ, List.set_cons_zero]
      have kl : k + 1 < os.length := by omega
      obtain ⟨e, f, hef⟩ : ∃ e f, (os.drop k).take 2 = [e, f] := by
        refine ⟨os[k]'(by omega), os[k + 1], ?_⟩
        rw [List.drop_eq_getElem_cons (by omega), List.drop_eq_getElem_cons kl]
        rfl
      obtain ⟨pm', iff⟩ := exch_two E' pm az.len az.nd hef kl
      have p2 : PrsV H1 ((ys.drop k).take 2) [e, f] := by
        rw [← hef]
        exact ((po.drop k).take 2).ex e1
      refine q_asgP (evp_sl (K := K) (lo := some (k : Int)) (hi := some ((k + 2 : Nat) : Int)) (es := []) (ev_var rfl) (eo_some (ev_var rfl)) (eo_some (ev_is (ev_op (ev_var rfl) ev_c rv_I0) rfl)) (e1 _ _ h3) (by rw [cut_mid]; exact p2)) fun d5 x5 H2 hd5 e2 h5 p5 => ?_
      have X2 := e1.trans e2
      have f2 := po.ex X2
      refine q_asgP (evp_cat2 (evp_cat2 (evp_sl (K := K) (lo := none) (hi := some (k : Int)) (es := []) (ev_var rfl) eo_none (eo_some (ev_var rfl)) (X2 _ _ h3) (by rw [cut_front]; exact f2.take k)) (evp_rev (ev_var rfl) h5 p5) (by
          rw [List.length_take]
          show _ + 2 ≤ _
          omega)) (evp_sl (K := K) (lo := some ((k + 2 : Nat) : Int)) (hi := none) (es := []) (ev_var rfl) (eo_some (ev_is (ev_op (ev_var rfl) ev_c rv_I0) rfl)) eo_none (X2 _ _ h3) (by rw [cut_back]; exact f2.drop (k + 2))) (by
          rw [List.length_append, List.length_take, List.length_drop]
          show _ + 2 + _ ≤ _
          omega)) fun d6 x6 H3 hd6 e3 h6 p6 => ?_
      have X3 := X2.trans e3
      have e6 : os.take k ++ [e, f].reverse ++ os.drop (k + 2) = os.take k ++ [f, e] ++ os.drop (k + 2) := rfl
      rw [e6] at p6
      generalize hch : os.take k ++ [f, e] ++ os.drop (k + 2) = ch at *
      refine q_asgL (xs := (swps zs ch).map V.str) (fun H4 e4 Q q => ⟨v, rfl, .ref a1, rfl, .ref d6, rfl, v, .ref a1, .ref d6, n, es, ch, zs, rfl, (hg.ex X3).ex e4, ok, ⟨a1, rfl, e4 _ _ (X3 _ _ h1)⟩, az, ⟨d6, x6, rfl, e4 _ _ h6, p6.ex e4⟩, pm', fun H5 r e5 hr h5 => q r H5 hr e5 h5⟩) fun d7 H4 hd7 e4 h7 => ?_
      have X4 := X3.trans e4
      obtain ⟨t1, r1, ep, ht1⟩ : ∃ t r, x5 = V.ref t :: r ∧ H2 t = some (.tup [.int (e.1 : Int), .int (e.2 : Int)]) := by
        cases p5 with
        | cons p _ =>
          obtain ⟨t, rfl, ht⟩ := p
          exact ⟨t, _, rfl, ht⟩
      obtain ⟨t2, r2, er, ht2⟩ : ∃ t r, r1 = V.ref t :: r ∧ H2 t = some (.tup [.int (f.1 : Int), .int (f.2 : Int)]) := by
        rw [ep] at p5
        cases p5 with
        | cons _ p =>
          cases p with
          | cons p _ =>
            obtain ⟨t, rfl, ht⟩ := p
            exact ⟨t, _, rfl, ht⟩
      subst er
      subst ep
      have X24 := e3.trans e4
      have fil := el_lcU (K := K) (σ := [some v, some (.ref a1), some (.ref a2), some (.ref a3), some (.int (k : Int)), some (.ref d5), some (.ref d6), some (.ref d7), y8, none]) (H := H4) (a := t1) (xs := nats [e.1, e.2]) (j := 9) (vs := [9]) (t := tTest (tOp (rIn K false) (tVar 9) (tOp (rIxL K) (tVar 5) (tC (.int 1))))) (te := tVar 9) (tl := tOp (rIxL K) (tVar 5) (tC (.int 0)))
        (fun i => decide ([e.1, e.2].getD i 0 ∈ [f.1, f.2])) (fun i => V.int (([e.1, e.2].getD i 0 : Nat) : Int)) (ev_op (ev_var rfl) ev_c (rv_ixL (sq_of (X24 _ _ h5)) (atI_nat (j := 0) rfl))) (st_of (X24 _ _ ht1)) (show 2 ≤ 40000 by omega) (fun _ => rfl) (fun i x H5 e5 hi => by
          have hi : ([e.1, e.2].map fun x : Nat => V.int (x : Int))[i]? = some x := hi
          rw [List.getElem?_map] at hi
          obtain ⟨z, hz, rfl⟩ := Option.map_eq_some_iff.mp hi
          rw [show [e.1, e.2].getD i 0 = z by rw [List.getD_eq_getElem?_getD, hz]; rfl]
          exact et_test (ev_inN (ev_var rfl) (ev_op (ev_var rfl) ev_c (rv_ixL (sq_of ((X24.trans e5) _ _ h5)) (atI_nat (j := 1) rfl))) (.inr (st_of ((X24.trans e5) _ _ ht2))))) (fun i x H5 e5 hi _ => by
          have hi : ([e.1, e.2].map fun x : Nat => V.int (x : Int))[i]? = some x := hi
          rw [List.getElem?_map] at hi
          obtain ⟨z, hz, rfl⟩ := Option.map_eq_some_iff.mp hi
          rw [show [e.1, e.2].getD i 0 = z by rw [List.getD_eq_getElem?_getD, hz]; rfl]
          exact ev_var rfl)
      have fe : given (nats [e.1, e.2]).length (fun i => decide ([e.1, e.2].getD i 0 ∈ [f.1, f.2])) (fun i => V.int (([e.1, e.2].getD i 0 : Nat) : Int)) = nats ([e.1, e.2].filter fun z => decide (z ∈ [f.1, f.2])) := by
        have := given_filter (fun x : Nat => V.int (x : Int)) (fun z => decide (z ∈ [f.1, f.2])) (fun i => decide ([e.1, e.2].getD i 0 ∈ [f.1, f.2])) (fun i => V.int (([e.1, e.2].getD i 0 : Nat) : Int)) [e.1, e.2] (fun i l hl => by rw [List.getD_eq_getElem?_getD, hl]; rfl) (fun i l hl => by rw [List.getD_eq_getElem?_getD, hl]; rfl)
        exact this
      rw [fe] at fil
      refine q_asgL fil fun d8 H5 hd8 e5 h8 => ?_
      have X5 := X4.trans e5
      have az' := az.perm (came_perm E' pm' az.len)
      have c1 : Ev (tOp (rEqD K) (tVar 7) (tVar 2)) [some v, some (.ref a1), some (.ref a2), some (.ref a3), some (.int (k : Int)), some (.ref d5), some (.ref d6), some (.ref d7), some (.ref d8), none] H5 (.bl (decide (swps zs ch = swps zs os))) := ev_is (ev_eqDD (dt_ev (ev_var rfl) (.lst (e5 _ _ h7) (dts_strs _))) (dt_ev (ev_var rfl) (.lst (X5 _ _ h2) (dts_strs _))) (sh_strs'' az') (sh_strs'' al) (by decide) (by decide)) (congrArg V.bl (eqv_strL _ _))
      have c2 : Ev (tOp (rEqD K) (tVar 8) (tLst tNil)) [some v, some (.ref a1), some (.ref a2), some (.ref a3), some (.int (k : Int)), some (.ref d5), some (.ref d6), some (.ref d7), some (.ref d8), none] H5 (.bl (decide (swps zs ch = swps zs os))) := ev_is (eq_nilV (ev_var rfl) h8 (dts_ints' _) (sh_ints' _) (by decide)) (congrArg V.bl (decide_eq_decide.mpr (by
        rw [List.map_eq_nil_iff]
        exact iff.symm)))
      refine s_when (b := false) (et_test (ev_is (ev_neB c1 c2) (by rw [decide_eq_true rfl]; rfl))) (fun h => nomatch h) fun _ H6 e6' => ⟨X5.trans e6', _, _, _, _, _, rfl⟩
    · rintro σ' H1 ⟨e1, y4, y5, y6, y7, y8, rfl⟩
      exact s_ret (v := .bl true) ev_c fun H2 e2 => q H2 (e1.trans e2)
end
end K10
/-! lists of lists of numbers: built by a comprehension, sorted, compared -/
namespace Os
open PySem PySem.Spec PyProof.Rows L2 Evl
open PySem.W (EachIs dataLe AllAlike Sortable)
def numD (l : List Nat) : PyData := .list (l.map fun x : Nat => .int (x : Int))
theorem dts_nat {G : Hp} : ∀ c : List Nat, Dts G (natV c) (c.map fun x : Nat => PyData.int (x : Int))
  | [] => .nil
  | x :: c => .cons (.int _) (dts_nat c)
theorem sh_nat (c : List Nat) : Sh 1 (numD c) := .lst fun d hd => by
  obtain ⟨x, _, rfl⟩ := List.mem_map.mp hd
  exact .int 0 _
theorem sh_nums (L : List (List Nat)) : Sh 2 (.list (L.map numD)) := .lst fun d hd => by
  obtain ⟨x, _, rfl⟩ := List.mem_map.mp hd
  exact sh_nat x
/-- references to lists of numbers -/
def LsV (G : Hp) (xs : List V) (L : List (List Nat)) : Prop := xs.length = L.length ∧ ∀ (i : Nat) (x : V), xs[i]? = some x → ∃ l c, L[i]? = some l ∧ x = .ref c ∧ G c = some (.lst (natV l))
theorem LsV.ex {G G' : Hp} {xs : List V} {L : List (List Nat)} (h : LsV G xs L) (e : Ex G G') : LsV G' xs L := ⟨h.1, fun i x hx => by
  obtain ⟨l, c, h1, h2, h3⟩ := h.2 i x hx
  exact ⟨l, c, h1, h2, e _ _ h3⟩⟩
theorem LsV.get {G : Hp} {xs : List V} {L : List (List Nat)} {i : Nat} {l : List Nat} (h : LsV G xs L) (hl : L[i]? = some l) : ∃ c, xs[i]? = some (.ref c) ∧ G c = some (.lst (natV l)) := by
  have lt := (List.getElem?_eq_some_iff.mp hl).1
  obtain ⟨l', c, h1, h2, h3⟩ := h.2 i _ (List.getElem?_eq_getElem (by rw [h.1]; exact lt))
  rw [hl] at h1
  cases h1
  exact ⟨c, by rw [← h2]; exact List.getElem?_eq_getElem _, h3⟩
theorem LsV.dts {G : Hp} : ∀ {xs : List V} {L : List (List Nat)}, LsV G xs L → Dts G xs (L.map numD)
  | [], [], _ => .nil
  | [], _ :: _, h => nomatch h.1
  | _ :: _, [], h => nomatch h.1
  | x :: xs, l :: L, h => by
    obtain ⟨l', c, h1, rfl, h3⟩ := h.2 0 x rfl
    cases h1
    exact .cons (.lst h3 (dts_nat _)) (LsV.dts ⟨Nat.succ.inj h.1, fun i y hy => h.2 (i + 1) y hy⟩)
/-- the same beside a list under construction -/
def LsN (D : Addr) (G : Hp) (xs : List V) (L : List (List Nat)) : Prop := xs.length = L.length ∧ ∀ (i : Nat) (x : V), xs[i]? = some x → ∃ l c, L[i]? = some l ∧ x = .ref c ∧ c ≠ D ∧ G c = some (.lst (natV l))
theorem LsN.out {D : Addr} {G : Hp} {xs : List V} {L : List (List Nat)} (h : LsN D G xs L) : LsV G xs L := ⟨h.1, fun i x hx => by
  obtain ⟨l, c, h1, h2, _, h3⟩ := h.2 i x hx
  exact ⟨l, c, h1, h2, h3⟩⟩
theorem LsN.snoc {D c : Addr} {G : Hp} {xs ws : List V} {L : List (List Nat)} {l : List Nat} (h : LsN D G xs L) (n : c ≠ D) (hc : G c = some (.lst (natV l))) : LsN D (upd G D (.lst ws)) (xs ++ [.ref c]) (L ++ [l]) := ⟨by rw [List.length_append, List.length_append, h.1]; rfl, fun i x hx => by
  by_cases lt : i < xs.length
  · rw [List.getElem?_append_left lt] at hx
    obtain ⟨l', c', h1, h2, h3, h4⟩ := h.2 i x hx
    exact ⟨l', c', by rw [List.getElem?_append_left (by rw [← h.1]; exact lt)]; exact h1, h2, h3, by rw [upd_ne h3]; exact h4⟩
  · rw [List.getElem?_append_right (by omega)] at hx
    have z : i - xs.length = 0 := by
      have := (List.getElem?_eq_some_iff.mp hx).1
      rw [List.length_singleton] at this
      omega
    rw [z] at hx
    cases hx
    exact ⟨l, c, by rw [List.getElem?_append_right (by rw [← h.1]; omega), ← h.1, z]; rfl, rfl, n, by rw [upd_ne n]; exact hc⟩⟩
/-- a value that is a list of numbers, new or there before H -/
def EvW (te : TE) (σ : L2.St) (H : Hp) (l : List Nat) : Prop := ∀ H1, Ex H H1 → ∀ Q : VK, (∀ p H2, (H1 p = none ∨ ∃ o, H p = some o) → Ex H1 H2 → H2 p = some (.lst (natV l)) → Q (.ref p) H2) → te σ H1 Q
/-- a list of lists of numbers -/
def EvLs (te : TE) (σ : L2.St) (H : Hp) (L : List (List Nat)) : Prop := ∀ H1, Ex H H1 → ∀ Q : VK, (∀ p xs H2, Ex H1 H2 → H2 p = some (.lst xs) → LsV H2 xs L → Q (.ref p) H2) → te σ H1 Q
section
variable {K : PySem.W.Frag} {σ : L2.St} {H : Hp} {D : Ends} {ta tb tl te : TE} {t : TT} {tz : TS} {a : Addr}
theorem EvL.w {l : List Nat} (h : EvL te σ H (natV l)) : EvW te σ H l := fun H1 e Q q => h H1 e Q fun p H2 hp e2 h2 => q p H2 (.inl hp) e2 h2
theorem Ev.w {l : List Nat} (h : Ev te σ H (.ref a)) (ha : H a = some (.lst (natV l))) : EvW te σ H l := fun H1 e Q q => h H1 e Q fun H2 e2 => q a H2 (.inr ⟨_, ha⟩) e2 ((e.trans e2) _ _ ha)
theorem els_of {xs : List V} {L : List (List Nat)} (h : Ev te σ H (.ref a)) (hx : H a = some (.lst xs)) (pp : LsV H xs L) : EvLs te σ H L := fun H1 e Q q => h H1 e Q fun H2 e2 => q a xs H2 e2 ((e.trans e2) _ _ hx) (pp.ex (e.trans e2))
theorem els_dt {L : List (List Nat)} (h : EvLs te σ H L) : EvDt te σ H (.list (L.map numD)) := fun H1 e Q q => h H1 e Q fun p xs H2 e2 h2 pp => q _ H2 e2 (.lst h2 pp.dts)
theorem q_asgLs {i : Nat} {L : List (List Nat)} (h : EvLs te σ H L) (k : ∀ p xs H1, Ex H H1 → H1 p = some (.lst xs) → LsV H1 xs L → tz D (σ.set i (some (.ref p))) H1) : tSeq (tAsg te (gName i)) tz D σ H := h H (Ex.refl H) _ fun p xs H2 e2 h2 pp => k p xs H2 e2 h2 pp
/-- [te for p, q in pairs if ..] -/
theorem els_pr {xs : List V} {es : List Pr} {i j n : Nat} {vs : List Nat} (f : Pr → Bool) (v : Pr → List Nat) (hn : n = 2) (h : Ev tl σ H (.ref a)) (hx : H a = some (.lst xs)) (hp : PrsV H xs es) (hz : es.length ≤ 40000) (hw : ∀ x y, wipe (((wipe σ vs).set i (some x)).set j (some y)) vs = wipe σ vs)
    (ht : ∀ e H1, Ex H H1 → e ∈ es → EvT t (((wipe σ vs).set i (some (.int (e.1 : Int)))).set j (some (.int (e.2 : Int)))) H1 (f e))
    (he : ∀ e, e ∈ es → f e = true → EvW te (((wipe σ vs).set i (some (.int (e.1 : Int)))).set j (some (.int (e.2 : Int)))) H (v e)) : EvLs (tLc (iList K tl) (gTup K n (gCons (gName i) (gCons (gName j) gNil))) t te vs) σ H ((es.filter f).map v) := fun H0 e0 Q q => h H0 e0 _ fun H1 e1 => ⟨a, rfl, ⟨xs, sq_of ((e0.trans e1) _ _ hx)⟩, fun Dl hD => by
  have X1 := e0.trans e1
  have xl := hp.length
  have pp := hp.ex X1
  have dn := fresh_back X1 hD
  refine lc_list (xs := xs) (fun k Hh => Ex H1 Hh ∧ ∃ zs, Hh Dl = some (.lst zs) ∧ LsN Dl Hh zs (((es.take k).filter f).map v)) ⟨Ex.new hD, [], upd_same, rfl, fun i x h => nomatch h⟩ (fun k H' _ p => sq_of (p.1 _ _ (X1 _ _ hx))) (fun k x H' hk p => ?_) (fun H' p => ?_)
  · obtain ⟨x1, zs, hzs, pz⟩ := p
    obtain ⟨r, hr, tp, rfl, htp⟩ := pp.get hk
    have kl := (List.getElem?_eq_some_iff.mp hr).1
    have tk : ((es.take (k + 1)).filter f).map v = ((es.take k).filter f).map v ++ (if f r = true then [v r] else []) := by
      rw [List.take_add_one, hr, List.filter_append, List.map_append]
      congr 1
      show List.map v (List.filter f [r]) = _
      rw [List.filter_cons]
      split <;> rfl
    have fl := List.length_filter_le f (es.take k)
    rw [List.length_take] at fl
    have zl := pz.1
    rw [List.length_map] at zl
    refine ⟨tp, [.int (r.1 : Int), .int (r.2 : Int)], rfl, st_of (x1 _ _ htp), hn.symm, _, [.int (r.2 : Int)], rfl, _, [], rfl, rfl, hw _ _, ?_⟩
    have rm := List.mem_of_getElem? hr
    refine ht r H' (X1.trans x1) rm H' (Ex.refl _) _ fun H3 e3 => ?_
    have pz3 : LsN Dl H3 zs (((es.take k).filter f).map v) := ⟨pz.1, fun i x hx => by
      obtain ⟨l, c, h1, h2, h3, h4⟩ := pz.2 i x hx
      exact ⟨l, c, h1, h2, h3, e3 _ _ h4⟩⟩
    cases hf : f r with
    | true =>
      rw [if_pos rfl]
      refine he r rm hf H3 ((X1.trans x1).trans e3) _ fun p H4 hp4 e4 h4 => ?_
      have np : p ≠ Dl := by
        rcases hp4 with z | ⟨o, z⟩
        · intro k
          rw [k, e3 _ _ hzs] at z
          cases z
        · intro k
          rw [k, dn] at z
          cases z
      refine ⟨zs, (e3.trans e4) _ _ hzs, sz_lt (by omega), (x1.trans (e3.trans e4)).mut hD, zs ++ [.ref p], upd_same, ?_⟩
      rw [tk, hf, if_pos rfl]
      have pz4 : LsN Dl H4 zs (((es.take k).filter f).map v) := ⟨pz.1, fun i x hx => by
        obtain ⟨l, c, h1, h2, h3, h4⟩ := pz3.2 i x hx
        exact ⟨l, c, h1, h2, h3, e4 _ _ h4⟩⟩
      exact pz4.snoc np h4
    | false =>
      rw [if_neg (by decide)]
      refine ⟨x1.trans e3, zs, e3 _ _ hzs, ?_⟩
      rw [tk, hf, if_neg (by decide), List.append_nil]
      exact pz3
  · obtain ⟨x1, zs, hzs, pz⟩ := p
    rw [xl, List.take_length] at pz
    exact q Dl zs H' (e1.trans x1) hzs pz.out⟩
/-- [te for row in rows if ..] -/
theorem els_lc {L : List (List Nat)} {j : Nat} {vs : List Nat} (f : List Nat → Bool) (v : List Nat → List Nat) (h : EvLs tl σ H L) (hz : L.length ≤ 40000) (hw : ∀ x, wipe ((wipe σ vs).set j (some x)) vs = wipe σ vs)
    (ht : ∀ l c H1, Ex H H1 → H1 c = some (.lst (natV l)) → l ∈ L → EvT t ((wipe σ vs).set j (some (.ref c))) H1 (f l))
    (he : ∀ l c H1, Ex H H1 → H1 c = some (.lst (natV l)) → l ∈ L → f l = true → EvW te ((wipe σ vs).set j (some (.ref c))) H1 (v l)) : EvLs (tLc (iList K tl) (gName j) t te vs) σ H ((L.filter f).map v) := fun H0 e0 Q q => h H0 e0 _ fun a xs H1 e1 hx hp => ⟨a, rfl, ⟨xs, sq_of hx⟩, fun Dl hD => by
  have X1 := e0.trans e1
  have xl := hp.1
  refine lc_list (xs := xs) (fun k Hh => Ex H1 Hh ∧ ∃ zs, Hh Dl = some (.lst zs) ∧ LsN Dl Hh zs (((L.take k).filter f).map v)) ⟨Ex.new hD, [], upd_same, rfl, fun i x h => nomatch h⟩ (fun k H' _ p => sq_of (p.1 _ _ hx)) (fun k x H' hk p => ?_) (fun H' p => ?_)
  · obtain ⟨x1, zs, hzs, pz⟩ := p
    obtain ⟨r, c, hr, rfl, hc⟩ := hp.2 k x hk
    have kl := (List.getElem?_eq_some_iff.mp hr).1
    have tk : ((L.take (k + 1)).filter f).map v = ((L.take k).filter f).map v ++ (if f r = true then [v r] else []) := by
      rw [List.take_add_one, hr, List.filter_append, List.map_append]
      congr 1
      show List.map v (List.filter f [r]) = _
      rw [List.filter_cons]
      split <;> rfl
    have fl := List.length_filter_le f (L.take k)
    rw [List.length_take] at fl
    have zl := pz.1
    rw [List.length_map] at zl
    refine ⟨hw _, ?_⟩
    have rm := List.mem_of_getElem? hr
    refine ht r c H' (X1.trans x1) (x1 _ _ hc) rm H' (Ex.refl _) _ fun H3 e3 => ?_
    have pz3 : LsN Dl H3 zs (((L.take k).filter f).map v) := ⟨pz.1, fun i x hx => by
      obtain ⟨l, c, h1, h2, h3, h4⟩ := pz.2 i x hx
      exact ⟨l, c, h1, h2, h3, e3 _ _ h4⟩⟩
    cases hf : f r with
    | true =>
      rw [if_pos rfl]
      refine he r c H1 X1 hc rm hf H3 (x1.trans e3) _ fun p H4 hp4 e4 h4 => ?_
      have np : p ≠ Dl := by
        rcases hp4 with z | ⟨o, z⟩
        · intro k
          rw [k, e3 _ _ hzs] at z
          cases z
        · intro k
          rw [k, hD] at z
          cases z
      refine ⟨zs, (e3.trans e4) _ _ hzs, sz_lt (by omega), (x1.trans (e3.trans e4)).mut hD, zs ++ [.ref p], upd_same, ?_⟩
      rw [tk, hf, if_pos rfl]
      have pz4 : LsN Dl H4 zs (((L.take k).filter f).map v) := ⟨pz.1, fun i x hx => by
        obtain ⟨l, c, h1, h2, h3, h4⟩ := pz3.2 i x hx
        exact ⟨l, c, h1, h2, h3, e4 _ _ h4⟩⟩
      exact pz4.snoc np h4
    | false =>
      rw [if_neg (by decide)]
      refine ⟨x1.trans e3, zs, e3 _ _ hzs, ?_⟩
      rw [tk, hf, if_neg (by decide), List.append_nil]
      exact pz3
  · obtain ⟨x1, zs, hzs, pz⟩ := p
    rw [xl, List.take_length] at pz
    exact q Dl zs H' (e1.trans x1) hzs pz.out⟩
/-- rows[0] -/
theorem els_first {i : Nat} {L : List (List Nat)} {l : List Nat} (h : EvLs te σ H L) (hl : L[0]? = some l) (k : ∀ c H1, Ex H H1 → H1 c = some (.lst (natV l)) → tz D (σ.set i (some (.ref c))) H1) : tSeq (tAsg (tOp (rIxL K) te (tC (.int 0))) (gName i)) tz D σ H :=
  h H (Ex.refl H) _ fun p xs H2 e2 h2 pp => by
    obtain ⟨c, h3, h4⟩ := pp.get hl
    exact (rv_ixL (K := K) (sq_of h2) (atI_nat (j := 0) h3)) H2 (Ex.refl _) _ fun H3 e3 => k c H3 (e2.trans e3) (e3 _ _ h4)
end
end Os
/-! sorted(list of lists of numbers) -/
namespace Os
open PySem PySem.Spec PyProof.Rows L2 Evl
open PySem.W (EachIs dataLe AllAlike Sortable)
theorem alike_nums : ∀ a b : List Nat, PySem.W.alikeAll (a.map fun x : Nat => PyData.int (x : Int)) (b.map fun x : Nat => PyData.int (x : Int)) = true
  | [], _ => by simp [PySem.W.alikeAll]
  | _ :: _, [] => by simp [PySem.W.alikeAll]
  | x :: a, y :: b => by
    rw [List.map_cons, List.map_cons, PySem.W.alikeAll, alike_nums a b]
    rfl
theorem nums_alike (L : List (List Nat)) : AllAlike (L.map numD) := AllAlike.of fun p q => by
  unfold numD
  rw [PySem.W.alike]
  exact alike_nums p q
theorem nums_sortable (L : List (List Nat)) : Sortable (L.map numD) := Sortable.others fun l => by
  constructor
  · intro h
    cases h
  · intro xs h
    cases h
theorem nums_depth (l : List Nat) : (numD l).depth ≤ 40 := by
  have : PyData.depthAll (l.map fun x : Nat => PyData.int (x : Int)) ≤ 1 := by
    induction l with
    | nil => simp [PyData.depthAll]
    | cons x l ih =>
      rw [List.map_cons]
      simp only [PyData.depthAll, PyData.depth]
      omega
  unfold numD
  simp only [PyData.depth]
  omega
theorem lt_heads (x y : Nat) (a b : List Nat) (h : x < y) : PySem.W.dataLt (numD (y :: b)) (numD (x :: a)) = false := by
  show PyProof.Rows.lexLt itemOrd (PySem.W.keyToksAll (PyData.int (y : Int) :: b.map fun x : Nat => PyData.int (x : Int))) (PySem.W.keyToksAll (PyData.int (x : Int) :: a.map fun x : Nat => PyData.int (x : Int))) = false
  have e : PyData.eqv (PyData.int (y : Int)) (PyData.int (x : Int)) = false := by
    show ((y : Int) == (x : Int)) = false
    exact beq_eq_false_iff_ne.mpr (by omega)
  rw [PySem.W.dataLt_all_no (by rfl) e]
  have h2 := PySem.W.dataLt_int (y : Int) (x : Int)
  have h3 : decide ((y : Int) < (x : Int)) = false := decide_eq_false (by omega)
  exact h2.trans h3
theorem gt_heads (x y : Nat) (a b : List Nat) (h : x < y) : PySem.W.dataLt (numD (x :: a)) (numD (y :: b)) = true := by
  show PyProof.Rows.lexLt itemOrd (PySem.W.keyToksAll (PyData.int (x : Int) :: a.map fun x : Nat => PyData.int (x : Int))) (PySem.W.keyToksAll (PyData.int (y : Int) :: b.map fun x : Nat => PyData.int (x : Int))) = true
  have e : PyData.eqv (PyData.int (x : Int)) (PyData.int (y : Int)) = false := by
    show ((x : Int) == (y : Int)) = false
    exact beq_eq_false_iff_ne.mpr (by omega)
  rw [PySem.W.dataLt_all_no (by rfl) e]
  have h2 := PySem.W.dataLt_int (x : Int) (y : Int)
  have h3 : decide ((x : Int) < (y : Int)) = true := decide_eq_true (by omega)
  exact h2.trans h3
def HdLt (a b : List Nat) : Prop := ∃ x y r s, a = x :: r ∧ b = y :: s ∧ x < y
abbrev ordLs (L : List (List Nat)) : List (List Nat) := L.mergeSort (dataLe false numD)
theorem ordLs_is {L M : List (List Nat)} (pm : M.Perm L) (hd : M.Pairwise HdLt) : ordLs L = M := by
  refine List.Perm.eq_of_pairwise (le := fun p q => dataLe false numD p q = true) (fun a b ha hb h1 h2 => ?_) (PySem.W.sort_pairwise (PySem.W.sortLe_total _ false _) L) (hd.imp fun {a b} h => ?_) ((List.mergeSort_perm L _).trans pm.symm)
  · have am : a ∈ M := pm.mem_iff.mpr ((List.mergeSort_perm L _).mem_iff.mp ha)
    obtain ⟨i, hi, ei⟩ := List.getElem_of_mem am
    obtain ⟨j, hj, ej⟩ := List.getElem_of_mem hb
    have pw := List.pairwise_iff_getElem.mp hd
    have no : ∀ a b, HdLt a b → dataLe false numD b a = true → False := fun a b ⟨x, y, r, s, e1, e2, lt⟩ h => by
      have h : (!PySem.W.dataLt (numD a) (numD b)) = true := h
      rw [e1, e2, gt_heads x y r s lt] at h
      cases h
    rcases Nat.lt_trichotomy i j with k | k | k
    · have := pw i j hi hj k
      rw [ei, ej] at this
      exact absurd h2 fun z => no a b this z
    · subst k
      exact ei.symm.trans ej
    · have := pw j i hj hi k
      rw [ei, ej] at this
      exact absurd h1 fun z => no b a this z
  · obtain ⟨x, y, r, s, e1, e2, lt⟩ := h
    show (!PySem.W.dataLt (numD b) (numD a)) = true
    rw [e1, e2, lt_heads x y r s lt]
    rfl
section
variable {K : PySem.W.Frag} {σ : L2.St} {H : Hp} {te : TE}
theorem els_sort {L : List (List Nat)} (h : EvLs te σ H L) (few : L.length ≤ 100000) : EvLs (tCB (rSortE K numD) (tCons te tNil)) σ H (ordLs L) := fun H1 e1 Q q =>
  h H1 e1 _ fun a xs H2 e2 h2 pp => ⟨a, xs, L, rfl, h2, pp.dts, fun x hx => by
    obtain ⟨i, hi⟩ := List.mem_iff_getElem?.mp hx
    obtain ⟨l, c, _, h, _⟩ := pp.2 i x hi
    exact ⟨c, h⟩, nums_alike L, nums_sortable L, fun b _ => nums_depth b, by rw [pp.1]; exact few, fun ys p yl at' hpn => q p ys _ (e2.trans (Ex.new hpn)) upd_same (LsV.ex ⟨by rw [yl, (List.mergeSort_perm L _).length_eq], fun j y hy => by
      obtain ⟨i, b, h1, h2, h3⟩ := at' j y hy
      obtain ⟨l, c, h4, h5, h6⟩ := pp.2 i y h1
      rw [h2] at h4
      cases h4
      exact ⟨b, c, h3, h5, h6⟩⟩ (Ex.new hpn))⟩
end
end Os
/-! a < b < c < d -/
namespace Os
open PySem PySem.Spec PyProof.Rows L2 Evl
def tChain3 (r r' r'' : R2) (ta tb tc td : TE) : TE := fun σ H Q => ta σ H fun x H1 => tb σ H1 fun y H2 => r x y H2 fun z H3 => ∃ k, z = .bl k ∧ (if k = true then tc σ H3 fun w H4 => r' y w H4 fun z2 H5 => ∃ k2, z2 = .bl k2 ∧ (if k2 = true then td σ H5 fun u H6 => r'' w u H6 Q else Q (.bl false) H5) else Q (.bl false) H3)
section
variable {X : Cx} {a b c d : Expr} {ta tb tc td : TE} {pos : Pos}
theorem pt_chain3 {op op' op'' : CmpOp} {r r' r'' : R2} (ho : OpR X (compareOp op) r) (ho' : OpR X (compareOp op') r') (ho'' : OpR X (compareOp op'') r'') (ha : PE X a ta) (hb : PE X b tb) (hc : PE X c tc) (hd : PE X d td)
    (hm : lastMarks [op, op', op''] [b, c, d] = false := by with_unfolding_all rfl) : PT X (.Compare a [op, op', op''] [b, c, d] pos) (tTest (tChain3 r r' r'' ta tb tc td)) := by
  refine ⟨fun pins s σ H Q I h => ?_⟩
  refine isTrue_chain (thn (ha.run pins s σ H _ I h) fun v s1 ⟨x, H1, I1, r1, q1⟩ => test_link (thn (hb.run pins s1 σ H1 _ I1 q1) fun u s2 ⟨y, H2, I2, r2, q2⟩ =>
    thn (ho pins s2 σ H2 x y v u _ I2 r1 r2 q2) fun d1 s3 ⟨z, H3, I3, r3, k, e, q3⟩ => ?_)) hm
  subst e
  cases r3
  refine wpAny_truthy_bool ?_
  cases k with
  | false =>
    obtain ⟨k', e', q'⟩ := q3
    cases e'
    exact ite_ff ⟨H3, I3, q'⟩
  | true =>
    refine ite_tt (test_link (thn (hc.run pins s3 σ H3 _ I3 q3) fun w' s4 ⟨z', H4, I4, r4, q4⟩ => thn (ho' pins s4 σ H4 y z' u w' _ I4 r2 r4 q4) fun d' s5 ⟨z2, H5, I5, r5, k2, e2, q5⟩ => ?_))
    subst e2
    cases r5
    refine wpAny_truthy_bool ?_
    cases k2 with
    | false =>
      obtain ⟨k', e', q'⟩ := q5
      cases e'
      exact ite_ff ⟨H5, I5, q'⟩
    | true =>
      refine ite_tt (test_last (thn (hd.run pins s5 σ H5 _ I5 q5) fun u' s6 ⟨z6, H6, I6, r6, q6⟩ => thn (ho'' pins s6 σ H6 z' z6 w' u' _ I6 r4 r6 q6) fun d6 s7 ⟨z7, H7, I7, r7, k7, e7, q7⟩ => ?_))
      subst e7
      cases r7
      exact wpAny_truthy_bool ⟨H7, I7, q7⟩
end
section
variable {σ : L2.St} {H : Hp} {ta tb tc td : TE}
theorem ev_chain3 {x y z u : V} {r r' r'' : R2} {b c d : Bool} (h1 : Ev ta σ H x) (h2 : Ev tb σ H y) (h3 : Ev tc σ H z) (h4 : Ev td σ H u) (r1 : RV r x y H (.bl b)) (r2 : RV r' y z H (.bl c)) (r3 : RV r'' z u H (.bl d)) : Ev (tChain3 r r' r'' ta tb tc td) σ H (.bl (b && (c && d))) := fun H1 e Q q =>
  h1 H1 e _ fun H2 e2 => h2 H2 (e.trans e2) _ fun H3 e3 => r1 H3 ((e.trans e2).trans e3) _ fun H4 e4 => ⟨b, rfl, by
    have E4 := ((e.trans e2).trans e3).trans e4
    cases b with
    | true =>
      show tc σ H4 _
      refine h3 H4 E4 _ fun H5 e5 => r2 H5 (E4.trans e5) _ fun H6 e6 => ⟨c, rfl, ?_⟩
      cases c with
      | true =>
        show td σ H6 _
        exact h4 H6 ((E4.trans e5).trans e6) _ fun H7 e7 => r3 H7 (((E4.trans e5).trans e6).trans e7) Q fun H8 e8 => q H8 ((((((e2.trans e3).trans e4).trans e5).trans e6).trans e7).trans e8)
      | false =>
        show Q (.bl false) H6
        exact q H6 ((((e2.trans e3).trans e4).trans e5).trans e6)
    | false =>
      show Q (.bl false) H4
      exact q H4 ((e2.trans e3).trans e4)⟩
end
end Os
namespace K10
open PySem PySem.Spec PyProof.Rows L2 Os Evl
abbrev sCR : Stmt := topS 40
theorem scCR : FnScope ["ring", "pairs", "spots", "low", "high", "one", "two"] ["ring", "pairs"] (defScope sCR) := ⟨rfl, rfl, rfl, by decide +kernel, rfl, by decide +kernel, by decide +kernel⟩
section
variable {K : PySem.W.Frag} {σ : L2.St} {H : Hp} {te ta tb tl : TE} {t tt : TT} {a : Addr}
theorem el_sortI {l S : List Nat} (h : EvL te σ H (nats l)) (pS : S.Perm l) (aS : S.Pairwise (· < ·)) : EvL (tCB (rSortedI K) (tCons te tNil)) σ H (nats S) := fun H1 e Q q =>
  h H1 e _ fun p H2 hp e2 h2 => ⟨p, l.map (fun x : Nat => (x : Int)), rfl, by rw [nats_ints]; exact sq_of h2, fun ns b pm pw hb => by
    have same : ns = S.map (fun x : Nat => (x : Int)) := List.Perm.eq_of_pairwise (le := (· ≤ ·)) (fun a b _ _ x y => by omega) pw (List.pairwise_map.mpr (aS.imp fun {x y} h => by show (x : Int) ≤ (y : Int); omega)) (pm.trans (pS.symm.map _))
    subst same
    rw [nats_ints]
    exact q b _ (fresh_back e2 hb) (e2.trans (Ex.new hb)) upd_same⟩
theorem el_lst2 {x y : V} (ha : Ev ta σ H x) (hb : Ev tb σ H y) : EvL (tLst (tCons ta (tCons tb tNil))) σ H [x, y] := fun H1 e1 Q q =>
  ha H1 e1 _ fun H2 e2 => hb H2 (e1.trans e2) _ fun H3 e3 => ⟨show 2 ≤ sizeLine by decide, fun p hp => q p _ (fresh_back (e2.trans e3) hp) ((e2.trans e3).trans (Ex.new hp)) upd_same⟩
theorem ne_none {te : TE} (h : EvL te σ H []) : Ev (tOp (rNeD K) te (tLst tNil)) σ H (.bl false) := fun H1 e1 Q q =>
  h H1 e1 _ fun p H2 hp e2 h2 => ⟨show 0 ≤ sizeLine by decide, fun t ht => by
    have e3 := Ex.new (o := .lst []) ht
    exact ⟨.list [], .list [], (Dt.lst (e3 _ _ h2) .nil).dp, (Dt.lst upd_same .nil).dp, (Sh.lst (n := 1) fun d hd => by cases hd).shaped (by decide), (Sh.lst (n := 1) fun d hd => by cases hd).shaped (by decide), q _ (e2.trans e3)⟩⟩
/-- [.. for p, q in rows if false] -/
theorem el_none2 {es : List Pr} {i j n : Nat} {vs : List Nat} (hn : n = 2) (h : EvLs tl σ H (es.map fun e => [e.1, e.2])) (hw : ∀ x y, wipe (((wipe σ vs).set i (some x)).set j (some y)) vs = wipe σ vs)
    (ht : ∀ e H1, Ex H H1 → e ∈ es → EvT t (((wipe σ vs).set i (some (.int (e.1 : Int)))).set j (some (.int (e.2 : Int)))) H1 false) : EvL (tLc (iList K tl) (gLst K n (gCons (gName i) (gCons (gName j) gNil))) t te vs) σ H [] := fun H0 e0 Q q => h H0 e0 _ fun a xs H1 e1 hx hp => ⟨a, rfl, ⟨xs, sq_of hx⟩, fun Dl hD => by
  have X1 := e0.trans e1
  refine lc_list (xs := xs) (fun k Hh => Ex H1 Hh ∧ Hh Dl = some (.lst [])) ⟨Ex.new hD, upd_same⟩ (fun k H' _ p => sq_of (p.1 _ _ hx)) (fun k x H' hk p => ?_) (fun H' p => ?_)
  · obtain ⟨x1, hzs⟩ := p
    obtain ⟨l, c, hl, rfl, hc⟩ := hp.2 k x hk
    rw [List.getElem?_map] at hl
    obtain ⟨r, hr, rfl⟩ := Option.map_eq_some_iff.mp hl
    refine ⟨c, [.int (r.1 : Int), .int (r.2 : Int)], rfl, sq_of (x1 _ _ hc), hn.symm, _, [.int (r.2 : Int)], rfl, _, [], rfl, rfl, hw _ _, ?_⟩
    refine ht r H' (X1.trans x1) (List.mem_of_getElem? hr) H' (Ex.refl _) _ fun H3 e3 => ?_
    rw [if_neg (by decide)]
    exact ⟨x1.trans e3, e3 _ _ hzs⟩
  · obtain ⟨x1, hzs⟩ := p
    exact q Dl H' (fresh_back e1 hD) (e1.trans x1) hzs⟩
end
/-- the two places of an edge on a ring -/
def spotP (l : List Nat) (e : Pr) : Pr := (min (l.idxOf e.1) (l.idxOf e.2), max (l.idxOf e.1) (l.idxOf e.2))
section
variable {P : Program} {w : World} {K : PySem.W.Frag} {mg : Str → Option Value} {base : Heap}
def spCR : Sp := fun vs H Q _ => ∃ (r pa : Addr) (l : List Nat) (es : List Pr) (xs : List V), vs = [.ref r, .ref pa] ∧ H r = some (.lst (nats l)) ∧ H pa = some (.lst xs) ∧ PrsV H xs es ∧ es.length ≤ 60 ∧ (∀ e ∈ es, e.1 < e.2 ∧ (e.1 ∈ l → e.2 ∈ l)) ∧ NoCr l es ∧ ∀ H', Ex H H' → Q (.bl false) H'
theorem ok_cr {f : Addr} {fd : FuncData} {k : Nat} (F : Fun K "_law_crossing" "_law_crossing" sCR f fd) (mSorted : mg "sorted" = none) : FnOk P w K mg base CX0 (k + 1) f fd ["ring", "pairs"] spCR := by
  refine F.ok scCR (fun vs H Q E h => ?_) (fun cdv A outer s H vs Q E hr h => ?_)
  · obtain ⟨r, pa, l, es, xs, rfl, _⟩ := h
    rfl
  · obtain ⟨r, pa, l, es, xs, rfl, hl, hpa, px, few, ok, nc, q⟩ := h
    refine ⟨_, (pss_cons (ps_setLc (i := 2) (own := [("one", 5), ("two", 6)]) (g := gTup K 2 (gCons (gName 5) (gCons (gName 6) gNil))) (tt := tTest (tOp (rIn K false) (tVar 5) (tVar 0))) (te := tCB (rSortedI K) (tCons (tLst (tCons (tBM K "list" (rIndex K) (tVar 0) (tCons (tVar 5) tNil)) (tCons (tBM K "list" (rIndex K) (tVar 0) (tCons (tVar 6) tNil)) tNil))) tNil)) rfl scCR.nd rfl rfl (sw_true rfl rfl rfl (by decide +kernel)) (pi_list (pv 1)) (blkOk_by (N := ["ring", "pairs", "spots", "low", "high", "one", "two"]) (sc := defScope sCR) (by decide +kernel)) (fun _ _ _ _ _ => pg_tup rfl (pgs_cons (pg_name (i := 5) scCR.nd rfl (Or.inl rfl)) (pgs_cons (pg_name (i := 6) scCR.nd rfl (Or.inl rfl)) pgs_nil))) (fun _ _ _ _ _ => pts_one (pt_cmpR op_in_seq (pv 5) (pv 0) (by rfl))) (fun _ _ _ _ _ => (pe_callB cr_sortedI (by rfl) mSorted boot_sorted (pa_cons (pe_lst (pa_cons (pe_bm PySem.F.plainAttrs_list PySem.F.slot_list_index PySem.F.type_list_index mt_index (pv 0) (pa_cons (pv 5) pa_nil)) (pa_cons (pe_bm PySem.F.plainAttrs_list PySem.F.slot_list_index PySem.F.type_list_index mt_index (pv 0) (pa_cons (pv 6) pa_nil)) pa_nil))) pa_nil))))
      (pss_cons (ps_for PassesOwn.never rfl (pi_list (pv 2)) (pg_lst rfl (pgs_cons (pg_name (i := 3) scCR.nd rfl (Or.inr rfl)) (pgs_cons (pg_name (i := 4) scCR.nd rfl (Or.inr rfl)) pgs_nil)))
      (pss_one (ps_if (pt_cmpR (op_neD hr.units) (pe_lc (own := [("one", 5), ("two", 6)]) (g := gLst K 2 (gCons (gName 5) (gCons (gName 6) gNil))) (tt := tTest (tChain3 (rI0 fun i j => .bl (decide (i < j))) (rI0 fun i j => .bl (decide (i < j))) (rI0 fun i j => .bl (decide (i < j))) (tVar 3) (tVar 5) (tVar 4) (tVar 6))) (te := tC (.int 1)) rfl scCR.nd (pi_list (pv 2)) (blkOk_by (N := ["ring", "pairs", "spots", "low", "high", "one", "two"]) (sc := defScope sCR) (by decide +kernel)) (fun _ _ _ _ _ => pg_lst rfl (pgs_cons (pg_name (i := 5) scCR.nd rfl (Or.inl rfl)) (pgs_cons (pg_name (i := 6) scCR.nd rfl (Or.inl rfl)) pgs_nil))) (fun _ _ _ _ _ => pts_one (pt_chain3 op_lt op_lt op_lt (pv 3) (pv 5) (pv 4) (pv 6))) (fun _ _ _ _ _ => pe_int)) (pe_lst pa_nil) (nomark _)) pss_never pss_nil)))
      (pss_one (ps_ret pe_bl)))), ?_⟩
    have idx_ne : ∀ e ∈ es, e.1 ∈ l → l.idxOf e.1 ≠ l.idxOf e.2 := fun e he h1 h => by
      have lt1 := List.idxOf_lt_length_iff.mpr h1
      have lt2 := List.idxOf_lt_length_iff.mpr ((ok e he).2 h1)
      have e1 := List.getElem_idxOf lt1
      have e2 := List.getElem_idxOf lt2
      have : l[l.idxOf e.1] = l[l.idxOf e.2] := by
        congr 1
      rw [e1, e2] at this
      have := (ok e he).1
      omega
    refine q_asgLs (els_pr (K := K) (σ := [some (.ref r), some (.ref pa), none, none, none, none, none]) (H := H) (i := 5) (j := 6) (vs := [5, 6]) (fun e => decide (e.1 ∈ l)) (fun e => [(spotP l e).1, (spotP l e).2]) rfl (ev_var rfl) hpa px (by omega) (fun _ _ => rfl) (fun e H1 e1 _ => et_test (ev_inN (ev_var rfl) (ev_var rfl) (.inl (sq_of (e1 _ _ hl))))) fun e he hf => EvL.w ?_) fun d2 zs H2 e2 h2 p2 => ?_
    · have h1 := of_decide_eq_true hf
      have ne := idx_ne e he h1
      refine el_sortI (l := [l.idxOf e.1, l.idxOf e.2]) (S := [(spotP l e).1, (spotP l e).2]) (el_lst2 (ev_indexN (ev_var rfl) hl (ev_var rfl) h1) (ev_indexN (ev_var rfl) hl (ev_var rfl) ((ok e he).2 h1))) ?_ ?_
      · unfold spotP
        dsimp only
        rcases Nat.le_total (l.idxOf e.1) (l.idxOf e.2) with k | k
        · rw [Nat.min_eq_left k, Nat.max_eq_right k]
        · rw [Nat.min_eq_right k, Nat.max_eq_left k]
          exact List.Perm.swap _ _ _
      · refine List.pairwise_pair.mpr ?_
        unfold spotP
        dsimp only
        omega
    rw [show (es.filter fun e => decide (e.1 ∈ l)).map (fun e => [(spotP l e).1, (spotP l e).2]) = ((es.filter fun e => decide (e.1 ∈ l)).map (spotP l)).map fun e => [e.1, e.2] from (List.map_map (f := spotP l) (g := fun e : Pr => [e.1, e.2])).symm] at p2
    have nocross : ∀ e ∈ (es.filter fun e => decide (e.1 ∈ l)).map (spotP l), ∀ f ∈ (es.filter fun e => decide (e.1 ∈ l)).map (spotP l), ¬ (e.1 < f.1 ∧ f.1 < e.2 ∧ e.2 < f.2) := fun e he f hf => by
      obtain ⟨e', me, rfl⟩ := List.mem_map.mp he
      obtain ⟨f', mf, rfl⟩ := List.mem_map.mp hf
      obtain ⟨me, ie⟩ := List.mem_filter.mp me
      obtain ⟨mf, jf⟩ := List.mem_filter.mp mf
      have ie := of_decide_eq_true ie
      have jf := of_decide_eq_true jf
      exact nc e' me f' mf ie ((ok e' me).2 ie) jf ((ok f' mf).2 jf)
    generalize hL : (es.filter fun e => decide (e.1 ∈ l)).map (spotP l) = Ls at *
    refine q_forL (xs := zs) (ev_var rfl) (sq_of h2) (fun i σ' H' => Ex H2 H' ∧ ∃ y3 y4, σ' = [some (.ref r), some (.ref pa), some (.ref d2), y3, y4, none, none]) (fun H3 e3 => ⟨e3, _, _, rfl⟩) (fun i σ' H' _ h => sq_of (h.1 _ _ h2)) ?_ ?_
    · rintro i x σ' H3 hx ⟨e3, y3, y4, rfl⟩
      obtain ⟨l0, c, hl0, rfl, hc⟩ := p2.2 i x hx
      rw [List.getElem?_map] at hl0
      obtain ⟨e, he, rfl⟩ := Option.map_eq_some_iff.mp hl0
      have em := List.mem_of_getElem? he
      refine ⟨c, [.int (e.1 : Int), .int (e.2 : Int)], rfl, sq_of (e3 _ _ hc), rfl, _, [.int (e.2 : Int)], rfl, _, [], rfl, rfl, ?_⟩
      refine s_when (b := false) (et_test (ne_none (el_none2 (es := Ls) (i := 5) (j := 6) (vs := [5, 6]) rfl (els_of (ev_var rfl) (e3 _ _ h2) (p2.ex e3)) (fun _ _ => rfl) fun f H4 e4 hf => et_test (ev_is (ev_chain3 (ev_var rfl) (ev_var rfl) (ev_var rfl) (ev_var rfl) rv_I0 rv_I0 rv_I0) (congrArg V.bl ?_))))) (fun h => nomatch h) fun _ H4 e4 => ⟨e3.trans e4, _, _, rfl⟩
      have := nocross e em f hf
      by_cases a : e.1 < f.1
      · by_cases b : f.1 < e.2
        · rw [decide_eq_false (p := (e.2 : Int) < (f.2 : Int)) (by omega), Bool.and_false, Bool.and_false]
        · rw [decide_eq_false (p := (f.1 : Int) < (e.2 : Int)) (by omega), Bool.false_and, Bool.and_false]
      · rw [decide_eq_false (p := (e.1 : Int) < (f.1 : Int)) (by omega), Bool.false_and]
    · rintro σ' H3 ⟨e3, y3, y4, rfl⟩
      exact s_ret (v := .bl false) ev_c fun H4 e4 => q H4 ((e2.trans e3).trans e4)
end
end K10
/-! one swap more behind an order, without its edge -/
namespace Os
open PySem PySem.Spec PyProof.Rows
theorem mvs_side {S : Nat → Bool} : ∀ {A : List Pr} {x : Nat}, (∀ g ∈ A, S g.1 = S g.2) → S (mvs A x) = S x
  | [], _, _ => rfl
  | g :: A, x, h => by
    show S (mvs A (sw g x)) = S x
    rw [mvs_side fun f hf => h f (List.mem_cons_of_mem _ hf)]
    have e := h g List.mem_cons_self
    unfold sw
    split
    · rename_i h1
      rw [h1, e]
    · split
      · rename_i h1
        rw [h1, e]
      · rfl
theorem mvs_id {x : Nat} : ∀ {A : List Pr}, (∀ g ∈ A, x ≠ g.1 ∧ x ≠ g.2) → mvs A x = x
  | [], _ => rfl
  | g :: A, h => by
    show mvs A (sw g x) = x
    rw [sw_ne (h g List.mem_cons_self).1 (h g List.mem_cons_self).2]
    exact mvs_id fun f hf => h f (List.mem_cons_of_mem _ hf)
theorem sw_tch {e : Pr} {p q z : Nat} (t : Tch e p q) (h1 : z ≠ p) (h2 : z ≠ q) : sw e z = z := by
  rcases t with ⟨a, b⟩ | ⟨a, b⟩
  · exact sw_ne (by rw [a]; exact h1) (by rw [b]; exact h2)
  · exact sw_ne (by rw [b]; exact h2) (by rw [a]; exact h1)
section
variable {n : Nat} {es os : List Pr} (E : Edges n es) (pm : os.Perm es)
include E pm
/-- what swaps later than an edge moves the item away from there for good -/
theorem gone {A B : List Pr} {e : Pr} {p q : Nat} (ho : os = A ++ e :: B) (te : Tch e p q) (hB : turnOf q B ≠ []) : mvs B q ≠ q ∧ mvs B q ≠ p := by
  have nd : os.Nodup := pm.nodup_iff.mpr E.nodup
  have mem : ∀ f ∈ os, f ∈ es := fun f hf => pm.mem_iff.mp hf
  have he : e ∈ es := mem e (by rw [ho]; exact List.mem_append_right _ List.mem_cons_self)
  have ndB : (e :: B).Nodup := by
    rw [ho] at nd
    exact (List.nodup_append.mp nd).2.1
  have inB : ∀ g ∈ B, g ∈ es := fun g hg => mem g (by rw [ho]; exact List.mem_append_right _ (List.mem_cons_of_mem _ hg))
  obtain ⟨eB, ndB⟩ := List.nodup_cons.mp ndB
  constructor
  · obtain ⟨c, T, hT⟩ := List.exists_cons_of_ne_nil hB
    obtain ⟨B1, g, B2, rfl, hn, hg, _⟩ := List.filterMap_eq_cons_iff.mp hT
    have tg : Tch g q c := some_touch hg
    have gm : g ∈ es := inB g (List.mem_append_right _ List.mem_cons_self)
    obtain ⟨S, s1, s2⟩ := E.br g gm
    have gB2 : g ∉ B2 := (List.nodup_cons.mp (List.nodup_append.mp ndB).2.1).1
    have i1 : mvs B1 q = q := mvs_id fun f hf => by
      have h := hn f hf
      by_cases a : f.1 = q
      · rw [if_pos a] at h; cases h
      · rw [if_neg a] at h
        by_cases b : f.2 = q
        · rw [if_pos b] at h; cases h
        · exact ⟨fun z => a z.symm, fun z => b z.symm⟩
    have e1 : mvs (B1 ++ g :: B2) q = mvs B2 c := by
      rw [mvs_app, i1]
      show mvs B2 (sw g q) = _
      rw [tg.sw]
    have e2 : S (mvs B2 c) = S c := mvs_side fun f hf => s2 f (inB f (List.mem_append_right _ (List.mem_cons_of_mem _ hf))) fun z => gB2 (z ▸ hf)
    intro z
    rw [e1] at z
    rw [z] at e2
    rcases tg with ⟨a, b⟩ | ⟨a, b⟩
    · exact s1 (by rw [a, b]; exact e2)
    · exact s1 (by rw [a, b]; exact e2.symm)
  · obtain ⟨S, s1, s2⟩ := E.br e he
    have e2 : S (mvs B q) = S q := mvs_side fun f hf => s2 f (inB f hf) fun z => eB (z ▸ hf)
    intro z
    rw [z] at e2
    rcases te with ⟨a, b⟩ | ⟨a, b⟩
    · exact s1 (by rw [a, b]; exact e2)
    · exact s1 (by rw [a, b]; exact e2.symm)
theorem moved_out {A B : List Pr} {e : Pr} {p q : Nat} (ho : os = A ++ e :: B) (te : Tch e p q) (hB : turnOf q B ≠ []) : ∃ x, x < n ∧ ¬ Conn (wo e es) x (sw e (mvs os x)) := by
  have nd : os.Nodup := pm.nodup_iff.mpr E.nodup
  have mem : ∀ f ∈ os, f ∈ es := fun f hf => pm.mem_iff.mp hf
  have he : e ∈ es := mem e (by rw [ho]; exact List.mem_append_right _ List.mem_cons_self)
  obtain ⟨g1, g2⟩ := gone E pm ho te hB
  have eA : e ∉ A := fun h => by
    rw [ho] at nd
    exact (List.nodup_append.mp nd).2.2 e h e List.mem_cons_self rfl
  have eB : e ∉ B := by
    rw [ho] at nd
    exact (List.nodup_cons.mp (List.nodup_append.mp nd).2.1).1
  obtain ⟨S, s1, s2⟩ := E.br e he
  have pn : p < n := by
    have := E.inn e he
    unfold Tch at te
    omega
  have hx : src A p < n := src_lt (fun f hf => by have := E.inn f (mem f (by rw [ho]; exact List.mem_append_left _ hf)); omega) pn
  have e1 : mvs os (src A p) = mvs B q := by
    rw [ho, mvs_app, mvs_src]
    show mvs B (sw e p) = _
    rw [te.sw]
  refine ⟨src A p, hx, fun h => ?_⟩
  rw [e1, sw_tch te g2 g1] at h
  have h1 := h S fun f hf => s2 f (wo_mem.mp hf).1 (wo_mem.mp hf).2
  have h2 : S (mvs B q) = S q := mvs_side fun f hf => s2 f (mem f (by rw [ho]; exact List.mem_append_right _ (List.mem_cons_of_mem _ hf))) fun z => eB (z ▸ hf)
  have h3 : S (mvs A (src A p)) = S (src A p) := mvs_side fun f hf => s2 f (mem f (by rw [ho]; exact List.mem_append_left _ hf)) fun z => eA (z ▸ hf)
  rw [mvs_src] at h3
  have h4 : S p = S q := h3.trans (h1.trans h2)
  rcases te with ⟨a, b⟩ | ⟨a, b⟩
  · exact s1 (by rw [a, b]; exact h4)
  · exact s1 (by rw [a, b]; exact h4.symm)
/-- last at both its ends: nothing follows it -/
theorem last_no {A B : List Pr} {e : Pr} {p q : Nat} (ho : os = A ++ e :: B) (te : Tch e p q) (hp : turnOf p B = []) (hq : turnOf q B = []) : ∀ f, (e, f) ∉ folN n fun p => turnOf p os := fun f h => by
  have nd : os.Nodup := pm.nodup_iff.mpr E.nodup
  obtain ⟨he, hf, ⟨A', B', C', hb⟩, r, a, b, _, _, _, ta, tb⟩ := fol_is E pm h
  have hB := split_one (A := A) (A' := A') (y := e) (R := B) (R' := B' ++ f :: C') (by rw [← ho]; exact nd) (by rw [← ho, ← hb])
  have fB : f ∈ B := by
    rw [hB]
    exact List.mem_append_right _ List.mem_cons_self
  have tb' : b ∈ turnOf r B := by
    refine List.mem_filterMap.mpr ⟨f, fB, ?_⟩
    have lf := (E.inn f hf).1
    rcases tb with ⟨h1, h2⟩ | ⟨h1, h2⟩
    · rw [if_pos h1, h2]
    · rw [if_neg (by omega), if_pos h1, h2]
  have rr : r = p ∨ r = q := by
    unfold Tch at te ta
    omega
  rcases rr with rfl | rfl
  · rw [hp] at tb'; cases tb'
  · rw [hq] at tb'; cases tb'
theorem turn_at {A B : List Pr} {e : Pr} {p q : Nat} (ho : os = A ++ e :: B) (te : Tch e p q) : turnOf p os = turnOf p A ++ q :: turnOf p B := by
  have he : e ∈ es := pm.mem_iff.mp (by rw [ho]; exact List.mem_append_right _ List.mem_cons_self)
  have lt := (E.inn e he).1
  rw [ho, turn_append, turn_cons]
  rcases te with ⟨h1, h2⟩ | ⟨h1, h2⟩
  · rw [if_pos h1, h2]; rfl
  · rw [if_neg (by omega), if_pos h1, h2]; rfl
/-- the last of a turn -/
theorem turn_last {A B : List Pr} {e : Pr} {p q : Nat} (ho : os = A ++ e :: B) (te : Tch e p q) : (turnOf p os).getLast? = some q ↔ turnOf p B = [] := by
  have nd := turn_nodup E pm p
  rw [turn_at E pm ho te] at nd ⊢
  constructor
  · intro h
    rcases List.eq_nil_or_concat (turnOf p B) with z | ⟨X, y, z⟩
    · exact z
    · rw [z, List.concat_eq_append] at h nd
      have e1 : turnOf p A ++ q :: (X ++ [y]) = (turnOf p A ++ q :: X) ++ [y] := by simp
      rw [e1, List.getLast?_concat] at h
      cases h
      exact absurd (List.mem_append_right X (List.mem_singleton.mpr rfl)) (List.nodup_cons.mp (List.nodup_append.mp nd).2.1).1
  · intro h
    rw [h, List.getLast?_concat]
end
/-! ### rings -/
theorem ch_sw {f g : Nat → Nat} {e : Pr} {p q : Nat} (te : Tch e p q) (hf : ∀ x, f x = sw e (g x)) : ∀ {l : List Nat} {x : Nat}, Ch g x l p → (∀ z ∈ l, z ≠ p ∧ z ≠ q) → Ch f x l q
  | [], x, h, _ => by
    show f x = q
    rw [hf, show g x = p from h, te.sw]
  | a :: l, x, h, hl => by
    obtain ⟨h1, h2⟩ := h
    refine ⟨?_, ch_sw te hf h2 fun z hz => hl z (List.mem_cons_of_mem _ hz)⟩
    rw [hf, h1, sw_tch te (hl a List.mem_cons_self).1 (hl a List.mem_cons_self).2]
theorem ch_one {f : Nat → Nat} {p : Nat} : ∀ {l m : List Nat} {x : Nat}, Ch f x l p → Ch f x m p → p ∉ l → p ∉ m → l = m
  | [], [], _, _, _, _, _ => rfl
  | [], b :: m, x, h, k, _, nm => absurd ((show f x = p from h).symm.trans k.1 ▸ List.mem_cons_self) nm
  | a :: l, [], x, h, k, nl, _ => absurd ((show f x = p from k).symm.trans h.1 ▸ List.mem_cons_self) nl
  | a :: l, b :: m, x, h, k, nl, nm => by
    have e : a = b := h.1.symm.trans k.1
    subst e
    rw [ch_one h.2 k.2 (fun z => nl (List.mem_cons_of_mem _ z)) (fun z => nm (List.mem_cons_of_mem _ z))]
/-- a ring falls in two -/
theorem ring_two {es os us : List Pr} {e : Pr} {p q : Nat} {l l1 l2 : List Nat} (te : Tch e p q) (ne : p ≠ q) (hf : ∀ x, mvs os x = sw e (mvs us x)) (r : RingAt os p l) (r1 : RingAt us p l1) (r2 : RingAt us q l2) (nc : ¬ Conn us p q) : p :: l = (p :: l1) ++ (q :: l2) := by
  have m1 : ∀ z ∈ l1, z ≠ p ∧ z ≠ q := fun z hz => ⟨fun h => (List.nodup_cons.mp r1.nd).1 (h ▸ hz), fun h => nc ((r1.all q).mp (h ▸ List.mem_cons_of_mem _ hz))⟩
  have m2 : ∀ z ∈ l2, z ≠ q ∧ z ≠ p := fun z hz => ⟨fun h => (List.nodup_cons.mp r2.nd).1 (h ▸ hz), fun h => nc fun S hS => (((r2.all p).mp (h ▸ List.mem_cons_of_mem _ hz)) S hS).symm⟩
  have tq : Tch e q p := by
    unfold Tch at te ⊢
    omega
  have c1 := ch_sw te hf r1.runs m1
  have c2 := ch_sw tq hf r2.runs m2
  have c := Ch.app.mpr ⟨c1, c2⟩
  have := ch_one r.runs c (List.nodup_cons.mp r.nd).1 fun h => by
    rcases List.mem_append.mp h with h | h
    · exact (m1 p h).1 rfl
    · rcases List.mem_cons.mp h with h | h
      · exact ne h
      · exact (m2 p h).2 rfl
  rw [this]
  rfl
end Os
namespace K10
open PySem PySem.Spec PyProof.Rows L2 Os Evl
abbrev sLR : Stmt := topS 45
theorem scLR : FnScope ["graph", "row", "circles", "sequence", "size", "pairs", "one", "two", "fewer", "parts", "mine", "other", "at", "to", "joined", "whole", "spot", "pair", "ring"] ["graph", "row", "circles", "sequence"] (defScope sLR) := ⟨rfl, rfl, rfl, by decide +kernel, rfl, by decide +kernel, by decide +kernel⟩
theorem eqv_nums : ∀ a b : List Nat, PyData.eqvAll (a.map fun x : Nat => PyData.int (x : Int)) (b.map fun x : Nat => PyData.int (x : Int)) = decide (a = b)
  | [], [] => rfl
  | [], _ :: _ => rfl
  | _ :: _, [] => rfl
  | x :: a, y :: b => by
    have ih := eqv_nums a b
    show (((x : Int) == (y : Int)) && PyData.eqvAll (a.map fun x : Nat => PyData.int (x : Int)) (b.map fun x : Nat => PyData.int (x : Int))) = _
    rw [ih]
    by_cases h : x = y
    · subst h
      simp
    · have h3 : ((x : Int) == (y : Int)) = false := beq_eq_false_iff_ne.mpr fun e => h (Int.ofNat.inj e)
      rw [h3, Bool.false_and, decide_eq_false fun z => h (List.cons.inj z).1]
theorem eqv_numD (a b : List Nat) : PyData.eqv (numD a) (numD b) = decide (a = b) := eqv_nums a b
theorem rgv_ls {H0 G : Hp} : ∀ {rs : List V} {cs : List (List Nat)}, RgV H0 G rs cs → LsV G rs cs
  | _, _, .nil => ⟨rfl, fun i x h => nomatch h⟩
  | _, _, .cons _ hb r => ⟨congrArg (· + 1) (rgv_ls r).1, fun i x hx => by
    cases i with
    | zero =>
      cases hx
      exact ⟨_, _, rfl, rfl, hb⟩
    | succ i => exact (rgv_ls r).2 i x hx⟩
theorem CyV.ls {H : Hp} {cc : Addr} {n : Nat} {f : List Nat} (h : CyV H cc n f) : ∃ xs, H cc = some (.lst xs) ∧ LsV H xs (cycles f n) := by
  obtain ⟨as, h1, h2, h3⟩ := h
  refine ⟨as.map V.ref, h1, by rw [List.length_map, h2], fun i x hx => ?_⟩
  rw [List.getElem?_map] at hx
  obtain ⟨c, hc, rfl⟩ := Option.map_eq_some_iff.mp hx
  obtain ⟨l, k1, k2⟩ := h3 i c hc
  exact ⟨l, c, k1, rfl, k2⟩
theorem cyc_has {f : List Nat} {n y : Nat} (p : IsPerm f n) (hy : y < n) : ∃ x, x < n ∧ lead f n x = true ∧ y ∈ ringOf f n x := by
  have hd := (ring_head p hy).2
  obtain ⟨m, hm, le⟩ := list_min (ringOf f n y) (fun z => by rw [z] at hd; cases hd)
  have mn := ring_lt p hy hm
  obtain ⟨U, V', e1, e2⟩ := ring_rot p hy hm
  refine ⟨m, mn, decide_eq_true fun z hz => le z ?_, ?_⟩
  · rw [e2] at hz
    rw [e1]
    exact (List.perm_append_comm.mem_iff).mp hz
  · rw [e2]
    rw [e1] at hd
    exact (List.perm_append_comm.mem_iff).mp hd
theorem first_ring {f : List Nat} {n y : Nat} (p : IsPerm f n) (hy : y < n) : ∃ x, x < n ∧ y ∈ ringOf f n x ∧ ((cycles f n).filter fun r => decide (y ∈ r))[0]? = some (ringOf f n x) := by
  obtain ⟨x, hx, lx, mx⟩ := cyc_has p hy
  have here : ringOf f n x ∈ (cycles f n).filter fun r => decide (y ∈ r) := List.mem_filter.mpr ⟨List.mem_map.mpr ⟨x, List.mem_filter.mpr ⟨List.mem_range.mpr hx, lx⟩, rfl⟩, decide_eq_true mx⟩
  cases h : (cycles f n).filter fun r => decide (y ∈ r) with
  | nil =>
    rw [h] at here
    cases here
  | cons r rs =>
    have mr : r ∈ (cycles f n).filter fun r => decide (y ∈ r) := by
      rw [h]
      exact List.mem_cons_self
    obtain ⟨m1, m2⟩ := List.mem_filter.mp mr
    obtain ⟨z, hz, rfl⟩ := List.mem_map.mp m1
    exact ⟨z, List.mem_range.mp (List.mem_filter.mp hz).1, of_decide_eq_true m2, rfl⟩
/-- the last edge joins two rings -/
theorem last_join {n : Nat} {es pre : List Pr} {e : Pr} {zs : List Str} (E : Edges n es) (pm : (pre ++ [e]).Perm es) (hl : zs.length = n) (nd : zs.Nodup) :
    pre.Perm (wo e es) ∧ ringOf (went zs (swps zs (pre ++ [e]))) n e.1 = ringOf (went zs (swps zs pre)) n e.1 ++ ringOf (went zs (swps zs pre)) n e.2 ∧ e.2 ∉ ringOf (went zs (swps zs pre)) n e.1 := by
  have me : e ∈ es := pm.mem_iff.mp (by simp)
  have inn := E.inn e me
  have nd' : (pre ++ [e]).Nodup := pm.nodup_iff.mpr E.nodup
  have ne : e ∉ pre := fun h => (List.nodup_append.mp nd').2.2 e h e (by simp) rfl
  have pp : pre.Perm (wo e es) := by
    have := wo_perm (e := e) pm
    rw [wo_app, wo_cons_eq] at this
    have w0 : wo e pre = pre := List.filter_eq_self.mpr fun f hf => decide_eq_true fun z => ne (z ▸ hf)
    rw [w0] at this
    exact (List.append_nil pre) ▸ this
  have E2 := wo_edges E e
  obtain ⟨l, r, el⟩ := ring_is E pm hl nd (x := e.1) (by omega)
  obtain ⟨l1, r1, el1⟩ := ring_is E2 pp hl nd (x := e.1) (by omega)
  obtain ⟨l2, r2, el2⟩ := ring_is E2 pp hl nd (x := e.2) (by omega)
  have nc := (order_ok E pm pre e [] rfl).2
  have two := ring_two (p := e.1) (q := e.2) (e := e) (us := pre) (es := es) (.inl ⟨rfl, rfl⟩) (by omega) (fun x => by
    rw [mvs_app]
    rfl) r r1 r2 nc
  refine ⟨pp, by rw [el, el1, el2]; exact two, fun h => nc ?_⟩
  rw [el1] at h
  exact (r1.all _).mp h
theorem cut_init {xs : List V} {m : Nat} (h : xs.length = m + 1) : cutV xs none (some (-1)) = xs.take m := by
  unfold cutV
  rw [HT.sIx_none, List.drop_zero, Nat.sub_zero]
  congr 1
  show (if (-1 : Int) < 0 then ((-1 : Int) + (xs.length : Int)).toNat else min (-1 : Int).toNat xs.length) = m
  rw [if_pos (by decide), h]
  omega
theorem atI_last {xs : List V} {m : Nat} {x : V} (h : xs.length = m + 1) (hx : xs[m]? = some x) : atI xs (-1) = some x := by
  unfold atI ixN
  rw [if_neg (by decide), if_pos (by omega)]
  show xs[((-1 : Int) + (xs.length : Int)).toNat]? = some x
  rw [h, show ((-1 : Int) + ((m + 1 : Nat) : Int)).toNat = m by omega]
  exact hx
/-- a value that is a list of numbers -/
def EvR (te : TE) (σ : L2.St) (H : Hp) (l : List Nat) : Prop := ∀ H1, Ex H H1 → ∀ Q : VK, (∀ c H2, Ex H1 H2 → H2 c = some (.lst (natV l)) → Q (.ref c) H2) → te σ H1 Q
section
variable {K : PySem.W.Frag} {σ : L2.St} {H : Hp} {D : Ends} {te ta tb tl : TE} {t : TT} {tz : TS} {a : Addr} {i j : Nat}
theorem evr_first {L : List (List Nat)} {l : List Nat} (h : EvLs te σ H L) (hl : L[0]? = some l) : EvR (tOp (rIxL K) te (tC (.int 0))) σ H l := fun H1 e Q q =>
  h H1 e _ fun p xs H2 e2 h2 pp => by
    obtain ⟨c, h3, h4⟩ := pp.get hl
    exact (rv_ixL (K := K) (sq_of h2) (atI_nat (j := 0) h3)) H2 (Ex.refl _) _ fun H3 e3 => q c H3 (e2.trans e3) (e3 _ _ h4)
theorem q_parR {l1 l2 : List Nat} (ha : EvR ta σ H l1) (hb : EvR tb σ H l2) (k : ∀ c d H1, Ex H H1 → H1 c = some (.lst (natV l1)) → H1 d = some (.lst (natV l2)) → tz D ((σ.set i (some (.ref c))).set j (some (.ref d))) H1) : tSeq (tPar i j (tCons ta (tCons tb tNil))) tz D σ H :=
  ha H (Ex.refl H) _ fun c H1 e1 h1 => hb H1 e1 _ fun d H2 e2 h2 => ⟨.ref c, .ref d, rfl, k c d H2 (e1.trans e2) (e2 _ _ h1) h2⟩
theorem q_asgR {l : List Nat} (h : EvR te σ H l) (k : ∀ c H1, Ex H H1 → H1 c = some (.lst (natV l)) → tz D (σ.set i (some (.ref c))) H1) : tSeq (tAsg te (gName i)) tz D σ H := h H (Ex.refl H) _ fun c H2 e2 h2 => k c H2 e2 h2
theorem ev_neDD' {d d' : PyData} {n m : Nat} (ha : EvDt ta σ H d) (hb : EvDt tb σ H d') (s : Sh n d) (s' : Sh m d') (hn : n ≤ 64) (hm : m ≤ 64) : Ev (tOp (rNeD K) ta tb) σ H (.bl (!PyData.eqv d d')) := fun H1 e1 Q q =>
  ha H1 e1 _ fun x H2 e2 hx => hb H2 (e1.trans e2) _ fun y H3 e3 hy => ⟨d, d', (hx.same (same_ex e3)).dp, hy.dp, s.shaped hn, s'.shaped hm, q H3 (e2.trans e3)⟩
theorem ev_minus1 : Ev (tUn (rU fun i => .int (-i)) (tC (.int 1))) σ H (.int (-1)) := fun H1 e1 Q q => ⟨1, rfl, q H1 (Ex.refl H1)⟩
theorem q_asgGr {n : Nat} {es : List Pr} (hv : Ev ta σ H (.int (n : Int))) (h : EvP te σ H es) (k : ∀ g H1, Ex H H1 → GraphV H1 (.ref g) n es → tz D (σ.set i (some (.ref g))) H1) : tSeq (tAsg (tTup (tCons ta (tCons te tNil))) (gName i)) tz D σ H :=
  hv H (Ex.refl H) _ fun H1 e1 => h H1 e1 _ fun p xs H2 hp e2 h2 px => ⟨show 2 ≤ sizeLine by decide, fun g hg => by
    have en := Ex.new (o := .tup [.int (n : Int), .ref p]) hg
    exact k g _ ((e1.trans e2).trans en) ⟨g, p, xs, rfl, upd_same, en _ _ h2, px.ex en⟩⟩
theorem has_ring {L : List (List Nat)} {x y : Nat} {vs : List Nat} {jx : Nat} {r : List Nat} (h : EvLs tl σ H L) (few : L.length ≤ 40000) (hw : ∀ x, wipe ((wipe σ vs).set j (some x)) vs = wipe σ vs) (hj : ∀ x, ((wipe σ vs).set j (some x))[j]? = some (some x)) (hx : ∀ z, ((wipe σ vs).set j (some z))[jx]? = some (some (.int (y : Int))))
    (hf : (L.filter fun r => decide (y ∈ r))[0]? = some r) : EvR (tOp (rIxL K) (tLc (iList K tl) (gName j) (tTest (tOp (rIn K false) (tVar jx) (tVar j))) (tVar j) vs) (tC (.int 0))) σ H r := by
  refine evr_first (L := (L.filter fun r => decide (y ∈ r)).map id) (els_lc (K := K) (fun r => decide (y ∈ r)) id h few hw (fun l c H1 e1 hc hl => et_test (ev_inN (ev_var (hx _)) (ev_var (hj _)) (.inl (sq_of hc)))) fun l c H1 e1 hc hl _ => Ev.w (ev_var (hj _)) hc) (by rw [List.map_id]; exact hf)
end
section
variable {P : Program} {w : World} {K : PySem.W.Frag} {mg : Str → Option Value} {base : Heap}
def spLR : Sp := fun vs H Q _ => ∃ (v i : V) (cc sq : Addr) (n : Nat) (es os : List Pr) (zs : List Str), vs = [v, i, .ref cc, .ref sq] ∧ GraphV H v n es ∧ IsForest n es ∧ ArrV H i zs ∧ ArrOk zs n ∧ os.Perm es ∧ os ≠ [] ∧ CyV H cc n (went zs (swps zs os)) ∧ OrdV H (.ref sq) os ∧ ∀ H', Ex H H' → Q (.bl true) H'
theorem ok_lr {f fAO fRG : Addr} {fd fdAO fdRG : FuncData} {k : Nat} (F : Fun K "_law_last_right" "_law_last_right" sLR f fd)
    (GAO : FnOk P w K mg base CX0 k fAO fdAO ["forest", "items", "order"] spApply) (FAO : Fun K "apply_order" "apply_order" sApply fAO fdAO) (bAO : Binds K fdAO ["forest", "items", "order"] []) (gAO : mg "apply_order" = some (.ref fAO))
    (GRG : FnOk P w K mg base CX0 k fRG fdRG ["forest", "before", "after"] spRings) (FRG : Fun K "rings" "rings" sRings fRG fdRG) (bRG : Binds K fdRG ["forest", "before", "after"] []) (gRG : mg "rings" = some (.ref fRG)) : FnOk P w K mg base CX0 (k + 1) f fd ["graph", "row", "circles", "sequence"] spLR := by
  refine F.ok scLR (fun vs H Q E h => ?_) (fun cdv A outer s H vs Q E hr h => ?_)
  · obtain ⟨v, i, cc, sq, n, es, os, zs, rfl, _⟩ := h
    rfl
  · obtain ⟨v, i, cc, sq, n, es, os, zs, rfl, hg, ok, ha, az, pm, ne, hc, ho, q⟩ := h
    refine ⟨_, (pss_cons (ps_asg (pv 0) (pg_tup rfl (pgs_cons (pg_name (i := 4) scLR.nd rfl (Or.inl rfl)) (pgs_cons (pg_name (i := 5) scLR.nd rfl (Or.inl rfl)) pgs_nil))))
      (pss_cons (ps_asg (pe_ix ix_list (pv 3) (pe_un un_neg pe_int) (fun _ _ => rfl)) (pg_tup rfl (pgs_cons (pg_name (i := 6) scLR.nd rfl (Or.inr rfl)) (pgs_cons (pg_name (i := 7) scLR.nd rfl (Or.inr rfl)) pgs_nil))))
      (pss_cons (ps_set (i := 8) scLR.nd rfl (.inl rfl) (pe_tup (pa_cons (pv 4) (pa_cons (pe_lc (own := [("pair", 17)]) (g := gName 17) (tt := tTest (tOp (rNeD K) (tVar 17) (tOp (rIxL K) (tVar 3) (tUn (rU fun i => .int (-i)) (tC (.int 1)))))) (te := tVar 17) rfl scLR.nd (pi_list (pv 5)) (blkOk_by (N := ["graph", "row", "circles", "sequence", "size", "pairs", "one", "two", "fewer", "parts", "mine", "other", "at", "to", "joined", "whole", "spot", "pair", "ring"]) (sc := defScope sLR) (by decide +kernel)) (fun _ _ _ _ _ => pg_name (i := 17) scLR.nd rfl (Or.inl rfl)) (fun _ _ _ _ _ => pts_one (pt_cmpR (op_neD hr.units) (pv 17) (pe_ix ix_list (pv 3) (pe_un un_neg pe_int) (fun _ _ => rfl)) (nomark _))) (fun _ _ _ _ _ => (pv 17))) pa_nil))))
      (pss_cons (ps_set (i := 9) scLR.nd rfl (.inl rfl) (pe_call GRG hr (by rfl) gRG FRG.kp bRG .nil pass0 (pa_cons (pv 8) (pa_cons (pv 1) (pa_cons (pe_call GAO hr (by rfl) gAO FAO.kp bAO .nil pass0 (pa_cons (pv 8) (pa_cons (pv 1) (pa_cons (pe_slice sl_list (pv 3) po_none (po_some (pe_un un_neg pe_int))) pa_nil)))) pa_nil)))))
      (pss_cons (ps_par (i := 10) (j := 11) rfl scLR.nd rfl rfl (by decide) rfl rfl (pa_cons (pe_ix ix_list (pe_lc (own := [("ring", 18)]) (g := gName 18) (tt := tTest (tOp (rIn K false) (tVar 6) (tVar 18))) (te := tVar 18) rfl scLR.nd (pi_list (pv 9)) (blkOk_by (N := ["graph", "row", "circles", "sequence", "size", "pairs", "one", "two", "fewer", "parts", "mine", "other", "at", "to", "joined", "whole", "spot", "pair", "ring"]) (sc := defScope sLR) (by decide +kernel)) (fun _ _ _ _ _ => pg_name (i := 18) scLR.nd rfl (Or.inl rfl)) (fun _ _ _ _ _ => pts_one (pt_cmpR op_in_seq (pv 6) (pv 18) (by rfl))) (fun _ _ _ _ _ => (pv 18))) pe_int (fun _ _ => rfl)) (pa_cons (pe_ix ix_list (pe_lc (own := [("ring", 18)]) (g := gName 18) (tt := tTest (tOp (rIn K false) (tVar 7) (tVar 18))) (te := tVar 18) rfl scLR.nd (pi_list (pv 9)) (blkOk_by (N := ["graph", "row", "circles", "sequence", "size", "pairs", "one", "two", "fewer", "parts", "mine", "other", "at", "to", "joined", "whole", "spot", "pair", "ring"]) (sc := defScope sLR) (by decide +kernel)) (fun _ _ _ _ _ => pg_name (i := 18) scLR.nd rfl (Or.inl rfl)) (fun _ _ _ _ _ => pts_one (pt_cmpR op_in_seq (pv 7) (pv 18) (by rfl))) (fun _ _ _ _ _ => (pv 18))) pe_int (fun _ _ => rfl)) pa_nil)) (by rfl))
      (pss_cons (ps_par (i := 12) (j := 13) rfl scLR.nd rfl rfl (by decide) rfl rfl (pa_cons (pe_bm PySem.F.plainAttrs_list PySem.F.slot_list_index PySem.F.type_list_index mt_index (pv 10) (pa_cons (pv 6) pa_nil)) (pa_cons (pe_bm PySem.F.plainAttrs_list PySem.F.slot_list_index PySem.F.type_list_index mt_index (pv 11) (pa_cons (pv 7) pa_nil)) pa_nil)) (by rfl))
      (pss_cons (ps_set (i := 14) scLR.nd rfl (.inl rfl) (pe_op op_cat (pe_op op_cat (pe_op op_cat (pe_slice sl_list (pv 10) (po_some (pv 12)) po_none) (pe_slice sl_list (pv 10) po_none (po_some (pv 12)))) (pe_slice sl_list (pv 11) (po_some (pv 13)) po_none)) (pe_slice sl_list (pv 11) po_none (po_some (pv 13)))))
      (pss_cons (ps_set (i := 15) scLR.nd rfl (.inl rfl) (pe_ix ix_list (pe_lc (own := [("ring", 18)]) (g := gName 18) (tt := tTest (tOp (rIn K false) (tVar 6) (tVar 18))) (te := tVar 18) rfl scLR.nd (pi_list (pv 2)) (blkOk_by (N := ["graph", "row", "circles", "sequence", "size", "pairs", "one", "two", "fewer", "parts", "mine", "other", "at", "to", "joined", "whole", "spot", "pair", "ring"]) (sc := defScope sLR) (by decide +kernel)) (fun _ _ _ _ _ => pg_name (i := 18) scLR.nd rfl (Or.inl rfl)) (fun _ _ _ _ _ => pts_one (pt_cmpR op_in_seq (pv 6) (pv 18) (by rfl))) (fun _ _ _ _ _ => (pv 18))) pe_int (fun _ _ => rfl)))
      (pss_cons (ps_set (i := 16) scLR.nd rfl (.inl rfl) (pe_bm PySem.F.plainAttrs_list PySem.F.slot_list_index PySem.F.type_list_index mt_index (pv 15) (pa_cons (pv 6) pa_nil)))
      (pss_one (ps_ret (pe_and (pe_cmpR (op_neD hr.units) (pv 10) (pv 11) (nomark _)) (pe_one (pe_cmpR (op_eqD hr.units) (pe_op op_cat (pe_slice sl_list (pv 15) (po_some (pv 16)) po_none) (pe_slice sl_list (pv 15) po_none (po_some (pv 16)))) (pv 14) (nomark _))))))))))))))), ?_⟩
    obtain ⟨g, a, xs, rfl, hg1, ha1, px⟩ := hg
    obtain ⟨sq', ys, z, hsq, po⟩ := ho
    cases z
    have E' := ok.edges
    have n40 := ok.n40
    have nd := az.nd
    have hl := az.len
    obtain ⟨pre, e, rfl⟩ : ∃ pre e, os = pre ++ [e] := ⟨os.dropLast, os.getLast ne, (List.dropLast_concat_getLast ne).symm⟩
    obtain ⟨pp, join, out⟩ := last_join E' pm hl nd
    have me : e ∈ es := pm.mem_iff.mp (by simp)
    have inn := E'.inn e me
    have ok2 : IsForest n (wo e es) := ⟨wo_edges E' e, ok.n1, ok.n40, Nat.le_trans (List.length_filter_le _ _) ok.few⟩
    have pl : (pre ++ [e]).length = pre.length + 1 := by simp
    have yl : ys.length = pre.length + 1 := by rw [po.length, pl]
    have few : pre.length + 1 ≤ 60 := by
      rw [← pl, pm.length_eq]
      exact ok.few
    obtain ⟨y0, hy0, t, rfl, ht⟩ := po.get' (i := pre.length) (e := e) (by simp)
    have P1 := went_perm (came_perm E' pm hl) nd hl
    have P2 := went_perm (came_perm ok2.edges pp hl) nd hl
    have cp2 := came_perm ok2.edges pp hl
    generalize hfw : went zs (swps zs (pre ++ [e])) = fw at *
    generalize hfv : went zs (swps zs pre) = fv at *
    obtain ⟨x0, xn0, mx0, fx0⟩ := first_ring P1 (y := e.1) (by omega)
    obtain ⟨x1, xn1, mx1, fx1⟩ := first_ring P2 (y := e.1) (by omega)
    obtain ⟨x2, xn2, mx2, fx2⟩ := first_ring P2 (y := e.2) (by omega)
    have rt0 := rot_at P1 xn0 mx0
    have rt1 := rot_at P2 xn1 mx1
    have rt2 := rot_at P2 xn2 mx2
    have len0 := ring_len P1 xn0
    have len1 := ring_len P2 xn1
    have len2 := ring_len P2 xn2
    have ne12 : ringOf fv n x1 ≠ ringOf fv n x2 := fun z => by
      obtain ⟨U, V', e1, e2⟩ := ring_rot P2 xn1 mx1
      refine out ?_
      rw [e2]
      rw [← z, e1] at mx2
      exact (List.perm_append_comm.mem_iff).mp mx2
    obtain ⟨cs, hcc, cls⟩ := hc.ls
    have cl : ∀ f : List Nat, (cycles f n).length ≤ n := fun f => by
      unfold cycles
      rw [List.length_map]
      have := List.length_filter_le (lead f n) (List.range n)
      rwa [List.length_range] at this
    refine q_asgG ⟨_, rfl, g, [.int (n : Int), .ref a], rfl, st_of hg1, rfl, _, [.ref a], rfl, _, [], rfl, rfl, ?_⟩
    have elast : ∀ (σ : L2.St) (G : Hp), Ex H G → σ[3]? = some (some (.ref sq)) → Ev (tOp (rIxL K) (tVar 3) (tUn (rU fun i => .int (-i)) (tC (.int 1)))) σ G (.ref t) := fun σ G eg hv => ev_op (ev_var hv) ev_minus1 (rv_ixL (sq_of (eg _ _ hsq)) (atI_last yl hy0))
    refine q_asgG (elast _ _ (Ex.refl _) rfl H (Ex.refl _) _ fun H1 e1 => ⟨t, [.int (e.1 : Int), .int (e.2 : Int)], rfl, st_of (e1 _ _ ht), rfl, _, [.int (e.2 : Int)], rfl, _, [], rfl, rfl, ?_⟩)
    show tSeq _ _ _ ([some (.ref g), some i, some (.ref cc), some (.ref sq), some (.int (n : Int)), some (.ref a), some (.int (e.1 : Int)), some (.int (e.2 : Int)), none, none, none, none, none, none, none, none, none, none, none] : L2.St) H1
    refine q_asgGr (n := n) (es := wo e es) (ev_var rfl) (evp_filter (K := K) (j := 17) (vs := [17]) (tt := tTest (tOp (rNeD K) (tVar 17) (tOp (rIxL K) (tVar 3) (tUn (rU fun i => .int (-i)) (tC (.int 1)))))) (fun f => decide (f ≠ e)) (ev_var rfl) (e1 _ _ ha1) (px.ex e1) (by have := ok.few; omega) (fun _ => rfl) (fun _ => rfl)
      (fun f v G f7 _ pv => et_test (ev_is (ev_op (ev_var rfl) (elast _ G (e1.trans f7) rfl) (neD_pr pv ⟨t, rfl, (e1.trans f7) _ _ ht⟩)) (congrArg V.bl (by by_cases h : f = e <;> simp [h]))))) fun d8 H2 e2 g2 => ?_
    have X2 := e1.trans e2
    show tSeq _ _ _ ([some (.ref g), some i, some (.ref cc), some (.ref sq), some (.int (n : Int)), some (.ref a), some (.int (e.1 : Int)), some (.int (e.2 : Int)), some (.ref d8), none, none, none, none, none, none, none, none, none, none] : L2.St) H2
    refine q_asgLs (L := cycles fv n) (fun H3 e3 Q q => ⟨.ref d8, rfl, i, rfl, .ref d8, rfl, i, rfl, evp_sl (K := K) (es := []) (lo := none) (hi := some (-1)) (fs := pre) (a := sq) (xs := ys) (ev_var rfl) eo_none (eo_some ev_minus1) (X2 _ _ hsq) (by
        rw [cut_init yl]
        have := (po.ex X2).take pre.length
        rwa [List.take_left] at this) H3 e3 _ fun p5 xs5 H5 hp5 e5 h5 px5 => ⟨.ref d8, i, .ref p5, n, wo e es, pre, zs, rfl, (g2.ex e3).ex e5, ok2, ha.ex ((X2.trans e3).trans e5), az, ⟨p5, xs5, rfl, h5, px5⟩, pp, fun H6 r6 e6 hr6 h6 => ⟨.ref d8, i, .ref r6, n, wo e es, zs, swps zs pre, rfl, ((g2.ex e3).ex e5).ex e6, ok2, ha.ex (((X2.trans e3).trans e5).trans e6), ⟨r6, rfl, h6⟩, az, cp2, fun H7 p7 rs e7 hp7 h7 rg => q p7 rs H7 ((e5.trans e6).trans e7) h7 (by rw [hfv] at rg; exact rgv_ls rg)⟩⟩⟩) fun d9 ps H3 e3 h9 p9 => ?_
    have X3 := X2.trans e3
    show tSeq _ _ _ ([some (.ref g), some i, some (.ref cc), some (.ref sq), some (.int (n : Int)), some (.ref a), some (.int (e.1 : Int)), some (.int (e.2 : Int)), some (.ref d8), some (.ref d9), none, none, none, none, none, none, none, none, none] : L2.St) H3
    have clv := cl fv
    have clw := cl fw
    refine q_parR (has_ring (K := K) (x := 0) (j := 18) (jx := 6) (vs := [18]) (y := e.1) (els_of (ev_var rfl) h9 p9) (by omega) (fun _ => rfl) (fun _ => rfl) (fun _ => rfl) fx1) (has_ring (K := K) (x := 0) (j := 18) (jx := 7) (vs := [18]) (y := e.2) (els_of (ev_var rfl) h9 p9) (by omega) (fun _ => rfl) (fun _ => rfl) (fun _ => rfl) fx2) fun d10 d11 H4 e4 h10 h11 => ?_
    have X4 := X3.trans e4
    show tSeq _ _ _ ([some (.ref g), some i, some (.ref cc), some (.ref sq), some (.int (n : Int)), some (.ref a), some (.int (e.1 : Int)), some (.int (e.2 : Int)), some (.ref d8), some (.ref d9), some (.ref d10), some (.ref d11), none, none, none, none, none, none, none] : L2.St) H4
    refine q_par (x := .int (((ringOf fv n x1).idxOf e.1 : Nat) : Int)) (y := .int (((ringOf fv n x2).idxOf e.2 : Nat) : Int)) (ev_indexN (ev_var rfl) h10 (ev_var rfl) mx1) (ev_indexN (ev_var rfl) h11 (ev_var rfl) mx2) fun H5 e5 => ?_
    have X5 := X4.trans e5
    show tSeq _ _ _ ([some (.ref g), some i, some (.ref cc), some (.ref sq), some (.int (n : Int)), some (.ref a), some (.int (e.1 : Int)), some (.int (e.2 : Int)), some (.ref d8), some (.ref d9), some (.ref d10), some (.ref d11), some (.int (((ringOf fv n x1).idxOf e.1 : Nat) : Int)), some (.int (((ringOf fv n x2).idxOf e.2 : Nat) : Int)), none, none, none, none, none] : L2.St) H5
    refine q_asgL (el_cat (el_cat (el_cat (el_from (K := K) (ev_var rfl) (eo_some (ev_var rfl)) eo_none (e5 _ _ h10)) (el_to (K := K) (ev_var rfl) (eo_some (ev_var rfl)) eo_none (e5 _ _ h10)) ?_) (el_from (K := K) (ev_var rfl) (eo_some (ev_var rfl)) eo_none (e5 _ _ h11)) ?_) (el_to (K := K) (ev_var rfl) (eo_some (ev_var rfl)) eo_none (e5 _ _ h11)) ?_) fun d14 H6 hd14 e6 h14 => ?_
    · simp only [List.length_append, List.length_map, List.length_drop, List.length_take]
      omega
    · simp only [List.length_append, List.length_map, List.length_drop, List.length_take]
      omega
    · simp only [List.length_append, List.length_map, List.length_drop, List.length_take]
      omega
    have X6 := X5.trans e6
    show tSeq _ _ _ ([some (.ref g), some i, some (.ref cc), some (.ref sq), some (.int (n : Int)), some (.ref a), some (.int (e.1 : Int)), some (.int (e.2 : Int)), some (.ref d8), some (.ref d9), some (.ref d10), some (.ref d11), some (.int (((ringOf fv n x1).idxOf e.1 : Nat) : Int)), some (.int (((ringOf fv n x2).idxOf e.2 : Nat) : Int)), some (.ref d14), none, none, none, none] : L2.St) H6
    have joined : natV ((ringOf fv n x1).drop ((ringOf fv n x1).idxOf e.1)) ++ natV ((ringOf fv n x1).take ((ringOf fv n x1).idxOf e.1)) ++ natV ((ringOf fv n x2).drop ((ringOf fv n x2).idxOf e.2)) ++ natV ((ringOf fv n x2).take ((ringOf fv n x2).idxOf e.2)) = natV (ringOf fw n e.1) := by
      rw [← List.map_append, ← List.map_append, ← List.map_append, join, List.append_assoc, rt1, rt2]
    rw [joined] at h14
    refine q_asgR (has_ring (K := K) (x := 0) (j := 18) (jx := 6) (vs := [18]) (y := e.1) (els_of (ev_var rfl) (X6 _ _ hcc) (cls.ex X6)) (by omega) (fun _ => rfl) (fun _ => rfl) (fun _ => rfl) fx0) fun d15 H7 e7 h15 => ?_
    have X7 := X6.trans e7
    show tSeq _ _ _ ([some (.ref g), some i, some (.ref cc), some (.ref sq), some (.int (n : Int)), some (.ref a), some (.int (e.1 : Int)), some (.int (e.2 : Int)), some (.ref d8), some (.ref d9), some (.ref d10), some (.ref d11), some (.int (((ringOf fv n x1).idxOf e.1 : Nat) : Int)), some (.int (((ringOf fv n x2).idxOf e.2 : Nat) : Int)), some (.ref d14), some (.ref d15), none, none, none] : L2.St) H7
    refine q_asg (v := .int (((ringOf fw n x0).idxOf e.1 : Nat) : Int)) (ev_indexN (ev_var rfl) h15 (ev_var rfl) mx0) fun H8 e8 => ?_
    have X8 := X7.trans e8
    have f58 := (e6.trans e7).trans e8
    have c1 := el_cat (el_from (K := K) (te := tVar 15) (tl2 := tPart (tVar 16)) (th := tNoPart) (σ := [some (.ref g), some i, some (.ref cc), some (.ref sq), some (.int (n : Int)), some (.ref a), some (.int (e.1 : Int)), some (.int (e.2 : Int)), some (.ref d8), some (.ref d9), some (.ref d10), some (.ref d11), some (.int (((ringOf fv n x1).idxOf e.1 : Nat) : Int)), some (.int (((ringOf fv n x2).idxOf e.2 : Nat) : Int)), some (.ref d14), some (.ref d15), some (.int (((ringOf fw n x0).idxOf e.1 : Nat) : Int)), none, none]) (ev_var rfl) (eo_some (ev_var rfl)) eo_none (e8 _ _ h15)) (el_to (K := K) (te := tVar 15) (tlo2 := tPart (tVar 16)) (tlo := tNoPart) (ev_var rfl) (eo_some (ev_var rfl)) eo_none (e8 _ _ h15)) (by
      simp only [List.length_append, List.length_map, List.length_drop, List.length_take]
      omega)
    rw [← List.map_append, rt0] at c1
    refine s_ret (v := .bl true) (ev_is (ev_andV (a := true) (b := true) (ev_is (ev_neDD' (dt_ev (ev_var rfl) (.lst ((e5.trans f58) _ _ h10) (dts_nat _))) (dt_ev (ev_var rfl) (.lst ((e5.trans f58) _ _ h11) (dts_nat _))) (sh_nat _) (sh_nat _) (by decide) (by decide)) (congrArg V.bl (by
      show (!PyData.eqv (numD _) (numD _)) = true
      rw [eqv_numD, decide_eq_false ne12]
      rfl))) fun _ => ev_eqDt (dt_evl c1 (dts_nat _)) (dt_ev (ev_var rfl) (.lst ((e7.trans e8) _ _ h14) (dts_nat _))) (sh_nat _) (by decide)) rfl) fun H9 e9 => q H9 (X8.trans e9)
end
end K10
namespace K10
open PySem PySem.Spec PyProof.Rows L2 Os Evl
abbrev sRT : Stmt := topS 46
theorem scRT : FnScope ["source", "graph", "row", "sequence", "result", "circles", "ring"] ["source", "graph"] (defScope sRT) := ⟨rfl, rfl, rfl, by decide +kernel, rfl, by decide +kernel, by decide +kernel⟩
abbrev sLaw : Stmt := topS 47
theorem scLaw : FnScope ["script", "k", "source", "turn"] ["script"] (defScope sLaw) := ⟨rfl, rfl, rfl, by decide +kernel, rfl, by decide +kernel, by decide +kernel⟩
theorem rgv_cy {H0 G : Hp} {p : Addr} {n : Nat} {f : List Nat} {rs : List V} (hp : G p = some (.lst rs)) (rg : RgV H0 G rs (cycles f n)) : CyV G p n f := by
  have refs : ∀ {rs : List V} {cs : List (List Nat)}, RgV H0 G rs cs → ∃ as : List Addr, rs = as.map V.ref ∧ as.length = cs.length ∧ ∀ (j : Nat) (c : Addr), as[j]? = some c → ∃ l, cs[j]? = some l ∧ G c = some (.lst (nats l)) := by
    intro rs cs h
    induction h with
    | nil => exact ⟨[], rfl, rfl, fun j c h => nomatch h⟩
    | cons _ hb _ ih =>
      obtain ⟨as, rfl, al, hh⟩ := ih
      exact ⟨_ :: as, rfl, congrArg (· + 1) al, fun j c hj => by
        cases j with
        | zero =>
          cases hj
          exact ⟨_, rfl, hb⟩
        | succ j => exact hh j c hj⟩
  obtain ⟨as, rfl, al, hh⟩ := refs rg
  exact ⟨as, hp, al, hh⟩
theorem hd_lt {a b : List Nat} {x y : Nat} (ha : a[0]? = some x) (hb : b[0]? = some y) (h : x < y) : HdLt a b := by
  cases a with
  | nil => cases ha
  | cons x' r =>
    cases b with
    | nil => cases hb
    | cons y' s =>
      cases ha
      cases hb
      exact ⟨x, y, r, s, rfl, rfl, h⟩
/-- the positions of a tree -/
noncomputable def treeOf (n : Nat) (es : List Pr) (i : Nat) : List Nat := (List.range n).filter fun x => @decide (Conn es i x) (Classical.propDecidable _)
theorem tree_mem {n : Nat} {es : List Pr} (E : Edges n es) {i : Nat} (hi : i < n) (x : Nat) : x ∈ treeOf n es i ↔ Conn es i x := by
  unfold treeOf
  rw [List.mem_filter]
  constructor
  · rintro ⟨_, h⟩
    exact @of_decide_eq_true _ (Classical.propDecidable _) h
  · intro h
    refine ⟨List.mem_range.mpr ?_, @decide_eq_true _ (Classical.propDecidable _) h⟩
    have := h (fun z => decide (z < n)) fun e he => by
      have := E.inn e he
      exact (decide_eq_true (by omega)).trans (decide_eq_true this.2).symm
    rw [decide_eq_true hi] at this
    exact of_decide_eq_true this.symm
theorem tree_asc (n : Nat) (es : List Pr) (i : Nat) : (treeOf n es i).Pairwise (· < ·) := List.Pairwise.filter _ List.pairwise_lt_range
theorem asc_ext {a b : List Nat} (ha : a.Pairwise (· < ·)) (hb : b.Pairwise (· < ·)) (h : ∀ x, x ∈ a ↔ x ∈ b) : a = b :=
  List.Perm.eq_of_pairwise (le := (· < ·)) (fun a b _ _ h1 h2 => absurd h1 (by omega)) ha hb ((List.perm_ext_iff_of_nodup (ha.imp fun h => by omega) (hb.imp fun h => by omega)).mpr h)
theorem tree_is {n : Nat} {es : List Pr} {tr : Nat → List Nat} (E : Edges n es) (tf : TreesF n es tr) {i : Nat} (hi : i < n) : tr i = treeOf n es i := asc_ext (tf i hi).1 (tree_asc n es i) fun x => ((tf i hi).2 x).trans (tree_mem E hi x).symm
theorem tree_head {n : Nat} {es os : List Pr} {zs : List Str} (E : Edges n es) (pm : os.Perm es) (hl : zs.length = n) (nd : zs.Nodup) {i : Nat} (hi : i < n) : lead (went zs (swps zs os)) n i = true ↔ (treeOf n es i)[0]? = some i := by
  have self : i ∈ treeOf n es i := (tree_mem E hi i).mpr (Conn.refl es i)
  have asc := tree_asc n es i
  rw [lead_iff E pm hl nd hi]
  constructor
  · intro h
    cases ht : treeOf n es i with
    | nil =>
      rw [ht] at self
      cases self
    | cons a r =>
      have ca := (tree_mem E hi a).mp (by rw [ht]; exact List.mem_cons_self)
      have le := h a ca
      rw [ht] at self asc
      rcases List.mem_cons.mp self with rfl | m
      · rfl
      · have := (List.pairwise_cons.mp asc).1 i m
        omega
  · intro h y hy
    have my := (tree_mem E hi y).mpr hy
    cases ht : treeOf n es i with
    | nil =>
      rw [ht] at self
      cases self
    | cons a r =>
      rw [ht] at h my asc
      cases h
      rcases List.mem_cons.mp my with rfl | m
      · exact Nat.le_refl _
      · exact Nat.le_of_lt ((List.pairwise_cons.mp asc).1 y m)
theorem trs_dts {H : Hp} {tr : Nat → List Nat} : ∀ {bs : List Addr} {L : List Nat}, TrsV H bs tr L → Dts H (bs.map V.ref) (L.map fun i => numD (tr i))
  | [], [], _ => .nil
  | [], _ :: _, h => nomatch h.1
  | _ :: _, [], h => nomatch h.1
  | b :: bs, i :: L, h => by
    obtain ⟨i', h1, h2⟩ := h.2 0 b rfl
    cases h1
    exact .cons (.lst h2 (dts_nat _)) (trs_dts ⟨Nat.succ.inj h.1, fun j c hc => h.2 (j + 1) c hc⟩)
theorem conn_step {es : List Pr} {e : Pr} {x : Nat} (he : e ∈ es) (h : Conn es x e.1) : Conn es x e.2 := fun S hS => (h S hS).trans (hS e he)
section
variable {K : PySem.W.Frag} {σ : L2.St} {H : Hp} {te : TE} {t1 t2 : TT}
theorem et_or0 (h1 : EvT t1 σ H false) (h2 : EvT t2 σ H false) : EvT (tOr t1 t2) σ H false := fun H1 e1 Q q => h1 H1 e1 _ fun H2 e2 => by
  show t2 σ H2 Q
  exact h2 H2 (e1.trans e2) Q fun H3 e3 => q H3 (e2.trans e3)
theorem dt_nil0 : EvDt (tLst tNil) σ H (.list []) := fun H1 e Q q => ⟨Nat.zero_le _, fun p hp => q _ _ (Ex.new hp) (.lst upd_same .nil)⟩
theorem el_sortV {a : Addr} {l S : List Nat} (h : Ev te σ H (.ref a)) (ha : H a = some (.lst (nats l))) (pS : S.Perm l) (aS : S.Pairwise (· < ·)) : EvL (tCB (rSortedI K) (tCons te tNil)) σ H (nats S) := fun H1 e Q q =>
  h H1 e _ fun H2 e2 => ⟨a, l.map (fun x : Nat => (x : Int)), rfl, by rw [nats_ints]; exact sq_of ((e.trans e2) _ _ ha), fun ns b pm pw hb => by
    have same : ns = S.map (fun x : Nat => (x : Int)) := List.Perm.eq_of_pairwise (le := (· ≤ ·)) (fun a b _ _ x y => by omega) pw (List.pairwise_map.mpr (aS.imp fun {x y} h => by show (x : Int) ≤ (y : Int); omega)) (pm.trans (pS.symm.map _))
    subst same
    rw [nats_ints]
    exact q b _ (fresh_back e2 hb) (e2.trans (Ex.new hb)) upd_same⟩
theorem hide_up {s : Addr} {H : Hp} : Ex (hide s H) H := hide_same
theorem et_yes : EvT tYes σ H true := fun H1 e Q q => q H1 (Ex.refl H1)
end
section
variable {P : Program} {w : World} {K : PySem.W.Frag} {mg : Str → Option Value} {base : Heap}
def spRT : Sp := fun vs H Q _ => ∃ (s : Addr) (v : V) (n B : Nat) (es : List Pr), vs = [.ref s, v] ∧ Src H s B ∧ B ≤ 700000 ∧ GraphV (hide s H) v n es ∧ IsForest n es ∧ ∀ H', Drew s (B + 200) H H' → Q (.bl true) H'
theorem ok_rt {f fNM fSH fAO fRG fTS fCR fTR fRR fXR fLR : Addr} {fd fdNM fdSH fdAO fdRG fdTS fdCR fdTR fdRR fdXR fdLR : FuncData} {k : Nat} (F : Fun K "_law_right" "_law_right" sRT f fd)
    (GNM : FnOk P w K mg base CX0 k fNM fdNM ["source", "size"] spNames) (FNM : Fun K "_law_names" "_law_names" sNames fNM fdNM) (bNM : Binds K fdNM ["source", "size"] []) (gNM : mg "_law_names" = some (.ref fNM))
    (GSH : FnOk P w K mg base CX0 k fSH fdSH ["source", "row"] spShuf) (FSH : Fun K "_law_shuffled" "_law_shuffled" sShuf fSH fdSH) (bSH : Binds K fdSH ["source", "row"] []) (gSH : mg "_law_shuffled" = some (.ref fSH))
    (GAO : FnOk P w K mg base CX0 k fAO fdAO ["forest", "items", "order"] spApply) (FAO : Fun K "apply_order" "apply_order" sApply fAO fdAO) (bAO : Binds K fdAO ["forest", "items", "order"] []) (gAO : mg "apply_order" = some (.ref fAO))
    (GRG : FnOk P w K mg base CX0 k fRG fdRG ["forest", "before", "after"] spRings) (FRG : Fun K "rings" "rings" sRings fRG fdRG) (bRG : Binds K fdRG ["forest", "before", "after"] []) (gRG : mg "rings" = some (.ref fRG))
    (GTS : FnOk P w K mg base CX0 k fTS fdTS ["forest"] spTrs) (FTS : Fun K "trees" "trees" sTrs fTS fdTS) (bTS : Binds K fdTS ["forest"] []) (gTS : mg "trees" = some (.ref fTS))
    (GCR : FnOk P w K mg base CX0 k fCR fdCR ["ring", "pairs"] spCR) (FCR : Fun K "_law_crossing" "_law_crossing" sCR fCR fdCR) (bCR : Binds K fdCR ["ring", "pairs"] []) (gCR : mg "_law_crossing" = some (.ref fCR))
    (GTR : FnOk P w K mg base CX0 k fTR fdTR ["graph", "circles", "sequence"] spTR) (FTR : Fun K "_law_turns_right" "_law_turns_right" sTR fTR fdTR) (bTR : Binds K fdTR ["graph", "circles", "sequence"] []) (gTR : mg "_law_turns_right" = some (.ref fTR))
    (GRR : FnOk P w K mg base CX0 k fRR fdRR ["graph", "row", "result", "sequence"] spRR) (FRR : Fun K "_law_reverse_right" "_law_reverse_right" sRR fRR fdRR) (bRR : Binds K fdRR ["graph", "row", "result", "sequence"] []) (gRR : mg "_law_reverse_right" = some (.ref fRR))
    (GXR : FnOk P w K mg base CX0 k fXR fdXR ["graph", "row", "result", "sequence"] spRR) (FXR : Fun K "_law_exchange_right" "_law_exchange_right" sXR fXR fdXR) (bXR : Binds K fdXR ["graph", "row", "result", "sequence"] []) (gXR : mg "_law_exchange_right" = some (.ref fXR))
    (GLR : FnOk P w K mg base CX0 k fLR fdLR ["graph", "row", "circles", "sequence"] spLR) (FLR : Fun K "_law_last_right" "_law_last_right" sLR fLR fdLR) (bLR : Binds K fdLR ["graph", "row", "circles", "sequence"] []) (gLR : mg "_law_last_right" = some (.ref fLR))(mSorted : mg "sorted" = none) : FnOk P w K mg base CX0 (k + 1) f fd ["source", "graph"] spRT := by
  refine F.ok scRT (fun vs H Q E h => ?_) (fun cdv A outer st H vs Q E hr h => ?_)
  · obtain ⟨s, v, n, B, es, rfl, _⟩ := h
    rfl
  · obtain ⟨s, v, n, B, es, rfl, hS, hB, hg, ok, q⟩ := h
    refine ⟨_, (pss_cons (ps_set (i := 2) scRT.nd rfl (.inl rfl) (pe_call GNM hr (by rfl) gNM FNM.kp bNM .nil pass0 (pa_cons (pv 0) (pa_cons (pe_ix ix_tup (pv 1) pe_int (fun _ _ => rfl)) pa_nil))))
      (pss_cons (ps_set (i := 3) scRT.nd rfl (.inl rfl) (pe_call GSH hr (by rfl) gSH FSH.kp bSH .nil pass0 (pa_cons (pv 0) (pa_cons (pe_ix ix_tup (pv 1) pe_int (fun _ _ => rfl)) pa_nil))))
      (pss_cons (ps_set (i := 4) scRT.nd rfl (.inl rfl) (pe_call GAO hr (by rfl) gAO FAO.kp bAO .nil pass0 (pa_cons (pv 1) (pa_cons (pv 2) (pa_cons (pv 3) pa_nil)))))
      (pss_cons (ps_set (i := 5) scRT.nd rfl (.inl rfl) (pe_call GRG hr (by rfl) gRG FRG.kp bRG .nil pass0 (pa_cons (pv 1) (pa_cons (pv 2) (pa_cons (pv 4) pa_nil)))))
      (pss_cons (ps_if (pt_cmpR (op_neD hr.units) (pe_callB (cr_sortE numD hr.units) (by rfl) mSorted boot_sorted (pa_cons (pe_lc (own := [("ring", 6)]) (g := gName 6) (tt := tYes) (te := tCB (rSortedI K) (tCons (tVar 6) tNil)) rfl scRT.nd (pi_list (pv 5)) (blkOk_by (N := ["source", "graph", "row", "sequence", "result", "circles", "ring"]) (sc := defScope sRT) (by decide +kernel)) (fun _ _ _ _ _ => pg_name (i := 6) scRT.nd rfl (Or.inl rfl)) (fun _ _ _ _ _ => pts_nil) (fun _ _ _ _ _ => (pe_callB cr_sortedI (by rfl) mSorted boot_sorted (pa_cons (pv 6) pa_nil)))) pa_nil)) (pe_call GTS hr (by rfl) gTS FTS.kp bTS .nil pass0 (pa_cons (pv 1) pa_nil)) (nomark _)) pss_never pss_nil)
      (pss_cons (ps_if (pt_cmpR (op_neD hr.units) (pe_lc (own := [("ring", 6)]) (g := gName 6) (tt := tB (tCall spCR [] E0 (tCons (tVar 6) (tCons (tOp (rIxT K) (tVar 1) (tC (.int 1))) tNil)))) (te := tVar 6) rfl scRT.nd (pi_list (pv 5)) (blkOk_by (N := ["source", "graph", "row", "sequence", "result", "circles", "ring"]) (sc := defScope sRT) (by decide +kernel)) (fun _ _ _ _ _ => pg_name (i := 6) scRT.nd rfl (Or.inl rfl)) (fun _ _ _ _ _ => pts_one (pt_val (pe_call GCR hr (by rfl) gCR FCR.kp bCR .nil pass0 (pa_cons (pv 6) (pa_cons (pe_ix ix_tup (pv 1) pe_int (fun _ _ => rfl)) pa_nil))))) (fun _ _ _ _ _ => (pv 6))) (pe_lst pa_nil) (nomark _)) pss_never pss_nil)
      (pss_cons (ps_if (PW.pt (pw_or (pt_not (pt_val (pe_call GTR hr (by rfl) gTR FTR.kp bTR .nil pass0 (pa_cons (pv 1) (pa_cons (pv 5) (pa_cons (pv 3) pa_nil)))))) (pw_or1 (pt_not (pt_val (pe_call GRR hr (by rfl) gRR FRR.kp bRR .nil pass0 (pa_cons (pv 1) (pa_cons (pv 2) (pa_cons (pv 4) (pa_cons (pv 3) pa_nil)))))))))) pss_never pss_nil)
      (pss_cons (ps_if (pt_not (pt_val (pe_call GXR hr (by rfl) gXR FXR.kp bXR .nil pass0 (pa_cons (pv 1) (pa_cons (pv 2) (pa_cons (pv 4) (pa_cons (pv 3) pa_nil))))))) pss_never pss_nil)
      (pss_one (ps_ret (pe_or (pe_cmpR (op_eqD hr.units) (pv 3) (pe_lst pa_nil) (nomark _)) (pe_one (pe_call GLR hr (by rfl) gLR FLR.kp bLR .nil pass0 (pa_cons (pv 1) (pa_cons (pv 2) (pa_cons (pv 5) (pa_cons (pv 3) pa_nil))))))))))))))))), ?_⟩
    have E' := ok.edges
    have n40 := ok.n40
    have few := ok.few
    obtain ⟨g, a, xs, rfl, hg1, ha1, px⟩ := hg
    obtain ⟨ngs, hg1'⟩ := hide_of hg1
    obtain ⟨nas, ha1'⟩ := hide_of ha1
    have xl := px.length
    have G0 : GraphV (hide s H) (.ref g) n es := ⟨g, a, xs, rfl, hg1, ha1, px⟩
    -- names
    refine ⟨.ref s, rfl, (ev_op (ev_var rfl) ev_c (rv_ixT (st_of hg1') (atI_nat (j := 0) rfl))) _ (Ex.refl _) _ fun H0 e0 => ?_⟩
    have d0 : Drew s B H H0 := (Drew.refl hS).ex e0
    refine ⟨s, n, B, rfl, d0.src, n40, by omega, fun H1 p2 zs d1 hp2 hz hl okz nd _ => ?_⟩
    dsimp only [gName, List.set_cons_succ, List.set_cons_zero]
    have D1 := d0.trans d1
    have np2 : p2 ≠ s := fun z => by
      obtain ⟨o, ho⟩ := d0.src.at
      rw [z, ho] at hp2
      cases hp2
    have az : ArrOk zs n := ⟨hl, okz, nd⟩
    -- the order
    refine ⟨.ref s, rfl, (ev_op (ev_var rfl) ev_c (rv_ixT (st_of (D1.get ngs hg1')) (atI_nat (j := 1) rfl))) _ (Ex.refl _) _ fun H2 e2 => ?_⟩
    have D2 := D1.ex e2
    refine ⟨s, a, xs, B + 1 + n, rfl, D2.src, D2.get nas ha1', nas, by omega, by omega, fun H3 p3 ys d3 hp3 h3 pm3 => ?_⟩
    dsimp only [gName, List.set_cons_succ, List.set_cons_zero]
    have D3 := D2.trans d3
    have G3 : GraphV H3 (.ref g) n es := (G0.ex D3.kept).ex hide_up
    have A3 : ArrV H3 (.ref p2) zs := ⟨p2, rfl, d3.get np2 (e2 _ _ hz)⟩
    obtain ⟨os, po, pm⟩ := ((px.ex D3.kept).ex hide_up).perm pm3
    have O3 : OrdV H3 (.ref p3) os := ⟨p3, ys, rfl, h3, po⟩
    have D3 := D3.mono (show B + 1 + n + xs.length ≤ B + 200 by omega)
    clear d3 D2 e2 D1 d1 e0 d0
    have cp := came_perm E' pm az.len
    have P' := went_perm cp az.nd az.len
    refine q_asgL (xs := (swps zs os).map V.str) (fun H4 e4 Q q => ⟨.ref g, rfl, .ref p2, rfl, .ref p3, rfl, .ref g, .ref p2, .ref p3, n, es, os, zs, rfl, G3.ex e4, ok, A3.ex e4, az, O3.ex e4, pm, fun H5 r e5 hr h5 => q r H5 hr e5 h5⟩) fun p4 H4 hp4 e4 h4 => ?_
    have U4 : ArrV H4 (.ref p4) (swps zs os) := ⟨p4, rfl, h4⟩
    refine ⟨.ref g, rfl, .ref p2, rfl, .ref p4, rfl, .ref g, .ref p2, .ref p4, n, es, zs, swps zs os, rfl, G3.ex e4, ok, A3.ex e4, U4, az, cp, fun H5 p5 rs e5 hp5 h5 rg => ?_⟩
    dsimp only [gName, List.set_cons_succ, List.set_cons_zero]
    have e35 := e4.trans e5
    have G5 := G3.ex e35
    have A5 := A3.ex e35
    have O5 := O3.ex e35
    have U5 := U4.ex e5
    have C5 := rgv_cy h5 rg
    have L5 := rgv_ls rg
    have D5 := D3.ex e35
    clear rg hp5 h4 hp4 hz h3 hp3 hp2 po pm3 D3
    have cyl : (cycles (went zs (swps zs os)) n).length ≤ n := by
      unfold cycles
      rw [List.length_map]
      have := List.length_filter_le (lead (went zs (swps zs os)) n) (List.range n)
      rwa [List.length_range] at this
    have ring_mem : ∀ x, x < n → ∀ y, y ∈ ringOf (went zs (swps zs os)) n x ↔ Conn es x y := fun x hx y => by
      obtain ⟨l, r, el⟩ := ring_is E' pm az.len az.nd hx
      rw [el, r.all y, conn_perm pm]
    -- the sorted rings are the trees
    have rows : EvLs (tLc (iList K (tVar 5)) (gName 6) tYes (tCB (rSortedI K) (tCons (tVar 6) tNil)) [6]) [some (.ref s), some (.ref g), some (.ref p2), some (.ref p3), some (.ref p4), some (.ref p5), none] H5 (((List.range n).filter (lead (went zs (swps zs os)) n)).map (treeOf n es)) := by
      have h := els_lc (K := K) (σ := [some (.ref s), some (.ref g), some (.ref p2), some (.ref p3), some (.ref p4), some (.ref p5), none]) (H := H5) (j := 6) (vs := [6]) (t := tYes) (te := tCB (rSortedI K) (tCons (tVar 6) tNil)) (tl := tVar 5) (fun _ => true) (fun l => treeOf n es (l[0]?.getD 0)) (els_of (ev_var rfl) h5 L5) (by omega) (fun _ => rfl) (fun _ _ _ _ _ _ => et_yes) (fun l c H6 e6 hc ml _ => by
        obtain ⟨x, hx, rfl⟩ := List.mem_map.mp ml
        have xn := List.mem_range.mp (List.mem_filter.mp hx).1
        rw [(ring_head P' xn).1]
        refine EvL.w (el_sortV (ev_var rfl) hc ?_ (tree_asc n es x))
        exact (List.perm_ext_iff_of_nodup ((tree_asc n es x).imp fun h => by omega) (ring_nd P' xn)).mpr fun y => (tree_mem E' xn y).trans (ring_mem x xn y).symm)
      have e1 : ((cycles (went zs (swps zs os)) n).filter fun _ => true).map (fun l => treeOf n es (l[0]?.getD 0)) = ((List.range n).filter (lead (went zs (swps zs os)) n)).map (treeOf n es) := by
        rw [List.filter_eq_self.mpr fun _ _ => rfl]
        unfold cycles
        rw [List.map_map]
        refine List.map_congr_left fun x hx => ?_
        show treeOf n es ((ringOf (went zs (swps zs os)) n x)[0]?.getD 0) = _
        rw [(ring_head P' (List.mem_range.mp (List.mem_filter.mp hx).1)).1]
        rfl
      rw [e1] at h
      exact h
    have asc : (((List.range n).filter (lead (went zs (swps zs os)) n)).map (treeOf n es)).Pairwise HdLt := by
      refine List.pairwise_map.mpr ?_
      refine List.Pairwise.imp_of_mem (R := (· < ·)) (fun {x y} hx hy lt => ?_) (List.Pairwise.filter _ List.pairwise_lt_range)
      obtain ⟨hx1, hx2⟩ := List.mem_filter.mp hx
      obtain ⟨hy1, hy2⟩ := List.mem_filter.mp hy
      exact hd_lt ((tree_head E' pm az.len az.nd (List.mem_range.mp hx1)).mp hx2) ((tree_head E' pm az.len az.nd (List.mem_range.mp hy1)).mp hy2) lt
    have sorted := els_sort (K := K) rows (by
      rw [List.length_map]
      have := List.length_filter_le (lead (went zs (swps zs os)) n) (List.range n)
      rw [List.length_range] at this
      omega)
    rw [ordLs_is (List.Perm.refl _) asc] at sorted
    have trd : EvDt (tCall spTrs [] E0 (tCons (tVar 1) tNil)) [some (.ref s), some (.ref g), some (.ref p2), some (.ref p3), some (.ref p4), some (.ref p5), none] H5 (.list ((((List.range n).filter (lead (went zs (swps zs os)) n)).map (treeOf n es)).map numD)) := fun H6 e6 Q q => ⟨.ref g, rfl, .ref g, n, es, rfl, G5.ex e6, ok, fun H7 L bs tr e7 hL h7 tf tv => by
      refine q _ H7 e7 (.lst h7 ?_)
      have := trs_dts tv
      have e1 : (headsN n tr).map (fun i => numD (tr i)) = (((List.range n).filter (lead (went zs (swps zs os)) n)).map (treeOf n es)).map numD := by
        rw [List.map_map]
        have e2 : headsN n tr = (List.range n).filter (lead (went zs (swps zs os)) n) := by
          show (List.range n).filter _ = _
          refine List.filter_congr fun i hi => ?_
          have hi := List.mem_range.mp hi
          rw [tree_is E' tf hi, Bool.eq_iff_iff, decide_eq_true_iff]
          exact (tree_head E' pm az.len az.nd hi).symm
        rw [e2]
        refine List.map_congr_left fun i hi => ?_
        show numD (tr i) = numD (treeOf n es i)
        rw [tree_is E' tf (List.mem_range.mp (List.mem_filter.mp hi).1)]
      rw [e1] at this
      exact this⟩
    refine q_when (b := false) (et_test (ev_neDt (els_dt sorted) trd (sh_nums _) (by decide))) (fun h => nomatch h) fun _ H6 e6 => ?_
    clear sorted trd rows asc
    have G6 := G5.ex e6
    have A6 := A5.ex e6
    have O6 := O5.ex e6
    have U6 := U5.ex e6
    have C6 := C5.ex e6
    have L6 := L5.ex e6
    have D6 := D5.ex e6
    have h6 := e6 _ _ h5
    clear G5 A5 O5 U5 C5 L5 D5 h5
    -- nothing crosses
    have none6 : EvLs (tLc (iList K (tVar 5)) (gName 6) (tB (tCall spCR [] E0 (tCons (tVar 6) (tCons (tOp (rIxT K) (tVar 1) (tC (.int 1))) tNil)))) (tVar 6) [6]) [some (.ref s), some (.ref g), some (.ref p2), some (.ref p3), some (.ref p4), some (.ref p5), none] H6 [] := by
      obtain ⟨g', a', xs', z, k1, k2, k3⟩ := G6
      cases z
      have h := els_lc (K := K) (σ := [some (.ref s), some (.ref g), some (.ref p2), some (.ref p3), some (.ref p4), some (.ref p5), none]) (H := H6) (j := 6) (vs := [6]) (t := tB (tCall spCR [] E0 (tCons (tVar 6) (tCons (tOp (rIxT K) (tVar 1) (tC (.int 1))) tNil)))) (te := tVar 6) (tl := tVar 5) (fun _ => false) id (els_of (ev_var rfl) h6 L6) (by omega) (fun _ => rfl) (fun l c H7 e7 hc ml => by
        obtain ⟨x, hx, rfl⟩ := List.mem_map.mp ml
        have xn := List.mem_range.mp (List.mem_filter.mp hx).1
        obtain ⟨l, r, el⟩ := ring_is E' pm az.len az.nd xn
        refine et_B (ev_sp (ea_cons (ev_var rfl) (ea_cons (ev_op (ev_var rfl) ev_c (rv_ixT (st_of (e7 _ _ k1)) (atI_nat (j := 1) rfl))) ea_nil)) fun H8 e8 Q q => ⟨c, a', _, es, xs', rfl, e8 _ _ hc, (e7.trans e8) _ _ k2, k3.ex (e7.trans e8), few, fun e he => ⟨(E'.inn e he).1, fun m => ?_⟩, by rw [el]; exact ring_nocr E' pm r, q⟩)
        rw [ring_mem x xn] at m ⊢
        exact conn_step he m) (fun l c H7 e7 hc ml h => nomatch h)
      have e1 : ((cycles (went zs (swps zs os)) n).filter fun _ => false).map id = [] := by
        rw [show (cycles (went zs (swps zs os)) n).filter (fun _ => false) = [] from List.filter_eq_nil_iff.mpr fun _ _ h => by cases h]
        rfl
      rw [e1] at h
      exact h
    refine q_when (b := false) (et_test (ev_neDt (els_dt none6) dt_nil0 (sh_nums []) (by decide))) (fun h => nomatch h) fun _ H7 e7 => ?_
    clear none6
    have G7 := G6.ex e7
    have A7 := A6.ex e7
    have O7 := O6.ex e7
    have U7 := U6.ex e7
    have C7 := C6.ex e7
    have D7 := D6.ex e7
    clear G6 A6 O6 U6 C6 D6
    refine q_when (b := false) (et_or0 (et_not (a := true) (et_B (ev_sp (ea_cons (ev_var rfl) (ea_cons (ev_var rfl) (ea_cons (ev_var rfl) ea_nil))) fun H8 e8 Q q => ⟨.ref g, p5, p3, n, es, os, zs, rfl, G7.ex e8, ok, pm, az.len, az.nd, C7.ex e8, O7.ex e8, q⟩))) (et_not (a := true) (et_B (ev_sp (ea_cons (ev_var rfl) (ea_cons (ev_var rfl) (ea_cons (ev_var rfl) (ea_cons (ev_var rfl) ea_nil)))) fun H8 e8 Q q => ⟨.ref g, .ref p2, .ref p4, .ref p3, n, es, os, zs, rfl, G7.ex e8, ok, A7.ex e8, U7.ex e8, az, O7.ex e8, pm, q⟩)))) (fun h => nomatch h) fun _ H8 e8 => ?_
    refine q_when (b := !true) (et_not (et_B (ev_sp (ea_cons (ev_var rfl) (ea_cons (ev_var rfl) (ea_cons (ev_var rfl) (ea_cons (ev_var rfl) ea_nil)))) fun H9 e9 Q q => ⟨.ref g, .ref p2, .ref p4, .ref p3, n, es, os, zs, rfl, G7.ex (e8.trans e9), ok, A7.ex (e8.trans e9), U7.ex (e8.trans e9), az, O7.ex (e8.trans e9), pm, q⟩))) (fun h => nomatch h) fun _ H9 e9 => ?_
    have e79 := e8.trans e9
    obtain ⟨sq', ys', z, k1, k2⟩ := O7.ex e79
    cases z
    refine s_ret (v := .bl true) (fun H10 e10 Q q => eq_nilV (K := K) (σ := [some (.ref s), some (.ref g), some (.ref p2), some (.ref p3), some (.ref p4), some (.ref p5), none]) (H := H9) (te := tVar 3) (n := 2) (ev_var rfl) k1 k2.dts (sh_prs os) (by decide) H10 e10 _ fun H11 e11 => ⟨decide (os.map Os.prD = []), rfl, ?_⟩) fun H12 e12 => q H12 (D7.ex (e79.trans e12))
    by_cases hos : os = []
    · rw [if_pos (decide_eq_true (by rw [hos]; rfl))]
      exact q H11 e11
    · rw [if_neg (by rw [decide_eq_false fun z => hos (List.map_eq_nil_iff.mp z)]; decide)]
      have x := (e79.trans e10).trans e11
      exact ⟨.ref g, rfl, .ref p2, rfl, .ref p5, rfl, .ref p3, rfl, .ref g, .ref p2, p5, p3, n, es, os, zs, rfl, G7.ex x, ok, A7.ex x, az, pm, hos, C7.ex x, O7.ex x, fun H12 e12 => q H12 (e11.trans e12)⟩
def spLaw (K : PySem.W.Frag) : Sp := fun vs H Q _ => ∃ (a : Addr) (ns : List Int), vs = [.ref a] ∧ SqL K H a (ns.map V.int) ∧ ns.length ≤ 63 ∧ ∀ H', Q (.bl true) H'
theorem ok_law {f fSO fGR fRT : Addr} {fd fdSO fdGR fdRT : FuncData} {k : Nat} (F : Fun K "law" "law" sLaw f fd)
    (GSO : FnOk P w K mg base CX0 k fSO fdSO ["script", "k"] (spSource K)) (FSO : Fun K "_law_source" "_law_source" sSource fSO fdSO) (bSO : Binds K fdSO ["script", "k"] []) (gSO : mg "_law_source" = some (.ref fSO))
    (GGR : FnOk P w K mg base CX0 k fGR fdGR ["source", "most"] spGraph) (FGR : Fun K "_law_graph" "_law_graph" sGraph fGR fdGR) (bGR : Binds K fdGR ["source", "most"] []) (gGR : mg "_law_graph" = some (.ref fGR))
    (GRT : FnOk P w K mg base CX0 k fRT fdRT ["source", "graph"] spRT) (FRT : Fun K "_law_right" "_law_right" sRT fRT fdRT) (bRT : Binds K fdRT ["source", "graph"] []) (gRT : mg "_law_right" = some (.ref fRT))
    (mRange : mg "range" = none) (mMax : mg "max" = none) (mMin : mg "min" = none) (mLen : mg "len" = none) : FnG P w K mg base (k + 1) f fd ["script"] (spLaw K) := by
  refine okG F scLaw (fun vs H Q E h => ?_) (fun cdv A outer s0 H vs Q E gd hr h => ?_)
  · obtain ⟨a, ns, rfl, _⟩ := h
    rfl
  · obtain ⟨a, ns, rfl, hS, hlen, q⟩ := h
    refine ⟨_, (pss_cons (ps_for PassesOwn.never rfl (pi_range1 (by rfl) mRange (pa_cons (pe_callB (call_max2 rfl) (by rfl) mMax boot_max (pa_cons pe_int (pa_cons (pe_callB (call_min2 rfl) (by rfl) mMin boot_min (pa_cons pe_int (pa_cons (pe_callB call_len_seq (by rfl) mLen boot_len (pa_cons (pv 0) pa_nil)) pa_nil))) pa_nil))) pa_nil)) (pg_name (i := 1) scLaw.nd rfl (Or.inl rfl))
      (pss_cons (ps_set (i := 2) scLaw.nd rfl (.inl rfl) (pe_call GSO hr (by rfl) gSO FSO.kp bSO .nil pass0 (pa_cons (pv 0) (pa_cons (pv 1) pa_nil))))
      (pss_one (ps_for PassesOwn.never rfl (pi_range1 (by rfl) mRange (pa_cons pe_int pa_nil)) (pg_name (i := 3) scLaw.nd rfl (Or.inl rfl))
      (pss_one (ps_if (pt_not (pt_val (pe_call GRT hr (by rfl) gRT FRT.kp bRT .nil pass0 (pa_cons (pv 2) (pa_cons (pe_call GGR hr (by rfl) gGR FGR.kp bGR .nil pass0 (pa_cons (pv 2) (pa_cons (pe_ix ix_list (pe_lst (pa_cons pe_int (pa_cons pe_int (pa_cons pe_int pa_nil)))) (pv 3) (fun _ _ => rfl)) pa_nil))) pa_nil))))) pss_never pss_nil))))))
      (pss_one (ps_ret pe_bl))), ?_⟩
    have hlen' : (ns.map V.int).length = ns.length := List.length_map ..
    refine q_forR1 (n := if (if ((ns.map V.int).length : Int) < 3 then ((ns.map V.int).length : Int) else 3) > 1 then (if ((ns.map V.int).length : Int) < 3 then ((ns.map V.int).length : Int) else 3) else 1)
      (ea_cons (ev_max ev_c (ev_min ev_c (ev_len (ev_var rfl) hS))) ea_nil) ⟨by split <;> (try split) <;> omega, by split <;> (try split) <;> omega⟩
      (fun i σ' H' => Ex H H' ∧ i ≤ 3 ∧ ∃ y1 y2 y3, σ' = [some (.ref a), y1, y2, y3]) (fun H1 e1 => ⟨e1, by omega, _, _, _, rfl⟩) ?_ ?_
    · rintro i σ' H1 hi ⟨e1, hi4, y1, y2, y3, rfl⟩
      have hi5 : i < 3 := by
        split at hi <;> (try split at hi) <;> omega
      refine ⟨.ref a, rfl, .int (i : Int), rfl, a, ns, i, rfl, ex_l e1 hS, by omega, fun H2 s e2 ns1 src => ?_⟩
      refine s_forR1 (n := 3) (ea_cons ev_c ea_nil) ⟨by decide, by decide⟩
        (fun j σ' H' => Drew s (7000 * j) H2 H' ∧ j ≤ 3 ∧ ∃ y3, σ' = [some (.ref a), some (.int (i : Int)), some (.ref s), y3])
        (fun H3 e3 => ⟨((Drew.refl src).ex e3).mono (by omega), by omega, _, rfl⟩) ?_ ?_
      · rintro j σ' H3 hj ⟨d3, hj5, z3, rfl⟩
        have hj5 : j < 3 := by omega
        obtain ⟨mo, hmo, mo1, mo40⟩ : ∃ mo : Nat, ([V.int 6, .int 14, .int 40] : List V)[j]? = some (.int (mo : Int)) ∧ 1 ≤ mo ∧ mo ≤ 40 := by
          match j, hj5 with
          | 0, _ => exact ⟨6, rfl, by decide, by decide⟩
          | 1, _ => exact ⟨14, rfl, by decide, by decide⟩
          | 2, _ => exact ⟨40, rfl, by decide, by decide⟩
        refine ⟨.ref s, rfl, .ref s, rfl, ?_⟩
        refine (ev_opL1 (xs := [V.int 6, .int 14, .int 40]) (y := .int (j : Int)) (el_lst (ea_cons ev_c (ea_cons ev_c (ea_cons ev_c ea_nil))) (show 3 ≤ 100000 by decide)) (fun _ _ => ev_var rfl) fun p G hp _ => rv_ixL (sq_of hp) (atI_nat hmo)) _ (Ex.refl _) _ fun H4 e4 => ?_
        have d4 := d3.ex e4
        refine ⟨s, 7000 * j, mo, rfl, mo1, mo40, d4.src, by omega, fun H5 gv n es d5 hg ok => ?_⟩
        refine ⟨s, gv, n, 7000 * j + 200, es, rfl, d5.src, by omega, hg, ok, fun H6 d6 => ⟨true, rfl, iteF ?_⟩⟩
        exact ⟨((d4.trans d5).trans d6).mono (by omega), by omega, _, rfl⟩
      · rintro σ' H3 ⟨d3, _, z3, rfl⟩
        exact ⟨oldK (e1.trans e2) (fresh_back e1 ns1) d3, by omega, _, _, _, rfl⟩
    · rintro σ' H1 ⟨e1, _, y1, y2, y3, rfl⟩
      exact s_ret (v := .bl true) ev_c fun H2 e2 => q H2
end
end K10
namespace K10
open PySem PySem.Spec PyProof.Rows L2 Os Evl
section
variable {l : PySem.W.OpenLaw} {w : World} {K : PySem.W.Frag} {h : Heap} {mg : Str → Option Value} {fa : Addr}
/-- a def that stands at the top -/
def Def (K : PySem.W.Frag) (x : Str) (st : Stmt) (f : Addr) : Prop :=
  PySem.W.nsIn K mainGlobals x = some (some (.ref f)) ∧ (∃ (oc kV dc pm cd ct : Value) (od an : Option Addr) (sl : Array (Option Value)), K.lookup f = some ⟨oc, od, .func (PySem.W.fnOf x x (defArgs st) (defBody st) (defScope st) .none kV dc pm an cd ct), sl⟩ ∧ PySem.W.codeIn K cd x = true) ∧ PySem.W.keepIn K (.ref f) = true
theorem Def.of {x : Str} {st : Stmt} {f : Addr} {oc kV dc pm cd ct : Value} {od an : Option Addr} {sl : Array (Option Value)} (a : PySem.W.nsIn K mainGlobals x = some (some (.ref f)))
    (lk : K.lookup f = some ⟨oc, od, .func (PySem.W.fnOf x x (defArgs st) (defBody st) (defScope st) .none kV dc pm an cd ct), sl⟩) (c : PySem.W.codeIn K cd x = true) (kp : PySem.W.keepIn K (.ref f) = true) : Def K x st f :=
  ⟨a, ⟨oc, kV, dc, pm, cd, ct, od, an, sl, lk, c⟩, kp⟩
theorem Def.fun_ {x : Str} {st : Stmt} {f : Addr} (d : Def K x st f) : ∃ fd, Fun K x x st f fd := by
  obtain ⟨_, ⟨oc, kV, dc, pm, cd, ct, od, an, sl, lk, c⟩, k⟩ := d
  exact ⟨_, fun_mk lk c k⟩
theorem all_mk (X : K.In h) (G : h.Ns mainGlobals mg) (hfa : mg "law" = some (.ref fa))
    {fInt fAsc fCyc fSource fPick fItem fSwp fRingF fLists fSteps fTN fCR fPos fShuf fArr fTrees fEdge fGraph fNames fChkA fChkP fForest fIsOrd fChkF fChkO fChkR fTrs fNbr fApply fMoves fTR fXR fRings fRR fLR fRT fLaw : Addr} {tMOST_POSITIONS tMOST_LETTERS : Tok} (nMOST_POSITIONS : PySem.W.nsIn K mainGlobals "MOST_POSITIONS" = some (some (.int 40 tMOST_POSITIONS))) (nMOST_LETTERS : PySem.W.nsIn K mainGlobals "MOST_LETTERS" = some (some (.int 8 tMOST_LETTERS)))
    (dInt : Def K "is_integer" sInt fInt)
    (dAsc : Def K "_is_ascending" sAsc fAsc)
    (dCyc : Def K "_has_cycle" sCyc fCyc)
    (dSource : Def K "_law_source" sSource fSource)
    (dPick : Def K "_law_pick" sPick fPick)
    (dItem : Def K "is_item" sItem fItem)
    (dSwp : Def K "swapped" sSwp fSwp)
    (dRingF : Def K "ring_from" sRingF fRingF)
    (dLists : Def K "neighbour_lists" sLists fLists)
    (dSteps : Def K "steps_towards" sSteps fSteps)
    (dTN : Def K "_law_turn" sTN fTN)
    (dCR : Def K "_law_crossing" sCR fCR)
    (dPos : Def K "is_position" sPos fPos)
    (dShuf : Def K "_law_shuffled" sShuf fShuf)
    (dArr : Def K "is_arrangement" sArr fArr)
    (dTrees : Def K "tree_lists" sTrees fTrees)
    (dEdge : Def K "is_edge" sEdge fEdge)
    (dGraph : Def K "_law_graph" sGraph fGraph)
    (dNames : Def K "_law_names" sNames fNames)
    (dChkA : Def K "check_arrangement" sChkA fChkA)
    (dChkP : Def K "check_position" sChkP fChkP)
    (dForest : Def K "is_forest" sForest fForest)
    (dIsOrd : Def K "is_order" sIsOrd fIsOrd)
    (dChkF : Def K "check_forest" sChkF fChkF)
    (dChkO : Def K "check_order" sChkO fChkO)
    (dChkR : Def K "check_change" sChkR fChkR)
    (dTrs : Def K "trees" sTrs fTrs)
    (dNbr : Def K "neighbours" sNbr fNbr)
    (dApply : Def K "apply_order" sApply fApply)
    (dMoves : Def K "moves" sMoves fMoves)
    (dTR : Def K "_law_turns_right" sTR fTR)
    (dXR : Def K "_law_exchange_right" sXR fXR)
    (dRings : Def K "rings" sRings fRings)
    (dRR : Def K "_law_reverse_right" sRR fRR)
    (dLR : Def K "_law_last_right" sLR fLR)
    (dRT : Def K "_law_right" sRT fRT)
    (aLaw : PySem.W.nsIn K mainGlobals "law" = some (some (.ref fLaw))) {oc kV dc pm cd ct : Value} {od an : Option Addr} {sl : Array (Option Value)} (lLaw : K.lookup fLaw = some ⟨oc, od, .func (PySem.W.fnOf "law" "law" (defArgs sLaw) (defBody sLaw) (defScope sLaw) .none kV dc pm an cd ct), sl⟩) (cLaw : PySem.W.codeIn K cd "law" = true) (kLaw : PySem.W.keepIn K (.ref fLaw) = true)
    (z_isinstance : PySem.W.nsIn K mainGlobals "isinstance" = some none) (z_int : PySem.W.nsIn K mainGlobals "int" = some none) (z_bool : PySem.W.nsIn K mainGlobals "bool" = some none) (z_tuple : PySem.W.nsIn K mainGlobals "tuple" = some none) (z_len : PySem.W.nsIn K mainGlobals "len" = some none) (z_all : PySem.W.nsIn K mainGlobals "all" = some none) (z_zip : PySem.W.nsIn K mainGlobals "zip" = some none) (z_list : PySem.W.nsIn K mainGlobals "list" = some none) (z_range : PySem.W.nsIn K mainGlobals "range" = some none) (z_max : PySem.W.nsIn K mainGlobals "max" = some none) (z_abs : PySem.W.nsIn K mainGlobals "abs" = some none) (z_min : PySem.W.nsIn K mainGlobals "min" = some none) (z_sorted : PySem.W.nsIn K mainGlobals "sorted" = some none) (z_str : PySem.W.nsIn K mainGlobals "str" = some none) (z_set : PySem.W.nsIn K mainGlobals "set" = some none) (z_enumerate : PySem.W.nsIn K mainGlobals "enumerate" = some none) :
    ∃ fd : FuncData, (∀ (s : Shared) (v : Value), BindsTo s fd ⟨[v], []⟩ [("script", v)]) ∧ ∀ base : Heap, K.In base → base.Ns mainGlobals mg → FnG l.prog w K mg base 11 fa fd ["script"] (spLaw K) := by
  have e := hfa.symm.trans (PySem.W.mg_of X G aLaw)
  cases e
  have none' : ∀ {x : Str}, PySem.W.nsIn K mainGlobals x = some none → mg x = none := fun z => PySem.W.mg_none_of X G z
  have ref' : ∀ {x : Str} {f : Addr}, PySem.W.nsIn K mainGlobals x = some (some (.ref f)) → mg x = some (.ref f) := fun z => PySem.W.mg_of X G z
  obtain ⟨fdInt, FInt⟩ := dInt.fun_
  obtain ⟨fdAsc, FAsc⟩ := dAsc.fun_
  obtain ⟨fdCyc, FCyc⟩ := dCyc.fun_
  obtain ⟨fdSource, FSource⟩ := dSource.fun_
  obtain ⟨fdPick, FPick⟩ := dPick.fun_
  obtain ⟨fdItem, FItem⟩ := dItem.fun_
  obtain ⟨fdSwp, FSwp⟩ := dSwp.fun_
  obtain ⟨fdRingF, FRingF⟩ := dRingF.fun_
  obtain ⟨fdLists, FLists⟩ := dLists.fun_
  obtain ⟨fdSteps, FSteps⟩ := dSteps.fun_
  obtain ⟨fdTN, FTN⟩ := dTN.fun_
  obtain ⟨fdCR, FCR⟩ := dCR.fun_
  obtain ⟨fdPos, FPos⟩ := dPos.fun_
  obtain ⟨fdShuf, FShuf⟩ := dShuf.fun_
  obtain ⟨fdArr, FArr⟩ := dArr.fun_
  obtain ⟨fdTrees, FTrees⟩ := dTrees.fun_
  obtain ⟨fdEdge, FEdge⟩ := dEdge.fun_
  obtain ⟨fdGraph, FGraph⟩ := dGraph.fun_
  obtain ⟨fdNames, FNames⟩ := dNames.fun_
  obtain ⟨fdChkA, FChkA⟩ := dChkA.fun_
  obtain ⟨fdChkP, FChkP⟩ := dChkP.fun_
  obtain ⟨fdForest, FForest⟩ := dForest.fun_
  obtain ⟨fdIsOrd, FIsOrd⟩ := dIsOrd.fun_
  obtain ⟨fdChkF, FChkF⟩ := dChkF.fun_
  obtain ⟨fdChkO, FChkO⟩ := dChkO.fun_
  obtain ⟨fdChkR, FChkR⟩ := dChkR.fun_
  obtain ⟨fdTrs, FTrs⟩ := dTrs.fun_
  obtain ⟨fdNbr, FNbr⟩ := dNbr.fun_
  obtain ⟨fdApply, FApply⟩ := dApply.fun_
  obtain ⟨fdMoves, FMoves⟩ := dMoves.fun_
  obtain ⟨fdTR, FTR⟩ := dTR.fun_
  obtain ⟨fdXR, FXR⟩ := dXR.fun_
  obtain ⟨fdRings, FRings⟩ := dRings.fun_
  obtain ⟨fdRR, FRR⟩ := dRR.fun_
  obtain ⟨fdLR, FLR⟩ := dLR.fun_
  obtain ⟨fdRT, FRT⟩ := dRT.fun_
  have FLaw := fun_mk (st := sLaw) lLaw cLaw kLaw
  have bInt := FInt.binds (ps := ["thing"]) fun _ _ _ _ _ _ us hl => match us, hl with | [_], _ => rfl
  have bAsc := FAsc.binds (ps := ["edges"]) fun _ _ _ _ _ _ us hl => match us, hl with | [_], _ => rfl
  have bCyc := FCyc.binds (ps := ["n", "edges"]) fun _ _ _ _ _ _ us hl => match us, hl with | [_, _], _ => rfl
  have bSource := FSource.binds (ps := ["script", "k"]) fun _ _ _ _ _ _ us hl => match us, hl with | [_, _], _ => rfl
  have bPick := FPick.binds (ps := ["source", "count"]) fun _ _ _ _ _ _ us hl => match us, hl with | [_, _], _ => rfl
  have bItem := FItem.binds (ps := ["thing"]) fun _ _ _ _ _ _ us hl => match us, hl with | [_], _ => rfl
  have bSwp := FSwp.binds (ps := ["items", "edges"]) fun _ _ _ _ _ _ us hl => match us, hl with | [_, _], _ => rfl
  have bRingF := FRingF.binds (ps := ["to", "start"]) fun _ _ _ _ _ _ us hl => match us, hl with | [_, _], _ => rfl
  have bLists := FLists.binds (ps := ["forest"]) fun _ _ _ _ _ _ us hl => match us, hl with | [_], _ => rfl
  have bSteps := FSteps.binds (ps := ["nearby", "goal"]) fun _ _ _ _ _ _ us hl => match us, hl with | [_, _], _ => rfl
  have bTN := FTN.binds (ps := ["ring", "here", "near"]) fun _ _ _ _ _ _ us hl => match us, hl with | [_, _, _], _ => rfl
  have bCR := FCR.binds (ps := ["ring", "pairs"]) fun _ _ _ _ _ _ us hl => match us, hl with | [_, _], _ => rfl
  have bPos := FPos.binds (ps := ["n", "thing"]) fun _ _ _ _ _ _ us hl => match us, hl with | [_, _], _ => rfl
  have bShuf := FShuf.binds (ps := ["source", "row"]) fun _ _ _ _ _ _ us hl => match us, hl with | [_, _], _ => rfl
  have bArr := FArr.binds (ps := ["n", "thing"]) fun _ _ _ _ _ _ us hl => match us, hl with | [_, _], _ => rfl
  have bTrees := FTrees.binds (ps := ["forest"]) fun _ _ _ _ _ _ us hl => match us, hl with | [_], _ => rfl
  have bEdge := FEdge.binds (ps := ["n", "thing"]) fun _ _ _ _ _ _ us hl => match us, hl with | [_, _], _ => rfl
  have bGraph := FGraph.binds (ps := ["source", "most"]) fun _ _ _ _ _ _ us hl => match us, hl with | [_, _], _ => rfl
  have bNames := FNames.binds (ps := ["source", "size"]) fun _ _ _ _ _ _ us hl => match us, hl with | [_, _], _ => rfl
  have bChkA := FChkA.binds (ps := ["n", "items"]) fun _ _ _ _ _ _ us hl => match us, hl with | [_, _], _ => rfl
  have bChkP := FChkP.binds (ps := ["forest", "position"]) fun _ _ _ _ _ _ us hl => match us, hl with | [_, _], _ => rfl
  have bForest := FForest.binds (ps := ["thing"]) fun _ _ _ _ _ _ us hl => match us, hl with | [_], _ => rfl
  have bIsOrd := FIsOrd.binds (ps := ["forest", "thing"]) fun _ _ _ _ _ _ us hl => match us, hl with | [_, _], _ => rfl
  have bChkF := FChkF.binds (ps := ["forest"]) fun _ _ _ _ _ _ us hl => match us, hl with | [_], _ => rfl
  have bChkO := FChkO.binds (ps := ["forest", "order"]) fun _ _ _ _ _ _ us hl => match us, hl with | [_, _], _ => rfl
  have bChkR := FChkR.binds (ps := ["forest", "before", "after"]) fun _ _ _ _ _ _ us hl => match us, hl with | [_, _, _], _ => rfl
  have bTrs := FTrs.binds (ps := ["forest"]) fun _ _ _ _ _ _ us hl => match us, hl with | [_], _ => rfl
  have bNbr := FNbr.binds (ps := ["forest", "position"]) fun _ _ _ _ _ _ us hl => match us, hl with | [_, _], _ => rfl
  have bApply := FApply.binds (ps := ["forest", "items", "order"]) fun _ _ _ _ _ _ us hl => match us, hl with | [_, _, _], _ => rfl
  have bMoves := FMoves.binds (ps := ["forest", "before", "after"]) fun _ _ _ _ _ _ us hl => match us, hl with | [_, _, _], _ => rfl
  have bTR := FTR.binds (ps := ["graph", "circles", "sequence"]) fun _ _ _ _ _ _ us hl => match us, hl with | [_, _, _], _ => rfl
  have bXR := FXR.binds (ps := ["graph", "row", "result", "sequence"]) fun _ _ _ _ _ _ us hl => match us, hl with | [_, _, _, _], _ => rfl
  have bRings := FRings.binds (ps := ["forest", "before", "after"]) fun _ _ _ _ _ _ us hl => match us, hl with | [_, _, _], _ => rfl
  have bRR := FRR.binds (ps := ["graph", "row", "result", "sequence"]) fun _ _ _ _ _ _ us hl => match us, hl with | [_, _, _, _], _ => rfl
  have bLR := FLR.binds (ps := ["graph", "row", "circles", "sequence"]) fun _ _ _ _ _ _ us hl => match us, hl with | [_, _, _, _], _ => rfl
  have bRT := FRT.binds (ps := ["source", "graph"]) fun _ _ _ _ _ _ us hl => match us, hl with | [_, _], _ => rfl
  refine ⟨PySem.W.fnOf "law" "law" (defArgs sLaw) (defBody sLaw) (defScope sLaw) .none kV dc pm an cd ct, fun s v => .of_eq rfl, fun base _ _ => ?_⟩
  have GInt : FnOk l.prog w K mg base CX0 1 fInt fdInt ["thing"] spInt := ok_int FInt (none' z_isinstance) (none' z_int) (none' z_bool)
  have GAsc : FnOk l.prog w K mg base CX0 1 fAsc fdAsc ["edges"] spAsc := ok_asc FAsc (none' z_all) (none' z_zip)
  have GCyc : FnOk l.prog w K mg base CX0 1 fCyc fdCyc ["n", "edges"] spCyc := ok_cyc FCyc (none' z_list) (none' z_range)
  have GSource : FnOk l.prog w K mg base CX0 1 fSource fdSource ["script", "k"] (spSource K) := ok_source FSource (none' z_len) (none' z_max) (none' z_abs)
  have GPick : FnOk l.prog w K mg base CX0 1 fPick fdPick ["source", "count"] spPick := ok_pick FPick 
  have GItem : FnOk l.prog w K mg base CX0 1 fItem fdItem ["thing"] spItem := ok_item FItem (none' z_isinstance) (none' z_str) (none' z_len) (none' z_all) (PySem.W.mg_of X G nMOST_LETTERS)
  have GSwp : FnOk l.prog w K mg base CX0 1 fSwp fdSwp ["items", "edges"] spSwp := ok_swp FSwp (none' z_list)
  have GRingF : FnOk l.prog w K mg base CX0 1 fRingF fdRingF ["to", "start"] spRingF := ok_ringF FRingF 
  have GLists : FnOk l.prog w K mg base CX0 1 fLists fdLists ["forest"] spLists := ok_lists FLists (none' z_range)
  have GSteps : FnOk l.prog w K mg base CX0 1 fSteps fdSteps ["nearby", "goal"] spSteps := ok_steps FSteps 
  have GTN : FnOk l.prog w K mg base CX0 1 fTN fdTN ["ring", "here", "near"] spTN := ok_tn FTN 
  have GCR : FnOk l.prog w K mg base CX0 1 fCR fdCR ["ring", "pairs"] spCR := ok_cr FCR (none' z_sorted)
  have GPos : FnOk l.prog w K mg base CX0 2 fPos fdPos ["n", "thing"] spPos := ok_pos FPos (GInt.mono (by decide)) FInt bInt (ref' dInt.1)
  have GShuf : FnOk l.prog w K mg base CX0 2 fShuf fdShuf ["source", "row"] spShuf := ok_shuf FShuf (GPick.mono (by decide)) FPick bPick (ref' dPick.1) (none' z_list) (none' z_len) (none' z_range)
  have GArr : FnOk l.prog w K mg base CX0 2 fArr fdArr ["n", "thing"] spArr := ok_arr FArr (GItem.mono (by decide)) FItem bItem (ref' dItem.1) (none' z_isinstance) (none' z_list) (none' z_len) (none' z_all) (none' z_set)
  have GTrees : FnOk l.prog w K mg base CX0 2 fTrees fdTrees ["forest"] spTrees := ok_trees FTrees (GLists.mono (by decide)) FLists bLists (ref' dLists.1) (GSteps.mono (by decide)) FSteps bSteps (ref' dSteps.1) (none' z_range) (none' z_sorted)
  have GEdge : FnOk l.prog w K mg base CX0 3 fEdge fdEdge ["n", "thing"] spEdge := ok_edge FEdge (GPos.mono (by decide)) FPos bPos (ref' dPos.1) (none' z_isinstance) (none' z_tuple) (none' z_len)
  have GGraph : FnOk l.prog w K mg base CX0 3 fGraph fdGraph ["source", "most"] spGraph := ok_graph FGraph (GPick.mono (by decide)) FPick bPick (ref' dPick.1) (GShuf.mono (by decide)) FShuf bShuf (ref' dShuf.1) (none' z_range) (none' z_list) (none' z_max) (none' z_min) (none' z_sorted)
  have GNames : FnOk l.prog w K mg base CX0 3 fNames fdNames ["source", "size"] spNames := ok_names FNames (GPick.mono (by decide)) FPick bPick (ref' dPick.1) (GShuf.mono (by decide)) FShuf bShuf (ref' dShuf.1) (none' z_range)
  have GChkA : FnOk l.prog w K mg base CX0 3 fChkA fdChkA ["n", "items"] spChkA := ok_chkA FChkA (GArr.mono (by decide)) FArr bArr (ref' dArr.1)
  have GChkP : FnOk l.prog w K mg base CX0 3 fChkP fdChkP ["forest", "position"] spChkP := ok_chkP FChkP (GPos.mono (by decide)) FPos bPos (ref' dPos.1)
  have GForest : FnOk l.prog w K mg base CX0 4 fForest fdForest ["thing"] spForest := ok_forest FForest (GInt.mono (by decide)) FInt bInt (ref' dInt.1) (GEdge.mono (by decide)) FEdge bEdge (ref' dEdge.1) (GAsc.mono (by decide)) FAsc bAsc (ref' dAsc.1) (GCyc.mono (by decide)) FCyc bCyc (ref' dCyc.1) (none' z_isinstance) (none' z_tuple) (none' z_len) (none' z_list) (none' z_all) (PySem.W.mg_of X G nMOST_POSITIONS)
  have GIsOrd : FnOk l.prog w K mg base CX0 4 fIsOrd fdIsOrd ["forest", "thing"] spIsOrd := ok_isord FIsOrd (GEdge.mono (by decide)) FEdge bEdge (ref' dEdge.1) (none' z_isinstance) (none' z_list) (none' z_all) (none' z_sorted)
  have GChkF : FnOk l.prog w K mg base CX0 5 fChkF fdChkF ["forest"] spChkF := ok_chkF FChkF (GForest.mono (by decide)) FForest bForest (ref' dForest.1)
  have GChkO : FnOk l.prog w K mg base CX0 5 fChkO fdChkO ["forest", "order"] spChkO := ok_chkO FChkO (GIsOrd.mono (by decide)) FIsOrd bIsOrd (ref' dIsOrd.1)
  have GChkR : FnOk l.prog w K mg base CX0 6 fChkR fdChkR ["forest", "before", "after"] spChkR := ok_chkR FChkR (GChkF.mono (by decide)) FChkF bChkF (ref' dChkF.1) (GChkA.mono (by decide)) FChkA bChkA (ref' dChkA.1) (none' z_sorted)
  have GTrs : FnOk l.prog w K mg base CX0 6 fTrs fdTrs ["forest"] spTrs := ok_trs FTrs (GChkF.mono (by decide)) FChkF bChkF (ref' dChkF.1) (GTrees.mono (by decide)) FTrees bTrees (ref' dTrees.1) (none' z_enumerate)
  have GNbr : FnOk l.prog w K mg base CX0 6 fNbr fdNbr ["forest", "position"] spNbr := ok_nbr FNbr (GChkF.mono (by decide)) FChkF bChkF (ref' dChkF.1) (GChkP.mono (by decide)) FChkP bChkP (ref' dChkP.1) (GLists.mono (by decide)) FLists bLists (ref' dLists.1)
  have GApply : FnOk l.prog w K mg base CX0 6 fApply fdApply ["forest", "items", "order"] spApply := ok_apply FApply (GChkF.mono (by decide)) FChkF bChkF (ref' dChkF.1) (GChkA.mono (by decide)) FChkA bChkA (ref' dChkA.1) (GChkO.mono (by decide)) FChkO bChkO (ref' dChkO.1) (GSwp.mono (by decide)) FSwp bSwp (ref' dSwp.1)
  have GMoves : FnOk l.prog w K mg base CX0 7 fMoves fdMoves ["forest", "before", "after"] spMoves := ok_moves FMoves (GChkR.mono (by decide)) FChkR bChkR (ref' dChkR.1)
  have GTR : FnOk l.prog w K mg base CX0 7 fTR fdTR ["graph", "circles", "sequence"] spTR := ok_tr FTR (GTN.mono (by decide)) FTN bTN (ref' dTN.1) (GNbr.mono (by decide)) FNbr bNbr (ref' dNbr.1)
  have GXR : FnOk l.prog w K mg base CX0 7 fXR fdXR ["graph", "row", "result", "sequence"] spRR := ok_xr FXR (GApply.mono (by decide)) FApply bApply (ref' dApply.1) (none' z_len) (none' z_range)
  have GRings : FnOk l.prog w K mg base CX0 8 fRings fdRings ["forest", "before", "after"] spRings := ok_rings FRings (GMoves.mono (by decide)) FMoves bMoves (ref' dMoves.1) (GRingF.mono (by decide)) FRingF bRingF (ref' dRingF.1) (none' z_range) (none' z_len) (none' z_min)
  have GRR : FnOk l.prog w K mg base CX0 8 fRR fdRR ["graph", "row", "result", "sequence"] spRR := ok_rr FRR (GApply.mono (by decide)) FApply bApply (ref' dApply.1) (GMoves.mono (by decide)) FMoves bMoves (ref' dMoves.1) (none' z_len) (none' z_range)
  have GLR : FnOk l.prog w K mg base CX0 9 fLR fdLR ["graph", "row", "circles", "sequence"] spLR := ok_lr FLR (GApply.mono (by decide)) FApply bApply (ref' dApply.1) (GRings.mono (by decide)) FRings bRings (ref' dRings.1)
  have GRT : FnOk l.prog w K mg base CX0 10 fRT fdRT ["source", "graph"] spRT := ok_rt FRT (GNames.mono (by decide)) FNames bNames (ref' dNames.1) (GShuf.mono (by decide)) FShuf bShuf (ref' dShuf.1) (GApply.mono (by decide)) FApply bApply (ref' dApply.1) (GRings.mono (by decide)) FRings bRings (ref' dRings.1) (GTrs.mono (by decide)) FTrs bTrs (ref' dTrs.1) (GCR.mono (by decide)) FCR bCR (ref' dCR.1) (GTR.mono (by decide)) FTR bTR (ref' dTR.1) (GRR.mono (by decide)) FRR bRR (ref' dRR.1) (GXR.mono (by decide)) FXR bXR (ref' dXR.1) (GLR.mono (by decide)) FLR bLR (ref' dLR.1) (none' z_sorted)
  exact ok_law FLaw (GSource.mono (by decide)) FSource bSource (ref' dSource.1) (GGraph.mono (by decide)) FGraph bGraph (ref' dGraph.1) (GRT.mono (by decide)) FRT bRT (ref' dRT.1) (none' z_range) (none' z_max) (none' z_min) (none' z_len)
end
end K10
open PySem PySem.W PyProof.Rows
set_option maxHeartbeats 0 in
theorem PySem.Challenge.cw_onceswapped_k10_whole_orders_and_trees_holds : PySem.Challenge.rw_onceswapped_k10_whole_orders_and_trees.Holds := by
  w_on; o_law; k_head; (case hw => w_witness2)
  k_fill
  refine Os.walk_ofG (l := PySem.Challenge.rw_onceswapped_k10_whole_orders_and_trees) (n := 63) (k := 11) (x := "script") (sp := fun w => K10.spLaw _) rfl (by decide) rfl ⟨rfl, by decide, by decide⟩ (fun w h Y => PySem.W.kIn_of Y) ?F (fun _ _ a ns hl _ hS => ⟨a, ns, rfl, hS, hl, fun _ => rfl⟩)
  case F =>
    intro w mg fa h KX G hmg
    refine' K10.all_mk KX G hmg ?nMOST_POSITIONS ?nMOST_LETTERS ?dInt ?dAsc ?dCyc ?dSource ?dPick ?dItem ?dSwp ?dRingF ?dLists ?dSteps ?dTN ?dCR ?dPos ?dShuf ?dArr ?dTrees ?dEdge ?dGraph ?dNames ?dChkA ?dChkP ?dForest ?dIsOrd ?dChkF ?dChkO ?dChkR ?dTrs ?dNbr ?dApply ?dMoves ?dTR ?dXR ?dRings ?dRR ?dLR ?dRT ?a13 ?l13 ?c13 ?k13 ?zisinstance ?zint ?zbool ?ztuple ?zlen ?zall ?zzip ?zlist ?zrange ?zmax ?zabs ?zmin ?zsorted ?zstr ?zset ?zenumerate
    (case nMOST_POSITIONS => k_is)
    (case nMOST_LETTERS => k_is)
    (case dInt => refine' K10.Def.of ?a ?l ?c ?k; (case a => k_is); (case l => k_is); (case c => k_is); (case k => k_is))
    (case dAsc => refine' K10.Def.of ?a ?l ?c ?k; (case a => k_is); (case l => k_is); (case c => k_is); (case k => k_is))
    (case dCyc => refine' K10.Def.of ?a ?l ?c ?k; (case a => k_is); (case l => k_is); (case c => k_is); (case k => k_is))
    (case dSource => refine' K10.Def.of ?a ?l ?c ?k; (case a => k_is); (case l => k_is); (case c => k_is); (case k => k_is))
    (case dPick => refine' K10.Def.of ?a ?l ?c ?k; (case a => k_is); (case l => k_is); (case c => k_is); (case k => k_is))
    (case dItem => refine' K10.Def.of ?a ?l ?c ?k; (case a => k_is); (case l => k_is); (case c => k_is); (case k => k_is))
    (case dSwp => refine' K10.Def.of ?a ?l ?c ?k; (case a => k_is); (case l => k_is); (case c => k_is); (case k => k_is))
    (case dRingF => refine' K10.Def.of ?a ?l ?c ?k; (case a => k_is); (case l => k_is); (case c => k_is); (case k => k_is))
    (case dLists => refine' K10.Def.of ?a ?l ?c ?k; (case a => k_is); (case l => k_is); (case c => k_is); (case k => k_is))
    (case dSteps => refine' K10.Def.of ?a ?l ?c ?k; (case a => k_is); (case l => k_is); (case c => k_is); (case k => k_is))
    (case dTN => refine' K10.Def.of ?a ?l ?c ?k; (case a => k_is); (case l => k_is); (case c => k_is); (case k => k_is))
    (case dCR => refine' K10.Def.of ?a ?l ?c ?k; (case a => k_is); (case l => k_is); (case c => k_is); (case k => k_is))
    (case dPos => refine' K10.Def.of ?a ?l ?c ?k; (case a => k_is); (case l => k_is); (case c => k_is); (case k => k_is))
    (case dShuf => refine' K10.Def.of ?a ?l ?c ?k; (case a => k_is); (case l => k_is); (case c => k_is); (case k => k_is))
    (case dArr => refine' K10.Def.of ?a ?l ?c ?k; (case a => k_is); (case l => k_is); (case c => k_is); (case k => k_is))
    (case dTrees => refine' K10.Def.of ?a ?l ?c ?k; (case a => k_is); (case l => k_is); (case c => k_is); (case k => k_is))
    (case dEdge => refine' K10.Def.of ?a ?l ?c ?k; (case a => k_is); (case l => k_is); (case c => k_is); (case k => k_is))
    (case dGraph => refine' K10.Def.of ?a ?l ?c ?k; (case a => k_is); (case l => k_is); (case c => k_is); (case k => k_is))
    (case dNames => refine' K10.Def.of ?a ?l ?c ?k; (case a => k_is); (case l => k_is); (case c => k_is); (case k => k_is))
    (case dChkA => refine' K10.Def.of ?a ?l ?c ?k; (case a => k_is); (case l => k_is); (case c => k_is); (case k => k_is))
    (case dChkP => refine' K10.Def.of ?a ?l ?c ?k; (case a => k_is); (case l => k_is); (case c => k_is); (case k => k_is))
    (case dForest => refine' K10.Def.of ?a ?l ?c ?k; (case a => k_is); (case l => k_is); (case c => k_is); (case k => k_is))
    (case dIsOrd => refine' K10.Def.of ?a ?l ?c ?k; (case a => k_is); (case l => k_is); (case c => k_is); (case k => k_is))
    (case dChkF => refine' K10.Def.of ?a ?l ?c ?k; (case a => k_is); (case l => k_is); (case c => k_is); (case k => k_is))
    (case dChkO => refine' K10.Def.of ?a ?l ?c ?k; (case a => k_is); (case l => k_is); (case c => k_is); (case k => k_is))
    (case dChkR => refine' K10.Def.of ?a ?l ?c ?k; (case a => k_is); (case l => k_is); (case c => k_is); (case k => k_is))
    (case dTrs => refine' K10.Def.of ?a ?l ?c ?k; (case a => k_is); (case l => k_is); (case c => k_is); (case k => k_is))
    (case dNbr => refine' K10.Def.of ?a ?l ?c ?k; (case a => k_is); (case l => k_is); (case c => k_is); (case k => k_is))
    (case dApply => refine' K10.Def.of ?a ?l ?c ?k; (case a => k_is); (case l => k_is); (case c => k_is); (case k => k_is))
    (case dMoves => refine' K10.Def.of ?a ?l ?c ?k; (case a => k_is); (case l => k_is); (case c => k_is); (case k => k_is))
    (case dTR => refine' K10.Def.of ?a ?l ?c ?k; (case a => k_is); (case l => k_is); (case c => k_is); (case k => k_is))
    (case dXR => refine' K10.Def.of ?a ?l ?c ?k; (case a => k_is); (case l => k_is); (case c => k_is); (case k => k_is))
    (case dRings => refine' K10.Def.of ?a ?l ?c ?k; (case a => k_is); (case l => k_is); (case c => k_is); (case k => k_is))
    (case dRR => refine' K10.Def.of ?a ?l ?c ?k; (case a => k_is); (case l => k_is); (case c => k_is); (case k => k_is))
    (case dLR => refine' K10.Def.of ?a ?l ?c ?k; (case a => k_is); (case l => k_is); (case c => k_is); (case k => k_is))
    (case dRT => refine' K10.Def.of ?a ?l ?c ?k; (case a => k_is); (case l => k_is); (case c => k_is); (case k => k_is))
    (case a13 => k_is); (case l13 => k_is); (case c13 => k_is); (case k13 => k_is)
    (case zisinstance => k_is); (case zint => k_is); (case zbool => k_is); (case ztuple => k_is); (case zlen => k_is); (case zall => k_is); (case zzip => k_is); (case zlist => k_is); (case zrange => k_is); (case zmax => k_is); (case zabs => k_is); (case zmin => k_is); (case zsorted => k_is); (case zstr => k_is); (case zset => k_is); (case zenumerate => k_is)
