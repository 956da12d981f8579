import PyProof.Rows.All
import Wide.All
import OpenK.AllK
import Wide.FinOn
import HandS.ForMost
import HandS.Wide
import HandS.IsInst
import HandS.Strs
import PyProof.ReprRoads
import PyProof.StrBlock2
import HandS.Evl
import HandS.Walk
import HandS.Conv
import HandS.Style
import HandS.TupSets
import PyProof.P3Eq
import PyProof.StrLawsRepr
import PyProof.Rows.StrCase
import PyProof.Rows.TmSorted
import HandS.Zip
import HandS.Deep
import HandS.List
import KE.DataMinMax
import KE.DataFind
import PyProof.ListStr
import HandS.FStr
import PySem.Challenge.RW_onceswapped_k92_edges_and_turns_written
set_option Elab.async false
set_option linter.all false
set_option maxRecDepth 100000
set_option maxHeartbeats 8000000
/-! guarded defs: a def's promise where no repr is under way (what repr of a list asks) -/
namespace Os
open PySem PySem.Spec PyProof.Rows L2

section
variable (P : Program) (w : World) (K : PySem.W.Frag) (mg : Str → Option Value) (base : Heap)
/-- the def at f keeps sp at every call that is made while no repr runs -/
structure FnG (k : Nat) (f : Addr) (fd : FuncData) (ps : List Str) (sp : Sp) : Prop where
  arity : ∀ vs H Q E, sp vs H Q E → vs.length = ps.length
  runs : ∀ (B : Around) (out : List Env) (st : Shared) (H : Hp) (ar : Args) (us : List Value) (vs : List V) (Q : VK) (E : XK),
    B.guards = some [] → Room k B → Env0 P w K mg base B out st H →
    BindsTo st fd ar (ps.zip us) → Vals vs us → sp vs H Q E →
    codeAny (model P w) B (.call (.ref f) ar) (CR CX0 out P w H st Q E) st
end

section
variable {P : Program} {w : World} {K : PySem.W.Frag} {mg : Str → Option Value} {base : Heap}

theorem FnG.of {k : Nat} {f : Addr} {fd : FuncData} {ps : List Str} {sp : Sp}
    (F : FnOk P w K mg base CX0 k f fd ps sp) : FnG P w K mg base k f fd ps sp :=
  ⟨F.len, fun B out st H ar us vs Q E _ => F.run B out st H ar us vs Q E⟩

theorem FnG.mono {j k : Nat} {f : Addr} {fd : FuncData} {ps : List Str} {sp : Sp} (F : FnG P w K mg base j f fd ps sp) (h : j ≤ k) : FnG P w K mg base k f fd ps sp :=
  ⟨F.arity, fun B out st H ar us vs Q E gd hr => F.runs B out st H ar us vs Q E gd (hr.mono h)⟩
/-- the rule for a def, the guards told to its body -/
theorem okG {x qual : Str} {st : Stmt} {f : Addr} {fd : FuncData} {N ps : List Str} {k : Nat} {sp : Sp}
    (F : Fun K x qual st f fd) (S : FnScope N ps (defScope st))
    (ar : ∀ vs H Q E, sp vs H Q E → vs.length = ps.length)
    (body : ∀ (cdv : Value) (B : Around) (out : List Env) (s : Shared) (H : Hp) (vs : List V) (Q : VK) (E : XK),
      B.guards = some [] → Room k (B.deeper (envOfC qual (defScope st) s.heap.objs.size f cdv)) → sp vs H Q E →
      ∃ t, PSs (cxOf CX0 P w K mg base N qual (defScope st) f cdv B out s H E).nox (defBody st) t ∧
        t { nx := fun _ H' => Q .non H', rt := Q } (start N vs) H) :
    FnG P w K mg base (k + 1) f fd ps sp := by
  obtain ⟨oc, od, kV, doc, pm, an, cd, ct, sl, efd, look, code⟩ := F.ex
  subst efd
  refine ⟨ar, ?_⟩
  intro B out s H args us vs Q E gd hr e0 hb rel hsp
  have hlen := ar _ _ _ _ hsp
  have inK : K.In s.heap := e0.mod.kin.keeps fun b o q => (e0.bs b o q).1
  have lim : s.heap.NoLimit :=
    e0.mod.nolimit.keeps fun b o q => (e0.bs b o q).1
  have kinds : ∀ y ∈ ps.zip us, (defScope st).names.lookup y.1 = some .local ∨
      ((defScope st).names.lookup y.1 = some .cell ∧ ((cellsFrom (s.heap.objs.size + 1) (defScope st).names []).lookup y.1).isSome = true) := by
    rintro ⟨n, v⟩ hy
    cases S.par n (List.of_mem_zip hy).1 with
    | inl q => exact .inl q
    | inr q => exact .inr ⟨q, PySem.W.cellsFrom_some _ _ _ (.inl q)⟩
  refine codeAny_call_function hr.depth (inK _ _ look) rfl S.co S.gen rfl (PySem.W.codeRec_of inK code) (hb _ _ _ _ ?_)
  refine wpAny_newFunctionEnv_cells S.kind kinds fun env ee s1 x => ?_
  cases ee
  refine ⟨lim.keeps x.toInCall.keep, codeAny_func ?_⟩
  obtain ⟨t, ht, hq⟩ := body cd B out s H vs Q E gd (hr.deeper _) hsp
  have I := inv_start (CX := CX0) (E := E) S hr.hd e0 hlen rel x
  refine wpAny_mono (ht.nox.run [] s1 (start N vs) H _ I hq) (fun fl s' hs => ?_) (fun _ _ z => z)
  cases fl with
  | ret u =>
    obtain ⟨v, sg, H', J, rv, q⟩ := hs
    exact ⟨v, H', J.os, J.bare, J.base, J.hok, rv, q⟩
  | next =>
    obtain ⟨sg, H', J, q⟩ := hs
    exact ⟨V.non, H', J.os, J.bare, J.base, J.hok, rfl, q⟩
  | brk => exact (hs.elim fun _ z => z.elim fun _ z => z.2).elim
  | cont => exact (hs.elim fun _ z => z.elim fun _ z => z.2).elim
end

section
variable {X : Cx} {k : Nat} {f : Addr} {fd : FuncData} {ps : List Str} {sp : Sp} {x : Str} {p pos : Pos} {e : Expr} {es : List Expr} {t : TA}
/-- a call of such a def -/
theorem pe_callG (F : FnG X.prog X.w X.K X.mg X.base k f fd ps sp) (gd : X.A.guards = some []) (hr : Room k X.A) (hg : Gl X x)
    (hm : X.mg x = some (.ref f)) (hk : PySem.W.keepIn X.K (.ref f) = true) (hb : Binds X.K fd ps [])
    (ha : PA X (e :: es) t) (hdb : (x == ("__debug__" : Str)) = false := by decide)
    (he : starEach (e :: es) X.env = (false, eval e X.env) :: starEach es X.env := by rfl)
    (hpl : (backTo pos (starEach es X.env)).any (·.1) = false := by rfl) :
    PE X (.Call (.Name x p) (e :: es) [] pos) (tCall sp [] E0 t) := by
  constructor
  intro pins s sg H Q I h
  refine wpAny_Call_Name_kw (ld_glob I hg hm ?_ hdb)
  refine PySem.W.callWith_K (h₀ := X.base) I.ok.mod.kin hk (thn (ha.run pos pins s sg H _ I h) ?_) he hpl
  rintro us s1 ⟨vs, H1, I1, r, q⟩
  refine ⟨I1.kIn, ?_⟩
  have r2 : Vals (vs ++ []) (us ++ []) := r.append .nil
  have hl : (us ++ []).length = ps.length := by
    rw [← r2.length]
    exact F.arity _ _ _ _ q
  refine wpAny_call (codeAny_mono (F.runs X.A X.stack s1 H1 ⟨us, []⟩ (us ++ []) (vs ++ []) Q E0 gd hr I1.env0 (hb s1 us I1.kIn hl) r2 q) ?_)
  intro rr s' hq
  match rr, hq with
  | .ok (.ret u), hq => exact I1.after hq
  | .ok .next, hq => exact hq.elim
  | .ok .brk, hq => exact hq.elim
  | .ok .cont, hq => exact hq.elim
  | .error _, hq => exact hq.elim
end

section
variable {P : Program} {w : World} {K : PySem.W.Frag} {mg mb : Str → Option Value} {k : Nat} {fa a : Addr} {fd : FuncData} {x : Str} {sp : Sp} {s1 : Shared} {vs : List Value} {ns : List Int}
/-- the heap that tracks at most the script -/
structure Bare (K : PySem.W.Frag) (a : Addr) (o : Obj) (h : Heap) (H : Hp) : Prop where
  only : Only H
  at' : ∀ b, H b ≠ none → b = a
  out : H a ≠ none → K.lookup a = none
theorem Bare.stay {o : Obj} {h : Heap} {H : Hp} (B : Bare K a o h H) (ho : h.get? a = some o) {b : Addr} {q : Obj} (e : h.get? b = some q) (no : b = a → q ≠ o) : H b = none :=
  Decidable.byContradiction fun z => by
    have eb := B.at' b z
    rw [eb, ho] at e
    exact no eb (Option.some.inj e).symm
theorem law_run (KX : K.In s1.heap) (hns : s1.heap.Ns mainGlobals mg) (hb : s1.heap.Ns builtinsNs mb)
    (hbb : ∀ x : Str, x ≠ "__name__" → mb x = bootBuiltins x) (hlim : s1.heap.NoLimit) (hg : s1.gens = #[])
    (ha : s1.heap.get? a = some { cls := .type "list", data := .seq vs.toArray }) {H : Hp} (B : Bare K a { cls := .type "list", data := .seq vs.toArray } s1.heap H)
    (ok : HOk P w H s1.heap) (hr : Room k callerA)
    (F : ∀ base : Heap, K.In base → base.Ns mainGlobals mg → FnG P w K mg base k fa fd [x] sp)
    (hbind : ∀ (s : Shared) (u : Value), BindsTo s fd ⟨[u], []⟩ [(x, u)])
    (hsp : sp [.ref a] H (fun v _ => v = .bl true) fun _ _ _ => False) :
    codeAny (model P w) callerA (.call (.ref fa) ⟨[.ref a], []⟩)
      (fun r s' => r = .ok (.ret (.bool true)) ∧ OldK s1.heap s'.heap ∧ s'.os = s1.os ∧ AllBare s'.gens) s1 := by
  have dictStays : ∀ {b : Addr} {m : Str → Option Value}, s1.heap.Ns b m → (hidT s1.heap H).Ns b m := by
    rintro b m ⟨o, es, ep, e, d, r⟩
    refine ⟨o, es, ep, hidT_get e (B.stay ha e fun _ z => ?_), d, r⟩
    subst z
    exact nomatch (show Data.seq vs.toArray _ = Data.dict es ep from d)
  have keptK : K.In (hidT s1.heap H) := fun b o e => hidT_get (KX b o e) <| Decidable.byContradiction fun z => by
    have eb := B.at' b z
    subst eb
    have := B.out z
    rw [e] at this
    cases this
  have M : Mod K mg (hidT s1.heap H) := by
    obtain ⟨mc, h1, h2⟩ := hlim
    exact ⟨keptK, dictStays hns, ⟨mb, dictStays hb, hbb⟩, ⟨mc, dictStays h1, h2⟩⟩
  have e0 : Env0 P w K mg (hidT s1.heap H) callerA [] s1 H := {
    frames := rfl, mod := M, bs := fun b o e => of_hidT e, bsz := Nat.le_of_eq (hidT_size _ _), funs := trivial,
    frf := fun b z => absurd (show b ∈ ([] : List Addr) from z) (by simp), hok := ok, bare := .of_eq hg }
  refine codeAny_mono ((F _ keptK (dictStays hns)).runs callerA [] s1 H ⟨[.ref a], []⟩ [.ref a] [.ref a] _ _ rfl hr e0 (hbind s1 (.ref a)) (.cons rfl .nil) hsp) ?_
  intro r s' hq
  match r, hq with
  | .error _, hq => exact hq.elim
  | .ok .next, hq => exact hq.elim
  | .ok .brk, hq => exact hq.elim
  | .ok .cont, hq => exact hq.elim
  | .ok (.ret u), ⟨v, H', os, bare, un, ok', r', q⟩ =>
    have q1 : v = .bl true := q
    subst q1
    have ru : u = Value.bool true := r'
    subst ru
    refine ⟨rfl, OldK.of_keep fun b o e => ?_, os, bare⟩
    rcases B.only b with z | ⟨ob, xs, z⟩
    · exact un.keep b o e z (fun y => absurd (show b ∈ ([] : List Addr) from y) (by simp)) (by simp)
    · have e1 := (ok b _ z).1
      have e2 := (ok' b _ (un.frzs b ob _ z)).1
      rw [e] at e1
      rw [e2, e1]
theorem law_callG (KX : K.In s1.heap) (hns : s1.heap.Ns mainGlobals mg) (hb : s1.heap.Ns builtinsNs mb)
    (hbb : ∀ x : Str, x ≠ "__name__" → mb x = bootBuiltins x) (hlim : s1.heap.NoLimit) (hg : s1.gens = #[])
    (ha : s1.heap.get? a = some { cls := .type "list", data := .seq vs.toArray }) (hi : IntsAre vs ns) (hl : ns.length ≤ sizeLine) (hr : Room k callerA)
    (F : ∀ base : Heap, K.In base → base.Ns mainGlobals mg → FnG P w K mg base k fa fd [x] sp)
    (hbind : ∀ (s : Shared) (u : Value), BindsTo s fd ⟨[u], []⟩ [(x, u)])
    (hsp : ∀ H : Hp, Only H → SqL K H a (ns.map V.int) → sp [.ref a] H (fun v _ => v = .bl true) fun _ _ _ => False) :
    codeAny (model P w) callerA (.call (.ref fa) ⟨[.ref a], []⟩)
      (fun r s' => r = .ok (.ret (.bool true)) ∧ OldK s1.heap s'.heap ∧ s'.os = s1.os ∧ AllBare s'.gens) s1 := by
  have rv : Vals (ns.map V.int) vs := vals_ints hi
  have hlen : vs.length = ns.length := hi.length
  by_cases hk : ∃ o, K.lookup a = some o
  · obtain ⟨o, hk⟩ := hk
    have e := KX a o hk
    rw [ha] at e
    have eo := Option.some.inj e
    subst eo
    have hO : Only (fun _ => none) := fun _ => .inl rfl
    refine law_run KX hns hb hbb hlim hg ha (H := fun _ => none) ⟨hO, fun b z => absurd rfl z, fun z => absurd rfl z⟩ (fun b u z => nomatch (show (none : Option HO) = some u from z)) hr F hbind (hsp _ hO ?_)
    exact .inr ⟨_, vs.toArray, _, hk, rfl, rfl, rfl, by rw [List.size_toArray, hlen]; exact hl, by simpa using rv⟩
  · have hk0 : K.lookup a = none := Option.eq_none_iff_forall_ne_some.mpr fun o q => hk ⟨o, q⟩
    let H1 : Hp := upd (fun _ => none) a (.frz { cls := .type "list", data := .seq vs.toArray } (.lst (ns.map V.int)))
    have at1 : ∀ b, H1 b ≠ none → b = a := fun b z => Decidable.byContradiction fun n => z (upd_ne n)
    have hO : Only H1 := fun b => by
      by_cases n : b = a
      · exact .inr ⟨_, _, by rw [n]; exact upd_same⟩
      · exact .inl (upd_ne n)
    refine law_run KX hns hb hbb hlim hg ha (H := H1) ⟨hO, at1, fun _ => hk0⟩ (fun b u z => ?_) hr F hbind (hsp _ hO (.inl (.inr ⟨_, upd_same⟩)))
    have eb := at1 b (by rw [z]; exact fun q => nomatch q)
    subst eb
    have z2 : some (HO.frz { cls := .type "list", data := .seq vs.toArray } (.lst (ns.map V.int))) = some u := upd_same.symm.trans z
    cases z2
    exact ⟨ha, by rw [List.length_map]; exact hl, vs, _, rv, ha⟩

/-- the goal that k_head leaves, from the law's guarded promise -/
theorem walk_ofG {l : PySem.W.OpenLaw} {n k : Nat} {q : Program} {loose : List Str} {XP : (Str → Option Value) → Heap → Prop} {YP : World → Heap → Prop}
    {d : DefRec} {K : Params → PySem.W.Frag} {sp : World → Sp} {x : Str}
    (hn : l.most = some n) (hn2 : n ≤ sizeLine) (hdf : d.params.defaults = []) (hr : Room k callerA)
    (hY : ∀ (w : World) (h : Heap), YP w h → (K w.params).In h)
    (F : ∀ (w : World) (mg : Str → Option Value) (fa : Addr) (h : Heap), (K w.params).In h → h.Ns mainGlobals mg → mg d.name = some (.ref fa) →
      ∃ fd : FuncData, (∀ (s : Shared) (u : Value), BindsTo s fd ⟨[u], []⟩ [(x, u)]) ∧
        ∀ base : Heap, (K w.params).In base → base.Ns mainGlobals mg → FnG l.prog w (K w.params) mg base k fa fd [x] (sp w))
    (hsp : ∀ (w : World) (H : Hp) (a : Addr) (ns : List Int), ns.length ≤ n → Only H → SqL (K w.params) H a (ns.map V.int) →
      sp w [.ref a] H (fun v _ => v = .bl true) fun _ _ _ => False) :
    PySem.W.WalkO q loose XP YP l.row.toRowW d [] (fun f vs => PySem.call f vs) :=
  Att.attach_call hn hdf fun w s₀ s₁ mg mb fa o pm cd doc a vs ns G Y ho hd hcd hmg hobj hints hlen hg =>
    have KX := hY w _ Y
    match F w mg fa _ KX G.T.g hmg with
    | ⟨_, hb, hF⟩ => law_callG KX G.T.g G.T.b G.T.builtins G.T.nolimit hg hobj hints (Nat.le_trans hlen hn2) hr hF hb
        (fun H hO hS => hsp w H a ns hlen hO hS)
end

/-! ### a call by keywords alone, in the opposite order of the parameters -/
def revG (us ws : List Value) : List Value := match us with
  | [] => ws.reverse
  | _ => []
def revV (us ws : List V) : List V := match us with
  | [] => ws.reverse
  | _ => []
theorem Vals.rev : ∀ {vs : List V} {us : List Value}, Vals vs us → Vals vs.reverse us.reverse
  | _, _, .nil => .nil
  | _, _, .cons r t => by
    rw [List.reverse_cons, List.reverse_cons]
    exact Vals.append (Vals.rev t) (.cons r .nil)
theorem revK {K : PySem.W.Frag} {fd : FuncData} {ps ks : List Str} (hp : ps ≠ []) (h : ∀ ws : List Value, ws.length = ps.length → bindArgs fd ⟨[], ks.zip ws⟩ = pure (ps.zip ws.reverse)) : KBinds K fd ps ks revG revV where
  to := fun s us ws _ hl => by
    cases us with
    | nil => exact .of_eq (h ws (by rw [← hl]; exact (List.length_reverse).symm))
    | cons u us =>
      have hl' : ([] : List Value).length = ps.length := hl
      exact absurd (List.length_eq_zero_iff.mp hl'.symm) hp
  rel := fun {vs us zs ws} r1 r2 => by
    cases r1 with
    | nil => exact Vals.rev r2
    | cons _ _ => exact .nil
theorem funRevK {K : PySem.W.Frag} {x qual : Str} {st : Stmt} {f : Addr} {fd : FuncData} {ps ks : List Str} (F : Fun K x qual st f fd) (hp : ps ≠ [])
    (h : ∀ (kV doc pm : Value) (an : Option Addr) (cdv ct : Value) (ws : List Value), ws.length = ps.length →
      bindArgs (PySem.W.fnOf x qual (defArgs st) (defBody st) (defScope st) .none kV doc pm an cdv ct) ⟨[], ks.zip ws⟩ = pure (ps.zip ws.reverse)) : KBinds K fd ps ks revG revV := by
  obtain ⟨oc, od, kV, doc, pm, an, cd, ct, sl, efd, look, code⟩ := F.ex
  subst efd
  exact revK hp (h kV doc pm an cd ct)
section
variable {X : Cx} {CX : CXT} {k : Nat} {f : Addr} {fd : FuncData} {ps ks : List Str} {sp : Sp} {E : XK} {x : Str} {p pos : Pos} {kws : List Keyword} {tk : TA} {g : List Value → List Value → List Value} {gV : List V → List V → List V}
theorem pe_callK0 (F : FnOk X.prog X.w X.K X.mg X.base CX k f fd ps sp) (hr : Room k X.A) (hg : Gl X x) (hm : X.mg x = some (.ref f)) (hk : PySem.W.keepIn X.K (.ref f) = true)
    (hb : KBinds X.K fd ps ks g gV) (hx : Passes CX X E) (hkw : PK X kws tk)
    (hall : (backToKw pos (keywordEach kws X.env)).all (·.1.isSome) = true := by rfl)
    (hks : (backToKw pos (keywordEach kws X.env)).filterMap (·.1) = ks := by rfl)
    (hdb : (x == ("__debug__" : Str)) = false := by decide)
    (hpl : ((backTo pos (starEach [] X.env)).any (·.1) || (backToKw pos (keywordEach kws X.env)).any (·.1.isNone)) = false := by rfl) :
    PE X (.Call (.Name x p) [] kws pos) (tCallK sp gV E tNil tk) := by
  constructor
  intro pins s sg H Q I h
  refine wpAny_Call_Name_kw (ld_glob I hg hm ?_ hdb)
  refine PySem.W.callWith_KW0 (h₀ := X.base) I.ok.mod.kin hk hall (thn (hkw.run pos pins s sg H _ I h) ?_) hpl
  rintro ws s2 ⟨zs, H2, I2, rz, q2⟩
  refine ⟨I2.kIn, ?_⟩
  rw [hks]
  exact run_fnk (us := []) (vs := []) F hr hb hx I2 .nil rz q2
end
end Os
/-! further rules by values: ** of great ints, repr of data, len(set(texts)), text * int, a call by keywords alone -/
namespace Os
open PySem PySem.Spec PyProof.Rows L2

/-! ### great powers -/
section
variable {X : Cx}
theorem op_powW : OpR X (binaryOp .Pow) (rI (fun i j => 0 ≤ j ∧ (Builtin.Int.intBits i : Int) * j ≤ 2 ^ 27) fun i j => .int (i ^ j.toNat)) :=
  opI fun _ _ _ _ _ _ _ hc q => pow_int hc.1 hc.2 q
end
theorem cube_ok {i : Int} {n : Nat} (h : i.natAbs < 2 ^ n) (h0 : 0 < n) (hn : n ≤ 1000000) : (0 : Int) ≤ 3 ∧ (Builtin.Int.intBits i : Int) * 3 ≤ 2 ^ 27 := by
  have hl := PySem.Flt.log2_lt_of h0 h
  have hb : Builtin.Int.intBits i ≤ i.natAbs.log2 + 1 := by
    unfold Builtin.Int.intBits
    split <;> omega
  omega

/-! ### text * int -/
section
variable {X : Cx}
def rMulS : R2 := fun x y H Q => ∃ (z : Str) (n : Int), x = .str z ∧ y = .int n ∧ MulOk z n ∧ Q (.str (Txt.mul z n)) H
theorem op_mulS : OpR X (binaryOp .Mult) rMulS := by
  intro pins s sg H x y v u Q I rx ry h
  obtain ⟨z, n, rfl, rfl, ok, q⟩ := h
  obtain ⟨t, rfl⟩ := rx
  obtain ⟨t', rfl⟩ := ry
  exact PySem.SB.mul ok fun t2 k => ⟨.str _, H, I.tok _, ⟨_, rfl⟩, q⟩
theorem mul_small {z : Str} {n : Int} (h0 : 0 ≤ n) (h1 : n ≤ 1000) (hz : z.length ≤ 1000) : MulOk z n := by
  refine ⟨?_, fun h _ => ?_, fun h _ => ?_⟩
  · rw [decide_eq_false (by omega), decide_eq_false (by omega)]
    rfl
  · have hn : 0 < n := by omega
    have : (1000 : Int) ≤ (2 ^ 63 - 1) / n := (Int.le_ediv_iff_mul_le hn).mpr (by omega)
    omega
  · have hm : z.length * n.toNat ≤ 1000 * 1000 := Nat.mul_le_mul hz (by omega)
    unfold Builtin.Str.tooLong
    have hl : (1000 * 1000 : Nat) ≤ sizeLine := by decide
    simp only [decide_eq_false_iff_not]
    omega
end

/-! ### data that stands in the tracked heap -/
mutual
inductive Dt (H : Hp) : V → PyData → Prop
  | non : Dt H .non .none
  | bl (b : Bool) : Dt H (.bl b) (.bool b)
  | int (i : Int) : Dt H (.int i) (.int i)
  | str (x : Str) : Dt H (.str x) (.str x)
  | lst {a : Addr} {xs : List V} {ds : List PyData} : H a = some (.lst xs) → Dts H xs ds → Dt H (.ref a) (.list ds)
  | tup {a : Addr} {xs : List V} {ds : List PyData} : H a = some (.tup xs) → Dts H xs ds → Dt H (.ref a) (.tuple ds)
inductive Dts (H : Hp) : List V → List PyData → Prop
  | nil : Dts H [] []
  | cons {v : V} {vs : List V} {d : PyData} {ds : List PyData} : Dt H v d → Dts H vs ds → Dts H (v :: vs) (d :: ds)
end
section
variable {H H' : Hp}
mutual
theorem Dt.same (e : Same H H') : ∀ {d : PyData} {v : V}, Dt H v d → Dt H' v d
  | _, _, .non => .non
  | _, _, .bl b => .bl b
  | _, _, .int i => .int i
  | _, _, .str x => .str x
  | _, _, .lst h t => .lst (e _ _ h) (Dts.same e t)
  | _, _, .tup h t => .tup (e _ _ h) (Dts.same e t)
theorem Dts.same (e : Same H H') : ∀ {ds : List PyData} {vs : List V}, Dts H vs ds → Dts H' vs ds
  | _, _, .nil => .nil
  | _, _, .cons h t => .cons (Dt.same e h) (Dts.same e t)
end
mutual
theorem Dt.dp {K : PySem.W.Frag} : ∀ {d : PyData} {v : V}, Dt H v d → Dp K H v d
  | _, _, .non => .non
  | _, _, .bl b => .bl b
  | _, _, .int i => .int i
  | _, _, .str x => .str x
  | _, _, .lst h t => .lst (.inl (.inl h)) (Dts.dp t)
  | _, _, .tup h t => .tup (.inl (.inl h)) (Dts.dp t)
theorem Dts.dp {K : PySem.W.Frag} : ∀ {ds : List PyData} {vs : List V}, Dts H vs ds → DpAll K H vs ds
  | _, _, .nil => .nil
  | _, _, .cons h t => .cons (Dt.dp h) (Dts.dp t)
end
theorem Dts.length : ∀ {ds : List PyData} {vs : List V}, Dts H vs ds → vs.length = ds.length
  | _, _, .nil => rfl
  | _, _, .cons _ t => congrArg (· + 1) (Dts.length t)
theorem Dts.get : ∀ {ds : List PyData} {vs : List V} {i : Nat} {v : V}, Dts H vs ds → vs[i]? = some v → ∃ d, ds[i]? = some d ∧ Dt H v d
  | _, _, _, _, .nil, e => by simp at e
  | _, _, 0, _, .cons h _, e => by simp at e; subst e; exact ⟨_, rfl, h⟩
  | _, _, i + 1, v, .cons _ t, e => by
    obtain ⟨d, h1, h2⟩ := Dts.get (i := i) (v := v) t (by simpa using e)
    exact ⟨d, by simpa using h1, h2⟩
end

/-! ### repr of such data -/
section
variable {X : Cx}
/-- how large data is when it is shown -/
structure Fit (n : Nat) (d : PyData) : Prop where
  long : d.shown.length ≤ n
  deep : d.depth ≤ 40
  show' : d.showable = true
  flat : d.hasDict = false
def rRepr : List V → Hp → VK → Prop := fun xs H Q => ∃ (x : V) (d : PyData), xs = [x] ∧ Dt H x d ∧ Fit sizeLine d ∧ Q (.str d.shown) H
theorem call_repr (gd : X.A.guards = some []) (hu : X.A.units + 64 < cLine) : CallR X (.builtin "repr") rRepr := by
  intro pins s sg H xs us Q I r h
  obtain ⟨x, d, e, hd, fit, q⟩ := h
  subst e
  obtain ⟨u, rfl, ru⟩ := Vals.one r
  have line : d.shown.length ≤ sizeLine := fit.long
  match d, x, hd with
  | _, _, .non =>
    cases ru
    exact PySem.P.repr_of_none ⟨.str _, H, I.tok _, ⟨_, rfl⟩, by simpa only [PyData.shown] using q⟩
  | _, _, .bl b =>
    cases ru
    exact PySem.P.repr_of_bool ⟨.str _, H, I.tok _, ⟨_, rfl⟩, by simpa only [PyData.shown] using q⟩
  | _, _, .int i =>
    obtain ⟨t, rfl⟩ := ru
    have hz : i.natAbs.log2 < 1920 := of_decide_eq_true (by simpa only [PyData.showable] using fit.show')
    exact PySem.P.repr_of_int hz ⟨.str _, H, I.tok _, ⟨_, rfl⟩, by simpa only [PyData.shown] using q⟩
  | _, _, .str z =>
    obtain ⟨t, rfl⟩ := ru
    exact PySem.P.repr_of_str ⟨.str _, H, I.tok _, ⟨_, rfl⟩, by simpa only [PyData.shown] using q⟩ (by simpa only [PyData.shown] using line)
  | _, _, .lst ha ht =>
    obtain ⟨as, rd⟩ := Dp.reads I _ _ u (Dt.dp (.lst ha ht)) ru
    cases ru
    refine PySem.repr_of_reads' rd fit.show' (PyData.noDict_hsm fit.flat) gd (by have := fit.deep; omega) (fun _ _ z => z) (fun h' u' tk k => ?_) line
    exact ⟨.str _, H, I.kept k, ⟨_, rfl⟩, q⟩
  | _, _, .tup ha ht =>
    obtain ⟨as, rd⟩ := Dp.reads I _ _ u (Dt.dp (.tup ha ht)) ru
    cases ru
    refine PySem.repr_of_reads' rd fit.show' (PyData.noDict_hsm fit.flat) gd (by have := fit.deep; omega) (fun _ _ z => z) (fun h' u' tk k => ?_) line
    exact ⟨.str _, H, I.kept k, ⟨_, rfl⟩, q⟩
end
end Os
/-! len(set(xs)), xs a list of texts of any number below 4000 -/
namespace Os
open PySem PySem.Spec PyProof.Rows L2

/-- the texts met so far, each once -/
def once : List Str → List Str
  | [] => []
  | x :: r => if x ∈ once r then once r else x :: once r
/-- the same from the left, over the first i of them -/
def met (xs : List Str) (i : Nat) : List Str := once (xs.take i).reverse
theorem met_zero (xs : List Str) : met xs 0 = [] := rfl
theorem met_succ {xs : List Str} {i : Nat} {x : Str} (h : xs[i]? = some x) : met xs (i + 1) = if x ∈ met xs i then met xs i else x :: met xs i := by
  unfold met
  rw [List.take_add_one, h]
  show once ((xs.take i ++ [x]).reverse) = _
  rw [List.reverse_append]
  rfl
theorem once_mem : ∀ {l : List Str} {x : Str}, x ∈ once l ↔ x ∈ l
  | [], _ => Iff.rfl
  | y :: r, x => by
    have ih := @once_mem r
    unfold once
    split
    · rename_i hy
      rw [ih, List.mem_cons]
      exact ⟨.inr, fun z => z.elim (fun e => by rw [e]; exact ih.mp hy) id⟩
    · rw [List.mem_cons, List.mem_cons, ih]
theorem once_le : ∀ l : List Str, (once l).length ≤ l.length
  | [] => Nat.le_refl _
  | y :: r => by
    have ih := once_le r
    unfold once
    split
    · exact Nat.le_succ_of_le ih
    · exact Nat.succ_le_succ ih
theorem once_nodup : ∀ l : List Str, (once l).length = l.length ↔ l.Nodup
  | [] => ⟨fun _ => .nil, fun _ => rfl⟩
  | y :: r => by
    have ih := once_nodup r
    have le := once_le r
    unfold once
    rw [List.nodup_cons]
    split
    · rename_i hy
      constructor
      · intro e
        rw [List.length_cons] at e
        omega
      · intro e
        exact absurd (once_mem.mp hy) e.1
    · rename_i hy
      rw [List.length_cons, List.length_cons]
      constructor
      · intro e
        exact ⟨fun z => hy (once_mem.mpr z), ih.mp (Nat.succ.inj e)⟩
      · intro e
        rw [ih.mpr e.2]
theorem met_le (xs : List Str) (i : Nat) : (met xs i).length ≤ i := by
  refine Nat.le_trans (once_le _) ?_
  rw [List.length_reverse, List.length_take]
  exact Nat.min_le_left _ _
theorem met_all (xs : List Str) : (met xs xs.length).length = xs.length ↔ xs.Nodup := by
  unfold met
  rw [List.take_length]
  have := once_nodup xs.reverse
  rw [List.length_reverse] at this
  rw [this]
  unfold List.Nodup
  rw [List.pairwise_reverse]
  exact ⟨fun h => h.imp fun a => a.symm, fun h => h.imp fun a => a.symm⟩

section
variable {prog : Program} {w : World} {A : Around} {R : Result → Shared → Prop} {I : Addr} {fp wr : List Addr} {G : Array GenState → Array GenState → Prop} {n : Nat} {P : Nat → Value → Prop} {St : Nat → Shared → Prop}
/-- what the set at S holds behind i turns -/
abbrev Holds (prog : Program) (w : World) (xs : List Str) (S : Addr) (i : Nat) (h : Heap) : Prop :=
  h.SetOf (PySem.strKind prog w) S (fun k => decide (k ∈ met xs i)) (met xs i).length
theorem set_fill (W : WalksS prog w A.in1 I fp wr G n P St) (S : Addr) (out : S ∉ fp) (xs : List Str)
    (ln : xs.length = n) (val : ∀ i v, P i v → ∃ x t, xs[i]? = some x ∧ v = .str x t) (room : n + 1 < scanBound) :
    ∀ (left i : Nat) (s : Shared), i + left = n → St i s → Holds prog w xs S i s.heap →
      (∀ s', Moved (S :: wr) G s s' → Holds prog w xs S n s'.heap → R (.ok (.ret .none)) s') →
      codeAny (model prog w) A (.builtin "set.update.loop" ⟨[.ref S, .ref I], []⟩) R s := by
  have noS : S ∉ wr := fun z => out (W.sub _ z)
  have more : ∀ b ∈ wr, b ∈ S :: wr := fun _ z => List.mem_cons_of_mem _ z
  have carried : ∀ {i : Nat} {s s' : Shared}, Moved wr G s s' → Holds prog w xs S i s.heap → Holds prog w xs S i s'.heap := by
    rintro i s s' mv ⟨o, es, ep, t, ho, rest⟩
    exact ⟨o, es, ep, t, mv.heap S _ noS ho, rest⟩
  intro left
  induction left with
  | zero =>
    intro i s e st hS fin
    have ein : i = n := e
    subst ein
    refine codeAny_builtin PyProof.Rows.F.entry_set_update_loop ?_
    rw [Around.under_plainId PyProof.Rows.F.plain_set_update_loop _]
    refine wpAny_bind (m := pyNext (.ref I)) (W.done s _ _ st fun s' mv => ?_)
    exact wpAny_pure (fin s' (mv.mono more) (carried mv hS))
  | succ left ih =>
    intro i s e st hS fin
    have lt : i < n := by omega
    refine codeAny_builtin PyProof.Rows.F.entry_set_update_loop ?_
    rw [Around.under_plainId PyProof.Rows.F.plain_set_update_loop _]
    refine wpAny_bind (m := pyNext (.ref I)) (W.item i s _ _ lt st fun v s' hP st' mv => ?_)
    obtain ⟨x, t, hx, ev⟩ := val i v hP
    subst ev
    have hS1 := carried mv hS
    show wpAny _ A.in1 (holding [Value.str x t] (setAdd S (.str x t)) >>= _) _ _ s'
    refine wpAny_bind (wpAny_holding ?_)
    unfold setAdd
    refine wpAny_holding (wpAny_bind ((PySem.strKind prog w).pyHash (k := x) (strKind_is _ _ _ _) ?_))
    have fits : (met xs i).length + 1 < scanBound := by
      have := met_le xs i
      omega
    refine wpAny_setAddHashed_of (knd := PySem.strKind prog w) (s := { s' with toks := s'.toks + 1 }) (strKind_is _ _ _ _) rfl hS1 fits fun h' same hS2 => ?_
    have hS3 : Holds prog w xs S (i + 1) h' := by
      refine PyProof.Rows.SetOf_congr hS2 (fun k => ?_) ?_
      · rw [met_succ hx]
        by_cases m : x ∈ met xs i
        · rw [if_pos m]
          by_cases ek : k = x
          · subst ek
            simp [m]
          · simp [ek]
        · rw [if_neg m]
          by_cases ek : k = x
          · subst ek
            simp
          · simp [ek]
      · rw [met_succ hx]
        by_cases m : x ∈ met xs i
        · simp [m]
        · simp [m]
    refine wpAny_pure ⟨plainId_quiet PyProof.Rows.F.plain_set_update_loop _, ih (i + 1) _ (by omega) (W.frame _ s' _ _ st' (Nat.le_succ _) fun b hb o q => ?_) hS3 fun s2 mv2 hS4 => ?_⟩
    · rw [same.2 b (fun z : b = S => out (by rw [← z]; exact hb))]
      exact q
    · refine fin s2 (Moved.trans W.gtrans ((mv.mono more).then_heap (Nat.le_succ _) fun b o hb q => ?_) mv2) hS4
      rw [same.2 b (fun z : b = S => hb (by rw [z]; exact List.mem_cons_self))]
      exact q
end

section
variable {prog : Program} {w : World} {A : Around} {E : Value → Shared → Prop} {s : Shared}
/-- a new set -/
abbrev freshSet (led : Bool) : Obj := { cls := .type "set", dict := none, data := .set #[] 0 (.fresh 0 0 led) }
/-- its __init__ over a list of texts -/
theorem init_set_strs {l : Addr} {items : Array Value} {xs : List Str} {led : Bool} {R : Result → Shared → Prop} (hh : A.handled = none)
    (hl : s.heap.IsList l items) (hi : PyProof.Rows.StrsAre items.toList xs) (room : xs.length + 1 < scanBound)
    (h : ∀ (h' : Heap) (tk : Nat), Holds prog w xs s.heap.objs.size xs.length h' →
      (∀ b o, b < s.heap.objs.size → s.heap.get? b = some o → h'.get? b = some o) → R (.ok (.ret .none)) { s with heap := h', toks := tk }) :
    wpAny (model prog w) A.in1 (Builtin.«set.__init__» ⟨[.ref s.heap.objs.size, .ref l], []⟩) (fun fin s' => match fin with
        | .done f => R (.ok f) s'
        | .again c => c.quiet = true ∧ codeAny (model prog w) A c R s')
      (fun e s' => R (.error e) s') { s with heap := s.heap.push (freshSet led) } := by
  obtain ⟨⟨_, od, _, osl⟩, hol, rfl, nl, rfl⟩ := hl
  have there : (s.heap.push (freshSet led)).get? l = some ⟨.type "list", od, .seq items nl, osl⟩ := Heap.get?_push_of_some _ hol
  have newAt : (s.heap.push (freshSet led)).get? s.heap.objs.size = some (freshSet led) := Heap.get?_push_size _ rfl
  have lst1 : (s.heap.push (freshSet led)).IsList l items := ⟨_, there, rfl, nl, rfl⟩
  have hT : Shared.TypeIs { s with heap := s.heap.push (freshSet led) } (.ref s.heap.objs.size) "set" := ⟨_, newAt, rfl⟩
  have subS := PySem.F.sub_list_set
  have subF := PySem.F.sub_list_frozenset
  have notD : (Value.type "list" == Value.type "dict") = false := by decide
  unfold Builtin.«set.__init__» noKeywords Builtin.Frozenset.updateFrom
  generalize hPI : pyIter = PI
  wp_walk
  subst hPI
  refine wpAny_pyIter_list lst1 ?_
  refine wpAny_bind (wpAny_runValue ?_)
  have lS : l < s.heap.objs.size := Heap.lt_size hol
  have hh2 : A.in1.in1.handled = none := by simp [hh]
  have apart : l ≠ (s.heap.push (freshSet led)).objs.size := by
    rw [Heap.size_push]
    exact Nat.ne_of_lt (Nat.lt_succ_of_lt lS)
  have outer : s.heap.objs.size ∉ [(s.heap.push (freshSet led)).objs.size, l] := by
    rw [Heap.size_push]
    intro z
    rcases List.mem_cons.mp z with z | z
    · exact absurd z (Nat.ne_of_lt (Nat.lt_succ_self _))
    · exact absurd (List.mem_singleton.mp z) (Nat.ne_of_gt lS)
  have hsz : xs.length = items.size := by rw [← StrsAre.len_eq hi, Array.length_toList]
  have vals : ∀ (i : Nat) (v : Value), items[i]? = some v → ∃ x t, xs[i]? = some x ∧ v = .str x t := fun i v hv => by
    rw [← Array.getElem?_toList] at hv
    obtain ⟨t, e⟩ := SS.strs_at hi i v hv
    have lt : i < xs.length := by
      rw [← StrsAre.len_eq hi]
      exact (List.getElem?_eq_some_iff.mp hv).1
    refine ⟨xs[i], t, List.getElem?_eq_getElem lt, ?_⟩
    rw [e, List.getD_eq_getElem?_getD, List.getElem?_eq_getElem lt]
    rfl
  refine set_fill ((Walks.list hh2 _ l apart items).toS) s.heap.objs.size outer xs hsz vals (by rw [← hsz]; exact room) items.size 0 _ (Nat.zero_add _)
    ?start ?first ?last
  case start => exact ⟨⟨_, Heap.get?_push_size _ rfl, rfl, rfl⟩, (lst1.push _)⟩
  case first =>
    refine PyProof.Rows.SetOf_congr ((PyProof.Rows.setObjOf_fresh (knd := PySem.strKind prog w) led).setOf (Heap.get?_push_of_some _ newAt) (by unfold scanBound; omega)) (fun k => ?_) rfl
    rw [met_zero]
    rfl
  case last =>
    intro s' mv hS
    obtain ⟨h', g', d', tk', os'⟩ := s'
    have e1 : g' = s.gens := mv.gens
    have e2 : d' = s.drawn := mv.drawn
    have e3 : os' = s.os := mv.os
    subst e1 e2 e3
    show wpAny _ _ _ _ _ _
    refine wpAny_pure ?_
    refine wpAny_pure (h h' tk' (by rw [hsz]; exact hS) fun b o hb q => ?_)
    refine mv.heap b o (fun z => ?_) (Heap.get?_push_of_some _ (Heap.get?_push_of_some _ q))
    rcases List.mem_cons.mp z with z | z
    · exact absurd z (Nat.ne_of_lt hb)
    · rw [List.mem_singleton, Heap.size_push] at z
      exact absurd z (Nat.ne_of_lt (Nat.lt_succ_of_lt hb))

/-- set(xs), xs a list of texts -/
theorem call_set_strs {l : Addr} {items : Array Value} {xs : List Str} {Q : Value → Shared → Prop} (hh : A.handled = none)
    (hl : s.heap.IsList l items) (hi : PyProof.Rows.StrsAre items.toList xs) (room : xs.length + 1 < scanBound)
    (h : ∀ (h' : Heap) (tk : Nat), Holds prog w xs s.heap.objs.size xs.length h' →
      (∀ b o, b < s.heap.objs.size → s.heap.get? b = some o → h'.get? b = some o) → Q (.ref s.heap.objs.size) { s with heap := h', toks := tk }) :
    wpAny (model prog w) A (call (.type "set") [.ref l]) Q E s := by
  obtain ⟨c, tl, mro⟩ := PySem.F.called_set.mro
  have made := PySem.F.called_set.made
  have sub := PySem.F.called_set.sub
  have noTy := PySem.F.called_set.notType
  have creates := PySem.F.called_set.canCreate
  have typeCall := PySem.F.typeCall_set_1 (.ref l)
  refine wpAny_call (codeAny_of_tree ?_)
  show wpAny _ _ (callAny (.type "set") _) _ _ _
  refine wpAny_pure ⟨Code.quiet_builtin _ (by decide +kernel), codeAny_builtin PySem.F.entry_type_call ?_⟩
  rw [Around.under_plain (weight_type_call_type "set" [.ref l] []) rfl]
  repeat (any_goals (first | assumption | wp_step))
  refine codeAny_mono (code_set_new_1 (.ref l) (E := E) (Q₁ := fun v s₁ => ∃ led : Bool, v = .ref s.heap.objs.size ∧ s₁ = { s with heap := s.heap.push (freshSet led) }) fun led => ⟨led, rfl, rfl⟩) ?_
  intro r s1 hr
  match r, hr with
  | .error _, hr => exact hr
  | .ok .next, hr => exact hr.elim
  | .ok .brk, hr => exact hr.elim
  | .ok .cont, hr => exact hr.elim
  | .ok (.ret v), ⟨led, ev, es⟩ =>
    subst ev es
    have newAt : (s.heap.push (freshSet led)).get? s.heap.objs.size = some (freshSet led) := Heap.get?_push_size _ rfl
    have hT : Shared.TypeIs { s with heap := s.heap.push (freshSet led) } (.ref s.heap.objs.size) "set" := ⟨_, newAt, rfl⟩
    have initLook := PySem.F.called_set.init.lookup
    have initBind := PySem.F.called_set.init.bind (.ref s.heap.objs.size)
    repeat (any_goals (first | assumption | wp_step))
    refine codeAny_mono (codeAny_call_builtin (R := wants (fun v s2 => v = .none ∧ ∃ h' tk, s2 = { s with heap := h', toks := tk } ∧ Holds prog w xs s.heap.objs.size xs.length h' ∧
      (∀ b o, b < s.heap.objs.size → s.heap.get? b = some o → h'.get? b = some o)) E) PySem.F.called_set.init.plain PySem.F.entry_set_init (check_set_init_1 hT (init_set_strs (by simp [hh]) hl hi room fun h' tk a b => ⟨rfl, h', tk, rfl, a, b⟩))) ?_
    intro r2 s2 hr2
    match r2, hr2 with
    | .error _, hr2 => exact hr2
    | .ok .next, hr2 => exact hr2.elim
    | .ok .brk, hr2 => exact hr2.elim
    | .ok .cont, hr2 => exact hr2.elim
    | .ok (.ret v2), ⟨ev2, h', tk, es2, a, b⟩ =>
      subst ev2 es2
      repeat (any_goals (first | assumption | wp_step))
      exact h _ _ a b
end

/-- len(set(xs)) -/
def tLenSetS (K : PySem.W.Frag) (ta : TE) : TE := fun σ H Q => ta σ H fun x H1 => ∃ (l : Addr) (xs : List Str), x = .ref l ∧ SqL K H1 l (xs.map V.str) ∧ xs.length ≤ 4000 ∧ Q (.int (met xs xs.length).length) H1
theorem pe_lenSetS {X : Cx} {a : Expr} {ta : TE} {p p2 q pos : Pos} (hg : Gl X "len") (hm : X.mg "len" = none) (hg2 : Gl X "set") (hm2 : X.mg "set" = none) (ha : PE X a ta) (hc : X.calm = true := by rfl)
    (na : starEach [a] X.env = (false, eval a X.env) :: starEach [] X.env := by rfl) : PE X (.Call (.Name "len" p) [.Call (.Name "set" p2) [a] [] q] [] pos) (tLenSetS X.K ta) := by
  constructor
  intro pins s sg H Q I h
  refine Call_ (ld_blt I hg hm boot_len ?_)
  refine PyProof.Rows.callWith_builtin1 (PyProof.Rows.args_cons ?_ rfl) rfl rfl
  refine Call_ (ld_blt I hg2 hm2 boot_set ?_)
  refine PyProof.Rows.callWith_type1 (PyProof.Rows.args_cons (thn (ha.run pins s sg H _ I h) ?_) na) na rfl
  rintro v s1 ⟨x, H1, I1, r1, l, xs, ex, hq, hl, q1⟩
  refine PyProof.Rows.args_nil ?_
  subst ex
  cases r1
  obtain ⟨its, r, pl, hz⟩ := I1.list hq
  refine call_set_strs (I1.ok.hd hc) pl.isList (by simpa using Vals.strs r) (by unfold scanBound; omega) fun h' tk hS hk => ?_
  refine PyProof.Rows.args_nil ?_
  obtain ⟨o, es, ep, t, ho, hex, hd, _, _, _, hf, hn⟩ := hS
  have I2 : Inv X pins sg H1 { s1 with heap := h', toks := tk } := I1.kept fun b o e => hk b o (Heap.lt_size e) e
  have small : (met xs xs.length).length ≤ 4000 := Nat.le_trans (met_le xs _) hl
  exact call_len_set ho hex hd hf (by rw [hn]; omega) ⟨.int (met xs xs.length).length, H1, I2.tok _, ⟨_, by rw [hn]⟩, q1⟩
end Os
namespace Os
open PySem PySem.Spec PyProof.Rows L2

/-! ### kinds of data -/
def tyName : PyData → String
  | .none => "NoneType"
  | .bool _ => "bool"
  | .int _ => "int"
  | .str _ => "str"
  | .list _ => "list"
  | .tuple _ => "tuple"
  | .dict _ => "dict"
def isStrD : PyData → Bool
  | .str _ => true
  | _ => false
def isListD : PyData → Bool
  | .list _ => true
  | _ => false
def isTupD : PyData → Bool
  | .tuple _ => true
  | _ => false
theorem kit_str (d : PyData) : kitB (tyName d) "str" = some (isStrD d) := by
  cases d <;> (simp only [tyName, isStrD, isListD, isTupD]; decide +kernel)
theorem kit_list (d : PyData) : kitB (tyName d) "list" = some (isListD d) := by
  cases d <;> (simp only [tyName, isStrD, isListD, isTupD]; decide +kernel)
theorem kit_tup (d : PyData) : kitB (tyName d) "tuple" = some (isTupD d) := by
  cases d <;> (simp only [tyName, isStrD, isListD, isTupD]; decide +kernel)
section
variable {H H' : Hp} {v : V} {d : PyData} {K : PySem.W.Frag}
theorem Dt.ty (h : Dt H v d) : TyOf K H v (.type (tyName d)) := by
  cases h with
  | non => exact .non
  | bl b => exact .bl b
  | int i => exact .int i
  | str x => exact .str x
  | lst ha _ => exact .lst ha
  | tup ha _ => exact .tup ha
theorem isi_of {T : String} {b : Bool} {Q : VK} (h : Dt H v d) (e : kitB (tyName d) T = some b) (q : Q (.bl b) H) : rIsi K [v, .ty T] H Q :=
  ⟨v, .ty T, _, _, b, rfl, .ty T, .base h.ty, kit_ty e, q⟩
theorem Dt.str_or (h : Dt H v d) : (∃ z, v = .str z ∧ d = .str z) ∨ isStrD d = false := by
  cases h with
  | str x => exact .inl ⟨x, rfl, rfl⟩
  | _ => exact .inr rfl
theorem Dt.list_or (h : Dt H v d) : (∃ a xs ds, v = .ref a ∧ H a = some (.lst xs) ∧ Dts H xs ds ∧ d = .list ds) ∨ isListD d = false := by
  cases h with
  | lst ha t => exact .inl ⟨_, _, _, rfl, ha, t, rfl⟩
  | _ => exact .inr rfl
theorem Dt.tup_or (h : Dt H v d) : (∃ a xs ds, v = .ref a ∧ H a = some (.tup xs) ∧ Dts H xs ds ∧ d = .tuple ds) ∨ isTupD d = false := by
  cases h with
  | tup ha t => exact .inl ⟨_, _, _, rfl, ha, t, rfl⟩
  | _ => exact .inr rfl
end
/-! ### heaps but for one address -/
/-- H without what stands at s -/
def hide (s : Addr) (H : Hp) : Hp := fun b => if b = s then none else H b
theorem hide_ne {s b : Addr} {H : Hp} (h : b ≠ s) : hide s H b = H b := if_neg h
theorem hide_at {s : Addr} {H : Hp} : hide s H s = none := if_pos rfl
theorem hide_of {s b : Addr} {H : Hp} {o : HO} (h : hide s H b = some o) : b ≠ s ∧ H b = some o := by
  unfold hide at h
  split at h
  · cases h
  · exact ⟨by assumption, h⟩
theorem hide_same {s : Addr} {H : Hp} : Same (hide s H) H := fun _ _ h => (hide_of h).2
theorem Same.hide {s : Addr} {H H' : Hp} (e : Same H H') : Same (Os.hide s H) (Os.hide s H') := fun b o h => by
  obtain ⟨h1, h2⟩ := hide_of h
  rw [hide_ne h1]
  exact e b o h2
theorem hide_upd {s : Addr} {H : Hp} {o : HO} : Os.hide s (upd H s o) = Os.hide s H := by
  funext b
  by_cases e : b = s
  · rw [e, hide_at, hide_at]
  · rw [hide_ne e, hide_ne e, upd_ne e]
theorem same_new {H : Hp} {p : Addr} {o : HO} (h : H p = none) : Same H (upd H p o) := fun b u e => by
  rw [upd_ne (ne_of_none e h)]
  exact e
/-- what H does not know may change -/
theorem same_mut {H H' : Hp} {p : Addr} {o : HO} (e : Same H H') (h : H p = none) : Same H (upd H' p o) := fun b u q => by
  rw [upd_ne (ne_of_none q h)]
  exact e b u q
theorem Same.none {H H' : Hp} (e : Same H H') {p : Addr} (h : H' p = Option.none) : H p = Option.none := e.free h
theorem hide_none {s p : Addr} {H : Hp} (h : H p = Option.none) : Os.hide s H p = Option.none := by
  unfold Os.hide
  split
  · rfl
  · exact h
end Os
namespace Os
open PySem PySem.Spec PyProof.Rows L2 Evl

/-! ### more of what evaluates to what -/
section
variable {K : PySem.W.Frag} {σ : L2.St} {H H' : Hp} {ta tb tc te : TE} {t : TT} {x y z v : V} {r r' : R2}
theorem same_ex (e : Ex H H') : Same H H' := e
theorem ev_isi {T : String} {b : Bool} {d : PyData} (h : Ev ta σ H v) (hd : Dt H v d) (e : kitB (tyName d) T = some b) :
    Ev (tCB (rIsi K) (tCons ta (tCons (tC (.ty T)) tNil))) σ H (.bl b) := fun H1 e1 Q q =>
  h H1 e1 _ fun H2 e2 => isi_of (hd.same (same_ex (e1.trans e2))) e (q H2 e2)
theorem ev_lenS {s : Str} (h : Ev ta σ H (.str s)) (hl : s.length ≤ 100000) :
    Ev (tCB (fun xs H Q => ∃ z, xs = [.str z] ∧ z.length ≤ sizeLine ∧ Q (.int z.length) H) (tCons ta tNil)) σ H (.int s.length) := fun H1 e1 Q q =>
  h H1 e1 _ fun H2 e2 => ⟨s, rfl, sz_of hl, q H2 e2⟩
theorem ev_chain {b c : Bool} (h1 : Ev ta σ H x) (h2 : Ev tb σ H y) (hr : RV r x y H (.bl b)) (h3 : b = true → ∃ z, Ev tc σ H z ∧ RV r' y z H (.bl c)) :
    Ev (tChain r r' ta tb tc) σ H (.bl (b && c)) := fun H1 e Q q =>
  h1 H1 e _ fun H2 e2 => h2 H2 (e.trans e2) _ fun H3 e3 => hr H3 ((e.trans e2).trans e3) _ fun H4 e4 => ⟨b, rfl, by
    cases b with
    | true =>
      obtain ⟨z, hz, hs⟩ := h3 rfl
      show tc σ H4 _
      exact hz H4 (((e.trans e2).trans e3).trans e4) _ fun H5 e5 => hs H5 ((((e.trans e2).trans e3).trans e4).trans e5) Q fun H6 e6 => q H6 ((((e2.trans e3).trans e4).trans e5).trans e6)
    | false =>
      show Q (.bl false) H4
      exact q H4 ((e2.trans e3).trans e4)⟩
theorem rv_leS {i j : Str} : RV (fun x y H Q => ∃ i j, x = .str i ∧ y = .str j ∧ Q (.bl (!decide (j.cps.toList < i.cps.toList))) H) (.str i) (.str j) H (.bl (!decide (j.cps.toList < i.cps.toList))) :=
  fun H1 _ _ q => ⟨i, j, rfl, rfl, q H1 (Ex.refl H1)⟩
theorem rv_notInSign {c : Nat} {s : Str} : RV (fun x y H Q => ∃ (c : Nat) (z : Str), x = .str ⟨#[c]⟩ ∧ y = .str z ∧ Q (.bl (!decide (c ∈ z.cps.toList))) H) (.str ⟨#[c]⟩) (.str s) H (.bl (!decide (c ∈ s.cps.toList))) :=
  fun H1 _ _ q => ⟨c, s, rfl, rfl, q H1 (Ex.refl H1)⟩
theorem ev_abs {i : Int} (h : Ev ta σ H (.int i)) : Ev (tCB (fun xs H Q => ∃ i, xs = [V.int i] ∧ Q (.int (if i < 0 then -i else i)) H) (tCons ta tNil)) σ H (.int (if i < 0 then -i else i)) := fun H1 e1 Q q =>
  h H1 e1 _ fun H2 e2 => ⟨i, rfl, q H2 e2⟩
theorem ev_max {i j : Int} (ha : Ev ta σ H (.int i)) (hb : Ev tb σ H (.int j)) : Ev (tCB (fun xs H Q => ∃ i j, xs = [V.int i, .int j] ∧ Q (.int (if j > i then j else i)) H) (tCons ta (tCons tb tNil))) σ H (.int (if j > i then j else i)) := fun H1 e1 Q q =>
  ha H1 e1 _ fun H2 e2 => hb H2 (e1.trans e2) _ fun H3 e3 => ⟨i, j, rfl, q H3 (e2.trans e3)⟩
theorem ev_min {i j : Int} (ha : Ev ta σ H (.int i)) (hb : Ev tb σ H (.int j)) : Ev (tCB (fun xs H Q => ∃ i j, xs = [V.int i, .int j] ∧ Q (.int (if j < i then j else i)) H) (tCons ta (tCons tb tNil))) σ H (.int (if j < i then j else i)) := fun H1 e1 Q q =>
  ha H1 e1 _ fun H2 e2 => hb H2 (e1.trans e2) _ fun H3 e3 => ⟨i, j, rfl, q H3 (e2.trans e3)⟩
theorem ev_all {bs : List Bool} (h : EvL ta σ H (bs.map V.bl)) : Ev (tCB (rAll K) (tCons ta tNil)) σ H (.bl (bs.all id)) := fun H1 e Q q =>
  h H1 e _ fun p H2 _ e2 hp => ⟨p, bs, rfl, sq_of hp, q H2 e2⟩
theorem ev_repr {d : PyData} (h : Ev ta σ H v) (hd : Dt H v d) (fit : Fit sizeLine d) : Ev (tCB rRepr (tCons ta tNil)) σ H (.str d.shown) := fun H1 e Q q =>
  h H1 e _ fun H2 e2 => ⟨v, d, rfl, hd.same (same_ex (e.trans e2)), fit, q H2 e2⟩
theorem ev_reprL {xs : List V} {ds : List PyData} (h : EvL ta σ H xs) (hd : Dts H xs ds) (fit : Fit sizeLine (.list ds)) : Ev (tCB rRepr (tCons ta tNil)) σ H (.str (PyData.list ds).shown) := fun H1 e Q q =>
  h H1 e _ fun p H2 _ e2 hp => ⟨.ref p, .list ds, rfl, .lst hp (hd.same (same_ex (e.trans e2))), fit, q H2 e2⟩
/-- two lists, the left a new one, the right a new one, of data -/
theorem ev_eqLL {xs ys : List V} {ds es : List PyData} (ha : EvL ta σ H xs) (hb : EvL tb σ H ys) (hx : Dts H xs ds) (hy : Dts H ys es) (s1 : SeqAt.shaped (.list ds) = true) (s2 : SeqAt.shaped (.list es) = true) :
    Ev (tOp (rEqD K) ta tb) σ H (.bl (PyData.eqv (.list ds) (.list es))) :=
  ev_opLL ha hb fun p q H1 hp hq e => fun H2 e2 Q k => ⟨.list ds, .list es, Dt.dp (.lst (e2 _ _ hp) (hx.same (same_ex (e.trans e2)))), Dt.dp (.lst (e2 _ _ hq) (hy.same (same_ex (e.trans e2)))), s1, s2, k H2 (Ex.refl H2)⟩
/-- a call of a def that makes nothing but a value -/
theorem ev_sp {sp : Sp} {dvs vs : List V} {E : XK} {ta : TA} (h : EvA ta σ H vs) (hs : ∀ H1, Ex H H1 → ∀ Q : VK, (∀ H2, Ex H1 H2 → Q z H2) → sp (vs ++ dvs) H1 Q E) : Ev (tCall sp dvs E ta) σ H z := fun H1 e Q q =>
  h H1 e _ fun H2 e2 => hs H2 (e.trans e2) Q fun H3 e3 => q H3 (e2.trans e3)
/-- a comprehension over a text -/
theorem el_lcS {s : Str} {j : Nat} {vs : List Nat} {tl : TE} (f : Nat → Bool) (v : Nat → V) (h : Ev tl σ H (.str s)) (hz : s.length ≤ 40000) (hw : ∀ x, wipe ((wipe σ vs).set j (some x)) vs = wipe σ vs)
    (ht : ∀ (i c : Nat) H1, Ex H H1 → s.cps.toList[i]? = some c → EvT t ((wipe σ vs).set j (some (.str ⟨#[c]⟩))) H1 (f i))
    (he : ∀ (i c : Nat) H1, Ex H H1 → s.cps.toList[i]? = some c → f i = true → Ev te ((wipe σ vs).set j (some (.str ⟨#[c]⟩))) H1 (v i)) :
    EvL (tLc (iStr tl) (gName j) t te vs) σ H (given s.length f v) := fun H0 e Q q => h H0 e _ fun H1 e1 => ⟨s, rfl, fun Dl hD =>
  lc_it (walk_str (z := s)) (Cw H1 f v Dl) ⟨hD, Ex.new hD, upd_same⟩ (fun _ _ _ _ => trivial) (fun i x Ha Hb hi p y => by
    obtain ⟨rfl, c, hc, rfl⟩ := y
    have hc' : s.cps.toList[i]? = some c := by rw [Array.getElem?_toList]; exact hc
    have hi2 : i < s.length := hi
    exact ⟨hw _, cw_turn p (by omega) (ht i c H1 (e.trans e1) hc') (fun hf => he i c H1 (e.trans e1) hc' hf)⟩)
    (fun Hc p => q Dl Hc (fresh_back e1 p.1) (e1.trans p.2.1) p.2.2)⟩
end

/-! ### what a comprehension gives, by the items -/
theorem given_map {α : Type} (xs : List α) (g : α → V) (v : Nat → V) (h : ∀ i x, xs[i]? = some x → v i = g x) : given xs.length (fun _ => true) v = xs.map g := by
  unfold given
  rw [List.filter_eq_self.mpr (fun _ _ => rfl)]
  refine List.ext_getElem? fun i => ?_
  rw [List.getElem?_map, List.getElem?_map]
  by_cases hi : i < xs.length
  · rw [List.getElem?_range hi, List.getElem?_eq_getElem hi]
    exact congrArg some (h i _ (List.getElem?_eq_getElem hi))
  · rw [List.getElem?_eq_none (by rw [List.length_range]; omega), List.getElem?_eq_none (by omega)]
    rfl
theorem given_part {α : Type} (g : α → V) (p : α → Bool) (f : Nat → Bool) (v : Nat → V) (xs : List α) (hf : ∀ i x, xs[i]? = some x → f i = p x) (hv : ∀ i x, xs[i]? = some x → v i = g x) :
    ∀ n, n ≤ xs.length → given n f v = ((xs.take n).filter p).map g
  | 0, _ => rfl
  | n + 1, hn => by
    have lt : n < xs.length := hn
    have e := List.getElem?_eq_getElem lt
    have ih := given_part g p f v xs hf hv n (Nat.le_of_lt lt)
    rw [List.take_add_one, e]
    show _ = ((xs.take n ++ [xs[n]]).filter p).map g
    rw [List.filter_append, List.map_append, ← ih]
    cases hp : p xs[n] with
    | true =>
      rw [given_yes (by rw [hf _ _ e]; exact hp), hv _ _ e, List.filter_cons, if_pos hp]
      rfl
    | false =>
      rw [given_no (by rw [hf _ _ e]; exact hp), List.filter_cons, if_neg (by rw [hp]; decide)]
      rw [List.filter_nil, List.map_nil, List.append_nil]
theorem given_filter {α : Type} (g : α → V) (p : α → Bool) (f : Nat → Bool) (v : Nat → V) (xs : List α) (hf : ∀ i x, xs[i]? = some x → f i = p x) (hv : ∀ i x, xs[i]? = some x → v i = g x) :
    given xs.length f v = (xs.filter p).map g := by
  rw [given_part g p f v xs hf hv _ (Nat.le_refl _), List.take_length]
theorem given_eq {n : Nat} {f g : Nat → Bool} {v u : Nat → V} (hf : ∀ i, i < n → f i = g i) (hv : ∀ i, i < n → v i = u i) : given n f v = given n g u := by
  unfold given
  rw [List.filter_congr (q := g) (fun i hi => hf i (List.mem_range.mp hi))]
  exact List.map_congr_left fun i hi => hv i (List.mem_range.mp (List.mem_filter.mp hi).1)
end Os
/-! forests: the mathematics, and pairs of ints in the heap -/
namespace Os
open PySem PySem.Spec PyProof.Rows L2 Evl

abbrev Pr := Nat × Nat
/-! ### labels that are merged: the program's search for a cycle -/
def merge (t : List Nat) (e : Pr) : List Nat := t.map fun x => if x = t.getD e.2 0 then t.getD e.1 0 else x
def cycB : List Pr → List Nat → Bool
  | [], _ => false
  | e :: r, t => if t.getD e.1 0 = t.getD e.2 0 then true else cycB r (merge t e)
/-- each edge has a side that all other edges respect -/
def Bridges (es : List Pr) : Prop := ∀ e ∈ es, ∃ S : Nat → Bool, S e.1 ≠ S e.2 ∧ ∀ f ∈ es, f ≠ e → S f.1 = S f.2
theorem merge_length (t : List Nat) (e : Pr) : (merge t e).length = t.length := List.length_map ..
theorem getD_map {f : Nat → Nat} {t : List Nat} {i : Nat} (h : i < t.length) : (t.map f).getD i 0 = f (t.getD i 0) := by
  rw [List.getD_eq_getElem?_getD, List.getD_eq_getElem?_getD, List.getElem?_map, List.getElem?_eq_getElem h]
  rfl
/-- labels are equal only where every respected side is -/
def Fine (t : List Nat) (done : List Pr) : Prop := ∀ x y, x < t.length → y < t.length → t.getD x 0 = t.getD y 0 → ∀ S : Nat → Bool, (∀ f ∈ done, S f.1 = S f.2) → S x = S y
theorem fine_start (n : Nat) : Fine (List.range n) [] := fun x y hx hy e S _ => by
  rw [List.length_range] at hx hy
  rw [List.getD_eq_getElem?_getD, List.getD_eq_getElem?_getD, List.getElem?_range hx, List.getElem?_range hy] at e
  have e2 : x = y := e
  rw [e2]
theorem fine_merge {t : List Nat} {done : List Pr} {e : Pr} (h : Fine t done) (h1 : e.1 < t.length) (h2 : e.2 < t.length) : Fine (merge t e) (done ++ [e]) := fun x y hx hy q S hS => by
  rw [merge_length] at hx hy
  unfold merge at q
  rw [getD_map hx, getD_map hy] at q
  have hd : ∀ f ∈ done, S f.1 = S f.2 := fun f hf => hS f (List.mem_append_left _ hf)
  have he : S e.1 = S e.2 := hS e (by simp)
  by_cases a : t.getD x 0 = t.getD e.2 0
  · have sx := h x e.2 hx h2 a S hd
    by_cases b : t.getD y 0 = t.getD e.2 0
    · rw [sx, h y e.2 hy h2 b S hd]
    · rw [if_pos a, if_neg b] at q
      rw [sx, ← he, h e.1 y h1 hy q S hd]
  · by_cases b : t.getD y 0 = t.getD e.2 0
    · rw [if_neg a, if_pos b] at q
      rw [h x e.1 hx h1 q S hd, he, h y e.2 hy h2 b S hd]
    · rw [if_neg a, if_neg b] at q
      exact h x y hx hy q S hd
theorem cyc_none {es : List Pr} (br : Bridges es) (nd : es.Nodup) : ∀ (r done : List Pr) (t : List Nat), es = done ++ r → (∀ e ∈ r, e.1 < t.length ∧ e.2 < t.length) → Fine t done → cycB r t = false
  | [], _, _, _, _, _ => rfl
  | e :: r, done, t, he, hb, hf => by
    obtain ⟨b1, b2⟩ := hb e List.mem_cons_self
    obtain ⟨S, s1, s2⟩ := br e (by rw [he]; simp)
    have ne : ¬ t.getD e.1 0 = t.getD e.2 0 := fun q => s1 (hf e.1 e.2 b1 b2 q S fun f hf' => s2 f (by rw [he]; exact List.mem_append_left _ hf') fun z => by
      rw [he] at nd
      exact (List.nodup_append.mp nd).2.2 f hf' e List.mem_cons_self z)
    unfold cycB
    rw [if_neg ne]
    refine cyc_none br nd r (done ++ [e]) (merge t e) (by rw [he, List.append_assoc]; rfl) (fun f hf' => ?_) (fine_merge hf b1 b2)
    rw [merge_length]
    exact hb f (List.mem_cons_of_mem _ hf')
/-! ### order of pairs -/
def ltP (e f : Pr) : Bool := decide (e.1 < f.1) || (decide (e.1 = f.1) && decide (e.2 < f.2))
def ascB : List Pr → Bool
  | e :: f :: r => ltP e f && ascB (f :: r)
  | _ => true
/-- a forest's edges -/
structure Edges (n : Nat) (es : List Pr) : Prop where
  inn : ∀ e ∈ es, e.1 < e.2 ∧ e.2 < n
  asc : es.Pairwise fun e f => ltP e f = true
  br : Bridges es
theorem ltP_irr (e : Pr) : ltP e e = false := by
  unfold ltP
  rw [decide_eq_false (Nat.lt_irrefl _), decide_eq_false (Nat.lt_irrefl _), Bool.and_false]
  rfl
theorem ltP_iff {e f : Pr} : ltP e f = true ↔ e.1 < f.1 ∨ (e.1 = f.1 ∧ e.2 < f.2) := by
  unfold ltP
  simp only [Bool.or_eq_true, Bool.and_eq_true, decide_eq_true_eq]
theorem ltP_trans {e f g : Pr} (h1 : ltP e f = true) (h2 : ltP f g = true) : ltP e g = true := by
  rw [ltP_iff] at *
  omega
theorem Edges.nodup {n : Nat} {es : List Pr} (h : Edges n es) : es.Nodup := h.asc.imp fun {a b} q e => by
  rw [e, ltP_irr] at q
  cases q
theorem asc_of : ∀ {es : List Pr}, es.Pairwise (fun e f => ltP e f = true) → ascB es = true
  | [], _ => rfl
  | [_], _ => rfl
  | e :: f :: r, h => by
    obtain ⟨h1, h2⟩ := List.pairwise_cons.mp h
    show (ltP e f && ascB (f :: r)) = true
    rw [h1 f List.mem_cons_self, asc_of h2]
    rfl
theorem Edges.no_cyc {n : Nat} {es : List Pr} (h : Edges n es) : cycB es (List.range n) = false :=
  cyc_none h.br h.nodup es [] _ rfl (fun e he => by
    rw [List.length_range]
    have := h.inn e he
    omega) (fine_start n)

/-! ### pairs in the heap -/
/-- v is a tuple of the two ints -/
def PrV (G : Hp) (v : V) (e : Pr) : Prop := ∃ t, v = .ref t ∧ G t = some (.tup [.int (e.1 : Int), .int (e.2 : Int)])
inductive PrsV (G : Hp) : List V → List Pr → Prop
  | nil : PrsV G [] []
  | cons {v : V} {vs : List V} {e : Pr} {es : List Pr} : PrV G v e → PrsV G vs es → PrsV G (v :: vs) (e :: es)
theorem PrV.ex {G G' : Hp} (h : Ex G G') {v : V} {e : Pr} (p : PrV G v e) : PrV G' v e := by
  obtain ⟨t, e1, e2⟩ := p
  exact ⟨t, e1, h _ _ e2⟩
theorem PrsV.ex {G G' : Hp} (h : Ex G G') : ∀ {vs : List V} {es : List Pr}, PrsV G vs es → PrsV G' vs es
  | _, _, .nil => .nil
  | _, _, .cons p r => .cons (p.ex h) (PrsV.ex h r)
theorem PrsV.length {G : Hp} : ∀ {vs : List V} {es : List Pr}, PrsV G vs es → vs.length = es.length
  | _, _, .nil => rfl
  | _, _, .cons _ r => congrArg (· + 1) (PrsV.length r)
theorem PrsV.get {G : Hp} : ∀ {vs : List V} {es : List Pr} {i : Nat} {v : V}, PrsV G vs es → vs[i]? = some v → ∃ e, es[i]? = some e ∧ PrV G v e
  | _, _, _, _, .nil, h => by simp at h
  | _, _, 0, _, .cons p _, h => by simp at h; subst h; exact ⟨_, rfl, p⟩
  | _, _, i + 1, v, .cons _ r, h => by
    obtain ⟨e, h1, h2⟩ := PrsV.get (i := i) (v := v) r (by simpa using h)
    exact ⟨e, by simpa using h1, h2⟩
theorem PrsV.get' {G : Hp} : ∀ {vs : List V} {es : List Pr} {i : Nat} {e : Pr}, PrsV G vs es → es[i]? = some e → ∃ v, vs[i]? = some v ∧ PrV G v e
  | _, _, _, _, .nil, h => by simp at h
  | _, _, 0, _, .cons p _, h => by simp at h; subst h; exact ⟨_, rfl, p⟩
  | _, _, i + 1, e, .cons _ r, h => by
    obtain ⟨v, h1, h2⟩ := PrsV.get' (i := i) (e := e) r (by simpa using h)
    exact ⟨v, by simpa using h1, h2⟩
theorem PrsV.append {G : Hp} : ∀ {vs us : List V} {es fs : List Pr}, PrsV G vs es → PrsV G us fs → PrsV G (vs ++ us) (es ++ fs)
  | _, _, _, _, .nil, r => r
  | _, _, _, _, .cons p q, r => .cons p (PrsV.append q r)
theorem PrsV.drop {G : Hp} : ∀ {vs : List V} {es : List Pr} (i : Nat), PrsV G vs es → PrsV G (vs.drop i) (es.drop i)
  | _, _, 0, h => h
  | _, _, _ + 1, .nil => .nil
  | _, _, i + 1, .cons _ r => PrsV.drop i r
theorem PrsV.take {G : Hp} : ∀ {vs : List V} {es : List Pr} (i : Nat), PrsV G vs es → PrsV G (vs.take i) (es.take i)
  | _, _, 0, _ => .nil
  | _, _, _ + 1, .nil => .nil
  | _, _, i + 1, .cons p r => .cons p (PrsV.take i r)
theorem PrsV.reverse {G : Hp} : ∀ {vs : List V} {es : List Pr}, PrsV G vs es → PrsV G vs.reverse es.reverse
  | _, _, .nil => .nil
  | _, _, .cons p r => by
    rw [List.reverse_cons, List.reverse_cons]
    exact PrsV.append (PrsV.reverse r) (.cons p .nil)
theorem PrsV.perm {G : Hp} {vs us : List V} (h : vs.Perm us) : ∀ {es : List Pr}, PrsV G us es → ∃ fs, PrsV G vs fs ∧ fs.Perm es := by
  induction h with
  | nil => exact fun h => ⟨_, h, List.Perm.refl _⟩
  | cons x _ ih =>
    intro es h
    cases h with
    | cons p r =>
      obtain ⟨fs, h1, h2⟩ := ih r
      exact ⟨_, .cons p h1, h2.cons _⟩
  | swap x y l =>
    intro es h
    cases h with
    | cons p r =>
      cases r with
      | cons q r => exact ⟨_, .cons q (.cons p r), List.Perm.swap _ _ _⟩
  | trans _ _ ih1 ih2 =>
    intro es h
    obtain ⟨fs, h1, h2⟩ := ih2 h
    obtain ⟨gs, h3, h4⟩ := ih1 h1
    exact ⟨gs, h3, h4.trans h2⟩
def prD (e : Pr) : PyData := .tuple [.int (e.1 : Int), .int (e.2 : Int)]
theorem PrV.dt {G : Hp} {v : V} {e : Pr} (p : PrV G v e) : Dt G v (prD e) := by
  obtain ⟨t, rfl, h⟩ := p
  exact .tup h (.cons (.int _) (.cons (.int _) .nil))
theorem PrsV.dts {G : Hp} : ∀ {vs : List V} {es : List Pr}, PrsV G vs es → Dts G vs (es.map prD)
  | _, _, .nil => .nil
  | _, _, .cons p r => .cons p.dt (PrsV.dts r)
end Os
namespace K92
open PySem PySem.Spec PyProof.Rows L2 Os Evl
def topS (i : Nat) : Stmt := PySem.Challenge.pw_onceswapped_k92_edges_and_turns_written.main.body.getD i (.Pass ⟨0, 0, 0, 0⟩)
abbrev sInt : Stmt := topS 5
theorem scInt : FnScope ["thing"] ["thing"] (defScope sInt) := ⟨rfl, rfl, rfl, by decide +kernel, rfl, by decide +kernel, by decide +kernel⟩
abbrev sPos : Stmt := topS 6
theorem scPos : FnScope ["n", "thing"] ["n", "thing"] (defScope sPos) := ⟨rfl, rfl, rfl, by decide +kernel, rfl, by decide +kernel, by decide +kernel⟩
abbrev sEdge : Stmt := topS 7
theorem scEdge : FnScope ["n", "thing", "p", "q"] ["n", "thing"] (defScope sEdge) := ⟨rfl, rfl, rfl, by decide +kernel, rfl, by decide +kernel, by decide +kernel⟩

section
variable {P : Program} {w : World} {K : PySem.W.Frag} {mg : Str → Option Value} {base : Heap}
def intB : PyData → Bool
  | .int _ => true
  | _ => false
def numB : PyData → Bool
  | .int _ => true
  | .bool _ => true
  | _ => false
def isBlD : PyData → Bool
  | .bool _ => true
  | _ => false
theorem kit_int (d : PyData) : kitB (tyName d) "int" = some (numB d) := by
  cases d <;> (simp only [tyName, numB]; decide +kernel)
theorem kit_bool (d : PyData) : kitB (tyName d) "bool" = some (isBlD d) := by
  cases d <;> (simp only [tyName, isBlD]; decide +kernel)
def spInt : Sp := fun vs H Q _ => ∃ v d, vs = [v] ∧ Dt H v d ∧ ∀ H', Ex H H' → Q (.bl (intB d)) H'
theorem ok_int {f : Addr} {fd : FuncData} {k : Nat} (F : Fun K "is_integer" "is_integer" sInt f fd) (mIsi : mg "isinstance" = none) (mInt : mg "int" = none) (mBool : mg "bool" = none) : FnOk P w K mg base CX0 (k + 1) f fd ["thing"] spInt := by
  refine F.ok scInt (fun vs H Q E h => ?_) (fun cdv A outer s H vs Q E hr h => ?_)
  · obtain ⟨v, d, rfl, _⟩ := h
    rfl
  · obtain ⟨v, d, rfl, hd, q⟩ := h
    refine ⟨_, (pss_one (ps_ret (pe_and (pe_callB call_isi (by rfl) mIsi boot_isinstance (pa_cons (pv 0) (pa_cons (pe_bltn (v := .ty "int") (by rfl) mInt boot_int rfl) pa_nil))) (pe_one (pe_not (pe_callB call_isi (by rfl) mIsi boot_isinstance (pa_cons (pv 0) (pa_cons (pe_bltn (v := .ty "bool") (by rfl) mBool boot_bool rfl) pa_nil)))))))), ?_⟩
    refine s_ret (v := .bl (intB d)) (ev_is (ev_andV (ev_isi (ev_var rfl) hd (kit_int d)) fun _ => ev_notV (ev_isi (ev_var rfl) hd (kit_bool d))) (by cases d <;> rfl)) fun H1 e1 => q H1 e1
def posB (n : Int) : PyData → Bool
  | .int i => decide (0 ≤ i) && decide (i < n)
  | _ => false
def spPos : Sp := fun vs H Q _ => ∃ n v d, vs = [.int n, v] ∧ Dt H v d ∧ ∀ H', Ex H H' → Q (.bl (posB n d)) H'
theorem ok_pos {f fI : Addr} {fd fdI : FuncData} {k : Nat} (F : Fun K "is_position" "is_position" sPos f fd) (GI : FnOk P w K mg base CX0 k fI fdI ["thing"] spInt) (FI : Fun K "is_integer" "is_integer" sInt fI fdI) (bI : Binds K fdI ["thing"] []) (gI : mg "is_integer" = some (.ref fI)) :
    FnOk P w K mg base CX0 (k + 1) f fd ["n", "thing"] spPos := by
  refine F.ok scPos (fun vs H Q E h => ?_) (fun cdv A outer s H vs Q E hr h => ?_)
  · obtain ⟨n, v, d, rfl, _⟩ := h
    rfl
  · obtain ⟨n, v, d, rfl, hd, q⟩ := h
    refine ⟨_, (pss_one (ps_ret (pe_and (pe_call GI hr (by rfl) gI FI.kp bI .nil pass0 (pa_cons (pv 1) pa_nil)) (pe_one (pe_chain op_le op_lt pe_int (pv 1) (pv 0)))))), ?_⟩
    have e1 : Ev (tCall spInt [] E0 (tCons (tVar 1) tNil)) (start ["n", "thing"] [.int n, v]) H (.bl (intB d)) := ev_sp (ea_cons (ev_var rfl) ea_nil) fun H2 e2 Q q => ⟨v, d, rfl, hd.same (same_ex e2), fun H3 e3 => q H3 e3⟩
    cases hd with
    | int i => exact s_ret (v := .bl (posB n (.int i))) (ev_is (ev_andV (a := true) e1 fun _ => ev_chain ev_c (ev_var rfl) rv_I0 fun _ => ⟨_, ev_var rfl, rv_I0⟩) rfl) fun H2 e2 => q H2 e2
    | _ => exact s_ret (v := .bl false) (ev_andV (b := false) e1 fun h => nomatch h) fun H2 e2 => q H2 e2
def edgeB (n : Int) : PyData → Bool
  | .tuple [.int p, .int q] => posB n (.int p) && (posB n (.int q) && decide (p < q))
  | _ => false
def spEdge : Sp := fun vs H Q _ => ∃ n v d, vs = [.int n, v] ∧ Dt H v d ∧ ∀ H', Ex H H' → Q (.bl (edgeB n d)) H'
theorem edgeB_tup (n : Int) (d1 d2 : PyData) : edgeB n (.tuple [d1, d2]) = (posB n d1 && (posB n d2 && (match d1, d2 with | .int p, .int q => decide (p < q) | _, _ => false))) := by
  cases d1 <;> cases d2 <;> simp [edgeB, posB]
theorem edgeB_len (n : Int) : ∀ {ds : List PyData}, ds.length ≠ 2 → edgeB n (.tuple ds) = false
  | [], _ => rfl
  | [d], _ => by cases d <;> rfl
  | [_, _], h => absurd rfl h
  | d :: e :: _ :: _, _ => by cases d <;> cases e <;> rfl
theorem ev_lenT {K : PySem.W.Frag} {σ : L2.St} {H : Hp} {ta : TE} {p : Addr} {xs : List V} (ha : Ev ta σ H (.ref p)) (h : H p = some (.tup xs)) :
    Ev (tCB (fun xs H Q => ∃ p ys, xs = [V.ref p] ∧ (SqL K H p ys ∨ SqT K H p ys) ∧ Q (.int ys.length) H) (tCons ta tNil)) σ H (.int (xs.length : Int)) := fun H1 e Q q =>
  ha H1 e _ fun H2 e2 => ⟨p, xs, rfl, .inr (st_of ((e.trans e2) _ _ h)), q H2 e2⟩
theorem ok_edge {f fP : Addr} {fd fdP : FuncData} {k : Nat} (F : Fun K "is_edge" "is_edge" sEdge f fd) (GP : FnOk P w K mg base CX0 k fP fdP ["n", "thing"] spPos) (FP : Fun K "is_position" "is_position" sPos fP fdP) (bP : Binds K fdP ["n", "thing"] []) (gP : mg "is_position" = some (.ref fP))
    (mIsi : mg "isinstance" = none) (mTup : mg "tuple" = none) (mLen : mg "len" = none) : FnOk P w K mg base CX0 (k + 1) f fd ["n", "thing"] spEdge := by
  refine F.ok scEdge (fun vs H Q E h => ?_) (fun cdv A outer s H vs Q E hr h => ?_)
  · obtain ⟨n, v, d, rfl, _⟩ := h
    rfl
  · obtain ⟨n, v, d, rfl, hd, q⟩ := h
    refine ⟨_, (pss_cons (ps_if (PW.pt (pw_or (pt_not (pt_val (pe_callB call_isi (by rfl) mIsi boot_isinstance (pa_cons (pv 1) (pa_cons (pe_bltn (v := .ty "tuple") (by rfl) mTup boot_tuple rfl) pa_nil))))) (pw_or1 (pt_cmpR op_ne (pe_callB call_len_seq (by rfl) mLen boot_len (pa_cons (pv 1) pa_nil)) pe_int (nomark _))))) (pss_one (ps_ret pe_bl)) pss_nil)
      (pss_cons (ps_asg (pv 1) (pg_tup rfl (pgs_cons (pg_name (i := 2) scEdge.nd rfl (Or.inl rfl)) (pgs_cons (pg_name (i := 3) scEdge.nd rfl (Or.inl rfl)) pgs_nil))))
      (pss_one (ps_ret (pe_and (pe_call GP hr (by rfl) gP FP.kp bP .nil pass0 (pa_cons (pv 0) (pa_cons (pv 2) pa_nil))) (pe_and (pe_call GP hr (by rfl) gP FP.kp bP .nil pass0 (pa_cons (pv 0) (pa_cons (pv 3) pa_nil))) (pe_one (pe_cmpR op_lt (pv 2) (pv 3) (nomark _))))))))), ?_⟩
    have e0 : Ev (tVar 1) (start ["n", "thing", "p", "q"] [.int n, v]) H v := ev_var rfl
    rcases hd.tup_or with ⟨a, xs, ds, rfl, ha, ht, rfl⟩ | hn
    · have hlen : xs.length = ds.length := ht.length
      refine q_when (b := !true || !decide (V.int xs.length = V.int 2)) (et_or (et_not (et_B (ev_isi e0 hd (kit_tup _)))) fun _ => et_test (ev_op (ev_lenT e0 ha) ev_c (rv_ne rfl))) ?_ ?_
      · intro hb H1 e1
        have hb2 : (!decide (V.int xs.length = V.int 2)) = true := hb
        have hb3 := of_decide_eq_false ((Bool.not_eq_true' _).mp hb2)
        have e2 := edgeB_len n (ds := ds) fun z => hb3 (by rw [hlen, z]; rfl)
        refine s_ret (v := .bl false) ev_c fun H2 e3 => ?_
        rw [← e2]
        exact q H2 (e1.trans e3)
      · intro hb H1 e1
        have hb2 : (!decide (V.int xs.length = V.int 2)) = false := hb
        have hb3 := V.int.inj (of_decide_eq_true ((Bool.not_eq_false' _).mp hb2))
        have t1 := ht.same (same_ex e1)
        have ha1 := e1 _ _ ha
        match xs, ds, t1, hb3, ha1 with
        | [x, y], [d1, d2], .cons h1 (.cons h2 .nil), _, ha1 =>
          refine ⟨.ref a, rfl, a, [x, y], rfl, st_of ha1, rfl, x, [y], rfl, y, [], rfl, rfl, ?_⟩
          have ep : ∀ {i : Nat} {z : V} {d : PyData} {σ : L2.St}, σ[0]? = some (some (.int n)) → σ[i]? = some (some z) → Dt H1 z d → Ev (tCall spPos [] E0 (tCons (tVar 0) (tCons (tVar i) tNil))) σ H1 (.bl (posB n d)) := fun g1 g2 g3 =>
            ev_sp (ea_cons (ev_var g1) (ea_cons (ev_var g2) ea_nil)) fun H2 e2 Q q => ⟨n, _, _, rfl, g3.same (same_ex e2), fun H3 e3 => q H3 e3⟩
          dsimp only
          refine s_ret (v := .bl (edgeB n (.tuple [d1, d2]))) ?_ fun H2 e2 => q H2 (e1.trans e2)
          rw [edgeB_tup]
          refine ev_andV (ep rfl rfl h1) fun p1 => ev_andV (ep rfl rfl h2) fun p2 => ?_
          cases h1 with
          | int i =>
            cases h2 with
            | int j => exact ev_op (ev_var rfl) (ev_var rfl) rv_I0
            | _ => cases p2
          | _ => cases p1
    · refine q_when (b := true) (et_is (et_or (b := true) (et_not (et_B (ev_isi e0 hd (kit_tup _)))) fun hs => ?_) ?_) ?_ ?_
      · rw [hn] at hs
        cases hs
      · rw [hn]
        rfl
      · intro _ H1 e1
        have : edgeB n d = false := by
          cases d <;> first | rfl | cases hn
        refine s_ret (v := .bl false) ev_c fun H2 e3 => ?_
        rw [← this]
        exact q H2 (e1.trans e3)
      · intro hb
        cases hb
end
end K92
/-! the law's drawn numbers: what a source holds -/
namespace Os
open PySem PySem.Spec PyProof.Rows L2 Evl

/-- at s a source: the digits left, the seed, the number of mixed draws (at most B) -/
def Src (H : Hp) (s : Addr) (B : Nat) : Prop := ∃ x y z : Int, H s = some (.lst [.int x, .int y, .int z]) ∧ 0 ≤ x ∧ 0 ≤ y ∧ y < 2 ^ 140 ∧ 0 ≤ z ∧ z ≤ (B : Int)
theorem Src.mono {H : Hp} {s : Addr} {B C : Nat} (h : Src H s B) (le : B ≤ C) : Src H s C := by
  obtain ⟨x, y, z, h1, h2, h3, h4, h5, h6⟩ := h
  exact ⟨x, y, z, h1, h2, h3, h4, h5, by omega⟩
theorem Src.ex {H H' : Hp} {s : Addr} {B : Nat} (h : Src H s B) (e : Ex H H') : Src H' s B := by
  obtain ⟨x, y, z, h1, h2⟩ := h
  exact ⟨x, y, z, e _ _ h1, h2⟩
theorem Src.at {H : Hp} {s : Addr} {B : Nat} (h : Src H s B) : ∃ o, H s = some o := by
  obtain ⟨x, y, z, h1, _⟩ := h
  exact ⟨_, h1⟩
/-- all but the source stands as it was; the source has made at most n more mixed draws -/
structure Drew (s : Addr) (B : Nat) (H H' : Hp) : Prop where
  kept : Ex (hide s H) (hide s H')
  src : Src H' s B
theorem Drew.refl {s : Addr} {B : Nat} {H : Hp} (h : Src H s B) : Drew s B H H := ⟨Ex.refl _, h⟩
theorem Drew.trans {s : Addr} {B C : Nat} {H H1 H2 : Hp} (a : Drew s B H H1) (b : Drew s C H1 H2) : Drew s C H H2 := ⟨a.kept.trans b.kept, b.src⟩
theorem Drew.ex {s : Addr} {B : Nat} {H H1 H2 : Hp} (a : Drew s B H H1) (e : Ex H1 H2) : Drew s B H H2 := ⟨a.kept.trans (Same.hide (same_ex e)), a.src.ex e⟩
theorem Drew.get {s : Addr} {B : Nat} {H H' : Hp} (a : Drew s B H H') {b : Addr} {o : HO} (n : b ≠ s) (h : H b = some o) : H' b = some o := by
  have := a.kept b o (by rw [hide_ne n]; exact h)
  exact (hide_of this).2
theorem Drew.mono {s : Addr} {B C : Nat} {H H' : Hp} (a : Drew s B H H') (le : B ≤ C) : Drew s C H H' := ⟨a.kept, a.src.mono le⟩
/-- what is free behind was free before -/
theorem Drew.none {s : Addr} {B : Nat} {H H' : Hp} (a : Drew s B H H') (h0 : ∃ o, H s = some o) {p : Addr} (h : H' p = Option.none) : H p = Option.none := by
  obtain ⟨o, so⟩ := a.src.at
  have np : p ≠ s := fun e => by rw [e, so] at h; cases h
  cases q : H p with
  | none => rfl
  | some u =>
    rw [a.get np q] at h
    cases h
/-- a new object, or one that H did not know, is changed -/
theorem Drew.mut {s : Addr} {B : Nat} {H H' : Hp} (a : Drew s B H H') {p : Addr} {o : HO} (hs : ∃ u, H s = some u) (h : H p = Option.none) : Drew s B H (upd H' p o) := by
  obtain ⟨u, hu⟩ := hs
  have np : s ≠ p := ne_of_none hu h
  refine ⟨fun b v q => ?_, ?_⟩
  · obtain ⟨q1, q2⟩ := hide_of q
    rw [hide_ne q1, upd_ne (ne_of_none q2 h)]
    exact a.get q1 q2
  · obtain ⟨x, y, z, h1, h2⟩ := a.src
    exact ⟨x, y, z, by rw [upd_ne np]; exact h1, h2⟩

/-! ### data beside a source -/
theorem Dt.drew {s : Addr} {B : Nat} {H H' : Hp} {v : V} {d : PyData} (h : Dt (hide s H) v d) (a : Drew s B H H') : Dt (hide s H') v d := h.same (same_ex a.kept)
theorem Dt.seen {s : Addr} {H : Hp} {v : V} {d : PyData} (h : Dt (hide s H) v d) : Dt H v d := h.same hide_same
theorem Dts.seen {s : Addr} {H : Hp} {vs : List V} {ds : List PyData} (h : Dts (hide s H) vs ds) : Dts H vs ds := h.same hide_same

/-! ### the numbers -/
theorem mix_bound {y z : Int} (hy0 : 0 ≤ y) (hy : y < 2 ^ 140) (hz0 : 0 ≤ z) (hz : z < 2 ^ 80) (c : Int) (hc0 : 0 ≤ c) (hc : c < 2 ^ 30) : (y + c * z).natAbs < 2 ^ 141 := by
  have h1 : 0 ≤ c * z := Int.mul_nonneg hc0 hz0
  have h2 : c * z ≤ 2 ^ 30 * 2 ^ 80 := Int.mul_le_mul (by omega) (by omega) hz0 (by decide)
  have h3 : (2 : Int) ^ 30 * 2 ^ 80 ≤ 2 ^ 140 := by decide
  omega
theorem cube_nonneg {i : Int} (h : 0 ≤ i) : 0 ≤ i ^ (3 : Int).toNat := Int.pow_nonneg h
end Os
namespace K92
open PySem PySem.Spec PyProof.Rows L2 Os Evl
abbrev sSource : Stmt := topS 20
abbrev sPick : Stmt := topS 21
theorem scSource : FnScope ["script", "k", "cell"] ["script", "k"] (defScope sSource) := ⟨rfl, rfl, rfl, by decide +kernel, rfl, by decide +kernel, by decide +kernel⟩
theorem scPick : FnScope ["source", "count", "found", "mixed"] ["source", "count"] (defScope sPick) := ⟨rfl, rfl, rfl, by decide +kernel, rfl, by decide +kernel, by decide +kernel⟩
def cellOf (ns : List Int) (k : Nat) : Int := if (k : Int) < (ns.length : Int) then ns.getD k 0 else 0
section
variable {P : Program} {w : World} {K : PySem.W.Frag} {mg : Str → Option Value} {base : Heap}
def spSource (K : PySem.W.Frag) : Sp := fun vs H Q _ => ∃ (a : Addr) (ns : List Int) (k : Nat), vs = [.ref a, .int (k : Int)] ∧ SqL K H a (ns.map V.int) ∧ k ≤ 1000 ∧
  ∀ H' p, Ex H H' → H p = none → Src H' p 0 → Q (.ref p) H'
theorem ok_source {f : Addr} {fd : FuncData} {k : Nat} (F : Fun K "_law_source" "_law_source" sSource f fd) (mL : mg "len" = none) (mM : mg "max" = none) (mA : mg "abs" = none) :
    FnOk P w K mg base CX0 (k + 1) f fd ["script", "k"] (spSource K) := by
  refine F.ok scSource (fun vs H Q E h => ?_) (fun cdv A outer s H vs Q E hr h => ?_)
  · obtain ⟨a, ns, k, rfl, _⟩ := h
    rfl
  · obtain ⟨a, ns, k, rfl, hS, hk, q⟩ := h
    refine ⟨_, pss_cons (ps_set (i := 2) scSource.nd rfl (.inl rfl) (pe_ifExp (pt_cmpR op_lt (pv 1) (pe_callB call_len_seq (by rfl) mL boot_len (pa_cons (pv 0) pa_nil)) (nomark _)) (pe_ix ix_list (pv 0) (pv 1) (fun _ _ => rfl)) pe_int))
      (pss_one (ps_ret (pe_lst (pa_cons (pe_callB (call_max2 rfl) (by rfl) mM boot_max (pa_cons pe_int (pa_cons (pe_op op_sub (pe_callB call_abs (by rfl) mA boot_abs (pa_cons (pv 2) pa_nil)) (pe_op op_pow pe_int pe_int)) pa_nil)))
        (pa_cons (pe_op op_add (pe_op op_add (pe_op op_mul (pe_op op_mod (pe_callB call_abs (by rfl) mA boot_abs (pa_cons (pv 2) pa_nil)) (pe_op op_add (pe_op op_pow pe_int pe_int) pe_int)) pe_int) (pv 1)) pe_int)
        (pa_cons pe_int pa_nil)))))), ?_⟩
    refine q_asg (v := .int (cellOf ns k)) (ev_if (b := decide ((k : Int) < (ns.length : Int))) (et_test (ev_op (ev_var rfl) (ev_is (ev_len (ev_var rfl) hS) (by rw [List.length_map])) rv_I0)) (fun hb => ?_) (fun hb => ?_)) fun H1 e1 => ?_
    · have hb2 := of_decide_eq_true hb
      have e : cellOf ns k = ns.getD k 0 := if_pos hb2
      rw [e]
      refine ev_op (ev_var rfl) (ev_var rfl) (rv_ixL hS (atI_nat (j := k) ?_))
      rw [List.getElem?_map, List.getElem?_eq_getElem (by omega), List.getD_eq_getElem?_getD, List.getElem?_eq_getElem (by omega)]
      rfl
    · have hb2 := of_decide_eq_false hb
      have e : cellOf ns k = 0 := if_neg hb2
      rw [e]
      exact ev_c
    · have ec := ev_var (σ := (start ["script", "k", "cell"] [.ref a, .int (k : Int)]).set 2 (some (.int (cellOf ns k)))) (H := H1) (i := 2) (v := .int (cellOf ns k)) rfl
      generalize cellOf ns k = c at ec ⊢
      have e18 : (10 : Int) ^ (18 : Int).toNat = 1000000000000000000 := by decide
      have e36 : (10 : Int) ^ (36 : Int).toNat = 1000000000000000000000000000000000000 := by decide
      have pow : ∀ n : Int, 0 ≤ n → n ≤ 100 → CPow 10 n := fun n h1 h2 => ⟨h1, by omega, by decide⟩
      refine s_retL (el_lst (ea_cons (ev_max ev_c (ev_op (ev_abs ec) (ev_op ev_c ev_c (rv_I (pow 18 (by decide) (by decide)))) rv_I0))
        (ea_cons (ev_op (ev_op (ev_op (ev_op (ev_abs ec) (ev_op (ev_op ev_c ev_c (rv_I (pow 36 (by decide) (by decide)))) ev_c rv_I0) (rv_I (by rw [e36]; decide))) ev_c (rv_I (.inr (by decide)))) (ev_var rfl) rv_I0) ev_c rv_I0)
        (ea_cons ev_c ea_nil))) (show 3 ≤ 100000 by decide)) fun p H2 hp e2 h2 => q H2 p (e1.trans e2) (fresh_back e1 hp) ?_
      rw [e18, e36] at h2
      have ha : 0 ≤ (if c < 0 then -c else c) := by split <;> omega
      refine ⟨_, _, 0, h2, ?_, ?_, ?_, Int.le_refl _, Int.le_refl _⟩
      · split <;> omega
      · have := Int.emod_nonneg (if c < 0 then -c else c) (show (1000000000000000000000000000000000000 + 67 : Int) ≠ 0 by decide)
        omega
      · have := Int.emod_lt_of_pos (if c < 0 then -c else c) (show (0 : Int) < 1000000000000000000000000000000000000 + 67 by decide)
        omega

def spPick : Sp := fun vs H Q _ => ∃ (s : Addr) (n : Int) (B : Nat), vs = [.ref s, .int n] ∧ Src H s B ∧ B ≤ 1000000 ∧ 0 < n ∧ n ≤ 1000000 ∧
  ∀ H' r, Drew s (B + 1) H H' → 0 ≤ r → r < n → Q (.int r) H'
theorem ok_pick {f : Addr} {fd : FuncData} {k : Nat} (F : Fun K "_law_pick" "_law_pick" sPick f fd) : FnOk P w K mg base CX0 (k + 1) f fd ["source", "count"] spPick := by
  refine F.ok scPick (fun vs H Q E h => ?_) (fun cdv A outer s H vs Q E hr h => ?_)
  · obtain ⟨a, n, B, rfl, _⟩ := h
    rfl
  · obtain ⟨a, n, B, rfl, hS, hB, hn0, hn1, q⟩ := h
    refine ⟨_, pss_cons (ps_if (pt_cmpR op_gt (pe_ix ix_list (pv 0) pe_int (fun _ _ => rfl)) pe_int (nomark _))
        (pss_cons (ps_set (i := 2) scPick.nd rfl (.inl rfl) (pe_op op_mod (pe_ix ix_list (pv 0) pe_int (fun _ _ => rfl)) (pv 1)))
        (pss_cons (ps_asg (pe_op op_fdivW (pe_ix ix_list (pv 0) pe_int (fun _ _ => rfl)) (pv 1)) (pg_sub (pv 0) pe_int set_list))
        (pss_one (ps_ret (pv 2))))) pss_nil)
      (pss_cons (ps_asg (pe_op op_add (pe_ix ix_list (pv 0) pe_int (fun _ _ => rfl)) pe_int) (pg_sub (pv 0) pe_int set_list))
      (pss_cons (ps_set (i := 3) scPick.nd rfl (.inl rfl) (pe_op op_mod (pe_op op_powW (pe_op op_add (pe_ix ix_list (pv 0) pe_int (fun _ _ => rfl)) (pe_op op_mul pe_int (pe_ix ix_list (pv 0) pe_int (fun _ _ => rfl)))) pe_int) (pe_op op_add (pe_op op_pow pe_int pe_int) pe_int)))
      (pss_cons (ps_set (i := 3) scPick.nd rfl (.inl rfl) (pe_op op_mod (pe_op op_powW (pe_op op_add (pv 3) (pe_op op_mul pe_int (pe_ix ix_list (pv 0) pe_int (fun _ _ => rfl)))) pe_int) (pe_op op_add (pe_op op_pow pe_int pe_int) pe_int)))
      (pss_one (ps_ret (pe_op op_mod (pe_op op_fdivW (pv 3) pe_int) (pv 1))))))), ?_⟩
    obtain ⟨x, y, z, h1, hx, hy0, hy1, hz0, hz1⟩ := hS
    have at0 : ∀ {H' : Hp} {x' y' z' : Int}, H' a = some (.lst [.int x', .int y', .int z']) → ∀ {σ : L2.St}, σ[0]? = some (some (.ref a)) →
        Ev (tOp (rIxL K) (tVar 0) (tC (.int 0))) σ H' (.int x') ∧ Ev (tOp (rIxL K) (tVar 0) (tC (.int 1))) σ H' (.int y') ∧ Ev (tOp (rIxL K) (tVar 0) (tC (.int 2))) σ H' (.int z') := fun h σ e =>
      ⟨ev_op (ev_var e) ev_c (rv_ixL (sq_of h) (atI_nat (j := 0) rfl)), ev_op (ev_var e) ev_c (rv_ixL (sq_of h) (atI_nat (j := 1) rfl)), ev_op (ev_var e) ev_c (rv_ixL (sq_of h) (atI_nat (j := 2) rfl))⟩
    have upd_drew : ∀ {H1 : Hp} {x' z' : Int}, Ex H H1 → 0 ≤ x' → 0 ≤ z' → z' ≤ ((B + 1 : Nat) : Int) → Drew a (B + 1) H (upd H1 a (.lst [.int x', .int y, .int z'])) := fun e p1 p2 p3 =>
      ⟨by rw [hide_upd]; exact Same.hide (same_ex e), _, y, _, upd_same, p1, hy0, hy1, p2, p3⟩
    refine q_when (b := decide (0 < x)) (et_test (ev_op (at0 h1 rfl).1 ev_c rv_I0)) ?_ ?_
    · intro hb H1 e1
      refine q_asg (v := .int (x % n)) (ev_op (at0 (e1 _ _ h1) rfl).1 (ev_var rfl) (rv_I hn0)) fun H2 e2 => ?_
      refine q_setL (j := 0) (xs := [.int x, .int y, .int z]) (v := .int (x / n)) (e2 _ _ (e1 _ _ h1)) (ev_op (at0 (e2 _ _ (e1 _ _ h1)) rfl).1 (ev_var rfl) (rv_I (wide_div (b := 30) hn0 (by omega) (by decide) (by decide)))) (ev_var rfl) ev_c (show 0 < 3 by decide) fun H3 e3 => ?_
      refine s_ret (v := .int (x % n)) (ev_var rfl) fun H4 e4 => ?_
      exact q H4 _ ((upd_drew ((e1.trans e2).trans e3) (Int.ediv_nonneg hx (by omega)) hz0 (by omega)).ex e4) (Int.emod_nonneg x (by omega)) (Int.emod_lt_of_pos x hn0)
    · intro hb H1 e1
      refine q_setL (j := 2) (xs := [.int x, .int y, .int z]) (v := .int (z + 1)) (e1 _ _ h1) (ev_op (at0 (e1 _ _ h1) rfl).2.2 ev_c rv_I0) (ev_var rfl) ev_c (show 2 < 3 by decide) fun H2 e2 => ?_
      have d2 : Drew a (B + 1) H (upd H2 a (.lst [.int x, .int y, .int (z + 1)])) := upd_drew (e1.trans e2) hx (by omega) (by omega)
      have h3 : (upd H2 a (.lst [.int x, .int y, .int (z + 1)])) a = some (.lst [.int x, .int y, .int (z + 1)]) := upd_same
      have e38 : (10 : Int) ^ (38 : Int).toNat = 100000000000000000000000000000000000000 := by decide
      have e37 : (10 : Int) ^ (37 : Int).toNat = 10000000000000000000000000000000000000 := by decide
      have pow : ∀ n : Int, 0 ≤ n → n ≤ 100 → CPow 10 n := fun n h1 h2 => ⟨h1, by omega, by decide⟩
      show tSeq _ _ _ _ (upd H2 a (.lst [.int x, .int y, .int (z + 1)]))
      generalize (upd H2 a (.lst [.int x, .int y, .int (z + 1)])) = H3 at d2 h3
      have b1 : (y + 49979687 * (z + 1)).natAbs < 2 ^ 141 := mix_bound hy0 hy1 (by omega) (by omega) 49979687 (by decide) (by decide)
      refine q_asg (v := .int ((y + 49979687 * (z + 1)) ^ (3 : Int).toNat % ((10 : Int) ^ (38 : Int).toNat + 133))) (ev_op (ev_op (ev_op (at0 h3 rfl).2.1 (ev_op ev_c (at0 h3 rfl).2.2 (rv_I (.inl (by decide)))) rv_I0) ev_c (rv_I (cube_ok b1 (by decide) (by decide))))
        (ev_op (ev_op ev_c ev_c (rv_I (pow 38 (by decide) (by decide)))) ev_c rv_I0) (rv_I (by rw [e38]; decide))) fun H4 e4 => ?_
      have m1 := Int.emod_nonneg ((y + 49979687 * (z + 1)) ^ (3 : Int).toNat) (show ((10 : Int) ^ (38 : Int).toNat + 133) ≠ 0 by rw [e38]; decide)
      have m2 := Int.emod_lt_of_pos ((y + 49979687 * (z + 1)) ^ (3 : Int).toNat) (show 0 < ((10 : Int) ^ (38 : Int).toNat + 133) by rw [e38]; decide)
      generalize (y + 49979687 * (z + 1)) ^ (3 : Int).toNat % ((10 : Int) ^ (38 : Int).toNat + 133) = m at m1 m2
      rw [e38] at m2
      have b2 : (m + 32452843 * (z + 1)).natAbs < 2 ^ 141 := mix_bound m1 (by omega) (by omega) (by omega) 32452843 (by decide) (by decide)
      refine q_asg (v := .int ((m + 32452843 * (z + 1)) ^ (3 : Int).toNat % ((10 : Int) ^ (37 : Int).toNat + 43))) (ev_op (ev_op (ev_op (ev_var rfl) (ev_op ev_c (at0 (e4 _ _ h3) rfl).2.2 (rv_I (.inl (by decide)))) rv_I0) ev_c (rv_I (cube_ok b2 (by decide) (by decide))))
        (ev_op (ev_op ev_c ev_c (rv_I (pow 37 (by decide) (by decide)))) ev_c rv_I0) (rv_I (by rw [e37]; decide))) fun H5 e5 => ?_
      generalize (m + 32452843 * (z + 1)) ^ (3 : Int).toNat % ((10 : Int) ^ (37 : Int).toNat + 43) = u
      refine s_ret (v := .int (u / 131071 % n)) (ev_op (ev_op (ev_var rfl) ev_c (rv_I (wide_div (b := 30) (by decide) (by decide) (by decide) (by decide)))) (ev_var rfl) (rv_I hn0)) fun H6 e6 => ?_
      exact q H6 _ (((d2.ex e4).ex e5).ex e6) (Int.emod_nonneg _ (by omega)) (Int.emod_lt_of_pos _ hn0)
end
end K92
/-! the drawn forests: each later label is tied to an earlier one at most once -/
namespace Os
open PySem PySem.Spec PyProof.Rows L2 Evl
theorem snd_inj : ∀ {ks : List Pr}, ks.Pairwise (fun p q => p.2 < q.2) → ∀ {p q : Pr}, p ∈ ks → q ∈ ks → p.2 = q.2 → p = q
  | x :: r, h, p, q, hp, hq, e => by
    obtain ⟨h1, h2⟩ := List.pairwise_cons.mp h
    rcases List.mem_cons.mp hp with ep | hp
    · rcases List.mem_cons.mp hq with eq | hq
      · rw [ep, eq]
      · have := h1 q hq
        rw [ep] at e
        omega
    · rcases List.mem_cons.mp hq with eq | hq
      · have := h1 p hp
        rw [eq] at e
        omega
      · exact snd_inj h2 hp hq e
def edgeOf (lab : List Nat) (p : Pr) : Pr := (min (lab.getD p.1 0) (lab.getD p.2 0), max (lab.getD p.1 0) (lab.getD p.2 0))
/-- the places that hang below those of T -/
def below : List Pr → (Nat → Bool) → Nat → Bool
  | [], T => T
  | p :: r, T => below r fun x => T x || (decide (x = p.2) && T p.1)
theorem below_out : ∀ {ks : List Pr} {T : Nat → Bool} {x : Nat}, (∀ p ∈ ks, p.2 ≠ x) → below ks T x = T x
  | [], _, _, _ => rfl
  | p :: r, T, x, h => by
    show below r _ x = T x
    rw [below_out fun q hq => h q (List.mem_cons_of_mem _ hq), decide_eq_false fun e => h p List.mem_cons_self e.symm, Bool.false_and, Bool.or_false]
theorem below_tie : ∀ {ks : List Pr} {T : Nat → Bool} {a k : Nat}, (∀ p ∈ ks, p.1 < p.2) → ks.Pairwise (fun p q => p.2 < q.2) → (a, k) ∈ ks → below ks T k = (T k || below ks T a)
  | p :: r, T, a, k, hl, inc, hm => by
    obtain ⟨i1, i2⟩ := List.pairwise_cons.mp inc
    rcases List.mem_cons.mp hm with e | hm
    · subst e
      have lt : a < k := hl _ List.mem_cons_self
      show below r _ k = (T k || below r _ a)
      rw [below_out (x := k) fun q hq e => by have := i1 q hq; omega, below_out (x := a) fun q hq e => by have := i1 q hq; omega]
      rw [decide_eq_true rfl, decide_eq_false (show ¬ a = k by omega), Bool.true_and, Bool.false_and, Bool.or_false]
    · have gt : p.2 < k := i1 _ hm
      show below r _ k = (T k || below r _ a)
      rw [below_tie (fun q hq => hl q (List.mem_cons_of_mem _ hq)) i2 hm, decide_eq_false (show ¬ k = p.2 by omega), Bool.false_and, Bool.or_false]
theorem below_up : ∀ {ks : List Pr} {T : Nat → Bool} {x : Nat}, T x = true → below ks T x = true
  | [], _, _, h => h
  | p :: r, T, x, h => below_up (ks := r) (by rw [h]; rfl)
theorem below_ge : ∀ {ks : List Pr} {T : Nat → Bool} {c : Nat}, (∀ p ∈ ks, p.1 < p.2) → (∀ x, T x = true → c ≤ x) → ∀ x, below ks T x = true → c ≤ x
  | [], _, _, _, h => h
  | p :: r, T, c, hl, h => below_ge (ks := r) (fun q hq => hl q (List.mem_cons_of_mem _ hq)) fun x hx => by
    rw [Bool.or_eq_true, Bool.and_eq_true] at hx
    rcases hx with hx | ⟨h1, h2⟩
    · exact h x hx
    · have e := of_decide_eq_true h1
      have := h p.1 h2
      have := hl p List.mem_cons_self
      omega
theorem perm_nats {l : List Nat} {ys : List V} (h : ys.Perm (l.map fun x : Nat => V.int (x : Int))) : ∃ us : List Nat, ys = us.map (fun x : Nat => V.int (x : Int)) ∧ us.Perm l := by
  have back : ∀ x ∈ ys, ∃ z : Nat, x = V.int (z : Int) := fun x hx => by
    obtain ⟨z, _, e⟩ := List.mem_map.mp (h.mem_iff.mp hx)
    exact ⟨z, e.symm⟩
  let un : V → Nat := fun v => match v with
    | .int z => z.toNat
    | _ => 0
  refine ⟨ys.map un, ?_, ?_⟩
  · rw [List.map_map]
    have : ys.map ((fun x : Nat => V.int (x : Int)) ∘ un) = ys.map id := List.map_congr_left fun x hx => by
      obtain ⟨z, e⟩ := back x hx
      rw [e]
      rfl
    rw [this, List.map_id]
  · have := h.map un
    rw [List.map_map] at this
    have e : l.map (un ∘ fun x : Nat => V.int (x : Int)) = l := by
      have : l.map (un ∘ fun x : Nat => V.int (x : Int)) = l.map id := List.map_congr_left fun x _ => rfl
      rw [this, List.map_id]
    rwa [e] at this
section
variable {lab : List Nat} {n : Nat}
theorem lab_len (pm : lab.Perm (List.range n)) : lab.length = n := by rw [pm.length_eq, List.length_range]
theorem lab_lt (pm : lab.Perm (List.range n)) {i : Nat} (h : i < n) : lab.getD i 0 < n := by
  rw [List.getD_eq_getElem?_getD, List.getElem?_eq_getElem (by rw [lab_len pm]; exact h)]
  exact List.mem_range.mp (pm.mem_iff.mp (List.getElem_mem _))
theorem lab_inj (pm : lab.Perm (List.range n)) {i j : Nat} (hi : i < n) (hj : j < n) (e : lab.getD i 0 = lab.getD j 0) : i = j := by
  have nd : lab.Nodup := pm.nodup_iff.mpr List.nodup_range
  have li : i < lab.length := by rw [lab_len pm]; exact hi
  have lj : j < lab.length := by rw [lab_len pm]; exact hj
  rw [List.getD_eq_getElem?_getD, List.getD_eq_getElem?_getD, List.getElem?_eq_getElem li, List.getElem?_eq_getElem lj] at e
  have e' : lab[i] = lab[j] := e
  refine Decidable.byContradiction fun ne => ?_
  rcases Nat.lt_or_gt_of_ne ne with h | h
  · exact List.pairwise_iff_getElem.mp nd i j li lj h e'
  · exact List.pairwise_iff_getElem.mp nd j i lj li h e'.symm
/-- a property of places, said of labels -/
def onLab (lab : List Nat) (n : Nat) (T : Nat → Bool) (x : Nat) : Bool := (List.range n).any fun i => decide (lab.getD i 0 = x) && T i
theorem onLab_at (pm : lab.Perm (List.range n)) (T : Nat → Bool) {i : Nat} (hi : i < n) : onLab lab n T (lab.getD i 0) = T i := by
  unfold onLab
  cases h : T i with
  | true => exact List.any_eq_true.mpr ⟨i, List.mem_range.mpr hi, by rw [decide_eq_true rfl, h]; rfl⟩
  | false =>
    refine List.any_eq_false.mpr fun j hj z => ?_
    rw [Bool.and_eq_true] at z
    have e := lab_inj pm (List.mem_range.mp hj) hi (of_decide_eq_true z.1)
    rw [e, h] at z
    cases z.2
theorem minmax (S : Nat → Bool) (u v : Nat) : (S (min u v) = S (max u v)) ↔ S u = S v := by
  by_cases h : u ≤ v
  · rw [Nat.min_eq_left h, Nat.max_eq_right h]
  · rw [Nat.min_eq_right (by omega), Nat.max_eq_left (by omega)]
    exact ⟨Eq.symm, Eq.symm⟩
theorem drawn_edges {ks : List Pr} (pm : lab.Perm (List.range n)) (hl : ∀ p ∈ ks, p.1 < p.2 ∧ p.2 < n) (inc : ks.Pairwise fun p q => p.2 < q.2) :
    (∀ e ∈ ks.map (edgeOf lab), e.1 < e.2 ∧ e.2 < n) ∧ (ks.map (edgeOf lab)).Nodup ∧ Bridges (ks.map (edgeOf lab)) := by
  refine ⟨fun e he => ?_, ?_, fun e he => ?_⟩
  · obtain ⟨p, hp, rfl⟩ := List.mem_map.mp he
    obtain ⟨h1, h2⟩ := hl p hp
    have a := lab_lt pm (show p.1 < n by omega)
    have b := lab_lt pm h2
    have ne : lab.getD p.1 0 ≠ lab.getD p.2 0 := fun z => by
      have := lab_inj pm (show p.1 < n by omega) h2 z
      omega
    show min _ _ < max _ _ ∧ max _ _ < n
    omega
  · unfold List.Nodup
    rw [List.pairwise_map]
    refine List.Pairwise.imp_of_mem (fun {p q} hp hq lt e => ?_) inc
    obtain ⟨h1, h2⟩ := hl p hp
    obtain ⟨h3, h4⟩ := hl q hq
    have e1 : min (lab.getD p.1 0) (lab.getD p.2 0) = min (lab.getD q.1 0) (lab.getD q.2 0) := congrArg Prod.fst e
    have e2 : max (lab.getD p.1 0) (lab.getD p.2 0) = max (lab.getD q.1 0) (lab.getD q.2 0) := congrArg Prod.snd e
    have or : (lab.getD p.1 0 = lab.getD q.1 0 ∧ lab.getD p.2 0 = lab.getD q.2 0) ∨ (lab.getD p.1 0 = lab.getD q.2 0 ∧ lab.getD p.2 0 = lab.getD q.1 0) := by omega
    rcases or with ⟨_, z⟩ | ⟨z1, z2⟩
    · have := lab_inj pm h2 h4 z
      omega
    · have := lab_inj pm (by omega) h4 z1
      have := lab_inj pm h2 (by omega) z2
      omega
  · obtain ⟨p, hp, rfl⟩ := List.mem_map.mp he
    obtain ⟨h1, h2⟩ := hl p hp
    have hl1 : ∀ q ∈ ks, q.1 < q.2 := fun q hq => (hl q hq).1
    refine ⟨onLab lab n (below ks fun x => decide (x = p.2)), ?_, fun f hf ne => ?_⟩
    · intro z
      have z2 := (minmax _ _ _).mp z
      rw [onLab_at pm _ (show p.1 < n by omega), onLab_at pm _ h2, below_up (x := p.2) (decide_eq_true rfl)] at z2
      have := below_ge (c := p.2) hl1 (fun x hx => by have := of_decide_eq_true hx; omega) p.1 z2
      omega
    · obtain ⟨q, hq, rfl⟩ := List.mem_map.mp hf
      obtain ⟨h3, h4⟩ := hl q hq
      refine (minmax _ _ _).mpr ?_
      rw [onLab_at pm _ (show q.1 < n by omega), onLab_at pm _ h4]
      have nk : q.2 ≠ p.2 := fun z => by
        have : p = q := snd_inj inc hp hq z.symm
        rw [this] at ne
        exact ne rfl
      have t := below_tie (T := fun x => decide (x = p.2)) hl1 inc (show (q.1, q.2) ∈ ks from hq)
      rw [decide_eq_false nk, Bool.false_or] at t
      exact t.symm
end
/-! ### sorted -/
theorem Bridges.perm {es fs : List Pr} (h : Bridges es) (pm : fs.Perm es) : Bridges fs := fun e he => by
  obtain ⟨S, h1, h2⟩ := h e (pm.mem_iff.mp he)
  exact ⟨S, h1, fun f hf => h2 f (pm.mem_iff.mp hf)⟩
theorem asc_strict {es : List Pr} (nd : es.Nodup) (small : ∀ e ∈ es, e.1 < 64 ∧ e.2 < 64) (h : es.Pairwise fun e f => (e.1 : Int) * 64 + (e.2 : Int) ≤ (f.1 : Int) * 64 + (f.2 : Int)) : es.Pairwise fun e f => ltP e f = true := by
  have h2 := h.and nd
  refine List.Pairwise.imp_of_mem (fun {e f} he hf z => ?_) h2
  obtain ⟨a1, a2⟩ := small e he
  obtain ⟨b1, b2⟩ := small f hf
  rw [ltP_iff]
  by_cases q : e.1 = f.1
  · by_cases q2 : e.2 = f.2
    · exact absurd (Prod.ext q q2) z.2
    · have := z.1
      omega
  · have := z.1
    omega
end Os
/-! what evaluates to something of a kind: displays, sums and slices whose items are new objects themselves -/
namespace Os
open PySem PySem.Spec PyProof.Rows L2 Evl

/-- R is kept by more heap -/
def Up (R : Hp → V → Prop) : Prop := ∀ G G' v, Ex G G' → R G v → R G' v
section
variable (s : Addr) (R : Hp → V → Prop)
def EvR (te : TE) (σ : L2.St) (H : Hp) : Prop := ∀ H1, Ex H H1 → ∀ Q : VK, (∀ v H2, Ex H1 H2 → R (hide s H2) v → Q v H2) → te σ H1 Q
def EvAR (ta : TA) (σ : L2.St) (H : Hp) (n : Nat) : Prop := ∀ H1, Ex H H1 → ∀ Q : List V → Hp → Prop, (∀ vs H2, Ex H1 H2 → vs.length = n → (∀ v ∈ vs, R (hide s H2) v) → Q vs H2) → ta σ H1 Q
/-- a new list of lo to hi such items -/
def EvLR (te : TE) (σ : L2.St) (H : Hp) (lo hi : Nat) : Prop := ∀ H1, Ex H H1 → ∀ Q : VK,
  (∀ p xs H2, H1 p = none → Ex H1 H2 → H2 p = some (.lst xs) → lo ≤ xs.length → xs.length ≤ hi → (∀ x ∈ xs, R (hide s H2) x) → Q (.ref p) H2) → te σ H1 Q
/-- a list that stands at p, the same of its items -/
def LsR (H : Hp) (p : Addr) (lo hi : Nat) : Prop := p ≠ s ∧ ∃ xs, H p = some (.lst xs) ∧ lo ≤ xs.length ∧ xs.length ≤ hi ∧ ∀ x ∈ xs, R (hide s H) x
end
section
variable {K : PySem.W.Frag} {s : Addr} {R : Hp → V → Prop} {σ : L2.St} {H H' : Hp} {ta tb te : TE} {tl tr : TA} {n m lo hi lo' hi' : Nat} {v : V}
theorem hide_ex (e : Ex H H') : Ex (hide s H) (hide s H') := Same.hide (same_ex e)
theorem er_of (up : Up R) (h : Ev te σ H v) (r : R (hide s H) v) : EvR s R te σ H := fun H1 e Q q =>
  h H1 e _ fun H2 e2 => q v H2 e2 (up _ _ _ (hide_ex (e.trans e2)) r)
theorem er_mono (e : Ex H H') (h : EvR s R te σ H) : EvR s R te σ H' := fun H1 a Q q => h H1 (e.trans a) Q q
theorem ear_nil : EvAR s R tNil σ H 0 := fun H1 _ Q q => q [] H1 (Ex.refl _) rfl fun _ h => nomatch h
theorem ear_cons (up : Up R) (h : EvR s R te σ H) (hr : EvAR s R tr σ H n) : EvAR s R (tCons te tr) σ H (n + 1) := fun H1 e Q q =>
  h H1 e _ fun v H2 e2 r => hr H2 (e.trans e2) _ fun vs H3 e3 hn hv => q (v :: vs) H3 (e2.trans e3) (by rw [List.length_cons, hn]) fun x hx => by
    rcases List.mem_cons.mp hx with rfl | hx
    · exact up _ _ _ (hide_ex e3) r
    · exact hv x hx
theorem new_apart (hs : ∃ o, H s = some o) {p : Addr} (h : H p = none) : p ≠ s := fun e => by
  obtain ⟨o, ho⟩ := hs
  rw [e, ho] at h
  cases h
theorem elr_lst (up : Up R) (h : EvAR s R tl σ H n) (hn : n ≤ 1000) : EvLR s R (tLst tl) σ H n n := fun H1 e Q q =>
  h H1 e _ fun vs H2 e2 hl hv => ⟨by rw [hl]; exact sz_of (by omega), fun p hp => q p vs _ (fresh_back e2 hp) (e2.trans (Ex.new hp)) upd_same (by omega) (by omega) fun x hx => up _ _ _ (hide_ex (Ex.new hp)) (hv x hx)⟩
theorem elr_cat (up : Up R) (h1 : EvLR s R ta σ H lo hi) (h2 : EvLR s R tb σ H lo' hi') (hn : hi + hi' ≤ 10000) : EvLR s R (tOp rCat ta tb) σ H (lo + lo') (hi + hi') := fun H1 e Q q =>
  h1 H1 e _ fun p xs H2 hp e2 hx l1 l2 rx => h2 H2 (e.trans e2) _ fun p' ys H3 hp' e3 hy l3 l4 ry =>
    ⟨p, p', xs, ys, rfl, rfl, e3 _ _ hx, hy, sz_of (by omega), fun r hr => q r (xs ++ ys) _ (fresh_back (e2.trans e3) hr) ((e2.trans e3).trans (Ex.new hr)) upd_same (by rw [List.length_append]; omega) (by rw [List.length_append]; omega) fun x hx => by
      rcases List.mem_append.mp hx with z | z
      · exact up _ _ _ (hide_ex (e3.trans (Ex.new hr))) (rx x z)
      · exact up _ _ _ (hide_ex (Ex.new hr)) (ry x z)⟩
/-- the left one stands there already -/
theorem elr_catV (up : Up R) {p : Addr} (h1 : Ev ta σ H (.ref p)) (hp : LsR s R H p lo hi) (h2 : EvLR s R tb σ H lo' hi') (hn : hi + hi' ≤ 10000) : EvLR s R (tOp rCat ta tb) σ H (lo + lo') (hi + hi') := fun H1 e Q q => by
  obtain ⟨_, xs, hx, l1, l2, rx⟩ := hp
  exact h1 H1 e _ fun H2 e2 => h2 H2 (e.trans e2) _ fun p' ys H3 hp' e3 hy l3 l4 ry =>
    ⟨p, p', xs, ys, rfl, rfl, ((e.trans e2).trans e3) _ _ hx, hy, sz_of (by omega), fun r hr => q r (xs ++ ys) _ (fresh_back (e2.trans e3) hr) ((e2.trans e3).trans (Ex.new hr)) upd_same (by rw [List.length_append]; omega) (by rw [List.length_append]; omega) fun x hx => by
      rcases List.mem_append.mp hx with z | z
      · exact up _ _ _ (hide_ex (((e.trans e2).trans e3).trans (Ex.new hr))) (rx x z)
      · exact up _ _ _ (hide_ex (Ex.new hr)) (ry x z)⟩
/-- a list that is known whole -/
theorem elr_of (up : Up R) {xs : List V} (h : EvL te σ H xs) (l1 : lo ≤ xs.length) (l2 : xs.length ≤ hi) (r : ∀ x ∈ xs, R (hide s H) x) : EvLR s R te σ H lo hi := fun H1 e Q q =>
  h H1 e _ fun p H2 hp e2 h2 => q p xs H2 hp e2 h2 l1 l2 fun x hx => up _ _ _ (hide_ex (e.trans e2)) (r x hx)
/-- such a list as a value of another kind -/
theorem er_list {R' : Hp → V → Prop} (hs : ∃ o, H s = some o) (h : EvLR s R te σ H lo hi) (f : ∀ p xs G, G p = some (.lst xs) → lo ≤ xs.length → xs.length ≤ hi → (∀ x ∈ xs, R G x) → R' G (.ref p)) : EvR s R' te σ H := fun H1 e Q q =>
  h H1 e _ fun p xs H2 hp e2 h2 l1 l2 r => q (.ref p) H2 e2 (f p xs _ (by
    rw [hide_ne (new_apart (by obtain ⟨o, ho⟩ := hs; exact ⟨o, e _ _ ho⟩) hp)]
    exact h2) l1 l2 r)
theorem er_tup {R' : Hp → V → Prop} (up : Up R) (hs : ∃ o, H s = some o) (h : EvAR s R tl σ H n) (hn : n ≤ 1000) (f : ∀ p xs G, G p = some (.tup xs) → xs.length = n → (∀ x ∈ xs, R G x) → R' G (.ref p)) : EvR s R' (tTup tl) σ H := fun H1 e Q q =>
  h H1 e _ fun vs H2 e2 hl hv => ⟨by rw [hl]; exact sz_of (by omega), fun p hp => q (.ref p) _ (e2.trans (Ex.new hp)) (f p vs _ (by
    rw [hide_ne (new_apart (by obtain ⟨o, ho⟩ := hs; exact ⟨o, e2 _ _ (e _ _ ho)⟩) hp)]
    exact upd_same) hl fun x hx => up _ _ _ (hide_ex (Ex.new hp)) (hv x hx))⟩
theorem er_imp {R' : Hp → V → Prop} (h : EvR s R te σ H) (f : ∀ G v, R G v → R' G v) : EvR s R' te σ H := fun H1 e Q q => h H1 e Q fun v H2 e2 r => q v H2 e2 (f _ _ r)
/-- statements -/
theorem q_asgR {i : Nat} {D : Ends} {tz : TS} (h : EvR s R te σ H) (k : ∀ v H1, Ex H H1 → R (hide s H1) v → tz D (σ.set i (some v)) H1) : tSeq (tAsg te (gName i)) tz D σ H := h H (Ex.refl H) _ fun v H1 e r => k v H1 e r
theorem q_asgLR {i : Nat} {D : Ends} {tz : TS} (hs : ∃ o, H s = some o) (h : EvLR s R te σ H lo hi) (k : ∀ p H1, H p = none → Ex H H1 → LsR s R H1 p lo hi → tz D (σ.set i (some (.ref p))) H1) : tSeq (tAsg te (gName i)) tz D σ H :=
  h H (Ex.refl H) _ fun p xs H1 hp e h1 l1 l2 r => k p H1 hp e ⟨new_apart hs hp, xs, h1, l1, l2, r⟩
theorem LsR.drew {B : Nat} (up : Up R) {p : Addr} (h : LsR s R H p lo hi) (d : Drew s B H H') : LsR s R H' p lo hi := by
  obtain ⟨np, xs, hx, l1, l2, r⟩ := h
  exact ⟨np, xs, d.get np hx, l1, l2, fun x hx => up _ _ _ d.kept (r x hx)⟩
theorem LsR.ex (up : Up R) {p : Addr} (h : LsR s R H p lo hi) (e : Ex H H') : LsR s R H' p lo hi := by
  obtain ⟨np, xs, hx, l1, l2, r⟩ := h
  exact ⟨np, xs, e _ _ hx, l1, l2, fun x hx => up _ _ _ (hide_ex e) (r x hx)⟩
theorem LsR.pick {Kf : PySem.W.Frag} {p : Addr} {r : Int} {Q : VK} (h : LsR s R H p lo hi) (r0 : 0 ≤ r) (r1 : r < (lo : Int)) (q : ∀ x, R (hide s H) x → Q x H) : rIxL Kf (.ref p) (.int r) H Q := by
  obtain ⟨_, xs, hx, l1, l2, hr⟩ := h
  have lt : r.toNat < xs.length := by omega
  have e : r = (r.toNat : Int) := by omega
  rw [e]
  exact ⟨p, xs, _, xs[r.toNat], rfl, rfl, sq_of hx, atI_nat (List.getElem?_eq_getElem lt), q _ (hr _ (List.getElem_mem lt))⟩
end
end Os
/-! data of bounded text and depth; sorted texts; permutations -/
namespace Os
open PySem PySem.Spec PyProof.Rows L2 Evl
theorem listText_len (ts : List Str) : (listText ts).length ≤ 2 + piled ts := by
  cases ts with
  | nil => decide
  | cons t ts =>
    unfold listText
    show (textFrom 1 ((("[" : Str) ++ ("" : Str)) ++ t) ts ++ ("]" : Str)).length ≤ _
    rw [strLen_append, textFrom_length_pos ts 1 _ (by decide), strLen_append, strLen_append, piled_cons]
    have e1 : ("[" : Str).length = 1 := by decide
    have e2 : ("" : Str).length = 0 := by decide
    have e3 : ("]" : Str).length = 1 := by decide
    omega
theorem tupleText_len (ts : List Str) : (tupleText ts).length ≤ 3 + piled ts := by
  unfold tupleText
  rw [strLen_append, strLen_append]
  have e1 : ("(" : Str).length = 1 := by decide
  have e2 : ((if ts.length == 1 then ",)" else ")" : String) : Str).length ≤ 2 := by split <;> decide
  cases ts with
  | nil => decide
  | cons t ts =>
    have := join_length_add (t :: ts) (fun h => nomatch h)
    omega
theorem str_codes {z : Str} (h : PyData.strOk z = true) : ∀ c ∈ z.cps.toList, c < 1114112 := by
  unfold PyData.strOk at h
  rw [← Array.all_toList, List.all_eq_true] at h
  exact fun c hc => of_decide_eq_true (h c hc)
theorem str_of_codes {z : Str} (h : ∀ c ∈ z.cps.toList, c < 1114112) : PyData.strOk z = true := by
  unfold PyData.strOk
  rw [← Array.all_toList, List.all_eq_true]
  exact fun c hc => decide_eq_true (h c hc)
theorem int_shown : ∀ i, i < 64 → (PyData.int ((i : Nat) : Int)).shown.length ≤ 100 := by decide +kernel
theorem dts_strs {H : Hp} : ∀ zs : List Str, Dts H (zs.map V.str) (zs.map PyData.str)
  | [] => .nil
  | z :: zs => .cons (.str z) (dts_strs zs)

/-- data of ints, texts, lists and tuples -/
structure Sh (n : Nat) (d : PyData) : Prop where
  lay : d.canLay0 = true
  deep : d.depth ≤ n
theorem sh_all {n : Nat} : ∀ {ds : List PyData}, (∀ d ∈ ds, Sh n d) → PyData.canLayAll0 ds = true ∧ PyData.depthAll ds ≤ n
  | [], _ => ⟨rfl, Nat.zero_le _⟩
  | d :: ds, h => by
    obtain ⟨h1, h2⟩ := sh_all (ds := ds) fun x hx => h x (List.mem_cons_of_mem _ hx)
    have i := h d List.mem_cons_self
    refine ⟨?_, ?_⟩
    · show (d.canLay0 && PyData.canLayAll0 ds) = true
      rw [i.lay, h1]
      rfl
    · show max d.depth (PyData.depthAll ds) ≤ n
      have := i.deep
      omega
theorem Sh.lst {n : Nat} {ds : List PyData} (h : ∀ d ∈ ds, Sh n d) : Sh (n + 1) (.list ds) := ⟨(sh_all h).1, Nat.succ_le_succ (sh_all h).2⟩
theorem Sh.tup {n : Nat} {ds : List PyData} (h : ∀ d ∈ ds, Sh n d) : Sh (n + 1) (.tuple ds) := ⟨(sh_all h).1, Nat.succ_le_succ (sh_all h).2⟩
theorem Sh.int (n : Nat) (i : Int) : Sh n (.int i) := ⟨rfl, Nat.zero_le _⟩
theorem Sh.str (n : Nat) {z : Str} (h : PyData.strOk z = true) : Sh n (.str z) := ⟨h, Nat.zero_le _⟩
theorem Sh.mono {m n : Nat} {d : PyData} (h : Sh m d) (le : m ≤ n) : Sh n d := ⟨h.lay, Nat.le_trans h.deep le⟩
theorem Sh.shaped {n : Nat} {d : PyData} (h : Sh n d) (le : n ≤ 64) : SeqAt.shaped d = true := by
  show (d.canLay0 && decide (d.depth ≤ 64)) = true
  rw [h.lay, decide_eq_true (Nat.le_trans h.deep le)]
  rfl
theorem Sh.refl {n : Nat} {d : PyData} (h : Sh n d) : PyData.eqv d d = true := SeqAt.eqv_refl d h.lay
/-- data of bounded text -/
structure Lim (L D : Nat) (d : PyData) : Prop where
  long : d.shown.length ≤ L
  deep : d.depth ≤ D
  show' : d.showable = true
  flat : d.hasDict = false
theorem Lim.fit {L D : Nat} {d : PyData} (h : Lim L D d) (h1 : L ≤ 1000000) (h2 : D ≤ 40) : Fit sizeLine d := ⟨Nat.le_trans h.long (Nat.le_trans h1 (by decide)), Nat.le_trans h.deep h2, h.show', h.flat⟩
theorem Lim.mono {L D L' D' : Nat} {d : PyData} (h : Lim L D d) (h1 : L ≤ L') (h2 : D ≤ D') : Lim L' D' d := ⟨Nat.le_trans h.long h1, Nat.le_trans h.deep h2, h.show', h.flat⟩
theorem lim_all {L D : Nat} : ∀ {ds : List PyData}, (∀ d ∈ ds, Lim L D d) → piled (PyData.shownAll ds) ≤ (L + 2) * ds.length ∧ PyData.depthAll ds ≤ D ∧ PyData.showableAll ds = true ∧ PyData.hasDictAll ds = false
  | [], _ => ⟨Nat.le_refl _, Nat.zero_le _, rfl, rfl⟩
  | d :: ds, h => by
    obtain ⟨h1, h2, h3, h4⟩ := lim_all (ds := ds) fun x hx => h x (List.mem_cons_of_mem _ hx)
    have i := h d List.mem_cons_self
    refine ⟨?_, ?_, ?_, ?_⟩
    · show piled (d.shown :: PyData.shownAll ds) ≤ (L + 2) * (ds.length + 1)
      rw [piled_cons, Nat.mul_succ]
      have := i.long
      omega
    · show max d.depth (PyData.depthAll ds) ≤ D
      have := i.deep
      omega
    · show (d.showable && PyData.showableAll ds) = true
      rw [i.show', h3]
      rfl
    · show (d.hasDict || PyData.hasDictAll ds) = false
      rw [i.flat, h4]
      rfl
theorem Lim.lst {L D m : Nat} {ds : List PyData} (h : ∀ d ∈ ds, Lim L D d) (hm : ds.length ≤ m) : Lim (3 + (L + 2) * m) (D + 1) (.list ds) := by
  obtain ⟨h1, h2, h3, h4⟩ := lim_all h
  have := Nat.mul_le_mul_left (L + 2) hm
  refine ⟨?_, Nat.succ_le_succ h2, h3, h4⟩
  show (listText (PyData.shownAll ds)).length ≤ _
  have := listText_len (PyData.shownAll ds)
  omega
theorem Lim.tup {L D m : Nat} {ds : List PyData} (h : ∀ d ∈ ds, Lim L D d) (hm : ds.length ≤ m) : Lim (3 + (L + 2) * m) (D + 1) (.tuple ds) := by
  obtain ⟨h1, h2, h3, h4⟩ := lim_all h
  have := Nat.mul_le_mul_left (L + 2) hm
  refine ⟨?_, Nat.succ_le_succ h2, h3, h4⟩
  show (tupleText (PyData.shownAll ds)).length ≤ _
  have := tupleText_len (PyData.shownAll ds)
  omega
theorem Lim.str {z : Str} (h : z.length ≤ 8) (ok : PyData.strOk z = true) : Lim 100 0 (.str z) := by
  refine ⟨?_, Nat.zero_le _, rfl, rfl⟩
  show (reprText z).length ≤ _
  have := StrLaws.reprText_len z fun c hc => Nat.lt_trans (str_codes ok c hc) (by decide)
  omega
theorem Lim.int {i : Nat} (h : i < 64) : Lim 100 0 (.int (i : Int)) := by
  refine ⟨int_shown i h, Nat.zero_le _, ?_, rfl⟩
  show decide (((i : Int)).natAbs.log2 < 1920) = true
  refine decide_eq_true ?_
  have : ((i : Int)).natAbs = i := by omega
  rw [this]
  exact Nat.lt_of_le_of_lt (Nat.log2_le_self i) (by omega)
/-! ### sorted texts -/
theorem rising_pair : ∀ {p : Str} {l : List Str}, risingS p l = true → (p :: l).Pairwise fun a b => ¬ b.cps.toList < a.cps.toList
  | p, [], _ => List.pairwise_singleton _ _
  | p, x :: r, h => by
    have h' : (!ltCps x.cps.toList p.cps.toList && risingS x r) = true := h
    rw [Bool.and_eq_true, ltCps_eq, Bool.not_eq_true', decide_eq_false_iff_not] at h'
    have ih := rising_pair h'.2
    refine List.pairwise_cons.mpr ⟨fun b hb => ?_, ih⟩
    rcases List.mem_cons.mp hb with rfl | hb
    · exact h'.1
    · have h2 := List.rel_of_pairwise_cons ih hb
      exact fun z => h2 (Decidable.byContradiction fun n => h'.1 (by
        exact List.lt_of_le_of_lt (List.not_lt.mp n) z))
theorem sortedS_pair {l : List Str} (h : sortedS l = true) : l.Pairwise fun a b => ¬ b.cps.toList < a.cps.toList := by
  cases l with
  | nil => exact .nil
  | cons x r => exact rising_pair h
theorem sorted_same {l m : List Str} (p : l.Perm m) (h1 : sortedS l = true) (h2 : sortedS m = true) : l = m :=
  List.Perm.eq_of_pairwise (fun a b _ _ x y => by
    have e : a.cps.toList = b.cps.toList := List.le_antisymm (List.not_lt.mp x) (List.not_lt.mp y)
    cases a
    cases b
    exact congrArg Str.mk (Array.ext' e)) (sortedS_pair h1) (sortedS_pair h2) p
/-! ### swaps -/
def swp (zs : List Str) (e : Pr) : List Str := (zs.set e.1 (zs.getD e.2 ⟨#[]⟩)).set e.2 (zs.getD e.1 ⟨#[]⟩)
theorem swp_len (zs : List Str) (e : Pr) : (swp zs e).length = zs.length := by
  unfold swp
  rw [List.length_set, List.length_set]
theorem swp_perm {zs : List Str} {e : Pr} (h1 : e.1 < zs.length) (h2 : e.2 < zs.length) : (swp zs e).Perm zs := by
  unfold swp
  rw [List.getD_eq_getElem?_getD, List.getD_eq_getElem?_getD, List.getElem?_eq_getElem h1, List.getElem?_eq_getElem h2]
  exact List.set_set_perm h1 h2
def swps (zs : List Str) (es : List Pr) : List Str := es.foldl swp zs
theorem swps_perm {n : Nat} : ∀ {es : List Pr} {zs : List Str}, zs.length = n → (∀ e ∈ es, e.1 < n ∧ e.2 < n) → (swps zs es).Perm zs
  | [], _, _, _ => List.Perm.refl _
  | e :: r, zs, hl, h => by
    obtain ⟨a, b⟩ := h e List.mem_cons_self
    exact (swps_perm (by rw [swp_len, hl]) fun f hf => h f (List.mem_cons_of_mem _ hf)).trans (swp_perm (by omega) (by omega))
/-! ### two ascending lists of pairs with the same entries -/
theorem pairs_same {l m : List Pr} (p : l.Perm m) (h1 : l.Pairwise fun e f => (e.1 : Int) * 64 + (e.2 : Int) ≤ (f.1 : Int) * 64 + (f.2 : Int)) (h2 : m.Pairwise fun e f => ltP e f = true) (small : ∀ e ∈ m, e.1 < 64 ∧ e.2 < 64) : l = m := by
  refine List.Perm.eq_of_pairwise (le := fun e f => (e.1 : Int) * 64 + (e.2 : Int) ≤ (f.1 : Int) * 64 + (f.2 : Int)) (fun a b ha hb x y => ?_) h1 (List.Pairwise.imp_of_mem (fun {a b} ha hb h => ?_) h2) p
  · have sa := small a (p.mem_iff.mp ha)
    have sb := small b hb
    exact Prod.ext (by omega) (by omega)
  · have sa := small a ha
    have sb := small b hb
    rw [ltP_iff] at h
    omega
end Os
/-! texts of words: join and split, lists of texts and None, a loop over enumerate -/
namespace Os
open PySem PySem.Spec PyProof.Rows L2 Evl

def isBlO : PyData → Bool
  | .bool _ => true
  | _ => false
theorem kit_boolO (d : PyData) : kitB (tyName d) "bool" = some (isBlO d) := by
  cases d <;> (simp only [tyName, isBlO]; decide +kernel)
/-! ### texts and None -/
def oV : Option Str → V
  | none => .non
  | some z => .str z
def oD : Option Str → PyData
  | none => .none
  | some z => .str z
def oW : Option Str → Str
  | none => "?"
  | some z => z
theorem dt_o {H : Hp} : ∀ o : Option Str, Dt H (oV o) (oD o)
  | none => .non
  | some z => .str z
theorem dts_o {H : Hp} : ∀ os : List (Option Str), Dts H (os.map oV) (os.map oD)
  | [] => .nil
  | o :: os => .cons (dt_o o) (dts_o os)
theorem some_V (zs : List Str) : (zs.map some).map oV = zs.map V.str := by
  rw [List.map_map]
  rfl
theorem some_D (zs : List Str) : (zs.map some).map oD = zs.map PyData.str := by
  rw [List.map_map]
  rfl
theorem some_W (zs : List Str) : (zs.map some).map oW = zs := by
  rw [List.map_map]
  exact List.map_id' zs
theorem flat_o : ∀ os : List (Option Str), (os.map oV).all flatV = true
  | [] => rfl
  | none :: os => flat_o os
  | some _ :: os => flat_o os
theorem inV_o (z : Str) : ∀ os : List (Option Str), inV (.str z) (os.map oV) = decide (some z ∈ os)
  | [] => rfl
  | none :: os => by
    have ih := inV_o z os
    unfold inV at ih ⊢
    rw [List.map_cons, List.any_cons, ih]
    show (false || decide (some z ∈ os)) = _
    rw [Bool.false_or]
    exact decide_eq_decide.mpr ⟨fun h => List.mem_cons_of_mem _ h, fun h => by
      rcases List.mem_cons.mp h with h | h
      · cases h
      · exact h⟩
  | some y :: os => by
    have ih := inV_o z os
    unfold inV at ih ⊢
    rw [List.map_cons, List.any_cons, ih]
    show ((y == z) || decide (some z ∈ os)) = decide (some z ∈ some y :: os)
    by_cases h : y = z
    · subst h
      simp
    · have h2 : ¬ z = y := fun e => h e.symm
      simp [h, h2]
theorem inV_strs' (z : Str) (zs : List Str) : inV (.str z) (zs.map V.str) = decide (z ∈ zs) := by
  rw [← some_V, inV_o]
  refine decide_eq_decide.mpr ⟨fun h => ?_, fun h => List.mem_map.mpr ⟨z, h, rfl⟩⟩
  obtain ⟨y, hy, e⟩ := List.mem_map.mp h
  rw [← Option.some.inj e]
  exact hy

theorem cut_drop (xs : List V) (k : Nat) : cutV xs (some (k : Int)) none = xs.drop k := by
  unfold cutV
  rw [HT.sIx_none, HT.sIx_nat]
  by_cases h : k ≤ xs.length
  · rw [Nat.min_eq_left h, List.take_of_length_le (by rw [List.length_drop]; exact Nat.le_refl _)]
  · rw [Nat.min_eq_right (by omega), List.drop_of_length_le (Nat.le_refl _), List.drop_of_length_le (by omega), List.take_nil]
/-! ### words -/
/-- few words that are not long -/
structure WOk (ws : List Str) : Prop where
  few : ws.length ≤ 100
  short : ∀ w ∈ ws, w.length ≤ 200
abbrev page (ws : List Str) : Str := Txt.join (" " : Str) ws
theorem sum_len {ws : List Str} {b : Nat} (h : ∀ w ∈ ws, w.length ≤ b) : (ws.map (·.length)).sum ≤ b * ws.length := by
  induction ws with
  | nil => exact Nat.le_refl _
  | cons z r ih =>
    rw [List.map_cons, List.sum_cons, List.length_cons, Nat.mul_succ]
    have := ih fun y hy => h y (List.mem_cons_of_mem _ hy)
    have := h z List.mem_cons_self
    omega
theorem WOk.sum {ws : List Str} (h : WOk ws) : (ws.map (·.length)).sum ≤ 20000 := by
  have h1 := sum_len h.short
  have h2 := Nat.mul_le_mul_left 200 h.few
  omega
theorem len_sp : (" " : Str).length = 1 := by decide
theorem len_nl : ("\n" : Str).length = 1 := by decide
theorem join_len_le {sep : Str} {ws : List Str} (hs : sep.length = 1) (h : WOk ws) : (Txt.join sep ws).length ≤ 20100 := by
  have e : Txt.join sep ws = Str.join sep ws := StrLaws.glued_eq_join _ _
  rw [e]
  have h1 := StrLaws.join_length_le sep ws
  have h2 := h.sum
  have h3 := h.few
  rw [hs] at h1
  omega
theorem join_snoc (sep : Str) : ∀ (ws : List Str) (w : Str), ws ≠ [] → Txt.join sep (ws ++ [w]) = Txt.join sep ws ++ sep ++ w
  | [], _, h => absurd rfl h
  | [x], w, _ => by
    rw [TL.join_eq, TL.join_eq]
    rfl
  | x :: y :: r, w, _ => by
    have ih := join_snoc sep (y :: r) w (fun h => nomatch h)
    rw [TL.join_eq, TL.join_eq] at ih
    rw [TL.join_eq, TL.join_eq]
    show x ++ sep ++ Str.join sep (y :: r ++ [w]) = x ++ sep ++ Str.join sep (y :: r) ++ sep ++ w
    rw [show (y :: r ++ [w]) = (y :: r) ++ [w] from rfl, ih]
    refine TL.ext_tl ?_
    simp only [TL.tl_append, List.append_assoc]
theorem join_one (sep w : Str) : Txt.join sep [w] = w := by
  rw [TL.join_eq]
  rfl
/-- a joined text, split -/
theorem split_page {ws : List Str} (ne : ws ≠ []) (h : ∀ w ∈ ws, 32 ∉ w.cps.toList) : Txt.split (page ws) (" " : Str) = ws :=
  TL.split_join (s := 32) (S := []) (by decide) (by decide +kernel) ne h
theorem split_lines {ws : List Str} (ne : ws ≠ []) (h : ∀ w ∈ ws, 10 ∉ w.cps.toList) : Txt.split (Txt.join ("\n" : Str) ws) ("\n" : Str) = ws :=
  TL.split_join (s := 10) (S := []) (by decide) (by decide +kernel) ne h
theorem codes_join {sep : Str} : ∀ {zs : List Str} {c : Nat}, c ∈ (Str.join sep zs).cps.toList → c ∈ sep.cps.toList ∨ ∃ z ∈ zs, c ∈ z.cps.toList
  | [], c, h => by simp [Str.join, Str.empty] at h
  | [x], c, h => .inr ⟨x, List.mem_cons_self, h⟩
  | x :: y :: r, c, h => by
    have h : c ∈ (x ++ sep ++ Str.join sep (y :: r)).cps.toList := h
    rw [PyProof.Rows.cps_toList_append, PyProof.Rows.cps_toList_append] at h
    rcases List.mem_append.mp h with h | h
    · rcases List.mem_append.mp h with h | h
      · exact .inr ⟨x, List.mem_cons_self, h⟩
      · exact .inl h
    · rcases codes_join h with h | ⟨z, h1, h2⟩
      · exact .inl h
      · exact .inr ⟨z, List.mem_cons_of_mem _ h1, h2⟩
theorem page_codes {sep : Str} {zs : List Str} {c : Nat} (h : c ∈ (Txt.join sep zs).cps.toList) : c ∈ sep.cps.toList ∨ ∃ z ∈ zs, c ∈ z.cps.toList := by
  rw [TL.join_eq] at h
  exact codes_join h

/-! ### what evaluates to what -/
section
variable {K : PySem.W.Frag} {σ : L2.St} {H H' : Hp} {ta tb tc te : TE} {x y z v : V} {a : Addr} {D : Ends} {tu tw tz : TS}
def rJoin (K : PySem.W.Frag) : V → List V → Hp → VK → Prop := fun x xs H Q => ∃ a p, ∃ ys : List Str, x = V.str a ∧ xs = [.ref p] ∧ (SqL K H p (ys.map V.str) ∨ SqT K H p (ys.map V.str)) ∧ (ys.map (·.length)).sum + ys.length * a.length ≤ 16777216 ∧ Q (.str (Txt.join a ys)) H
theorem ev_joinV {sep : Str} {zs : List Str} (hs : sep.length = 1) (h : Ev te σ H (.str sep)) (h2 : Ev ta σ H (.ref a)) (ha : H a = some (.lst (zs.map V.str))) (hz : WOk zs) :
    Ev (tM1 (rJoin K) te ta) σ H (.str (Txt.join sep zs)) := fun H1 e Q q =>
  h H1 e _ fun H2 e2 => ⟨⟨_, rfl⟩, h2 H2 (e.trans e2) _ fun H3 e3 => ⟨sep, a, zs, rfl, rfl, .inl (sq_of (((e.trans e2).trans e3) _ _ ha)), by have := hz.sum; have := hz.few; rw [hs]; omega, q H3 (e2.trans e3)⟩⟩
theorem ev_joinL {sep : Str} {zs : List Str} (hs : sep.length = 1) (h : Ev te σ H (.str sep)) (h2 : EvL ta σ H (zs.map V.str)) (hz : WOk zs) :
    Ev (tM1 (rJoin K) te ta) σ H (.str (Txt.join sep zs)) := fun H1 e Q q =>
  h H1 e _ fun H2 e2 => ⟨⟨_, rfl⟩, h2 H2 (e.trans e2) _ fun p H3 _ e3 hp => ⟨sep, p, zs, rfl, rfl, .inl (sq_of hp), by have := hz.sum; have := hz.few; rw [hs]; omega, q H3 (e2.trans e3)⟩⟩
def rSplit : V → List V → Hp → VK → Prop := fun x xs H Q => ∃ a b, x = .str a ∧ xs = [.str b] ∧ (b.length == 0) = false ∧ a.length + 2 ≤ sizeLine ∧ rNewStrs (Txt.split a b) H Q
theorem el_split {p sep : Str} {ws : List Str} (h : Ev te σ H (.str p)) (h2 : Ev ta σ H (.str sep)) (hs : sep.length = 1) (hl : p.length ≤ 90000) (e : Txt.split p sep = ws) : EvL (tM1 rSplit te ta) σ H (ws.map V.str) := fun H1 e1 Q q =>
  h H1 e1 _ fun H2 e2 => ⟨⟨_, rfl⟩, h2 H2 (e1.trans e2) _ fun H3 e3 => ⟨p, sep, rfl, rfl, by rw [hs]; rfl, sz_of (by omega), fun r hr => by
    rw [e]
    exact q r _ (fresh_back (e2.trans e3) hr) ((e2.trans e3).trans (Ex.new hr)) upd_same⟩⟩
theorem rv_addS' {H : Hp} {i j : Str} (h : i.length + j.length ≤ 100000) : RV (fun x y H Q => ∃ i j, x = .str i ∧ y = .str j ∧ i.length + j.length ≤ sizeLine ∧ Q (.str (i ++ j)) H) (.str i) (.str j) H (.str (i ++ j)) :=
  fun H1 _ _ q => ⟨i, j, rfl, rfl, sz_of h, q H1 (Ex.refl H1)⟩
theorem rv_isN' {H : Hp} {x : V} : RV (fun x y H Q => y = V.non ∧ Q (.bl (decide (x = .non))) H) x .non H (.bl (decide (x = .non))) := fun H1 _ _ q => ⟨rfl, q H1 (Ex.refl H1)⟩
/-- a call by keywords alone of a def that makes nothing but a value -/
theorem ev_spK {sp : Sp} {gV : List V → List V → List V} {vs zs : List V} {E : XK} {tk : TA} (h : EvA tk σ H zs) (e : gV [] zs = vs) (hs : ∀ H1, Ex H H1 → ∀ Q : VK, (∀ H2, Ex H1 H2 → Q z H2) → sp vs H1 Q E) : Ev (tCallK sp gV E tNil tk) σ H z := fun H1 e1 Q q =>
  h H1 e1 _ fun H2 e2 => by
    rw [e]
    exact hs H2 (e1.trans e2) Q fun H3 e3 => q H3 (e2.trans e3)
/-- a call that gives a new list -/
theorem el_sp {sp : Sp} {dvs vs xs : List V} {E : XK} {ta : TA} (h : EvA ta σ H vs) (hs : ∀ H1, Ex H H1 → ∀ Q : VK, (∀ p H2, H1 p = none → Ex H1 H2 → H2 p = some (.lst xs) → Q (.ref p) H2) → sp (vs ++ dvs) H1 Q E) : EvL (tCall sp dvs E ta) σ H xs := fun H1 e Q q =>
  h H1 e _ fun H2 e2 => hs H2 (e.trans e2) Q fun p H3 hp e3 h3 => q p H3 (fresh_back e2 hp) (e2.trans e3) h3
/-- a call whose argument is a new list -/
theorem ev_spL {sp : Sp} {xs : List V} {E : XK} (h : EvL te σ H xs) (hs : ∀ p H1, H1 p = some (.lst xs) → Ex H H1 → ∀ Q : VK, (∀ H2, Ex H1 H2 → Q z H2) → sp [.ref p] H1 Q E) : Ev (tCall sp [] E (tCons te tNil)) σ H z := fun H1 e Q q =>
  h H1 e _ fun p H2 _ e2 hp => hs p H2 hp (e.trans e2) Q fun H3 e3 => q H3 (e2.trans e3)
theorem el_spK {sp : Sp} {gV : List V → List V → List V} {vs zs xs : List V} {E : XK} {tk : TA} (h : EvA tk σ H zs) (e : gV [] zs = vs) (hs : ∀ H1, Ex H H1 → ∀ Q : VK, (∀ p H2, H1 p = none → Ex H1 H2 → H2 p = some (.lst xs) → Q (.ref p) H2) → sp vs H1 Q E) : EvL (tCallK sp gV E tNil tk) σ H xs := fun H1 e1 Q q =>
  h H1 e1 _ fun H2 e2 => by
    rw [e]
    exact hs H2 (e1.trans e2) Q fun p H3 hp e3 h3 => q p H3 (fresh_back e2 hp) (e2.trans e3) h3
/-- equal data -/
theorem rv_eqD {d : PyData} {n : Nat} (hx : Dt H x d) (hy : Dt H y d) (sh : Sh n d) (le : n ≤ 64) : RV (rEqD K) x y H (.bl true) := fun H1 e Q q =>
  ⟨d, d, (hx.same (same_ex e)).dp, (hy.same (same_ex e)).dp, sh.shaped le, sh.shaped le, by
    rw [sh.refl]
    exact q H1 (Ex.refl H1)⟩
theorem ev_eqD {d : PyData} {n : Nat} (ha : Ev ta σ H x) (hb : Ev tb σ H y) (hx : Dt H x d) (hy : Dt H y d) (sh : Sh n d) (le : n ≤ 64) : Ev (tOp (rEqD K) ta tb) σ H (.bl true) := ev_op ha hb (rv_eqD hx hy sh le)
theorem ev_eqD1 {xs : List V} {ds : List PyData} {n : Nat} (ha : EvL ta σ H xs) (hb : ∀ H1, Ex H H1 → Ev tb σ H1 y) (hx : Dts H xs ds) (hy : Dt H y (.list ds)) (sh : Sh n (.list ds)) (le : n ≤ 64) : Ev (tOp (rEqD K) ta tb) σ H (.bl true) :=
  ev_opL1 ha hb fun p H1 hp e => rv_eqD (.lst hp (hx.same (same_ex e))) (hy.same (same_ex e)) sh le
theorem q_clear {l : Addr} {xs : List V} (hl : H l = some (.lst xs)) (ha : Ev ta σ H (.ref l)) (k : ∀ H1, Ex H H1 → tz D σ (upd H1 l (.lst []))) : tSeq (tDrop (tBM0 K "list" rClear ta)) tz D σ H :=
  ha H (Ex.refl H) _ fun H1 e1 => ⟨Or.inl ⟨rfl, xs, sq_of (e1 l _ hl)⟩, l, xs, rfl, rfl, e1 l _ hl, k H1 e1⟩
theorem q_reverse {l : Addr} {xs : List V} (hl : H l = some (.lst xs)) (ha : Ev ta σ H (.ref l)) (k : ∀ H1, Ex H H1 → tz D σ (upd H1 l (.lst xs.reverse))) : tSeq (tDrop (tBM0 K "list" rReverse ta)) tz D σ H :=
  ha H (Ex.refl H) _ fun H1 e1 => ⟨Or.inl ⟨rfl, xs, sq_of (e1 l _ hl)⟩, l, xs, rfl, rfl, e1 l _ hl, k H1 e1⟩
/-- a for over enumerate of a new list -/
theorem s_forE {xs : List V} {tl : TE} {i j : Nat} (h : EvL tl σ H xs) (Pv : Addr → Nat → L2.St → Hp → Prop) (h0 : ∀ p H1, H p = none → Ex H H1 → H1 p = some (.lst xs) → Pv p 0 σ H1) (hl : ∀ p n σ' H', Pv p n σ' H' → SqL K H' p xs)
    (hs : ∀ p n x σ' H' H2, xs[n]? = some x → Pv p n σ' H' → Ex H' H2 → tu { D with nx := Pv p (n + 1), ct := Pv p (n + 1), bk := D.nx } ((σ'.set i (some (.int (n : Int)))).set j (some x)) H2)
    (hd : ∀ p σ' H', Pv p xs.length σ' H' → D.nx σ' H') : tFor (iEnum K (tCons tl tNil)) (gTup K 2 (gCons (gName i) (gCons (gName j) gNil))) tu D σ H :=
  h H (Ex.refl H) _ fun p H1 hp e h1 => ⟨p, xs, rfl, sq_of h1, for_it walk_enum (Pv p) (h0 p H1 hp e h1) (fun n σ H _ q => hl p n σ H q) (fun n v σ' H' H2 hn q y => by
    obtain ⟨T, x, z, rfl, nT, rfl, hx, hz⟩ := y
    cases hx
    exact ⟨T, [.int (n : Int), z], rfl, st_of upd_same, rfl, .int (n : Int), [z], rfl, z, [], rfl, rfl, hs p n z σ' H' _ hz q (Ex.new nT)⟩) (hd p)⟩
theorem q_forE {xs : List V} {tl : TE} {i j : Nat} (h : EvL tl σ H xs) (Pv : Addr → Nat → L2.St → Hp → Prop) (h0 : ∀ p H1, H p = none → Ex H H1 → H1 p = some (.lst xs) → Pv p 0 σ H1) (hl : ∀ p n σ' H', Pv p n σ' H' → SqL K H' p xs)
    (hs : ∀ p n x σ' H' H2, xs[n]? = some x → Pv p n σ' H' → Ex H' H2 → tu { D with nx := Pv p (n + 1), ct := Pv p (n + 1), bk := tz D } ((σ'.set i (some (.int (n : Int)))).set j (some x)) H2)
    (hd : ∀ p σ' H', Pv p xs.length σ' H' → tz D σ' H') : tSeq (tFor (iEnum K (tCons tl tNil)) (gTup K 2 (gCons (gName i) (gCons (gName j) gNil))) tu) tz D σ H := s_forE (D := { D with nx := tz D }) h Pv h0 hl hs hd
end
/-- lists of texts and None -/
theorem lay_o : ∀ os : List (Option Str), (∀ z, some z ∈ os → PyData.strOk z = true) → ∀ d ∈ os.map oD, Sh 0 d := fun os h d hd => by
  obtain ⟨o, ho, rfl⟩ := List.mem_map.mp hd
  cases o with
  | none => exact ⟨rfl, Nat.zero_le _⟩
  | some z => exact .str 0 (h z ho)
theorem sh_o {os : List (Option Str)} (h : ∀ z, some z ∈ os → PyData.strOk z = true) : Sh 1 (.list (os.map oD)) := .lst (lay_o os h)
end Os
namespace Os
open PySem PySem.Spec PyProof.Rows L2 Evl
/-! ### more comprehensions, truth of lists -/
section
variable {K : PySem.W.Frag} {σ : L2.St} {H H' : Hp} {ta tb tc te tl : TE} {x y z v : V} {a : Addr} {D : Ends} {tu tw tz : TS}
def tTru (K : PySem.W.Frag) (ta : TE) : TT := fun σ H Q => ta σ H fun x H' => ∃ k, TruV K x H' k ∧ Q k H'
theorem et_tru {xs : List V} (h : Ev ta σ H (.ref a)) (hx : SqL K H a xs) : EvT (tTru K ta) σ H (!xs.isEmpty) := fun H1 e Q q =>
  h H1 e _ fun H2 e2 => ⟨!xs.isEmpty, .inl ⟨xs, ex_l (e.trans e2) hx, rfl⟩, q H2 e2⟩
theorem getD_map' {α : Type} [Inhabited α] {xs : List α} {i : Nat} {x : α} (h : xs[i]? = some x) : xs.getD i default = x := by
  rw [List.getD_eq_getElem?_getD, h]
  rfl
/-- over a list of things told by xs -/
theorem el_lcMapL {α : Type} [Inhabited α] {xs : List α} {fV : α → V} {j : Nat} {vs : List Nat} (v : α → V) (h : Ev tl σ H (.ref a)) (hx : SqL K H a (xs.map fV)) (hz : xs.length ≤ 40000) (hw : ∀ x, wipe ((wipe σ vs).set j (some x)) vs = wipe σ vs)
    (he : ∀ x H1, Ex H H1 → x ∈ xs → Ev te ((wipe σ vs).set j (some (fV x))) H1 (v x)) : EvL (tLc (iList K tl) (gName j) tYes te vs) σ H (xs.map v) := by
  rw [← given_map xs v (fun i => v (xs.getD i default)) (fun i x e => by rw [getD_map' e]), ← List.length_map (f := fV) (as := xs)]
  refine el_lcL (fun _ => true) _ h hx (by rw [List.length_map]; exact hz) hw (fun i x H2 _ _ => fun H3 e3 Q q => q H3 (Ex.refl H3)) (fun i x H2 e2 hx' _ => ?_)
  rw [List.getElem?_map] at hx'
  obtain ⟨y, hy, rfl⟩ := Option.map_eq_some_iff.mp hx'
  rw [getD_map' hy]
  exact he y H2 e2 (List.mem_of_getElem? hy)
theorem el_lcMapN {α : Type} [Inhabited α] {xs : List α} {fV : α → V} {j : Nat} {vs : List Nat} (v : α → V) (h : EvL tl σ H (xs.map fV)) (hz : xs.length ≤ 40000) (hw : ∀ x, wipe ((wipe σ vs).set j (some x)) vs = wipe σ vs)
    (he : ∀ x H1, Ex H H1 → x ∈ xs → Ev te ((wipe σ vs).set j (some (fV x))) H1 (v x)) : EvL (tLc (iList K tl) (gName j) tYes te vs) σ H (xs.map v) := by
  rw [← given_map xs v (fun i => v (xs.getD i default)) (fun i x e => by rw [getD_map' e]), ← List.length_map (f := fV) (as := xs)]
  refine el_lcNL (fun _ => true) _ h (by rw [List.length_map]; exact hz) hw (fun i x H2 _ _ => fun H3 e3 Q q => q H3 (Ex.refl H3)) (fun i x H2 e2 hx' _ => ?_)
  rw [List.getElem?_map] at hx'
  obtain ⟨y, hy, rfl⟩ := Option.map_eq_some_iff.mp hx'
  rw [getD_map' hy]
  exact he y H2 e2 (List.mem_of_getElem? hy)
/-- over a list of pairs, the pair's parts in two names -/
theorem el_lcPr {xs : List V} {es : List Pr} {i j n : Nat} {vs : List Nat} (v : Pr → V) (hn : n = 2) (h : Ev tl σ H (.ref a)) (hx : H a = some (.lst xs)) (hp : PrsV H xs es) (hz : es.length ≤ 40000) (hw : ∀ x y, wipe (((wipe σ vs).set i (some x)).set j (some y)) vs = wipe σ vs)
    (he : ∀ e H1, Ex H H1 → e ∈ es → Ev te (((wipe σ vs).set i (some (.int (e.1 : Int)))).set j (some (.int (e.2 : Int)))) H1 (v e)) : EvL (tLc (iList K tl) (gTup K n (gCons (gName i) (gCons (gName j) gNil))) tYes te vs) σ H (es.map v) := fun H0 e0 Q q => h H0 e0 _ fun H1 e1 => ⟨a, rfl, ⟨xs, sq_of ((e0.trans e1) _ _ hx)⟩, fun Dl hD => by
  have hx1 := (e0.trans e1) _ _ hx
  have hlen := hp.length
  have eg : given xs.length (fun _ => true) (fun i => v (es.getD i (0, 0))) = es.map v := by
    rw [hlen]
    exact given_map es v _ fun i x e => by rw [List.getD_eq_getElem?_getD, e]; rfl
  refine lc_list (xs := xs) (Cw H1 (fun _ => true) (fun i => v (es.getD i (0, 0))) Dl) ⟨hD, Ex.new hD, upd_same⟩ (fun k H' _ p => sq_of (p.2.1 _ _ hx1)) (fun k x H' hk p => ?_) (fun H' p => q Dl H' (fresh_back e1 p.1) (e1.trans p.2.1) (by rw [← eg]; exact p.2.2))
  obtain ⟨e, hek, t, rfl, ht⟩ := hp.get hk
  have ht1 := p.2.1 _ _ ((e0.trans e1) _ _ ht)
  refine ⟨t, [.int (e.1 : Int), .int (e.2 : Int)], rfl, st_of ht1, hn.symm, .int (e.1 : Int), [.int (e.2 : Int)], rfl, .int (e.2 : Int), [], rfl, rfl, hw _ _, ?_⟩
  refine cw_turn p (by have := (List.getElem?_eq_some_iff.mp hk).1; omega) (fun H3 e3 Q q => q H3 (Ex.refl H3)) (fun _ => ?_)
  show Ev te _ H1 (v (es.getD k (0, 0)))
  rw [List.getD_eq_getElem?_getD, hek]
  exact he e H1 (e0.trans e1) (List.mem_of_getElem? hek)⟩
/-- a for over enumerate of a list that stands -/
theorem s_forEV {xs : List V} {i j : Nat} (h : Ev tl σ H (.ref a)) (hx : SqL K H a xs) (Pv : Nat → L2.St → Hp → Prop) (h0 : ∀ H1, Ex H H1 → Pv 0 σ H1) (hl : ∀ n σ' H', Pv n σ' H' → SqL K H' a xs)
    (hs : ∀ n x σ' H' H2, xs[n]? = some x → Pv n σ' H' → Ex H' H2 → tu { D with nx := Pv (n + 1), ct := Pv (n + 1), bk := D.nx } ((σ'.set i (some (.int (n : Int)))).set j (some x)) H2)
    (hd : ∀ σ' H', Pv xs.length σ' H' → D.nx σ' H') : tFor (iEnum K (tCons tl tNil)) (gTup K 2 (gCons (gName i) (gCons (gName j) gNil))) tu D σ H :=
  h H (Ex.refl H) _ fun H1 e => ⟨a, xs, rfl, ex_l e hx, for_it walk_enum Pv (h0 H1 e) (fun n σ H _ q => hl n σ H q) (fun n v σ' H' H2 hn q y => by
    obtain ⟨T, x, z, rfl, nT, rfl, hx, hz⟩ := y
    cases hx
    exact ⟨T, [.int (n : Int), z], rfl, st_of upd_same, rfl, .int (n : Int), [z], rfl, z, [], rfl, rfl, hs n z σ' H' _ hz q (Ex.new nT)⟩) hd⟩
theorem q_forEV {xs : List V} {i j : Nat} (h : Ev tl σ H (.ref a)) (hx : SqL K H a xs) (Pv : Nat → L2.St → Hp → Prop) (h0 : ∀ H1, Ex H H1 → Pv 0 σ H1) (hl : ∀ n σ' H', Pv n σ' H' → SqL K H' a xs)
    (hs : ∀ n x σ' H' H2, xs[n]? = some x → Pv n σ' H' → Ex H' H2 → tu { D with nx := Pv (n + 1), ct := Pv (n + 1), bk := tz D } ((σ'.set i (some (.int (n : Int)))).set j (some x)) H2)
    (hd : ∀ σ' H', Pv xs.length σ' H' → tz D σ' H') : tSeq (tFor (iEnum K (tCons tl tNil)) (gTup K 2 (gCons (gName i) (gCons (gName j) gNil))) tu) tz D σ H := s_forEV (D := { D with nx := tz D }) h hx Pv h0 hl hs hd
def rStrI : List V → Hp → VK → Prop := fun xs H Q => ∃ i : Int, xs = [.int i] ∧ i.natAbs.log2 < 1920 ∧ Q (.str (toString i)) H
theorem ev_strI {n : Nat} (h : Ev ta σ H (.int (n : Int))) (hn : n < 1000) : Ev (tCB rStrI (tCons ta tNil)) σ H (.str (toString ((n : Nat) : Int))) := fun H1 e Q q =>
  h H1 e _ fun H2 e2 => ⟨_, rfl, by rw [Int.natAbs_natCast]; exact Nat.lt_of_le_of_lt (Nat.log2_le_self n) (by omega), q H2 e2⟩
def rIntS : List V → Hp → VK → Prop := fun xs H Q => ∃ (a : Str) (n : Int), xs = [.str a] ∧ PySem.intText? a = some n ∧ a.length ≤ 640 ∧ Q (.int n) H
theorem ev_intS {z : Str} {n : Int} (h : Ev ta σ H (.str z)) (hz : z.length ≤ 640) (hn : PySem.intText? z = some n) : Ev (tCB rIntS (tCons ta tNil)) σ H (.int n) := fun H1 e Q q =>
  h H1 e _ fun H2 e2 => ⟨z, n, rfl, hn, hz, q H2 e2⟩
end
end Os
namespace Os
open PySem PySem.Spec PyProof.Rows L2 Evl
theorem sh_prs' (es : List Pr) : Sh 2 (.list (es.map prD)) := .lst fun d hd => by
  obtain ⟨e, _, rfl⟩ := List.mem_map.mp hd
  refine .tup fun x hx => ?_
  rcases List.mem_cons.mp hx with rfl | hx
  · exact .int 0 _
  · rw [List.mem_singleton.mp hx]
    exact .int 0 _
theorem prs_snoc {G : Hp} {v : V} {e : Pr} : ∀ {xs : List V} {es : List Pr}, PrsV G xs es → PrV G v e → PrsV G (xs ++ [v]) (es ++ [e])
  | _, _, .nil, h => .cons h .nil
  | _, _, .cons p r, h => .cons p (prs_snoc r h)
theorem prs_map {G G' : Hp} (k : ∀ v e, PrV G v e → PrV G' v e) : ∀ {xs : List V} {es : List Pr}, PrsV G xs es → PrsV G' xs es
  | _, _, .nil => .nil
  | _, _, .cons p r => .cons (k _ _ p) (prs_map k r)
end Os
namespace Os
open PySem PySem.Spec PyProof.Rows L2 Evl
theorem room65 {k : Nat} {A : Around} (r : Room k A) : A.units + 65 < cLine := by have := r.un; omega
end Os
namespace Os
open PySem PySem.Spec PyProof.Rows L2 Evl
theorem el_rg {σ : L2.St} {H : Hp} {ta : TE} {n : Nat} (h : Ev ta σ H (.int (n : Int))) (hn : n ≤ 100000) : EvL (tLstRg (tRg1 ta)) σ H ((List.range n).map fun x : Nat => V.int (x : Int)) := fun H1 e Q q =>
  h H1 e _ fun H2 e2 => ⟨(n : Int), rfl, RgOk.of_le (by omega) (by omega) (by omega) (by omega), fun L hL => q L _ (fresh_back e2 hL) (e2.trans (Ex.new hL)) (by
    rw [upd_same]
    have : rgV 0 (n : Int) = (List.range n).map fun x : Nat => V.int (x : Int) := by
      unfold rgV
      rw [show ((n : Int) - 0).toNat = n by omega]
      exact List.map_congr_left fun i _ => congrArg V.int (by omega)
    rw [this])⟩
theorem PrsV.put0 {p : Addr} {G : Hp} {xs' zs vs : List V} {es : List Pr} (h : PrsV G vs es) (hp : G p = some (.lst xs')) : PrsV (upd G p (.lst zs)) vs es := by
  induction h with
  | nil => exact .nil
  | cons x _ ih =>
    obtain ⟨t, rfl, ht⟩ := x
    refine .cons ⟨t, rfl, ?_⟩ ih
    rw [upd_ne fun e => by
      rw [e, hp] at ht
      cases ht]
    exact ht
theorem PrsV.putH {s p : Addr} {G : Hp} {xs' zs vs : List V} {es : List Pr} (h : PrsV (hide s G) vs es) (np : p ≠ s) (hp : G p = some (.lst xs')) : PrsV (hide s (upd G p (.lst zs))) vs es := by
  induction h with
  | nil => exact .nil
  | cons x _ ih =>
    obtain ⟨t, rfl, ht⟩ := x
    obtain ⟨n1, h1⟩ := hide_of ht
    refine .cons ⟨t, rfl, ?_⟩ ih
    rw [hide_ne n1, upd_ne fun e => by
      rw [e, hp] at h1
      cases h1]
    exact h1
theorem PrsV.newH {s p : Addr} {G : Hp} {o : HO} {vs : List V} {es : List Pr} (h : PrsV (hide s G) vs es) (hs : ∃ u, G s = some u) (hp : G p = none) : PrsV (hide s (upd G p o)) vs es :=
  h.ex (hide_ex (Ex.new hp))
theorem perm_pop' {α : Type} {l : List α} {k : Nat} {y : α} (acc : List α) (h : l[k]? = some y) : ((acc ++ [y]) ++ l.eraseIdx k).Perm (acc ++ l) := by
  obtain ⟨lt, e⟩ := List.getElem?_eq_some_iff.mp h
  rw [List.append_assoc]
  refine List.Perm.append_left acc ?_
  have e2 := List.drop_eq_getElem_cons lt
  rw [e] at e2
  rw [List.eraseIdx_eq_take_drop_succ]
  refine List.Perm.trans (l₂ := l.take k ++ y :: l.drop (k + 1)) (show (y :: (l.take k ++ l.drop (k + 1))).Perm _ from List.perm_middle.symm) ?_
  rw [← e2, List.take_append_drop]
end Os
namespace Os
open PySem PySem.Spec PyProof.Rows L2 Evl
/-! ### what evaluates to data, wherever it stands -/
def EvD (te : TE) (σ : L2.St) (H : Hp) (d : PyData) : Prop := ∀ H1, Ex H H1 → ∀ Q : VK, (∀ v H2, Ex H1 H2 → Dt H2 v d → Q v H2) → te σ H1 Q
def EvDs (ta : TA) (σ : L2.St) (H : Hp) (ds : List PyData) : Prop := ∀ H1, Ex H H1 → ∀ Q : List V → Hp → Prop, (∀ vs H2, Ex H1 H2 → Dts H2 vs ds → Q vs H2) → ta σ H1 Q
section
variable {K : PySem.W.Frag} {σ : L2.St} {H H' : Hp} {ta tb te : TE} {tr : TA} {x y v : V} {d : PyData} {ds : List PyData}
theorem ed_of (h : Ev te σ H v) (hd : Dt H v d) : EvD te σ H d := fun H1 e Q q => h H1 e _ fun H2 e2 => q v H2 e2 (hd.same (same_ex (e.trans e2)))
theorem ed_l {xs : List V} (h : EvL te σ H xs) (hd : Dts H xs ds) : EvD te σ H (.list ds) := fun H1 e Q q => h H1 e _ fun p H2 _ e2 hp => q _ H2 e2 (.lst hp (hd.same (same_ex (e.trans e2))))
theorem eds_nil : EvDs tNil σ H [] := fun H1 _ Q q => q [] H1 (Ex.refl H1) .nil
theorem eds_cons (h : EvD te σ H d) (hr : EvDs tr σ H ds) : EvDs (tCons te tr) σ H (d :: ds) := fun H1 e Q q =>
  h H1 e _ fun v H2 e2 hv => hr H2 (e.trans e2) _ fun vs H3 e3 hvs => q _ H3 (e2.trans e3) (.cons (hv.same (same_ex e3)) hvs)
theorem ed_lst (h : EvDs tr σ H ds) (hl : ds.length ≤ 100000) : EvD (tLst tr) σ H (.list ds) := fun H1 e Q q =>
  h H1 e _ fun vs H2 e2 hvs => ⟨sz_of (by rw [hvs.length]; exact hl), fun p hp => q (.ref p) _ (e2.trans (Ex.new hp)) (.lst upd_same (hvs.same (same_ex (Ex.new hp))))⟩
theorem ed_tup (h : EvDs tr σ H ds) (hl : ds.length ≤ 100000) : EvD (tTup tr) σ H (.tuple ds) := fun H1 e Q q =>
  h H1 e _ fun vs H2 e2 hvs => ⟨sz_of (by rw [hvs.length]; exact hl), fun p hp => q (.ref p) _ (e2.trans (Ex.new hp)) (.tup upd_same (hvs.same (same_ex (Ex.new hp))))⟩
/-- a call that gives data -/
theorem ed_sp {sp : Sp} {dvs vs : List V} {E : XK} (h : EvA tr σ H vs) (hs : ∀ H1, Ex H H1 → ∀ Q : VK, (∀ v H2, Ex H1 H2 → Dt H2 v d → Q v H2) → sp (vs ++ dvs) H1 Q E) : EvD (tCall sp dvs E tr) σ H d := fun H1 e Q q =>
  h H1 e _ fun H2 e2 => hs H2 (e.trans e2) Q fun v H3 e3 => q v H3 (e2.trans e3)
theorem ed_spK {sp : Sp} {gV : List V → List V → List V} {vs zs : List V} {E : XK} {tk : TA} (h : EvA tk σ H zs) (e : gV [] zs = vs) (hs : ∀ H1, Ex H H1 → ∀ Q : VK, (∀ v H2, Ex H1 H2 → Dt H2 v d → Q v H2) → sp vs H1 Q E) : EvD (tCallK sp gV E tNil tk) σ H d := fun H1 e1 Q q =>
  h H1 e1 _ fun H2 e2 => by
    rw [e]
    exact hs H2 (e1.trans e2) Q fun v H3 e3 => q v H3 (e2.trans e3)
theorem ev_eqDD {n : Nat} (ha : EvD ta σ H d) (hb : EvD tb σ H d) (sh : Sh n d) (le : n ≤ 64) : Ev (tOp (rEqD K) ta tb) σ H (.bl true) := fun H1 e Q q =>
  ha H1 e _ fun v H2 e2 hv => hb H2 (e.trans e2) _ fun u H3 e3 hu => ⟨d, d, (hv.same (same_ex e3)).dp, hu.dp, sh.shaped le, sh.shaped le, by
    rw [sh.refl]
    exact q H3 (e2.trans e3)⟩
theorem ev_neDD {n : Nat} (ha : EvD ta σ H d) (hb : EvD tb σ H d) (sh : Sh n d) (le : n ≤ 64) : Ev (tOp (rNeD K) ta tb) σ H (.bl false) := fun H1 e Q q =>
  ha H1 e _ fun v H2 e2 hv => hb H2 (e.trans e2) _ fun u H3 e3 hu => ⟨d, d, (hv.same (same_ex e3)).dp, hu.dp, sh.shaped le, sh.shaped le, by
    rw [sh.refl]
    exact q H3 (e2.trans e3)⟩
end
end Os
namespace Os
open PySem PySem.Spec PyProof.Rows L2 Evl
theorem last_of (xs : List V) (y : V) : atI (xs ++ [y]) (-1) = some y := by
  unfold atI
  have : ixN (xs ++ [y]).length (-1) = some xs.length := by
    unfold ixN
    rw [if_neg (by decide), List.length_append]
    show (if _ then _ else _) = _
    rw [if_pos (by simp; omega)]
    simp
    omega
  rw [this]
  show (xs ++ [y])[xs.length]? = some y
  rw [List.getElem?_append_right (Nat.le_refl _), Nat.sub_self]
  rfl
end Os
namespace Os
theorem nodup_at {α : Type} {l : List α} (h : l.Nodup) {i j : Nat} {x : α} (hi : l[i]? = some x) (hj : l[j]? = some x) : i = j := by
  obtain ⟨li, ei⟩ := List.getElem?_eq_some_iff.mp hi
  obtain ⟨lj, ej⟩ := List.getElem?_eq_some_iff.mp hj
  rcases Nat.lt_trichotomy i j with lt | e | lt
  · exact absurd (ei.trans ej.symm) (List.pairwise_iff_getElem.mp h i j li lj lt)
  · exact e
  · exact absurd (ej.trans ei.symm) (List.pairwise_iff_getElem.mp h j i lj li lt)
end Os
/-! the cycles of a permutation -/
namespace Os
open PySem PySem.Spec PyProof.Rows L2 Evl
theorem few_below : ∀ (n : Nat) {l : List Nat}, l.Nodup → (∀ x ∈ l, x < n) → l.length ≤ n
  | 0, l, _, h => by
    cases l with
    | nil => exact Nat.le_refl _
    | cons x r => exact absurd (h x List.mem_cons_self) (Nat.not_lt_zero x)
  | n + 1, l, nd, h => by
    have h1 : ∀ x ∈ l.erase n, x < n := fun x hx => by
      have m := List.mem_of_mem_erase hx
      have := h x m
      have ne : x ≠ n := fun e => by
        rw [e] at hx
        exact List.Nodup.not_mem_erase nd hx
      omega
    have ih := few_below n (nd.erase n) h1
    rw [List.length_erase] at ih
    split at ih <;> omega
def itr (f : List Nat) : Nat → Nat → Nat
  | 0, x => x
  | k + 1, x => f.getD (itr f k x) 0
/-- f is a permutation of the places below n -/
structure IsPerm (f : List Nat) (n : Nat) : Prop where
  len : f.length = n
  lt : ∀ i, i < n → f.getD i 0 < n
  inj : ∀ i j, i < n → j < n → f.getD i 0 = f.getD j 0 → i = j
section
variable {f : List Nat} {n : Nat}
theorem itr_lt (p : IsPerm f n) : ∀ (k : Nat) {x : Nat}, x < n → itr f k x < n
  | 0, _, h => h
  | k + 1, _, h => p.lt _ (itr_lt p k h)
theorem itr_back (p : IsPerm f n) {x : Nat} (hx : x < n) : ∀ (i j : Nat), itr f i x = itr f (i + j) x → x = itr f j x
  | 0, j, e => by rw [Nat.zero_add] at e; exact e
  | i + 1, j, e => by
    rw [show i + 1 + j = (i + j) + 1 by omega] at e
    exact itr_back p hx i j (p.inj _ _ (itr_lt p i hx) (itr_lt p (i + j) hx) e)
theorem itr_returns (p : IsPerm f n) {x : Nat} (hx : x < n) : ∃ j, j < n ∧ itr f (j + 1) x = x := Decidable.byContradiction fun no => by
  have nd : ((List.range (n + 1)).map fun i => itr f i x).Nodup := by
    unfold List.Nodup
    rw [List.pairwise_map]
    refine List.Pairwise.imp_of_mem (fun {i j} hi hj lt e => ?_) List.pairwise_lt_range
    have hj' := List.mem_range.mp hj
    have b := itr_back p hx i (j - i) (by rw [show i + (j - i) = j by omega]; exact e)
    exact no ⟨j - i - 1, by omega, by rw [show j - i - 1 + 1 = j - i by omega]; exact b.symm⟩
  have := few_below n nd fun y hy => by
    obtain ⟨i, _, rfl⟩ := List.mem_map.mp hy
    exact itr_lt p i hx
  rw [List.length_map, List.length_range] at this
  omega
def per (f : List Nat) (n x : Nat) : Nat := ((List.range n).find? fun j => itr f (j + 1) x == x).getD 0 + 1
theorem per_ok (p : IsPerm f n) {x : Nat} (hx : x < n) : 1 ≤ per f n x ∧ per f n x ≤ n ∧ itr f (per f n x) x = x ∧ ∀ j, 1 ≤ j → j < per f n x → itr f j x ≠ x := by
  obtain ⟨j, hj, e⟩ := itr_returns p hx
  unfold per
  cases hf : (List.range n).find? fun j => itr f (j + 1) x == x with
  | none => exact absurd (List.find?_eq_none.mp hf j (List.mem_range.mpr hj)) (by rw [e]; simp)
  | some m =>
    obtain ⟨h1, h2, h3⟩ := List.find?_range_eq_some.mp hf
    have hm := List.mem_range.mp h2
    show 1 ≤ m + 1 ∧ m + 1 ≤ n ∧ itr f (m + 1) x = x ∧ _
    refine ⟨by omega, by omega, by simpa using h1, fun j j1 jm z => ?_⟩
    have jm' : j < m + 1 := jm
    have := h3 (j - 1) (by omega)
    rw [show j - 1 + 1 = j by omega, z] at this
    simp at this
/-- the first k places on x's way -/
def way (f : List Nat) (k x : Nat) : List Nat := (List.range k).map fun i => itr f i x
theorem way_succ (f : List Nat) (k x : Nat) : way f (k + 1) x = way f k x ++ [itr f k x] := by
  unfold way
  rw [List.range_succ, List.map_append]
  rfl
theorem way_len (f : List Nat) (k x : Nat) : (way f k x).length = k := by
  unfold way
  rw [List.length_map, List.length_range]
def ringOf (f : List Nat) (n x : Nat) : List Nat := way f (per f n x) x
def lead (f : List Nat) (n x : Nat) : Bool := decide (∀ y ∈ ringOf f n x, x ≤ y)
def cycles (f : List Nat) (n : Nat) : List (List Nat) := ((List.range n).filter (lead f n)).map (ringOf f n)
theorem ring_head (p : IsPerm f n) {x : Nat} (hx : x < n) : (ringOf f n x)[0]? = some x ∧ x ∈ ringOf f n x := by
  have h := (per_ok p hx).1
  have e : (ringOf f n x)[0]? = some x := by
    unfold ringOf way
    rw [List.getElem?_map, List.getElem?_range (by omega)]
    rfl
  exact ⟨e, List.mem_of_getElem? e⟩
theorem lead_min (p : IsPerm f n) {x m : Nat} (hx : x < n) (hm : m ∈ ringOf f n x) (le : ∀ y ∈ ringOf f n x, m ≤ y) : decide (x = m) = lead f n x := by
  unfold lead
  refine decide_eq_decide.mpr ⟨fun e => e ▸ le, fun h => ?_⟩
  have := h m hm
  have := le x (ring_head p hx).2
  omega
theorem ring_lt (p : IsPerm f n) {x y : Nat} (hx : x < n) (hy : y ∈ ringOf f n x) : y < n := by
  obtain ⟨i, _, rfl⟩ := List.mem_map.mp hy
  exact itr_lt p i hx
theorem ring_len (p : IsPerm f n) {x : Nat} (hx : x < n) : (ringOf f n x).length ≤ n := by
  unfold ringOf
  rw [way_len]
  exact (per_ok p hx).2.1
/-- place 0 leads the first cycle -/
theorem lead_zero : lead f n 0 = true := decide_eq_true fun _ _ => Nat.zero_le _
end
/-! ### where the texts went -/
def went (zs us : List Str) : List Nat := zs.map fun z => us.idxOf z
theorem went_perm {zs us : List Str} {n : Nat} (p : us.Perm zs) (nd : zs.Nodup) (hl : zs.length = n) : IsPerm (went zs us) n := by
  have atW : ∀ {i : Nat} (h : i < zs.length), (went zs us).getD i 0 = us.idxOf zs[i] := fun {i} h => by
    unfold went
    rw [List.getD_eq_getElem?_getD, List.getElem?_map, List.getElem?_eq_getElem h]
    rfl
  have inU : ∀ {i : Nat} (h : i < zs.length), us.idxOf zs[i] < us.length := fun {i} h => List.idxOf_lt_length_iff.mpr (p.mem_iff.mpr (List.getElem_mem h))
  refine ⟨by unfold went; rw [List.length_map, hl], fun i hi => ?_, fun i j hi hj e => ?_⟩
  · rw [atW (by omega)]
    have := inU (i := i) (by omega)
    rw [p.length_eq] at this
    omega
  · rw [atW (by omega), atW (by omega)] at e
    have e1 := List.getElem_idxOf (inU (i := i) (by omega))
    have e2 := List.getElem_idxOf (inU (i := j) (by omega))
    have e3 : zs[i]'(by omega) = zs[j]'(by omega) := by
      rw [← e1, ← e2]
      simp only [e]
    refine Decidable.byContradiction fun ne => ?_
    rcases Nat.lt_or_gt_of_ne ne with h | h
    · exact List.pairwise_iff_getElem.mp nd i j _ _ h e3
    · exact List.pairwise_iff_getElem.mp nd j i _ _ h e3.symm
end Os
namespace K92
open PySem PySem.Spec PyProof.Rows L2 Os Evl
abbrev sSame : Stmt := topS 23
theorem scSame : FnScope ["found", "due", "one", "two"] ["found", "due"] (defScope sSame) := ⟨rfl, rfl, rfl, by decide +kernel, rfl, by decide +kernel, by decide +kernel⟩
theorem walk_zipT {K : PySem.W.Frag} {a b : Addr} {xs ys : List V} {n : Nat} (hn : n = min xs.length ys.length) : Walk (RZ.ItzT K a b) n (fun H => SqT K H a xs ∧ SqT K H b ys) (YPair (fun i => xs[i]?) (fun i => ys[i]?)) := by
  subst hn
  refine ⟨fun i _ hi q => ?_, fun _ q => ⟨xs, ys, q.1, q.2, by omega⟩, fun i H v H' _ q y => ?_⟩
  · have h1 : i < xs.length := by omega
    have h2 : i < ys.length := by omega
    exact ⟨xs, ys, xs[i], ys[i], q.1, q.2, by simp [h1], by simp [h2]⟩
  · obtain ⟨T, x, z, h1, h2, h3, h4, h5⟩ := y
    exact ⟨T, x, z, h1, h2, h3, h4 xs q.1, h5 ys q.2⟩
/-- None, numbers, texts, and lists and tuples of such -/
def Plain : Nat → PyData → Prop
  | 0, _ => False
  | j + 1, d => d = .none ∨ (∃ i, d = .int i) ∨ (∃ z, d = .str z) ∨ ∃ ds, (d = .list ds ∨ d = .tuple ds) ∧ ds.length ≤ 1000 ∧ ∀ x ∈ ds, Plain j x
section
variable {K : PySem.W.Frag} {σ : L2.St} {H : Hp} {ta : TE}
theorem ev_len' {p : Addr} {xs : List V} (ha : Ev ta σ H (.ref p)) (h : H p = some (.lst xs)) :
    Ev (tCB (fun xs H Q => ∃ p ys, xs = [V.ref p] ∧ (SqL K H p ys ∨ SqT K H p ys) ∧ Q (.int ys.length) H) (tCons ta tNil)) σ H (.int (xs.length : Int)) := ev_len ha (sq_of h)
theorem ev_lenTu {p : Addr} {xs : List V} (ha : Ev ta σ H (.ref p)) (h : H p = some (.tup xs)) :
    Ev (tCB (fun xs H Q => ∃ p ys, xs = [V.ref p] ∧ (SqL K H p ys ∨ SqT K H p ys) ∧ Q (.int ys.length) H) (tCons ta tNil)) σ H (.int (xs.length : Int)) := fun H1 e Q q =>
  ha H1 e _ fun H2 e2 => ⟨p, xs, rfl, Or.inr (st_of ((e.trans e2) _ _ h)), q H2 e2⟩
theorem isiT_of {H : Hp} {v : V} {d : PyData} {tp : Addr} {Q : VK} (hd : Dt H v d) (ht : H tp = some (.tup [.ty "list", .ty "tuple"])) (q : Q (.bl (isListD d || isTupD d)) H) : rIsiT K [v, .ref tp] H Q := by
  refine ⟨v, tp, _, _, _, _, rfl, ht, .cons (.ty "list") (.cons (.ty "tuple") .nil), .base hd.ty, ?_, q⟩
  exact kitAny_cons (kit_ty (kit_list d)) (fun h => kitAny_cons (kit_ty (kit_tup d)) (fun h2 => by rw [h, h2]; rfl) (fun h2 => by rw [h2, Bool.or_true])) (fun h => by rw [h, Bool.true_or])
theorem ev_isiT {v : V} {d : PyData} (h : Ev ta σ H v) (hd : Dt H v d) :
    Ev (tCB (rIsiT K) (tCons ta (tCons (tTup (tCons (tC (.ty "list")) (tCons (tC (.ty "tuple")) tNil))) tNil))) σ H (.bl (isListD d || isTupD d)) := fun H1 e1 Q q =>
  h H1 e1 _ fun H2 e2 => ⟨show 2 ≤ sizeLine by decide, fun tp htp => isiT_of (hd.same (same_ex ((e1.trans e2).trans (Ex.new htp)))) upd_same (q _ (e2.trans (Ex.new htp)))⟩
end
theorem Dts.at' {H : Hp} : ∀ {xs : List V} {ds : List PyData} {i : Nat} {x : V}, Dts H xs ds → xs[i]? = some x → ∃ d, ds[i]? = some d ∧ Dt H x d
  | _, _, _, _, .nil, h => by simp at h
  | _, _, 0, _, .cons h1 _, h => by
    simp at h
    subst h
    exact ⟨_, rfl, h1⟩
  | _, _, i + 1, _, .cons _ r, h => by
    have h' := Dts.at' (i := i) r (by simpa using h)
    simpa using h'
section
variable {P : Program} {w : World} {K : PySem.W.Frag} {mg : Str → Option Value} {base : Heap}
def spSame (j : Nat) : Sp := fun vs H Q _ => ∃ (v u : V) (d : PyData), vs = [v, u] ∧ Dt H v d ∧ Dt H u d ∧ Plain j d ∧ ∀ H', Ex H H' → Q (.bl true) H'
theorem ok_same {f : Addr} {fd : FuncData} (F : Fun K "_law_same" "_law_same" sSame f fd) (bS : Binds K fd ["found", "due"] []) (gS : mg "_law_same" = some (.ref f)) (mIsi : mg "isinstance" = none) (mList : mg "list" = none) (mTuple : mg "tuple" = none) (mBool : mg "bool" = none) (mStr : mg "str" = none)
    (mLen : mg "len" = none) (mAll : mg "all" = none) (mZip : mg "zip" = none) : ∀ j, FnOk P w K mg base CX0 j f fd ["found", "due"] (spSame j)
  | 0 => ⟨fun vs H Q E h => by
      obtain ⟨_, _, _, rfl, _⟩ := h
      rfl, fun B out st H ar us vs Q E hr e0 hb rel h => by
      obtain ⟨_, _, _, _, _, _, h, _⟩ := h
      exact h.elim⟩
  | j + 1 => by
    have GS := ok_same F bS gS mIsi mList mTuple mBool mStr mLen mAll mZip j
    have FS := F
    refine F.ok scSame (fun vs H Q E h => ?_) (fun cdv A outer s H vs Q E hr h => ?_)
    · obtain ⟨v, u, d, rfl, _⟩ := h
      rfl
    · obtain ⟨v, u, d, rfl, hv, hu, pl, q⟩ := h
      refine ⟨_, (pss_cons (ps_if (pt_val (pe_callB call_isiT (by rfl) mIsi boot_isinstance (pa_cons (pv 1) (pa_cons (pe_tup (pa_cons (pe_bltn (v := .ty "list") (by rfl) mList boot_list rfl) (pa_cons (pe_bltn (v := .ty "tuple") (by rfl) mTuple boot_tuple rfl) pa_nil))) pa_nil)))) (pss_cons (ps_if (PW.pt (pw_or (pt_not (pt_val (pe_callB call_isiT (by rfl) mIsi boot_isinstance (pa_cons (pv 0) (pa_cons (pe_tup (pa_cons (pe_bltn (v := .ty "list") (by rfl) mList boot_list rfl) (pa_cons (pe_bltn (v := .ty "tuple") (by rfl) mTuple boot_tuple rfl) pa_nil))) pa_nil))))) (pw_or1 (pt_cmpR op_ne (pe_callB call_isi (by rfl) mIsi boot_isinstance (pa_cons (pv 0) (pa_cons (pe_bltn (v := .ty "list") (by rfl) mList boot_list rfl) pa_nil))) (pe_callB call_isi (by rfl) mIsi boot_isinstance (pa_cons (pv 1) (pa_cons (pe_bltn (v := .ty "list") (by rfl) mList boot_list rfl) pa_nil))) (nomark _))))) pss_never pss_nil)
      (pss_one (ps_ret (pe_and (pe_cmpR op_eq (pe_callB call_len_seq (by rfl) mLen boot_len (pa_cons (pv 0) pa_nil)) (pe_callB call_len_seq (by rfl) mLen boot_len (pa_cons (pv 1) pa_nil)) (nomark _)) (pe_one (pe_callB (cr_all rfl) (by rfl) mAll boot_all (pa_cons (pe_lc (own := [("one", 2), ("two", 3)]) (g := gTup K 2 (gCons (gName 2) (gCons (gName 3) gNil))) (tt := tYes) (te := tCall (spSame j) [] E0 (tCons (tVar 2) (tCons (tVar 3) tNil))) rfl scSame.nd (RZ.pi_zipA (by rfl) mZip (pa_cons (pv 0) (pa_cons (pv 1) pa_nil))) (blkOk_by (N := ["found", "due", "one", "two"]) (sc := defScope sSame) (by decide +kernel)) (fun _ _ _ _ _ => pg_tup rfl (pgs_cons (pg_name (i := 2) scSame.nd rfl (Or.inl rfl)) (pgs_cons (pg_name (i := 3) scSame.nd rfl (Or.inl rfl)) pgs_nil))) (fun _ _ _ _ _ => pts_nil) (fun _ _ _ _ _ => (pe_call GS hr (by rfl) gS FS.kp bS .nil pass0 (pa_cons (pv 2) (pa_cons (pv 3) pa_nil))))) pa_nil))))))) pss_nil)
      (pss_cons (ps_if (PW.pt (pw_or (pt_cmpR op_isN (pv 1) pe_non (nomark _)) (pw_or1 (pt_cmpR op_isN (pv 0) pe_non (nomark _))))) (pss_one (ps_ret (pe_and (pe_cmpR op_isN (pv 1) pe_non (nomark _)) (pe_one (pe_cmpR op_isN (pv 0) pe_non (nomark _)))))) pss_nil)
      (pss_cons (ps_if (PW.pt (pw_or (pt_cmpR op_ne (pe_callB call_isi (by rfl) mIsi boot_isinstance (pa_cons (pv 0) (pa_cons (pe_bltn (v := .ty "bool") (by rfl) mBool boot_bool rfl) pa_nil))) (pe_callB call_isi (by rfl) mIsi boot_isinstance (pa_cons (pv 1) (pa_cons (pe_bltn (v := .ty "bool") (by rfl) mBool boot_bool rfl) pa_nil))) (nomark _)) (pw_or1 (pt_cmpR op_ne (pe_callB call_isi (by rfl) mIsi boot_isinstance (pa_cons (pv 0) (pa_cons (pe_bltn (v := .ty "str") (by rfl) mStr boot_str rfl) pa_nil))) (pe_callB call_isi (by rfl) mIsi boot_isinstance (pa_cons (pv 1) (pa_cons (pe_bltn (v := .ty "str") (by rfl) mStr boot_str rfl) pa_nil))) (nomark _))))) pss_never pss_nil)
      (pss_one (ps_ret (pe_cmpR op_eq (pv 0) (pv 1) (nomark _))))))), ?_⟩
      rcases pl with rfl | ⟨i, rfl⟩ | ⟨z, rfl⟩ | ⟨ds, hds, hl, pl⟩
      · cases hv
        cases hu
        refine q_when (b := false) (et_B (ev_isiT (ev_var rfl) .non)) (fun h => nomatch h) fun _ H1 e1 => ?_
        refine q_when (b := true) (et_is (et_or (a := true) (b := true) (et_test (ev_op (ev_var rfl) ev_c rv_isN')) fun h => nomatch h) rfl) (fun _ H2 e2 => ?_) (fun h => nomatch h)
        exact s_ret (v := .bl true) (ev_andV (a := true) (b := true) (ev_op (ev_var rfl) ev_c rv_isN') fun _ => ev_op (ev_var rfl) ev_c rv_isN') fun H4 e4 => q H4 ((e1.trans e2).trans e4)
      · cases hv
        cases hu
        refine q_when (b := false) (et_B (ev_isiT (ev_var rfl) (.int i))) (fun h => nomatch h) fun _ H1 e1 => ?_
        refine q_when (b := false) (et_is (et_or (a := false) (b := false) (et_test (ev_op (ev_var rfl) ev_c rv_isN')) fun _ => et_test (ev_op (ev_var rfl) ev_c rv_isN')) rfl) (fun h => nomatch h) fun _ H2 e2 => ?_
        refine q_when (b := false) (et_is (et_or (a := !decide (V.bl false = V.bl false)) (b := !decide (V.bl false = V.bl false)) (et_test (ev_op (ev_isi (ev_var rfl) (.int i) (kit_boolO _)) (ev_isi (ev_var rfl) (.int i) (kit_boolO _)) (rv_ne rfl))) fun _ => et_test (ev_op (ev_isi (ev_var rfl) (.int i) (kit_str _)) (ev_isi (ev_var rfl) (.int i) (kit_str _)) (rv_ne rfl))) (by rw [decide_eq_true rfl]; rfl)) (fun h => nomatch h) fun _ H3 e3 => ?_
        exact s_ret (v := .bl true) (ev_is (ev_op (ev_var rfl) (ev_var rfl) (rv_eq rfl)) (by rw [decide_eq_true rfl])) fun H4 e4 => q H4 (((e1.trans e2).trans e3).trans e4)
      · cases hv
        cases hu
        refine q_when (b := false) (et_B (ev_isiT (ev_var rfl) (.str z))) (fun h => nomatch h) fun _ H1 e1 => ?_
        refine q_when (b := false) (et_is (et_or (a := false) (b := false) (et_test (ev_op (ev_var rfl) ev_c rv_isN')) fun _ => et_test (ev_op (ev_var rfl) ev_c rv_isN')) rfl) (fun h => nomatch h) fun _ H2 e2 => ?_
        refine q_when (b := false) (et_is (et_or (a := !decide (V.bl false = V.bl false)) (b := !decide (V.bl true = V.bl true)) (et_test (ev_op (ev_isi (ev_var rfl) (.str z) (kit_boolO _)) (ev_isi (ev_var rfl) (.str z) (kit_boolO _)) (rv_ne rfl))) fun _ => et_test (ev_op (ev_isi (ev_var rfl) (.str z) (kit_str _)) (ev_isi (ev_var rfl) (.str z) (kit_str _)) (rv_ne rfl))) (by rw [decide_eq_true rfl, decide_eq_true rfl]; rfl)) (fun h => nomatch h) fun _ H3 e3 => ?_
        exact s_ret (v := .bl true) (ev_is (ev_op (ev_var rfl) (ev_var rfl) (rv_eq rfl)) (by rw [decide_eq_true rfl])) fun H4 e4 => q H4 (((e1.trans e2).trans e3).trans e4)
      · have hv0 := hv
        have hu0 := hu
        rcases hds with rfl | rfl
        · cases hv with
          | @lst a xs _ ha hx =>
          cases hu with
          | @lst b ys _ hb hy =>
          have lx := hx.length
          have ly := hy.length
          refine q_when (b := true) (et_B (ev_isiT (ev_var rfl) hu0)) (fun _ H1 e1 => ?_) (fun h => nomatch h)
          refine q_when (b := false) (et_is (et_or (a := !true) (b := !decide (V.bl true = V.bl true)) (et_not (et_B (ev_isiT (ev_var rfl) (hv0.same (same_ex e1))))) fun _ => et_test (ev_op (ev_isi (ev_var rfl) (hv0.same (same_ex e1)) (kit_list _)) (ev_isi (ev_var rfl) (hu0.same (same_ex e1)) (kit_list _)) (rv_ne rfl))) (by rw [decide_eq_true rfl]; rfl)) (fun h => nomatch h) fun _ H2 e2 => ?_
          have e12 := e1.trans e2
          refine s_ret (v := .bl true) (ev_is (ev_andV (a := true) (b := (ds.map fun _ => true).all id) (ev_is (ev_op (ev_len' (ev_var rfl) (e12 _ _ ha)) (ev_len' (ev_var rfl) (e12 _ _ hb)) (rv_eq rfl)) (by rw [lx, ly, decide_eq_true rfl])) fun _ => ev_all (bs := ds.map fun _ => true) ?_) ?_) fun H3 e3 => q H3 (e12.trans e3)
          · intro H0 e0 Q' q'
            have e20 := e12.trans e0
            refine ⟨.ref a, rfl, .ref b, rfl, a, b, xs, ys, rfl, .inl ⟨sq_of (e20 _ _ ha), sq_of (e20 _ _ hb), fun D hD => ?_⟩⟩
            refine lc_it (walk_zip (n := ds.length) (by omega)) (fun i Hh => Ex H0 Hh ∧ Hh D = some (.lst (List.replicate i (V.bl true)))) ⟨Ex.new hD, upd_same⟩ (fun i Hh _ p => ⟨sq_of (p.1 _ _ (e20 _ _ ha)), sq_of (p.1 _ _ (e20 _ _ hb))⟩) ?_ ?_
            · rintro i v Ha Hb hi ⟨p1, p2⟩ ⟨T, x, y, rfl, nT, rfl, hx', hy'⟩
              obtain ⟨d1, hd1, dt1⟩ := Dts.at' hx hx'
              obtain ⟨d2, hd2, dt2⟩ := Dts.at' hy hy'
              rw [hd1] at hd2
              cases hd2
              have eT : Ex Ha (upd Ha T (.tup [x, y])) := Ex.new nT
              have eA := (e20.trans p1).trans eT
              refine ⟨T, [x, y], rfl, st_of upd_same, rfl, x, [y], rfl, y, [], rfl, rfl, rfl, ?_⟩
              show tCall (spSame j) [] E0 (tCons (tVar 2) (tCons (tVar 3) tNil)) _ _ _
              refine ⟨x, rfl, y, rfl, x, y, d1, rfl, dt1.same (same_ex eA), dt2.same (same_ex eA), pl d1 (List.mem_of_getElem? hd1), fun H5 e5 => ⟨_, e5 _ _ (eT _ _ p2), sz_lt (by rw [List.length_replicate]; omega), ((p1.trans eT).trans e5).mut hD, ?_⟩⟩
              rw [List.replicate_succ']
              exact upd_same
            · rintro Hh ⟨p1, p2⟩
              refine q' D Hh hD p1 ?_
              rw [p2]
              refine congrArg (fun l => some (HO.lst l)) ?_
              refine List.ext_getElem (by simp) fun i h1 h2 => by simp
          · rw [List.all_eq_true.mpr (fun b hb => by
              obtain ⟨_, _, rfl⟩ := List.mem_map.mp hb
              rfl)]
            rfl
        · cases hv with
          | @tup a xs _ ha hx =>
          cases hu with
          | @tup b ys _ hb hy =>
          have lx := hx.length
          have ly := hy.length
          refine q_when (b := true) (et_B (ev_isiT (ev_var rfl) hu0)) (fun _ H1 e1 => ?_) (fun h => nomatch h)
          refine q_when (b := false) (et_is (et_or (a := !true) (b := !decide (V.bl false = V.bl false)) (et_not (et_B (ev_isiT (ev_var rfl) (hv0.same (same_ex e1))))) fun _ => et_test (ev_op (ev_isi (ev_var rfl) (hv0.same (same_ex e1)) (kit_list _)) (ev_isi (ev_var rfl) (hu0.same (same_ex e1)) (kit_list _)) (rv_ne rfl))) (by rw [decide_eq_true rfl]; rfl)) (fun h => nomatch h) fun _ H2 e2 => ?_
          have e12 := e1.trans e2
          refine s_ret (v := .bl true) (ev_is (ev_andV (a := true) (b := (ds.map fun _ => true).all id) (ev_is (ev_op (ev_lenTu (ev_var rfl) (e12 _ _ ha)) (ev_lenTu (ev_var rfl) (e12 _ _ hb)) (rv_eq rfl)) (by rw [lx, ly, decide_eq_true rfl])) fun _ => ev_all (bs := ds.map fun _ => true) ?_) ?_) fun H3 e3 => q H3 (e12.trans e3)
          · intro H0 e0 Q' q'
            have e20 := e12.trans e0
            refine ⟨.ref a, rfl, .ref b, rfl, a, b, xs, ys, rfl, .inr ⟨st_of (e20 _ _ ha), st_of (e20 _ _ hb), fun D hD => ?_⟩⟩
            refine lc_it (walk_zipT (n := ds.length) (by omega)) (fun i Hh => Ex H0 Hh ∧ Hh D = some (.lst (List.replicate i (V.bl true)))) ⟨Ex.new hD, upd_same⟩ (fun i Hh _ p => ⟨st_of (p.1 _ _ (e20 _ _ ha)), st_of (p.1 _ _ (e20 _ _ hb))⟩) ?_ ?_
            · rintro i v Ha Hb hi ⟨p1, p2⟩ ⟨T, x, y, rfl, nT, rfl, hx', hy'⟩
              obtain ⟨d1, hd1, dt1⟩ := Dts.at' hx hx'
              obtain ⟨d2, hd2, dt2⟩ := Dts.at' hy hy'
              rw [hd1] at hd2
              cases hd2
              have eT : Ex Ha (upd Ha T (.tup [x, y])) := Ex.new nT
              have eA := (e20.trans p1).trans eT
              refine ⟨T, [x, y], rfl, st_of upd_same, rfl, x, [y], rfl, y, [], rfl, rfl, rfl, ?_⟩
              show tCall (spSame j) [] E0 (tCons (tVar 2) (tCons (tVar 3) tNil)) _ _ _
              refine ⟨x, rfl, y, rfl, x, y, d1, rfl, dt1.same (same_ex eA), dt2.same (same_ex eA), pl d1 (List.mem_of_getElem? hd1), fun H5 e5 => ⟨_, e5 _ _ (eT _ _ p2), sz_lt (by rw [List.length_replicate]; omega), ((p1.trans eT).trans e5).mut hD, ?_⟩⟩
              rw [List.replicate_succ']
              exact upd_same
            · rintro Hh ⟨p1, p2⟩
              refine q' D Hh hD p1 ?_
              rw [p2]
              refine congrArg (fun l => some (HO.lst l)) ?_
              refine List.ext_getElem (by simp) fun i h1 h2 => by simp
          · rw [List.all_eq_true.mpr (fun b hb => by
              obtain ⟨_, _, rfl⟩ := List.mem_map.mp hb
              rfl)]
            rfl
end
theorem ev_same {σ : L2.St} {H : Hp} {ta tb : TA} {xs ys : List V} {ds : List PyData} (h1 : EvA ta σ H xs) (h2 : EvA tb σ H ys) (d1 : Dts H xs ds) (d2 : Dts H ys ds) (pl : Plain 5 (.list ds)) (few : ds.length ≤ 1000) :
    Ev (tCall (spSame 5) [] E0 (tCons (tLst ta) (tCons (tLst tb) tNil))) σ H (.bl true) := fun H1 e1 Q q => h1 H1 e1 _ fun H2 e2 => ⟨sz_of (by rw [d1.length]; omega), fun p hp => by
  have x1 := Ex.new (o := .lst xs) hp
  refine h2 _ ((e1.trans e2).trans x1) _ fun H3 e3 => ⟨sz_of (by rw [d2.length]; omega), fun r hr => ?_⟩
  have x2 := Ex.new (o := .lst ys) hr
  have eA := ((e1.trans e2).trans x1).trans (e3.trans x2)
  exact ⟨.ref p, .ref r, .list ds, rfl, .lst (x2 _ _ (e3 _ _ upd_same)) (d1.same (same_ex eA)), .lst upd_same (d2.same (same_ex eA)), pl, fun H4 e4 => q H4 ((e2.trans x1).trans ((e3.trans x2).trans e4))⟩⟩
theorem plain_list {j : Nat} {ds : List PyData} (hl : ds.length ≤ 1000) (h : ∀ d ∈ ds, Plain j d) : Plain (j + 1) (.list ds) := .inr (.inr (.inr ⟨ds, .inl rfl, hl, h⟩))
theorem plain_tup {j : Nat} {ds : List PyData} (hl : ds.length ≤ 1000) (h : ∀ d ∈ ds, Plain j d) : Plain (j + 1) (.tuple ds) := .inr (.inr (.inr ⟨ds, .inr rfl, hl, h⟩))
theorem plain_str (j : Nat) (z : Str) : Plain (j + 1) (.str z) := .inr (.inr (.inl ⟨z, rfl⟩))
theorem plain_int (j : Nat) (i : Int) : Plain (j + 1) (.int i) := .inr (.inl ⟨i, rfl⟩)
theorem plain_none (j : Nat) : Plain (j + 1) .none := .inl rfl
theorem plain_o (j : Nat) (os : List (Option Str)) (h : os.length ≤ 1000) : Plain (j + 2) (.list (os.map oD)) := plain_list (by rw [List.length_map]; exact h) fun d hd => by
  obtain ⟨o, _, rfl⟩ := List.mem_map.mp hd
  cases o with
  | none => exact plain_none j
  | some z => exact plain_str j z
end K92
/-! min of a list of pairs, remove of a pair -/
namespace Os
open PySem PySem.Spec PyProof.Rows L2 Evl

theorem prs_lay : ∀ es : List Pr, PyData.canLayAll0 (es.map Os.prD) = true
  | [] => by simp [PyData.canLayAll0]
  | e :: es => by simp [PyData.canLayAll0, PyData.canLay0, Os.prD, prs_lay es]
theorem pr_lay (e : Pr) : (Os.prD e).canLay0 = true := by simp [Os.prD, PyData.canLay0, PyData.canLayAll0]
theorem pr_depth (e : Pr) : (Os.prD e).depth = 1 := by simp [Os.prD, PyData.depth, PyData.depthAll]
theorem prs_depth : ∀ es : List Pr, PyData.depthAll (es.map Os.prD) ≤ 1
  | [] => by simp [PyData.depthAll]
  | e :: es => by
    have h1 := prs_depth es
    have h2 := pr_depth e
    simp only [List.map_cons, PyData.depthAll]
    omega
theorem lt_pr (e f : Pr) : PySem.W.dataLt (Os.prD e) (Os.prD f) = ltP e f := by
  show PyProof.Rows.lexLt itemOrd [.inl 1, .inl (e.1 : Int), .inl 1, .inl (e.2 : Int), .inl 0] [.inl 1, .inl (f.1 : Int), .inl 1, .inl (f.2 : Int), .inl 0] = ltP e f
  have hb : ∀ a b : Nat, itemOrd.blt (.inl (a : Int)) (.inl (b : Int)) = decide (a < b) := fun a b => decide_eq_decide.mpr (show (a : Int) < (b : Int) ↔ a < b by omega)
  have hn : ∀ {a b : Nat}, a ≠ b → (Sum.inl (a : Int) : Int ⊕ List Nat) ≠ .inl (b : Int) := fun h z => h (by have := Sum.inl.inj z; omega)
  rw [lex_self]
  unfold ltP
  by_cases h1 : e.1 = f.1
  · rw [h1, lex_self, lex_self, decide_eq_false (Nat.lt_irrefl _), decide_eq_true rfl, Bool.false_or, Bool.true_and]
    by_cases h2 : e.2 = f.2
    · rw [h2, lex_irrefl, decide_eq_false (Nat.lt_irrefl _)]
    · rw [lex_diff (O := itemOrd) (hn h2)]
      exact hb _ _
  · rw [lex_diff (O := itemOrd) (hn h1), decide_eq_false h1, Bool.false_and, Bool.or_false]
    exact hb _ _
/-- the least of e and es, the first of equal ones -/
def minP (e : Pr) (es : List Pr) : Pr := es.foldl (fun a y => if ltP y a = true then y else a) e
theorem minD_pr : ∀ (es : List Pr) (e : Pr), PySem.W.minD (Os.prD e) (es.map Os.prD) = Os.prD (minP e es)
  | [], _ => rfl
  | y :: es, e => by
    show PySem.W.minD (if PySem.W.dataLt (Os.prD y) (Os.prD e) = true then Os.prD y else Os.prD e) (es.map Os.prD) = Os.prD (minP (if ltP y e = true then y else e) es)
    rw [lt_pr]
    by_cases h : ltP y e = true
    · rw [if_pos h, if_pos h]
      exact minD_pr es y
    · rw [if_neg h, if_neg h]
      exact minD_pr es e
theorem minP_least : ∀ (es : List Pr) (e : Pr), ∀ f ∈ e :: es, ltP f (minP e es) = false
  | [], e, f, hf => by
    rw [List.mem_singleton.mp hf]
    show ltP e e = false
    rw [← Bool.not_eq_true, ltP_iff]
    omega
  | y :: es, e, f, hf => by
    show ltP f (minP (if ltP y e = true then y else e) es) = false
    by_cases h : ltP y e = true
    · rw [if_pos h]
      have ih := minP_least es y
      have iy := ih y List.mem_cons_self
      rcases List.mem_cons.mp hf with rfl | hf
      · rw [ltP_iff] at h
        rw [← Bool.not_eq_true, ltP_iff] at iy ⊢
        omega
      · exact ih f hf
    · rw [if_neg h]
      have ih := minP_least es e
      have ie := ih e List.mem_cons_self
      rcases List.mem_cons.mp hf with rfl | hf
      · exact ie
      · rcases List.mem_cons.mp hf with rfl | hf
        · rw [ltP_iff] at h
          rw [← Bool.not_eq_true, ltP_iff] at ie ⊢
          omega
        · exact ih f (List.mem_cons_of_mem _ hf)
theorem prD_inj {e f : Pr} (h : Os.prD e = Os.prD f) : e = f := by
  unfold Os.prD at h
  injection h with h
  injection h with h1 h
  injection h with h2 _
  injection h1 with h1
  injection h2 with h2
  exact Prod.ext (by omega) (by omega)
theorem alike_pr (e f : Pr) : PySem.W.alike (Os.prD e) (Os.prD f) = true := by simp [Os.prD, PySem.W.alike, PySem.W.alikeAll]
section
variable {X : Cx}
def rMinP (K : PySem.W.Frag) : List V → Hp → VK → Prop := fun vs H Q => ∃ (a : Addr) (xs : List V) (es : List Pr), vs = [V.ref a] ∧ H a = some (.lst xs) ∧ PrsV H xs es ∧ es ≠ [] ∧
  ∀ (i : Nat) (v : V) (e : Pr), xs[i]? = some v → es[i]? = some e → (∀ f ∈ es, ltP f e = false) → Q v H
theorem cr_minP (hc : X.calm = true) (hu : X.A.units + 64 < cLine) : CallR X (.builtin "min") (rMinP X.K) := by
  intro pins s σ H vs us Q I r h
  obtain ⟨a, xs, es, rfl, ha, hp, ne, q⟩ := h
  obtain ⟨its, rv, hl, _⟩ := I.list (sq_of ha)
  rw [Vals.ref1 r]
  cases es with
  | nil => exact absurd rfl ne
  | cons e es =>
    obtain ⟨as, rd⟩ := Dp.readsAll I ((e :: es).map Os.prD) xs its hp.dts.dp rv
    refine PySem.W.min_list_data (x := Os.prD e) (xs := es.map Os.prD) (I.ok.hd hc) hl.isList rd ⟨fun x hx y hy => ?_, fun x hx => ?_⟩ (by have : PyData.depthAll (Os.prD e :: es.map Os.prD) ≤ 1 := prs_depth (e :: es); omega) fun i v h' tk bs hv rdm hk => ?_
    · have hx' : x ∈ (e :: es).map Os.prD := hx
      have hy' : y ∈ (e :: es).map Os.prD := hy
      obtain ⟨x1, _, rfl⟩ := List.mem_map.mp hx'
      obtain ⟨y1, _, rfl⟩ := List.mem_map.mp hy'
      exact alike_pr x1 y1
    · have hx' : x ∈ (e :: es).map Os.prD := hx
      obtain ⟨x1, _, rfl⟩ := List.mem_map.mp hx'
      exact fun z => nomatch z
    · have hv' : its[i]? = some v := by simpa using hv
      have il : i < xs.length := by
        rw [rv.length]
        exact (List.getElem?_eq_some_iff.mp hv').1
      have hx : xs[i]? = some xs[i] := List.getElem?_eq_getElem il
      generalize xs[i] = x at hx
      obtain ⟨u, hu1, ru⟩ := rv.get hx
      rw [hv'] at hu1
      cases hu1
      obtain ⟨e', he', pe⟩ := hp.get hx
      obtain ⟨bs', rd'⟩ := Dp.reads I (Os.prD e') x v pe.dt.dp ru
      have r1 := SeqAt.readOf_eq (pr_lay e') (PySem.W.reads_keeps hk rd')
      rw [minD_pr] at rdm
      have r2 := SeqAt.readOf_eq (pr_lay _) rdm
      have ee : e' = minP e es := prD_inj (r1.symm.trans r2)
      subst ee
      exact ⟨x, H, I.kept hk, ru, q i x _ hx he' (minP_least es e)⟩
/-- l.remove(x) of a list of pairs -/
def rRemP : V → List V → Hp → VK → Prop := fun x vs H Q => ∃ (l : Addr) (xs : List V) (es : List Pr) (v : V) (e : Pr) (j : Nat), x = .ref l ∧ vs = [v] ∧ H l = some (.lst xs) ∧ PrsV H xs es ∧ PrV H v e ∧ es[j]? = some e ∧ (∀ m, m < j → es[m]? ≠ some e) ∧
  Q .non (upd H l (.lst (xs.eraseIdx j)))
theorem eqv_prs (e f : Pr) : PyData.eqv (Os.prD e) (Os.prD f) = decide (e = f) := by
  have h : PyData.eqv (Os.prD e) (Os.prD f) = ((e.1 : Int) == (f.1 : Int) && ((e.2 : Int) == (f.2 : Int) && true)) := by
    simp [Os.prD, PyData.eqv, PyData.eqvAll]
  rw [h, Bool.and_true]
  by_cases h1 : e.1 = f.1
  · by_cases h2 : e.2 = f.2
    · rw [decide_eq_true (Prod.ext h1 h2), h1, h2, beq_self_eq_true, beq_self_eq_true]
      rfl
    · rw [decide_eq_false (fun z => h2 (congrArg Prod.snd z)), show ((e.2 : Int) == (f.2 : Int)) = false from beq_eq_false_iff_ne.mpr (by omega), Bool.and_false]
  · rw [decide_eq_false (fun z => h1 (congrArg Prod.fst z)), show ((e.1 : Int) == (f.1 : Int)) = false from beq_eq_false_iff_ne.mpr (by omega), Bool.false_and]
theorem mt_remP (hu : X.A.units + 64 < cLine) : MtR X "list.remove" rRemP := by
  intro pins s σ H x xs v us Q I rx rxs h
  obtain ⟨l, zs, es, y, e, j, rfl, rfl, hH, hp, hy, hj, hno, q⟩ := h
  cases rx
  obtain ⟨u, rfl, ru⟩ := rxs.one
  obtain ⟨z, its, n, r, hl, e0⟩ := I.lstM hH
  obtain ⟨bs, r1⟩ := Dp.reads I (Os.prD e) y u hy.dt.dp ru
  obtain ⟨as, h4⟩ := Dp.readsAll I (es.map Os.prD) zs its hp.dts.dp r
  have hxs := prs_lay es
  have hle := hp.length
  have hmap : its.map (SeqAt.readOf s.heap) = es.map Os.prD := SeqAt.readsAll_map (es.map Os.prD) its as hxs h4
  have jl : j < es.length := (List.getElem?_eq_some_iff.mp hj).1
  have hjs : j < its.toArray.size := by rw [List.size_toArray]; omega
  have at_ : ∀ (m : Nat) (hm : m < its.toArray.size) (f : Pr), es[m]? = some f → SeqAt.readOf s.heap its.toArray[m] = Os.prD f := by
    intro m hm f hf
    have hml : m < its.length := by simpa using hm
    have e1 : (its.map (SeqAt.readOf s.heap))[m]? = (es.map Os.prD)[m]? := by rw [hmap]
    rw [List.getElem?_map, List.getElem?_map, List.getElem?_eq_getElem hml, hf] at e1
    have e2 := Option.some.inj e1
    simpa using e2
  have dp := prs_depth es
  have de := pr_depth e
  refine call_meets PySem.F.slot_list_remove ⟨_, e0, rfl⟩ PySem.F.entry_list_remove (PySem.F.args_list_remove_2 _ _)
    (SeqAt.list_removeAt l its.toArray n none #[] u (fun w => PyData.eqv (SeqAt.readOf s.heap w) (Os.prD e)) j hjs ?_ ?_ (by rw [List.size_toArray, ← hl]; exact z)) ⟨e0, SeqAt.items_eqAt (vs := its.toArray) (show ReadsAll s.heap its.toArray.toList (es.map Os.prD) as from h4) r1 hxs (pr_lay e) (by omega), ?_⟩
  · show PyData.eqv (SeqAt.readOf s.heap its.toArray[j]) (Os.prD e) = true
    rw [at_ j hjs e hj, eqv_prs, decide_eq_true rfl]
  · intro m hm hmj
    have hf : es[m]? = some es[m] := List.getElem?_eq_getElem (by omega)
    show PyData.eqv (SeqAt.readOf s.heap its.toArray[m]) (Os.prD e) = false
    rw [at_ m hm _ hf, eqv_prs]
    refine decide_eq_false fun w => hno m hmj ?_
    rw [hf, w]
  · refine ⟨.non, _, I.lset (its' := its.eraseIdx j) hH e0 ?_ (r.eraseIdx j) ?_, rfl, q⟩
    · show its.toArray.eraseIdxIfInBounds j = (its.eraseIdx j).toArray
      rw [List.eraseIdxIfInBounds_toArray]
    · have := len_erase zs j
      omega
/-- list(x), x a text -/
def signsV (z : Str) : List V := z.cps.toList.map fun c => V.str ⟨#[c]⟩
def rListStr : List V → Hp → VK → Prop := fun vs H Q => ∃ z : Str, vs = [V.str z] ∧ z.length ≤ sizeLine ∧ ∀ l, H l = none → Q (.ref l) (upd H l (.lst (signsV z)))
theorem vals_at : ∀ {xs : List V} {us : List Value}, xs.length = us.length → (∀ (i : Nat) (x : V) (u : Value), xs[i]? = some x → us[i]? = some u → RelV x u) → Vals xs us
  | [], [], _, _ => .nil
  | x :: xs, u :: us, hl, h => .cons (h 0 x u rfl rfl) (vals_at (by simpa using hl) fun i y v h1 h2 => h (i + 1) y v (by simpa using h1) (by simpa using h2))
  | [], _ :: _, hl, _ => by simp at hl
  | _ :: _, [], hl, _ => by simp at hl
theorem call_listS (hc : X.calm = true) : CallR X (.type "list") rListStr := by
  intro pins s σ H vs us Q I r h
  obtain ⟨z, rfl, hz, q⟩ := h
  obtain ⟨u, rfl, t, rfl⟩ := vals1 r
  refine call_list_str (I.ok.hd hc) z t (fun h' tk acc' c' hk hS hacc => ?_) (hn := hz)
  have hsz : acc'.size = z.cps.size := hacc.1
  have hl : (signsV z).length = acc'.toList.length := by
    unfold signsV
    rw [List.length_map, Array.length_toList, Array.length_toList, hsz]
  refine ⟨.ref s.heap.objs.size, upd H s.heap.objs.size (.lst (signsV z)), I.laid (t' := tk) hk (Nat.le_refl _) ⟨?_, acc'.toList, c', vals_at hl fun i x v h1 h2 => ?_, by simpa using hS⟩, rfl, q _ (I.hok.fresh (Nat.le_refl _))⟩
  · unfold signsV
    rw [List.length_map, Array.length_toList]
    exact hz
  · obtain ⟨c, tk', hc', rfl⟩ := hacc.2 i v (by simpa using h2)
    unfold signsV at h1
    rw [List.getElem?_map, Array.getElem?_toList, hc'] at h1
    cases h1
    exact ⟨_, rfl⟩
end
end Os
namespace K92
open PySem PySem.Spec PyProof.Rows L2 Os Evl
abbrev sNum : Stmt := topS 12
theorem scNum : FnScope ["word", "sign"] ["word"] (defScope sNum) := ⟨rfl, rfl, rfl, by decide +kernel, rfl, by decide +kernel, by decide +kernel⟩
abbrev sPairIn : Stmt := topS 13
theorem scPairIn : FnScope ["word", "numbers", "part"] ["word"] (defScope sPairIn) := ⟨rfl, rfl, rfl, by decide +kernel, rfl, by decide +kernel, by decide +kernel⟩
abbrev sWE : Stmt := topS 14
theorem scWE : FnScope ["edges", "p", "q"] ["edges"] (defScope sWE) := ⟨rfl, rfl, rfl, by decide +kernel, rfl, by decide +kernel, by decide +kernel⟩
abbrev sRE : Stmt := topS 15
theorem scRE : FnScope ["text", "words", "edges", "at", "word", "edge"] ["text"] (defScope sRE) := ⟨rfl, rfl, rfl, by decide +kernel, rfl, by decide +kernel, by decide +kernel⟩
/-! ### numbers below 40 and their texts -/
abbrev numS (n : Nat) : Str := Str.ofString (toString ((n : Nat) : Int))
def numOk (n : Nat) : Bool := decide ((numS n).length ≤ 2) && decide (1 ≤ (numS n).length) && (numS n).cps.toList.all (fun c => decide (48 ≤ c) && decide (c ≤ 57)) && (decide ((numS n).cps.toList.getD 0 0 ≠ 48) || decide (numS n = "0")) && decide (PySem.intText? (numS n) = some (n : Int))
theorem num_ok : ∀ n, n < 40 → numOk n = true := by decide +kernel
structure NumS (n : Nat) : Prop where
  short : (numS n).length ≤ 2
  long : 1 ≤ (numS n).length
  digits : ∀ c ∈ (numS n).cps.toList, 48 ≤ c ∧ c ≤ 57
  lead : (numS n).cps.toList.getD 0 0 ≠ 48 ∨ numS n = "0"
  val : PySem.intText? (numS n) = some (n : Int)
theorem num_of {n : Nat} (h : n < 40) : NumS n := by
  have := num_ok n h
  unfold numOk at this
  rw [Bool.and_eq_true, Bool.and_eq_true, Bool.and_eq_true, Bool.and_eq_true, Bool.or_eq_true] at this
  obtain ⟨⟨⟨⟨h1, h2⟩, h3⟩, h4⟩, h5⟩ := this
  refine ⟨of_decide_eq_true h1, of_decide_eq_true h2, fun c hc => ?_, h4.imp of_decide_eq_true of_decide_eq_true, of_decide_eq_true h5⟩
  have := List.all_eq_true.mp h3 c hc
  rw [Bool.and_eq_true] at this
  exact ⟨of_decide_eq_true this.1, of_decide_eq_true this.2⟩
theorem num_free {n c : Nat} (h : n < 40) (hc : c < 48 ∨ 57 < c) : c ∉ (numS n).cps.toList := fun m => by
  have := (num_of h).digits c m
  omega
theorem num_ne {n : Nat} (h : n < 40) : numS n ≠ ("-" : Str) := fun e => num_free h (c := 45) (by decide) (by rw [e]; decide)
def edgeS (e : Pr) : Str := Txt.join ("-" : Str) [numS e.1, numS e.2]
theorem edgeS_eq (e : Pr) : edgeS e = numS e.1 ++ ("-" : Str) ++ numS e.2 := by
  unfold edgeS
  rw [TL.join_eq]
  rfl
theorem edge_split {e : Pr} (h1 : e.1 < 40) (h2 : e.2 < 40) : Txt.split (edgeS e) ("-" : Str) = [numS e.1, numS e.2] :=
  TL.split_join (s := 45) (S := []) (by decide) (by decide +kernel) (fun h => nomatch h) fun p hp => by
    rcases List.mem_cons.mp hp with rfl | hp
    · exact num_free h1 (by decide)
    · rw [List.mem_singleton.mp hp]
      exact num_free h2 (by decide)
theorem edge_len {e : Pr} (h1 : e.1 < 40) (h2 : e.2 < 40) : (edgeS e).length ≤ 5 ∧ 1 ≤ (edgeS e).length := by
  rw [edgeS_eq, strLen_append, strLen_append]
  have := (num_of h1).short
  have := (num_of h2).short
  have := (num_of h1).long
  have e3 : ("-" : Str).length = 1 := by decide
  omega
theorem edge_free {e : Pr} (h1 : e.1 < 40) (h2 : e.2 < 40) {c : Nat} (hc : c < 45 ∨ 57 < c) : c ∉ (edgeS e).cps.toList := fun m => by
  rcases page_codes m with m | ⟨z, hz, m⟩
  · have e2 : ("-" : Str).cps.toList = [45] := by decide
    rw [e2, List.mem_singleton] at m
    omega
  · rcases List.mem_cons.mp hz with rfl | hz
    · exact num_free h1 (by omega) m
    · rw [List.mem_singleton.mp hz] at m
      exact num_free h2 (by omega) m
theorem edge_ne {e : Pr} (h1 : e.1 < 40) (h2 : e.2 < 40) : edgeS e ≠ ("-" : Str) := fun h => by
  have h3 := congrArg Str.length h
  rw [edgeS_eq, strLen_append, strLen_append] at h3
  have := (num_of h1).long
  have := (num_of h2).long
  have e3 : ("-" : Str).length = 1 := by decide
  omega
/-- a list of distinct edges between few positions -/
structure EdgesOk (es : List Pr) : Prop where
  few : es.length ≤ 100
  inn : ∀ e ∈ es, e.1 < e.2 ∧ e.2 < 40
  nd : es.Nodup
def pageE (es : List Pr) : Str := if es = [] then "-" else page (es.map edgeS)
theorem EdgesOk.words {es : List Pr} (h : EdgesOk es) : WOk (es.map edgeS) := by
  refine ⟨by rw [List.length_map]; exact h.few, fun w hw => ?_⟩
  obtain ⟨e, he, rfl⟩ := List.mem_map.mp hw
  have := h.inn e he
  exact Nat.le_trans (edge_len (by omega) this.2).1 (by decide)
theorem EdgesOk.len {es : List Pr} (h : EdgesOk es) : (pageE es).length ≤ 20100 := by
  unfold pageE
  split
  · decide
  · exact join_len_le len_sp h.words
theorem EdgesOk.back {es : List Pr} (h : EdgesOk es) : Txt.split (pageE es) (" " : Str) = (if es = [] then [("-" : Str)] else es.map edgeS) := by
  unfold pageE
  split
  · decide +kernel
  · rename_i ne
    refine split_page (fun e => ne (List.map_eq_nil_iff.mp e)) fun w hw => ?_
    obtain ⟨e, he, rfl⟩ := List.mem_map.mp hw
    have := h.inn e he
    exact edge_free (by omega) this.2 (by decide)
theorem sign_le48 {c : Nat} (h : 48 ≤ c) : (!decide ((⟨#[c]⟩ : Str).cps.toList < ("0" : Str).cps.toList)) = true := by
  have e : ("0" : Str).cps.toList = [48] := by decide
  rw [e]
  show (!decide ([c] < [48])) = true
  rw [decide_eq_false (show ¬ [c] < [48] from fun z => by
    cases z with
    | rel z => omega
    | cons z => cases z)]
  rfl
theorem le_sign57 {c : Nat} (h : c ≤ 57) : (!decide (("9" : Str).cps.toList < (⟨#[c]⟩ : Str).cps.toList)) = true := by
  have e : ("9" : Str).cps.toList = [57] := by decide
  rw [e]
  show (!decide ([57] < [c])) = true
  rw [decide_eq_false (show ¬ [57] < [c] from fun z => by
    cases z with
    | rel z => omega
    | cons z => cases z)]
  rfl
section
variable {P : Program} {w : World} {K : PySem.W.Frag} {mg : Str → Option Value} {base : Heap}
def spNum : Sp := fun vs H Q _ => ∃ (n : Nat), vs = [.str (numS n)] ∧ n < 40 ∧ ∀ H', Ex H H' → Q (.int (n : Int)) H'
theorem ok_num {f : Addr} {fd : FuncData} {k : Nat} (F : Fun K "number_in" "number_in" sNum f fd) (mLen : mg "len" = none) (mAll : mg "all" = none) (mInt : mg "int" = none) {t9 : Tok} (m9 : mg "MOST_DIGITS" = some (.int 9 t9)) : FnOk P w K mg base CX0 (k + 1) f fd ["word"] spNum := by
  refine F.ok scNum (fun vs H Q E h => ?_) (fun cdv A outer s H vs Q E hr h => ?_)
  · obtain ⟨n, rfl, _⟩ := h
    rfl
  · obtain ⟨n, rfl, hn, q⟩ := h
    refine ⟨_, (pss_cons (ps_if (PW.pt (pw_or (pt_not (pt_chain op_le op_le pe_int (pe_callB call_len_str (by rfl) mLen boot_len (pa_cons (pv 0) pa_nil)) (pe_glob (v := .int 9) (by rfl) m9 ⟨_, rfl⟩))) (pw_or1 (pt_not (pt_val (pe_callB (cr_all rfl) (by rfl) mAll boot_all (pa_cons (pe_lc (own := [("sign", 1)]) (g := gName 1) (tt := tYes) rfl scNum.nd (pi_str (pv 0)) (blkOk_by (N := ["word", "sign"]) (sc := defScope sNum) (by decide +kernel)) (fun _ _ _ _ _ => pg_name (i := 1) scNum.nd rfl (Or.inl rfl)) (fun _ _ _ _ _ => pts_nil) (fun _ _ _ _ _ => pe_chain op_le_str op_le_str pe_str (pv 1) pe_str)) pa_nil))))))) pss_never pss_nil)
      (pss_cons (ps_if (PW.pt (pw_and (pt_cmpR op_eq (pe_ix ix_str (pv 0) pe_int (fun _ _ => rfl)) pe_str (nomark _)) (pw_and1 (pt_cmpR op_ne (pv 0) pe_str (nomark _))))) pss_never pss_nil)
      (pss_one (ps_ret (pe_callTy call_int_str (by rfl) mInt boot_int (pa_cons (pv 0) pa_nil)))))), ?_⟩
    obtain ⟨hz, hz1, odig, olead, oval⟩ := num_of hn
    generalize numS n = z at hz hz1 odig olead oval ⊢
    refine q_when (b := !(true && true) || !((z.cps.toList.map fun _ => true).all id)) (et_or (et_not (et_test (ev_chain ev_c (ev_lenS (ev_var rfl) (by omega)) (by
        have := @rv_I0 H (fun i j => .bl (decide (i ≤ j))) 1 (z.length : Int)
        rw [decide_eq_true (by omega)] at this
        exact this) fun _ => ⟨_, ev_c, by
        have := @rv_I0 H (fun i j => .bl (decide (i ≤ j))) (z.length : Int) 9
        rw [decide_eq_true (by omega)] at this
        exact this⟩))) fun _ => et_not (et_B (ev_all ?_))) (fun h => ?_) fun _ H1 e1 => ?_
    · rw [List.map_map, ← given_map z.cps.toList (V.bl ∘ fun _ => true) (fun _ => .bl true) (fun i x e => rfl), Array.length_toList]
      refine el_lcS (f := fun _ => true) (v := _) (ev_var rfl) (by omega) (fun _ => rfl) (fun i c H2 _ _ => fun H3 e3 Q q => q H3 (Ex.refl H3)) (fun i c H2 e2 hc _ => ?_)
      have hd := odig c (List.mem_of_getElem? hc)
      exact ev_is (ev_chain (b := true) (c := true) ev_c (ev_var rfl) (by rw [← sign_le48 hd.1]; exact rv_leS) fun _ => ⟨_, ev_c, by rw [← le_sign57 hd.2]; exact rv_leS⟩) rfl
    · exact absurd h (by rw [List.all_eq_true.mpr (fun b hb => by obtain ⟨_, _, rfl⟩ := List.mem_map.mp hb; rfl)]; decide)
    · obtain ⟨c, hc⟩ : ∃ c, z.cps.toList[0]? = some c := ⟨_, List.getElem?_eq_getElem (by rw [Array.length_toList]; exact hz1)⟩
      refine q_when (b := decide (V.str ⟨#[c]⟩ = V.str "0") && !decide (V.str z = V.str "0")) (et_and (et_test (ev_op (ev_op (ev_var rfl) ev_c (rv_ixS (by omega) (atI_nat (j := 0) hc))) ev_c (rv_eq rfl))) fun _ => et_test (ev_op (ev_var rfl) ev_c (rv_ne rfl))) (fun h => ?_) fun _ H2 e2 => ?_
      · rw [Bool.and_eq_true] at h
        have h1 := of_decide_eq_true h.1
        have hc48 : c = 48 := by
          have := congrArg (fun s : Str => s.cps.toList) (V.str.inj h1)
          have e0 : ("0" : Str).cps.toList = [48] := by decide
          rw [e0] at this
          simpa using this
        rcases olead with l | l
        · refine absurd ?_ l
          rw [List.getD_eq_getElem?_getD, hc, hc48]
          rfl
        · rw [l, decide_eq_true rfl] at h
          exact absurd h.2 (by decide)
      · exact s_ret (v := .int (n : Int)) (ev_intS (ev_var rfl) (by omega) oval) fun H3 e3 => q H3 ((e1.trans e2).trans e3)
def spPairIn : Sp := fun vs H Q _ => ∃ (e : Pr), vs = [.str (edgeS e)] ∧ e.1 < 40 ∧ e.2 < 40 ∧ ∀ H' p, Ex H H' → H p = none → H' p = some (.tup [.int (e.1 : Int), .int (e.2 : Int)]) → Q (.ref p) H'
theorem ok_pairIn {f fN : Addr} {fd fdN : FuncData} {k : Nat} (F : Fun K "pair_in" "pair_in" sPairIn f fd)
    (GN : FnOk P w K mg base CX0 k fN fdN ["word"] spNum) (FN : Fun K "number_in" "number_in" sNum fN fdN) (bN : Binds K fdN ["word"] []) (gN : mg "number_in" = some (.ref fN)) (mLen : mg "len" = none) : FnOk P w K mg base CX0 (k + 1) f fd ["word"] spPairIn := by
  refine F.ok scPairIn (fun vs H Q E h => ?_) (fun cdv A outer s H vs Q E hr h => ?_)
  · obtain ⟨e, rfl, _⟩ := h
    rfl
  · obtain ⟨e, rfl, h1, h2, q⟩ := h
    refine ⟨_, (pss_cons (ps_setLc (i := 1) (own := [("part", 2)]) (g := gName 2) (tt := tYes) rfl scPairIn.nd rfl rfl (sw_true rfl rfl rfl (by decide +kernel)) (pi_list (pe_split (pv 0) pe_str)) (blkOk_by (N := ["word", "numbers", "part"]) (sc := defScope sPairIn) (by decide +kernel)) (fun _ _ _ _ _ => pg_name (i := 2) scPairIn.nd rfl (Or.inl rfl)) (fun _ _ _ _ _ => pts_nil) (fun _ _ _ _ _ => (pe_call GN hr (by rfl) gN FN.kp bN .nil pass0 (pa_cons (pv 2) pa_nil))))
      (pss_cons (ps_if (PW.pt (pw_or (pt_cmpR op_ne (pe_callB call_len_seq (by rfl) mLen boot_len (pa_cons (pv 1) pa_nil)) pe_int (nomark _)) (pw_or1 (pt_cmpR op_in_seq pe_non (pv 1) (by rfl))))) pss_never pss_nil)
      (pss_one (ps_ret (pe_tup (pa_cons (pe_ix ix_list (pv 1) pe_int (fun _ _ => rfl)) (pa_cons (pe_ix ix_list (pv 1) pe_int (fun _ _ => rfl)) pa_nil))))))), ?_⟩
    refine q_asgL (xs := [e.1, e.2].map fun n : Nat => V.int (n : Int)) (el_lcMapN (xs := [e.1, e.2]) (fV := fun n => V.str (numS n)) (fun n : Nat => V.int (n : Int)) (el_split (ws := [numS e.1, numS e.2]) (ev_var rfl) ev_c (by decide) (Nat.le_trans (edge_len h1 h2).1 (by decide)) (edge_split h1 h2)) (by show 2 ≤ 40000; decide) (fun _ => rfl) (fun n H2 e2 hn => ev_sp (ea_cons (ev_var rfl) ea_nil) fun H3 e3 Q q => ⟨n, rfl, by
        rcases List.mem_cons.mp hn with rfl | hn
        · exact h1
        · rw [List.mem_singleton.mp hn]
          exact h2, q⟩)) fun p H1 hp e1 hp1 => ?_
    refine q_when (b := !decide (V.int 2 = V.int 2) || false) (et_or (et_test (ev_op (ev_len' (ev_var rfl) hp1) ev_c (rv_ne rfl))) fun _ => et_test (ev_op ev_c (ev_var rfl) (rv_isL (sq_of hp1) rfl rfl))) (fun h => by rw [decide_eq_true rfl] at h; cases h) fun _ H2 e2 => ?_
    have hp2 := e2 _ _ hp1
    exact s_retU (xs := [.int (e.1 : Int), .int (e.2 : Int)]) (eu_tup (ea_cons (ev_op (ev_var rfl) ev_c (rv_ixL (sq_of hp2) (atI_nat (j := 0) rfl))) (ea_cons (ev_op (ev_var rfl) ev_c (rv_ixL (sq_of hp2) (atI_nat (j := 1) rfl))) ea_nil)) (by show 2 ≤ 100000; decide)) fun t H3 ht e3 h3 => q H3 t ((e1.trans e2).trans e3) (fresh_back (e1.trans e2) ht) h3
def spWE : Sp := fun vs H Q _ => ∃ (a : Addr) (xs : List V) (es : List Pr), vs = [.ref a] ∧ H a = some (.lst xs) ∧ PrsV H xs es ∧ EdgesOk es ∧ ∀ H', Ex H H' → Q (.str (pageE es)) H'
theorem ev_edge {σ : L2.St} {H : Hp} {e : Pr} {i j : Nat} (h1 : e.1 < 40) (h2 : e.2 < 40) (g1 : σ[i]? = some (some (.int (e.1 : Int)))) (g2 : σ[j]? = some (some (.int (e.2 : Int)))) :
    Ev (fun σ H Q => tJs [tFmt (tVar i), tC (.str "-"), tFmt (tVar j)] Str.empty σ H fun out H1 => Q (.str out) H1) σ H (.str (edgeS e)) := fun H1 e1 Q q => by
  have s1 := (num_of h1).short
  have s2 := (num_of h2).short
  have small : ∀ n : Nat, n < 40 → ((n : Int)).natAbs.log2 < 1920 := fun n hn => by
    rw [Int.natAbs_natCast]
    exact Nat.lt_of_le_of_lt (Nat.log2_le_self n) (by omega)
  have e0 : Str.empty.length = 0 := rfl
  have e3 : ("-" : Str).length = 1 := by decide
  refine ⟨.int (e.1 : Int), g1, .inr ⟨(e.1 : Int), rfl, small _ h1, numS e.1, rfl, sz_of (by rw [strLen_append]; omega), "-", rfl, sz_of (by rw [strLen_append, strLen_append]; omega), .int (e.2 : Int), g2, .inr ⟨(e.2 : Int), rfl, small _ h2, numS e.2, rfl, sz_of (by rw [strLen_append, strLen_append, strLen_append]; omega), ?_⟩⟩⟩
  show Q (.str (Str.empty ++ numS e.1 ++ ("-" : Str) ++ numS e.2)) H1
  have : (Str.empty ++ numS e.1 ++ ("-" : Str) ++ numS e.2) = edgeS e := by
    rw [edgeS_eq]
    refine TL.ext_tl ?_
    simp only [TL.tl_append]
    rfl
  rw [this]
  exact q H1 (Ex.refl H1)
theorem ok_we {f : Addr} {fd : FuncData} {k : Nat} (F : Fun K "write_edges" "write_edges" sWE f fd) {tE : Tok} (mE : mg "EMPTY" = some (.str "-" tE)) : FnOk P w K mg base CX0 (k + 1) f fd ["edges"] spWE := by
  refine F.ok scWE (fun vs H Q E h => ?_) (fun cdv A outer s H vs Q E hr h => ?_)
  · obtain ⟨a, xs, es, rfl, _⟩ := h
    rfl
  · obtain ⟨a, xs, es, rfl, ha, hp, ok, q⟩ := h
    refine ⟨_, (pss_cons (ps_if (pt_not (pt_truth (pv 0) (fun _ => rfl))) (pss_one (ps_ret (pe_glob (v := .str "-") (by rfl) mE ⟨_, rfl⟩))) pss_nil)
      (pss_one (ps_ret (pe_join pe_str (pe_lc (own := [("p", 1), ("q", 2)]) (g := gTup K 2 (gCons (gName 1) (gCons (gName 2) gNil))) (tt := tYes) rfl scWE.nd (pi_list (pv 0)) (blkOk_by (N := ["edges", "p", "q"]) (sc := defScope sWE) (by decide +kernel)) (fun _ _ _ _ _ => pg_tup rfl (pgs_cons (pg_name (i := 1) scWE.nd rfl (Or.inl rfl)) (pgs_cons (pg_name (i := 2) scWE.nd rfl (Or.inl rfl)) pgs_nil))) (fun _ _ _ _ _ => pts_nil) (fun _ _ _ _ _ => (pe_joined (.cons (pe_fmt (pv 1)) (.cons pe_str (.cons (pe_fmt (pv 2)) .nil)))))))))), ?_⟩
    have lx := hp.length
    refine q_when (b := !(!xs.isEmpty)) (et_not (et_tru (ev_var rfl) (sq_of ha))) (fun h H1 e1 => ?_) fun h H1 e1 => ?_
    · have he : es = [] := by
        rw [Bool.not_not, List.isEmpty_iff] at h
        rw [h] at lx
        exact List.length_eq_zero_iff.mp lx.symm
      subst he
      exact s_ret (v := .str "-") ev_c fun H2 e2 => q H2 (e1.trans e2)
    · have he : es ≠ [] := fun z => by
        subst z
        have : xs = [] := List.length_eq_zero_iff.mp lx
        rw [this] at h
        cases h
      have pg : pageE es = page (es.map edgeS) := if_neg he
      rw [pg] at q
      refine s_ret (v := .str (page (es.map edgeS))) (ev_joinL len_sp ev_c ?_ ok.words) fun H2 e2 => q H2 (e1.trans e2)
      rw [List.map_map]
      exact el_lcPr (V.str ∘ edgeS) rfl (ev_var rfl) (e1 _ _ ha) (hp.ex e1) (by have := ok.few; omega) (fun _ _ => rfl) fun e H2 e2 he => by
        have := ok.inn e he
        exact ev_edge (by omega) this.2 rfl rfl
def spRE : Sp := fun vs H Q _ => ∃ (es : List Pr), vs = [.str (pageE es)] ∧ EdgesOk es ∧ ∀ H' p xs, Ex H H' → H p = none → H' p = some (.lst xs) → PrsV H' xs es → Q (.ref p) H'
theorem ok_re {f fP fE : Addr} {fd fdP fdE : FuncData} {k : Nat} (F : Fun K "read_edges" "read_edges" sRE f fd)
    (GP : FnOk P w K mg base CX0 k fP fdP ["word"] spPairIn) (FP : Fun K "pair_in" "pair_in" sPairIn fP fdP) (bP : Binds K fdP ["word"] []) (gP : mg "pair_in" = some (.ref fP))
    (GE : FnOk P w K mg base CX0 k fE fdE ["n", "thing"] spEdge) (FE : Fun K "is_edge" "is_edge" sEdge fE fdE) (bE : Binds K fdE ["n", "thing"] []) (gE : mg "is_edge" = some (.ref fE))
    (mLen : mg "len" = none) (mEnum : mg "enumerate" = none) {t40 t100 tE : Tok} (m40 : mg "MOST_POSITIONS" = some (.int 40 t40)) (m100 : mg "MOST_EDGES" = some (.int 100 t100)) (mE : mg "EMPTY" = some (.str "-" tE)) : FnOk P w K mg base CX0 (k + 1) f fd ["text"] spRE := by
  refine F.ok scRE (fun vs H Q E h => ?_) (fun cdv A outer s H vs Q E hr h => ?_)
  · obtain ⟨es, rfl, _⟩ := h
    rfl
  · obtain ⟨es, rfl, ok, q⟩ := h
    have hu := room65 hr
    refine ⟨_, (pss_cons (ps_set (i := 1) scRE.nd rfl (.inl rfl) (pe_split (pv 0) pe_str))
      (pss_cons (ps_if (pt_cmpR op_eq (pe_ix ix_list (pv 1) pe_int (fun _ _ => rfl)) (pe_glob (v := .str "-") (by rfl) mE ⟨_, rfl⟩) (nomark _)) (pss_cons (ps_if (pt_cmpR op_gt (pe_callB call_len_seq (by rfl) mLen boot_len (pa_cons (pv 1) pa_nil)) pe_int (nomark _)) pss_never pss_nil)
      (pss_one (ps_ret (pe_lst pa_nil)))) pss_nil)
      (pss_cons (ps_set (i := 2) scRE.nd rfl (.inl rfl) (pe_lst pa_nil))
      (pss_cons (ps_for PassesOwn.never rfl (pi_enum (by rfl) mEnum (pa_cons (pv 1) pa_nil)) (pg_tup rfl (pgs_cons (pg_name (i := 3) scRE.nd rfl (Or.inl rfl)) (pgs_cons (pg_name (i := 4) scRE.nd rfl (Or.inl rfl)) pgs_nil)))
      (pss_cons (ps_set (i := 5) scRE.nd rfl (.inl rfl) (pe_call GP hr (by rfl) gP FP.kp bP .nil pass0 (pa_cons (pv 4) pa_nil)))
      (pss_cons (ps_if (PW.pt (pw_or (pt_cmpR op_ge (pv 3) (pe_glob (v := .int 100) (by rfl) m100 ⟨_, rfl⟩) (nomark _)) (pw_or (pt_not (pt_val (pe_call GE hr (by rfl) gE FE.kp bE .nil pass0 (pa_cons (pe_glob (v := .int 40) (by rfl) m40 ⟨_, rfl⟩) (pa_cons (pv 5) pa_nil))))) (pw_or1 (pt_cmpR (op_inD hu) (pv 5) (pv 2) (by rfl)))))) pss_never pss_nil)
      (pss_one (ps_expr (pe_bm PySem.F.plainAttrs_list PySem.F.slot_list_append PySem.F.type_list_append mt_append (pv 2) (pa_cons (pv 5) pa_nil)))))))
      (pss_one (ps_ret (pv 2))))))), ?_⟩
    have back := ok.back
    have few := ok.few
    refine q_asgL (el_split (ev_var rfl) ev_c len_sp (Nat.le_trans ok.len (by decide)) back) fun W H1 hW e1 h1 => ?_
    by_cases he : es = []
    · subst he
      rw [if_pos rfl] at h1
      refine q_when (b := true) (et_test (ev_is (ev_op (ev_op (ev_var rfl) ev_c (rv_ixL (sq_of h1) (atI_nat (j := 0) rfl))) ev_c (rv_eq rfl)) (congrArg V.bl (decide_eq_true rfl)))) (fun _ H2 e2 => ?_) fun h => nomatch h
      refine q_when (b := false) (et_test (ev_is (ev_op (ev_len' (ev_var rfl) (e2 _ _ h1)) ev_c rv_I0) rfl)) (fun h => nomatch h) fun _ H3 e3 => ?_
      exact s_retL (xs := []) (el_lst ea_nil (Nat.zero_le _)) fun p H4 hp e4 h4 => q H4 p [] (((e1.trans e2).trans e3).trans e4) (fresh_back ((e1.trans e2).trans e3) hp) h4 .nil
    · rw [if_neg he] at h1
      obtain ⟨e0, r, rfl⟩ := List.exists_cons_of_ne_nil he
      have i0 := ok.inn e0 List.mem_cons_self
      refine q_when (b := false) (et_test (ev_is (ev_op (ev_op (ev_var rfl) ev_c (rv_ixL (sq_of h1) (atI_nat (j := 0) rfl))) ev_c (rv_eq rfl)) (congrArg V.bl (decide_eq_false fun z => edge_ne (by omega) i0.2 (V.str.inj z))))) (fun h => nomatch h) fun _ H2 e2 => ?_
      generalize e0 :: r = es at *
      have h2 := e2 _ _ h1
      refine q_asgL (xs := []) (el_lst ea_nil (Nat.zero_le _)) fun L H3 hL e3 h3 => ?_
      have hL0 : H L = none := fresh_back (e1.trans e2) hL
      have h3W := e3 _ _ h2
      refine q_forEV (xs := (es.map edgeS).map V.str) (ev_var rfl) (sq_of h3W)
        (fun i σ' H' => Ex H H' ∧ H' W = some (.lst ((es.map edgeS).map V.str)) ∧ (∃ xs, H' L = some (.lst xs) ∧ PrsV H' xs (es.take i)) ∧ ∃ y3 y4 y5, σ' = [some (.str (pageE es)), some (.ref W), some (.ref L), y3, y4, y5])
        (fun H4 e4 => ⟨((e1.trans e2).trans e3).trans e4, e4 _ _ h3W, ⟨[], e4 _ _ h3, .nil⟩, _, _, _, rfl⟩) (fun i σ' H' h => sq_of h.2.1) ?_ ?_
      · rintro i x σ' H4 H5 hx ⟨x4, hW4, ⟨xs, hL4, hp4⟩, y3, y4, y5, rfl⟩ e5
        rw [List.getElem?_map] at hx
        obtain ⟨z, hz0, rfl⟩ := Option.map_eq_some_iff.mp hx
        rw [List.getElem?_map] at hz0
        obtain ⟨e, hei, rfl⟩ := Option.map_eq_some_iff.mp hz0
        have hi : i < es.length := (List.getElem?_eq_some_iff.mp hei).1
        have ie := ok.inn e (List.mem_of_getElem? hei)
        have e40 : e.1 < 40 := by omega
        refine ⟨.str (edgeS e), rfl, e, rfl, e40, ie.2, fun H6 t e6 ht h6 => ?_⟩
        have x6 := (x4.trans e5).trans e6
        have nin : e ∉ es.take i := fun m => by
          have nd := ok.nd
          have e7 := List.drop_eq_getElem_cons hi
          rw [(List.getElem?_eq_some_iff.mp hei).2] at e7
          have e8 : es = es.take i ++ (e :: es.drop (i + 1)) := by rw [← e7, List.take_append_drop]
          rw [e8] at nd
          exact (List.nodup_append.mp nd).2.2 e m e List.mem_cons_self rfl
        have dt6 : Dt H6 (.ref t) (Os.prD e) := .tup h6 (.cons (.int _) (.cons (.int _) .nil))
        have hp6 := hp4.ex (e5.trans e6)
        have hL6 := e6 _ _ (e5 _ _ hL4)
        have few2 : (es.take i).length ≤ 100 := by rw [List.length_take]; omega
        refine q_when (b := false) (et_is (et_or (a := false) (b := false) (et_test (ev_is (ev_op (ev_var rfl) ev_c rv_I0) (congrArg V.bl (decide_eq_false (by omega))))) fun _ => et_is (et_or (a := false) (b := false) (et_is (et_not (et_B (ev_sp (z := .bl (edgeB 40 (Os.prD e))) (ea_cons ev_c (ea_cons (ev_var rfl) ea_nil)) fun H7 e7 Q q => ⟨40, .ref t, Os.prD e, rfl, dt6.same (same_ex e7), q⟩))) (by
            show (!((decide ((0 : Int) ≤ (e.1 : Int)) && decide ((e.1 : Int) < 40)) && ((decide ((0 : Int) ≤ (e.2 : Int)) && decide ((e.2 : Int) < 40)) && decide ((e.1 : Int) < (e.2 : Int))))) = false
            rw [decide_eq_true (show (0 : Int) ≤ (e.1 : Int) by omega), decide_eq_true (show (e.1 : Int) < 40 by omega), decide_eq_true (show (0 : Int) ≤ (e.2 : Int) by omega), decide_eq_true (show (e.2 : Int) < 40 by omega), decide_eq_true (show (e.1 : Int) < (e.2 : Int) by omega)]
            rfl)) fun _ => et_test (ev_op (ev_var rfl) (ev_var rfl) ?_)) rfl) rfl) (fun h => nomatch h) fun _ H7 e7 => ?_
        · intro H7 e7 Q' q'
          refine ⟨Os.prD e, (es.take i).map Os.prD, (dt6.same (same_ex e7)).dp, Dt.dp (.lst (e7 _ _ hL6) (hp6.ex e7).dts), ?_, ?_, ?_⟩
          · exact Sh.shaped (n := 1) (.tup fun x hx => by
              rcases List.mem_cons.mp hx with rfl | hx
              · exact .int 0 _
              · rw [List.mem_singleton.mp hx]
                exact .int 0 _) (by decide)
          · exact Sh.shaped (sh_prs' _) (by decide)
          · rw [List.any_eq_false.mpr (fun z hz => by
              obtain ⟨g, hg, rfl⟩ := List.mem_map.mp hz
              rw [eqv_prs]
              exact fun h => nin (of_decide_eq_true h ▸ hg))]
            exact q' H7 (Ex.refl H7)
        · refine s_app (v := .ref t) (e7 _ _ hL6) (ev_var rfl) (ev_var rfl) (by rw [hp4.length]; omega) fun H8 e8 => ?_
          have x8 := (x6.trans e7).trans e8
          have nWL : W ≠ L := ne_of_none h2 hL
          have hL4n : H4 L ≠ none := by rw [hL4]; exact fun h => nomatch h
          refine ⟨x8.mut hL0, by rw [upd_ne nWL]; exact e8 _ _ (e7 _ _ (e6 _ _ (e5 _ _ hW4))), ⟨xs ++ [.ref t], upd_same, ?_⟩, _, _, _, rfl⟩
          have tk : es.take (i + 1) = es.take i ++ [e] := by
            rw [List.take_add_one, hei]
            rfl
          rw [tk]
          have offL : ∀ {G : Hp} {v : V} {g : Pr} {ys : List V}, G L = some (.lst ys) → PrV G v g → PrV (upd G L (.lst (xs ++ [.ref t]))) v g := fun hG hv => by
            obtain ⟨u, rfl, hu⟩ := hv
            exact ⟨u, rfl, by rw [upd_ne (fun z => by rw [z, hG] at hu; cases hu)]; exact hu⟩
          have hL8 := e8 _ _ (e7 _ _ hL6)
          refine prs_snoc (prs_map (fun v g hv => offL hL8 hv) (hp6.ex (e7.trans e8))) (offL hL8 ⟨t, rfl, e8 _ _ (e7 _ _ h6)⟩)
      · rintro σ' H4 ⟨x4, hW4, ⟨xs, hL4, hp4⟩, y3, y4, y5, rfl⟩
        rw [List.length_map, List.length_map, List.take_length] at hp4
        exact s_ret (v := .ref L) (ev_var rfl) fun H5 e5 => q H5 L xs (x4.trans e5) hL0 (e5 _ _ hL4) (hp4.ex e5)
end
end K92
namespace K92
open PySem PySem.Spec PyProof.Rows L2 Os Evl
abbrev sWT : Stmt := topS 16
theorem scWT : FnScope ["turns", "turn", "entry"] ["turns"] (defScope sWT) := ⟨rfl, rfl, rfl, by decide +kernel, rfl, by decide +kernel, by decide +kernel⟩
abbrev sTI : Stmt := topS 17
theorem scTI : FnScope ["line", "turn", "word", "entry"] ["line"] (defScope sTI) := ⟨rfl, rfl, rfl, by decide +kernel, rfl, by decide +kernel, by decide +kernel⟩
abbrev sRT : Stmt := topS 18
theorem scRT : FnScope ["text", "turns", "at", "line", "turn"] ["text"] (defScope sRT) := ⟨rfl, rfl, rfl, by decide +kernel, rfl, by decide +kernel, by decide +kernel⟩
abbrev nats (l : List Nat) : List V := l.map fun x : Nat => V.int (x : Int)
abbrev natsD (l : List Nat) : List PyData := l.map fun x : Nat => .int (x : Int)
theorem dts_nats {G : Hp} : ∀ c : List Nat, Dts G (nats c) (natsD c)
  | [] => .nil
  | x :: c => .cons (.int _) (dts_nats c)
/-- distinct positions below 40 -/
structure TurnOk (t : List Nat) : Prop where
  few : t.length ≤ 40
  inn : ∀ x ∈ t, x < 40
  nd : t.Nodup
def lineS (t : List Nat) : Str := if t = [] then "-" else page (t.map numS)
theorem TurnOk.words {t : List Nat} (h : TurnOk t) : WOk (t.map numS) := by
  refine ⟨by rw [List.length_map]; have := h.few; omega, fun w hw => ?_⟩
  obtain ⟨x, hx, rfl⟩ := List.mem_map.mp hw
  exact Nat.le_trans (num_of (h.inn x hx)).short (by decide)
theorem page_len2 {ws : List Str} (h : ∀ w ∈ ws, w.length ≤ 2) (l : ws.length ≤ 40) : (page ws).length ≤ 120 := by
  have e : page ws = Str.join (" " : Str) ws := StrLaws.glued_eq_join _ _
  rw [e]
  have h1 := StrLaws.join_length_le (" " : Str) ws
  have h2 := sum_len h
  rw [len_sp] at h1
  omega
theorem TurnOk.len {t : List Nat} (h : TurnOk t) : (lineS t).length ≤ 120 := by
  unfold lineS
  split
  · decide
  · refine page_len2 (fun w hw => ?_) (by rw [List.length_map]; exact h.few)
    obtain ⟨x, hx, rfl⟩ := List.mem_map.mp hw
    exact (num_of (h.inn x hx)).short
theorem TurnOk.free {t : List Nat} (h : TurnOk t) : 10 ∉ (lineS t).cps.toList := by
  unfold lineS
  split
  · decide
  · intro m
    rcases page_codes m with m | ⟨z, hz, m⟩
    · have e2 : (" " : Str).cps.toList = [32] := by decide
      rw [e2] at m
      exact absurd m (by decide)
    · obtain ⟨x, hx, rfl⟩ := List.mem_map.mp hz
      exact num_free (h.inn x hx) (by decide) m
theorem TurnOk.ne {t : List Nat} (h : TurnOk t) (ne : t ≠ []) : lineS t ≠ ("-" : Str) := by
  unfold lineS
  rw [if_neg ne]
  intro e
  obtain ⟨x, r, rfl⟩ := List.exists_cons_of_ne_nil ne
  have m : (numS x).cps.toList.getD 0 0 ∈ (page ((x :: r).map numS)).cps.toList := by
    have hl := (num_of (h.inn x List.mem_cons_self)).long
    have hm : (numS x).cps.toList.getD 0 0 ∈ (numS x).cps.toList := by
      rw [List.getD_eq_getElem?_getD, List.getElem?_eq_getElem (by rw [Array.length_toList]; exact hl)]
      exact List.getElem_mem _
    have : (page ((x :: r).map numS)) = Str.join (" " : Str) ((x :: r).map numS) := StrLaws.glued_eq_join _ _
    rw [this]
    cases r with
    | nil => exact hm
    | cons y r =>
      show _ ∈ (numS x ++ (" " : Str) ++ Str.join (" " : Str) ((y :: r).map numS)).cps.toList
      rw [PyProof.Rows.cps_toList_append, PyProof.Rows.cps_toList_append]
      exact List.mem_append_left _ (List.mem_append_left _ hm)
  rw [e] at m
  have hl := (num_of (h.inn x List.mem_cons_self)).long
  have hm : (numS x).cps.toList.getD 0 0 ∈ (numS x).cps.toList := by
    rw [List.getD_eq_getElem?_getD, List.getElem?_eq_getElem (by rw [Array.length_toList]; exact hl)]
    exact List.getElem_mem _
  have := (num_of (h.inn x List.mem_cons_self)).digits _ hm
  have e2 : ("-" : Str).cps.toList = [45] := by decide
  rw [e2, List.mem_singleton] at m
  omega
structure TurnsOk (ts : List (List Nat)) : Prop where
  ne : ts ≠ []
  few : ts.length ≤ 40
  ok : ∀ t ∈ ts, TurnOk t
def pageT (ts : List (List Nat)) : Str := Txt.join ("\n" : Str) (ts.map lineS)
theorem TurnsOk.words {ts : List (List Nat)} (h : TurnsOk ts) : WOk (ts.map lineS) := by
  refine ⟨by rw [List.length_map]; have := h.few; omega, fun w hw => ?_⟩
  obtain ⟨t, ht, rfl⟩ := List.mem_map.mp hw
  exact Nat.le_trans (h.ok t ht).len (by decide)
theorem TurnsOk.back {ts : List (List Nat)} (h : TurnsOk ts) : Txt.split (pageT ts) ("\n" : Str) = ts.map lineS :=
  split_lines (fun e => h.ne (List.map_eq_nil_iff.mp e)) fun w hw => by
    obtain ⟨t, ht, rfl⟩ := List.mem_map.mp hw
    exact (h.ok t ht).free
/-- rows of numbers that stand in a heap -/
inductive RwV (G : Hp) : List V → List (List Nat) → Prop
  | nil : RwV G [] []
  | cons {q : Addr} {t : List Nat} {rs : List V} {ts : List (List Nat)} : G q = some (.lst (nats t)) → RwV G rs ts → RwV G (.ref q :: rs) (t :: ts)
theorem RwV.len {G : Hp} : ∀ {rs : List V} {ts : List (List Nat)}, RwV G rs ts → rs.length = ts.length
  | _, _, .nil => rfl
  | _, _, .cons _ r => congrArg (· + 1) (RwV.len r)
theorem RwV.map {G G' : Hp} : ∀ {rs : List V} {ts : List (List Nat)}, (∀ q t, V.ref q ∈ rs → G q = some (.lst (nats t)) → G' q = some (.lst (nats t))) → RwV G rs ts → RwV G' rs ts
  | _, _, _, .nil => .nil
  | _, _, k, .cons h r => .cons (k _ _ List.mem_cons_self h) (RwV.map (fun q t m => k q t (List.mem_cons_of_mem _ m)) r)
theorem RwV.ex {G G' : Hp} {rs : List V} {ts : List (List Nat)} (h : RwV G rs ts) (e : Ex G G') : RwV G' rs ts := h.map fun _ _ _ => e _ _
theorem RwV.get {G : Hp} : ∀ {rs : List V} {ts : List (List Nat)} {i : Nat} {r : V}, RwV G rs ts → rs[i]? = some r → ∃ q t, r = .ref q ∧ ts[i]? = some t ∧ G q = some (.lst (nats t))
  | _, _, _, _, .nil, h => by simp at h
  | _, _, 0, _, .cons h1 _, h => by
    simp at h
    subst h
    exact ⟨_, _, rfl, rfl, h1⟩
  | _, _, i + 1, _, .cons _ r, h => by
    have h' := RwV.get (i := i) r (by simpa using h)
    simpa using h'
theorem RwV.snoc {G : Hp} {q : Addr} {t : List Nat} (h : G q = some (.lst (nats t))) : ∀ {rs : List V} {ts : List (List Nat)}, RwV G rs ts → RwV G (rs ++ [.ref q]) (ts ++ [t])
  | _, _, .nil => .cons h .nil
  | _, _, .cons h1 r => .cons h1 (RwV.snoc h r)
theorem RwV.dts {G : Hp} : ∀ {rs : List V} {ts : List (List Nat)}, RwV G rs ts → Dts G rs (ts.map fun t => .list (natsD t))
  | _, _, .nil => .nil
  | _, _, .cons h r => .cons (.lst h (dts_nats _)) (RwV.dts r)
theorem RwV.refs {G : Hp} : ∀ {rs : List V} {ts : List (List Nat)}, RwV G rs ts → ∀ r ∈ rs, ∃ q t, r = .ref q ∧ t ∈ ts ∧ G q = some (.lst (nats t))
  | _, _, .nil, _, h => by cases h
  | _, _, .cons h1 r, x, h => by
    rcases List.mem_cons.mp h with rfl | h
    · exact ⟨_, _, rfl, List.mem_cons_self, h1⟩
    · obtain ⟨q, t, h2, h3, h4⟩ := RwV.refs r x h
      exact ⟨q, t, h2, List.mem_cons_of_mem _ h3, h4⟩
section
variable {P : Program} {w : World} {K : PySem.W.Frag} {mg : Str → Option Value} {base : Heap}
def spWT : Sp := fun vs H Q _ => ∃ (a : Addr) (rs : List V) (ts : List (List Nat)), vs = [.ref a] ∧ H a = some (.lst rs) ∧ RwV H rs ts ∧ TurnsOk ts ∧ ∀ H', Ex H H' → Q (.str (pageT ts)) H'
theorem ok_wt {f : Addr} {fd : FuncData} {k : Nat} (F : Fun K "write_turns" "write_turns" sWT f fd) (mStr : mg "str" = none) {tE : Tok} (mE : mg "EMPTY" = some (.str "-" tE)) : FnOk P w K mg base CX0 (k + 1) f fd ["turns"] spWT := by
  refine F.ok scWT (fun vs H Q E h => ?_) (fun cdv A outer s H vs Q E hr h => ?_)
  · obtain ⟨a, rs, ts, rfl, _⟩ := h
    rfl
  · obtain ⟨a, rs, ts, rfl, ha, hr', ok, q⟩ := h
    refine ⟨_, (pss_one (ps_ret (pe_join pe_str (pe_lc (own := [("turn", 1)]) (g := gName 1) (tt := tYes) (te := tIf (tTru K (tVar 1)) (tM1 (rJoin K) (tC (.str " ")) (tLc (iList K (tVar 1)) (gName 2) tYes (tCB rStrI (tCons (tVar 2) tNil)) [2])) (tC (.str "-"))) rfl scWT.nd (pi_list (pv 0)) (blkOk_by (N := ["turns", "turn", "entry"]) (sc := defScope sWT) (by decide +kernel)) (fun _ _ _ _ _ => pg_name (i := 1) scWT.nd rfl (Or.inl rfl)) (fun _ _ _ _ _ => pts_nil) (fun _ _ _ _ _ => (pe_ifExp (pt_truth (pv 1) (fun _ => rfl)) (pe_join pe_str (pe_lc (own := [("entry", 2)]) (g := gName 2) (tt := tYes) (te := tCB rStrI (tCons (tVar 2) tNil)) rfl scWT.nd (pi_list (pv 1)) (blkOk_by (by rfl)) (fun _ _ _ _ _ => pg_name (i := 2) scWT.nd rfl (Or.inl rfl)) (fun _ _ _ _ _ => pts_nil) (fun _ _ _ _ _ => (pe_callTy call_str_int (by rfl) mStr boot_str (pa_cons (pv 2) pa_nil))))) (pe_glob (v := .str "-") (by rfl) mE ⟨_, rfl⟩))))))), ?_⟩
    have ln := hr'.len
    have few := ok.few
    refine s_ret (v := .str (pageT ts)) (ev_joinL len_nl ev_c ?_ ok.words) q
    rw [List.map_map, ← given_map ts (V.str ∘ lineS) (fun i => .str (lineS (ts.getD i []))) (fun i x e => by
      rw [List.getD_eq_getElem?_getD, e]
      rfl), ← ln]
    refine el_lcL (f := fun _ => true) (v := _) (ev_var rfl) (sq_of ha) (by omega) (fun _ => rfl) (fun i x H2 _ _ => fun H3 e3 Q q => q H3 (Ex.refl H3)) (fun i x H2 e2 hx _ => ?_)
    obtain ⟨p, t, rfl, ht, hp⟩ := hr'.get hx
    rw [List.getD_eq_getElem?_getD, ht]
    show Ev _ _ _ (.str (lineS t))
    have tok := ok.ok t (List.mem_of_getElem? ht)
    refine ev_if (b := !(nats t).isEmpty) (et_tru (ev_var rfl) (sq_of (e2 _ _ hp))) (fun h => ?_) fun h => ?_
    · have ne : t ≠ [] := fun z => by
        subst z
        cases h
      have pg : lineS t = page (t.map numS) := if_neg ne
      rw [pg]
      refine ev_joinL len_sp ev_c ?_ tok.words
      rw [List.map_map]
      exact el_lcMapL (xs := t) (fV := fun x : Nat => V.int (x : Int)) (V.str ∘ numS) (ev_var rfl) (sq_of (e2 _ _ hp)) (by have := tok.few; omega) (fun _ => rfl) fun x H3 e3 hx => ev_strI (ev_var rfl) (by have := tok.inn x hx; omega)
    · have em : t = [] := by
        rw [Bool.not_eq_false', List.isEmpty_iff, List.map_eq_nil_iff] at h
        exact h
      subst em
      exact ev_c
def spTI : Sp := fun vs H Q _ => ∃ (t : List Nat), vs = [.str (lineS t)] ∧ TurnOk t ∧ ∀ H' p, Ex H H' → H p = none → H' p = some (.lst (nats t)) → Q (.ref p) H'
theorem nats_eq (t : List Nat) : nats t = (t.map fun x : Nat => (x : Int)).map V.int := by
  rw [List.map_map]
  rfl
theorem ok_ti {f fN fP : Addr} {fd fdN fdP : FuncData} {k : Nat} (F : Fun K "_turn_in" "_turn_in" sTI f fd)
    (GN : FnOk P w K mg base CX0 k fN fdN ["word"] spNum) (FN : Fun K "number_in" "number_in" sNum fN fdN) (bN : Binds K fdN ["word"] []) (gN : mg "number_in" = some (.ref fN))
    (GP : FnOk P w K mg base CX0 k fP fdP ["n", "thing"] spPos) (FP : Fun K "is_position" "is_position" sPos fP fdP) (bP : Binds K fdP ["n", "thing"] []) (gP : mg "is_position" = some (.ref fP))
    (mAll : mg "all" = none) (mLen : mg "len" = none) (mSet : mg "set" = none) {t40 tE : Tok} (m40 : mg "MOST_POSITIONS" = some (.int 40 t40)) (mE : mg "EMPTY" = some (.str "-" tE)) : FnOk P w K mg base CX0 (k + 1) f fd ["line"] spTI := by
  refine F.ok scTI (fun vs H Q E h => ?_) (fun cdv A outer s H vs Q E hr h => ?_)
  · obtain ⟨t, rfl, _⟩ := h
    rfl
  · obtain ⟨t, rfl, ok, q⟩ := h
    refine ⟨_, (pss_cons (ps_if (pt_cmpR op_eq (pv 0) (pe_glob (v := .str "-") (by rfl) mE ⟨_, rfl⟩) (nomark _)) (pss_one (ps_ret (pe_lst pa_nil))) pss_nil)
      (pss_cons (ps_setLc (i := 1) (own := [("word", 2)]) (g := gName 2) (tt := tYes) rfl scTI.nd rfl rfl (sw_true rfl rfl rfl (by decide +kernel)) (pi_list (pe_split (pv 0) pe_str)) (blkOk_by (N := ["line", "turn", "word", "entry"]) (sc := defScope sTI) (by decide +kernel)) (fun _ _ _ _ _ => pg_name (i := 2) scTI.nd rfl (Or.inl rfl)) (fun _ _ _ _ _ => pts_nil) (fun _ _ _ _ _ => (pe_call GN hr (by rfl) gN FN.kp bN .nil pass0 (pa_cons (pv 2) pa_nil))))
      (pss_cons (ps_if (PW.pt (pw_or (pt_not (pt_val (pe_callB (cr_all rfl) (by rfl) mAll boot_all (pa_cons (pe_lc (own := [("entry", 3)]) (g := gName 3) (tt := tYes) rfl scTI.nd (pi_list (pv 1)) (blkOk_by (N := ["line", "turn", "word", "entry"]) (sc := defScope sTI) (by decide +kernel)) (fun _ _ _ _ _ => pg_name (i := 3) scTI.nd rfl (Or.inl rfl)) (fun _ _ _ _ _ => pts_nil) (fun _ _ _ _ _ => (pe_call GP hr (by rfl) gP FP.kp bP .nil pass0 (pa_cons (pe_glob (v := .int 40) (by rfl) m40 ⟨_, rfl⟩) (pa_cons (pv 3) pa_nil))))) pa_nil)))) (pw_or1 (pt_cmpR op_lt (RZ.pe_lenSetI (by rfl) mLen (by rfl) mSet (pv 1)) (pe_callB call_len_seq (by rfl) mLen boot_len (pa_cons (pv 1) pa_nil)) (nomark _))))) pss_never pss_nil)
      (pss_one (ps_ret (pv 1)))))), ?_⟩
    by_cases em : t = []
    · subst em
      refine q_when (b := true) (et_test (ev_is (ev_op (ev_var rfl) ev_c (rv_eq rfl)) (congrArg V.bl (decide_eq_true rfl)))) (fun _ H1 e1 => ?_) fun h => nomatch h
      exact s_retL (xs := []) (el_lst ea_nil (Nat.zero_le _)) fun p H2 hp e2 h2 => q H2 p (e1.trans e2) (fresh_back e1 hp) h2
    · refine q_when (b := false) (et_test (ev_is (ev_op (ev_var rfl) ev_c (rv_eq rfl)) (congrArg V.bl (decide_eq_false fun z => ok.ne em (V.str.inj z))))) (fun h => nomatch h) fun _ H1 e1 => ?_
      have pg : lineS t = page (t.map numS) := if_neg em
      have back : Txt.split (lineS t) (" " : Str) = t.map numS := by
        rw [pg]
        refine split_page (fun e => em (List.map_eq_nil_iff.mp e)) fun w hw => ?_
        obtain ⟨x, hx, rfl⟩ := List.mem_map.mp hw
        exact num_free (ok.inn x hx) (by decide)
      refine q_asgL (xs := nats t) (el_lcMapN (xs := t) (fV := fun x => V.str (numS x)) (fun x : Nat => V.int (x : Int)) (by
        have := el_split (ws := t.map numS) (te := tVar 0) (ta := tC (.str " ")) (σ := start ["line", "turn", "word", "entry"] [.str (lineS t)]) (H := H1) (ev_var rfl) ev_c len_sp (Nat.le_trans ok.len (by decide)) back
        rw [List.map_map] at this
        exact this) (by have := ok.few; omega) (fun _ => rfl) (fun n H2 e2 hn => ev_sp (ea_cons (ev_var rfl) ea_nil) fun H3 e3 Q q => ⟨n, rfl, ok.inn n hn, q⟩)) fun p H2 hp e2 h2 => ?_
      have len : (nats t).length = t.length := List.length_map ..
      refine q_when (b := !((t.map fun _ => true).all id) || false) (et_or (et_not (et_B (ev_all ?_))) fun _ => et_test (ev_is (ev_op (x := .int (((t.map fun x : Nat => (x : Int)).length : Nat) : Int)) ?_ (ev_len' (ev_var rfl) h2) rv_I0) ?_)) (fun h => ?_) fun _ H3 e3 => ?_
      · rw [List.map_map]
        exact el_lcMapL (xs := t) (fV := fun x : Nat => V.int (x : Int)) (V.bl ∘ fun _ => true) (ev_var rfl) (sq_of h2) (by have := ok.few; omega) (fun _ => rfl) fun x H4 e4 hx => ev_is (ev_sp (z := .bl (posB 40 (.int (x : Int)))) (ea_cons ev_c (ea_cons (ev_var rfl) ea_nil)) fun H5 e5 Q q => ⟨40, .int (x : Int), .int (x : Int), rfl, .int _, q⟩) (by
          have := ok.inn x hx
          show V.bl (decide ((0 : Int) ≤ (x : Int)) && decide ((x : Int) < 40)) = _
          rw [decide_eq_true (by omega), decide_eq_true (by omega)]
          rfl)
      · exact fun H4 e4 Q q => ⟨.ref p, rfl, p, t.map fun x : Nat => (x : Int), rfl, by rw [← nats_eq]; exact sq_of (e4 _ _ h2), by
          unfold List.Nodup
          rw [List.pairwise_map]
          exact List.Pairwise.imp (fun h e => h (by omega)) ok.nd, by rw [List.length_map]; have := ok.few; omega, q H4 (Ex.refl H4)⟩
      · exact congrArg V.bl (decide_eq_false (by rw [List.length_map, List.length_map]; omega))
      · exact absurd h (by rw [List.all_eq_true.mpr (fun b hb => by obtain ⟨_, _, rfl⟩ := List.mem_map.mp hb; rfl)]; decide)
      · exact s_ret (v := .ref p) (ev_var rfl) fun H4 e4 => q H4 p (((e1.trans e2).trans e3).trans e4) (fresh_back e1 hp) (e4 _ _ (e3 _ _ h2))
def spRT : Sp := fun vs H Q _ => ∃ (ts : List (List Nat)), vs = [.str (pageT ts)] ∧ TurnsOk ts ∧ ∀ H' p rs, Ex H H' → H p = none → H' p = some (.lst rs) → RwV H' rs ts → rs.Nodup → (∀ q, V.ref q ∈ rs → H q = none ∧ q ≠ p) → Q (.ref p) H'
theorem ok_rt {f fT : Addr} {fd fdT : FuncData} {k : Nat} (F : Fun K "read_turns" "read_turns" sRT f fd)
    (GT : FnOk P w K mg base CX0 k fT fdT ["line"] spTI) (FT : Fun K "_turn_in" "_turn_in" sTI fT fdT) (bT : Binds K fdT ["line"] []) (gT : mg "_turn_in" = some (.ref fT))
    (mEnum : mg "enumerate" = none) {t40 : Tok} (m40 : mg "MOST_POSITIONS" = some (.int 40 t40)) : FnOk P w K mg base CX0 (k + 1) f fd ["text"] spRT := by
  refine F.ok scRT (fun vs H Q E h => ?_) (fun cdv A outer s H vs Q E hr h => ?_)
  · obtain ⟨ts, rfl, _⟩ := h
    rfl
  · obtain ⟨ts, rfl, ok, q⟩ := h
    refine ⟨_, (pss_cons (ps_set (i := 1) scRT.nd rfl (.inl rfl) (pe_lst pa_nil))
      (pss_cons (ps_for PassesOwn.never rfl (pi_enum (by rfl) mEnum (pa_cons (pe_split (pv 0) pe_str) pa_nil)) (pg_tup rfl (pgs_cons (pg_name (i := 2) scRT.nd rfl (Or.inl rfl)) (pgs_cons (pg_name (i := 3) scRT.nd rfl (Or.inl rfl)) pgs_nil)))
      (pss_cons (ps_set (i := 4) scRT.nd rfl (.inl rfl) (pe_call GT hr (by rfl) gT FT.kp bT .nil pass0 (pa_cons (pv 3) pa_nil)))
      (pss_cons (ps_if (PW.pt (pw_or (pt_cmpR op_ge (pv 2) (pe_glob (v := .int 40) (by rfl) m40 ⟨_, rfl⟩) (nomark _)) (pw_or1 (pt_cmpR op_isN (pv 4) pe_non (nomark _))))) pss_never pss_nil)
      (pss_one (ps_expr (pe_bm PySem.F.plainAttrs_list PySem.F.slot_list_append PySem.F.type_list_append mt_append (pv 1) (pa_cons (pv 4) pa_nil)))))))
      (pss_one (ps_ret (pv 1))))), ?_⟩
    have few := ok.few
    refine q_asgL (xs := []) (el_lst ea_nil (Nat.zero_le _)) fun L H1 hL e1 h1 => ?_
    refine q_forE (xs := (ts.map lineS).map V.str) (el_split (ev_var rfl) ev_c len_nl (Nat.le_trans (join_len_le len_nl ok.words) (by decide)) ok.back)
      (fun p i σ' H' => Ex H H' ∧ H' p = some (.lst ((ts.map lineS).map V.str)) ∧ p ≠ L ∧ (∃ rs, H' L = some (.lst rs) ∧ RwV H' rs (ts.take i) ∧ rs.Nodup ∧ ∀ q, V.ref q ∈ rs → H q = none ∧ q ≠ L) ∧ ∃ y2 y3 y4, σ' = [some (.str (pageT ts)), some (.ref L), y2, y3, y4])
      (fun p H2 hp e2 h2 => ⟨e1.trans e2, h2, (ne_of_none h1 hp).symm, ⟨[], e2 _ _ h1, .nil, .nil, fun q h => nomatch h⟩, _, _, _, rfl⟩) (fun p i σ' H' h => sq_of h.2.1) ?_ ?_
    · rintro p i x σ' H3 H4 hx ⟨x3, hp3, npL, ⟨rs, hL3, rw3, nd3, fr3⟩, y2, y3, y4, rfl⟩ e4
      rw [List.getElem?_map] at hx
      obtain ⟨z, hz0, rfl⟩ := Option.map_eq_some_iff.mp hx
      rw [List.getElem?_map] at hz0
      obtain ⟨t, hti, rfl⟩ := Option.map_eq_some_iff.mp hz0
      have hi : i < ts.length := (List.getElem?_eq_some_iff.mp hti).1
      have tok := ok.ok t (List.mem_of_getElem? hti)
      refine ⟨.str (lineS t), rfl, t, rfl, tok, fun H5 u e5 hu h5 => ?_⟩
      have x4 := x3.trans e4
      have x5 := x4.trans e5
      refine q_when (b := false) (et_is (et_or (a := false) (b := false) (et_test (ev_is (ev_op (ev_var rfl) ev_c rv_I0) (congrArg V.bl (decide_eq_false (by omega))))) fun _ => et_test (ev_op (ev_var rfl) ev_c rv_isN')) rfl) (fun h => nomatch h) fun _ H6 e6 => ?_
      have hL4 := e4 _ _ hL3
      have hL6 := e6 _ _ (e5 _ _ hL4)
      have rl := rw3.len
      rw [List.length_take] at rl
      refine s_app (v := .ref u) hL6 (ev_var rfl) (ev_var rfl) (by omega) fun H7 e7 => ?_
      have x7 := (x5.trans e6).trans e7
      have nuL : u ≠ L := (ne_of_none hL4 hu).symm
      have tk : ts.take (i + 1) = ts.take i ++ [t] := by
        rw [List.take_add_one, hti]
        rfl
      refine ⟨x7.mut hL, ?_, npL, ⟨rs ++ [.ref u], upd_same, ?_, ?_, ?_⟩, _, _, _, rfl⟩
      · rw [upd_ne npL]
        exact e7 _ _ (e6 _ _ (e5 _ _ (e4 _ _ hp3)))
      · rw [tk]
        refine RwV.snoc ?_ (rw3.map fun q t' m h => ?_)
        · rw [upd_ne nuL]
          exact e7 _ _ (e6 _ _ h5)
        · rw [upd_ne (fr3 q m).2]
          exact e7 _ _ (e6 _ _ (e5 _ _ (e4 _ _ h)))
      · refine List.nodup_append.mpr ⟨nd3, List.nodup_cons.mpr ⟨by simp, .nil⟩, fun r1 hr1 r2 hr2 e => ?_⟩
        rw [List.mem_singleton.mp hr2] at e
        obtain ⟨q', t', e1', _, h'⟩ := rw3.refs r1 hr1
        rw [e1'] at e
        have eq := V.ref.inj e
        rw [eq] at h'
        have := e4 _ _ h'
        rw [hu] at this
        cases this
      · intro q' hq'
        rcases List.mem_append.mp hq' with h | h
        · exact fr3 q' h
        · have := V.ref.inj (List.mem_singleton.mp h)
          rw [this]
          exact ⟨fresh_back x4 hu, nuL⟩
    · rintro p σ' H3 ⟨x3, hp3, npL, ⟨rs, hL3, rw3, nd3, fr3⟩, y2, y3, y4, rfl⟩
      rw [List.length_map, List.length_map, List.take_length] at rw3
      exact s_ret (v := .ref L) (ev_var rfl) fun H4 e4 => q H4 L rs (x3.trans e4) hL (e4 _ _ hL3) (rw3.ex e4) nd3 fr3
end
end K92
namespace K92
open PySem PySem.Spec PyProof.Rows L2 Os Evl
abbrev sAllP : Stmt := topS 24
theorem scAllP : FnScope ["span", "found", "p", "q"] ["span"] (defScope sAllP) := ⟨rfl, rfl, rfl, by decide +kernel, rfl, by decide +kernel, by decide +kernel⟩
abbrev sPairs : Stmt := topS 25
theorem scPairs : FnScope ["source", "most", "span", "left", "count", "k"] ["source", "most"] (defScope sPairs) := ⟨rfl, rfl, rfl, by decide +kernel, rfl, by decide +kernel, by decide +kernel⟩
abbrev sTR : Stmt := topS 26
theorem scTR : FnScope ["source", "count", "most", "found", "k", "left", "spin"] ["source"] (defScope sTR) := ⟨rfl, rfl, rfl, by decide +kernel, rfl, by decide +kernel, by decide +kernel⟩
section
variable {P : Program} {w : World} {K : PySem.W.Frag} {mg : Str → Option Value} {base : Heap}
def spAllP : Sp := fun vs H Q _ => ∃ (n : Nat), vs = [.int (n : Int)] ∧ n ≤ 40 ∧ ∀ H' p (xs : List V) (es : List Pr), Ex H H' → H p = none → H' p = some (.lst xs) → PrsV H' xs es → (∀ e ∈ es, e.1 < e.2 ∧ e.2 < n) → es.Nodup → es.length ≤ 1600 → Q (.ref p) H'
theorem ok_allP {f : Addr} {fd : FuncData} {k : Nat} (F : Fun K "_law_all_pairs" "_law_all_pairs" sAllP f fd) (mRange : mg "range" = none) : FnOk P w K mg base CX0 (k + 1) f fd ["span"] spAllP := by
  refine F.ok scAllP (fun vs H Q E h => ?_) (fun cdv A outer s H vs Q E hr h => ?_)
  · obtain ⟨n, rfl, _⟩ := h
    rfl
  · obtain ⟨n, rfl, n40, q⟩ := h
    refine ⟨_, (pss_cons (ps_set (i := 1) scAllP.nd rfl (.inl rfl) (pe_lst pa_nil))
      (pss_cons (ps_for PassesOwn.never rfl (pi_range1 (by rfl) mRange (pa_cons (pv 0) pa_nil)) (pg_name (i := 2) scAllP.nd rfl (Or.inr rfl))
      (pss_one (ps_expr (pe_bm PySem.F.plainAttrs_list PySem.F.slot_list_extend PySem.F.type_list_extend mt_extend (pv 1) (pa_cons (pe_lc (own := [("q", 3)]) (g := gName 3) (tt := tYes) (te := tTup (tCons (tVar 2) (tCons (tVar 3) tNil))) rfl scAllP.nd (pi_range2 (by rfl) mRange (pa_cons (pe_op op_add (pv 2) pe_int) (pa_cons (pv 0) pa_nil))) (blkOk_by (N := ["span", "found", "p", "q"]) (sc := defScope sAllP) (by decide +kernel)) (fun _ _ _ _ _ => pg_name (i := 3) scAllP.nd rfl (Or.inl rfl)) (fun _ _ _ _ _ => pts_nil) (fun _ _ _ _ _ => (pe_tup (pa_cons (pv 2) (pa_cons (pv 3) pa_nil))))) pa_nil)))))
      (pss_one (ps_ret (pv 1))))), ?_⟩
    refine q_asgL (xs := []) (el_lst ea_nil (Nat.zero_le _)) fun Fa H1 hFa e1 h1 => ?_
    refine q_forR1 (n := (n : Int)) (ea_cons (ev_var rfl) ea_nil) ⟨by omega, by omega⟩
      (fun i σ' H' => Ex H H' ∧ i ≤ n ∧ ∃ (xs : List V) (es : List Pr) (y2 y3 : Option V), σ' = [some (.int (n : Int)), some (.ref Fa), y2, y3] ∧ H' Fa = some (.lst xs) ∧ PrsV H' xs es ∧ (∀ e ∈ es, e.1 < e.2 ∧ e.2 < n ∧ e.1 < i) ∧ es.Nodup ∧ es.length ≤ 40 * i)
      (fun H2 e2 => ⟨e1.trans e2, Nat.zero_le _, [], [], _, _, rfl, e2 _ _ h1, .nil, (fun e he => nomatch he), .nil, Nat.zero_le _⟩) ?_ ?_
    · rintro i σ' H2 hi ⟨e2, il, xs, es, y2, y3, rfl, hF, prs, inn, ndE, len⟩
      refine ⟨.ref Fa, rfl, .inl ⟨rfl, _, sq_of hF⟩, .int (i : Int), rfl, (i : Int), 1, rfl, rfl, .int (n : Int), rfl, (i : Int) + 1, (n : Int), rfl, ⟨by omega, by omega, by omega, by omega⟩, fun D hD => ?_⟩
      refine lc_range (lo := (i : Int) + 1) (n := ((n : Int) - ((i : Int) + 1)).toNat) (fun l Hh => Ex H2 Hh ∧ ∃ zs fs, Hh D = some (.lst zs) ∧ PrsV Hh zs fs ∧ (∀ e ∈ fs, e.1 = i ∧ e.1 < e.2 ∧ e.2 < n ∧ e.2 < i + 1 + l) ∧ fs.Nodup ∧ fs.length = l) ⟨Ex.new hD, [], [], upd_same, .nil, (fun e he => nomatch he), .nil, rfl⟩ ?_ ?_
      · rintro l Hh hl ⟨x1, zs, fs, hzs, pz, inz, ndz, fl⟩
        have e0 : (i : Int) + 1 + (l : Int) = ((i + 1 + l : Nat) : Int) := by omega
        rw [e0]
        refine ⟨rfl, ?_⟩
        dsimp only [tYes]
        rw [if_pos rfl]
        refine ⟨.int (i : Int), rfl, .int ((i + 1 + l : Nat) : Int), rfl, show 2 ≤ sizeLine by decide, fun t ht => ?_⟩
        have et := Ex.new (o := .tup [.int (i : Int), .int ((i + 1 + l : Nat) : Int)]) ht
        have zl := pz.length
        refine ⟨zs, et _ _ hzs, sz_lt (by omega), (x1.trans et).mut hD, zs ++ [.ref t], fs ++ [(i, i + 1 + l)], upd_same, ?_, fun e he => ?_, ?_, by rw [List.length_append, fl]; rfl⟩
        · have p1 : PrsV (upd Hh t (.tup [.int (i : Int), .int ((i + 1 + l : Nat) : Int)])) (zs ++ [.ref t]) (fs ++ [(i, i + 1 + l)]) := prs_snoc (pz.ex et) ⟨t, rfl, upd_same⟩
          exact PrsV.put0 p1 (et _ _ hzs)
        · rcases List.mem_append.mp he with he | he
          · have := inz e he
            omega
          · rw [List.mem_singleton.mp he]
            exact ⟨rfl, by show i < i + 1 + l; omega, by show i + 1 + l < n; omega, by show i + 1 + l < i + 1 + (l + 1); omega⟩
        · refine List.nodup_append.mpr ⟨ndz, List.nodup_cons.mpr ⟨by simp, .nil⟩, fun x1 h1 x2 h2 e => ?_⟩
          rw [List.mem_singleton.mp h2] at e
          have := inz x1 h1
          rw [e] at this
          exact absurd this.2.2.2 (by show ¬ (i + 1 + l < i + 1 + l); omega)
      · rintro Hh ⟨x1, zs, fs, hzs, pz, inz, ndz, fl⟩
        have zl := pz.length
        have xl := prs.length
        refine ⟨Fa, D, xs, zs, rfl, rfl, x1 _ _ hF, hzs, sz_of (by omega), ?_⟩
        refine ⟨(e2.trans x1).mut hFa, by omega, xs ++ zs, es ++ fs, _, _, rfl, upd_same, PrsV.put0 ((prs.ex x1).append pz) (x1 _ _ hF), fun e he => ?_, ?_, by rw [List.length_append, fl]; omega⟩
        · rcases List.mem_append.mp he with he | he
          · have := inn e he
            omega
          · have := inz e he
            omega
        · refine List.nodup_append.mpr ⟨ndE, ndz, fun x1 h1 x2 h2 e => ?_⟩
          have a1 := inn x1 h1
          have a2 := inz x2 h2
          rw [e] at a1
          omega
    · rintro σ' H2 ⟨e2, _, xs, es, y2, y3, rfl, hF, prs, inn, ndE, len⟩
      exact s_ret (v := .ref Fa) (ev_var rfl) fun H3 e3 => q H3 Fa xs es (e2.trans e3) hFa (e3 _ _ hF) (prs.ex e3) (fun e he => ⟨(inn e he).1, (inn e he).2.1⟩) ndE (by rw [Int.toNat_natCast] at len; omega)
def spPairs : Sp := fun vs H Q _ => ∃ (s : Addr) (B : Nat), vs = [.ref s, .int 100] ∧ Src H s B ∧ B ≤ 700000 ∧
  ∀ H' p (xs : List V) (es : List Pr), Drew s (B + 110) H H' → H p = none → H' p = some (.lst xs) → PrsV (hide s H') xs es → EdgesOk es → Q (.ref p) H'
theorem ok_pairs {f fK fA : Addr} {fd fdK fdA : FuncData} {k : Nat} (F : Fun K "_law_pairs" "_law_pairs" sPairs f fd)
    (GK : FnOk P w K mg base CX0 k fK fdK ["source", "count"] spPick) (FK : Fun K "_law_pick" "_law_pick" sPick fK fdK) (bK : Binds K fdK ["source", "count"] []) (gK : mg "_law_pick" = some (.ref fK))
    (GA : FnOk P w K mg base CX0 k fA fdA ["span"] spAllP) (FA : Fun K "_law_all_pairs" "_law_all_pairs" sAllP fA fdA) (bA : Binds K fdA ["span"] []) (gA : mg "_law_all_pairs" = some (.ref fA))
    (mMin : mg "min" = none) (mLen : mg "len" = none) (mRange : mg "range" = none) : FnOk P w K mg base CX0 (k + 1) f fd ["source", "most"] spPairs := by
  refine F.ok scPairs (fun vs H Q E h => ?_) (fun cdv A outer s0 H vs Q E hr h => ?_)
  · obtain ⟨s, B, rfl, _⟩ := h
    rfl
  · obtain ⟨s, B, rfl, hS, hB, q⟩ := h
    refine ⟨_, (pss_cons (ps_set (i := 2) scPairs.nd rfl (.inl rfl) (pe_ix ix_list (pe_lst (pa_cons pe_int (pa_cons pe_int (pa_cons pe_int pa_nil)))) (pe_call GK hr (by rfl) gK FK.kp bK .nil pass0 (pa_cons (pv 0) (pa_cons pe_int pa_nil))) (fun _ _ => rfl)))
      (pss_cons (ps_set (i := 3) scPairs.nd rfl (.inr rfl) (pe_call GA hr (by rfl) gA FA.kp bA .nil pass0 (pa_cons (pv 2) pa_nil)))
      (pss_cons (ps_set (i := 4) scPairs.nd rfl (.inl rfl) (pe_callB (call_min2 rfl) (by rfl) mMin boot_min (pa_cons (pe_callB call_len_seq (by rfl) mLen boot_len (pa_cons (pv 3) pa_nil)) (pa_cons (pe_ix ix_list (pe_lst (pa_cons pe_int (pa_cons pe_int (pa_cons (pe_call GK hr (by rfl) gK FK.kp bK .nil pass0 (pa_cons (pv 0) (pa_cons pe_int pa_nil))) (pa_cons (pe_call GK hr (by rfl) gK FK.kp bK .nil pass0 (pa_cons (pv 0) (pa_cons (pe_op op_add (pv 1) pe_int) pa_nil))) (pa_cons (pv 1) pa_nil)))))) (pe_call GK hr (by rfl) gK FK.kp bK .nil pass0 (pa_cons (pv 0) (pa_cons pe_int pa_nil))) (fun _ _ => rfl)) pa_nil))))
      (pss_one (ps_ret (pe_lc (own := [("k", 5)]) (g := gName 5) (tt := tYes) (te := tBM K "list" rPopAt (tVar 3) (tCons (tCall spPick [] E0 (tCons (tVar 0) (tCons (tCB (rLenS K) (tCons (tVar 3) tNil)) tNil))) tNil)) rfl scPairs.nd (pi_range1 (by rfl) mRange (pa_cons (pv 4) pa_nil)) (blkOk_by (N := ["source", "most", "span", "left", "count", "k"]) (sc := defScope sPairs) (by decide +kernel)) (fun _ _ _ _ _ => pg_name (i := 5) scPairs.nd rfl (Or.inl rfl)) (fun _ _ _ _ _ => pts_nil) (fun _ _ _ _ _ => (pe_bm PySem.F.plainAttrs_list PySem.F.slot_list_pop PySem.F.type_list_pop mt_popAt (pv 3) (pa_cons (pe_call GK hr (by rfl) gK FK.kp bK .nil pass0 (pa_cons (pv 0) (pa_cons (pe_callB call_len_seq (by rfl) mLen boot_len (pa_cons (pv 3) pa_nil)) pa_nil))) pa_nil))))))))), ?_⟩
    have src0 := hS.at
    -- span
    refine ⟨show 3 ≤ sizeLine by decide, fun p1 hp1 => ⟨.ref s, rfl, s, 3, B, rfl, hS.ex (Ex.new hp1), by omega, by decide, by decide, fun H1 r1 d1 r10 r11 => ?_⟩⟩
    have D1 : Drew s (B + 1) H H1 := ((Drew.refl hS).ex (Ex.new hp1)).trans d1
    have n1 : p1 ≠ s := new_apart src0 hp1
    obtain ⟨n, hn, n2, n40⟩ : ∃ n : Nat, ([.int 2, .int 6, .int 40] : List V)[r1.toNat]? = some (.int (n : Int)) ∧ 2 ≤ n ∧ n ≤ 40 := by
      have : r1.toNat < 3 := by omega
      match r1.toNat, this with
      | 0, _ => exact ⟨2, rfl, by decide, by decide⟩
      | 1, _ => exact ⟨6, rfl, by decide, by decide⟩
      | 2, _ => exact ⟨40, rfl, by decide, by decide⟩
    refine ⟨p1, _, r1, .int (n : Int), rfl, rfl, sq_of (d1.get n1 upd_same), by rw [show r1 = (r1.toNat : Int) by omega]; exact atI_nat hn, ?_⟩
    dsimp only [gName]
    -- left
    refine ⟨.int (n : Int), rfl, n, rfl, n40, fun H2 L xs es e2 hL hxs prs inn ndE len => ?_⟩
    have D2 := D1.ex e2
    have xl := prs.length
    have hL0 : H L = none := D1.none src0 hL
    have nLs : L ≠ s := new_apart D1.src.at hL
    have prs2 : PrsV (hide s H2) xs es := by
      refine prs_map (fun v e hv => ?_) prs
      obtain ⟨t, rfl, ht⟩ := hv
      refine ⟨t, rfl, ?_⟩
      rw [hide_ne fun z => ?_]
      · exact ht
      · obtain ⟨x, y, zz, hs, _⟩ := D2.src
        rw [z, hs] at ht
        cases ht
    -- count
    refine ⟨.ref L, rfl, L, xs, rfl, .inl (sq_of hxs), .ref s, rfl, s, 6, B + 1, rfl, D2.src, by omega, by decide, by decide, fun H3 r3 d3 r30 r31 => ⟨.ref s, rfl, .int 100, rfl, 100, 1, rfl, rfl, s, 101, B + 1 + 1, rfl, d3.src, by omega, by decide, by decide, fun H4 r4 d4 r40 r41 => ⟨.int 100, rfl, show 5 ≤ sizeLine by decide, fun p5 hp5 => ?_⟩⟩⟩
    have D4 := (D2.trans d3).trans d4
    have e5 := Ex.new (o := .lst [.int 0, .int 1, .int r3, .int r4, .int 100]) hp5
    have D5 := D4.ex e5
    refine ⟨.ref s, rfl, s, 5, B + 1 + 1 + 1, rfl, D5.src, by omega, by decide, by decide, fun H6 r6 d6 r60 r61 => ?_⟩
    have D6 := D5.trans d6
    have n5 : p5 ≠ s := new_apart D4.src.at hp5
    obtain ⟨m, hm, m0, m100⟩ : ∃ m : Nat, ([.int 0, .int 1, .int r3, .int r4, .int 100] : List V)[r6.toNat]? = some (.int (m : Int)) ∧ 0 ≤ m ∧ m ≤ 100 := by
      have : r6.toNat < 5 := by omega
      match r6.toNat, this with
      | 0, _ => exact ⟨0, rfl, by decide, by decide⟩
      | 1, _ => exact ⟨1, rfl, by decide, by decide⟩
      | 2, _ => exact ⟨r3.toNat, congrArg (fun z => some (V.int z)) (by omega), by omega, by omega⟩
      | 3, _ => exact ⟨r4.toNat, congrArg (fun z => some (V.int z)) (by omega), by omega, by omega⟩
      | 4, _ => exact ⟨100, rfl, by decide, by decide⟩
    refine ⟨p5, _, r6, .int (m : Int), rfl, rfl, sq_of (d6.get n5 upd_same), by rw [show r6 = (r6.toNat : Int) by omega]; exact atI_nat hm, (xs.length : Int), (m : Int), rfl, ?_⟩
    obtain ⟨c, hc, c1, c2⟩ : ∃ c : Nat, (if (m : Int) < (xs.length : Int) then (m : Int) else (xs.length : Int)) = (c : Int) ∧ c ≤ 100 ∧ c ≤ xs.length := by
      by_cases h : (m : Int) < (xs.length : Int)
      · exact ⟨m, if_pos h, by omega, by omega⟩
      · exact ⟨xs.length, if_neg h, by omega, by omega⟩
    rw [hc]
    dsimp only [gName]
    have d36 : Drew s (B + 1 + 1 + 1 + 1) H2 H6 := (((d3.trans d4).ex e5).trans d6)
    have hL6 := d36.get nLs hxs
    have prs6 := prs2.ex d36.kept
    refine ⟨.int (c : Int), rfl, (c : Int), rfl, by omega, by omega, fun D hD => ?_⟩
    have hD0 : H D = none := D6.none src0 hD
    have nDs : D ≠ s := new_apart D6.src.at hD
    have nDL : D ≠ L := (ne_of_none hL6 hD).symm
    refine lc_range (lo := 0) (n := (c : Int).toNat) (fun i Hh => ∃ l acc, Hh L = some (.lst l) ∧ Hh D = some (.lst acc) ∧ (acc ++ l).Perm xs ∧ acc.length = i ∧ PrsV (hide s Hh) xs es ∧ Drew s (B + 1 + 1 + 1 + 1 + i) H Hh) ?_ ?_ ?_
    · exact ⟨xs, [], by rw [upd_ne nDL.symm]; exact hL6, upd_same, List.Perm.refl _, rfl, prs6.newH D6.src.at hD, D6.mut src0 hD0⟩
    · rintro i Hh hi ⟨l, acc, hl1, hD1, pm, len2, prsH, dr⟩
      have hi' : i < c := by omega
      have ll : acc.length + l.length = xs.length := by rw [← List.length_append, pm.length_eq]
      refine ⟨rfl, ?_⟩
      dsimp only [tYes]
      rw [if_pos rfl]
      refine ⟨.ref L, rfl, .inl ⟨rfl, _, sq_of hl1⟩, .ref s, rfl, .ref L, rfl, L, l, rfl, .inl (sq_of hl1), s, (l.length : Int), B + 1 + 1 + 1 + 1 + i, rfl, dr.src, by omega, by omega, by omega, fun H7 r dr2 r0 r1 => ?_⟩
      have hl2 : H7 L = some (.lst l) := dr2.get nLs hl1
      have hD2 : H7 D = some (.lst acc) := dr2.get nDs hD1
      have lt : r.toNat < l.length := by omega
      have er : r = (r.toNat : Int) := by omega
      refine ⟨L, l, r, r.toNat, l[r.toNat], rfl, rfl, hl2, by omega, by omega, (ixN_seq (by rw [er]; exact ixN_nat lt)).1, List.getElem?_eq_getElem lt, acc, ?_, ?_, ?_⟩
      · rw [upd_ne nDL]
        exact hD2
      · exact sz_lt (by omega)
      · refine ⟨l.eraseIdx r.toNat, acc ++ [l[r.toNat]], ?_, upd_same, (perm_pop' acc (List.getElem?_eq_getElem lt)).trans pm, ?_, ?_, ((dr.trans dr2).mut src0 hL0).mut src0 hD0⟩
        · rw [upd_ne nDL.symm]
          exact upd_same
        · rw [List.length_append, len2]
          rfl
        · exact ((prsH.ex dr2.kept).putH nLs hl2).putH nDs (by rw [upd_ne nDL]; exact hD2)
    · rintro Hh ⟨l, acc, hl1, hD1, pm, len2, prsH, dr⟩
      rw [Int.toNat_natCast] at len2 dr
      obtain ⟨fs, pf, pfe⟩ := prsH.perm pm
      have tk := pf.take acc.length
      rw [List.take_left] at tk
      have sub := List.take_sublist acc.length fs
      exact q Hh D acc _ (dr.mono (by omega)) hD0 hD1 tk ⟨by rw [List.length_take]; omega, fun e he => by
        have := inn e (pfe.mem_iff.mp (sub.subset he))
        omega, (pfe.nodup_iff.mpr ndE).sublist sub⟩
/-! rows -/
theorem RwV.take {G : Hp} : ∀ {rs : List V} {ts : List (List Nat)} (i : Nat), RwV G rs ts → RwV G (rs.take i) (ts.take i)
  | _, _, 0, _ => .nil
  | _, _, _ + 1, .nil => .nil
  | _, _, i + 1, .cons h r => .cons h (RwV.take i r)
def spTR : Sp := fun vs H Q _ => ∃ (s : Addr) (B : Nat), vs = [.ref s] ∧ Src H s B ∧ B ≤ 700000 ∧
  ∀ H' p (rs : List V) (ts : List (List Nat)), Drew s (B + 2000) H H' → H p = none → H' p = some (.lst rs) → RwV (hide s H') rs ts → TurnsOk ts → Q (.ref p) H'
theorem RwV.keep {G G' : Hp} {rs : List V} {ts : List (List Nat)} (h : RwV G rs ts) (k : ∀ q o, G q = some o → V.ref q ∈ rs → G' q = some o) : RwV G' rs ts := h.map fun q t m hq => k q _ hq m
theorem nats_perm {xs : List V} {t : List Nat} (h : xs.Perm (nats t)) : ∃ u, xs = nats u ∧ u.Perm t := by
  let un : V → Nat := fun v => match v with
    | .int i => i.toNat
    | _ => 0
  have back : ∀ x ∈ xs, ∃ n : Nat, x = V.int (n : Int) := fun x hx => by
    obtain ⟨z, _, e⟩ := List.mem_map.mp (h.mem_iff.mp hx)
    exact ⟨z, e.symm⟩
  refine ⟨xs.map un, ?_, ?_⟩
  · show xs = (xs.map un).map _
    rw [List.map_map]
    have : xs.map ((fun x : Nat => V.int (x : Int)) ∘ un) = xs.map id := List.map_congr_left fun x hx => by
      obtain ⟨n, rfl⟩ := back x hx
      rfl
    rw [this, List.map_id]
  · have := h.map un
    rw [List.map_map] at this
    have e : t.map (un ∘ fun x : Nat => V.int (x : Int)) = t := by
      have : t.map (un ∘ fun x : Nat => V.int (x : Int)) = t.map id := List.map_congr_left fun x _ => by
        show ((x : Int)).toNat = x
        omega
      rw [this, List.map_id]
    rwa [e] at this
theorem ok_tr {f fK : Addr} {fd fdK : FuncData} {k : Nat} (F : Fun K "_law_turn_rows" "_law_turn_rows" sTR f fd)
    (GK : FnOk P w K mg base CX0 k fK fdK ["source", "count"] spPick) (FK : Fun K "_law_pick" "_law_pick" sPick fK fdK) (bK : Binds K fdK ["source", "count"] []) (gK : mg "_law_pick" = some (.ref fK))
    (mRange : mg "range" = none) (mList : mg "list" = none) (mLen : mg "len" = none) (mMax : mg "max" = none) : FnOk P w K mg base CX0 (k + 1) f fd ["source"] spTR := by
  refine F.ok scTR (fun vs H Q E h => ?_) (fun cdv A outer s0 H vs Q E hr h => ?_)
  · obtain ⟨s, B, rfl, _⟩ := h
    rfl
  · obtain ⟨s, B, rfl, hS, hB, q⟩ := h
    refine ⟨_, (pss_cons (ps_set (i := 1) scTR.nd rfl (.inl rfl) (pe_ix ix_list (pe_lst (pa_cons (pe_op op_add pe_int (pe_call GK hr (by rfl) gK FK.kp bK .nil pass0 (pa_cons (pv 0) (pa_cons pe_int pa_nil)))) (pa_cons (pe_op op_add pe_int (pe_call GK hr (by rfl) gK FK.kp bK .nil pass0 (pa_cons (pv 0) (pa_cons pe_int pa_nil)))) (pa_cons pe_int pa_nil)))) (pe_call GK hr (by rfl) gK FK.kp bK .nil pass0 (pa_cons (pv 0) (pa_cons pe_int pa_nil))) (fun _ _ => rfl)))
      (pss_cons (ps_set (i := 2) scTR.nd rfl (.inl rfl) (pe_ix ix_list (pe_lst (pa_cons pe_int (pa_cons pe_int (pa_cons pe_int (pa_cons pe_int (pa_cons pe_int pa_nil)))))) (pe_call GK hr (by rfl) gK FK.kp bK .nil pass0 (pa_cons (pv 0) (pa_cons pe_int pa_nil))) (fun _ _ => rfl)))
      (pss_cons (ps_set (i := 3) scTR.nd rfl (.inl rfl) (pe_lst pa_nil))
      (pss_cons (ps_for PassesOwn.never rfl (pi_range1 (by rfl) mRange (pa_cons (pv 1) pa_nil)) (pg_name (i := 4) scTR.nd rfl (Or.inl rfl))
      (pss_cons (ps_set (i := 5) scTR.nd rfl (.inr rfl) (pe_listRg rfl (by rfl) mList (prg_1 (by rfl) mRange pe_int)))
      (pss_one (ps_expr (pe_bm PySem.F.plainAttrs_list PySem.F.slot_list_append PySem.F.type_list_append mt_append (pv 3) (pa_cons (pe_lc (own := [("spin", 6)]) (g := gName 6) (tt := tYes) (te := tBM K "list" rPopAt (tVar 5) (tCons (tCall spPick [] E0 (tCons (tVar 0) (tCons (tCB (rLenS K) (tCons (tVar 5) tNil)) tNil))) tNil)) rfl scTR.nd (pi_range1 (by rfl) mRange (pa_cons (pe_call GK hr (by rfl) gK FK.kp bK .nil pass0 (pa_cons (pv 0) (pa_cons (pe_op op_add (pv 2) pe_int) pa_nil))) pa_nil)) (blkOk_by (N := ["source", "count", "most", "found", "k", "left", "spin"]) (sc := defScope sTR) (by decide +kernel)) (fun _ _ _ _ _ => pg_name (i := 6) scTR.nd rfl (Or.inl rfl)) (fun _ _ _ _ _ => pts_nil) (fun _ _ _ _ _ => (pe_bm PySem.F.plainAttrs_list PySem.F.slot_list_pop PySem.F.type_list_pop mt_popAt (pv 5) (pa_cons (pe_call GK hr (by rfl) gK FK.kp bK .nil pass0 (pa_cons (pv 0) (pa_cons (pe_callB call_len_seq (by rfl) mLen boot_len (pa_cons (pv 5) pa_nil)) pa_nil))) pa_nil)))) pa_nil))))))
      (pss_one (ps_ret (pe_slice sl_list (pv 3) po_none (po_some (pe_callB (call_max2 rfl) (by rfl) mMax boot_max (pa_cons pe_int (pa_cons (pe_op op_fdiv pe_int (pe_op op_add (pe_op op_mul pe_int (pv 2)) pe_int)) pa_nil))))))))))), ?_⟩
    have src0 := hS.at
    -- count
    refine ⟨.ref s, rfl, s, 3, B, rfl, hS, by omega, by decide, by decide, fun H1 r1 d1 r10 r11 => ⟨1, r1, rfl, rfl, .ref s, rfl, s, 40, B + 1, rfl, d1.src, by omega, by decide, by decide, fun H2 r2 d2 r20 r21 => ⟨1, r2, rfl, rfl, show 3 ≤ sizeLine by decide, fun p3 hp3 => ?_⟩⟩⟩
    have D2 := d1.trans d2
    have D3 := D2.ex (Ex.new (o := .lst [.int (1 + r1), .int (1 + r2), .int 40]) hp3)
    have n3 : p3 ≠ s := new_apart D2.src.at hp3
    refine ⟨.ref s, rfl, s, 3, B + 1 + 1, rfl, D3.src, by omega, by decide, by decide, fun H4 r4 d4 r40 r41 => ?_⟩
    obtain ⟨c, hc, c1, c40⟩ : ∃ c : Nat, ([.int (1 + r1), .int (1 + r2), .int 40] : List V)[r4.toNat]? = some (.int (c : Int)) ∧ 1 ≤ c ∧ c ≤ 40 := by
      have : r4.toNat < 3 := by omega
      match r4.toNat, this with
      | 0, _ => exact ⟨(1 + r1).toNat, congrArg (fun z => some (V.int z)) (by omega), by omega, by omega⟩
      | 1, _ => exact ⟨(1 + r2).toNat, congrArg (fun z => some (V.int z)) (by omega), by omega, by omega⟩
      | 2, _ => exact ⟨40, rfl, by decide, by decide⟩
    refine ⟨p3, _, r4, .int (c : Int), rfl, rfl, sq_of (d4.get n3 upd_same), by rw [show r4 = (r4.toNat : Int) by omega]; exact atI_nat hc, ?_⟩
    dsimp only [gName]
    have D4 := D3.trans d4
    -- most
    refine ⟨show 5 ≤ sizeLine by decide, fun p5 hp5 => ⟨.ref s, rfl, s, 5, B + 1 + 1 + 1, rfl, (D4.ex (Ex.new hp5)).src, by omega, by decide, by decide, fun H6 r6 d6 r60 r61 => ?_⟩⟩
    have n5 : p5 ≠ s := new_apart D4.src.at hp5
    have D6 := (D4.ex (Ex.new hp5)).trans d6
    obtain ⟨m, hm, m40⟩ : ∃ m : Nat, ([.int 0, .int 1, .int 3, .int 9, .int 40] : List V)[r6.toNat]? = some (.int (m : Int)) ∧ m ≤ 40 := by
      have : r6.toNat < 5 := by omega
      match r6.toNat, this with
      | 0, _ => exact ⟨0, rfl, by decide⟩
      | 1, _ => exact ⟨1, rfl, by decide⟩
      | 2, _ => exact ⟨3, rfl, by decide⟩
      | 3, _ => exact ⟨9, rfl, by decide⟩
      | 4, _ => exact ⟨40, rfl, by decide⟩
    refine ⟨p5, _, r6, .int (m : Int), rfl, rfl, sq_of (d6.get n5 upd_same), by rw [show r6 = (r6.toNat : Int) by omega]; exact atI_nat hm, ?_⟩
    dsimp only [gName]
    -- found
    refine q_asgL (xs := []) (el_lst ea_nil (Nat.zero_le _)) fun Fa H7 hFa e7 h7 => ?_
    have D7 := D6.ex e7
    have hF0 : H Fa = none := D6.none src0 hFa
    have nFs : Fa ≠ s := new_apart D6.src.at hFa
    refine q_forR1 (n := (c : Int)) (ea_cons (ev_var rfl) ea_nil) ⟨by omega, by omega⟩
      (fun i σ' H' => Drew s (B + 10 + 42 * i) H H' ∧ (∃ (rs : List V) (ts : List (List Nat)), H' Fa = some (.lst rs) ∧ RwV (hide s H') rs ts ∧ ts.length = i ∧ (∀ t ∈ ts, TurnOk t) ∧ ∀ q, V.ref q ∈ rs → q ≠ Fa) ∧ ∃ y4 y5 y6, σ' = [some (.ref s), some (.int (c : Int)), some (.int (m : Int)), some (.ref Fa), y4, y5, y6])
      (fun H8 e8 => ⟨(D7.ex e8).mono (by omega), ⟨[], [], e8 _ _ h7, .nil, rfl, (fun t ht => nomatch ht), fun q h => nomatch h⟩, _, _, _, rfl⟩) ?_ ?_
    · rintro i σ' H8 hi ⟨d8, ⟨rs, ts, hF8, rw8, tl8, tok8, nf8⟩, y4, y5, y6, rfl⟩
      have hic : i < c := by omega
      refine q_asgL (xs := (List.range 40).map fun x : Nat => V.int (x : Int)) (el_rg (n := 40) ev_c (by decide)) fun L H9 hL e9 h9 => ?_
      have D9 := d8.ex e9
      have hL0 : H L = none := d8.none src0 hL
      have nLs : L ≠ s := new_apart d8.src.at hL
      have hF9 := e9 _ _ hF8
      have nFL : Fa ≠ L := ne_of_none hF8 hL
      refine ⟨.ref Fa, rfl, .inl ⟨rfl, _, sq_of hF9⟩, ?_⟩
      refine ⟨.ref s, rfl, .int (m : Int), rfl, (m : Int), 1, rfl, rfl, s, (m : Int) + 1, B + 10 + 42 * i, rfl, D9.src, by omega, by omega, by omega, fun H10 r10 d10 r100 r101 => ?_⟩
      have D10 := D9.trans d10
      have hL10 := d10.get nLs h9
      have rw10 : RwV (hide s H10) rs ts := (rw8.ex (hide_ex e9)).ex d10.kept
      have hF10 := d10.get nFs hF9
      refine ⟨r10, rfl, by omega, by omega, fun D hD => ?_⟩
      have hD0 : H D = none := D10.none src0 hD
      have nDs : D ≠ s := new_apart D10.src.at hD
      have nDL : D ≠ L := (ne_of_none hL10 hD).symm
      have nDF : D ≠ Fa := (ne_of_none hF10 hD).symm
      refine lc_range (lo := 0) (n := r10.toNat) (fun j Hh => ∃ l acc, Hh L = some (.lst l) ∧ Hh D = some (.lst acc) ∧ (acc ++ l).Perm (nats (List.range 40)) ∧ acc.length = j ∧ Hh Fa = some (.lst rs) ∧ (∀ q o, V.ref q ∈ rs → hide s H10 q = some o → hide s Hh q = some o) ∧ Drew s (B + 10 + 42 * i + 1 + j) H Hh) ?_ ?_ ?_
      · exact ⟨_, [], by rw [upd_ne nDL.symm]; exact hL10, upd_same, List.Perm.refl _, rfl, by rw [upd_ne nDF.symm]; exact hF10, fun q o _ hq => hide_ex (Ex.new hD) _ _ hq, D10.mut src0 hD0⟩
      · rintro j Hh hj ⟨l, acc, hl1, hD1, pm, len2, hFh, keep, dr⟩
        have ll : acc.length + l.length = 40 := by rw [← List.length_append, pm.length_eq]; rfl
        have hj40 : j < r10.toNat := hj
        have l41 : r10 ≤ 40 := by omega
        refine ⟨rfl, ?_⟩
        dsimp only [tYes]
        rw [if_pos rfl]
        refine ⟨.ref L, rfl, .inl ⟨rfl, _, sq_of hl1⟩, .ref s, rfl, .ref L, rfl, L, l, rfl, .inl (sq_of hl1), s, (l.length : Int), B + 10 + 42 * i + 1 + j, rfl, dr.src, by omega, by omega, by omega, fun H11 r dr2 r0 r1 => ?_⟩
        have hl2 : H11 L = some (.lst l) := dr2.get nLs hl1
        have hD2 : H11 D = some (.lst acc) := dr2.get nDs hD1
        have lt : r.toNat < l.length := by omega
        have er : r = (r.toNat : Int) := by omega
        refine ⟨L, l, r, r.toNat, l[r.toNat], rfl, rfl, hl2, by omega, by omega, (ixN_seq (by rw [er]; exact ixN_nat lt)).1, List.getElem?_eq_getElem lt, acc, ?_, ?_, ?_⟩
        · rw [upd_ne nDL]
          exact hD2
        · exact sz_lt (by omega)
        · refine ⟨l.eraseIdx r.toNat, acc ++ [l[r.toNat]], ?_, upd_same, (perm_pop' acc (List.getElem?_eq_getElem lt)).trans pm, ?_, ?_, fun q o hq ho => ?_, ((dr.trans dr2).mut src0 hL0).mut src0 hD0⟩
          · rw [upd_ne nDL.symm]
            exact upd_same
          · rw [List.length_append, len2]
            rfl
          · rw [upd_ne nDF.symm, upd_ne nFL]
            exact dr2.get nFs hFh
          · obtain ⟨q1, q2⟩ := hide_of (keep q o hq ho)
            have hq10 := (hide_of ho).2
            obtain ⟨q', t', eq', _, hq8⟩ := rw8.refs _ hq
            cases eq'
            have nqL : q ≠ L := ne_of_none (hide_of hq8).2 hL
            have nqD : q ≠ D := ne_of_none hq10 hD
            rw [hide_ne q1, upd_ne nqD, upd_ne nqL]
            exact dr2.get q1 q2
      · rintro Hh ⟨l, acc, hl1, hD1, pm, len2, hFh, keep, dr⟩
        obtain ⟨u, eu, pu⟩ := nats_perm pm
        have ea : acc = nats (u.take acc.length) := by
          have := congrArg (List.take acc.length) eu
          rw [List.take_left] at this
          exact this.trans List.map_take.symm
        have sub := List.take_sublist acc.length u
        have rl := rw8.len
        have tok : TurnOk (u.take acc.length) := ⟨by rw [List.length_take, pu.length_eq, List.length_range]; omega, fun x hx => List.mem_range.mp (pu.mem_iff.mp (sub.subset hx)), (pu.nodup_iff.mpr List.nodup_range).sublist sub⟩
        refine ⟨Fa, rs, .ref D, rfl, rfl, hFh, sz_lt (by omega), (dr.mut src0 hF0).mono (by omega), ⟨rs ++ [.ref D], ts ++ [u.take acc.length], upd_same, ?_, by rw [List.length_append, tl8]; rfl, fun t ht => ?_, fun q' hq' => ?_⟩, _, _, _, rfl⟩
        · refine RwV.snoc ?_ (rw10.map fun q' t' m' hq' => ?_)
          · rw [hide_ne nDs, upd_ne nDF, ← ea]
            exact hD1
          · obtain ⟨a1, a2⟩ := hide_of (keep q' _ m' hq')
            rw [hide_ne a1, upd_ne (nf8 q' m')]
            exact a2
        · rcases List.mem_append.mp ht with ht | ht
          · exact tok8 t ht
          · rw [List.mem_singleton.mp ht]
            exact tok
        · rcases List.mem_append.mp hq' with h | h
          · exact nf8 q' h
          · rw [V.ref.inj (List.mem_singleton.mp h)]
            exact nDF
    · rintro σ' H8 ⟨d8, ⟨rs, ts, hF8, rw8, tl8, tok8, nf8⟩, y4, y5, y6, rfl⟩
      rw [Int.toNat_natCast] at tl8 d8
      obtain ⟨z, hz, z1⟩ : ∃ z : Nat, (if (3900 : Int) / (3 * (m : Int) + 3) > 1 then (3900 : Int) / (3 * (m : Int) + 3) else 1) = (z : Int) ∧ 1 ≤ z := by
        split
        · exact ⟨((3900 : Int) / (3 * (m : Int) + 3)).toNat, by omega, by omega⟩
        · exact ⟨1, rfl, by omega⟩
      have rl := rw8.len
      refine s_retL (xs := cutV rs none (some (z : Int))) (el_sl (ev_var rfl) eo_none (eo_some (ev_is (ev_max ev_c (ev_op ev_c (ev_op (ev_op ev_c (ev_var rfl) (rv_I (.inl (by decide)))) ev_c rv_I0) (rv_I ⟨by omega, by omega⟩))) (congrArg V.int hz))) (sq_of hF8)) fun p H9 hp e9 h9 => ?_
      have ecut : cutV rs none (some (z : Int)) = rs.take z := by
        unfold cutV
        rw [HT.sIx_none, HT.sIx_nat, List.drop_zero, Nat.sub_zero]
        by_cases h : z ≤ rs.length
        · rw [Nat.min_eq_left h]
        · rw [Nat.min_eq_right (by omega), List.take_length, List.take_of_length_le (by omega)]
      rw [ecut] at h9
      have tw := (rw8.ex (hide_ex e9)).take z
      refine q H9 p _ _ ((d8.ex e9).mono (by omega)) (d8.none src0 hp) h9 tw ⟨?_, ?_, fun t ht => tok8 t (List.mem_of_mem_take ht)⟩
      · intro h
        have := congrArg List.length h
        rw [List.length_take] at this
        have h0 : min z ts.length = 0 := this
        omega
      · rw [List.length_take]
        omega
end
end K92
namespace K92
open PySem PySem.Spec PyProof.Rows L2 Os Evl
abbrev sER : Stmt := topS 27
theorem scER : FnScope ["pairs", "page", "handed", "found", "again", "one", "two"] ["pairs"] (defScope sER) := ⟨rfl, rfl, rfl, by decide +kernel, rfl, by decide +kernel, by decide +kernel⟩
abbrev sRR : Stmt := topS 28
theorem scRR : FnScope ["rows", "lines", "row", "page", "kept", "found", "again", "k", "spot"] ["rows"] (defScope sRR) := ⟨rfl, rfl, rfl, by decide +kernel, rfl, by decide +kernel, by decide +kernel⟩
theorem rev1 (v : V) : revV [] [v] = [v] := rfl
theorem plain_prs (j : Nat) (es : List Pr) (h : es.length ≤ 1000) : Plain (j + 3) (.list (es.map Os.prD)) := plain_list (by rw [List.length_map]; exact h) fun d hd => by
  obtain ⟨e, _, rfl⟩ := List.mem_map.mp hd
  exact plain_tup (by show 2 ≤ 1000; decide) fun x hx => by
    rcases List.mem_cons.mp hx with rfl | hx
    · exact plain_int j _
    · rw [List.mem_singleton.mp hx]
      exact plain_int j _
abbrev rowsD (ts : List (List Nat)) : List PyData := ts.map fun t => .list (natsD t)
theorem plain_rows (j : Nat) {ts : List (List Nat)} (ok : TurnsOk ts) : Plain (j + 3) (.list (rowsD ts)) := plain_list (by rw [List.length_map]; have := ok.few; omega) fun d hd => by
  obtain ⟨t, ht, rfl⟩ := List.mem_map.mp hd
  exact plain_list (by rw [List.length_map]; have := (ok.ok t ht).few; omega) fun x hx => by
    obtain ⟨n, _, rfl⟩ := List.mem_map.mp hx
    exact plain_int j _
theorem sh_nats (n : Nat) (c : List Nat) : Sh (n + 1) (.list (natsD c)) := .lst fun d hd => by
  obtain ⟨x, _, rfl⟩ := List.mem_map.mp hd
  exact .int n _
theorem sh_rows (ts : List (List Nat)) : Sh 2 (.list (rowsD ts)) := .lst fun d hd => by
  obtain ⟨t, _, rfl⟩ := List.mem_map.mp hd
  exact sh_nats 0 t
theorem lim_rows {ts : List (List Nat)} (ok : TurnsOk ts) : Fit sizeLine (.list (rowsD ts)) := (Lim.lst (L := 4083) (D := 1) (m := 40) (fun d hd => by
  obtain ⟨t, ht, rfl⟩ := List.mem_map.mp hd
  have tok := ok.ok t ht
  exact (Lim.lst (L := 100) (D := 0) (m := 40) (fun x hx => by
    obtain ⟨n, hn, rfl⟩ := List.mem_map.mp hx
    exact .int (by have := tok.inn n hn; omega)) (by rw [List.length_map]; exact tok.few)).mono (by decide) (by decide)) (by rw [List.length_map]; exact ok.few)).fit (by decide) (by decide)
section
variable {P : Program} {w : World} {K : PySem.W.Frag} {mg : Str → Option Value} {base : Heap}
def spER : Sp := fun vs H Q _ => ∃ (a : Addr) (xs : List V) (es : List Pr), vs = [.ref a] ∧ H a = some (.lst xs) ∧ PrsV H xs es ∧ EdgesOk es ∧ ∀ H', Ex H H' → Q (.bl true) H'
theorem ok_er {f fS fW fR : Addr} {fd fdS fdW fdR : FuncData} {k : Nat} (F : Fun K "_law_edges_right" "_law_edges_right" sER f fd)
    (GS : FnOk P w K mg base CX0 k fS fdS ["found", "due"] (spSame 5)) (FS : Fun K "_law_same" "_law_same" sSame fS fdS) (bS : Binds K fdS ["found", "due"] []) (gS : mg "_law_same" = some (.ref fS))
    (GW : FnOk P w K mg base CX0 k fW fdW ["edges"] spWE) (FW : Fun K "write_edges" "write_edges" sWE fW fdW) (bW : Binds K fdW ["edges"] []) (kW : KBinds K fdW ["edges"] ["edges"] revG revV) (gW : mg "write_edges" = some (.ref fW))
    (GR : FnOk P w K mg base CX0 k fR fdR ["text"] spRE) (FR : Fun K "read_edges" "read_edges" sRE fR fdR) (bR : Binds K fdR ["text"] []) (kR : KBinds K fdR ["text"] ["text"] revG revV) (gR : mg "read_edges" = some (.ref fR))
    (mLen : mg "len" = none) (mList : mg "list" = none) (mStr : mg "str" = none) : FnOk P w K mg base CX0 (k + 1) f fd ["pairs"] spER := by
  refine F.ok scER (fun vs H Q E h => ?_) (fun cdv A outer s H vs Q E hr h => ?_)
  · obtain ⟨a, xs, es, rfl, _⟩ := h
    rfl
  · obtain ⟨a, xs, es, rfl, ha, hp, ok, q⟩ := h
    refine ⟨_, (pss_cons (ps_set (i := 1) scER.nd rfl (.inl rfl) (pe_ifExp (pt_cmpR op_gt (pe_callB call_len_seq (by rfl) mLen boot_len (pa_cons (pv 0) pa_nil)) pe_int (nomark _)) (pe_join pe_str (pe_lc (own := [("one", 5), ("two", 6)]) (g := gTup K 2 (gCons (gName 5) (gCons (gName 6) gNil))) (tt := tYes) rfl scER.nd (pi_list (pv 0)) (blkOk_by (N := ["pairs", "page", "handed", "found", "again", "one", "two"]) (sc := defScope sER) (by decide +kernel)) (fun _ _ _ _ _ => pg_tup rfl (pgs_cons (pg_name (i := 5) scER.nd rfl (Or.inl rfl)) (pgs_cons (pg_name (i := 6) scER.nd rfl (Or.inl rfl)) pgs_nil))) (fun _ _ _ _ _ => pts_nil) (fun _ _ _ _ _ => (pe_op op_add_str (pe_op op_add_str (pe_callTy call_str_int (by rfl) mStr boot_str (pa_cons (pv 5) pa_nil)) pe_str) (pe_callTy call_str_int (by rfl) mStr boot_str (pa_cons (pv 6) pa_nil)))))) pe_str))
      (pss_cons (ps_set (i := 2) scER.nd rfl (.inl rfl) (pe_callTy call_list_of (by rfl) mList boot_list (pa_cons (pv 0) pa_nil)))
      (pss_cons (ps_if (pt_not (pt_val (pe_call GS hr (by rfl) gS FS.kp bS .nil pass0 (pa_cons (pe_lst (pa_cons (pe_call GW hr (by rfl) gW FW.kp bW .nil pass0 (pa_cons (pv 2) pa_nil)) (pa_cons (pe_callK0 GW hr (by rfl) gW FW.kp kW pass0 (pk_cons (pv 2) pk_nil)) (pa_cons (pv 2) pa_nil)))) (pa_cons (pe_lst (pa_cons (pv 1) (pa_cons (pv 1) (pa_cons (pv 0) pa_nil)))) pa_nil))))) pss_never pss_nil)
      (pss_cons (ps_expr (pe_bm PySem.F.plainAttrs_list PySem.F.slot_list_append PySem.F.type_list_append mt_append (pv 2) (pa_cons (pe_tup (pa_cons pe_int (pa_cons pe_int pa_nil))) pa_nil)))
      (pss_cons (ps_par (i := 3) (j := 4) rfl scER.nd rfl rfl (by decide) rfl rfl (pa_cons (pe_call GR hr (by rfl) gR FR.kp bR .nil pass0 (pa_cons (pv 1) pa_nil)) (pa_cons (pe_callK0 GR hr (by rfl) gR FR.kp kR pass0 (pk_cons (pv 1) pk_nil)) pa_nil)) (by rfl))
      (pss_cons (ps_if (pt_not (pt_val (pe_call GS hr (by rfl) gS FS.kp bS .nil pass0 (pa_cons (pe_lst (pa_cons (pv 3) (pa_cons (pv 4) pa_nil))) (pa_cons (pe_lst (pa_cons (pv 0) (pa_cons (pv 0) pa_nil))) pa_nil))))) pss_never pss_nil)
      (pss_cons (ps_expr (pe_bm0 PySem.F.plainAttrs_list PySem.F.slot_list_clear PySem.F.type_list_clear mt_clear (pv 3)))
      (pss_one (ps_ret (pe_and (pe_cmpR (op_eqD hr.units) (pv 4) (pv 0) (nomark _)) (pe_and (pe_cmpR (op_eqD hr.units) (pe_call GR hr (by rfl) gR FR.kp bR .nil pass0 (pa_cons (pv 1) pa_nil)) (pv 0) (nomark _)) (pe_one (pe_cmpR op_eq (pe_call GW hr (by rfl) gW FW.kp bW .nil pass0 (pa_cons (pv 4) pa_nil)) (pv 1) (nomark _)))))))))))))), ?_⟩
    have few := ok.few
    have lx := hp.length
    have sh := sh_prs' es
    have pl : ∀ j, Plain (j + 3) (.list (es.map Os.prD)) := fun j => plain_prs j es (by omega)
    have dt : ∀ {G : Hp} {p : Addr} {ys : List V}, G p = some (.lst ys) → PrsV G ys es → Dt G (.ref p) (.list (es.map Os.prD)) := fun h h2 => .lst h h2.dts
    -- page, handed
    refine q_asg (v := .str (pageE es)) (ev_if (b := decide ((0 : Int) < (xs.length : Int))) (et_test (ev_op (ev_len' (ev_var rfl) ha) ev_c rv_I0)) (fun h => ?_) fun h => ?_) fun H1 e1 => ?_
    · have ne : es ≠ [] := fun z => by
        subst z
        have h2 := of_decide_eq_true h
        rw [lx] at h2
        exact absurd h2 (by decide)
      have pg : pageE es = page (es.map edgeS) := if_neg ne
      rw [pg]
      refine ev_joinL len_sp ev_c ?_ ok.words
      rw [List.map_map]
      refine el_lcPr (V.str ∘ edgeS) rfl (ev_var rfl) ha hp (by omega) (fun _ _ => rfl) fun e H2 e2 he => ?_
      have ie := ok.inn e he
      have s1 : (Str.ofString (toString ((e.1 : Nat) : Int))).length ≤ 2 := (num_of (show e.1 < 40 by omega)).short
      have s2 : (Str.ofString (toString ((e.2 : Nat) : Int))).length ≤ 2 := (num_of ie.2).short
      have e3 : ("-" : Str).length = 1 := by decide
      exact ev_is (ev_op (ev_op (ev_strI (ev_var rfl) (by omega)) ev_c (rv_addS' (by rw [e3]; omega))) (ev_strI (ev_var rfl) (by omega)) (rv_addS' (by rw [strLen_append, e3]; omega))) (congrArg V.str (edgeS_eq e).symm)
    · have em : es = [] := by
        have h2 := of_decide_eq_false h
        exact List.length_eq_zero_iff.mp (by omega)
      subst em
      exact ev_c
    refine q_asgL (xs := xs) (el_list (ev_var rfl) (sq_of (e1 _ _ ha))) fun L H2 hL e2 h2 => ?_
    have e12 := e1.trans e2
    have hp2 := hp.ex e12
    have wri : ∀ {G H' : Hp} {p : Addr} {ys : List V} {Q : VK}, Ex G H' → G p = some (.lst ys) → PrsV G ys es → (∀ H2, Ex H' H2 → Q (.str (pageE es)) H2) → spWE [.ref p] H' Q E0 := fun e h h2 q => ⟨_, _, es, rfl, e _ _ h, h2.ex e, ok, q⟩
    refine q_when (b := !true) (et_not (et_B (ev_same (ea_cons (ev_sp (ea_cons (ev_var rfl) ea_nil) fun H5 e5 Q q => wri e5 h2 hp2 q) (ea_cons (ev_spK (ea_cons (ev_var rfl) ea_nil) (rev1 _) fun H5 e5 Q q => wri e5 h2 hp2 q) (ea_cons (ev_var rfl) ea_nil)))
      (ea_cons (ev_var rfl) (ea_cons (ev_var rfl) (ea_cons (ev_var rfl) ea_nil))) (.cons (.str _) (.cons (.str _) (.cons (dt h2 hp2) .nil))) (.cons (.str _) (.cons (.str _) (.cons (dt (e12 _ _ ha) hp2) .nil)))
      (plain_list (by show 3 ≤ 1000; decide) fun d hd => by
        rcases List.mem_cons.mp hd with rfl | hd
        · exact plain_str _ _
        · rcases List.mem_cons.mp hd with rfl | hd
          · exact plain_str _ _
          · rw [List.mem_singleton.mp hd]
            exact pl 1) (by show 3 ≤ 1000; decide)))) (fun h => nomatch h) fun _ H3 e3 => ?_
    refine q_appU (xs := xs) (e3 _ _ h2) (ev_var rfl) (eu_tup (ea_cons ev_c (ea_cons ev_c ea_nil)) (by show 2 ≤ 100000; decide)) (by omega) fun t H4' ht e4' h4' => ?_
    have hL0 : H L = none := fresh_back e1 hL
    have x4 : Ex H (upd H4' L (.lst (xs ++ [.ref t]))) := ((e12.trans e3).trans e4').mut hL0
    generalize upd H4' L (.lst (xs ++ [.ref t])) = H4 at x4
    -- found, again
    refine ⟨.str (pageE es), rfl, es, rfl, ok, fun H5 fo ys e5 hfo h5 p5 => ⟨.str (pageE es), rfl, es, rfl, ok, fun H6 ag zs e6 hag h6 p6 => ⟨_, _, rfl, ?_⟩⟩⟩
    have x6 := (x4.trans e5).trans e6
    refine q_when (b := !true) (et_not (et_B (ev_same (ea_cons (ev_var rfl) (ea_cons (ev_var rfl) ea_nil)) (ea_cons (ev_var rfl) (ea_cons (ev_var rfl) ea_nil)) (.cons (dt (e6 _ _ h5) (p5.ex e6)) (.cons (dt h6 p6) .nil)) (.cons (dt (x6 _ _ ha) (hp.ex x6)) (.cons (dt (x6 _ _ ha) (hp.ex x6)) .nil))
      (plain_list (by show 2 ≤ 1000; decide) fun d hd => by
        rcases List.mem_cons.mp hd with rfl | hd
        · exact pl 1
        · rw [List.mem_singleton.mp hd]
          exact pl 1) (by show 2 ≤ 1000; decide)))) (fun h => nomatch h) fun _ H7 e7 => ?_
    have x7 := x6.trans e7
    have fo0 : H fo = none := fresh_back x4 hfo
    have nag : ag ≠ fo := (ne_of_none h5 hag).symm
    refine q_clear (e7 _ _ (e6 _ _ h5)) (ev_var rfl) fun H9 e9 => ?_
    have x9 : Ex H (upd H9 fo (.lst [])) := (x7.trans e9).mut fo0
    have fo9 := e9 _ _ (e7 _ _ (e6 _ _ h5))
    have p9 : PrsV (upd H9 fo (.lst [])) zs es := (p6.ex (e7.trans e9)).put0 fo9
    have ag9 : upd H9 fo (.lst []) ag = some (.lst zs) := by
      rw [upd_ne nag]
      exact e9 _ _ (e7 _ _ h6)
    generalize upd H9 fo (.lst []) = G at x9 ag9 p9
    refine s_ret (v := .bl true) (ev_andV (a := true) (b := true) (ev_eqD (ev_var rfl) (ev_var rfl) (dt ag9 p9) (dt (x9 _ _ ha) (hp.ex x9)) sh (by decide)) fun _ => ev_andV (a := true) (b := true)
      (ev_eqDD (ed_sp (ea_cons (ev_var rfl) ea_nil) fun H5 e5 Q q => ⟨es, rfl, ok, fun H' p ws e' hp' h' p' => q _ H' e' (dt h' p')⟩) (ed_of (ev_var rfl) (dt (x9 _ _ ha) (hp.ex x9))) sh (by decide))
      fun _ => ev_is (ev_op (ev_sp (ea_cons (ev_var rfl) ea_nil) fun H5 e5 Q q => wri e5 ag9 p9 q) (ev_var rfl) (rv_eq rfl)) (congrArg V.bl (decide_eq_true rfl))) fun H10 e10 => q H10 (x9.trans e10)
def spRR : Sp := fun vs H Q _ => ∃ (a : Addr) (rs : List V) (ts : List (List Nat)), vs = [.ref a] ∧ H a = some (.lst rs) ∧ RwV H rs ts ∧ TurnsOk ts ∧ ∀ H', Ex H H' → Q (.bl true) H'
theorem ok_rr {f fS fW fR : Addr} {fd fdS fdW fdR : FuncData} {k : Nat} (F : Fun K "_law_rows_right" "_law_rows_right" sRR f fd)
    (GS : FnOk P w K mg base CX0 k fS fdS ["found", "due"] (spSame 5)) (FS : Fun K "_law_same" "_law_same" sSame fS fdS) (bS : Binds K fdS ["found", "due"] []) (gS : mg "_law_same" = some (.ref fS))
    (GW : FnOk P w K mg base CX0 k fW fdW ["turns"] spWT) (FW : Fun K "write_turns" "write_turns" sWT fW fdW) (bW : Binds K fdW ["turns"] []) (kW : KBinds K fdW ["turns"] ["turns"] revG revV) (gW : mg "write_turns" = some (.ref fW))
    (GR : FnOk P w K mg base CX0 k fR fdR ["text"] spRT) (FR : Fun K "read_turns" "read_turns" sRT fR fdR) (bR : Binds K fdR ["text"] []) (kR : KBinds K fdR ["text"] ["text"] revG revV) (gR : mg "read_turns" = some (.ref fR))
    (mLen : mg "len" = none) (mList : mg "list" = none) (mStr : mg "str" = none) (mRepr : mg "repr" = none) (mEnum : mg "enumerate" = none) (mRange : mg "range" = none) : FnG P w K mg base (k + 1) f fd ["rows"] spRR := by
  refine okG F scRR (fun vs H Q E h => ?_) (fun cdv A outer s H vs Q E gd hr h => ?_)
  · obtain ⟨a, rs, ts, rfl, _⟩ := h
    rfl
  · obtain ⟨a, rs, ts, rfl, ha, hw, ok, q⟩ := h
    refine ⟨_, (pss_cons (ps_set (i := 1) scRR.nd rfl (.inl rfl) (pe_lst pa_nil))
      (pss_cons (ps_for PassesOwn.never rfl (pi_list (pv 0)) (pg_name (i := 2) scRR.nd rfl (Or.inl rfl))
      (pss_one (ps_expr (pe_bm PySem.F.plainAttrs_list PySem.F.slot_list_append PySem.F.type_list_append mt_append (pv 1) (pa_cons (pe_ifExp (pt_cmpR op_eq (pe_callB call_len_seq (by rfl) mLen boot_len (pa_cons (pv 2) pa_nil)) pe_int (nomark _)) pe_str (pe_join pe_str (pe_lc (own := [("spot", 8)]) (g := gName 8) (tt := tYes) rfl scRR.nd (pi_list (pv 2)) (blkOk_by (N := ["rows", "lines", "row", "page", "kept", "found", "again", "k", "spot"]) (sc := defScope sRR) (by decide +kernel)) (fun _ _ _ _ _ => pg_name (i := 8) scRR.nd rfl (Or.inl rfl)) (fun _ _ _ _ _ => pts_nil) (fun _ _ _ _ _ => (pe_callTy call_str_int (by rfl) mStr boot_str (pa_cons (pv 8) pa_nil)))))) pa_nil)))))
      (pss_cons (ps_set (i := 3) scRR.nd rfl (.inl rfl) (pe_join pe_str (pv 1)))
      (pss_cons (ps_set (i := 4) scRR.nd rfl (.inl rfl) (pe_callB (call_repr gd hr.units) (by rfl) mRepr boot_repr (pa_cons (pv 0) pa_nil)))
      (pss_cons (ps_if (PW.pt (pw_or (pt_not (pt_val (pe_call GS hr (by rfl) gS FS.kp bS .nil pass0 (pa_cons (pe_lst (pa_cons (pe_call GW hr (by rfl) gW FW.kp bW .nil pass0 (pa_cons (pv 0) pa_nil)) (pa_cons (pe_callK0 GW hr (by rfl) gW FW.kp kW pass0 (pk_cons (pv 0) pk_nil)) pa_nil))) (pa_cons (pe_lst (pa_cons (pv 3) (pa_cons (pv 3) pa_nil))) pa_nil))))) (pw_or1 (pt_cmpR op_ne (pe_callB (call_repr gd hr.units) (by rfl) mRepr boot_repr (pa_cons (pv 0) pa_nil)) (pv 4) (nomark _))))) pss_never pss_nil)
      (pss_cons (ps_par (i := 5) (j := 6) rfl scRR.nd rfl rfl (by decide) rfl rfl (pa_cons (pe_call GR hr (by rfl) gR FR.kp bR .nil pass0 (pa_cons (pv 3) pa_nil)) (pa_cons (pe_callK0 GR hr (by rfl) gR FR.kp kR pass0 (pk_cons (pv 3) pk_nil)) pa_nil)) (by rfl))
      (pss_cons (ps_if (pt_not (pt_val (pe_call GS hr (by rfl) gS FS.kp bS .nil pass0 (pa_cons (pe_lst (pa_cons (pv 5) (pa_cons (pv 6) pa_nil))) (pa_cons (pe_lst (pa_cons (pv 0) (pa_cons (pv 0) pa_nil))) pa_nil))))) pss_never pss_nil)
      (pss_cons (ps_for PassesOwn.never rfl (pi_enum (by rfl) mEnum (pa_cons (pv 5) pa_nil)) (pg_tup rfl (pgs_cons (pg_name (i := 7) scRR.nd rfl (Or.inl rfl)) (pgs_cons (pg_name (i := 2) scRR.nd rfl (Or.inl rfl)) pgs_nil)))
      (pss_one (ps_expr (pe_bm PySem.F.plainAttrs_list PySem.F.slot_list_append PySem.F.type_list_append mt_append (pv 2) (pa_cons (pv 7) pa_nil)))))
      (pss_cons (ps_if (pt_cmpR (op_neD hr.units) (pe_lc (own := [("row", 2)]) (g := gName 2) (tt := tYes) (te := tOp (rIxL K) (tVar 2) (tUn (rU fun i => .int (-i)) (tC (.int 1)))) rfl scRR.nd (pi_list (pv 5)) (blkOk_by (N := ["rows", "lines", "row", "page", "kept", "found", "again", "k", "spot"]) (sc := defScope sRR) (by decide +kernel)) (fun _ _ _ _ _ => pg_name (i := 2) scRR.nd rfl (Or.inl rfl)) (fun _ _ _ _ _ => pts_nil) (fun _ _ _ _ _ => (pe_ix ix_list (pv 2) (pe_un un_neg pe_int) (fun _ _ => rfl)))) (pe_listRg rfl (by rfl) mList (prg_1 (by rfl) mRange (pe_callB call_len_seq (by rfl) mLen boot_len (pa_cons (pv 0) pa_nil)))) (nomark _)) pss_never pss_nil)
      (pss_cons (ps_expr (pe_bm0 PySem.F.plainAttrs_list PySem.F.slot_list_clear PySem.F.type_list_clear mt_clear (pv 5)))
      (pss_one (ps_ret (pe_and (pe_cmpR (op_eqD hr.units) (pv 6) (pv 0) (nomark _)) (pe_and (pe_cmpR (op_eqD hr.units) (pe_call GR hr (by rfl) gR FR.kp bR .nil pass0 (pa_cons (pv 3) pa_nil)) (pv 0) (nomark _)) (pe_one (pe_cmpR op_eq (pe_call GW hr (by rfl) gW FW.kp bW .nil pass0 (pa_cons (pv 6) pa_nil)) (pv 3) (nomark _))))))))))))))))), ?_⟩
    have few := ok.few
    have ln := hw.len
    have sh := sh_rows ts
    have pl : ∀ j, Plain (j + 3) (.list (rowsD ts)) := fun j => plain_rows j ok
    have dt : ∀ {G : Hp} {p : Addr} {ys : List V}, G p = some (.lst ys) → RwV G ys ts → Dt G (.ref p) (.list (rowsD ts)) := fun h h2 => .lst h h2.dts
    -- lines
    refine q_asgL (xs := []) (el_lst ea_nil (Nat.zero_le _)) fun L H1 hL e1 h1 => ?_
    refine q_forLn (j := 2) (xs := rs) (ev_var rfl) (sq_of (e1 _ _ ha)) (fun i σ' H' => Ex H H' ∧ H' L = some (.lst (((ts.take i).map lineS).map V.str)) ∧ ∃ y2 y3 y4 y5 y6 y7 y8, σ' = [some (.ref a), some (.ref L), y2, y3, y4, y5, y6, y7, y8])
      (fun H2 e2 => ⟨e1.trans e2, e2 _ _ h1, _, _, _, _, _, _, _, rfl⟩) (fun i σ' H' _ h => sq_of (h.1 _ _ ha)) ?_ ?_
    · rintro i x σ' H2 hx ⟨x2, hL2, y2, y3, y4, y5, y6, y7, y8, rfl⟩
      obtain ⟨p, t, rfl, ht, hpt⟩ := hw.get hx
      have tok := ok.ok t (List.mem_of_getElem? ht)
      have hpt2 := x2 _ _ hpt
      have len : (nats t).length = t.length := List.length_map ..
      have hi := (List.getElem?_eq_some_iff.mp hx).1
      refine s_app (v := .str (lineS t)) hL2 (ev_var rfl) (ev_if (b := decide (V.int ((nats t).length : Int) = V.int 0)) (et_test (ev_op (ev_len' (ev_var rfl) hpt2) ev_c (rv_eq rfl))) (fun h => ?_) fun h => ?_) (by rw [List.length_map, List.length_map, List.length_take]; omega) fun H3 e3 => ?_
      · have em : t = [] := by
          have h2 := V.int.inj (of_decide_eq_true h)
          exact List.length_eq_zero_iff.mp (by omega)
        subst em
        exact ev_c
      · have ne : t ≠ [] := fun z => by
          subst z
          exact of_decide_eq_false h rfl
        have pg : lineS t = page (t.map numS) := if_neg ne
        rw [pg]
        refine ev_joinL len_sp ev_c ?_ tok.words
        rw [List.map_map]
        exact el_lcMapL (xs := t) (fV := fun x : Nat => V.int (x : Int)) (V.str ∘ numS) (ev_var rfl) (sq_of hpt2) (by have := tok.few; omega) (fun _ => rfl) fun x H3 e3 hx => ev_strI (ev_var rfl) (by have := tok.inn x hx; omega)
      · refine ⟨(x2.trans e3).mut hL, ?_, _, _, _, _, _, _, _, rfl⟩
        rw [upd_same, List.take_add_one, ht]
        show some (HO.lst _) = some (HO.lst (((ts.take i ++ [t]).map lineS).map V.str))
        rw [List.map_append, List.map_append]
        rfl
    rintro σ' H2 ⟨x2, hL2, y2, y3, y4, y5, y6, y7, y8, rfl⟩
    rw [ln, List.take_length] at hL2
    -- page, kept
    refine q_asg (v := .str (pageT ts)) (ev_joinV len_nl ev_c (ev_var rfl) hL2 ok.words) fun H3 e3 => ?_
    have x3 := x2.trans e3
    refine q_asg (v := .str (PyData.list (rowsD ts)).shown) (ev_repr (ev_var rfl) (dt (x3 _ _ ha) (hw.ex x3)) (lim_rows ok)) fun H4 e4 => ?_
    have x4 := x3.trans e4
    have wri : ∀ {G H' : Hp} {p : Addr} {ys : List V} {Q : VK}, Ex G H' → G p = some (.lst ys) → RwV G ys ts → (∀ H2, Ex H' H2 → Q (.str (pageT ts)) H2) → spWT [.ref p] H' Q E0 := fun e h h2 q => ⟨_, _, ts, rfl, e _ _ h, h2.ex e, ok, q⟩
    have ha4 := x4 _ _ ha
    have hw4 := hw.ex x4
    refine q_when (b := false) (et_is (et_or (a := !true) (b := false) (et_not (et_B (ev_same (ea_cons (ev_sp (ea_cons (ev_var rfl) ea_nil) fun H5 e5 Q q => wri e5 ha4 hw4 q) (ea_cons (ev_spK (ea_cons (ev_var rfl) ea_nil) (rev1 _) fun H5 e5 Q q => wri e5 ha4 hw4 q) ea_nil))
      (ea_cons (ev_var rfl) (ea_cons (ev_var rfl) ea_nil)) (.cons (.str _) (.cons (.str _) .nil)) (.cons (.str _) (.cons (.str _) .nil))
      (plain_list (by show 2 ≤ 1000; decide) fun d hd => by
        rcases List.mem_cons.mp hd with rfl | hd
        · exact plain_str _ _
        · rw [List.mem_singleton.mp hd]
          exact plain_str _ _) (by show 2 ≤ 1000; decide)))) fun _ => et_test (ev_is (ev_op (ev_repr (ev_var rfl) (dt ha4 hw4) (lim_rows ok)) (ev_var rfl) (rv_ne rfl)) (congrArg V.bl (by rw [decide_eq_true rfl]; rfl)))) rfl) (fun h => nomatch h) fun _ H5 e5 => ?_
    have x5 := x4.trans e5
    -- found, again
    refine ⟨.str (pageT ts), rfl, ts, rfl, ok, fun H6 fo rf e6 hfo h6 w6 nd6 fr6 => ⟨.str (pageT ts), rfl, ts, rfl, ok, fun H7 ag ra e7 hag h7 w7 nd7 fr7 => ⟨_, _, rfl, ?_⟩⟩⟩
    have x7 := (x5.trans e6).trans e7
    refine q_when (b := !true) (et_not (et_B (ev_same (ea_cons (ev_var rfl) (ea_cons (ev_var rfl) ea_nil)) (ea_cons (ev_var rfl) (ea_cons (ev_var rfl) ea_nil)) (.cons (dt (e7 _ _ h6) (w6.ex e7)) (.cons (dt h7 w7) .nil)) (.cons (dt (x7 _ _ ha) (hw.ex x7)) (.cons (dt (x7 _ _ ha) (hw.ex x7)) .nil))
      (plain_list (by show 2 ≤ 1000; decide) fun d hd => by
        rcases List.mem_cons.mp hd with rfl | hd
        · exact pl 1
        · rw [List.mem_singleton.mp hd]
          exact pl 1) (by show 2 ≤ 1000; decide)))) (fun h => nomatch h) fun _ H8 e8 => ?_
    have x8 := x7.trans e8
    have f8 := e8 _ _ (e7 _ _ h6)
    have w8 := w6.ex (e7.trans e8)
    have lf := w6.len
    -- the rows of found grow
    have frH : ∀ q, V.ref q ∈ rf → H q = none ∧ q ≠ fo := fun q m => ⟨fresh_back x5 (fr6 q m).1, (fr6 q m).2⟩
    refine q_forEV (xs := rf) (ev_var rfl) (sq_of f8) (fun i σ' H' => (∀ b o, H8 b = some o → (V.ref b ∉ rf) → H' b = some o) ∧ (∀ j r, rf[j]? = some r → ∃ q t, r = .ref q ∧ ts[j]? = some t ∧ H' q = some (.lst (nats t ++ if j < i then [.int (j : Int)] else []))) ∧ ∃ y2 y7 y8, σ' = [some (.ref a), some (.ref L), y2, some (.str (pageT ts)), some (.str (PyData.list (rowsD ts)).shown), some (.ref fo), some (.ref ag), y7, y8])
      (fun H9 e9 => ⟨fun b o h _ => e9 _ _ h, fun j r hj => ?_, _, _, _, rfl⟩) (fun i σ' H' h => sq_of (h.1 _ _ f8 fun m => (frH fo m).2 rfl)) ?_ ?_
    · obtain ⟨p, t, rfl, ht, hpt⟩ := w8.get hj
      refine ⟨p, t, rfl, ht, ?_⟩
      rw [if_neg (Nat.not_lt_zero j), List.append_nil]
      exact e9 _ _ hpt
    · rintro i x σ' H9 H10 hx ⟨keep, rows, y2, y7, y8, rfl⟩ e10
      obtain ⟨p, t, rfl, ht, hpt⟩ := rows i x hx
      rw [if_neg (Nat.lt_irrefl i), List.append_nil] at hpt
      have tok := ok.ok t (List.mem_of_getElem? ht)
      refine s_app (v := .int (i : Int)) (e10 _ _ hpt) (ev_var rfl) (ev_var rfl) (by rw [List.length_map]; have := tok.few; omega) fun H11 e11 => ⟨fun b o h nb => ?_, fun j r hj => ?_, _, _, _, rfl⟩
      · rw [upd_ne fun z => nb (by rw [z]; exact List.mem_of_getElem? hx)]
        exact e11 _ _ (e10 _ _ (keep b o h nb))
      · obtain ⟨p', t', rfl, ht', hpt'⟩ := rows j r hj
        refine ⟨p', t', rfl, ht', ?_⟩
        by_cases hji : j = i
        · subst hji
          rw [hx] at hj
          cases hj
          rw [ht] at ht'
          cases ht'
          rw [upd_same, if_pos (Nat.lt_succ_self j)]
        · have npp : p' ≠ p := fun z => by
            subst z
            exact hji (nodup_at nd6 hj hx)
          rw [upd_ne npp]
          have := e11 _ _ (e10 _ _ hpt')
          rw [this]
          by_cases h1 : j < i
          · rw [if_pos h1, if_pos (by omega)]
          · rw [if_neg h1, if_neg (by omega)]
    rintro σ' H9 ⟨keep, rows, y2, y7, y8, rfl⟩
    have old9 : Ex H H9 := fun b o h => keep b o (x8 _ _ h) fun m => by
      rw [(frH b m).1] at h
      cases h
    have f9 := keep _ _ f8 fun m => (frH fo m).2 rfl
    refine q_when (b := false) (et_test (ev_neDD (d := .list (natsD (List.range ts.length))) (n := 1) (ed_l (xs := nats (List.range ts.length)) ?_ (dts_nats _)) (ed_l (xs := nats (List.range ts.length)) (by
        have := el_rg (σ := [some (.ref a), some (.ref L), y2, some (.str (pageT ts)), some (.str (PyData.list (rowsD ts)).shown), some (.ref fo), some (.ref ag), y7, y8]) (ta := tCB (fun xs H Q => ∃ p ys, xs = [V.ref p] ∧ (SqL K H p ys ∨ SqT K H p ys) ∧ Q (.int ys.length) H) (tCons (tVar 0) tNil)) (n := ts.length) (ev_is (ev_len' (ev_var rfl) (old9 _ _ ha)) (by rw [ln])) (by omega)
        exact this) (dts_nats _)) (sh_nats 0 _) (by decide))) (fun h => nomatch h) fun _ H10 e10 => ?_
    · have eg : given rf.length (fun _ => true) (fun i => .int (i : Int)) = nats (List.range ts.length) := by
        unfold given nats
        rw [List.filter_eq_self.mpr (fun _ _ => rfl), lf]
      rw [← eg]
      refine el_lcL (fun _ => true) _ (ev_var rfl) (sq_of f9) (by omega) (fun _ => rfl) (fun i x H2 _ _ => fun H3 e3 Q q => q H3 (Ex.refl H3)) fun i x H2 e2 hx _ => ?_
      obtain ⟨p, t, rfl, ht, hpt⟩ := rows i x hx
      have hi := (List.getElem?_eq_some_iff.mp hx).1
      rw [if_pos (by omega)] at hpt
      refine ev_op (ev_var rfl) (ev_un ev_c ru_neg) (rv_ixL (sq_of (e2 _ _ hpt)) ?_)
      exact last_of _ _
    refine q_clear (e10 _ _ f9) (ev_var rfl) fun H11 e11 => ?_
    have fo0 : H fo = none := fresh_back x5 hfo
    have x11 : Ex H (upd H11 fo (.lst [])) := ((old9.trans e10).trans e11).mut fo0
    have nag : ag ≠ fo := (ne_of_none h6 hag).symm
    -- what again holds stands apart from what grew
    have apart : ∀ b o, H7 b = some o → H6 b = none → b ≠ fo → upd H11 fo (.lst []) b = some o := fun b o h7' h6' nb => by
      rw [upd_ne nb]
      refine e11 _ _ (e10 _ _ (keep b o (e8 _ _ h7') fun m => ?_))
      obtain ⟨q', t', eq', _, hq'⟩ := w6.refs _ m
      cases eq'
      rw [hq'] at h6'
      cases h6'
    have ag11 := apart _ _ h7 hag nag
    have w11 : RwV (upd H11 fo (.lst [])) ra ts := w7.map fun q' t' m hq' => apart _ _ hq' (fr7 q' m).1 fun z => by
      rw [z] at m
      have := (fr7 fo m).1
      rw [h6] at this
      cases this
    generalize upd H11 fo (.lst []) = G at x11 ag11 w11
    refine s_ret (v := .bl true) (ev_andV (a := true) (b := true) (ev_eqD (ev_var rfl) (ev_var rfl) (dt ag11 w11) (dt (x11 _ _ ha) (hw.ex x11)) sh (by decide)) fun _ => ev_andV (a := true) (b := true)
      (ev_eqDD (ed_sp (ea_cons (ev_var rfl) ea_nil) fun H5 e5 Q q => ⟨ts, rfl, ok, fun H' p ws e' hp' h' p' _ _ => q _ H' e' (dt h' p')⟩) (ed_of (ev_var rfl) (dt (x11 _ _ ha) (hw.ex x11))) sh (by decide))
      fun _ => ev_is (ev_op (ev_sp (ea_cons (ev_var rfl) ea_nil) fun H5 e5 Q q => wri e5 ag11 w11 q) (ev_var rfl) (rv_eq rfl)) (congrArg V.bl (decide_eq_true rfl))) fun H12 e12 => q H12 (x11.trans e12)
end
end K92
namespace K92
open PySem PySem.Spec PyProof.Rows L2 Os Evl
abbrev sLaw : Stmt := topS 29
theorem scLaw : FnScope ["script", "k", "source", "turn"] ["script"] (defScope sLaw) := ⟨rfl, rfl, rfl, by decide +kernel, rfl, by decide +kernel, by decide +kernel⟩
theorem Drew.old {s : Addr} {B : Nat} {H0 H H' : Hp} (e : Ex H0 H) (ns : H0 s = none) (d : Drew s B H H') : Ex H0 H' := fun b o h =>
  d.get (ne_of_none h ns) (e b o h)
theorem hide_up {s : Addr} {H : Hp} : Ex (hide s H) H := hide_same
theorem ok_nil : EdgesOk [] := ⟨by decide, (fun e h => nomatch h), .nil⟩
theorem tok_nil : TurnOk [] := ⟨by decide, (fun e h => nomatch h), .nil⟩
theorem tok_zero : TurnOk [0] := ⟨by decide, (fun e h => by rw [List.mem_singleton.mp h]; decide), List.nodup_cons.mpr ⟨by simp, .nil⟩⟩
theorem tsok1 : TurnsOk [[]] := ⟨(fun h => nomatch h), by decide, fun t h => by rw [List.mem_singleton.mp h]; exact tok_nil⟩
theorem tsok2 : TurnsOk [[0], []] := ⟨(fun h => nomatch h), by decide, fun t h => by
  rcases List.mem_cons.mp h with rfl | h
  · exact tok_zero
  · rw [List.mem_singleton.mp h]
    exact tok_nil⟩
theorem pageT1 : ("-" : Str) = pageT [[]] := by decide +kernel
theorem pageT2 : ("0\n-" : Str) = pageT [[0], []] := by decide +kernel
section
variable {P : Program} {w : World} {K : PySem.W.Frag} {mg : Str → Option Value} {base : Heap}
def spLaw (K : PySem.W.Frag) : Sp := fun vs H Q _ => ∃ (a : Addr) (ns : List Int), vs = [.ref a] ∧ SqL K H a (ns.map V.int) ∧ ns.length ≤ 63 ∧ ∀ H', Q (.bl true) H'
theorem ok_law {f fS fP fT fA fB fE fU : Addr} {fd fdS fdP fdT fdA fdB fdE fdU : FuncData} {k : Nat} (F : Fun K "law" "law" sLaw f fd)
    (GS : FnOk P w K mg base CX0 k fS fdS ["script", "k"] (spSource K)) (FS : Fun K "_law_source" "_law_source" sSource fS fdS) (bS : Binds K fdS ["script", "k"] []) (gS : mg "_law_source" = some (.ref fS))
    (GP : FnOk P w K mg base CX0 k fP fdP ["source", "most"] spPairs) (FP : Fun K "_law_pairs" "_law_pairs" sPairs fP fdP) (bP : Binds K fdP ["source", "most"] []) (gP : mg "_law_pairs" = some (.ref fP))
    (GT : FnOk P w K mg base CX0 k fT fdT ["source"] spTR) (FT : Fun K "_law_turn_rows" "_law_turn_rows" sTR fT fdT) (bT : Binds K fdT ["source"] []) (gT : mg "_law_turn_rows" = some (.ref fT))
    (GA : FnOk P w K mg base CX0 k fA fdA ["pairs"] spER) (FA : Fun K "_law_edges_right" "_law_edges_right" sER fA fdA) (bA : Binds K fdA ["pairs"] []) (gA : mg "_law_edges_right" = some (.ref fA))
    (GB : FnG P w K mg base k fB fdB ["rows"] spRR) (FB : Fun K "_law_rows_right" "_law_rows_right" sRR fB fdB) (bB : Binds K fdB ["rows"] []) (gB : mg "_law_rows_right" = some (.ref fB))
    (GE : FnOk P w K mg base CX0 k fE fdE ["text"] spRE) (FE : Fun K "read_edges" "read_edges" sRE fE fdE) (bE : Binds K fdE ["text"] []) (gE : mg "read_edges" = some (.ref fE))
    (GU : FnOk P w K mg base CX0 k fU fdU ["text"] spRT) (FU : Fun K "read_turns" "read_turns" sRT fU fdU) (bU : Binds K fdU ["text"] []) (gU : mg "read_turns" = some (.ref fU))
    (mRange : mg "range" = none) (mMax : mg "max" = none) (mMin : mg "min" = none) (mLen : mg "len" = none) : FnG P w K mg base (k + 1) f fd ["script"] (spLaw K) := by
  refine okG F scLaw (fun vs H Q E h => ?_) (fun cdv A outer s0 H vs Q E gd hr h => ?_)
  · obtain ⟨a, ns, rfl, _⟩ := h
    rfl
  · obtain ⟨a, ns, rfl, hS, hlen, q⟩ := h
    refine ⟨_, (pss_cons (ps_for PassesOwn.never rfl (pi_range1 (by rfl) mRange (pa_cons (pe_callB (call_max2 rfl) (by rfl) mMax boot_max (pa_cons pe_int (pa_cons (pe_callB (call_min2 rfl) (by rfl) mMin boot_min (pa_cons pe_int (pa_cons (pe_callB call_len_seq (by rfl) mLen boot_len (pa_cons (pv 0) pa_nil)) pa_nil))) pa_nil))) pa_nil)) (pg_name (i := 1) scLaw.nd rfl (Or.inl rfl))
      (pss_cons (ps_set (i := 2) scLaw.nd rfl (.inl rfl) (pe_call GS hr (by rfl) gS FS.kp bS .nil pass0 (pa_cons (pv 0) (pa_cons (pv 1) pa_nil))))
      (pss_one (ps_for PassesOwn.never rfl (pi_range1 (by rfl) mRange (pa_cons pe_int pa_nil)) (pg_name (i := 3) scLaw.nd rfl (Or.inl rfl))
      (pss_one (ps_if (PW.pt (pw_or (pt_not (pt_val (pe_call GA hr (by rfl) gA FA.kp bA .nil pass0 (pa_cons (pe_call GP hr (by rfl) gP FP.kp bP .nil pass0 (pa_cons (pv 2) (pa_cons pe_int pa_nil))) pa_nil)))) (pw_or1 (pt_not (pt_val (pe_callG GB gd hr (by rfl) gB FB.kp bB (pa_cons (pe_call GT hr (by rfl) gT FT.kp bT .nil pass0 (pa_cons (pv 2) pa_nil)) pa_nil))))))) pss_never pss_nil))))))
      (pss_one (ps_ret (pe_and (pe_cmpR (op_eqD hr.units) (pe_call GE hr (by rfl) gE FE.kp bE .nil pass0 (pa_cons pe_str pa_nil)) (pe_lst pa_nil) (nomark _)) (pe_and (pe_cmpR (op_eqD hr.units) (pe_call GU hr (by rfl) gU FU.kp bU .nil pass0 (pa_cons pe_str pa_nil)) (pe_lst (pa_cons (pe_lst pa_nil) pa_nil)) (nomark _)) (pe_one (pe_cmpR (op_eqD hr.units) (pe_call GU hr (by rfl) gU FU.kp bU .nil pass0 (pa_cons pe_str pa_nil)) (pe_lst (pa_cons (pe_lst (pa_cons pe_int pa_nil)) (pa_cons (pe_lst pa_nil) pa_nil))) (nomark _)))))))), ?_⟩
    have hlen' : (ns.map V.int).length = ns.length := List.length_map ..
    refine q_forR1 (n := if (if ((ns.map V.int).length : Int) < 4 then ((ns.map V.int).length : Int) else 4) > 1 then (if ((ns.map V.int).length : Int) < 4 then ((ns.map V.int).length : Int) else 4) else 1)
      (ea_cons (ev_max ev_c (ev_min ev_c (ev_len (ev_var rfl) hS))) ea_nil) ⟨by split <;> (try split) <;> omega, by split <;> (try split) <;> omega⟩
      (fun i σ' H' => Ex H H' ∧ i ≤ 4 ∧ ∃ y1 y2 y3, σ' = [some (.ref a), y1, y2, y3]) (fun H1 e1 => ⟨e1, by omega, _, _, _, rfl⟩) ?_ ?_
    · rintro i σ' H1 hi ⟨e1, hi4, y1, y2, y3, rfl⟩
      have hi5 : i < 4 := by
        split at hi <;> (try split at hi) <;> omega
      -- source = _law_source(script, k)
      refine ⟨.ref a, rfl, .int (i : Int), rfl, a, ns, i, rfl, ex_l e1 hS, by omega, fun H2 s e2 ns1 src => ?_⟩
      refine s_forR1 (n := 5) (ea_cons ev_c ea_nil) ⟨by decide, by decide⟩
        (fun j σ' H' => Drew s (2200 * j) H2 H' ∧ j ≤ 5 ∧ ∃ y3, σ' = [some (.ref a), some (.int (i : Int)), some (.ref s), y3])
        (fun H3 e3 => ⟨((Drew.refl src).ex e3).mono (by omega), by omega, _, rfl⟩) ?_ ?_
      · rintro j σ' H3 hj ⟨d3, hj4, z3, rfl⟩
        have hj5 : j < 5 := by omega
        refine ⟨.ref s, rfl, s, 2200 * j, rfl, d3.src, by omega, fun H4 p xs es d4 hp hxs prs ok => ⟨p, xs, es, rfl, hxs, prs.ex hide_up, ok, fun H5 e5 => ⟨true, rfl, iteF ?_⟩⟩⟩
        have D5 := (d3.trans d4).ex e5
        refine ⟨.ref s, rfl, s, _, rfl, D5.src, by omega, fun H6 p2 rs ts d6 hp2 hrs rw6 ok6 => ⟨p2, rs, ts, rfl, hrs, rw6.ex hide_up, ok6, fun H7 e7 => ⟨true, rfl, iteF ?_⟩⟩⟩
        exact ⟨((D5.trans d6).ex e7).mono (by omega), by omega, _, rfl⟩
      · rintro σ' H3 ⟨d3, _, z3, rfl⟩
        exact ⟨Drew.old (e1.trans e2) (fresh_back e1 ns1) d3, by omega, _, _, _, rfl⟩
    · rintro σ' H1 ⟨e1, _, y1, y2, y3, rfl⟩
      refine s_ret (v := .bl true) ?_ fun H2 e2 => q H2
      refine ev_andV (a := true) (b := true) ?_ fun _ => ev_andV (a := true) (b := true) ?_ fun _ => ?_
      · exact ev_eqDD (d := .list []) (n := 1) (ed_sp (vs := [.str "-"]) (ea_cons ev_c ea_nil) fun H5 e5 Q q => ⟨[], rfl, ok_nil, fun H' p ws e' hp' h' p' => q _ H' e' (.lst h' p'.dts)⟩) (ed_lst eds_nil (by decide)) (.lst fun d h => nomatch h) (by decide)
      · exact ev_eqDD (d := .list [.list []]) (n := 2) (ed_sp (vs := [.str "-"]) (ea_cons ev_c ea_nil) fun H5 e5 Q q => ⟨[[]], congrArg (fun z => [V.str z]) pageT1, tsok1, fun H' p ws e' hp' h' p' _ _ => q _ H' e' (.lst h' p'.dts)⟩) (ed_lst (eds_cons (ed_lst eds_nil (by decide)) eds_nil) (by decide)) (sh_rows [[]]) (by decide)
      · exact ev_eqDD (d := .list [.list [.int 0], .list []]) (n := 2) (ed_sp (vs := [.str "0\n-"]) (ea_cons ev_c ea_nil) fun H5 e5 Q q => ⟨[[0], []], congrArg (fun z => [V.str z]) pageT2, tsok2, fun H' p ws e' hp' h' p' _ _ => q _ H' e' (.lst h' p'.dts)⟩) (ed_lst (eds_cons (ed_lst (eds_cons (ed_of ev_c (.int 0)) eds_nil) (by decide)) (eds_cons (ed_lst eds_nil (by decide)) eds_nil)) (by decide)) (sh_rows [[0], []]) (by decide)
end
end K92
namespace K92
open PySem PySem.Spec PyProof.Rows L2 Os Evl
section
variable {l : PySem.W.OpenLaw} {w : World} {K : PySem.W.Frag} {h : Heap} {mg : Str → Option Value} {fa : Addr}
/-- a def that stands at the top -/
def Def (K : PySem.W.Frag) (x : Str) (st : Stmt) (f : Addr) : Prop :=
  PySem.W.nsIn K mainGlobals x = some (some (.ref f)) ∧ (∃ (oc kV dc pm cd ct : Value) (od an : Option Addr) (sl : Array (Option Value)), K.lookup f = some ⟨oc, od, .func (PySem.W.fnOf x x (defArgs st) (defBody st) (defScope st) .none kV dc pm an cd ct), sl⟩ ∧ PySem.W.codeIn K cd x = true) ∧ PySem.W.keepIn K (.ref f) = true
theorem Def.of {x : Str} {st : Stmt} {f : Addr} {oc kV dc pm cd ct : Value} {od an : Option Addr} {sl : Array (Option Value)} (a : PySem.W.nsIn K mainGlobals x = some (some (.ref f)))
    (lk : K.lookup f = some ⟨oc, od, .func (PySem.W.fnOf x x (defArgs st) (defBody st) (defScope st) .none kV dc pm an cd ct), sl⟩) (c : PySem.W.codeIn K cd x = true) (kp : PySem.W.keepIn K (.ref f) = true) : Def K x st f :=
  ⟨a, ⟨oc, kV, dc, pm, cd, ct, od, an, sl, lk, c⟩, kp⟩
theorem Def.fun_ {x : Str} {st : Stmt} {f : Addr} (d : Def K x st f) : ∃ fd, Fun K x x st f fd := by
  obtain ⟨_, ⟨oc, kV, dc, pm, cd, ct, od, an, sl, lk, c⟩, k⟩ := d
  exact ⟨_, fun_mk lk c k⟩
theorem all_mk (X : K.In h) (G : h.Ns mainGlobals mg) (hfa : mg "law" = some (.ref fa))
    {fInt fPos fEdge fNum fPairIn fWE fRE fWT fTI fRT fSource fPick fAllP fPairs fSame fTR fER fRR fLaw : Addr} {t40 t100 t9 tE : Tok} (n40 : PySem.W.nsIn K mainGlobals "MOST_POSITIONS" = some (some (.int 40 t40))) (n100 : PySem.W.nsIn K mainGlobals "MOST_EDGES" = some (some (.int 100 t100))) (n9 : PySem.W.nsIn K mainGlobals "MOST_DIGITS" = some (some (.int 9 t9))) (nE : PySem.W.nsIn K mainGlobals "EMPTY" = some (some (.str "-" tE)))
    (dInt : Def K "is_integer" sInt fInt)
    (dPos : Def K "is_position" sPos fPos)
    (dEdge : Def K "is_edge" sEdge fEdge)
    (dNum : Def K "number_in" sNum fNum)
    (dPairIn : Def K "pair_in" sPairIn fPairIn)
    (dWE : Def K "write_edges" sWE fWE)
    (dRE : Def K "read_edges" sRE fRE)
    (dWT : Def K "write_turns" sWT fWT)
    (dTI : Def K "_turn_in" sTI fTI)
    (dRT : Def K "read_turns" sRT fRT)
    (dSource : Def K "_law_source" sSource fSource)
    (dPick : Def K "_law_pick" sPick fPick)
    (dAllP : Def K "_law_all_pairs" sAllP fAllP)
    (dPairs : Def K "_law_pairs" sPairs fPairs)
    (dSame : Def K "_law_same" sSame fSame)
    (dTR : Def K "_law_turn_rows" sTR fTR)
    (dER : Def K "_law_edges_right" sER fER)
    (dRR : Def K "_law_rows_right" sRR fRR)
    (aLaw : PySem.W.nsIn K mainGlobals "law" = some (some (.ref fLaw))) {oc kV dc pm cd ct : Value} {od an : Option Addr} {sl : Array (Option Value)} (lLaw : K.lookup fLaw = some ⟨oc, od, .func (PySem.W.fnOf "law" "law" (defArgs sLaw) (defBody sLaw) (defScope sLaw) .none kV dc pm an cd ct), sl⟩) (cLaw : PySem.W.codeIn K cd "law" = true) (kLaw : PySem.W.keepIn K (.ref fLaw) = true)
    (z_isinstance : PySem.W.nsIn K mainGlobals "isinstance" = some none) (z_int : PySem.W.nsIn K mainGlobals "int" = some none) (z_bool : PySem.W.nsIn K mainGlobals "bool" = some none) (z_tuple : PySem.W.nsIn K mainGlobals "tuple" = some none) (z_len : PySem.W.nsIn K mainGlobals "len" = some none) (z_all : PySem.W.nsIn K mainGlobals "all" = some none) (z_str : PySem.W.nsIn K mainGlobals "str" = some none) (z_set : PySem.W.nsIn K mainGlobals "set" = some none) (z_enumerate : PySem.W.nsIn K mainGlobals "enumerate" = some none) (z_max : PySem.W.nsIn K mainGlobals "max" = some none) (z_abs : PySem.W.nsIn K mainGlobals "abs" = some none) (z_list : PySem.W.nsIn K mainGlobals "list" = some none) (z_zip : PySem.W.nsIn K mainGlobals "zip" = some none) (z_range : PySem.W.nsIn K mainGlobals "range" = some none) (z_min : PySem.W.nsIn K mainGlobals "min" = some none) (z_repr : PySem.W.nsIn K mainGlobals "repr" = some none) :
    ∃ fd : FuncData, (∀ (s : Shared) (v : Value), BindsTo s fd ⟨[v], []⟩ [("script", v)]) ∧ ∀ base : Heap, K.In base → base.Ns mainGlobals mg → FnG l.prog w K mg base 7 fa fd ["script"] (spLaw K) := by
  have e := hfa.symm.trans (PySem.W.mg_of X G aLaw)
  cases e
  have none' : ∀ {x : Str}, PySem.W.nsIn K mainGlobals x = some none → mg x = none := fun z => PySem.W.mg_none_of X G z
  have ref' : ∀ {x : Str} {f : Addr}, PySem.W.nsIn K mainGlobals x = some (some (.ref f)) → mg x = some (.ref f) := fun z => PySem.W.mg_of X G z
  obtain ⟨fdInt, FInt⟩ := dInt.fun_
  obtain ⟨fdPos, FPos⟩ := dPos.fun_
  obtain ⟨fdEdge, FEdge⟩ := dEdge.fun_
  obtain ⟨fdNum, FNum⟩ := dNum.fun_
  obtain ⟨fdPairIn, FPairIn⟩ := dPairIn.fun_
  obtain ⟨fdWE, FWE⟩ := dWE.fun_
  obtain ⟨fdRE, FRE⟩ := dRE.fun_
  obtain ⟨fdWT, FWT⟩ := dWT.fun_
  obtain ⟨fdTI, FTI⟩ := dTI.fun_
  obtain ⟨fdRT, FRT⟩ := dRT.fun_
  obtain ⟨fdSource, FSource⟩ := dSource.fun_
  obtain ⟨fdPick, FPick⟩ := dPick.fun_
  obtain ⟨fdAllP, FAllP⟩ := dAllP.fun_
  obtain ⟨fdPairs, FPairs⟩ := dPairs.fun_
  obtain ⟨fdSame, FSame⟩ := dSame.fun_
  obtain ⟨fdTR, FTR⟩ := dTR.fun_
  obtain ⟨fdER, FER⟩ := dER.fun_
  obtain ⟨fdRR, FRR⟩ := dRR.fun_
  have FLaw := fun_mk (st := sLaw) lLaw cLaw kLaw
  have bInt := FInt.binds (ps := ["thing"]) fun _ _ _ _ _ _ us hl => match us, hl with | [_], _ => rfl
  have bPos := FPos.binds (ps := ["n", "thing"]) fun _ _ _ _ _ _ us hl => match us, hl with | [_, _], _ => rfl
  have bEdge := FEdge.binds (ps := ["n", "thing"]) fun _ _ _ _ _ _ us hl => match us, hl with | [_, _], _ => rfl
  have bNum := FNum.binds (ps := ["word"]) fun _ _ _ _ _ _ us hl => match us, hl with | [_], _ => rfl
  have bPairIn := FPairIn.binds (ps := ["word"]) fun _ _ _ _ _ _ us hl => match us, hl with | [_], _ => rfl
  have bWE := FWE.binds (ps := ["edges"]) fun _ _ _ _ _ _ us hl => match us, hl with | [_], _ => rfl
  have kWE := funRevK FWE (ps := ["edges"]) (ks := ["edges"]) (by decide) fun _ _ _ _ _ _ us hl => match us, hl with | [_], _ => rfl
  have bRE := FRE.binds (ps := ["text"]) fun _ _ _ _ _ _ us hl => match us, hl with | [_], _ => rfl
  have kRE := funRevK FRE (ps := ["text"]) (ks := ["text"]) (by decide) fun _ _ _ _ _ _ us hl => match us, hl with | [_], _ => rfl
  have bWT := FWT.binds (ps := ["turns"]) fun _ _ _ _ _ _ us hl => match us, hl with | [_], _ => rfl
  have kWT := funRevK FWT (ps := ["turns"]) (ks := ["turns"]) (by decide) fun _ _ _ _ _ _ us hl => match us, hl with | [_], _ => rfl
  have bTI := FTI.binds (ps := ["line"]) fun _ _ _ _ _ _ us hl => match us, hl with | [_], _ => rfl
  have bRT := FRT.binds (ps := ["text"]) fun _ _ _ _ _ _ us hl => match us, hl with | [_], _ => rfl
  have kRT := funRevK FRT (ps := ["text"]) (ks := ["text"]) (by decide) fun _ _ _ _ _ _ us hl => match us, hl with | [_], _ => rfl
  have bSource := FSource.binds (ps := ["script", "k"]) fun _ _ _ _ _ _ us hl => match us, hl with | [_, _], _ => rfl
  have bPick := FPick.binds (ps := ["source", "count"]) fun _ _ _ _ _ _ us hl => match us, hl with | [_, _], _ => rfl
  have bAllP := FAllP.binds (ps := ["span"]) fun _ _ _ _ _ _ us hl => match us, hl with | [_], _ => rfl
  have bPairs := FPairs.binds (ps := ["source", "most"]) fun _ _ _ _ _ _ us hl => match us, hl with | [_, _], _ => rfl
  have bSame := FSame.binds (ps := ["found", "due"]) fun _ _ _ _ _ _ us hl => match us, hl with | [_, _], _ => rfl
  have bTR := FTR.binds (ps := ["source"]) fun _ _ _ _ _ _ us hl => match us, hl with | [_], _ => rfl
  have bER := FER.binds (ps := ["pairs"]) fun _ _ _ _ _ _ us hl => match us, hl with | [_], _ => rfl
  have bRR := FRR.binds (ps := ["rows"]) fun _ _ _ _ _ _ us hl => match us, hl with | [_], _ => rfl
  refine ⟨PySem.W.fnOf "law" "law" (defArgs sLaw) (defBody sLaw) (defScope sLaw) .none kV dc pm an cd ct, fun s v => .of_eq rfl, fun base _ _ => ?_⟩
  have GInt : FnOk l.prog w K mg base CX0 1 fInt fdInt ["thing"] spInt := ok_int FInt (none' z_isinstance) (none' z_int) (none' z_bool)
  have GPos : FnOk l.prog w K mg base CX0 2 fPos fdPos ["n", "thing"] spPos := ok_pos FPos (GInt.mono (by decide)) FInt bInt (ref' dInt.1)
  have GEdge : FnOk l.prog w K mg base CX0 3 fEdge fdEdge ["n", "thing"] spEdge := ok_edge FEdge (GPos.mono (by decide)) FPos bPos (ref' dPos.1) (none' z_isinstance) (none' z_tuple) (none' z_len)
  have GNum : FnOk l.prog w K mg base CX0 1 fNum fdNum ["word"] spNum := ok_num FNum (none' z_len) (none' z_all) (none' z_int) (PySem.W.mg_of X G n9)
  have GPairIn : FnOk l.prog w K mg base CX0 2 fPairIn fdPairIn ["word"] spPairIn := ok_pairIn FPairIn (GNum.mono (by decide)) FNum bNum (ref' dNum.1) (none' z_len)
  have GWE : FnOk l.prog w K mg base CX0 1 fWE fdWE ["edges"] spWE := ok_we FWE (PySem.W.mg_of X G nE)
  have GRE : FnOk l.prog w K mg base CX0 4 fRE fdRE ["text"] spRE := ok_re FRE (GPairIn.mono (by decide)) FPairIn bPairIn (ref' dPairIn.1) (GEdge.mono (by decide)) FEdge bEdge (ref' dEdge.1) (none' z_len) (none' z_enumerate) (PySem.W.mg_of X G n40) (PySem.W.mg_of X G n100) (PySem.W.mg_of X G nE)
  have GWT : FnOk l.prog w K mg base CX0 1 fWT fdWT ["turns"] spWT := ok_wt FWT (none' z_str) (PySem.W.mg_of X G nE)
  have GTI : FnOk l.prog w K mg base CX0 3 fTI fdTI ["line"] spTI := ok_ti FTI (GNum.mono (by decide)) FNum bNum (ref' dNum.1) (GPos.mono (by decide)) FPos bPos (ref' dPos.1) (none' z_all) (none' z_len) (none' z_set) (PySem.W.mg_of X G n40) (PySem.W.mg_of X G nE)
  have GRT : FnOk l.prog w K mg base CX0 4 fRT fdRT ["text"] spRT := ok_rt FRT (GTI.mono (by decide)) FTI bTI (ref' dTI.1) (none' z_enumerate) (PySem.W.mg_of X G n40)
  have GSource : FnOk l.prog w K mg base CX0 1 fSource fdSource ["script", "k"] (spSource K) := ok_source FSource (none' z_len) (none' z_max) (none' z_abs)
  have GPick : FnOk l.prog w K mg base CX0 1 fPick fdPick ["source", "count"] spPick := ok_pick FPick
  have GAllP : FnOk l.prog w K mg base CX0 1 fAllP fdAllP ["span"] spAllP := ok_allP FAllP (none' z_range)
  have GPairs : FnOk l.prog w K mg base CX0 2 fPairs fdPairs ["source", "most"] spPairs := ok_pairs FPairs (GPick.mono (by decide)) FPick bPick (ref' dPick.1) (GAllP.mono (by decide)) FAllP bAllP (ref' dAllP.1) (none' z_min) (none' z_len) (none' z_range)
  have GSame : FnOk l.prog w K mg base CX0 5 fSame fdSame ["found", "due"] (spSame 5) := ok_same FSame bSame (ref' dSame.1) (none' z_isinstance) (none' z_list) (none' z_tuple) (none' z_bool) (none' z_str) (none' z_len) (none' z_all) (none' z_zip) 5
  have GTR : FnOk l.prog w K mg base CX0 2 fTR fdTR ["source"] spTR := ok_tr FTR (GPick.mono (by decide)) FPick bPick (ref' dPick.1) (none' z_range) (none' z_list) (none' z_len) (none' z_max)
  have GER : FnOk l.prog w K mg base CX0 6 fER fdER ["pairs"] spER := ok_er FER (GSame.mono (by decide)) FSame bSame (ref' dSame.1) (GWE.mono (by decide)) FWE bWE kWE (ref' dWE.1) (GRE.mono (by decide)) FRE bRE kRE (ref' dRE.1) (none' z_len) (none' z_list) (none' z_str)
  have GRR : FnG l.prog w K mg base 6 fRR fdRR ["rows"] spRR := ok_rr FRR (GSame.mono (by decide)) FSame bSame (ref' dSame.1) (GWT.mono (by decide)) FWT bWT kWT (ref' dWT.1) (GRT.mono (by decide)) FRT bRT kRT (ref' dRT.1) (none' z_len) (none' z_list) (none' z_str) (none' z_repr) (none' z_enumerate) (none' z_range)
  exact ok_law FLaw (GSource.mono (by decide)) FSource bSource (ref' dSource.1) (GPairs.mono (by decide)) FPairs bPairs (ref' dPairs.1) (GTR.mono (by decide)) FTR bTR (ref' dTR.1) (GER.mono (by decide)) FER bER (ref' dER.1) (GRR.mono (by decide)) FRR bRR (ref' dRR.1) (GRE.mono (by decide)) FRE bRE (ref' dRE.1) (GRT.mono (by decide)) FRT bRT (ref' dRT.1) (none' z_range) (none' z_max) (none' z_min) (none' z_len)
end
end K92
open PySem PySem.W PyProof.Rows
set_option maxHeartbeats 0 in
theorem PySem.Challenge.cw_onceswapped_k92_edges_and_turns_written_holds : PySem.Challenge.rw_onceswapped_k92_edges_and_turns_written.Holds := by
  w_on; o_law; k_head; (case hw => w_witness2)
  k_fill
  refine Os.walk_ofG (l := PySem.Challenge.rw_onceswapped_k92_edges_and_turns_written) (n := 63) (k := 7) (x := "script") (sp := fun w => K92.spLaw _) rfl (by decide) rfl ⟨rfl, by decide, by decide⟩ (fun w h Y => PySem.W.kIn_of Y) ?F (fun _ _ a ns hl _ hS => ⟨a, ns, rfl, hS, hl, fun _ => rfl⟩)
  case F =>
    intro w mg fa h KX G hmg
    refine' K92.all_mk KX G hmg ?n40 ?n100 ?n9 ?nE ?dInt ?dPos ?dEdge ?dNum ?dPairIn ?dWE ?dRE ?dWT ?dTI ?dRT ?dSource ?dPick ?dAllP ?dPairs ?dSame ?dTR ?dER ?dRR ?a13 ?l13 ?c13 ?k13 ?zisinstance ?zint ?zbool ?ztuple ?zlen ?zall ?zstr ?zset ?zenumerate ?zmax ?zabs ?zlist ?zzip ?zrange ?zmin ?zrepr
    (case n40 => k_is)
    (case n100 => k_is)
    (case n9 => k_is)
    (case nE => k_is)
    (case dInt => refine' K92.Def.of ?a ?l ?c ?k; (case a => k_is); (case l => k_is); (case c => k_is); (case k => k_is))
    (case dPos => refine' K92.Def.of ?a ?l ?c ?k; (case a => k_is); (case l => k_is); (case c => k_is); (case k => k_is))
    (case dEdge => refine' K92.Def.of ?a ?l ?c ?k; (case a => k_is); (case l => k_is); (case c => k_is); (case k => k_is))
    (case dNum => refine' K92.Def.of ?a ?l ?c ?k; (case a => k_is); (case l => k_is); (case c => k_is); (case k => k_is))
    (case dPairIn => refine' K92.Def.of ?a ?l ?c ?k; (case a => k_is); (case l => k_is); (case c => k_is); (case k => k_is))
    (case dWE => refine' K92.Def.of ?a ?l ?c ?k; (case a => k_is); (case l => k_is); (case c => k_is); (case k => k_is))
    (case dRE => refine' K92.Def.of ?a ?l ?c ?k; (case a => k_is); (case l => k_is); (case c => k_is); (case k => k_is))
    (case dWT => refine' K92.Def.of ?a ?l ?c ?k; (case a => k_is); (case l => k_is); (case c => k_is); (case k => k_is))
    (case dTI => refine' K92.Def.of ?a ?l ?c ?k; (case a => k_is); (case l => k_is); (case c => k_is); (case k => k_is))
    (case dRT => refine' K92.Def.of ?a ?l ?c ?k; (case a => k_is); (case l => k_is); (case c => k_is); (case k => k_is))
    (case dSource => refine' K92.Def.of ?a ?l ?c ?k; (case a => k_is); (case l => k_is); (case c => k_is); (case k => k_is))
    (case dPick => refine' K92.Def.of ?a ?l ?c ?k; (case a => k_is); (case l => k_is); (case c => k_is); (case k => k_is))
    (case dAllP => refine' K92.Def.of ?a ?l ?c ?k; (case a => k_is); (case l => k_is); (case c => k_is); (case k => k_is))
    (case dPairs => refine' K92.Def.of ?a ?l ?c ?k; (case a => k_is); (case l => k_is); (case c => k_is); (case k => k_is))
    (case dSame => refine' K92.Def.of ?a ?l ?c ?k; (case a => k_is); (case l => k_is); (case c => k_is); (case k => k_is))
    (case dTR => refine' K92.Def.of ?a ?l ?c ?k; (case a => k_is); (case l => k_is); (case c => k_is); (case k => k_is))
    (case dER => refine' K92.Def.of ?a ?l ?c ?k; (case a => k_is); (case l => k_is); (case c => k_is); (case k => k_is))
    (case dRR => refine' K92.Def.of ?a ?l ?c ?k; (case a => k_is); (case l => k_is); (case c => k_is); (case k => k_is))
    (case a13 => k_is); (case l13 => k_is); (case c13 => k_is); (case k13 => k_is)
    (case zisinstance => k_is); (case zint => k_is); (case zbool => k_is); (case ztuple => k_is); (case zlen => k_is); (case zall => k_is); (case zstr => k_is); (case zset => k_is); (case zenumerate => k_is); (case zmax => k_is); (case zabs => k_is); (case zlist => k_is); (case zzip => k_is); (case zrange => k_is); (case zmin => k_is); (case zrepr => k_is)
