import PyProof.Rows.All
import Wide.All
import OpenK.AllK
import Wide.FinOn
import HandS.ForMost
import HandS.Wide
import HandS.IsInst
import HandS.Strs
import PyProof.ReprRoads
import PyProof.StrBlock2
import HandS.Evl
import HandS.Walk
import HandS.Conv
import HandS.Style
import HandS.TupSets
import PyProof.P3Eq
import PyProof.StrLawsRepr
import PyProof.Rows.StrCase
import PyProof.Rows.TmSorted
import HandS.Zip
import HandS.Deep
import HandS.List
import KE.DataMinMax
import KE.DataFind
import PyProof.ListStr
import HandS.FStr
import HandS.More
import PySem.Challenge.RW_onceswapped_k95_lists_changed_in_place
set_option Elab.async false
set_option linter.all false
set_option maxRecDepth 100000
set_option maxHeartbeats 8000000
/-! guarded defs: a def's promise where no repr is under way (what repr of a list asks) -/
namespace Os
open PySem PySem.Spec PyProof.Rows L2

section
variable (P : Program) (w : World) (K : PySem.W.Frag) (mg : Str → Option Value) (base : Heap)
/-- the def at f keeps sp at every call that is made while no repr runs -/
structure FnG (k : Nat) (f : Addr) (fd : FuncData) (ps : List Str) (sp : Sp) : Prop where
  arity : ∀ vs H Q E, sp vs H Q E → vs.length = ps.length
  runs : ∀ (B : Around) (out : List Env) (st : Shared) (H : Hp) (ar : Args) (us : List Value) (vs : List V) (Q : VK) (E : XK),
    B.guards = some [] → Room k B → Env0 P w K mg base B out st H →
    BindsTo st fd ar (ps.zip us) → Vals vs us → sp vs H Q E →
    codeAny (model P w) B (.call (.ref f) ar) (CR CX0 out P w H st Q E) st
end

section
variable {P : Program} {w : World} {K : PySem.W.Frag} {mg : Str → Option Value} {base : Heap}

theorem FnG.of {k : Nat} {f : Addr} {fd : FuncData} {ps : List Str} {sp : Sp}
    (F : FnOk P w K mg base CX0 k f fd ps sp) : FnG P w K mg base k f fd ps sp :=
  ⟨F.len, fun B out st H ar us vs Q E _ => F.run B out st H ar us vs Q E⟩

theorem FnG.mono {j k : Nat} {f : Addr} {fd : FuncData} {ps : List Str} {sp : Sp} (F : FnG P w K mg base j f fd ps sp) (h : j ≤ k) : FnG P w K mg base k f fd ps sp :=
  ⟨F.arity, fun B out st H ar us vs Q E gd hr => F.runs B out st H ar us vs Q E gd (hr.mono h)⟩
/-- the rule for a def, the guards told to its body -/
theorem okG {x qual : Str} {st : Stmt} {f : Addr} {fd : FuncData} {N ps : List Str} {k : Nat} {sp : Sp}
    (F : Fun K x qual st f fd) (S : FnScope N ps (defScope st))
    (ar : ∀ vs H Q E, sp vs H Q E → vs.length = ps.length)
    (body : ∀ (cdv : Value) (B : Around) (out : List Env) (s : Shared) (H : Hp) (vs : List V) (Q : VK) (E : XK),
      B.guards = some [] → Room k (B.deeper (envOfC qual (defScope st) s.heap.objs.size f cdv)) → sp vs H Q E →
      ∃ t, PSs (cxOf CX0 P w K mg base N qual (defScope st) f cdv B out s H E).nox (defBody st) t ∧
        t { nx := fun _ H' => Q .non H', rt := Q } (start N vs) H) :
    FnG P w K mg base (k + 1) f fd ps sp := by
  obtain ⟨oc, od, kV, doc, pm, an, cd, ct, sl, efd, look, code⟩ := F.ex
  subst efd
  refine ⟨ar, ?_⟩
  intro B out s H args us vs Q E gd hr e0 hb rel hsp
  have hlen := ar _ _ _ _ hsp
  have inK : K.In s.heap := e0.mod.kin.keeps fun b o q => (e0.bs b o q).1
  have lim : s.heap.NoLimit :=
    e0.mod.nolimit.keeps fun b o q => (e0.bs b o q).1
  have kinds : ∀ y ∈ ps.zip us, (defScope st).names.lookup y.1 = some .local ∨
      ((defScope st).names.lookup y.1 = some .cell ∧ ((cellsFrom (s.heap.objs.size + 1) (defScope st).names []).lookup y.1).isSome = true) := by
    rintro ⟨n, v⟩ hy
    cases S.par n (List.of_mem_zip hy).1 with
    | inl q => exact .inl q
    | inr q => exact .inr ⟨q, PySem.W.cellsFrom_some _ _ _ (.inl q)⟩
  refine codeAny_call_function hr.depth (inK _ _ look) rfl S.co S.gen rfl (PySem.W.codeRec_of inK code) (hb _ _ _ _ ?_)
  refine wpAny_newFunctionEnv_cells S.kind kinds fun env ee s1 x => ?_
  cases ee
  refine ⟨lim.keeps x.toInCall.keep, codeAny_func ?_⟩
  obtain ⟨t, ht, hq⟩ := body cd B out s H vs Q E gd (hr.deeper _) hsp
  have I := inv_start (CX := CX0) (E := E) S hr.hd e0 hlen rel x
  refine wpAny_mono (ht.nox.run [] s1 (start N vs) H _ I hq) (fun fl s' hs => ?_) (fun _ _ z => z)
  cases fl with
  | ret u =>
    obtain ⟨v, sg, H', J, rv, q⟩ := hs
    exact ⟨v, H', J.os, J.bare, J.base, J.hok, rv, q⟩
  | next =>
    obtain ⟨sg, H', J, q⟩ := hs
    exact ⟨V.non, H', J.os, J.bare, J.base, J.hok, rfl, q⟩
  | brk => exact (hs.elim fun _ z => z.elim fun _ z => z.2).elim
  | cont => exact (hs.elim fun _ z => z.elim fun _ z => z.2).elim
end

section
variable {X : Cx} {k : Nat} {f : Addr} {fd : FuncData} {ps : List Str} {sp : Sp} {x : Str} {p pos : Pos} {e : Expr} {es : List Expr} {t : TA}
/-- a call of such a def -/
theorem pe_callG (F : FnG X.prog X.w X.K X.mg X.base k f fd ps sp) (gd : X.A.guards = some []) (hr : Room k X.A) (hg : Gl X x)
    (hm : X.mg x = some (.ref f)) (hk : PySem.W.keepIn X.K (.ref f) = true) (hb : Binds X.K fd ps [])
    (ha : PA X (e :: es) t) (hdb : (x == ("__debug__" : Str)) = false := by decide)
    (he : starEach (e :: es) X.env = (false, eval e X.env) :: starEach es X.env := by rfl)
    (hpl : (backTo pos (starEach es X.env)).any (·.1) = false := by rfl) :
    PE X (.Call (.Name x p) (e :: es) [] pos) (tCall sp [] E0 t) := by
  constructor
  intro pins s sg H Q I h
  refine wpAny_Call_Name_kw (ld_glob I hg hm ?_ hdb)
  refine PySem.W.callWith_K (h₀ := X.base) I.ok.mod.kin hk (thn (ha.run pos pins s sg H _ I h) ?_) he hpl
  rintro us s1 ⟨vs, H1, I1, r, q⟩
  refine ⟨I1.kIn, ?_⟩
  have r2 : Vals (vs ++ []) (us ++ []) := r.append .nil
  have hl : (us ++ []).length = ps.length := by
    rw [← r2.length]
    exact F.arity _ _ _ _ q
  refine wpAny_call (codeAny_mono (F.runs X.A X.stack s1 H1 ⟨us, []⟩ (us ++ []) (vs ++ []) Q E0 gd hr I1.env0 (hb s1 us I1.kIn hl) r2 q) ?_)
  intro rr s' hq
  match rr, hq with
  | .ok (.ret u), hq => exact I1.after hq
  | .ok .next, hq => exact hq.elim
  | .ok .brk, hq => exact hq.elim
  | .ok .cont, hq => exact hq.elim
  | .error _, hq => exact hq.elim
end

section
variable {P : Program} {w : World} {K : PySem.W.Frag} {mg mb : Str → Option Value} {k : Nat} {fa a : Addr} {fd : FuncData} {x : Str} {sp : Sp} {s1 : Shared} {vs : List Value} {ns : List Int}
/-- the heap that tracks at most the script -/
structure Bare (K : PySem.W.Frag) (a : Addr) (o : Obj) (h : Heap) (H : Hp) : Prop where
  only : Only H
  at' : ∀ b, H b ≠ none → b = a
  out : H a ≠ none → K.lookup a = none
theorem Bare.stay {o : Obj} {h : Heap} {H : Hp} (B : Bare K a o h H) (ho : h.get? a = some o) {b : Addr} {q : Obj} (e : h.get? b = some q) (no : b = a → q ≠ o) : H b = none :=
  Decidable.byContradiction fun z => by
    have eb := B.at' b z
    rw [eb, ho] at e
    exact no eb (Option.some.inj e).symm
theorem law_run (KX : K.In s1.heap) (hns : s1.heap.Ns mainGlobals mg) (hb : s1.heap.Ns builtinsNs mb)
    (hbb : ∀ x : Str, x ≠ "__name__" → mb x = bootBuiltins x) (hlim : s1.heap.NoLimit) (hg : s1.gens = #[])
    (ha : s1.heap.get? a = some { cls := .type "list", data := .seq vs.toArray }) {H : Hp} (B : Bare K a { cls := .type "list", data := .seq vs.toArray } s1.heap H)
    (ok : HOk P w H s1.heap) (hr : Room k callerA)
    (F : ∀ base : Heap, K.In base → base.Ns mainGlobals mg → FnG P w K mg base k fa fd [x] sp)
    (hbind : ∀ (s : Shared) (u : Value), BindsTo s fd ⟨[u], []⟩ [(x, u)])
    (hsp : sp [.ref a] H (fun v _ => v = .bl true) fun _ _ _ => False) :
    codeAny (model P w) callerA (.call (.ref fa) ⟨[.ref a], []⟩)
      (fun r s' => r = .ok (.ret (.bool true)) ∧ OldK s1.heap s'.heap ∧ s'.os = s1.os ∧ AllBare s'.gens) s1 := by
  have dictStays : ∀ {b : Addr} {m : Str → Option Value}, s1.heap.Ns b m → (hidT s1.heap H).Ns b m := by
    rintro b m ⟨o, es, ep, e, d, r⟩
    refine ⟨o, es, ep, hidT_get e (B.stay ha e fun _ z => ?_), d, r⟩
    subst z
    exact nomatch (show Data.seq vs.toArray _ = Data.dict es ep from d)
  have keptK : K.In (hidT s1.heap H) := fun b o e => hidT_get (KX b o e) <| Decidable.byContradiction fun z => by
    have eb := B.at' b z
    subst eb
    have := B.out z
    rw [e] at this
    cases this
  have M : Mod K mg (hidT s1.heap H) := by
    obtain ⟨mc, h1, h2⟩ := hlim
    exact ⟨keptK, dictStays hns, ⟨mb, dictStays hb, hbb⟩, ⟨mc, dictStays h1, h2⟩⟩
  have e0 : Env0 P w K mg (hidT s1.heap H) callerA [] s1 H := {
    frames := rfl, mod := M, bs := fun b o e => of_hidT e, bsz := Nat.le_of_eq (hidT_size _ _), funs := trivial,
    frf := fun b z => absurd (show b ∈ ([] : List Addr) from z) (by simp), hok := ok, bare := .of_eq hg }
  refine codeAny_mono ((F _ keptK (dictStays hns)).runs callerA [] s1 H ⟨[.ref a], []⟩ [.ref a] [.ref a] _ _ rfl hr e0 (hbind s1 (.ref a)) (.cons rfl .nil) hsp) ?_
  intro r s' hq
  match r, hq with
  | .error _, hq => exact hq.elim
  | .ok .next, hq => exact hq.elim
  | .ok .brk, hq => exact hq.elim
  | .ok .cont, hq => exact hq.elim
  | .ok (.ret u), ⟨v, H', os, bare, un, ok', r', q⟩ =>
    have q1 : v = .bl true := q
    subst q1
    have ru : u = Value.bool true := r'
    subst ru
    refine ⟨rfl, OldK.of_keep fun b o e => ?_, os, bare⟩
    rcases B.only b with z | ⟨ob, xs, z⟩
    · exact un.keep b o e z (fun y => absurd (show b ∈ ([] : List Addr) from y) (by simp)) (by simp)
    · have e1 := (ok b _ z).1
      have e2 := (ok' b _ (un.frzs b ob _ z)).1
      rw [e] at e1
      rw [e2, e1]
theorem law_callG (KX : K.In s1.heap) (hns : s1.heap.Ns mainGlobals mg) (hb : s1.heap.Ns builtinsNs mb)
    (hbb : ∀ x : Str, x ≠ "__name__" → mb x = bootBuiltins x) (hlim : s1.heap.NoLimit) (hg : s1.gens = #[])
    (ha : s1.heap.get? a = some { cls := .type "list", data := .seq vs.toArray }) (hi : IntsAre vs ns) (hl : ns.length ≤ sizeLine) (hr : Room k callerA)
    (F : ∀ base : Heap, K.In base → base.Ns mainGlobals mg → FnG P w K mg base k fa fd [x] sp)
    (hbind : ∀ (s : Shared) (u : Value), BindsTo s fd ⟨[u], []⟩ [(x, u)])
    (hsp : ∀ H : Hp, Only H → SqL K H a (ns.map V.int) → sp [.ref a] H (fun v _ => v = .bl true) fun _ _ _ => False) :
    codeAny (model P w) callerA (.call (.ref fa) ⟨[.ref a], []⟩)
      (fun r s' => r = .ok (.ret (.bool true)) ∧ OldK s1.heap s'.heap ∧ s'.os = s1.os ∧ AllBare s'.gens) s1 := by
  have rv : Vals (ns.map V.int) vs := vals_ints hi
  have hlen : vs.length = ns.length := hi.length
  by_cases hk : ∃ o, K.lookup a = some o
  · obtain ⟨o, hk⟩ := hk
    have e := KX a o hk
    rw [ha] at e
    have eo := Option.some.inj e
    subst eo
    have hO : Only (fun _ => none) := fun _ => .inl rfl
    refine law_run KX hns hb hbb hlim hg ha (H := fun _ => none) ⟨hO, fun b z => absurd rfl z, fun z => absurd rfl z⟩ (fun b u z => nomatch (show (none : Option HO) = some u from z)) hr F hbind (hsp _ hO ?_)
    exact .inr ⟨_, vs.toArray, _, hk, rfl, rfl, rfl, by rw [List.size_toArray, hlen]; exact hl, by simpa using rv⟩
  · have hk0 : K.lookup a = none := Option.eq_none_iff_forall_ne_some.mpr fun o q => hk ⟨o, q⟩
    let H1 : Hp := upd (fun _ => none) a (.frz { cls := .type "list", data := .seq vs.toArray } (.lst (ns.map V.int)))
    have at1 : ∀ b, H1 b ≠ none → b = a := fun b z => Decidable.byContradiction fun n => z (upd_ne n)
    have hO : Only H1 := fun b => by
      by_cases n : b = a
      · exact .inr ⟨_, _, by rw [n]; exact upd_same⟩
      · exact .inl (upd_ne n)
    refine law_run KX hns hb hbb hlim hg ha (H := H1) ⟨hO, at1, fun _ => hk0⟩ (fun b u z => ?_) hr F hbind (hsp _ hO (.inl (.inr ⟨_, upd_same⟩)))
    have eb := at1 b (by rw [z]; exact fun q => nomatch q)
    subst eb
    have z2 : some (HO.frz { cls := .type "list", data := .seq vs.toArray } (.lst (ns.map V.int))) = some u := upd_same.symm.trans z
    cases z2
    exact ⟨ha, by rw [List.length_map]; exact hl, vs, _, rv, ha⟩

/-- the goal that k_head leaves, from the law's guarded promise -/
theorem walk_ofG {l : PySem.W.OpenLaw} {n k : Nat} {q : Program} {loose : List Str} {XP : (Str → Option Value) → Heap → Prop} {YP : World → Heap → Prop}
    {d : DefRec} {K : Params → PySem.W.Frag} {sp : World → Sp} {x : Str}
    (hn : l.most = some n) (hn2 : n ≤ sizeLine) (hdf : d.params.defaults = []) (hr : Room k callerA)
    (hY : ∀ (w : World) (h : Heap), YP w h → (K w.params).In h)
    (F : ∀ (w : World) (mg : Str → Option Value) (fa : Addr) (h : Heap), (K w.params).In h → h.Ns mainGlobals mg → mg d.name = some (.ref fa) →
      ∃ fd : FuncData, (∀ (s : Shared) (u : Value), BindsTo s fd ⟨[u], []⟩ [(x, u)]) ∧
        ∀ base : Heap, (K w.params).In base → base.Ns mainGlobals mg → FnG l.prog w (K w.params) mg base k fa fd [x] (sp w))
    (hsp : ∀ (w : World) (H : Hp) (a : Addr) (ns : List Int), ns.length ≤ n → Only H → SqL (K w.params) H a (ns.map V.int) →
      sp w [.ref a] H (fun v _ => v = .bl true) fun _ _ _ => False) :
    PySem.W.WalkO q loose XP YP l.row.toRowW d [] (fun f vs => PySem.call f vs) :=
  Att.attach_call hn hdf fun w s₀ s₁ mg mb fa o pm cd doc a vs ns G Y ho hd hcd hmg hobj hints hlen hg =>
    have KX := hY w _ Y
    match F w mg fa _ KX G.T.g hmg with
    | ⟨_, hb, hF⟩ => law_callG KX G.T.g G.T.b G.T.builtins G.T.nolimit hg hobj hints (Nat.le_trans hlen hn2) hr hF hb
        (fun H hO hS => hsp w H a ns hlen hO hS)
end

/-! ### a call by keywords alone, in the opposite order of the parameters -/
def revG (us ws : List Value) : List Value := match us with
  | [] => ws.reverse
  | _ => []
def revV (us ws : List V) : List V := match us with
  | [] => ws.reverse
  | _ => []
theorem Vals.rev : ∀ {vs : List V} {us : List Value}, Vals vs us → Vals vs.reverse us.reverse
  | _, _, .nil => .nil
  | _, _, .cons r t => by
    rw [List.reverse_cons, List.reverse_cons]
    exact Vals.append (Vals.rev t) (.cons r .nil)
theorem revK {K : PySem.W.Frag} {fd : FuncData} {ps ks : List Str} (hp : ps ≠ []) (h : ∀ ws : List Value, ws.length = ps.length → bindArgs fd ⟨[], ks.zip ws⟩ = pure (ps.zip ws.reverse)) : KBinds K fd ps ks revG revV where
  to := fun s us ws _ hl => by
    cases us with
    | nil => exact .of_eq (h ws (by rw [← hl]; exact (List.length_reverse).symm))
    | cons u us =>
      have hl' : ([] : List Value).length = ps.length := hl
      exact absurd (List.length_eq_zero_iff.mp hl'.symm) hp
  rel := fun {vs us zs ws} r1 r2 => by
    cases r1 with
    | nil => exact Vals.rev r2
    | cons _ _ => exact .nil
theorem funRevK {K : PySem.W.Frag} {x qual : Str} {st : Stmt} {f : Addr} {fd : FuncData} {ps ks : List Str} (F : Fun K x qual st f fd) (hp : ps ≠ [])
    (h : ∀ (kV doc pm : Value) (an : Option Addr) (cdv ct : Value) (ws : List Value), ws.length = ps.length →
      bindArgs (PySem.W.fnOf x qual (defArgs st) (defBody st) (defScope st) .none kV doc pm an cdv ct) ⟨[], ks.zip ws⟩ = pure (ps.zip ws.reverse)) : KBinds K fd ps ks revG revV := by
  obtain ⟨oc, od, kV, doc, pm, an, cd, ct, sl, efd, look, code⟩ := F.ex
  subst efd
  exact revK hp (h kV doc pm an cd ct)
section
variable {X : Cx} {CX : CXT} {k : Nat} {f : Addr} {fd : FuncData} {ps ks : List Str} {sp : Sp} {E : XK} {x : Str} {p pos : Pos} {kws : List Keyword} {tk : TA} {g : List Value → List Value → List Value} {gV : List V → List V → List V}
theorem pe_callK0 (F : FnOk X.prog X.w X.K X.mg X.base CX k f fd ps sp) (hr : Room k X.A) (hg : Gl X x) (hm : X.mg x = some (.ref f)) (hk : PySem.W.keepIn X.K (.ref f) = true)
    (hb : KBinds X.K fd ps ks g gV) (hx : Passes CX X E) (hkw : PK X kws tk)
    (hall : (backToKw pos (keywordEach kws X.env)).all (·.1.isSome) = true := by rfl)
    (hks : (backToKw pos (keywordEach kws X.env)).filterMap (·.1) = ks := by rfl)
    (hdb : (x == ("__debug__" : Str)) = false := by decide)
    (hpl : ((backTo pos (starEach [] X.env)).any (·.1) || (backToKw pos (keywordEach kws X.env)).any (·.1.isNone)) = false := by rfl) :
    PE X (.Call (.Name x p) [] kws pos) (tCallK sp gV E tNil tk) := by
  constructor
  intro pins s sg H Q I h
  refine wpAny_Call_Name_kw (ld_glob I hg hm ?_ hdb)
  refine PySem.W.callWith_KW0 (h₀ := X.base) I.ok.mod.kin hk hall (thn (hkw.run pos pins s sg H _ I h) ?_) hpl
  rintro ws s2 ⟨zs, H2, I2, rz, q2⟩
  refine ⟨I2.kIn, ?_⟩
  rw [hks]
  exact run_fnk (us := []) (vs := []) F hr hb hx I2 .nil rz q2
end
end Os
/-! further rules by values: ** of great ints, repr of data, len(set(texts)), text * int, a call by keywords alone -/
namespace Os
open PySem PySem.Spec PyProof.Rows L2

/-! ### great powers -/
section
variable {X : Cx}
theorem op_powW : OpR X (binaryOp .Pow) (rI (fun i j => 0 ≤ j ∧ (Builtin.Int.intBits i : Int) * j ≤ 2 ^ 27) fun i j => .int (i ^ j.toNat)) :=
  opI fun _ _ _ _ _ _ _ hc q => pow_int hc.1 hc.2 q
end
theorem cube_ok {i : Int} {n : Nat} (h : i.natAbs < 2 ^ n) (h0 : 0 < n) (hn : n ≤ 1000000) : (0 : Int) ≤ 3 ∧ (Builtin.Int.intBits i : Int) * 3 ≤ 2 ^ 27 := by
  have hl := PySem.Flt.log2_lt_of h0 h
  have hb : Builtin.Int.intBits i ≤ i.natAbs.log2 + 1 := by
    unfold Builtin.Int.intBits
    split <;> omega
  omega

/-! ### text * int -/
section
variable {X : Cx}
def rMulS : R2 := fun x y H Q => ∃ (z : Str) (n : Int), x = .str z ∧ y = .int n ∧ MulOk z n ∧ Q (.str (Txt.mul z n)) H
theorem op_mulS : OpR X (binaryOp .Mult) rMulS := by
  intro pins s sg H x y v u Q I rx ry h
  obtain ⟨z, n, rfl, rfl, ok, q⟩ := h
  obtain ⟨t, rfl⟩ := rx
  obtain ⟨t', rfl⟩ := ry
  exact PySem.SB.mul ok fun t2 k => ⟨.str _, H, I.tok _, ⟨_, rfl⟩, q⟩
theorem mul_small {z : Str} {n : Int} (h0 : 0 ≤ n) (h1 : n ≤ 1000) (hz : z.length ≤ 1000) : MulOk z n := by
  refine ⟨?_, fun h _ => ?_, fun h _ => ?_⟩
  · rw [decide_eq_false (by omega), decide_eq_false (by omega)]
    rfl
  · have hn : 0 < n := by omega
    have : (1000 : Int) ≤ (2 ^ 63 - 1) / n := (Int.le_ediv_iff_mul_le hn).mpr (by omega)
    omega
  · have hm : z.length * n.toNat ≤ 1000 * 1000 := Nat.mul_le_mul hz (by omega)
    unfold Builtin.Str.tooLong
    have hl : (1000 * 1000 : Nat) ≤ sizeLine := by decide
    simp only [decide_eq_false_iff_not]
    omega
end

/-! ### data that stands in the tracked heap -/
mutual
inductive Dt (H : Hp) : V → PyData → Prop
  | non : Dt H .non .none
  | bl (b : Bool) : Dt H (.bl b) (.bool b)
  | int (i : Int) : Dt H (.int i) (.int i)
  | str (x : Str) : Dt H (.str x) (.str x)
  | lst {a : Addr} {xs : List V} {ds : List PyData} : H a = some (.lst xs) → Dts H xs ds → Dt H (.ref a) (.list ds)
  | tup {a : Addr} {xs : List V} {ds : List PyData} : H a = some (.tup xs) → Dts H xs ds → Dt H (.ref a) (.tuple ds)
inductive Dts (H : Hp) : List V → List PyData → Prop
  | nil : Dts H [] []
  | cons {v : V} {vs : List V} {d : PyData} {ds : List PyData} : Dt H v d → Dts H vs ds → Dts H (v :: vs) (d :: ds)
end
section
variable {H H' : Hp}
mutual
theorem Dt.same (e : Same H H') : ∀ {d : PyData} {v : V}, Dt H v d → Dt H' v d
  | _, _, .non => .non
  | _, _, .bl b => .bl b
  | _, _, .int i => .int i
  | _, _, .str x => .str x
  | _, _, .lst h t => .lst (e _ _ h) (Dts.same e t)
  | _, _, .tup h t => .tup (e _ _ h) (Dts.same e t)
theorem Dts.same (e : Same H H') : ∀ {ds : List PyData} {vs : List V}, Dts H vs ds → Dts H' vs ds
  | _, _, .nil => .nil
  | _, _, .cons h t => .cons (Dt.same e h) (Dts.same e t)
end
mutual
theorem Dt.dp {K : PySem.W.Frag} : ∀ {d : PyData} {v : V}, Dt H v d → Dp K H v d
  | _, _, .non => .non
  | _, _, .bl b => .bl b
  | _, _, .int i => .int i
  | _, _, .str x => .str x
  | _, _, .lst h t => .lst (.inl (.inl h)) (Dts.dp t)
  | _, _, .tup h t => .tup (.inl (.inl h)) (Dts.dp t)
theorem Dts.dp {K : PySem.W.Frag} : ∀ {ds : List PyData} {vs : List V}, Dts H vs ds → DpAll K H vs ds
  | _, _, .nil => .nil
  | _, _, .cons h t => .cons (Dt.dp h) (Dts.dp t)
end
theorem Dts.length : ∀ {ds : List PyData} {vs : List V}, Dts H vs ds → vs.length = ds.length
  | _, _, .nil => rfl
  | _, _, .cons _ t => congrArg (· + 1) (Dts.length t)
theorem Dts.get : ∀ {ds : List PyData} {vs : List V} {i : Nat} {v : V}, Dts H vs ds → vs[i]? = some v → ∃ d, ds[i]? = some d ∧ Dt H v d
  | _, _, _, _, .nil, e => by simp at e
  | _, _, 0, _, .cons h _, e => by simp at e; subst e; exact ⟨_, rfl, h⟩
  | _, _, i + 1, v, .cons _ t, e => by
    obtain ⟨d, h1, h2⟩ := Dts.get (i := i) (v := v) t (by simpa using e)
    exact ⟨d, by simpa using h1, h2⟩
end

/-! ### repr of such data -/
section
variable {X : Cx}
/-- how large data is when it is shown -/
structure Fit (n : Nat) (d : PyData) : Prop where
  long : d.shown.length ≤ n
  deep : d.depth ≤ 40
  show' : d.showable = true
  flat : d.hasDict = false
def rRepr : List V → Hp → VK → Prop := fun xs H Q => ∃ (x : V) (d : PyData), xs = [x] ∧ Dt H x d ∧ Fit sizeLine d ∧ Q (.str d.shown) H
theorem call_repr (gd : X.A.guards = some []) (hu : X.A.units + 64 < cLine) : CallR X (.builtin "repr") rRepr := by
  intro pins s sg H xs us Q I r h
  obtain ⟨x, d, e, hd, fit, q⟩ := h
  subst e
  obtain ⟨u, rfl, ru⟩ := Vals.one r
  have line : d.shown.length ≤ sizeLine := fit.long
  match d, x, hd with
  | _, _, .non =>
    cases ru
    exact PySem.P.repr_of_none ⟨.str _, H, I.tok _, ⟨_, rfl⟩, by simpa only [PyData.shown] using q⟩
  | _, _, .bl b =>
    cases ru
    exact PySem.P.repr_of_bool ⟨.str _, H, I.tok _, ⟨_, rfl⟩, by simpa only [PyData.shown] using q⟩
  | _, _, .int i =>
    obtain ⟨t, rfl⟩ := ru
    have hz : i.natAbs.log2 < 1920 := of_decide_eq_true (by simpa only [PyData.showable] using fit.show')
    exact PySem.P.repr_of_int hz ⟨.str _, H, I.tok _, ⟨_, rfl⟩, by simpa only [PyData.shown] using q⟩
  | _, _, .str z =>
    obtain ⟨t, rfl⟩ := ru
    exact PySem.P.repr_of_str ⟨.str _, H, I.tok _, ⟨_, rfl⟩, by simpa only [PyData.shown] using q⟩ (by simpa only [PyData.shown] using line)
  | _, _, .lst ha ht =>
    obtain ⟨as, rd⟩ := Dp.reads I _ _ u (Dt.dp (.lst ha ht)) ru
    cases ru
    refine PySem.repr_of_reads' rd fit.show' (PyData.noDict_hsm fit.flat) gd (by have := fit.deep; omega) (fun _ _ z => z) (fun h' u' tk k => ?_) line
    exact ⟨.str _, H, I.kept k, ⟨_, rfl⟩, q⟩
  | _, _, .tup ha ht =>
    obtain ⟨as, rd⟩ := Dp.reads I _ _ u (Dt.dp (.tup ha ht)) ru
    cases ru
    refine PySem.repr_of_reads' rd fit.show' (PyData.noDict_hsm fit.flat) gd (by have := fit.deep; omega) (fun _ _ z => z) (fun h' u' tk k => ?_) line
    exact ⟨.str _, H, I.kept k, ⟨_, rfl⟩, q⟩
end
end Os
/-! len(set(xs)), xs a list of texts of any number below 4000 -/
namespace Os
open PySem PySem.Spec PyProof.Rows L2

/-- the texts met so far, each once -/
def once : List Str → List Str
  | [] => []
  | x :: r => if x ∈ once r then once r else x :: once r
/-- the same from the left, over the first i of them -/
def met (xs : List Str) (i : Nat) : List Str := once (xs.take i).reverse
theorem met_zero (xs : List Str) : met xs 0 = [] := rfl
theorem met_succ {xs : List Str} {i : Nat} {x : Str} (h : xs[i]? = some x) : met xs (i + 1) = if x ∈ met xs i then met xs i else x :: met xs i := by
  unfold met
  rw [List.take_add_one, h]
  show once ((xs.take i ++ [x]).reverse) = _
  rw [List.reverse_append]
  rfl
theorem once_mem : ∀ {l : List Str} {x : Str}, x ∈ once l ↔ x ∈ l
  | [], _ => Iff.rfl
  | y :: r, x => by
    have ih := @once_mem r
    unfold once
    split
    · rename_i hy
      rw [ih, List.mem_cons]
      exact ⟨.inr, fun z => z.elim (fun e => by rw [e]; exact ih.mp hy) id⟩
    · rw [List.mem_cons, List.mem_cons, ih]
theorem once_le : ∀ l : List Str, (once l).length ≤ l.length
  | [] => Nat.le_refl _
  | y :: r => by
    have ih := once_le r
    unfold once
    split
    · exact Nat.le_succ_of_le ih
    · exact Nat.succ_le_succ ih
theorem once_nodup : ∀ l : List Str, (once l).length = l.length ↔ l.Nodup
  | [] => ⟨fun _ => .nil, fun _ => rfl⟩
  | y :: r => by
    have ih := once_nodup r
    have le := once_le r
    unfold once
    rw [List.nodup_cons]
    split
    · rename_i hy
      constructor
      · intro e
        rw [List.length_cons] at e
        omega
      · intro e
        exact absurd (once_mem.mp hy) e.1
    · rename_i hy
      rw [List.length_cons, List.length_cons]
      constructor
      · intro e
        exact ⟨fun z => hy (once_mem.mpr z), ih.mp (Nat.succ.inj e)⟩
      · intro e
        rw [ih.mpr e.2]
theorem met_le (xs : List Str) (i : Nat) : (met xs i).length ≤ i := by
  refine Nat.le_trans (once_le _) ?_
  rw [List.length_reverse, List.length_take]
  exact Nat.min_le_left _ _
theorem met_all (xs : List Str) : (met xs xs.length).length = xs.length ↔ xs.Nodup := by
  unfold met
  rw [List.take_length]
  have := once_nodup xs.reverse
  rw [List.length_reverse] at this
  rw [this]
  unfold List.Nodup
  rw [List.pairwise_reverse]
  exact ⟨fun h => h.imp fun a => a.symm, fun h => h.imp fun a => a.symm⟩

section
variable {prog : Program} {w : World} {A : Around} {R : Result → Shared → Prop} {I : Addr} {fp wr : List Addr} {G : Array GenState → Array GenState → Prop} {n : Nat} {P : Nat → Value → Prop} {St : Nat → Shared → Prop}
/-- what the set at S holds behind i turns -/
abbrev Holds (prog : Program) (w : World) (xs : List Str) (S : Addr) (i : Nat) (h : Heap) : Prop :=
  h.SetOf (PySem.strKind prog w) S (fun k => decide (k ∈ met xs i)) (met xs i).length
theorem set_fill (W : WalksS prog w A.in1 I fp wr G n P St) (S : Addr) (out : S ∉ fp) (xs : List Str)
    (ln : xs.length = n) (val : ∀ i v, P i v → ∃ x t, xs[i]? = some x ∧ v = .str x t) (room : n + 1 < scanBound) :
    ∀ (left i : Nat) (s : Shared), i + left = n → St i s → Holds prog w xs S i s.heap →
      (∀ s', Moved (S :: wr) G s s' → Holds prog w xs S n s'.heap → R (.ok (.ret .none)) s') →
      codeAny (model prog w) A (.builtin "set.update.loop" ⟨[.ref S, .ref I], []⟩) R s := by
  have noS : S ∉ wr := fun z => out (W.sub _ z)
  have more : ∀ b ∈ wr, b ∈ S :: wr := fun _ z => List.mem_cons_of_mem _ z
  have carried : ∀ {i : Nat} {s s' : Shared}, Moved wr G s s' → Holds prog w xs S i s.heap → Holds prog w xs S i s'.heap := by
    rintro i s s' mv ⟨o, es, ep, t, ho, rest⟩
    exact ⟨o, es, ep, t, mv.heap S _ noS ho, rest⟩
  intro left
  induction left with
  | zero =>
    intro i s e st hS fin
    have ein : i = n := e
    subst ein
    refine codeAny_builtin PyProof.Rows.F.entry_set_update_loop ?_
    rw [Around.under_plainId PyProof.Rows.F.plain_set_update_loop _]
    refine wpAny_bind (m := pyNext (.ref I)) (W.done s _ _ st fun s' mv => ?_)
    exact wpAny_pure (fin s' (mv.mono more) (carried mv hS))
  | succ left ih =>
    intro i s e st hS fin
    have lt : i < n := by omega
    refine codeAny_builtin PyProof.Rows.F.entry_set_update_loop ?_
    rw [Around.under_plainId PyProof.Rows.F.plain_set_update_loop _]
    refine wpAny_bind (m := pyNext (.ref I)) (W.item i s _ _ lt st fun v s' hP st' mv => ?_)
    obtain ⟨x, t, hx, ev⟩ := val i v hP
    subst ev
    have hS1 := carried mv hS
    show wpAny _ A.in1 (holding [Value.str x t] (setAdd S (.str x t)) >>= _) _ _ s'
    refine wpAny_bind (wpAny_holding ?_)
    unfold setAdd
    refine wpAny_holding (wpAny_bind ((PySem.strKind prog w).pyHash (k := x) (strKind_is _ _ _ _) ?_))
    have fits : (met xs i).length + 1 < scanBound := by
      have := met_le xs i
      omega
    refine wpAny_setAddHashed_of (knd := PySem.strKind prog w) (s := { s' with toks := s'.toks + 1 }) (strKind_is _ _ _ _) rfl hS1 fits fun h' same hS2 => ?_
    have hS3 : Holds prog w xs S (i + 1) h' := by
      refine PyProof.Rows.SetOf_congr hS2 (fun k => ?_) ?_
      · rw [met_succ hx]
        by_cases m : x ∈ met xs i
        · rw [if_pos m]
          by_cases ek : k = x
          · subst ek
            simp [m]
          · simp [ek]
        · rw [if_neg m]
          by_cases ek : k = x
          · subst ek
            simp
          · simp [ek]
      · rw [met_succ hx]
        by_cases m : x ∈ met xs i
        · simp [m]
        · simp [m]
    refine wpAny_pure ⟨plainId_quiet PyProof.Rows.F.plain_set_update_loop _, ih (i + 1) _ (by omega) (W.frame _ s' _ _ st' (Nat.le_succ _) fun b hb o q => ?_) hS3 fun s2 mv2 hS4 => ?_⟩
    · rw [same.2 b (fun z : b = S => out (by rw [← z]; exact hb))]
      exact q
    · refine fin s2 (Moved.trans W.gtrans ((mv.mono more).then_heap (Nat.le_succ _) fun b o hb q => ?_) mv2) hS4
      rw [same.2 b (fun z : b = S => hb (by rw [z]; exact List.mem_cons_self))]
      exact q
end

section
variable {prog : Program} {w : World} {A : Around} {E : Value → Shared → Prop} {s : Shared}
/-- a new set -/
abbrev freshSet (led : Bool) : Obj := { cls := .type "set", dict := none, data := .set #[] 0 (.fresh 0 0 led) }
/-- its __init__ over a list of texts -/
theorem init_set_strs {l : Addr} {items : Array Value} {xs : List Str} {led : Bool} {R : Result → Shared → Prop} (hh : A.handled = none)
    (hl : s.heap.IsList l items) (hi : PyProof.Rows.StrsAre items.toList xs) (room : xs.length + 1 < scanBound)
    (h : ∀ (h' : Heap) (tk : Nat), Holds prog w xs s.heap.objs.size xs.length h' →
      (∀ b o, b < s.heap.objs.size → s.heap.get? b = some o → h'.get? b = some o) → R (.ok (.ret .none)) { s with heap := h', toks := tk }) :
    wpAny (model prog w) A.in1 (Builtin.«set.__init__» ⟨[.ref s.heap.objs.size, .ref l], []⟩) (fun fin s' => match fin with
        | .done f => R (.ok f) s'
        | .again c => c.quiet = true ∧ codeAny (model prog w) A c R s')
      (fun e s' => R (.error e) s') { s with heap := s.heap.push (freshSet led) } := by
  obtain ⟨⟨_, od, _, osl⟩, hol, rfl, nl, rfl⟩ := hl
  have there : (s.heap.push (freshSet led)).get? l = some ⟨.type "list", od, .seq items nl, osl⟩ := Heap.get?_push_of_some _ hol
  have newAt : (s.heap.push (freshSet led)).get? s.heap.objs.size = some (freshSet led) := Heap.get?_push_size _ rfl
  have lst1 : (s.heap.push (freshSet led)).IsList l items := ⟨_, there, rfl, nl, rfl⟩
  have hT : Shared.TypeIs { s with heap := s.heap.push (freshSet led) } (.ref s.heap.objs.size) "set" := ⟨_, newAt, rfl⟩
  have subS := PySem.F.sub_list_set
  have subF := PySem.F.sub_list_frozenset
  have notD : (Value.type "list" == Value.type "dict") = false := by decide
  unfold Builtin.«set.__init__» noKeywords Builtin.Frozenset.updateFrom
  generalize hPI : pyIter = PI
  wp_walk
  subst hPI
  refine wpAny_pyIter_list lst1 ?_
  refine wpAny_bind (wpAny_runValue ?_)
  have lS : l < s.heap.objs.size := Heap.lt_size hol
  have hh2 : A.in1.in1.handled = none := by simp [hh]
  have apart : l ≠ (s.heap.push (freshSet led)).objs.size := by
    rw [Heap.size_push]
    exact Nat.ne_of_lt (Nat.lt_succ_of_lt lS)
  have outer : s.heap.objs.size ∉ [(s.heap.push (freshSet led)).objs.size, l] := by
    rw [Heap.size_push]
    intro z
    rcases List.mem_cons.mp z with z | z
    · exact absurd z (Nat.ne_of_lt (Nat.lt_succ_self _))
    · exact absurd (List.mem_singleton.mp z) (Nat.ne_of_gt lS)
  have hsz : xs.length = items.size := by rw [← StrsAre.len_eq hi, Array.length_toList]
  have vals : ∀ (i : Nat) (v : Value), items[i]? = some v → ∃ x t, xs[i]? = some x ∧ v = .str x t := fun i v hv => by
    rw [← Array.getElem?_toList] at hv
    obtain ⟨t, e⟩ := SS.strs_at hi i v hv
    have lt : i < xs.length := by
      rw [← StrsAre.len_eq hi]
      exact (List.getElem?_eq_some_iff.mp hv).1
    refine ⟨xs[i], t, List.getElem?_eq_getElem lt, ?_⟩
    rw [e, List.getD_eq_getElem?_getD, List.getElem?_eq_getElem lt]
    rfl
  refine set_fill ((Walks.list hh2 _ l apart items).toS) s.heap.objs.size outer xs hsz vals (by rw [← hsz]; exact room) items.size 0 _ (Nat.zero_add _)
    ?start ?first ?last
  case start => exact ⟨⟨_, Heap.get?_push_size _ rfl, rfl, rfl⟩, (lst1.push _)⟩
  case first =>
    refine PyProof.Rows.SetOf_congr ((PyProof.Rows.setObjOf_fresh (knd := PySem.strKind prog w) led).setOf (Heap.get?_push_of_some _ newAt) (by unfold scanBound; omega)) (fun k => ?_) rfl
    rw [met_zero]
    rfl
  case last =>
    intro s' mv hS
    obtain ⟨h', g', d', tk', os'⟩ := s'
    have e1 : g' = s.gens := mv.gens
    have e2 : d' = s.drawn := mv.drawn
    have e3 : os' = s.os := mv.os
    subst e1 e2 e3
    show wpAny _ _ _ _ _ _
    refine wpAny_pure ?_
    refine wpAny_pure (h h' tk' (by rw [hsz]; exact hS) fun b o hb q => ?_)
    refine mv.heap b o (fun z => ?_) (Heap.get?_push_of_some _ (Heap.get?_push_of_some _ q))
    rcases List.mem_cons.mp z with z | z
    · exact absurd z (Nat.ne_of_lt hb)
    · rw [List.mem_singleton, Heap.size_push] at z
      exact absurd z (Nat.ne_of_lt (Nat.lt_succ_of_lt hb))

/-- set(xs), xs a list of texts -/
theorem call_set_strs {l : Addr} {items : Array Value} {xs : List Str} {Q : Value → Shared → Prop} (hh : A.handled = none)
    (hl : s.heap.IsList l items) (hi : PyProof.Rows.StrsAre items.toList xs) (room : xs.length + 1 < scanBound)
    (h : ∀ (h' : Heap) (tk : Nat), Holds prog w xs s.heap.objs.size xs.length h' →
      (∀ b o, b < s.heap.objs.size → s.heap.get? b = some o → h'.get? b = some o) → Q (.ref s.heap.objs.size) { s with heap := h', toks := tk }) :
    wpAny (model prog w) A (call (.type "set") [.ref l]) Q E s := by
  obtain ⟨c, tl, mro⟩ := PySem.F.called_set.mro
  have made := PySem.F.called_set.made
  have sub := PySem.F.called_set.sub
  have noTy := PySem.F.called_set.notType
  have creates := PySem.F.called_set.canCreate
  have typeCall := PySem.F.typeCall_set_1 (.ref l)
  refine wpAny_call (codeAny_of_tree ?_)
  show wpAny _ _ (callAny (.type "set") _) _ _ _
  refine wpAny_pure ⟨Code.quiet_builtin _ (by decide +kernel), codeAny_builtin PySem.F.entry_type_call ?_⟩
  rw [Around.under_plain (weight_type_call_type "set" [.ref l] []) rfl]
  repeat (any_goals (first | assumption | wp_step))
  refine codeAny_mono (code_set_new_1 (.ref l) (E := E) (Q₁ := fun v s₁ => ∃ led : Bool, v = .ref s.heap.objs.size ∧ s₁ = { s with heap := s.heap.push (freshSet led) }) fun led => ⟨led, rfl, rfl⟩) ?_
  intro r s1 hr
  match r, hr with
  | .error _, hr => exact hr
  | .ok .next, hr => exact hr.elim
  | .ok .brk, hr => exact hr.elim
  | .ok .cont, hr => exact hr.elim
  | .ok (.ret v), ⟨led, ev, es⟩ =>
    subst ev es
    have newAt : (s.heap.push (freshSet led)).get? s.heap.objs.size = some (freshSet led) := Heap.get?_push_size _ rfl
    have hT : Shared.TypeIs { s with heap := s.heap.push (freshSet led) } (.ref s.heap.objs.size) "set" := ⟨_, newAt, rfl⟩
    have initLook := PySem.F.called_set.init.lookup
    have initBind := PySem.F.called_set.init.bind (.ref s.heap.objs.size)
    repeat (any_goals (first | assumption | wp_step))
    refine codeAny_mono (codeAny_call_builtin (R := wants (fun v s2 => v = .none ∧ ∃ h' tk, s2 = { s with heap := h', toks := tk } ∧ Holds prog w xs s.heap.objs.size xs.length h' ∧
      (∀ b o, b < s.heap.objs.size → s.heap.get? b = some o → h'.get? b = some o)) E) PySem.F.called_set.init.plain PySem.F.entry_set_init (check_set_init_1 hT (init_set_strs (by simp [hh]) hl hi room fun h' tk a b => ⟨rfl, h', tk, rfl, a, b⟩))) ?_
    intro r2 s2 hr2
    match r2, hr2 with
    | .error _, hr2 => exact hr2
    | .ok .next, hr2 => exact hr2.elim
    | .ok .brk, hr2 => exact hr2.elim
    | .ok .cont, hr2 => exact hr2.elim
    | .ok (.ret v2), ⟨ev2, h', tk, es2, a, b⟩ =>
      subst ev2 es2
      repeat (any_goals (first | assumption | wp_step))
      exact h _ _ a b
end

/-- len(set(xs)) -/
def tLenSetS (K : PySem.W.Frag) (ta : TE) : TE := fun σ H Q => ta σ H fun x H1 => ∃ (l : Addr) (xs : List Str), x = .ref l ∧ SqL K H1 l (xs.map V.str) ∧ xs.length ≤ 4000 ∧ Q (.int (met xs xs.length).length) H1
theorem pe_lenSetS {X : Cx} {a : Expr} {ta : TE} {p p2 q pos : Pos} (hg : Gl X "len") (hm : X.mg "len" = none) (hg2 : Gl X "set") (hm2 : X.mg "set" = none) (ha : PE X a ta) (hc : X.calm = true := by rfl)
    (na : starEach [a] X.env = (false, eval a X.env) :: starEach [] X.env := by rfl) : PE X (.Call (.Name "len" p) [.Call (.Name "set" p2) [a] [] q] [] pos) (tLenSetS X.K ta) := by
  constructor
  intro pins s sg H Q I h
  refine Call_ (ld_blt I hg hm boot_len ?_)
  refine PyProof.Rows.callWith_builtin1 (PyProof.Rows.args_cons ?_ rfl) rfl rfl
  refine Call_ (ld_blt I hg2 hm2 boot_set ?_)
  refine PyProof.Rows.callWith_type1 (PyProof.Rows.args_cons (thn (ha.run pins s sg H _ I h) ?_) na) na rfl
  rintro v s1 ⟨x, H1, I1, r1, l, xs, ex, hq, hl, q1⟩
  refine PyProof.Rows.args_nil ?_
  subst ex
  cases r1
  obtain ⟨its, r, pl, hz⟩ := I1.list hq
  refine call_set_strs (I1.ok.hd hc) pl.isList (by simpa using Vals.strs r) (by unfold scanBound; omega) fun h' tk hS hk => ?_
  refine PyProof.Rows.args_nil ?_
  obtain ⟨o, es, ep, t, ho, hex, hd, _, _, _, hf, hn⟩ := hS
  have I2 : Inv X pins sg H1 { s1 with heap := h', toks := tk } := I1.kept fun b o e => hk b o (Heap.lt_size e) e
  have small : (met xs xs.length).length ≤ 4000 := Nat.le_trans (met_le xs _) hl
  exact call_len_set ho hex hd hf (by rw [hn]; omega) ⟨.int (met xs xs.length).length, H1, I2.tok _, ⟨_, by rw [hn]⟩, q1⟩
end Os
namespace Os
open PySem PySem.Spec PyProof.Rows L2

/-! ### kinds of data -/
def tyName : PyData → String
  | .none => "NoneType"
  | .bool _ => "bool"
  | .int _ => "int"
  | .str _ => "str"
  | .list _ => "list"
  | .tuple _ => "tuple"
  | .dict _ => "dict"
def isStrD : PyData → Bool
  | .str _ => true
  | _ => false
def isListD : PyData → Bool
  | .list _ => true
  | _ => false
def isTupD : PyData → Bool
  | .tuple _ => true
  | _ => false
theorem kit_str (d : PyData) : kitB (tyName d) "str" = some (isStrD d) := by
  cases d <;> (simp only [tyName, isStrD, isListD, isTupD]; decide +kernel)
theorem kit_list (d : PyData) : kitB (tyName d) "list" = some (isListD d) := by
  cases d <;> (simp only [tyName, isStrD, isListD, isTupD]; decide +kernel)
theorem kit_tup (d : PyData) : kitB (tyName d) "tuple" = some (isTupD d) := by
  cases d <;> (simp only [tyName, isStrD, isListD, isTupD]; decide +kernel)
section
variable {H H' : Hp} {v : V} {d : PyData} {K : PySem.W.Frag}
theorem Dt.ty (h : Dt H v d) : TyOf K H v (.type (tyName d)) := by
  cases h with
  | non => exact .non
  | bl b => exact .bl b
  | int i => exact .int i
  | str x => exact .str x
  | lst ha _ => exact .lst ha
  | tup ha _ => exact .tup ha
theorem isi_of {T : String} {b : Bool} {Q : VK} (h : Dt H v d) (e : kitB (tyName d) T = some b) (q : Q (.bl b) H) : rIsi K [v, .ty T] H Q :=
  ⟨v, .ty T, _, _, b, rfl, .ty T, .base h.ty, kit_ty e, q⟩
theorem Dt.str_or (h : Dt H v d) : (∃ z, v = .str z ∧ d = .str z) ∨ isStrD d = false := by
  cases h with
  | str x => exact .inl ⟨x, rfl, rfl⟩
  | _ => exact .inr rfl
theorem Dt.list_or (h : Dt H v d) : (∃ a xs ds, v = .ref a ∧ H a = some (.lst xs) ∧ Dts H xs ds ∧ d = .list ds) ∨ isListD d = false := by
  cases h with
  | lst ha t => exact .inl ⟨_, _, _, rfl, ha, t, rfl⟩
  | _ => exact .inr rfl
theorem Dt.tup_or (h : Dt H v d) : (∃ a xs ds, v = .ref a ∧ H a = some (.tup xs) ∧ Dts H xs ds ∧ d = .tuple ds) ∨ isTupD d = false := by
  cases h with
  | tup ha t => exact .inl ⟨_, _, _, rfl, ha, t, rfl⟩
  | _ => exact .inr rfl
end
/-! ### heaps but for one address -/
/-- H without what stands at s -/
def hide (s : Addr) (H : Hp) : Hp := fun b => if b = s then none else H b
theorem hide_ne {s b : Addr} {H : Hp} (h : b ≠ s) : hide s H b = H b := if_neg h
theorem hide_at {s : Addr} {H : Hp} : hide s H s = none := if_pos rfl
theorem hide_of {s b : Addr} {H : Hp} {o : HO} (h : hide s H b = some o) : b ≠ s ∧ H b = some o := by
  unfold hide at h
  split at h
  · cases h
  · exact ⟨by assumption, h⟩
theorem hide_same {s : Addr} {H : Hp} : Same (hide s H) H := fun _ _ h => (hide_of h).2
theorem Same.hide {s : Addr} {H H' : Hp} (e : Same H H') : Same (Os.hide s H) (Os.hide s H') := fun b o h => by
  obtain ⟨h1, h2⟩ := hide_of h
  rw [hide_ne h1]
  exact e b o h2
theorem hide_upd {s : Addr} {H : Hp} {o : HO} : Os.hide s (upd H s o) = Os.hide s H := by
  funext b
  by_cases e : b = s
  · rw [e, hide_at, hide_at]
  · rw [hide_ne e, hide_ne e, upd_ne e]
theorem same_new {H : Hp} {p : Addr} {o : HO} (h : H p = none) : Same H (upd H p o) := fun b u e => by
  rw [upd_ne (ne_of_none e h)]
  exact e
/-- what H does not know may change -/
theorem same_mut {H H' : Hp} {p : Addr} {o : HO} (e : Same H H') (h : H p = none) : Same H (upd H' p o) := fun b u q => by
  rw [upd_ne (ne_of_none q h)]
  exact e b u q
theorem Same.none {H H' : Hp} (e : Same H H') {p : Addr} (h : H' p = Option.none) : H p = Option.none := e.free h
theorem hide_none {s p : Addr} {H : Hp} (h : H p = Option.none) : Os.hide s H p = Option.none := by
  unfold Os.hide
  split
  · rfl
  · exact h
end Os
namespace Os
open PySem PySem.Spec PyProof.Rows L2 Evl

/-! ### more of what evaluates to what -/
section
variable {K : PySem.W.Frag} {σ : L2.St} {H H' : Hp} {ta tb tc te : TE} {t : TT} {x y z v : V} {r r' : R2}
theorem same_ex (e : Ex H H') : Same H H' := e
theorem ev_isi {T : String} {b : Bool} {d : PyData} (h : Ev ta σ H v) (hd : Dt H v d) (e : kitB (tyName d) T = some b) :
    Ev (tCB (rIsi K) (tCons ta (tCons (tC (.ty T)) tNil))) σ H (.bl b) := fun H1 e1 Q q =>
  h H1 e1 _ fun H2 e2 => isi_of (hd.same (same_ex (e1.trans e2))) e (q H2 e2)
theorem ev_lenS {s : Str} (h : Ev ta σ H (.str s)) (hl : s.length ≤ 100000) :
    Ev (tCB (fun xs H Q => ∃ z, xs = [.str z] ∧ z.length ≤ sizeLine ∧ Q (.int z.length) H) (tCons ta tNil)) σ H (.int s.length) := fun H1 e1 Q q =>
  h H1 e1 _ fun H2 e2 => ⟨s, rfl, sz_of hl, q H2 e2⟩
theorem ev_chain {b c : Bool} (h1 : Ev ta σ H x) (h2 : Ev tb σ H y) (hr : RV r x y H (.bl b)) (h3 : b = true → ∃ z, Ev tc σ H z ∧ RV r' y z H (.bl c)) :
    Ev (tChain r r' ta tb tc) σ H (.bl (b && c)) := fun H1 e Q q =>
  h1 H1 e _ fun H2 e2 => h2 H2 (e.trans e2) _ fun H3 e3 => hr H3 ((e.trans e2).trans e3) _ fun H4 e4 => ⟨b, rfl, by
    cases b with
    | true =>
      obtain ⟨z, hz, hs⟩ := h3 rfl
      show tc σ H4 _
      exact hz H4 (((e.trans e2).trans e3).trans e4) _ fun H5 e5 => hs H5 ((((e.trans e2).trans e3).trans e4).trans e5) Q fun H6 e6 => q H6 ((((e2.trans e3).trans e4).trans e5).trans e6)
    | false =>
      show Q (.bl false) H4
      exact q H4 ((e2.trans e3).trans e4)⟩
theorem rv_leS {i j : Str} : RV (fun x y H Q => ∃ i j, x = .str i ∧ y = .str j ∧ Q (.bl (!decide (j.cps.toList < i.cps.toList))) H) (.str i) (.str j) H (.bl (!decide (j.cps.toList < i.cps.toList))) :=
  fun H1 _ _ q => ⟨i, j, rfl, rfl, q H1 (Ex.refl H1)⟩
theorem rv_notInSign {c : Nat} {s : Str} : RV (fun x y H Q => ∃ (c : Nat) (z : Str), x = .str ⟨#[c]⟩ ∧ y = .str z ∧ Q (.bl (!decide (c ∈ z.cps.toList))) H) (.str ⟨#[c]⟩) (.str s) H (.bl (!decide (c ∈ s.cps.toList))) :=
  fun H1 _ _ q => ⟨c, s, rfl, rfl, q H1 (Ex.refl H1)⟩
theorem ev_abs {i : Int} (h : Ev ta σ H (.int i)) : Ev (tCB (fun xs H Q => ∃ i, xs = [V.int i] ∧ Q (.int (if i < 0 then -i else i)) H) (tCons ta tNil)) σ H (.int (if i < 0 then -i else i)) := fun H1 e1 Q q =>
  h H1 e1 _ fun H2 e2 => ⟨i, rfl, q H2 e2⟩
theorem ev_max {i j : Int} (ha : Ev ta σ H (.int i)) (hb : Ev tb σ H (.int j)) : Ev (tCB (fun xs H Q => ∃ i j, xs = [V.int i, .int j] ∧ Q (.int (if j > i then j else i)) H) (tCons ta (tCons tb tNil))) σ H (.int (if j > i then j else i)) := fun H1 e1 Q q =>
  ha H1 e1 _ fun H2 e2 => hb H2 (e1.trans e2) _ fun H3 e3 => ⟨i, j, rfl, q H3 (e2.trans e3)⟩
theorem ev_min {i j : Int} (ha : Ev ta σ H (.int i)) (hb : Ev tb σ H (.int j)) : Ev (tCB (fun xs H Q => ∃ i j, xs = [V.int i, .int j] ∧ Q (.int (if j < i then j else i)) H) (tCons ta (tCons tb tNil))) σ H (.int (if j < i then j else i)) := fun H1 e1 Q q =>
  ha H1 e1 _ fun H2 e2 => hb H2 (e1.trans e2) _ fun H3 e3 => ⟨i, j, rfl, q H3 (e2.trans e3)⟩
theorem ev_all {bs : List Bool} (h : EvL ta σ H (bs.map V.bl)) : Ev (tCB (rAll K) (tCons ta tNil)) σ H (.bl (bs.all id)) := fun H1 e Q q =>
  h H1 e _ fun p H2 _ e2 hp => ⟨p, bs, rfl, sq_of hp, q H2 e2⟩
theorem ev_repr {d : PyData} (h : Ev ta σ H v) (hd : Dt H v d) (fit : Fit sizeLine d) : Ev (tCB rRepr (tCons ta tNil)) σ H (.str d.shown) := fun H1 e Q q =>
  h H1 e _ fun H2 e2 => ⟨v, d, rfl, hd.same (same_ex (e.trans e2)), fit, q H2 e2⟩
theorem ev_reprL {xs : List V} {ds : List PyData} (h : EvL ta σ H xs) (hd : Dts H xs ds) (fit : Fit sizeLine (.list ds)) : Ev (tCB rRepr (tCons ta tNil)) σ H (.str (PyData.list ds).shown) := fun H1 e Q q =>
  h H1 e _ fun p H2 _ e2 hp => ⟨.ref p, .list ds, rfl, .lst hp (hd.same (same_ex (e.trans e2))), fit, q H2 e2⟩
/-- two lists, the left a new one, the right a new one, of data -/
theorem ev_eqLL {xs ys : List V} {ds es : List PyData} (ha : EvL ta σ H xs) (hb : EvL tb σ H ys) (hx : Dts H xs ds) (hy : Dts H ys es) (s1 : SeqAt.shaped (.list ds) = true) (s2 : SeqAt.shaped (.list es) = true) :
    Ev (tOp (rEqD K) ta tb) σ H (.bl (PyData.eqv (.list ds) (.list es))) :=
  ev_opLL ha hb fun p q H1 hp hq e => fun H2 e2 Q k => ⟨.list ds, .list es, Dt.dp (.lst (e2 _ _ hp) (hx.same (same_ex (e.trans e2)))), Dt.dp (.lst (e2 _ _ hq) (hy.same (same_ex (e.trans e2)))), s1, s2, k H2 (Ex.refl H2)⟩
/-- a call of a def that makes nothing but a value -/
theorem ev_sp {sp : Sp} {dvs vs : List V} {E : XK} {ta : TA} (h : EvA ta σ H vs) (hs : ∀ H1, Ex H H1 → ∀ Q : VK, (∀ H2, Ex H1 H2 → Q z H2) → sp (vs ++ dvs) H1 Q E) : Ev (tCall sp dvs E ta) σ H z := fun H1 e Q q =>
  h H1 e _ fun H2 e2 => hs H2 (e.trans e2) Q fun H3 e3 => q H3 (e2.trans e3)
/-- a comprehension over a text -/
theorem el_lcS {s : Str} {j : Nat} {vs : List Nat} {tl : TE} (f : Nat → Bool) (v : Nat → V) (h : Ev tl σ H (.str s)) (hz : s.length ≤ 40000) (hw : ∀ x, wipe ((wipe σ vs).set j (some x)) vs = wipe σ vs)
    (ht : ∀ (i c : Nat) H1, Ex H H1 → s.cps.toList[i]? = some c → EvT t ((wipe σ vs).set j (some (.str ⟨#[c]⟩))) H1 (f i))
    (he : ∀ (i c : Nat) H1, Ex H H1 → s.cps.toList[i]? = some c → f i = true → Ev te ((wipe σ vs).set j (some (.str ⟨#[c]⟩))) H1 (v i)) :
    EvL (tLc (iStr tl) (gName j) t te vs) σ H (given s.length f v) := fun H0 e Q q => h H0 e _ fun H1 e1 => ⟨s, rfl, fun Dl hD =>
  lc_it (walk_str (z := s)) (Cw H1 f v Dl) ⟨hD, Ex.new hD, upd_same⟩ (fun _ _ _ _ => trivial) (fun i x Ha Hb hi p y => by
    obtain ⟨rfl, c, hc, rfl⟩ := y
    have hc' : s.cps.toList[i]? = some c := by rw [Array.getElem?_toList]; exact hc
    have hi2 : i < s.length := hi
    exact ⟨hw _, cw_turn p (by omega) (ht i c H1 (e.trans e1) hc') (fun hf => he i c H1 (e.trans e1) hc' hf)⟩)
    (fun Hc p => q Dl Hc (fresh_back e1 p.1) (e1.trans p.2.1) p.2.2)⟩
end

/-! ### what a comprehension gives, by the items -/
theorem given_map {α : Type} (xs : List α) (g : α → V) (v : Nat → V) (h : ∀ i x, xs[i]? = some x → v i = g x) : given xs.length (fun _ => true) v = xs.map g := by
  unfold given
  rw [List.filter_eq_self.mpr (fun _ _ => rfl)]
  refine List.ext_getElem? fun i => ?_
  rw [List.getElem?_map, List.getElem?_map]
  by_cases hi : i < xs.length
  · rw [List.getElem?_range hi, List.getElem?_eq_getElem hi]
    exact congrArg some (h i _ (List.getElem?_eq_getElem hi))
  · rw [List.getElem?_eq_none (by rw [List.length_range]; omega), List.getElem?_eq_none (by omega)]
    rfl
theorem given_part {α : Type} (g : α → V) (p : α → Bool) (f : Nat → Bool) (v : Nat → V) (xs : List α) (hf : ∀ i x, xs[i]? = some x → f i = p x) (hv : ∀ i x, xs[i]? = some x → v i = g x) :
    ∀ n, n ≤ xs.length → given n f v = ((xs.take n).filter p).map g
  | 0, _ => rfl
  | n + 1, hn => by
    have lt : n < xs.length := hn
    have e := List.getElem?_eq_getElem lt
    have ih := given_part g p f v xs hf hv n (Nat.le_of_lt lt)
    rw [List.take_add_one, e]
    show _ = ((xs.take n ++ [xs[n]]).filter p).map g
    rw [List.filter_append, List.map_append, ← ih]
    cases hp : p xs[n] with
    | true =>
      rw [given_yes (by rw [hf _ _ e]; exact hp), hv _ _ e, List.filter_cons, if_pos hp]
      rfl
    | false =>
      rw [given_no (by rw [hf _ _ e]; exact hp), List.filter_cons, if_neg (by rw [hp]; decide)]
      rw [List.filter_nil, List.map_nil, List.append_nil]
theorem given_filter {α : Type} (g : α → V) (p : α → Bool) (f : Nat → Bool) (v : Nat → V) (xs : List α) (hf : ∀ i x, xs[i]? = some x → f i = p x) (hv : ∀ i x, xs[i]? = some x → v i = g x) :
    given xs.length f v = (xs.filter p).map g := by
  rw [given_part g p f v xs hf hv _ (Nat.le_refl _), List.take_length]
theorem given_eq {n : Nat} {f g : Nat → Bool} {v u : Nat → V} (hf : ∀ i, i < n → f i = g i) (hv : ∀ i, i < n → v i = u i) : given n f v = given n g u := by
  unfold given
  rw [List.filter_congr (q := g) (fun i hi => hf i (List.mem_range.mp hi))]
  exact List.map_congr_left fun i hi => hv i (List.mem_range.mp (List.mem_filter.mp hi).1)
end Os
/-! forests: the mathematics, and pairs of ints in the heap -/
namespace Os
open PySem PySem.Spec PyProof.Rows L2 Evl

abbrev Pr := Nat × Nat
/-! ### labels that are merged: the program's search for a cycle -/
def merge (t : List Nat) (e : Pr) : List Nat := t.map fun x => if x = t.getD e.2 0 then t.getD e.1 0 else x
def cycB : List Pr → List Nat → Bool
  | [], _ => false
  | e :: r, t => if t.getD e.1 0 = t.getD e.2 0 then true else cycB r (merge t e)
/-- each edge has a side that all other edges respect -/
def Bridges (es : List Pr) : Prop := ∀ e ∈ es, ∃ S : Nat → Bool, S e.1 ≠ S e.2 ∧ ∀ f ∈ es, f ≠ e → S f.1 = S f.2
theorem merge_length (t : List Nat) (e : Pr) : (merge t e).length = t.length := List.length_map ..
theorem getD_map {f : Nat → Nat} {t : List Nat} {i : Nat} (h : i < t.length) : (t.map f).getD i 0 = f (t.getD i 0) := by
  rw [List.getD_eq_getElem?_getD, List.getD_eq_getElem?_getD, List.getElem?_map, List.getElem?_eq_getElem h]
  rfl
/-- labels are equal only where every respected side is -/
def Fine (t : List Nat) (done : List Pr) : Prop := ∀ x y, x < t.length → y < t.length → t.getD x 0 = t.getD y 0 → ∀ S : Nat → Bool, (∀ f ∈ done, S f.1 = S f.2) → S x = S y
theorem fine_start (n : Nat) : Fine (List.range n) [] := fun x y hx hy e S _ => by
  rw [List.length_range] at hx hy
  rw [List.getD_eq_getElem?_getD, List.getD_eq_getElem?_getD, List.getElem?_range hx, List.getElem?_range hy] at e
  have e2 : x = y := e
  rw [e2]
theorem fine_merge {t : List Nat} {done : List Pr} {e : Pr} (h : Fine t done) (h1 : e.1 < t.length) (h2 : e.2 < t.length) : Fine (merge t e) (done ++ [e]) := fun x y hx hy q S hS => by
  rw [merge_length] at hx hy
  unfold merge at q
  rw [getD_map hx, getD_map hy] at q
  have hd : ∀ f ∈ done, S f.1 = S f.2 := fun f hf => hS f (List.mem_append_left _ hf)
  have he : S e.1 = S e.2 := hS e (by simp)
  by_cases a : t.getD x 0 = t.getD e.2 0
  · have sx := h x e.2 hx h2 a S hd
    by_cases b : t.getD y 0 = t.getD e.2 0
    · rw [sx, h y e.2 hy h2 b S hd]
    · rw [if_pos a, if_neg b] at q
      rw [sx, ← he, h e.1 y h1 hy q S hd]
  · by_cases b : t.getD y 0 = t.getD e.2 0
    · rw [if_neg a, if_pos b] at q
      rw [h x e.1 hx h1 q S hd, he, h y e.2 hy h2 b S hd]
    · rw [if_neg a, if_neg b] at q
      exact h x y hx hy q S hd
theorem cyc_none {es : List Pr} (br : Bridges es) (nd : es.Nodup) : ∀ (r done : List Pr) (t : List Nat), es = done ++ r → (∀ e ∈ r, e.1 < t.length ∧ e.2 < t.length) → Fine t done → cycB r t = false
  | [], _, _, _, _, _ => rfl
  | e :: r, done, t, he, hb, hf => by
    obtain ⟨b1, b2⟩ := hb e List.mem_cons_self
    obtain ⟨S, s1, s2⟩ := br e (by rw [he]; simp)
    have ne : ¬ t.getD e.1 0 = t.getD e.2 0 := fun q => s1 (hf e.1 e.2 b1 b2 q S fun f hf' => s2 f (by rw [he]; exact List.mem_append_left _ hf') fun z => by
      rw [he] at nd
      exact (List.nodup_append.mp nd).2.2 f hf' e List.mem_cons_self z)
    unfold cycB
    rw [if_neg ne]
    refine cyc_none br nd r (done ++ [e]) (merge t e) (by rw [he, List.append_assoc]; rfl) (fun f hf' => ?_) (fine_merge hf b1 b2)
    rw [merge_length]
    exact hb f (List.mem_cons_of_mem _ hf')
/-! ### order of pairs -/
def ltP (e f : Pr) : Bool := decide (e.1 < f.1) || (decide (e.1 = f.1) && decide (e.2 < f.2))
def ascB : List Pr → Bool
  | e :: f :: r => ltP e f && ascB (f :: r)
  | _ => true
/-- a forest's edges -/
structure Edges (n : Nat) (es : List Pr) : Prop where
  inn : ∀ e ∈ es, e.1 < e.2 ∧ e.2 < n
  asc : es.Pairwise fun e f => ltP e f = true
  br : Bridges es
theorem ltP_irr (e : Pr) : ltP e e = false := by
  unfold ltP
  rw [decide_eq_false (Nat.lt_irrefl _), decide_eq_false (Nat.lt_irrefl _), Bool.and_false]
  rfl
theorem ltP_iff {e f : Pr} : ltP e f = true ↔ e.1 < f.1 ∨ (e.1 = f.1 ∧ e.2 < f.2) := by
  unfold ltP
  simp only [Bool.or_eq_true, Bool.and_eq_true, decide_eq_true_eq]
theorem ltP_trans {e f g : Pr} (h1 : ltP e f = true) (h2 : ltP f g = true) : ltP e g = true := by
  rw [ltP_iff] at *
  omega
theorem Edges.nodup {n : Nat} {es : List Pr} (h : Edges n es) : es.Nodup := h.asc.imp fun {a b} q e => by
  rw [e, ltP_irr] at q
  cases q
theorem asc_of : ∀ {es : List Pr}, es.Pairwise (fun e f => ltP e f = true) → ascB es = true
  | [], _ => rfl
  | [_], _ => rfl
  | e :: f :: r, h => by
    obtain ⟨h1, h2⟩ := List.pairwise_cons.mp h
    show (ltP e f && ascB (f :: r)) = true
    rw [h1 f List.mem_cons_self, asc_of h2]
    rfl
theorem Edges.no_cyc {n : Nat} {es : List Pr} (h : Edges n es) : cycB es (List.range n) = false :=
  cyc_none h.br h.nodup es [] _ rfl (fun e he => by
    rw [List.length_range]
    have := h.inn e he
    omega) (fine_start n)

/-! ### pairs in the heap -/
/-- v is a tuple of the two ints -/
def PrV (G : Hp) (v : V) (e : Pr) : Prop := ∃ t, v = .ref t ∧ G t = some (.tup [.int (e.1 : Int), .int (e.2 : Int)])
inductive PrsV (G : Hp) : List V → List Pr → Prop
  | nil : PrsV G [] []
  | cons {v : V} {vs : List V} {e : Pr} {es : List Pr} : PrV G v e → PrsV G vs es → PrsV G (v :: vs) (e :: es)
theorem PrV.ex {G G' : Hp} (h : Ex G G') {v : V} {e : Pr} (p : PrV G v e) : PrV G' v e := by
  obtain ⟨t, e1, e2⟩ := p
  exact ⟨t, e1, h _ _ e2⟩
theorem PrsV.ex {G G' : Hp} (h : Ex G G') : ∀ {vs : List V} {es : List Pr}, PrsV G vs es → PrsV G' vs es
  | _, _, .nil => .nil
  | _, _, .cons p r => .cons (p.ex h) (PrsV.ex h r)
theorem PrsV.length {G : Hp} : ∀ {vs : List V} {es : List Pr}, PrsV G vs es → vs.length = es.length
  | _, _, .nil => rfl
  | _, _, .cons _ r => congrArg (· + 1) (PrsV.length r)
theorem PrsV.get {G : Hp} : ∀ {vs : List V} {es : List Pr} {i : Nat} {v : V}, PrsV G vs es → vs[i]? = some v → ∃ e, es[i]? = some e ∧ PrV G v e
  | _, _, _, _, .nil, h => by simp at h
  | _, _, 0, _, .cons p _, h => by simp at h; subst h; exact ⟨_, rfl, p⟩
  | _, _, i + 1, v, .cons _ r, h => by
    obtain ⟨e, h1, h2⟩ := PrsV.get (i := i) (v := v) r (by simpa using h)
    exact ⟨e, by simpa using h1, h2⟩
theorem PrsV.get' {G : Hp} : ∀ {vs : List V} {es : List Pr} {i : Nat} {e : Pr}, PrsV G vs es → es[i]? = some e → ∃ v, vs[i]? = some v ∧ PrV G v e
  | _, _, _, _, .nil, h => by simp at h
  | _, _, 0, _, .cons p _, h => by simp at h; subst h; exact ⟨_, rfl, p⟩
  | _, _, i + 1, e, .cons _ r, h => by
    obtain ⟨v, h1, h2⟩ := PrsV.get' (i := i) (e := e) r (by simpa using h)
    exact ⟨v, by simpa using h1, h2⟩
theorem PrsV.append {G : Hp} : ∀ {vs us : List V} {es fs : List Pr}, PrsV G vs es → PrsV G us fs → PrsV G (vs ++ us) (es ++ fs)
  | _, _, _, _, .nil, r => r
  | _, _, _, _, .cons p q, r => .cons p (PrsV.append q r)
theorem PrsV.drop {G : Hp} : ∀ {vs : List V} {es : List Pr} (i : Nat), PrsV G vs es → PrsV G (vs.drop i) (es.drop i)
  | _, _, 0, h => h
  | _, _, _ + 1, .nil => .nil
  | _, _, i + 1, .cons _ r => PrsV.drop i r
theorem PrsV.take {G : Hp} : ∀ {vs : List V} {es : List Pr} (i : Nat), PrsV G vs es → PrsV G (vs.take i) (es.take i)
  | _, _, 0, _ => .nil
  | _, _, _ + 1, .nil => .nil
  | _, _, i + 1, .cons p r => .cons p (PrsV.take i r)
theorem PrsV.reverse {G : Hp} : ∀ {vs : List V} {es : List Pr}, PrsV G vs es → PrsV G vs.reverse es.reverse
  | _, _, .nil => .nil
  | _, _, .cons p r => by
    rw [List.reverse_cons, List.reverse_cons]
    exact PrsV.append (PrsV.reverse r) (.cons p .nil)
theorem PrsV.perm {G : Hp} {vs us : List V} (h : vs.Perm us) : ∀ {es : List Pr}, PrsV G us es → ∃ fs, PrsV G vs fs ∧ fs.Perm es := by
  induction h with
  | nil => exact fun h => ⟨_, h, List.Perm.refl _⟩
  | cons x _ ih =>
    intro es h
    cases h with
    | cons p r =>
      obtain ⟨fs, h1, h2⟩ := ih r
      exact ⟨_, .cons p h1, h2.cons _⟩
  | swap x y l =>
    intro es h
    cases h with
    | cons p r =>
      cases r with
      | cons q r => exact ⟨_, .cons q (.cons p r), List.Perm.swap _ _ _⟩
  | trans _ _ ih1 ih2 =>
    intro es h
    obtain ⟨fs, h1, h2⟩ := ih2 h
    obtain ⟨gs, h3, h4⟩ := ih1 h1
    exact ⟨gs, h3, h4.trans h2⟩
def prD (e : Pr) : PyData := .tuple [.int (e.1 : Int), .int (e.2 : Int)]
theorem PrV.dt {G : Hp} {v : V} {e : Pr} (p : PrV G v e) : Dt G v (prD e) := by
  obtain ⟨t, rfl, h⟩ := p
  exact .tup h (.cons (.int _) (.cons (.int _) .nil))
theorem PrsV.dts {G : Hp} : ∀ {vs : List V} {es : List Pr}, PrsV G vs es → Dts G vs (es.map prD)
  | _, _, .nil => .nil
  | _, _, .cons p r => .cons p.dt (PrsV.dts r)
end Os
namespace K95
open PySem PySem.Spec PyProof.Rows L2 Os Evl
def topS (i : Nat) : Stmt := PySem.Challenge.pw_onceswapped_k95_lists_changed_in_place.main.body.getD i (.Pass ⟨0, 0, 0, 0⟩)
abbrev sItem : Stmt := topS 10
theorem scItem : FnScope ["thing", "letter"] ["thing"] (defScope sItem) := ⟨rfl, rfl, rfl, by decide +kernel, rfl, by decide +kernel, by decide +kernel⟩

/-- a letter's code -/
def letterB (c : Nat) : Bool := decide (97 ≤ c) && decide (c ≤ 122)
def nameB (z : Str) : Bool := decide (1 ≤ z.length) && decide (z.length ≤ 8) && z.cps.toList.all letterB
def itemB : PyData → Bool
  | .str z => nameB z
  | _ => false
/-- the texts among them are not too long -/
def ShortS : PyData → Prop
  | .str z => z.length ≤ 1000 ∧ PyData.strOk z = true
  | _ => True

/-- the length test as the program does it -/
def itemLen : PyData → Bool
  | .str z => decide ((1 : Int) ≤ (z.length : Int)) && decide ((z.length : Int) ≤ 8)
  | _ => false
theorem lenB (z : Str) : (decide (1 ≤ z.length) && decide (z.length ≤ 8)) = itemLen (.str z) := by
  show _ = (decide ((1 : Int) ≤ (z.length : Int)) && decide ((z.length : Int) ≤ 8))
  rw [decide_eq_decide.mpr (show 1 ≤ z.length ↔ (1 : Int) ≤ (z.length : Int) by omega), decide_eq_decide.mpr (show z.length ≤ 8 ↔ (z.length : Int) ≤ 8 by omega)]

section
variable {P : Program} {w : World} {K : PySem.W.Frag} {mg : Str → Option Value} {base : Heap}
def spItem : Sp := fun vs H Q _ => ∃ v d, vs = [v] ∧ Dt H v d ∧ ShortS d ∧ ∀ H', Same H H' → Q (.bl (itemB d)) H'

theorem sign_le (c : Nat) : (!decide ((⟨#[c]⟩ : Str).cps.toList < ("a" : Str).cps.toList)) = decide (97 ≤ c) := by
  have e : ("a" : Str).cps.toList = [97] := by decide
  rw [e]
  show (!decide ([c] < [97])) = _
  by_cases h : c < 97
  · rw [decide_eq_true (show [c] < [97] from List.Lex.rel h), decide_eq_false (by omega)]
    rfl
  · rw [decide_eq_false (show ¬ [c] < [97] from fun z => by
      cases z with
      | rel z => exact h z
      | cons z => cases z), decide_eq_true (by omega)]
    rfl
theorem le_sign (c : Nat) : (!decide (("z" : Str).cps.toList < (⟨#[c]⟩ : Str).cps.toList)) = decide (c ≤ 122) := by
  have e : ("z" : Str).cps.toList = [122] := by decide
  rw [e]
  show (!decide ([122] < [c])) = _
  by_cases h : 122 < c
  · rw [decide_eq_true (show [122] < [c] from List.Lex.rel h), decide_eq_false (by omega)]
    rfl
  · rw [decide_eq_false (show ¬ [122] < [c] from fun z => by
      cases z with
      | rel z => exact h z
      | cons z => cases z), decide_eq_true (by omega)]
    rfl

theorem ok_item {f : Addr} {fd : FuncData} {k : Nat} (F : Fun K "is_item" "is_item" sItem f fd) (mI : mg "isinstance" = none) (mS : mg "str" = none) (mL : mg "len" = none) (mA : mg "all" = none)
    {t8 : Tok} (m8 : mg "MOST_LETTERS" = some (.int 8 t8)) : FnOk P w K mg base CX0 (k + 1) f fd ["thing"] spItem := by
  refine F.ok scItem (fun vs H Q E h => ?_) (fun cdv A outer s H vs Q E hr h => ?_)
  · obtain ⟨v, d, rfl, _⟩ := h
    rfl
  · obtain ⟨v, d, rfl, hd, hz, q⟩ := h
    refine ⟨_, pss_cons (ps_if (PW.pt (pw_or (pt_not (pt_val (pe_callB call_isi (by rfl) mI boot_isinstance (pa_cons (pv 0) (pa_cons (pe_bltn (v := .ty "str") (by rfl) mS boot_str rfl) pa_nil)))))
        (pw_or1 (pt_not (pt_chain op_le op_le pe_int (pe_callB call_len_str (by rfl) mL boot_len (pa_cons (pv 0) pa_nil)) (pe_glob (v := .int 8) (by rfl) m8 ⟨_, rfl⟩))))))
        (pss_one (ps_ret pe_bl)) pss_nil)
      (pss_one (ps_ret (pe_callB (cr_all rfl) (by rfl) mA boot_all (pa_cons
        (pe_lc (own := [("letter", 1)]) (g := gName 1) (tt := tYes) rfl scItem.nd (pi_str (pv 0)) (blkOk_by (N := ["thing", "letter"]) (sc := defScope sItem) (by decide +kernel))
          (fun _ _ _ _ _ => pg_name (i := 1) scItem.nd rfl (Or.inl rfl)) (fun _ _ _ _ _ => pts_nil)
          (fun _ _ _ _ _ => pe_chain op_le_str op_le_str pe_str (pv 1) pe_str)) pa_nil)))), ?_⟩
    have e0 : Ev (tVar 0) (start ["thing", "letter"] [v]) H v := ev_var rfl
    refine q_when (b := !isStrD d || !(itemLen d)) (et_or (et_not (et_B (ev_isi e0 hd (kit_str d)))) fun hs => et_not (et_test ?_)) ?_ ?_
    · rcases hd.str_or with ⟨z, rfl, rfl⟩ | hn
      · exact ev_chain ev_c (ev_lenS e0 (Nat.le_trans hz.1 (by decide))) rv_I0 fun _ => ⟨_, ev_c, rv_I0⟩
      · rw [hn] at hs
        cases hs
    · intro hb H1 e1
      have : itemB d = false := by
        rcases hd.str_or with ⟨z, rfl, rfl⟩ | hn
        · have hb' : (!itemLen (.str z)) = true := hb
          show (_ && _) = false
          rw [show (decide (1 ≤ z.length) && decide (z.length ≤ 8)) = itemLen (.str z) from lenB z, (Bool.not_eq_true' _).mp hb']
          rfl
        · cases d <;> first | rfl | cases hn
      rw [← this]
      exact q H1 e1
    · intro hb H1 e1
      rcases hd.str_or with ⟨z, rfl, rfl⟩ | hn
      · have hb' : itemLen (.str z) = true := by
          have hb2 : (!itemLen (.str z)) = false := hb
          exact (Bool.not_eq_false' _).mp hb2
        refine s_ret (v := .bl (itemB (.str z))) (ev_is (ev_all (bs := z.cps.toList.map letterB) ?_) ?_) fun H2 e2 => q H2 (e1.trans e2)
        · rw [List.map_map, ← given_map z.cps.toList (V.bl ∘ letterB) (fun i => .bl (letterB (z.cps.toList.getD i 0))) (fun i x e => by
            rw [List.getD_eq_getElem?_getD, e]
            rfl)]
          rw [Array.length_toList]
          refine el_lcS (f := fun _ => true) (v := _) (ev_var rfl) (Nat.le_trans hz.1 (by decide)) (fun _ => rfl) (fun i c H2 _ _ => fun H3 e3 Q q => q H3 (Ex.refl H3)) (fun i c H2 e2 hc _ => ?_)
          rw [List.getD_eq_getElem?_getD, hc]
          show Ev _ _ _ (.bl (letterB c))
          have e4 : letterB c = ((!decide ((⟨#[c]⟩ : Str).cps.toList < ("a" : Str).cps.toList)) && (!decide (("z" : Str).cps.toList < (⟨#[c]⟩ : Str).cps.toList))) := by
            rw [sign_le, le_sign]
            rfl
          rw [e4]
          exact ev_chain ev_c (ev_var rfl) rv_leS fun _ => ⟨_, ev_c, rv_leS⟩
        · show V.bl _ = V.bl (_ && _)
          rw [show (decide (1 ≤ z.length) && decide (z.length ≤ 8)) = itemLen (.str z) from lenB z, hb', List.all_map]
          rfl
      · have hb2 : (!isStrD d || !itemLen d) = false := hb
        rw [hn] at hb2
        cases hb2
end
theorem canLay_strs : ∀ {zs : List Str}, (∀ z ∈ zs, PyData.strOk z = true) → PyData.canLayAll0 (zs.map PyData.str) = true
  | [], _ => rfl
  | z :: zs, h => by
    show (PyData.canLay0 (.str z) && PyData.canLayAll0 (zs.map PyData.str)) = true
    rw [canLay_strs fun y hy => h y (List.mem_cons_of_mem _ hy), Bool.and_true]
    exact h z List.mem_cons_self
theorem depth_strs : ∀ zs : List Str, PyData.depthAll (zs.map PyData.str) = 0
  | [] => rfl
  | z :: zs => by
    show max (PyData.depth (.str z)) (PyData.depthAll (zs.map PyData.str)) = 0
    rw [depth_strs zs]
    rfl
theorem shaped_strs {zs : List Str} (h : ∀ z ∈ zs, PyData.strOk z = true) : SeqAt.shaped (.list (zs.map PyData.str)) = true := by
  show (PyData.canLayAll0 (zs.map PyData.str) && decide (PyData.depthAll (zs.map PyData.str) + 1 ≤ 64)) = true
  rw [canLay_strs h, depth_strs]
  rfl
theorem dts_strs {H : Hp} : ∀ zs : List Str, Dts H (zs.map V.str) (zs.map PyData.str)
  | [] => .nil
  | z :: zs => .cons (.str z) (dts_strs zs)
theorem inV_strs (z : Str) : ∀ zs : List Str, inV (.str z) (zs.map V.str) = decide (z ∈ zs)
  | [] => rfl
  | y :: zs => by
    have ih := inV_strs z zs
    unfold inV at ih ⊢
    rw [List.map_cons, List.any_cons, ih]
    show ((y == z) || decide (z ∈ zs)) = decide (z ∈ y :: zs)
    by_cases h : y = z
    · subst h
      simp
    · have h2 : ¬ z = y := fun e => h e.symm
      simp [h, h2]
theorem flat_strs' : ∀ zs : List Str, (zs.map V.str).all flatV = true
  | [] => rfl
  | _ :: zs => flat_strs' zs
def alphabet : Str := "abcdefghijklmnopqrstuvwxyz"
theorem in_alphabet (c : Nat) : decide (c ∈ alphabet.cps.toList) = letterB c := by
  have e : alphabet.cps.toList = List.range' 97 26 := by decide
  rw [e]
  unfold letterB
  by_cases h : 97 ≤ c ∧ c ≤ 122
  · rw [decide_eq_true (show c ∈ List.range' 97 26 from List.mem_range'.mpr ⟨c - 97, by omega, by omega⟩), decide_eq_true h.1, decide_eq_true h.2]
    rfl
  · rw [decide_eq_false (show ¬ c ∈ List.range' 97 26 from fun z => by
      obtain ⟨i, h1, h2⟩ := List.mem_range'.mp z
      exact h ⟨by omega, by omega⟩)]
    by_cases h1 : 97 ≤ c
    · rw [decide_eq_true h1, decide_eq_false (by omega)]
      rfl
    · rw [decide_eq_false h1]
      rfl
theorem sign_ok {z : Str} (h : PyData.strOk z = true) {c : Nat} (hc : c ∈ z.cps.toList) : PyData.strOk ⟨#[c]⟩ = true := by
  unfold PyData.strOk at h ⊢
  rw [← Array.all_toList, List.all_eq_true] at h
  have := h c hc
  simpa using this

end K95
/-! the law's drawn numbers: what a source holds -/
namespace Os
open PySem PySem.Spec PyProof.Rows L2 Evl

/-- at s a source: the digits left, the seed, the number of mixed draws (at most B) -/
def Src (H : Hp) (s : Addr) (B : Nat) : Prop := ∃ x y z : Int, H s = some (.lst [.int x, .int y, .int z]) ∧ 0 ≤ x ∧ 0 ≤ y ∧ y < 2 ^ 140 ∧ 0 ≤ z ∧ z ≤ (B : Int)
theorem Src.mono {H : Hp} {s : Addr} {B C : Nat} (h : Src H s B) (le : B ≤ C) : Src H s C := by
  obtain ⟨x, y, z, h1, h2, h3, h4, h5, h6⟩ := h
  exact ⟨x, y, z, h1, h2, h3, h4, h5, by omega⟩
theorem Src.ex {H H' : Hp} {s : Addr} {B : Nat} (h : Src H s B) (e : Ex H H') : Src H' s B := by
  obtain ⟨x, y, z, h1, h2⟩ := h
  exact ⟨x, y, z, e _ _ h1, h2⟩
theorem Src.at {H : Hp} {s : Addr} {B : Nat} (h : Src H s B) : ∃ o, H s = some o := by
  obtain ⟨x, y, z, h1, _⟩ := h
  exact ⟨_, h1⟩
/-- all but the source stands as it was; the source has made at most n more mixed draws -/
structure Drew (s : Addr) (B : Nat) (H H' : Hp) : Prop where
  kept : Ex (hide s H) (hide s H')
  src : Src H' s B
theorem Drew.refl {s : Addr} {B : Nat} {H : Hp} (h : Src H s B) : Drew s B H H := ⟨Ex.refl _, h⟩
theorem Drew.trans {s : Addr} {B C : Nat} {H H1 H2 : Hp} (a : Drew s B H H1) (b : Drew s C H1 H2) : Drew s C H H2 := ⟨a.kept.trans b.kept, b.src⟩
theorem Drew.ex {s : Addr} {B : Nat} {H H1 H2 : Hp} (a : Drew s B H H1) (e : Ex H1 H2) : Drew s B H H2 := ⟨a.kept.trans (Same.hide (same_ex e)), a.src.ex e⟩
theorem Drew.get {s : Addr} {B : Nat} {H H' : Hp} (a : Drew s B H H') {b : Addr} {o : HO} (n : b ≠ s) (h : H b = some o) : H' b = some o := by
  have := a.kept b o (by rw [hide_ne n]; exact h)
  exact (hide_of this).2
theorem Drew.mono {s : Addr} {B C : Nat} {H H' : Hp} (a : Drew s B H H') (le : B ≤ C) : Drew s C H H' := ⟨a.kept, a.src.mono le⟩
/-- what is free behind was free before -/
theorem Drew.none {s : Addr} {B : Nat} {H H' : Hp} (a : Drew s B H H') (h0 : ∃ o, H s = some o) {p : Addr} (h : H' p = Option.none) : H p = Option.none := by
  obtain ⟨o, so⟩ := a.src.at
  have np : p ≠ s := fun e => by rw [e, so] at h; cases h
  cases q : H p with
  | none => rfl
  | some u =>
    rw [a.get np q] at h
    cases h
/-- a new object, or one that H did not know, is changed -/
theorem Drew.mut {s : Addr} {B : Nat} {H H' : Hp} (a : Drew s B H H') {p : Addr} {o : HO} (hs : ∃ u, H s = some u) (h : H p = Option.none) : Drew s B H (upd H' p o) := by
  obtain ⟨u, hu⟩ := hs
  have np : s ≠ p := ne_of_none hu h
  refine ⟨fun b v q => ?_, ?_⟩
  · obtain ⟨q1, q2⟩ := hide_of q
    rw [hide_ne q1, upd_ne (ne_of_none q2 h)]
    exact a.get q1 q2
  · obtain ⟨x, y, z, h1, h2⟩ := a.src
    exact ⟨x, y, z, by rw [upd_ne np]; exact h1, h2⟩

/-! ### data beside a source -/
theorem Dt.drew {s : Addr} {B : Nat} {H H' : Hp} {v : V} {d : PyData} (h : Dt (hide s H) v d) (a : Drew s B H H') : Dt (hide s H') v d := h.same (same_ex a.kept)
theorem Dt.seen {s : Addr} {H : Hp} {v : V} {d : PyData} (h : Dt (hide s H) v d) : Dt H v d := h.same hide_same
theorem Dts.seen {s : Addr} {H : Hp} {vs : List V} {ds : List PyData} (h : Dts (hide s H) vs ds) : Dts H vs ds := h.same hide_same

/-! ### the numbers -/
theorem mix_bound {y z : Int} (hy0 : 0 ≤ y) (hy : y < 2 ^ 140) (hz0 : 0 ≤ z) (hz : z < 2 ^ 80) (c : Int) (hc0 : 0 ≤ c) (hc : c < 2 ^ 30) : (y + c * z).natAbs < 2 ^ 141 := by
  have h1 : 0 ≤ c * z := Int.mul_nonneg hc0 hz0
  have h2 : c * z ≤ 2 ^ 30 * 2 ^ 80 := Int.mul_le_mul (by omega) (by omega) hz0 (by decide)
  have h3 : (2 : Int) ^ 30 * 2 ^ 80 ≤ 2 ^ 140 := by decide
  omega
theorem cube_nonneg {i : Int} (h : 0 ≤ i) : 0 ≤ i ^ (3 : Int).toNat := Int.pow_nonneg h
end Os
namespace K95
open PySem PySem.Spec PyProof.Rows L2 Os Evl
abbrev sSource : Stmt := topS 28
abbrev sPick : Stmt := topS 29
theorem scSource : FnScope ["script", "k", "cell"] ["script", "k"] (defScope sSource) := ⟨rfl, rfl, rfl, by decide +kernel, rfl, by decide +kernel, by decide +kernel⟩
theorem scPick : FnScope ["source", "count", "found", "mixed"] ["source", "count"] (defScope sPick) := ⟨rfl, rfl, rfl, by decide +kernel, rfl, by decide +kernel, by decide +kernel⟩
def cellOf (ns : List Int) (k : Nat) : Int := if (k : Int) < (ns.length : Int) then ns.getD k 0 else 0
section
variable {P : Program} {w : World} {K : PySem.W.Frag} {mg : Str → Option Value} {base : Heap}
def spSource (K : PySem.W.Frag) : Sp := fun vs H Q _ => ∃ (a : Addr) (ns : List Int) (k : Nat), vs = [.ref a, .int (k : Int)] ∧ SqL K H a (ns.map V.int) ∧ k ≤ 1000 ∧
  ∀ H' p, Ex H H' → H p = none → Src H' p 0 → Q (.ref p) H'
theorem ok_source {f : Addr} {fd : FuncData} {k : Nat} (F : Fun K "_law_source" "_law_source" sSource f fd) (mL : mg "len" = none) (mM : mg "max" = none) (mA : mg "abs" = none) :
    FnOk P w K mg base CX0 (k + 1) f fd ["script", "k"] (spSource K) := by
  refine F.ok scSource (fun vs H Q E h => ?_) (fun cdv A outer s H vs Q E hr h => ?_)
  · obtain ⟨a, ns, k, rfl, _⟩ := h
    rfl
  · obtain ⟨a, ns, k, rfl, hS, hk, q⟩ := h
    refine ⟨_, pss_cons (ps_set (i := 2) scSource.nd rfl (.inl rfl) (pe_ifExp (pt_cmpR op_lt (pv 1) (pe_callB call_len_seq (by rfl) mL boot_len (pa_cons (pv 0) pa_nil)) (nomark _)) (pe_ix ix_list (pv 0) (pv 1) (fun _ _ => rfl)) pe_int))
      (pss_one (ps_ret (pe_lst (pa_cons (pe_callB (call_max2 rfl) (by rfl) mM boot_max (pa_cons pe_int (pa_cons (pe_op op_sub (pe_callB call_abs (by rfl) mA boot_abs (pa_cons (pv 2) pa_nil)) (pe_op op_pow pe_int pe_int)) pa_nil)))
        (pa_cons (pe_op op_add (pe_op op_add (pe_op op_mul (pe_op op_mod (pe_callB call_abs (by rfl) mA boot_abs (pa_cons (pv 2) pa_nil)) (pe_op op_add (pe_op op_pow pe_int pe_int) pe_int)) pe_int) (pv 1)) pe_int)
        (pa_cons pe_int pa_nil)))))), ?_⟩
    refine q_asg (v := .int (cellOf ns k)) (ev_if (b := decide ((k : Int) < (ns.length : Int))) (et_test (ev_op (ev_var rfl) (ev_is (ev_len (ev_var rfl) hS) (by rw [List.length_map])) rv_I0)) (fun hb => ?_) (fun hb => ?_)) fun H1 e1 => ?_
    · have hb2 := of_decide_eq_true hb
      have e : cellOf ns k = ns.getD k 0 := if_pos hb2
      rw [e]
      refine ev_op (ev_var rfl) (ev_var rfl) (rv_ixL hS (atI_nat (j := k) ?_))
      rw [List.getElem?_map, List.getElem?_eq_getElem (by omega), List.getD_eq_getElem?_getD, List.getElem?_eq_getElem (by omega)]
      rfl
    · have hb2 := of_decide_eq_false hb
      have e : cellOf ns k = 0 := if_neg hb2
      rw [e]
      exact ev_c
    · have ec := ev_var (σ := (start ["script", "k", "cell"] [.ref a, .int (k : Int)]).set 2 (some (.int (cellOf ns k)))) (H := H1) (i := 2) (v := .int (cellOf ns k)) rfl
      generalize cellOf ns k = c at ec ⊢
      have e18 : (10 : Int) ^ (18 : Int).toNat = 1000000000000000000 := by decide
      have e36 : (10 : Int) ^ (36 : Int).toNat = 1000000000000000000000000000000000000 := by decide
      have pow : ∀ n : Int, 0 ≤ n → n ≤ 100 → CPow 10 n := fun n h1 h2 => ⟨h1, by omega, by decide⟩
      refine s_retL (el_lst (ea_cons (ev_max ev_c (ev_op (ev_abs ec) (ev_op ev_c ev_c (rv_I (pow 18 (by decide) (by decide)))) rv_I0))
        (ea_cons (ev_op (ev_op (ev_op (ev_op (ev_abs ec) (ev_op (ev_op ev_c ev_c (rv_I (pow 36 (by decide) (by decide)))) ev_c rv_I0) (rv_I (by rw [e36]; decide))) ev_c (rv_I (.inr (by decide)))) (ev_var rfl) rv_I0) ev_c rv_I0)
        (ea_cons ev_c ea_nil))) (show 3 ≤ 100000 by decide)) fun p H2 hp e2 h2 => q H2 p (e1.trans e2) (fresh_back e1 hp) ?_
      rw [e18, e36] at h2
      have ha : 0 ≤ (if c < 0 then -c else c) := by split <;> omega
      refine ⟨_, _, 0, h2, ?_, ?_, ?_, Int.le_refl _, Int.le_refl _⟩
      · split <;> omega
      · have := Int.emod_nonneg (if c < 0 then -c else c) (show (1000000000000000000000000000000000000 + 67 : Int) ≠ 0 by decide)
        omega
      · have := Int.emod_lt_of_pos (if c < 0 then -c else c) (show (0 : Int) < 1000000000000000000000000000000000000 + 67 by decide)
        omega

def spPick : Sp := fun vs H Q _ => ∃ (s : Addr) (n : Int) (B : Nat), vs = [.ref s, .int n] ∧ Src H s B ∧ B ≤ 1000000 ∧ 0 < n ∧ n ≤ 1000000 ∧
  ∀ H' r, Drew s (B + 1) H H' → 0 ≤ r → r < n → Q (.int r) H'
theorem ok_pick {f : Addr} {fd : FuncData} {k : Nat} (F : Fun K "_law_pick" "_law_pick" sPick f fd) : FnOk P w K mg base CX0 (k + 1) f fd ["source", "count"] spPick := by
  refine F.ok scPick (fun vs H Q E h => ?_) (fun cdv A outer s H vs Q E hr h => ?_)
  · obtain ⟨a, n, B, rfl, _⟩ := h
    rfl
  · obtain ⟨a, n, B, rfl, hS, hB, hn0, hn1, q⟩ := h
    refine ⟨_, pss_cons (ps_if (pt_cmpR op_gt (pe_ix ix_list (pv 0) pe_int (fun _ _ => rfl)) pe_int (nomark _))
        (pss_cons (ps_set (i := 2) scPick.nd rfl (.inl rfl) (pe_op op_mod (pe_ix ix_list (pv 0) pe_int (fun _ _ => rfl)) (pv 1)))
        (pss_cons (ps_asg (pe_op op_fdivW (pe_ix ix_list (pv 0) pe_int (fun _ _ => rfl)) (pv 1)) (pg_sub (pv 0) pe_int set_list))
        (pss_one (ps_ret (pv 2))))) pss_nil)
      (pss_cons (ps_asg (pe_op op_add (pe_ix ix_list (pv 0) pe_int (fun _ _ => rfl)) pe_int) (pg_sub (pv 0) pe_int set_list))
      (pss_cons (ps_set (i := 3) scPick.nd rfl (.inl rfl) (pe_op op_mod (pe_op op_powW (pe_op op_add (pe_ix ix_list (pv 0) pe_int (fun _ _ => rfl)) (pe_op op_mul pe_int (pe_ix ix_list (pv 0) pe_int (fun _ _ => rfl)))) pe_int) (pe_op op_add (pe_op op_pow pe_int pe_int) pe_int)))
      (pss_cons (ps_set (i := 3) scPick.nd rfl (.inl rfl) (pe_op op_mod (pe_op op_powW (pe_op op_add (pv 3) (pe_op op_mul pe_int (pe_ix ix_list (pv 0) pe_int (fun _ _ => rfl)))) pe_int) (pe_op op_add (pe_op op_pow pe_int pe_int) pe_int)))
      (pss_one (ps_ret (pe_op op_mod (pe_op op_fdivW (pv 3) pe_int) (pv 1))))))), ?_⟩
    obtain ⟨x, y, z, h1, hx, hy0, hy1, hz0, hz1⟩ := hS
    have at0 : ∀ {H' : Hp} {x' y' z' : Int}, H' a = some (.lst [.int x', .int y', .int z']) → ∀ {σ : L2.St}, σ[0]? = some (some (.ref a)) →
        Ev (tOp (rIxL K) (tVar 0) (tC (.int 0))) σ H' (.int x') ∧ Ev (tOp (rIxL K) (tVar 0) (tC (.int 1))) σ H' (.int y') ∧ Ev (tOp (rIxL K) (tVar 0) (tC (.int 2))) σ H' (.int z') := fun h σ e =>
      ⟨ev_op (ev_var e) ev_c (rv_ixL (sq_of h) (atI_nat (j := 0) rfl)), ev_op (ev_var e) ev_c (rv_ixL (sq_of h) (atI_nat (j := 1) rfl)), ev_op (ev_var e) ev_c (rv_ixL (sq_of h) (atI_nat (j := 2) rfl))⟩
    have upd_drew : ∀ {H1 : Hp} {x' z' : Int}, Ex H H1 → 0 ≤ x' → 0 ≤ z' → z' ≤ ((B + 1 : Nat) : Int) → Drew a (B + 1) H (upd H1 a (.lst [.int x', .int y, .int z'])) := fun e p1 p2 p3 =>
      ⟨by rw [hide_upd]; exact Same.hide (same_ex e), _, y, _, upd_same, p1, hy0, hy1, p2, p3⟩
    refine q_when (b := decide (0 < x)) (et_test (ev_op (at0 h1 rfl).1 ev_c rv_I0)) ?_ ?_
    · intro hb H1 e1
      refine q_asg (v := .int (x % n)) (ev_op (at0 (e1 _ _ h1) rfl).1 (ev_var rfl) (rv_I hn0)) fun H2 e2 => ?_
      refine q_setL (j := 0) (xs := [.int x, .int y, .int z]) (v := .int (x / n)) (e2 _ _ (e1 _ _ h1)) (ev_op (at0 (e2 _ _ (e1 _ _ h1)) rfl).1 (ev_var rfl) (rv_I (wide_div (b := 30) hn0 (by omega) (by decide) (by decide)))) (ev_var rfl) ev_c (show 0 < 3 by decide) fun H3 e3 => ?_
      refine s_ret (v := .int (x % n)) (ev_var rfl) fun H4 e4 => ?_
      exact q H4 _ ((upd_drew ((e1.trans e2).trans e3) (Int.ediv_nonneg hx (by omega)) hz0 (by omega)).ex e4) (Int.emod_nonneg x (by omega)) (Int.emod_lt_of_pos x hn0)
    · intro hb H1 e1
      refine q_setL (j := 2) (xs := [.int x, .int y, .int z]) (v := .int (z + 1)) (e1 _ _ h1) (ev_op (at0 (e1 _ _ h1) rfl).2.2 ev_c rv_I0) (ev_var rfl) ev_c (show 2 < 3 by decide) fun H2 e2 => ?_
      have d2 : Drew a (B + 1) H (upd H2 a (.lst [.int x, .int y, .int (z + 1)])) := upd_drew (e1.trans e2) hx (by omega) (by omega)
      have h3 : (upd H2 a (.lst [.int x, .int y, .int (z + 1)])) a = some (.lst [.int x, .int y, .int (z + 1)]) := upd_same
      have e38 : (10 : Int) ^ (38 : Int).toNat = 100000000000000000000000000000000000000 := by decide
      have e37 : (10 : Int) ^ (37 : Int).toNat = 10000000000000000000000000000000000000 := by decide
      have pow : ∀ n : Int, 0 ≤ n → n ≤ 100 → CPow 10 n := fun n h1 h2 => ⟨h1, by omega, by decide⟩
      show tSeq _ _ _ _ (upd H2 a (.lst [.int x, .int y, .int (z + 1)]))
      generalize (upd H2 a (.lst [.int x, .int y, .int (z + 1)])) = H3 at d2 h3
      have b1 : (y + 49979687 * (z + 1)).natAbs < 2 ^ 141 := mix_bound hy0 hy1 (by omega) (by omega) 49979687 (by decide) (by decide)
      refine q_asg (v := .int ((y + 49979687 * (z + 1)) ^ (3 : Int).toNat % ((10 : Int) ^ (38 : Int).toNat + 133))) (ev_op (ev_op (ev_op (at0 h3 rfl).2.1 (ev_op ev_c (at0 h3 rfl).2.2 (rv_I (.inl (by decide)))) rv_I0) ev_c (rv_I (cube_ok b1 (by decide) (by decide))))
        (ev_op (ev_op ev_c ev_c (rv_I (pow 38 (by decide) (by decide)))) ev_c rv_I0) (rv_I (by rw [e38]; decide))) fun H4 e4 => ?_
      have m1 := Int.emod_nonneg ((y + 49979687 * (z + 1)) ^ (3 : Int).toNat) (show ((10 : Int) ^ (38 : Int).toNat + 133) ≠ 0 by rw [e38]; decide)
      have m2 := Int.emod_lt_of_pos ((y + 49979687 * (z + 1)) ^ (3 : Int).toNat) (show 0 < ((10 : Int) ^ (38 : Int).toNat + 133) by rw [e38]; decide)
      generalize (y + 49979687 * (z + 1)) ^ (3 : Int).toNat % ((10 : Int) ^ (38 : Int).toNat + 133) = m at m1 m2
      rw [e38] at m2
      have b2 : (m + 32452843 * (z + 1)).natAbs < 2 ^ 141 := mix_bound m1 (by omega) (by omega) (by omega) 32452843 (by decide) (by decide)
      refine q_asg (v := .int ((m + 32452843 * (z + 1)) ^ (3 : Int).toNat % ((10 : Int) ^ (37 : Int).toNat + 43))) (ev_op (ev_op (ev_op (ev_var rfl) (ev_op ev_c (at0 (e4 _ _ h3) rfl).2.2 (rv_I (.inl (by decide)))) rv_I0) ev_c (rv_I (cube_ok b2 (by decide) (by decide))))
        (ev_op (ev_op ev_c ev_c (rv_I (pow 37 (by decide) (by decide)))) ev_c rv_I0) (rv_I (by rw [e37]; decide))) fun H5 e5 => ?_
      generalize (m + 32452843 * (z + 1)) ^ (3 : Int).toNat % ((10 : Int) ^ (37 : Int).toNat + 43) = u
      refine s_ret (v := .int (u / 131071 % n)) (ev_op (ev_op (ev_var rfl) ev_c (rv_I (wide_div (b := 30) (by decide) (by decide) (by decide) (by decide)))) (ev_var rfl) (rv_I hn0)) fun H6 e6 => ?_
      exact q H6 _ (((d2.ex e4).ex e5).ex e6) (Int.emod_nonneg _ (by omega)) (Int.emod_lt_of_pos _ hn0)
end
end K95
namespace K95
open PySem PySem.Spec PyProof.Rows L2 Os Evl
abbrev sShuf : Stmt := topS 30
theorem scShuf : FnScope ["source", "row", "left", "k"] ["source", "row"] (defScope sShuf) := ⟨rfl, rfl, rfl, by decide +kernel, rfl, by decide +kernel, by decide +kernel⟩
theorem perm_pop {α : Type} {l : List α} {k : Nat} {y : α} (acc : List α) (h : l[k]? = some y) : ((acc ++ [y]) ++ l.eraseIdx k).Perm (acc ++ l) := by
  obtain ⟨lt, e⟩ := List.getElem?_eq_some_iff.mp h
  rw [List.append_assoc]
  refine List.Perm.append_left acc ?_
  have e2 := List.drop_eq_getElem_cons lt
  rw [e] at e2
  rw [List.eraseIdx_eq_take_drop_succ]
  refine List.Perm.trans (l₂ := l.take k ++ y :: l.drop (k + 1)) (show (y :: (l.take k ++ l.drop (k + 1))).Perm _ from List.perm_middle.symm) ?_
  rw [← e2, List.take_append_drop]
section
variable {P : Program} {w : World} {K : PySem.W.Frag} {mg : Str → Option Value} {base : Heap}
def spShuf : Sp := fun vs H Q _ => ∃ (s a : Addr) (xs : List V) (B : Nat), vs = [.ref s, .ref a] ∧ Src H s B ∧ H a = some (.lst xs) ∧ a ≠ s ∧ xs.length ≤ 1000 ∧ B ≤ 900000 ∧
  ∀ H' p ys, Drew s (B + xs.length) H H' → H p = none → H' p = some (.lst ys) → ys.Perm xs → Q (.ref p) H'
theorem ok_shuf {f fP : Addr} {fd fdP : FuncData} {k : Nat} (F : Fun K "_law_shuffled" "_law_shuffled" sShuf f fd) (GP : FnOk P w K mg base CX0 k fP fdP ["source", "count"] spPick) (FP : Fun K "_law_pick" "_law_pick" sPick fP fdP) (bP : Binds K fdP ["source", "count"] [])
    (gP : mg "_law_pick" = some (.ref fP)) (mS : mg "list" = none) (mL : mg "len" = none) (mR : mg "range" = none) : FnOk P w K mg base CX0 (k + 1) f fd ["source", "row"] spShuf := by
  refine F.ok scShuf (fun vs H Q E h => ?_) (fun cdv A outer s H vs Q E hr h => ?_)
  · obtain ⟨s, a, xs, B, rfl, _⟩ := h
    rfl
  · obtain ⟨s, a, xs, B, rfl, hS, ha, nas, hl, hB, q⟩ := h
    refine ⟨_, pss_cons (ps_set (i := 2) scShuf.nd rfl (.inr rfl) (pe_callTy call_list_of (by rfl) mS boot_list (pa_cons (pv 1) pa_nil)))
      (pss_one (ps_ret (pe_lc (own := [("k", 3)]) (g := gName 3) (tt := tYes) (te := tBM K "list" rPopAt (tVar 2) (tCons (tCall spPick [] E0 (tCons (tVar 0) (tCons (tCB (rLenS K) (tCons (tVar 2) tNil)) tNil))) tNil)) rfl scShuf.nd (pi_range1 (by rfl) mR (pa_cons (pe_callB call_len_seq (by rfl) mL boot_len (pa_cons (pv 1) pa_nil)) pa_nil))
          (blkOk_by (N := ["source", "row", "left", "k"]) (sc := defScope sShuf) (by decide +kernel))
          (fun _ _ _ _ _ => pg_name (i := 3) scShuf.nd rfl (Or.inl rfl)) (fun _ _ _ _ _ => pts_nil)
          (fun _ _ _ _ _ => pe_bm PySem.F.plainAttrs_list PySem.F.slot_list_pop PySem.F.type_list_pop mt_popAt (pv 2)
            (pa_cons (pe_call GP hr (by rfl) gP FP.kp bP .nil pass0 (pa_cons (pv 0) (pa_cons (pe_callB call_len_seq (by rfl) mL boot_len (pa_cons (pv 2) pa_nil)) pa_nil))) pa_nil))))), ?_⟩
    -- left = list(row)
    refine ⟨.ref a, rfl, a, xs, rfl, .inl (sq_of ha), fun L hL => ?_⟩
    have e1 : Ex H (upd H L (.lst xs)) := Ex.new hL
    have src0 := hS.at
    -- range(len(row))
    refine ⟨.ref a, rfl, a, xs, rfl, .inl (sq_of (e1 _ _ ha)), (xs.length : Int), rfl, by omega, by omega, fun D hD => ?_⟩
    have nLD : D ≠ L := fun e => by
      rw [e, upd_same] at hD
      cases hD
    have hD0 : H D = none := fresh_back e1 hD
    refine lc_range (lo := 0) (n := (xs.length : Int).toNat) (fun i Hh => ∃ l acc, Hh L = some (.lst l) ∧ Hh D = some (.lst acc) ∧ (acc ++ l).Perm xs ∧ l.length + i = xs.length ∧ acc.length = i ∧ Drew s (B + i) H Hh) ?_ ?_ ?_
    · refine ⟨xs, [], ?_, upd_same, List.Perm.refl _, rfl, rfl, (((Drew.refl hS).ex e1).mut src0 hD0)⟩
      rw [upd_ne nLD.symm]
      exact upd_same
    · rintro i Hh hi ⟨l, acc, hl1, hD1, pm, len, len2, dr⟩
      have hi' : i < xs.length := by omega
      refine ⟨rfl, ?_⟩
      show tBM K "list" rPopAt (tVar 2) _ _ _ _
      refine ⟨.ref L, rfl, .inl ⟨rfl, _, sq_of hl1⟩, .ref s, rfl, .ref L, rfl, L, l, rfl, .inl (sq_of hl1), s, (l.length : Int), B + i, rfl, dr.src, by omega, by omega, by omega, fun H2 r dr2 r0 r1 => ?_⟩
      have nLs : L ≠ s := fun e => by
        obtain ⟨o, ho⟩ := src0
        rw [e, ho] at hL
        cases hL
      have nDs : D ≠ s := fun e => by
        obtain ⟨o, ho⟩ := src0
        rw [e, ho] at hD0
        cases hD0
      have hl2 : H2 L = some (.lst l) := dr2.get nLs hl1
      have hD2 : H2 D = some (.lst acc) := dr2.get nDs hD1
      have lt : r.toNat < l.length := by omega
      have er : r = (r.toNat : Int) := by omega
      refine ⟨L, l, r, r.toNat, l[r.toNat], rfl, rfl, hl2, by omega, by omega, (ixN_seq (by rw [er]; exact ixN_nat lt)).1, List.getElem?_eq_getElem lt, acc, ?_, ?_, ?_⟩
      · rw [upd_ne nLD]
        exact hD2
      · exact sz_lt (by omega)
      · refine ⟨l.eraseIdx r.toNat, acc ++ [l[r.toNat]], ?_, upd_same, (perm_pop acc (List.getElem?_eq_getElem lt)).trans pm, ?_, ?_, ?_⟩
        · rw [upd_ne nLD.symm]
          exact upd_same
        · rw [List.length_eraseIdx_of_lt lt]
          omega
        · rw [List.length_append, len2]
          rfl
        · exact ((dr.trans dr2).mut src0 hL).mut src0 hD0
    · rintro Hh ⟨l, acc, hl1, hD1, pm, len, len2, dr⟩
      have hn : l.length = 0 := by omega
      rw [List.length_eq_zero_iff.mp hn, List.append_nil] at pm
      exact q Hh D acc (by simpa using dr) hD0 hD1 pm
end
end K95
namespace K95
open PySem PySem.Spec PyProof.Rows L2 Os Evl
abbrev sNames : Stmt := topS 31
theorem scNames : FnScope ["source", "size", "letters", "style", "found", "k", "tail"] ["source", "size"] (defScope sNames) := ⟨rfl, rfl, rfl, by decide +kernel, rfl, by decide +kernel, by decide +kernel⟩
def tailOf (k : Nat) : Str := (⟨#[97 + k / 26]⟩ : Str) ++ (⟨#[97 + k % 26]⟩ : Str)
def nm (style k : Nat) : Str := match style with
  | 0 => tailOf k
  | 1 => ("abcdef" : Str) ++ tailOf k
  | _ => Txt.mul ⟨#[97 + k % 26]⟩ (1 + ((k / 26 : Nat) : Int))
def namesOf (style n : Nat) : List Str := (List.range n).map (nm style)
theorem names_ok : ∀ st, st < 3 → ((namesOf st 40).all fun z => nameB z && PyData.strOk z) = true ∧ (namesOf st 40).Nodup
  | 0, _ => by decide +kernel
  | 1, _ => by decide +kernel
  | 2, _ => by decide +kernel
theorem namesOf_take {st n : Nat} (h : n ≤ 40) : namesOf st n = (namesOf st 40).take n := by
  unfold namesOf
  rw [← List.map_take, List.take_range, Nat.min_eq_left h]
theorem names_all {st n : Nat} (hs : st < 3) (h : n ≤ 40) : (∀ z ∈ namesOf st n, nameB z = true ∧ PyData.strOk z = true) ∧ (namesOf st n).Nodup ∧ (namesOf st n).length = n := by
  obtain ⟨h1, h2⟩ := names_ok st hs
  refine ⟨fun z hz => ?_, ?_, ?_⟩
  · rw [namesOf_take h] at hz
    have := List.all_eq_true.mp h1 z (List.mem_of_mem_take hz)
    rwa [Bool.and_eq_true] at this
  · rw [namesOf_take h]
    exact h2.sublist (List.take_sublist _ _)
  · unfold namesOf
    rw [List.length_map, List.length_range]
theorem alph_at {k : Nat} (h : k < 26) : alphabet.cps.toList[k]? = some (97 + k) := by
  have e : alphabet.cps.toList = List.range' 97 26 := by decide
  rw [e, List.getElem?_range' h, Nat.one_mul]
/-- what a permutation of texts is -/
theorem perm_strs {zs : List Str} {ys : List V} (h : ys.Perm (zs.map V.str)) : ∃ us : List Str, ys = us.map V.str ∧ us.Perm zs := by
  have back : ∀ x ∈ ys, ∃ z, x = V.str z := fun x hx => by
    obtain ⟨z, _, e⟩ := List.mem_map.mp (h.mem_iff.mp hx)
    exact ⟨z, e.symm⟩
  let un : V → Str := fun v => match v with
    | .str z => z
    | _ => Str.empty
  refine ⟨ys.map un, ?_, ?_⟩
  · rw [List.map_map]
    have : ys.map (V.str ∘ un) = ys.map id := List.map_congr_left fun x hx => by
      obtain ⟨z, e⟩ := back x hx
      rw [e]
      rfl
    rw [this, List.map_id]
  · have := h.map un
    rw [List.map_map] at this
    have e : zs.map (un ∘ V.str) = zs := by
      have : zs.map (un ∘ V.str) = zs.map id := List.map_congr_left fun x _ => rfl
      rw [this, List.map_id]
    rwa [e] at this

section
variable {P : Program} {w : World} {K : PySem.W.Frag} {mg : Str → Option Value} {base : Heap}
def spNames : Sp := fun vs H Q _ => ∃ (s : Addr) (n B : Nat), vs = [.ref s, .int (n : Int)] ∧ Src H s B ∧ n ≤ 40 ∧ B ≤ 800000 ∧
  ∀ (H' : Hp) (p : Addr) (zs : List Str), Drew s (B + 1 + n) H H' → H p = none → H' p = some (.lst (zs.map V.str)) → zs.length = n → (∀ z ∈ zs, nameB z = true ∧ PyData.strOk z = true) → zs.Nodup → Q (.ref p) H'
theorem rv_addS {H : Hp} {i j : Str} (h : i.length + j.length ≤ 100000) : RV (fun x y H Q => ∃ i j, x = .str i ∧ y = .str j ∧ i.length + j.length ≤ sizeLine ∧ Q (.str (i ++ j)) H) (.str i) (.str j) H (.str (i ++ j)) :=
  fun H1 _ _ q => ⟨i, j, rfl, rfl, sz_of h, q H1 (Ex.refl H1)⟩
theorem rv_mulS {H : Hp} {z : Str} {n : Int} (h : MulOk z n) : RV rMulS (.str z) (.int n) H (.str (Txt.mul z n)) :=
  fun H1 _ _ q => ⟨z, n, rfl, rfl, h, q H1 (Ex.refl H1)⟩
theorem ok_names {f fP fS : Addr} {fd fdP fdS : FuncData} {k : Nat} (F : Fun K "_law_names" "_law_names" sNames f fd) (GP : FnOk P w K mg base CX0 k fP fdP ["source", "count"] spPick) (FP : Fun K "_law_pick" "_law_pick" sPick fP fdP) (bP : Binds K fdP ["source", "count"] [])
    (gP : mg "_law_pick" = some (.ref fP)) (GS : FnOk P w K mg base CX0 k fS fdS ["source", "row"] spShuf) (FS : Fun K "_law_shuffled" "_law_shuffled" sShuf fS fdS) (bS : Binds K fdS ["source", "row"] []) (gS : mg "_law_shuffled" = some (.ref fS)) (mR : mg "range" = none) :
    FnOk P w K mg base CX0 (k + 1) f fd ["source", "size"] spNames := by
  refine F.ok scNames (fun vs H Q E h => ?_) (fun cdv A outer s H vs Q E hr h => ?_)
  · obtain ⟨s, n, B, rfl, _⟩ := h
    rfl
  · obtain ⟨s, n, B, rfl, hS, hn, hB, q⟩ := h
    refine ⟨_, pss_cons (ps_set (i := 2) scNames.nd rfl (.inl rfl) pe_str)
      (pss_cons (ps_set (i := 3) scNames.nd rfl (.inl rfl) (pe_call GP hr (by rfl) gP FP.kp bP .nil pass0 (pa_cons (pv 0) (pa_cons pe_int pa_nil))))
      (pss_cons (ps_set (i := 4) scNames.nd rfl (.inl rfl) (pe_lst pa_nil))
      (pss_cons (ps_for PassesOwn.never rfl (pi_range1 (by rfl) mR (pa_cons (pv 1) pa_nil)) (pg_name (i := 5) scNames.nd rfl (Or.inl rfl))
        (pss_cons (ps_set (i := 6) scNames.nd rfl (.inl rfl) (pe_op op_add_str (pe_ix ix_str (pv 2) (pe_op op_fdiv (pv 5) pe_int) (fun _ _ => rfl)) (pe_ix ix_str (pv 2) (pe_op op_mod (pv 5) pe_int) (fun _ _ => rfl))))
        (pss_one (ps_expr (pe_bm PySem.F.plainAttrs_list PySem.F.slot_list_append PySem.F.type_list_append mt_append (pv 4) (pa_cons
          (pe_ix ix_list (pe_lst (pa_cons (pv 6) (pa_cons (pe_op op_add_str pe_str (pv 6)) (pa_cons (pe_op op_mulS (pe_ix ix_str (pv 2) (pe_op op_mod (pv 5) pe_int) (fun _ _ => rfl)) (pe_op op_add pe_int (pe_op op_fdiv (pv 5) pe_int))) pa_nil)))) (pv 3) (fun _ _ => rfl)) pa_nil))))))
      (pss_one (ps_ret (pe_call GS hr (by rfl) gS FS.kp bS .nil pass0 (pa_cons (pv 0) (pa_cons (pv 4) pa_nil)))))))), ?_⟩
    have src0 := hS.at
    refine q_asg (v := .str alphabet) ev_c fun H1 e1 => ?_
    -- style = _law_pick(source, 3)
    refine ⟨.ref s, rfl, s, 3, B, rfl, hS.ex e1, by omega, by decide, by decide, fun H2 st dr2 st0 st1 => ?_⟩
    obtain ⟨sty, rfl⟩ : ∃ sty : Nat, st = (sty : Int) := ⟨st.toNat, by omega⟩
    have hst : sty < 3 := by omega
    have D2 : Drew s (B + 1) H H2 := ((Drew.refl hS).ex e1).trans dr2
    refine q_asgL (xs := []) (el_lst ea_nil (Nat.zero_le _)) fun Fa H3 hFa e3 hF3 => ?_
    have hF0 : H Fa = none := D2.none src0 hFa
    have nFs : Fa ≠ s := fun e => by
      obtain ⟨o, ho⟩ := src0
      rw [e, ho] at hF0
      cases hF0
    refine q_forR1 (n := (n : Int)) (ea_cons (ev_var rfl) ea_nil) ⟨by omega, by omega⟩
      (fun i σ' H' => H' Fa = some (.lst ((namesOf sty i).map V.str)) ∧ Drew s (B + 1) H H' ∧ ∃ y5 y6, σ' = [some (.ref s), some (.int n), some (.str alphabet), some (.int (sty : Int)), some (.ref Fa), y5, y6])
      (fun H4 e4 => ⟨e4 _ _ hF3, (D2.ex e3).ex e4, _, _, rfl⟩) ?_ ?_
    · rintro i σ' H4 hi ⟨hF4, dr4, y5, y6, rfl⟩
      have hi' : i < 40 := by omega
      have small : ∀ c : Nat, ((⟨#[c]⟩ : Str)).length = 1 := fun _ => rfl
      have sL : alphabet.length ≤ 100000 := by decide
      have et : ∀ {σ : L2.St} {H' : Hp}, σ[2]? = some (some (.str alphabet)) → σ[5]? = some (some (.int (i : Int))) → Ev (tOp rIxS (tVar 2) (tOp (rI CDiv fun i j => .int (i / j)) (tVar 5) (tC (.int 26)))) σ H' (.str ⟨#[97 + i / 26]⟩) := fun h1 h2 =>
        ev_op (ev_var h1) (ev_is (ev_op (ev_var h2) ev_c (rv_I ⟨by decide, by decide⟩)) (show _ = V.int ((i / 26 : Nat) : Int) from congrArg V.int (by omega))) (rv_ixS sL (atI_nat (alph_at (by omega))))
      have em : ∀ {σ : L2.St} {H' : Hp}, σ[2]? = some (some (.str alphabet)) → σ[5]? = some (some (.int (i : Int))) → Ev (tOp rIxS (tVar 2) (tOp (rI (fun _ j => 0 < j) fun i j => .int (i % j)) (tVar 5) (tC (.int 26)))) σ H' (.str ⟨#[97 + i % 26]⟩) := fun h1 h2 =>
        ev_op (ev_var h1) (ev_is (ev_op (ev_var h2) ev_c (rv_I (by decide))) (show _ = V.int ((i % 26 : Nat) : Int) from congrArg V.int (by omega))) (rv_ixS sL (atI_nat (alph_at (by omega))))
      refine q_asg (v := .str (tailOf i)) (ev_op (et rfl rfl) (em rfl rfl) (rv_addS (by rw [small, small]; decide))) fun H5 e5 => ?_
      refine s_app (v := .str (nm sty i)) (e5 _ _ hF4) (ev_var rfl) (ev_opL1 (xs := [.str (tailOf i), .str (("abcdef" : Str) ++ tailOf i), .str (Txt.mul ⟨#[97 + i % 26]⟩ (1 + ((i / 26 : Nat) : Int)))]) (y := .int (sty : Int)) (el_lst (ea_cons (ev_var rfl) (ea_cons (ev_op ev_c (ev_var rfl) (rv_addS ?_))
        (ea_cons (ev_op (em rfl rfl) (ev_is (ev_op ev_c (ev_op (ev_var rfl) ev_c (rv_I ⟨by decide, by decide⟩)) rv_I0) (show _ = V.int (1 + ((i / 26 : Nat) : Int)) from congrArg V.int (by omega))) (rv_mulS (mul_small (by omega) (by omega) (by rw [small]; decide)))) ea_nil))) (show 3 ≤ 100000 by decide)) (fun _ _ => ev_var rfl) fun p H6 hp _ => rv_ixL (sq_of hp) (atI_nat ?_)) ?_ fun H6 e6 => ?_
      · unfold tailOf
        rw [strLen_append, small, small]
        decide
      · match sty, hst with
        | 0, _ => rfl
        | 1, _ => rfl
        | 2, _ => rfl
      · rw [List.length_map]
        unfold namesOf
        rw [List.length_map, List.length_range]
        omega
      · refine ⟨?_, ((dr4.ex e5).ex e6).mut src0 hF0, _, _, rfl⟩
        rw [upd_same]
        unfold namesOf
        rw [List.range_succ, List.map_append, List.map_append]
        rfl
    · rintro σ' H4 ⟨hF4, dr4, y5, y6, rfl⟩
      rw [Int.toNat_natCast] at hF4
      obtain ⟨a1, a2, a3⟩ := names_all hst hn
      have len : ((namesOf sty n).map V.str).length = n := by rw [List.length_map, a3]
      refine ⟨.ref s, rfl, .ref Fa, rfl, s, Fa, _, B + 1, rfl, dr4.src, hF4, nFs, by omega, by omega, fun H5 p ys dr5 hp hys pm => ?_⟩
      obtain ⟨us, rfl, pu⟩ := perm_strs pm
      rw [len] at dr5
      exact q H5 p us (dr4.trans dr5) (dr4.none src0 hp) hys (by rw [pu.length_eq, a3]) (fun z hz => a1 z (pu.mem_iff.mp hz)) (pu.nodup_iff.mpr a2)
end
end K95
namespace K95
open PySem PySem.Spec PyProof.Rows L2 Os Evl
abbrev sInt : Stmt := topS 5
theorem scInt : FnScope ["thing"] ["thing"] (defScope sInt) := ⟨rfl, rfl, rfl, by decide +kernel, rfl, by decide +kernel, by decide +kernel⟩
abbrev sPos : Stmt := topS 6
theorem scPos : FnScope ["n", "thing"] ["n", "thing"] (defScope sPos) := ⟨rfl, rfl, rfl, by decide +kernel, rfl, by decide +kernel, by decide +kernel⟩
abbrev sEdge : Stmt := topS 7
theorem scEdge : FnScope ["n", "thing", "p", "q"] ["n", "thing"] (defScope sEdge) := ⟨rfl, rfl, rfl, by decide +kernel, rfl, by decide +kernel, by decide +kernel⟩

section
variable {P : Program} {w : World} {K : PySem.W.Frag} {mg : Str → Option Value} {base : Heap}
def intB : PyData → Bool
  | .int _ => true
  | _ => false
def numB : PyData → Bool
  | .int _ => true
  | .bool _ => true
  | _ => false
def isBlD : PyData → Bool
  | .bool _ => true
  | _ => false
theorem kit_int (d : PyData) : kitB (tyName d) "int" = some (numB d) := by
  cases d <;> (simp only [tyName, numB]; decide +kernel)
theorem kit_bool (d : PyData) : kitB (tyName d) "bool" = some (isBlD d) := by
  cases d <;> (simp only [tyName, isBlD]; decide +kernel)
def spInt : Sp := fun vs H Q _ => ∃ v d, vs = [v] ∧ Dt H v d ∧ ∀ H', Ex H H' → Q (.bl (intB d)) H'
theorem ok_int {f : Addr} {fd : FuncData} {k : Nat} (F : Fun K "is_integer" "is_integer" sInt f fd) (mIsi : mg "isinstance" = none) (mInt : mg "int" = none) (mBool : mg "bool" = none) : FnOk P w K mg base CX0 (k + 1) f fd ["thing"] spInt := by
  refine F.ok scInt (fun vs H Q E h => ?_) (fun cdv A outer s H vs Q E hr h => ?_)
  · obtain ⟨v, d, rfl, _⟩ := h
    rfl
  · obtain ⟨v, d, rfl, hd, q⟩ := h
    refine ⟨_, (pss_one (ps_ret (pe_and (pe_callB call_isi (by rfl) mIsi boot_isinstance (pa_cons (pv 0) (pa_cons (pe_bltn (v := .ty "int") (by rfl) mInt boot_int rfl) pa_nil))) (pe_one (pe_not (pe_callB call_isi (by rfl) mIsi boot_isinstance (pa_cons (pv 0) (pa_cons (pe_bltn (v := .ty "bool") (by rfl) mBool boot_bool rfl) pa_nil)))))))), ?_⟩
    refine s_ret (v := .bl (intB d)) (ev_is (ev_andV (ev_isi (ev_var rfl) hd (kit_int d)) fun _ => ev_notV (ev_isi (ev_var rfl) hd (kit_bool d))) (by cases d <;> rfl)) fun H1 e1 => q H1 e1
def posB (n : Int) : PyData → Bool
  | .int i => decide (0 ≤ i) && decide (i < n)
  | _ => false
def spPos : Sp := fun vs H Q _ => ∃ n v d, vs = [.int n, v] ∧ Dt H v d ∧ ∀ H', Ex H H' → Q (.bl (posB n d)) H'
theorem ok_pos {f fI : Addr} {fd fdI : FuncData} {k : Nat} (F : Fun K "is_position" "is_position" sPos f fd) (GI : FnOk P w K mg base CX0 k fI fdI ["thing"] spInt) (FI : Fun K "is_integer" "is_integer" sInt fI fdI) (bI : Binds K fdI ["thing"] []) (gI : mg "is_integer" = some (.ref fI)) :
    FnOk P w K mg base CX0 (k + 1) f fd ["n", "thing"] spPos := by
  refine F.ok scPos (fun vs H Q E h => ?_) (fun cdv A outer s H vs Q E hr h => ?_)
  · obtain ⟨n, v, d, rfl, _⟩ := h
    rfl
  · obtain ⟨n, v, d, rfl, hd, q⟩ := h
    refine ⟨_, (pss_one (ps_ret (pe_and (pe_call GI hr (by rfl) gI FI.kp bI .nil pass0 (pa_cons (pv 1) pa_nil)) (pe_one (pe_chain op_le op_lt pe_int (pv 1) (pv 0)))))), ?_⟩
    have e1 : Ev (tCall spInt [] E0 (tCons (tVar 1) tNil)) (start ["n", "thing"] [.int n, v]) H (.bl (intB d)) := ev_sp (ea_cons (ev_var rfl) ea_nil) fun H2 e2 Q q => ⟨v, d, rfl, hd.same (same_ex e2), fun H3 e3 => q H3 e3⟩
    cases hd with
    | int i => exact s_ret (v := .bl (posB n (.int i))) (ev_is (ev_andV (a := true) e1 fun _ => ev_chain ev_c (ev_var rfl) rv_I0 fun _ => ⟨_, ev_var rfl, rv_I0⟩) rfl) fun H2 e2 => q H2 e2
    | _ => exact s_ret (v := .bl false) (ev_andV (b := false) e1 fun h => nomatch h) fun H2 e2 => q H2 e2
def edgeB (n : Int) : PyData → Bool
  | .tuple [.int p, .int q] => posB n (.int p) && (posB n (.int q) && decide (p < q))
  | _ => false
def spEdge : Sp := fun vs H Q _ => ∃ n v d, vs = [.int n, v] ∧ Dt H v d ∧ ∀ H', Ex H H' → Q (.bl (edgeB n d)) H'
theorem edgeB_tup (n : Int) (d1 d2 : PyData) : edgeB n (.tuple [d1, d2]) = (posB n d1 && (posB n d2 && (match d1, d2 with | .int p, .int q => decide (p < q) | _, _ => false))) := by
  cases d1 <;> cases d2 <;> simp [edgeB, posB]
theorem edgeB_len (n : Int) : ∀ {ds : List PyData}, ds.length ≠ 2 → edgeB n (.tuple ds) = false
  | [], _ => rfl
  | [d], _ => by cases d <;> rfl
  | [_, _], h => absurd rfl h
  | d :: e :: _ :: _, _ => by cases d <;> cases e <;> rfl
theorem ev_lenT {K : PySem.W.Frag} {σ : L2.St} {H : Hp} {ta : TE} {p : Addr} {xs : List V} (ha : Ev ta σ H (.ref p)) (h : H p = some (.tup xs)) :
    Ev (tCB (fun xs H Q => ∃ p ys, xs = [V.ref p] ∧ (SqL K H p ys ∨ SqT K H p ys) ∧ Q (.int ys.length) H) (tCons ta tNil)) σ H (.int (xs.length : Int)) := fun H1 e Q q =>
  ha H1 e _ fun H2 e2 => ⟨p, xs, rfl, .inr (st_of ((e.trans e2) _ _ h)), q H2 e2⟩
theorem ok_edge {f fP : Addr} {fd fdP : FuncData} {k : Nat} (F : Fun K "is_edge" "is_edge" sEdge f fd) (GP : FnOk P w K mg base CX0 k fP fdP ["n", "thing"] spPos) (FP : Fun K "is_position" "is_position" sPos fP fdP) (bP : Binds K fdP ["n", "thing"] []) (gP : mg "is_position" = some (.ref fP))
    (mIsi : mg "isinstance" = none) (mTup : mg "tuple" = none) (mLen : mg "len" = none) : FnOk P w K mg base CX0 (k + 1) f fd ["n", "thing"] spEdge := by
  refine F.ok scEdge (fun vs H Q E h => ?_) (fun cdv A outer s H vs Q E hr h => ?_)
  · obtain ⟨n, v, d, rfl, _⟩ := h
    rfl
  · obtain ⟨n, v, d, rfl, hd, q⟩ := h
    refine ⟨_, (pss_cons (ps_if (PW.pt (pw_or (pt_not (pt_val (pe_callB call_isi (by rfl) mIsi boot_isinstance (pa_cons (pv 1) (pa_cons (pe_bltn (v := .ty "tuple") (by rfl) mTup boot_tuple rfl) pa_nil))))) (pw_or1 (pt_cmpR op_ne (pe_callB call_len_seq (by rfl) mLen boot_len (pa_cons (pv 1) pa_nil)) pe_int (nomark _))))) (pss_one (ps_ret pe_bl)) pss_nil)
      (pss_cons (ps_asg (pv 1) (pg_tup rfl (pgs_cons (pg_name (i := 2) scEdge.nd rfl (Or.inl rfl)) (pgs_cons (pg_name (i := 3) scEdge.nd rfl (Or.inl rfl)) pgs_nil))))
      (pss_one (ps_ret (pe_and (pe_call GP hr (by rfl) gP FP.kp bP .nil pass0 (pa_cons (pv 0) (pa_cons (pv 2) pa_nil))) (pe_and (pe_call GP hr (by rfl) gP FP.kp bP .nil pass0 (pa_cons (pv 0) (pa_cons (pv 3) pa_nil))) (pe_one (pe_cmpR op_lt (pv 2) (pv 3) (nomark _))))))))), ?_⟩
    have e0 : Ev (tVar 1) (start ["n", "thing", "p", "q"] [.int n, v]) H v := ev_var rfl
    rcases hd.tup_or with ⟨a, xs, ds, rfl, ha, ht, rfl⟩ | hn
    · have hlen : xs.length = ds.length := ht.length
      refine q_when (b := !true || !decide (V.int xs.length = V.int 2)) (et_or (et_not (et_B (ev_isi e0 hd (kit_tup _)))) fun _ => et_test (ev_op (ev_lenT e0 ha) ev_c (rv_ne rfl))) ?_ ?_
      · intro hb H1 e1
        have hb2 : (!decide (V.int xs.length = V.int 2)) = true := hb
        have hb3 := of_decide_eq_false ((Bool.not_eq_true' _).mp hb2)
        have e2 := edgeB_len n (ds := ds) fun z => hb3 (by rw [hlen, z]; rfl)
        refine s_ret (v := .bl false) ev_c fun H2 e3 => ?_
        rw [← e2]
        exact q H2 (e1.trans e3)
      · intro hb H1 e1
        have hb2 : (!decide (V.int xs.length = V.int 2)) = false := hb
        have hb3 := V.int.inj (of_decide_eq_true ((Bool.not_eq_false' _).mp hb2))
        have t1 := ht.same (same_ex e1)
        have ha1 := e1 _ _ ha
        match xs, ds, t1, hb3, ha1 with
        | [x, y], [d1, d2], .cons h1 (.cons h2 .nil), _, ha1 =>
          refine ⟨.ref a, rfl, a, [x, y], rfl, st_of ha1, rfl, x, [y], rfl, y, [], rfl, rfl, ?_⟩
          have ep : ∀ {i : Nat} {z : V} {d : PyData} {σ : L2.St}, σ[0]? = some (some (.int n)) → σ[i]? = some (some z) → Dt H1 z d → Ev (tCall spPos [] E0 (tCons (tVar 0) (tCons (tVar i) tNil))) σ H1 (.bl (posB n d)) := fun g1 g2 g3 =>
            ev_sp (ea_cons (ev_var g1) (ea_cons (ev_var g2) ea_nil)) fun H2 e2 Q q => ⟨n, _, _, rfl, g3.same (same_ex e2), fun H3 e3 => q H3 e3⟩
          dsimp only
          refine s_ret (v := .bl (edgeB n (.tuple [d1, d2]))) ?_ fun H2 e2 => q H2 (e1.trans e2)
          rw [edgeB_tup]
          refine ev_andV (ep rfl rfl h1) fun p1 => ev_andV (ep rfl rfl h2) fun p2 => ?_
          cases h1 with
          | int i =>
            cases h2 with
            | int j => exact ev_op (ev_var rfl) (ev_var rfl) rv_I0
            | _ => cases p2
          | _ => cases p1
    · refine q_when (b := true) (et_is (et_or (b := true) (et_not (et_B (ev_isi e0 hd (kit_tup _)))) fun hs => ?_) ?_) ?_ ?_
      · rw [hn] at hs
        cases hs
      · rw [hn]
        rfl
      · intro _ H1 e1
        have : edgeB n d = false := by
          cases d <;> first | rfl | cases hn
        refine s_ret (v := .bl false) ev_c fun H2 e3 => ?_
        rw [← this]
        exact q H2 (e1.trans e3)
      · intro hb
        cases hb
end
end K95
/-! the drawn forests: each later label is tied to an earlier one at most once -/
namespace Os
open PySem PySem.Spec PyProof.Rows L2 Evl
theorem snd_inj : ∀ {ks : List Pr}, ks.Pairwise (fun p q => p.2 < q.2) → ∀ {p q : Pr}, p ∈ ks → q ∈ ks → p.2 = q.2 → p = q
  | x :: r, h, p, q, hp, hq, e => by
    obtain ⟨h1, h2⟩ := List.pairwise_cons.mp h
    rcases List.mem_cons.mp hp with ep | hp
    · rcases List.mem_cons.mp hq with eq | hq
      · rw [ep, eq]
      · have := h1 q hq
        rw [ep] at e
        omega
    · rcases List.mem_cons.mp hq with eq | hq
      · have := h1 p hp
        rw [eq] at e
        omega
      · exact snd_inj h2 hp hq e
def edgeOf (lab : List Nat) (p : Pr) : Pr := (min (lab.getD p.1 0) (lab.getD p.2 0), max (lab.getD p.1 0) (lab.getD p.2 0))
/-- the places that hang below those of T -/
def below : List Pr → (Nat → Bool) → Nat → Bool
  | [], T => T
  | p :: r, T => below r fun x => T x || (decide (x = p.2) && T p.1)
theorem below_out : ∀ {ks : List Pr} {T : Nat → Bool} {x : Nat}, (∀ p ∈ ks, p.2 ≠ x) → below ks T x = T x
  | [], _, _, _ => rfl
  | p :: r, T, x, h => by
    show below r _ x = T x
    rw [below_out fun q hq => h q (List.mem_cons_of_mem _ hq), decide_eq_false fun e => h p List.mem_cons_self e.symm, Bool.false_and, Bool.or_false]
theorem below_tie : ∀ {ks : List Pr} {T : Nat → Bool} {a k : Nat}, (∀ p ∈ ks, p.1 < p.2) → ks.Pairwise (fun p q => p.2 < q.2) → (a, k) ∈ ks → below ks T k = (T k || below ks T a)
  | p :: r, T, a, k, hl, inc, hm => by
    obtain ⟨i1, i2⟩ := List.pairwise_cons.mp inc
    rcases List.mem_cons.mp hm with e | hm
    · subst e
      have lt : a < k := hl _ List.mem_cons_self
      show below r _ k = (T k || below r _ a)
      rw [below_out (x := k) fun q hq e => by have := i1 q hq; omega, below_out (x := a) fun q hq e => by have := i1 q hq; omega]
      rw [decide_eq_true rfl, decide_eq_false (show ¬ a = k by omega), Bool.true_and, Bool.false_and, Bool.or_false]
    · have gt : p.2 < k := i1 _ hm
      show below r _ k = (T k || below r _ a)
      rw [below_tie (fun q hq => hl q (List.mem_cons_of_mem _ hq)) i2 hm, decide_eq_false (show ¬ k = p.2 by omega), Bool.false_and, Bool.or_false]
theorem below_up : ∀ {ks : List Pr} {T : Nat → Bool} {x : Nat}, T x = true → below ks T x = true
  | [], _, _, h => h
  | p :: r, T, x, h => below_up (ks := r) (by rw [h]; rfl)
theorem below_ge : ∀ {ks : List Pr} {T : Nat → Bool} {c : Nat}, (∀ p ∈ ks, p.1 < p.2) → (∀ x, T x = true → c ≤ x) → ∀ x, below ks T x = true → c ≤ x
  | [], _, _, _, h => h
  | p :: r, T, c, hl, h => below_ge (ks := r) (fun q hq => hl q (List.mem_cons_of_mem _ hq)) fun x hx => by
    rw [Bool.or_eq_true, Bool.and_eq_true] at hx
    rcases hx with hx | ⟨h1, h2⟩
    · exact h x hx
    · have e := of_decide_eq_true h1
      have := h p.1 h2
      have := hl p List.mem_cons_self
      omega
theorem perm_nats {l : List Nat} {ys : List V} (h : ys.Perm (l.map fun x : Nat => V.int (x : Int))) : ∃ us : List Nat, ys = us.map (fun x : Nat => V.int (x : Int)) ∧ us.Perm l := by
  have back : ∀ x ∈ ys, ∃ z : Nat, x = V.int (z : Int) := fun x hx => by
    obtain ⟨z, _, e⟩ := List.mem_map.mp (h.mem_iff.mp hx)
    exact ⟨z, e.symm⟩
  let un : V → Nat := fun v => match v with
    | .int z => z.toNat
    | _ => 0
  refine ⟨ys.map un, ?_, ?_⟩
  · rw [List.map_map]
    have : ys.map ((fun x : Nat => V.int (x : Int)) ∘ un) = ys.map id := List.map_congr_left fun x hx => by
      obtain ⟨z, e⟩ := back x hx
      rw [e]
      rfl
    rw [this, List.map_id]
  · have := h.map un
    rw [List.map_map] at this
    have e : l.map (un ∘ fun x : Nat => V.int (x : Int)) = l := by
      have : l.map (un ∘ fun x : Nat => V.int (x : Int)) = l.map id := List.map_congr_left fun x _ => rfl
      rw [this, List.map_id]
    rwa [e] at this
section
variable {lab : List Nat} {n : Nat}
theorem lab_len (pm : lab.Perm (List.range n)) : lab.length = n := by rw [pm.length_eq, List.length_range]
theorem lab_lt (pm : lab.Perm (List.range n)) {i : Nat} (h : i < n) : lab.getD i 0 < n := by
  rw [List.getD_eq_getElem?_getD, List.getElem?_eq_getElem (by rw [lab_len pm]; exact h)]
  exact List.mem_range.mp (pm.mem_iff.mp (List.getElem_mem _))
theorem lab_inj (pm : lab.Perm (List.range n)) {i j : Nat} (hi : i < n) (hj : j < n) (e : lab.getD i 0 = lab.getD j 0) : i = j := by
  have nd : lab.Nodup := pm.nodup_iff.mpr List.nodup_range
  have li : i < lab.length := by rw [lab_len pm]; exact hi
  have lj : j < lab.length := by rw [lab_len pm]; exact hj
  rw [List.getD_eq_getElem?_getD, List.getD_eq_getElem?_getD, List.getElem?_eq_getElem li, List.getElem?_eq_getElem lj] at e
  have e' : lab[i] = lab[j] := e
  refine Decidable.byContradiction fun ne => ?_
  rcases Nat.lt_or_gt_of_ne ne with h | h
  · exact List.pairwise_iff_getElem.mp nd i j li lj h e'
  · exact List.pairwise_iff_getElem.mp nd j i lj li h e'.symm
/-- a property of places, said of labels -/
def onLab (lab : List Nat) (n : Nat) (T : Nat → Bool) (x : Nat) : Bool := (List.range n).any fun i => decide (lab.getD i 0 = x) && T i
theorem onLab_at (pm : lab.Perm (List.range n)) (T : Nat → Bool) {i : Nat} (hi : i < n) : onLab lab n T (lab.getD i 0) = T i := by
  unfold onLab
  cases h : T i with
  | true => exact List.any_eq_true.mpr ⟨i, List.mem_range.mpr hi, by rw [decide_eq_true rfl, h]; rfl⟩
  | false =>
    refine List.any_eq_false.mpr fun j hj z => ?_
    rw [Bool.and_eq_true] at z
    have e := lab_inj pm (List.mem_range.mp hj) hi (of_decide_eq_true z.1)
    rw [e, h] at z
    cases z.2
theorem minmax (S : Nat → Bool) (u v : Nat) : (S (min u v) = S (max u v)) ↔ S u = S v := by
  by_cases h : u ≤ v
  · rw [Nat.min_eq_left h, Nat.max_eq_right h]
  · rw [Nat.min_eq_right (by omega), Nat.max_eq_left (by omega)]
    exact ⟨Eq.symm, Eq.symm⟩
theorem drawn_edges {ks : List Pr} (pm : lab.Perm (List.range n)) (hl : ∀ p ∈ ks, p.1 < p.2 ∧ p.2 < n) (inc : ks.Pairwise fun p q => p.2 < q.2) :
    (∀ e ∈ ks.map (edgeOf lab), e.1 < e.2 ∧ e.2 < n) ∧ (ks.map (edgeOf lab)).Nodup ∧ Bridges (ks.map (edgeOf lab)) := by
  refine ⟨fun e he => ?_, ?_, fun e he => ?_⟩
  · obtain ⟨p, hp, rfl⟩ := List.mem_map.mp he
    obtain ⟨h1, h2⟩ := hl p hp
    have a := lab_lt pm (show p.1 < n by omega)
    have b := lab_lt pm h2
    have ne : lab.getD p.1 0 ≠ lab.getD p.2 0 := fun z => by
      have := lab_inj pm (show p.1 < n by omega) h2 z
      omega
    show min _ _ < max _ _ ∧ max _ _ < n
    omega
  · unfold List.Nodup
    rw [List.pairwise_map]
    refine List.Pairwise.imp_of_mem (fun {p q} hp hq lt e => ?_) inc
    obtain ⟨h1, h2⟩ := hl p hp
    obtain ⟨h3, h4⟩ := hl q hq
    have e1 : min (lab.getD p.1 0) (lab.getD p.2 0) = min (lab.getD q.1 0) (lab.getD q.2 0) := congrArg Prod.fst e
    have e2 : max (lab.getD p.1 0) (lab.getD p.2 0) = max (lab.getD q.1 0) (lab.getD q.2 0) := congrArg Prod.snd e
    have or : (lab.getD p.1 0 = lab.getD q.1 0 ∧ lab.getD p.2 0 = lab.getD q.2 0) ∨ (lab.getD p.1 0 = lab.getD q.2 0 ∧ lab.getD p.2 0 = lab.getD q.1 0) := by omega
    rcases or with ⟨_, z⟩ | ⟨z1, z2⟩
    · have := lab_inj pm h2 h4 z
      omega
    · have := lab_inj pm (by omega) h4 z1
      have := lab_inj pm h2 (by omega) z2
      omega
  · obtain ⟨p, hp, rfl⟩ := List.mem_map.mp he
    obtain ⟨h1, h2⟩ := hl p hp
    have hl1 : ∀ q ∈ ks, q.1 < q.2 := fun q hq => (hl q hq).1
    refine ⟨onLab lab n (below ks fun x => decide (x = p.2)), ?_, fun f hf ne => ?_⟩
    · intro z
      have z2 := (minmax _ _ _).mp z
      rw [onLab_at pm _ (show p.1 < n by omega), onLab_at pm _ h2, below_up (x := p.2) (decide_eq_true rfl)] at z2
      have := below_ge (c := p.2) hl1 (fun x hx => by have := of_decide_eq_true hx; omega) p.1 z2
      omega
    · obtain ⟨q, hq, rfl⟩ := List.mem_map.mp hf
      obtain ⟨h3, h4⟩ := hl q hq
      refine (minmax _ _ _).mpr ?_
      rw [onLab_at pm _ (show q.1 < n by omega), onLab_at pm _ h4]
      have nk : q.2 ≠ p.2 := fun z => by
        have : p = q := snd_inj inc hp hq z.symm
        rw [this] at ne
        exact ne rfl
      have t := below_tie (T := fun x => decide (x = p.2)) hl1 inc (show (q.1, q.2) ∈ ks from hq)
      rw [decide_eq_false nk, Bool.false_or] at t
      exact t.symm
end
/-! ### sorted -/
theorem Bridges.perm {es fs : List Pr} (h : Bridges es) (pm : fs.Perm es) : Bridges fs := fun e he => by
  obtain ⟨S, h1, h2⟩ := h e (pm.mem_iff.mp he)
  exact ⟨S, h1, fun f hf => h2 f (pm.mem_iff.mp hf)⟩
theorem asc_strict {es : List Pr} (nd : es.Nodup) (small : ∀ e ∈ es, e.1 < 64 ∧ e.2 < 64) (h : es.Pairwise fun e f => (e.1 : Int) * 64 + (e.2 : Int) ≤ (f.1 : Int) * 64 + (f.2 : Int)) : es.Pairwise fun e f => ltP e f = true := by
  have h2 := h.and nd
  refine List.Pairwise.imp_of_mem (fun {e f} he hf z => ?_) h2
  obtain ⟨a1, a2⟩ := small e he
  obtain ⟨b1, b2⟩ := small f hf
  rw [ltP_iff]
  by_cases q : e.1 = f.1
  · by_cases q2 : e.2 = f.2
    · exact absurd (Prod.ext q q2) z.2
    · have := z.1
      omega
  · have := z.1
    omega
end Os
/-! what evaluates to something of a kind: displays, sums and slices whose items are new objects themselves -/
namespace Os
open PySem PySem.Spec PyProof.Rows L2 Evl

/-- R is kept by more heap -/
def Up (R : Hp → V → Prop) : Prop := ∀ G G' v, Ex G G' → R G v → R G' v
section
variable (s : Addr) (R : Hp → V → Prop)
def EvR (te : TE) (σ : L2.St) (H : Hp) : Prop := ∀ H1, Ex H H1 → ∀ Q : VK, (∀ v H2, Ex H1 H2 → R (hide s H2) v → Q v H2) → te σ H1 Q
def EvAR (ta : TA) (σ : L2.St) (H : Hp) (n : Nat) : Prop := ∀ H1, Ex H H1 → ∀ Q : List V → Hp → Prop, (∀ vs H2, Ex H1 H2 → vs.length = n → (∀ v ∈ vs, R (hide s H2) v) → Q vs H2) → ta σ H1 Q
/-- a new list of lo to hi such items -/
def EvLR (te : TE) (σ : L2.St) (H : Hp) (lo hi : Nat) : Prop := ∀ H1, Ex H H1 → ∀ Q : VK,
  (∀ p xs H2, H1 p = none → Ex H1 H2 → H2 p = some (.lst xs) → lo ≤ xs.length → xs.length ≤ hi → (∀ x ∈ xs, R (hide s H2) x) → Q (.ref p) H2) → te σ H1 Q
/-- a list that stands at p, the same of its items -/
def LsR (H : Hp) (p : Addr) (lo hi : Nat) : Prop := p ≠ s ∧ ∃ xs, H p = some (.lst xs) ∧ lo ≤ xs.length ∧ xs.length ≤ hi ∧ ∀ x ∈ xs, R (hide s H) x
end
section
variable {K : PySem.W.Frag} {s : Addr} {R : Hp → V → Prop} {σ : L2.St} {H H' : Hp} {ta tb te : TE} {tl tr : TA} {n m lo hi lo' hi' : Nat} {v : V}
theorem hide_ex (e : Ex H H') : Ex (hide s H) (hide s H') := Same.hide (same_ex e)
theorem er_of (up : Up R) (h : Ev te σ H v) (r : R (hide s H) v) : EvR s R te σ H := fun H1 e Q q =>
  h H1 e _ fun H2 e2 => q v H2 e2 (up _ _ _ (hide_ex (e.trans e2)) r)
theorem er_mono (e : Ex H H') (h : EvR s R te σ H) : EvR s R te σ H' := fun H1 a Q q => h H1 (e.trans a) Q q
theorem ear_nil : EvAR s R tNil σ H 0 := fun H1 _ Q q => q [] H1 (Ex.refl _) rfl fun _ h => nomatch h
theorem ear_cons (up : Up R) (h : EvR s R te σ H) (hr : EvAR s R tr σ H n) : EvAR s R (tCons te tr) σ H (n + 1) := fun H1 e Q q =>
  h H1 e _ fun v H2 e2 r => hr H2 (e.trans e2) _ fun vs H3 e3 hn hv => q (v :: vs) H3 (e2.trans e3) (by rw [List.length_cons, hn]) fun x hx => by
    rcases List.mem_cons.mp hx with rfl | hx
    · exact up _ _ _ (hide_ex e3) r
    · exact hv x hx
theorem new_apart (hs : ∃ o, H s = some o) {p : Addr} (h : H p = none) : p ≠ s := fun e => by
  obtain ⟨o, ho⟩ := hs
  rw [e, ho] at h
  cases h
theorem elr_lst (up : Up R) (h : EvAR s R tl σ H n) (hn : n ≤ 1000) : EvLR s R (tLst tl) σ H n n := fun H1 e Q q =>
  h H1 e _ fun vs H2 e2 hl hv => ⟨by rw [hl]; exact sz_of (by omega), fun p hp => q p vs _ (fresh_back e2 hp) (e2.trans (Ex.new hp)) upd_same (by omega) (by omega) fun x hx => up _ _ _ (hide_ex (Ex.new hp)) (hv x hx)⟩
theorem elr_cat (up : Up R) (h1 : EvLR s R ta σ H lo hi) (h2 : EvLR s R tb σ H lo' hi') (hn : hi + hi' ≤ 10000) : EvLR s R (tOp rCat ta tb) σ H (lo + lo') (hi + hi') := fun H1 e Q q =>
  h1 H1 e _ fun p xs H2 hp e2 hx l1 l2 rx => h2 H2 (e.trans e2) _ fun p' ys H3 hp' e3 hy l3 l4 ry =>
    ⟨p, p', xs, ys, rfl, rfl, e3 _ _ hx, hy, sz_of (by omega), fun r hr => q r (xs ++ ys) _ (fresh_back (e2.trans e3) hr) ((e2.trans e3).trans (Ex.new hr)) upd_same (by rw [List.length_append]; omega) (by rw [List.length_append]; omega) fun x hx => by
      rcases List.mem_append.mp hx with z | z
      · exact up _ _ _ (hide_ex (e3.trans (Ex.new hr))) (rx x z)
      · exact up _ _ _ (hide_ex (Ex.new hr)) (ry x z)⟩
/-- the left one stands there already -/
theorem elr_catV (up : Up R) {p : Addr} (h1 : Ev ta σ H (.ref p)) (hp : LsR s R H p lo hi) (h2 : EvLR s R tb σ H lo' hi') (hn : hi + hi' ≤ 10000) : EvLR s R (tOp rCat ta tb) σ H (lo + lo') (hi + hi') := fun H1 e Q q => by
  obtain ⟨_, xs, hx, l1, l2, rx⟩ := hp
  exact h1 H1 e _ fun H2 e2 => h2 H2 (e.trans e2) _ fun p' ys H3 hp' e3 hy l3 l4 ry =>
    ⟨p, p', xs, ys, rfl, rfl, ((e.trans e2).trans e3) _ _ hx, hy, sz_of (by omega), fun r hr => q r (xs ++ ys) _ (fresh_back (e2.trans e3) hr) ((e2.trans e3).trans (Ex.new hr)) upd_same (by rw [List.length_append]; omega) (by rw [List.length_append]; omega) fun x hx => by
      rcases List.mem_append.mp hx with z | z
      · exact up _ _ _ (hide_ex (((e.trans e2).trans e3).trans (Ex.new hr))) (rx x z)
      · exact up _ _ _ (hide_ex (Ex.new hr)) (ry x z)⟩
/-- a list that is known whole -/
theorem elr_of (up : Up R) {xs : List V} (h : EvL te σ H xs) (l1 : lo ≤ xs.length) (l2 : xs.length ≤ hi) (r : ∀ x ∈ xs, R (hide s H) x) : EvLR s R te σ H lo hi := fun H1 e Q q =>
  h H1 e _ fun p H2 hp e2 h2 => q p xs H2 hp e2 h2 l1 l2 fun x hx => up _ _ _ (hide_ex (e.trans e2)) (r x hx)
/-- such a list as a value of another kind -/
theorem er_list {R' : Hp → V → Prop} (hs : ∃ o, H s = some o) (h : EvLR s R te σ H lo hi) (f : ∀ p xs G, G p = some (.lst xs) → lo ≤ xs.length → xs.length ≤ hi → (∀ x ∈ xs, R G x) → R' G (.ref p)) : EvR s R' te σ H := fun H1 e Q q =>
  h H1 e _ fun p xs H2 hp e2 h2 l1 l2 r => q (.ref p) H2 e2 (f p xs _ (by
    rw [hide_ne (new_apart (by obtain ⟨o, ho⟩ := hs; exact ⟨o, e _ _ ho⟩) hp)]
    exact h2) l1 l2 r)
theorem er_tup {R' : Hp → V → Prop} (up : Up R) (hs : ∃ o, H s = some o) (h : EvAR s R tl σ H n) (hn : n ≤ 1000) (f : ∀ p xs G, G p = some (.tup xs) → xs.length = n → (∀ x ∈ xs, R G x) → R' G (.ref p)) : EvR s R' (tTup tl) σ H := fun H1 e Q q =>
  h H1 e _ fun vs H2 e2 hl hv => ⟨by rw [hl]; exact sz_of (by omega), fun p hp => q (.ref p) _ (e2.trans (Ex.new hp)) (f p vs _ (by
    rw [hide_ne (new_apart (by obtain ⟨o, ho⟩ := hs; exact ⟨o, e2 _ _ (e _ _ ho)⟩) hp)]
    exact upd_same) hl fun x hx => up _ _ _ (hide_ex (Ex.new hp)) (hv x hx))⟩
theorem er_imp {R' : Hp → V → Prop} (h : EvR s R te σ H) (f : ∀ G v, R G v → R' G v) : EvR s R' te σ H := fun H1 e Q q => h H1 e Q fun v H2 e2 r => q v H2 e2 (f _ _ r)
/-- statements -/
theorem q_asgR {i : Nat} {D : Ends} {tz : TS} (h : EvR s R te σ H) (k : ∀ v H1, Ex H H1 → R (hide s H1) v → tz D (σ.set i (some v)) H1) : tSeq (tAsg te (gName i)) tz D σ H := h H (Ex.refl H) _ fun v H1 e r => k v H1 e r
theorem q_asgLR {i : Nat} {D : Ends} {tz : TS} (hs : ∃ o, H s = some o) (h : EvLR s R te σ H lo hi) (k : ∀ p H1, H p = none → Ex H H1 → LsR s R H1 p lo hi → tz D (σ.set i (some (.ref p))) H1) : tSeq (tAsg te (gName i)) tz D σ H :=
  h H (Ex.refl H) _ fun p xs H1 hp e h1 l1 l2 r => k p H1 hp e ⟨new_apart hs hp, xs, h1, l1, l2, r⟩
theorem LsR.drew {B : Nat} (up : Up R) {p : Addr} (h : LsR s R H p lo hi) (d : Drew s B H H') : LsR s R H' p lo hi := by
  obtain ⟨np, xs, hx, l1, l2, r⟩ := h
  exact ⟨np, xs, d.get np hx, l1, l2, fun x hx => up _ _ _ d.kept (r x hx)⟩
theorem LsR.ex (up : Up R) {p : Addr} (h : LsR s R H p lo hi) (e : Ex H H') : LsR s R H' p lo hi := by
  obtain ⟨np, xs, hx, l1, l2, r⟩ := h
  exact ⟨np, xs, e _ _ hx, l1, l2, fun x hx => up _ _ _ (hide_ex e) (r x hx)⟩
theorem LsR.pick {Kf : PySem.W.Frag} {p : Addr} {r : Int} {Q : VK} (h : LsR s R H p lo hi) (r0 : 0 ≤ r) (r1 : r < (lo : Int)) (q : ∀ x, R (hide s H) x → Q x H) : rIxL Kf (.ref p) (.int r) H Q := by
  obtain ⟨_, xs, hx, l1, l2, hr⟩ := h
  have lt : r.toNat < xs.length := by omega
  have e : r = (r.toNat : Int) := by omega
  rw [e]
  exact ⟨p, xs, _, xs[r.toNat], rfl, rfl, sq_of hx, atI_nat (List.getElem?_eq_getElem lt), q _ (hr _ (List.getElem_mem lt))⟩
end
end Os
/-! data of bounded text and depth; sorted texts; permutations -/
namespace Os
open PySem PySem.Spec PyProof.Rows L2 Evl
theorem listText_len (ts : List Str) : (listText ts).length ≤ 2 + piled ts := by
  cases ts with
  | nil => decide
  | cons t ts =>
    unfold listText
    show (textFrom 1 ((("[" : Str) ++ ("" : Str)) ++ t) ts ++ ("]" : Str)).length ≤ _
    rw [strLen_append, textFrom_length_pos ts 1 _ (by decide), strLen_append, strLen_append, piled_cons]
    have e1 : ("[" : Str).length = 1 := by decide
    have e2 : ("" : Str).length = 0 := by decide
    have e3 : ("]" : Str).length = 1 := by decide
    omega
theorem tupleText_len (ts : List Str) : (tupleText ts).length ≤ 3 + piled ts := by
  unfold tupleText
  rw [strLen_append, strLen_append]
  have e1 : ("(" : Str).length = 1 := by decide
  have e2 : ((if ts.length == 1 then ",)" else ")" : String) : Str).length ≤ 2 := by split <;> decide
  cases ts with
  | nil => decide
  | cons t ts =>
    have := join_length_add (t :: ts) (fun h => nomatch h)
    omega
theorem str_codes {z : Str} (h : PyData.strOk z = true) : ∀ c ∈ z.cps.toList, c < 1114112 := by
  unfold PyData.strOk at h
  rw [← Array.all_toList, List.all_eq_true] at h
  exact fun c hc => of_decide_eq_true (h c hc)
theorem str_of_codes {z : Str} (h : ∀ c ∈ z.cps.toList, c < 1114112) : PyData.strOk z = true := by
  unfold PyData.strOk
  rw [← Array.all_toList, List.all_eq_true]
  exact fun c hc => decide_eq_true (h c hc)
theorem int_shown : ∀ i, i < 64 → (PyData.int ((i : Nat) : Int)).shown.length ≤ 100 := by decide +kernel
theorem dts_strs {H : Hp} : ∀ zs : List Str, Dts H (zs.map V.str) (zs.map PyData.str)
  | [] => .nil
  | z :: zs => .cons (.str z) (dts_strs zs)

/-- data of ints, texts, lists and tuples -/
structure Sh (n : Nat) (d : PyData) : Prop where
  lay : d.canLay0 = true
  deep : d.depth ≤ n
theorem sh_all {n : Nat} : ∀ {ds : List PyData}, (∀ d ∈ ds, Sh n d) → PyData.canLayAll0 ds = true ∧ PyData.depthAll ds ≤ n
  | [], _ => ⟨rfl, Nat.zero_le _⟩
  | d :: ds, h => by
    obtain ⟨h1, h2⟩ := sh_all (ds := ds) fun x hx => h x (List.mem_cons_of_mem _ hx)
    have i := h d List.mem_cons_self
    refine ⟨?_, ?_⟩
    · show (d.canLay0 && PyData.canLayAll0 ds) = true
      rw [i.lay, h1]
      rfl
    · show max d.depth (PyData.depthAll ds) ≤ n
      have := i.deep
      omega
theorem Sh.lst {n : Nat} {ds : List PyData} (h : ∀ d ∈ ds, Sh n d) : Sh (n + 1) (.list ds) := ⟨(sh_all h).1, Nat.succ_le_succ (sh_all h).2⟩
theorem Sh.tup {n : Nat} {ds : List PyData} (h : ∀ d ∈ ds, Sh n d) : Sh (n + 1) (.tuple ds) := ⟨(sh_all h).1, Nat.succ_le_succ (sh_all h).2⟩
theorem Sh.int (n : Nat) (i : Int) : Sh n (.int i) := ⟨rfl, Nat.zero_le _⟩
theorem Sh.str (n : Nat) {z : Str} (h : PyData.strOk z = true) : Sh n (.str z) := ⟨h, Nat.zero_le _⟩
theorem Sh.mono {m n : Nat} {d : PyData} (h : Sh m d) (le : m ≤ n) : Sh n d := ⟨h.lay, Nat.le_trans h.deep le⟩
theorem Sh.shaped {n : Nat} {d : PyData} (h : Sh n d) (le : n ≤ 64) : SeqAt.shaped d = true := by
  show (d.canLay0 && decide (d.depth ≤ 64)) = true
  rw [h.lay, decide_eq_true (Nat.le_trans h.deep le)]
  rfl
theorem Sh.refl {n : Nat} {d : PyData} (h : Sh n d) : PyData.eqv d d = true := SeqAt.eqv_refl d h.lay
/-- data of bounded text -/
structure Lim (L D : Nat) (d : PyData) : Prop where
  long : d.shown.length ≤ L
  deep : d.depth ≤ D
  show' : d.showable = true
  flat : d.hasDict = false
theorem Lim.fit {L D : Nat} {d : PyData} (h : Lim L D d) (h1 : L ≤ 1000000) (h2 : D ≤ 40) : Fit sizeLine d := ⟨Nat.le_trans h.long (Nat.le_trans h1 (by decide)), Nat.le_trans h.deep h2, h.show', h.flat⟩
theorem Lim.mono {L D L' D' : Nat} {d : PyData} (h : Lim L D d) (h1 : L ≤ L') (h2 : D ≤ D') : Lim L' D' d := ⟨Nat.le_trans h.long h1, Nat.le_trans h.deep h2, h.show', h.flat⟩
theorem lim_all {L D : Nat} : ∀ {ds : List PyData}, (∀ d ∈ ds, Lim L D d) → piled (PyData.shownAll ds) ≤ (L + 2) * ds.length ∧ PyData.depthAll ds ≤ D ∧ PyData.showableAll ds = true ∧ PyData.hasDictAll ds = false
  | [], _ => ⟨Nat.le_refl _, Nat.zero_le _, rfl, rfl⟩
  | d :: ds, h => by
    obtain ⟨h1, h2, h3, h4⟩ := lim_all (ds := ds) fun x hx => h x (List.mem_cons_of_mem _ hx)
    have i := h d List.mem_cons_self
    refine ⟨?_, ?_, ?_, ?_⟩
    · show piled (d.shown :: PyData.shownAll ds) ≤ (L + 2) * (ds.length + 1)
      rw [piled_cons, Nat.mul_succ]
      have := i.long
      omega
    · show max d.depth (PyData.depthAll ds) ≤ D
      have := i.deep
      omega
    · show (d.showable && PyData.showableAll ds) = true
      rw [i.show', h3]
      rfl
    · show (d.hasDict || PyData.hasDictAll ds) = false
      rw [i.flat, h4]
      rfl
theorem Lim.lst {L D m : Nat} {ds : List PyData} (h : ∀ d ∈ ds, Lim L D d) (hm : ds.length ≤ m) : Lim (3 + (L + 2) * m) (D + 1) (.list ds) := by
  obtain ⟨h1, h2, h3, h4⟩ := lim_all h
  have := Nat.mul_le_mul_left (L + 2) hm
  refine ⟨?_, Nat.succ_le_succ h2, h3, h4⟩
  show (listText (PyData.shownAll ds)).length ≤ _
  have := listText_len (PyData.shownAll ds)
  omega
theorem Lim.tup {L D m : Nat} {ds : List PyData} (h : ∀ d ∈ ds, Lim L D d) (hm : ds.length ≤ m) : Lim (3 + (L + 2) * m) (D + 1) (.tuple ds) := by
  obtain ⟨h1, h2, h3, h4⟩ := lim_all h
  have := Nat.mul_le_mul_left (L + 2) hm
  refine ⟨?_, Nat.succ_le_succ h2, h3, h4⟩
  show (tupleText (PyData.shownAll ds)).length ≤ _
  have := tupleText_len (PyData.shownAll ds)
  omega
theorem Lim.str {z : Str} (h : z.length ≤ 8) (ok : PyData.strOk z = true) : Lim 100 0 (.str z) := by
  refine ⟨?_, Nat.zero_le _, rfl, rfl⟩
  show (reprText z).length ≤ _
  have := StrLaws.reprText_len z fun c hc => Nat.lt_trans (str_codes ok c hc) (by decide)
  omega
theorem Lim.int {i : Nat} (h : i < 64) : Lim 100 0 (.int (i : Int)) := by
  refine ⟨int_shown i h, Nat.zero_le _, ?_, rfl⟩
  show decide (((i : Int)).natAbs.log2 < 1920) = true
  refine decide_eq_true ?_
  have : ((i : Int)).natAbs = i := by omega
  rw [this]
  exact Nat.lt_of_le_of_lt (Nat.log2_le_self i) (by omega)
/-! ### sorted texts -/
theorem rising_pair : ∀ {p : Str} {l : List Str}, risingS p l = true → (p :: l).Pairwise fun a b => ¬ b.cps.toList < a.cps.toList
  | p, [], _ => List.pairwise_singleton _ _
  | p, x :: r, h => by
    have h' : (!ltCps x.cps.toList p.cps.toList && risingS x r) = true := h
    rw [Bool.and_eq_true, ltCps_eq, Bool.not_eq_true', decide_eq_false_iff_not] at h'
    have ih := rising_pair h'.2
    refine List.pairwise_cons.mpr ⟨fun b hb => ?_, ih⟩
    rcases List.mem_cons.mp hb with rfl | hb
    · exact h'.1
    · have h2 := List.rel_of_pairwise_cons ih hb
      exact fun z => h2 (Decidable.byContradiction fun n => h'.1 (by
        exact List.lt_of_le_of_lt (List.not_lt.mp n) z))
theorem sortedS_pair {l : List Str} (h : sortedS l = true) : l.Pairwise fun a b => ¬ b.cps.toList < a.cps.toList := by
  cases l with
  | nil => exact .nil
  | cons x r => exact rising_pair h
theorem sorted_same {l m : List Str} (p : l.Perm m) (h1 : sortedS l = true) (h2 : sortedS m = true) : l = m :=
  List.Perm.eq_of_pairwise (fun a b _ _ x y => by
    have e : a.cps.toList = b.cps.toList := List.le_antisymm (List.not_lt.mp x) (List.not_lt.mp y)
    cases a
    cases b
    exact congrArg Str.mk (Array.ext' e)) (sortedS_pair h1) (sortedS_pair h2) p
/-! ### swaps -/
def swp (zs : List Str) (e : Pr) : List Str := (zs.set e.1 (zs.getD e.2 ⟨#[]⟩)).set e.2 (zs.getD e.1 ⟨#[]⟩)
theorem swp_len (zs : List Str) (e : Pr) : (swp zs e).length = zs.length := by
  unfold swp
  rw [List.length_set, List.length_set]
theorem swp_perm {zs : List Str} {e : Pr} (h1 : e.1 < zs.length) (h2 : e.2 < zs.length) : (swp zs e).Perm zs := by
  unfold swp
  rw [List.getD_eq_getElem?_getD, List.getD_eq_getElem?_getD, List.getElem?_eq_getElem h1, List.getElem?_eq_getElem h2]
  exact List.set_set_perm h1 h2
def swps (zs : List Str) (es : List Pr) : List Str := es.foldl swp zs
theorem swps_perm {n : Nat} : ∀ {es : List Pr} {zs : List Str}, zs.length = n → (∀ e ∈ es, e.1 < n ∧ e.2 < n) → (swps zs es).Perm zs
  | [], _, _, _ => List.Perm.refl _
  | e :: r, zs, hl, h => by
    obtain ⟨a, b⟩ := h e List.mem_cons_self
    exact (swps_perm (by rw [swp_len, hl]) fun f hf => h f (List.mem_cons_of_mem _ hf)).trans (swp_perm (by omega) (by omega))
/-! ### two ascending lists of pairs with the same entries -/
theorem pairs_same {l m : List Pr} (p : l.Perm m) (h1 : l.Pairwise fun e f => (e.1 : Int) * 64 + (e.2 : Int) ≤ (f.1 : Int) * 64 + (f.2 : Int)) (h2 : m.Pairwise fun e f => ltP e f = true) (small : ∀ e ∈ m, e.1 < 64 ∧ e.2 < 64) : l = m := by
  refine List.Perm.eq_of_pairwise (le := fun e f => (e.1 : Int) * 64 + (e.2 : Int) ≤ (f.1 : Int) * 64 + (f.2 : Int)) (fun a b ha hb x y => ?_) h1 (List.Pairwise.imp_of_mem (fun {a b} ha hb h => ?_) h2) p
  · have sa := small a (p.mem_iff.mp ha)
    have sb := small b hb
    exact Prod.ext (by omega) (by omega)
  · have sa := small a ha
    have sb := small b hb
    rw [ltP_iff] at h
    omega
end Os
/-! texts of words: join and split, lists of texts and None, a loop over enumerate -/
namespace Os
open PySem PySem.Spec PyProof.Rows L2 Evl

def isBlO : PyData → Bool
  | .bool _ => true
  | _ => false
theorem kit_boolO (d : PyData) : kitB (tyName d) "bool" = some (isBlO d) := by
  cases d <;> (simp only [tyName, isBlO]; decide +kernel)
/-! ### texts and None -/
def oV : Option Str → V
  | none => .non
  | some z => .str z
def oD : Option Str → PyData
  | none => .none
  | some z => .str z
def oW : Option Str → Str
  | none => "?"
  | some z => z
theorem dt_o {H : Hp} : ∀ o : Option Str, Dt H (oV o) (oD o)
  | none => .non
  | some z => .str z
theorem dts_o {H : Hp} : ∀ os : List (Option Str), Dts H (os.map oV) (os.map oD)
  | [] => .nil
  | o :: os => .cons (dt_o o) (dts_o os)
theorem some_V (zs : List Str) : (zs.map some).map oV = zs.map V.str := by
  rw [List.map_map]
  rfl
theorem some_D (zs : List Str) : (zs.map some).map oD = zs.map PyData.str := by
  rw [List.map_map]
  rfl
theorem some_W (zs : List Str) : (zs.map some).map oW = zs := by
  rw [List.map_map]
  exact List.map_id' zs
theorem flat_o : ∀ os : List (Option Str), (os.map oV).all flatV = true
  | [] => rfl
  | none :: os => flat_o os
  | some _ :: os => flat_o os
theorem inV_o (z : Str) : ∀ os : List (Option Str), inV (.str z) (os.map oV) = decide (some z ∈ os)
  | [] => rfl
  | none :: os => by
    have ih := inV_o z os
    unfold inV at ih ⊢
    rw [List.map_cons, List.any_cons, ih]
    show (false || decide (some z ∈ os)) = _
    rw [Bool.false_or]
    exact decide_eq_decide.mpr ⟨fun h => List.mem_cons_of_mem _ h, fun h => by
      rcases List.mem_cons.mp h with h | h
      · cases h
      · exact h⟩
  | some y :: os => by
    have ih := inV_o z os
    unfold inV at ih ⊢
    rw [List.map_cons, List.any_cons, ih]
    show ((y == z) || decide (some z ∈ os)) = decide (some z ∈ some y :: os)
    by_cases h : y = z
    · subst h
      simp
    · have h2 : ¬ z = y := fun e => h e.symm
      simp [h, h2]
theorem inV_strs' (z : Str) (zs : List Str) : inV (.str z) (zs.map V.str) = decide (z ∈ zs) := by
  rw [← some_V, inV_o]
  refine decide_eq_decide.mpr ⟨fun h => ?_, fun h => List.mem_map.mpr ⟨z, h, rfl⟩⟩
  obtain ⟨y, hy, e⟩ := List.mem_map.mp h
  rw [← Option.some.inj e]
  exact hy

theorem cut_drop (xs : List V) (k : Nat) : cutV xs (some (k : Int)) none = xs.drop k := by
  unfold cutV
  rw [HT.sIx_none, HT.sIx_nat]
  by_cases h : k ≤ xs.length
  · rw [Nat.min_eq_left h, List.take_of_length_le (by rw [List.length_drop]; exact Nat.le_refl _)]
  · rw [Nat.min_eq_right (by omega), List.drop_of_length_le (Nat.le_refl _), List.drop_of_length_le (by omega), List.take_nil]
/-! ### words -/
/-- few words that are not long -/
structure WOk (ws : List Str) : Prop where
  few : ws.length ≤ 100
  short : ∀ w ∈ ws, w.length ≤ 200
abbrev page (ws : List Str) : Str := Txt.join (" " : Str) ws
theorem sum_len {ws : List Str} {b : Nat} (h : ∀ w ∈ ws, w.length ≤ b) : (ws.map (·.length)).sum ≤ b * ws.length := by
  induction ws with
  | nil => exact Nat.le_refl _
  | cons z r ih =>
    rw [List.map_cons, List.sum_cons, List.length_cons, Nat.mul_succ]
    have := ih fun y hy => h y (List.mem_cons_of_mem _ hy)
    have := h z List.mem_cons_self
    omega
theorem WOk.sum {ws : List Str} (h : WOk ws) : (ws.map (·.length)).sum ≤ 20000 := by
  have h1 := sum_len h.short
  have h2 := Nat.mul_le_mul_left 200 h.few
  omega
theorem len_sp : (" " : Str).length = 1 := by decide
theorem len_nl : ("\n" : Str).length = 1 := by decide
theorem join_len_le {sep : Str} {ws : List Str} (hs : sep.length = 1) (h : WOk ws) : (Txt.join sep ws).length ≤ 20100 := by
  have e : Txt.join sep ws = Str.join sep ws := StrLaws.glued_eq_join _ _
  rw [e]
  have h1 := StrLaws.join_length_le sep ws
  have h2 := h.sum
  have h3 := h.few
  rw [hs] at h1
  omega
theorem join_snoc (sep : Str) : ∀ (ws : List Str) (w : Str), ws ≠ [] → Txt.join sep (ws ++ [w]) = Txt.join sep ws ++ sep ++ w
  | [], _, h => absurd rfl h
  | [x], w, _ => by
    rw [TL.join_eq, TL.join_eq]
    rfl
  | x :: y :: r, w, _ => by
    have ih := join_snoc sep (y :: r) w (fun h => nomatch h)
    rw [TL.join_eq, TL.join_eq] at ih
    rw [TL.join_eq, TL.join_eq]
    show x ++ sep ++ Str.join sep (y :: r ++ [w]) = x ++ sep ++ Str.join sep (y :: r) ++ sep ++ w
    rw [show (y :: r ++ [w]) = (y :: r) ++ [w] from rfl, ih]
    refine TL.ext_tl ?_
    simp only [TL.tl_append, List.append_assoc]
theorem join_one (sep w : Str) : Txt.join sep [w] = w := by
  rw [TL.join_eq]
  rfl
/-- a joined text, split -/
theorem split_page {ws : List Str} (ne : ws ≠ []) (h : ∀ w ∈ ws, 32 ∉ w.cps.toList) : Txt.split (page ws) (" " : Str) = ws :=
  TL.split_join (s := 32) (S := []) (by decide) (by decide +kernel) ne h
theorem split_lines {ws : List Str} (ne : ws ≠ []) (h : ∀ w ∈ ws, 10 ∉ w.cps.toList) : Txt.split (Txt.join ("\n" : Str) ws) ("\n" : Str) = ws :=
  TL.split_join (s := 10) (S := []) (by decide) (by decide +kernel) ne h
theorem codes_join {sep : Str} : ∀ {zs : List Str} {c : Nat}, c ∈ (Str.join sep zs).cps.toList → c ∈ sep.cps.toList ∨ ∃ z ∈ zs, c ∈ z.cps.toList
  | [], c, h => by simp [Str.join, Str.empty] at h
  | [x], c, h => .inr ⟨x, List.mem_cons_self, h⟩
  | x :: y :: r, c, h => by
    have h : c ∈ (x ++ sep ++ Str.join sep (y :: r)).cps.toList := h
    rw [PyProof.Rows.cps_toList_append, PyProof.Rows.cps_toList_append] at h
    rcases List.mem_append.mp h with h | h
    · rcases List.mem_append.mp h with h | h
      · exact .inr ⟨x, List.mem_cons_self, h⟩
      · exact .inl h
    · rcases codes_join h with h | ⟨z, h1, h2⟩
      · exact .inl h
      · exact .inr ⟨z, List.mem_cons_of_mem _ h1, h2⟩
theorem page_codes {sep : Str} {zs : List Str} {c : Nat} (h : c ∈ (Txt.join sep zs).cps.toList) : c ∈ sep.cps.toList ∨ ∃ z ∈ zs, c ∈ z.cps.toList := by
  rw [TL.join_eq] at h
  exact codes_join h

/-! ### what evaluates to what -/
section
variable {K : PySem.W.Frag} {σ : L2.St} {H H' : Hp} {ta tb tc te : TE} {x y z v : V} {a : Addr} {D : Ends} {tu tw tz : TS}
def rJoin (K : PySem.W.Frag) : V → List V → Hp → VK → Prop := fun x xs H Q => ∃ a p, ∃ ys : List Str, x = V.str a ∧ xs = [.ref p] ∧ (SqL K H p (ys.map V.str) ∨ SqT K H p (ys.map V.str)) ∧ (ys.map (·.length)).sum + ys.length * a.length ≤ 16777216 ∧ Q (.str (Txt.join a ys)) H
theorem ev_joinV {sep : Str} {zs : List Str} (hs : sep.length = 1) (h : Ev te σ H (.str sep)) (h2 : Ev ta σ H (.ref a)) (ha : H a = some (.lst (zs.map V.str))) (hz : WOk zs) :
    Ev (tM1 (rJoin K) te ta) σ H (.str (Txt.join sep zs)) := fun H1 e Q q =>
  h H1 e _ fun H2 e2 => ⟨⟨_, rfl⟩, h2 H2 (e.trans e2) _ fun H3 e3 => ⟨sep, a, zs, rfl, rfl, .inl (sq_of (((e.trans e2).trans e3) _ _ ha)), by have := hz.sum; have := hz.few; rw [hs]; omega, q H3 (e2.trans e3)⟩⟩
theorem ev_joinL {sep : Str} {zs : List Str} (hs : sep.length = 1) (h : Ev te σ H (.str sep)) (h2 : EvL ta σ H (zs.map V.str)) (hz : WOk zs) :
    Ev (tM1 (rJoin K) te ta) σ H (.str (Txt.join sep zs)) := fun H1 e Q q =>
  h H1 e _ fun H2 e2 => ⟨⟨_, rfl⟩, h2 H2 (e.trans e2) _ fun p H3 _ e3 hp => ⟨sep, p, zs, rfl, rfl, .inl (sq_of hp), by have := hz.sum; have := hz.few; rw [hs]; omega, q H3 (e2.trans e3)⟩⟩
def rSplit : V → List V → Hp → VK → Prop := fun x xs H Q => ∃ a b, x = .str a ∧ xs = [.str b] ∧ (b.length == 0) = false ∧ a.length + 2 ≤ sizeLine ∧ rNewStrs (Txt.split a b) H Q
theorem el_split {p sep : Str} {ws : List Str} (h : Ev te σ H (.str p)) (h2 : Ev ta σ H (.str sep)) (hs : sep.length = 1) (hl : p.length ≤ 90000) (e : Txt.split p sep = ws) : EvL (tM1 rSplit te ta) σ H (ws.map V.str) := fun H1 e1 Q q =>
  h H1 e1 _ fun H2 e2 => ⟨⟨_, rfl⟩, h2 H2 (e1.trans e2) _ fun H3 e3 => ⟨p, sep, rfl, rfl, by rw [hs]; rfl, sz_of (by omega), fun r hr => by
    rw [e]
    exact q r _ (fresh_back (e2.trans e3) hr) ((e2.trans e3).trans (Ex.new hr)) upd_same⟩⟩
theorem rv_addS' {H : Hp} {i j : Str} (h : i.length + j.length ≤ 100000) : RV (fun x y H Q => ∃ i j, x = .str i ∧ y = .str j ∧ i.length + j.length ≤ sizeLine ∧ Q (.str (i ++ j)) H) (.str i) (.str j) H (.str (i ++ j)) :=
  fun H1 _ _ q => ⟨i, j, rfl, rfl, sz_of h, q H1 (Ex.refl H1)⟩
theorem rv_isN' {H : Hp} {x : V} : RV (fun x y H Q => y = V.non ∧ Q (.bl (decide (x = .non))) H) x .non H (.bl (decide (x = .non))) := fun H1 _ _ q => ⟨rfl, q H1 (Ex.refl H1)⟩
/-- a call by keywords alone of a def that makes nothing but a value -/
theorem ev_spK {sp : Sp} {gV : List V → List V → List V} {vs zs : List V} {E : XK} {tk : TA} (h : EvA tk σ H zs) (e : gV [] zs = vs) (hs : ∀ H1, Ex H H1 → ∀ Q : VK, (∀ H2, Ex H1 H2 → Q z H2) → sp vs H1 Q E) : Ev (tCallK sp gV E tNil tk) σ H z := fun H1 e1 Q q =>
  h H1 e1 _ fun H2 e2 => by
    rw [e]
    exact hs H2 (e1.trans e2) Q fun H3 e3 => q H3 (e2.trans e3)
/-- a call that gives a new list -/
theorem el_sp {sp : Sp} {dvs vs xs : List V} {E : XK} {ta : TA} (h : EvA ta σ H vs) (hs : ∀ H1, Ex H H1 → ∀ Q : VK, (∀ p H2, H1 p = none → Ex H1 H2 → H2 p = some (.lst xs) → Q (.ref p) H2) → sp (vs ++ dvs) H1 Q E) : EvL (tCall sp dvs E ta) σ H xs := fun H1 e Q q =>
  h H1 e _ fun H2 e2 => hs H2 (e.trans e2) Q fun p H3 hp e3 h3 => q p H3 (fresh_back e2 hp) (e2.trans e3) h3
/-- a call whose argument is a new list -/
theorem ev_spL {sp : Sp} {xs : List V} {E : XK} (h : EvL te σ H xs) (hs : ∀ p H1, H1 p = some (.lst xs) → Ex H H1 → ∀ Q : VK, (∀ H2, Ex H1 H2 → Q z H2) → sp [.ref p] H1 Q E) : Ev (tCall sp [] E (tCons te tNil)) σ H z := fun H1 e Q q =>
  h H1 e _ fun p H2 _ e2 hp => hs p H2 hp (e.trans e2) Q fun H3 e3 => q H3 (e2.trans e3)
theorem el_spK {sp : Sp} {gV : List V → List V → List V} {vs zs xs : List V} {E : XK} {tk : TA} (h : EvA tk σ H zs) (e : gV [] zs = vs) (hs : ∀ H1, Ex H H1 → ∀ Q : VK, (∀ p H2, H1 p = none → Ex H1 H2 → H2 p = some (.lst xs) → Q (.ref p) H2) → sp vs H1 Q E) : EvL (tCallK sp gV E tNil tk) σ H xs := fun H1 e1 Q q =>
  h H1 e1 _ fun H2 e2 => by
    rw [e]
    exact hs H2 (e1.trans e2) Q fun p H3 hp e3 h3 => q p H3 (fresh_back e2 hp) (e2.trans e3) h3
/-- equal data -/
theorem rv_eqD {d : PyData} {n : Nat} (hx : Dt H x d) (hy : Dt H y d) (sh : Sh n d) (le : n ≤ 64) : RV (rEqD K) x y H (.bl true) := fun H1 e Q q =>
  ⟨d, d, (hx.same (same_ex e)).dp, (hy.same (same_ex e)).dp, sh.shaped le, sh.shaped le, by
    rw [sh.refl]
    exact q H1 (Ex.refl H1)⟩
theorem ev_eqD {d : PyData} {n : Nat} (ha : Ev ta σ H x) (hb : Ev tb σ H y) (hx : Dt H x d) (hy : Dt H y d) (sh : Sh n d) (le : n ≤ 64) : Ev (tOp (rEqD K) ta tb) σ H (.bl true) := ev_op ha hb (rv_eqD hx hy sh le)
theorem ev_eqD1 {xs : List V} {ds : List PyData} {n : Nat} (ha : EvL ta σ H xs) (hb : ∀ H1, Ex H H1 → Ev tb σ H1 y) (hx : Dts H xs ds) (hy : Dt H y (.list ds)) (sh : Sh n (.list ds)) (le : n ≤ 64) : Ev (tOp (rEqD K) ta tb) σ H (.bl true) :=
  ev_opL1 ha hb fun p H1 hp e => rv_eqD (.lst hp (hx.same (same_ex e))) (hy.same (same_ex e)) sh le
theorem q_clear {l : Addr} {xs : List V} (hl : H l = some (.lst xs)) (ha : Ev ta σ H (.ref l)) (k : ∀ H1, Ex H H1 → tz D σ (upd H1 l (.lst []))) : tSeq (tDrop (tBM0 K "list" rClear ta)) tz D σ H :=
  ha H (Ex.refl H) _ fun H1 e1 => ⟨Or.inl ⟨rfl, xs, sq_of (e1 l _ hl)⟩, l, xs, rfl, rfl, e1 l _ hl, k H1 e1⟩
theorem q_reverse {l : Addr} {xs : List V} (hl : H l = some (.lst xs)) (ha : Ev ta σ H (.ref l)) (k : ∀ H1, Ex H H1 → tz D σ (upd H1 l (.lst xs.reverse))) : tSeq (tDrop (tBM0 K "list" rReverse ta)) tz D σ H :=
  ha H (Ex.refl H) _ fun H1 e1 => ⟨Or.inl ⟨rfl, xs, sq_of (e1 l _ hl)⟩, l, xs, rfl, rfl, e1 l _ hl, k H1 e1⟩
/-- a for over enumerate of a new list -/
theorem s_forE {xs : List V} {tl : TE} {i j : Nat} (h : EvL tl σ H xs) (Pv : Addr → Nat → L2.St → Hp → Prop) (h0 : ∀ p H1, H p = none → Ex H H1 → H1 p = some (.lst xs) → Pv p 0 σ H1) (hl : ∀ p n σ' H', Pv p n σ' H' → SqL K H' p xs)
    (hs : ∀ p n x σ' H' H2, xs[n]? = some x → Pv p n σ' H' → Ex H' H2 → tu { D with nx := Pv p (n + 1), ct := Pv p (n + 1), bk := D.nx } ((σ'.set i (some (.int (n : Int)))).set j (some x)) H2)
    (hd : ∀ p σ' H', Pv p xs.length σ' H' → D.nx σ' H') : tFor (iEnum K (tCons tl tNil)) (gTup K 2 (gCons (gName i) (gCons (gName j) gNil))) tu D σ H :=
  h H (Ex.refl H) _ fun p H1 hp e h1 => ⟨p, xs, rfl, sq_of h1, for_it walk_enum (Pv p) (h0 p H1 hp e h1) (fun n σ H _ q => hl p n σ H q) (fun n v σ' H' H2 hn q y => by
    obtain ⟨T, x, z, rfl, nT, rfl, hx, hz⟩ := y
    cases hx
    exact ⟨T, [.int (n : Int), z], rfl, st_of upd_same, rfl, .int (n : Int), [z], rfl, z, [], rfl, rfl, hs p n z σ' H' _ hz q (Ex.new nT)⟩) (hd p)⟩
theorem q_forE {xs : List V} {tl : TE} {i j : Nat} (h : EvL tl σ H xs) (Pv : Addr → Nat → L2.St → Hp → Prop) (h0 : ∀ p H1, H p = none → Ex H H1 → H1 p = some (.lst xs) → Pv p 0 σ H1) (hl : ∀ p n σ' H', Pv p n σ' H' → SqL K H' p xs)
    (hs : ∀ p n x σ' H' H2, xs[n]? = some x → Pv p n σ' H' → Ex H' H2 → tu { D with nx := Pv p (n + 1), ct := Pv p (n + 1), bk := tz D } ((σ'.set i (some (.int (n : Int)))).set j (some x)) H2)
    (hd : ∀ p σ' H', Pv p xs.length σ' H' → tz D σ' H') : tSeq (tFor (iEnum K (tCons tl tNil)) (gTup K 2 (gCons (gName i) (gCons (gName j) gNil))) tu) tz D σ H := s_forE (D := { D with nx := tz D }) h Pv h0 hl hs hd
end
/-- lists of texts and None -/
theorem lay_o : ∀ os : List (Option Str), (∀ z, some z ∈ os → PyData.strOk z = true) → ∀ d ∈ os.map oD, Sh 0 d := fun os h d hd => by
  obtain ⟨o, ho, rfl⟩ := List.mem_map.mp hd
  cases o with
  | none => exact ⟨rfl, Nat.zero_le _⟩
  | some z => exact .str 0 (h z ho)
theorem sh_o {os : List (Option Str)} (h : ∀ z, some z ∈ os → PyData.strOk z = true) : Sh 1 (.list (os.map oD)) := .lst (lay_o os h)
end Os
namespace Os
open PySem PySem.Spec PyProof.Rows L2 Evl
/-! ### more comprehensions, truth of lists -/
section
variable {K : PySem.W.Frag} {σ : L2.St} {H H' : Hp} {ta tb tc te tl : TE} {x y z v : V} {a : Addr} {D : Ends} {tu tw tz : TS}
def tTru (K : PySem.W.Frag) (ta : TE) : TT := fun σ H Q => ta σ H fun x H' => ∃ k, TruV K x H' k ∧ Q k H'
theorem et_tru {xs : List V} (h : Ev ta σ H (.ref a)) (hx : SqL K H a xs) : EvT (tTru K ta) σ H (!xs.isEmpty) := fun H1 e Q q =>
  h H1 e _ fun H2 e2 => ⟨!xs.isEmpty, .inl ⟨xs, ex_l (e.trans e2) hx, rfl⟩, q H2 e2⟩
theorem getD_map' {α : Type} [Inhabited α] {xs : List α} {i : Nat} {x : α} (h : xs[i]? = some x) : xs.getD i default = x := by
  rw [List.getD_eq_getElem?_getD, h]
  rfl
/-- over a list of things told by xs -/
theorem el_lcMapL {α : Type} [Inhabited α] {xs : List α} {fV : α → V} {j : Nat} {vs : List Nat} (v : α → V) (h : Ev tl σ H (.ref a)) (hx : SqL K H a (xs.map fV)) (hz : xs.length ≤ 40000) (hw : ∀ x, wipe ((wipe σ vs).set j (some x)) vs = wipe σ vs)
    (he : ∀ x H1, Ex H H1 → x ∈ xs → Ev te ((wipe σ vs).set j (some (fV x))) H1 (v x)) : EvL (tLc (iList K tl) (gName j) tYes te vs) σ H (xs.map v) := by
  rw [← given_map xs v (fun i => v (xs.getD i default)) (fun i x e => by rw [getD_map' e]), ← List.length_map (f := fV) (as := xs)]
  refine el_lcL (fun _ => true) _ h hx (by rw [List.length_map]; exact hz) hw (fun i x H2 _ _ => fun H3 e3 Q q => q H3 (Ex.refl H3)) (fun i x H2 e2 hx' _ => ?_)
  rw [List.getElem?_map] at hx'
  obtain ⟨y, hy, rfl⟩ := Option.map_eq_some_iff.mp hx'
  rw [getD_map' hy]
  exact he y H2 e2 (List.mem_of_getElem? hy)
theorem el_lcMapN {α : Type} [Inhabited α] {xs : List α} {fV : α → V} {j : Nat} {vs : List Nat} (v : α → V) (h : EvL tl σ H (xs.map fV)) (hz : xs.length ≤ 40000) (hw : ∀ x, wipe ((wipe σ vs).set j (some x)) vs = wipe σ vs)
    (he : ∀ x H1, Ex H H1 → x ∈ xs → Ev te ((wipe σ vs).set j (some (fV x))) H1 (v x)) : EvL (tLc (iList K tl) (gName j) tYes te vs) σ H (xs.map v) := by
  rw [← given_map xs v (fun i => v (xs.getD i default)) (fun i x e => by rw [getD_map' e]), ← List.length_map (f := fV) (as := xs)]
  refine el_lcNL (fun _ => true) _ h (by rw [List.length_map]; exact hz) hw (fun i x H2 _ _ => fun H3 e3 Q q => q H3 (Ex.refl H3)) (fun i x H2 e2 hx' _ => ?_)
  rw [List.getElem?_map] at hx'
  obtain ⟨y, hy, rfl⟩ := Option.map_eq_some_iff.mp hx'
  rw [getD_map' hy]
  exact he y H2 e2 (List.mem_of_getElem? hy)
/-- over a list of pairs, the pair's parts in two names -/
theorem el_lcPr {xs : List V} {es : List Pr} {i j n : Nat} {vs : List Nat} (v : Pr → V) (hn : n = 2) (h : Ev tl σ H (.ref a)) (hx : H a = some (.lst xs)) (hp : PrsV H xs es) (hz : es.length ≤ 40000) (hw : ∀ x y, wipe (((wipe σ vs).set i (some x)).set j (some y)) vs = wipe σ vs)
    (he : ∀ e H1, Ex H H1 → e ∈ es → Ev te (((wipe σ vs).set i (some (.int (e.1 : Int)))).set j (some (.int (e.2 : Int)))) H1 (v e)) : EvL (tLc (iList K tl) (gTup K n (gCons (gName i) (gCons (gName j) gNil))) tYes te vs) σ H (es.map v) := fun H0 e0 Q q => h H0 e0 _ fun H1 e1 => ⟨a, rfl, ⟨xs, sq_of ((e0.trans e1) _ _ hx)⟩, fun Dl hD => by
  have hx1 := (e0.trans e1) _ _ hx
  have hlen := hp.length
  have eg : given xs.length (fun _ => true) (fun i => v (es.getD i (0, 0))) = es.map v := by
    rw [hlen]
    exact given_map es v _ fun i x e => by rw [List.getD_eq_getElem?_getD, e]; rfl
  refine lc_list (xs := xs) (Cw H1 (fun _ => true) (fun i => v (es.getD i (0, 0))) Dl) ⟨hD, Ex.new hD, upd_same⟩ (fun k H' _ p => sq_of (p.2.1 _ _ hx1)) (fun k x H' hk p => ?_) (fun H' p => q Dl H' (fresh_back e1 p.1) (e1.trans p.2.1) (by rw [← eg]; exact p.2.2))
  obtain ⟨e, hek, t, rfl, ht⟩ := hp.get hk
  have ht1 := p.2.1 _ _ ((e0.trans e1) _ _ ht)
  refine ⟨t, [.int (e.1 : Int), .int (e.2 : Int)], rfl, st_of ht1, hn.symm, .int (e.1 : Int), [.int (e.2 : Int)], rfl, .int (e.2 : Int), [], rfl, rfl, hw _ _, ?_⟩
  refine cw_turn p (by have := (List.getElem?_eq_some_iff.mp hk).1; omega) (fun H3 e3 Q q => q H3 (Ex.refl H3)) (fun _ => ?_)
  show Ev te _ H1 (v (es.getD k (0, 0)))
  rw [List.getD_eq_getElem?_getD, hek]
  exact he e H1 (e0.trans e1) (List.mem_of_getElem? hek)⟩
/-- a for over enumerate of a list that stands -/
theorem s_forEV {xs : List V} {i j : Nat} (h : Ev tl σ H (.ref a)) (hx : SqL K H a xs) (Pv : Nat → L2.St → Hp → Prop) (h0 : ∀ H1, Ex H H1 → Pv 0 σ H1) (hl : ∀ n σ' H', Pv n σ' H' → SqL K H' a xs)
    (hs : ∀ n x σ' H' H2, xs[n]? = some x → Pv n σ' H' → Ex H' H2 → tu { D with nx := Pv (n + 1), ct := Pv (n + 1), bk := D.nx } ((σ'.set i (some (.int (n : Int)))).set j (some x)) H2)
    (hd : ∀ σ' H', Pv xs.length σ' H' → D.nx σ' H') : tFor (iEnum K (tCons tl tNil)) (gTup K 2 (gCons (gName i) (gCons (gName j) gNil))) tu D σ H :=
  h H (Ex.refl H) _ fun H1 e => ⟨a, xs, rfl, ex_l e hx, for_it walk_enum Pv (h0 H1 e) (fun n σ H _ q => hl n σ H q) (fun n v σ' H' H2 hn q y => by
    obtain ⟨T, x, z, rfl, nT, rfl, hx, hz⟩ := y
    cases hx
    exact ⟨T, [.int (n : Int), z], rfl, st_of upd_same, rfl, .int (n : Int), [z], rfl, z, [], rfl, rfl, hs n z σ' H' _ hz q (Ex.new nT)⟩) hd⟩
theorem q_forEV {xs : List V} {i j : Nat} (h : Ev tl σ H (.ref a)) (hx : SqL K H a xs) (Pv : Nat → L2.St → Hp → Prop) (h0 : ∀ H1, Ex H H1 → Pv 0 σ H1) (hl : ∀ n σ' H', Pv n σ' H' → SqL K H' a xs)
    (hs : ∀ n x σ' H' H2, xs[n]? = some x → Pv n σ' H' → Ex H' H2 → tu { D with nx := Pv (n + 1), ct := Pv (n + 1), bk := tz D } ((σ'.set i (some (.int (n : Int)))).set j (some x)) H2)
    (hd : ∀ σ' H', Pv xs.length σ' H' → tz D σ' H') : tSeq (tFor (iEnum K (tCons tl tNil)) (gTup K 2 (gCons (gName i) (gCons (gName j) gNil))) tu) tz D σ H := s_forEV (D := { D with nx := tz D }) h hx Pv h0 hl hs hd
def rStrI : List V → Hp → VK → Prop := fun xs H Q => ∃ i : Int, xs = [.int i] ∧ i.natAbs.log2 < 1920 ∧ Q (.str (toString i)) H
theorem ev_strI {n : Nat} (h : Ev ta σ H (.int (n : Int))) (hn : n < 1000) : Ev (tCB rStrI (tCons ta tNil)) σ H (.str (toString ((n : Nat) : Int))) := fun H1 e Q q =>
  h H1 e _ fun H2 e2 => ⟨_, rfl, by rw [Int.natAbs_natCast]; exact Nat.lt_of_le_of_lt (Nat.log2_le_self n) (by omega), q H2 e2⟩
def rIntS : List V → Hp → VK → Prop := fun xs H Q => ∃ (a : Str) (n : Int), xs = [.str a] ∧ PySem.intText? a = some n ∧ a.length ≤ 640 ∧ Q (.int n) H
theorem ev_intS {z : Str} {n : Int} (h : Ev ta σ H (.str z)) (hz : z.length ≤ 640) (hn : PySem.intText? z = some n) : Ev (tCB rIntS (tCons ta tNil)) σ H (.int n) := fun H1 e Q q =>
  h H1 e _ fun H2 e2 => ⟨z, n, rfl, hn, hz, q H2 e2⟩
end
end Os
namespace Os
open PySem PySem.Spec PyProof.Rows L2 Evl
theorem sh_prs' (es : List Pr) : Sh 2 (.list (es.map prD)) := .lst fun d hd => by
  obtain ⟨e, _, rfl⟩ := List.mem_map.mp hd
  refine .tup fun x hx => ?_
  rcases List.mem_cons.mp hx with rfl | hx
  · exact .int 0 _
  · rw [List.mem_singleton.mp hx]
    exact .int 0 _
theorem prs_snoc {G : Hp} {v : V} {e : Pr} : ∀ {xs : List V} {es : List Pr}, PrsV G xs es → PrV G v e → PrsV G (xs ++ [v]) (es ++ [e])
  | _, _, .nil, h => .cons h .nil
  | _, _, .cons p r, h => .cons p (prs_snoc r h)
theorem prs_map {G G' : Hp} (k : ∀ v e, PrV G v e → PrV G' v e) : ∀ {xs : List V} {es : List Pr}, PrsV G xs es → PrsV G' xs es
  | _, _, .nil => .nil
  | _, _, .cons p r => .cons (k _ _ p) (prs_map k r)
end Os
namespace Os
open PySem PySem.Spec PyProof.Rows L2 Evl
theorem room65 {k : Nat} {A : Around} (r : Room k A) : A.units + 65 < cLine := by have := r.un; omega
end Os
namespace Os
open PySem PySem.Spec PyProof.Rows L2 Evl
theorem el_rg {σ : L2.St} {H : Hp} {ta : TE} {n : Nat} (h : Ev ta σ H (.int (n : Int))) (hn : n ≤ 100000) : EvL (tLstRg (tRg1 ta)) σ H ((List.range n).map fun x : Nat => V.int (x : Int)) := fun H1 e Q q =>
  h H1 e _ fun H2 e2 => ⟨(n : Int), rfl, RgOk.of_le (by omega) (by omega) (by omega) (by omega), fun L hL => q L _ (fresh_back e2 hL) (e2.trans (Ex.new hL)) (by
    rw [upd_same]
    have : rgV 0 (n : Int) = (List.range n).map fun x : Nat => V.int (x : Int) := by
      unfold rgV
      rw [show ((n : Int) - 0).toNat = n by omega]
      exact List.map_congr_left fun i _ => congrArg V.int (by omega)
    rw [this])⟩
theorem PrsV.put0 {p : Addr} {G : Hp} {xs' zs vs : List V} {es : List Pr} (h : PrsV G vs es) (hp : G p = some (.lst xs')) : PrsV (upd G p (.lst zs)) vs es := by
  induction h with
  | nil => exact .nil
  | cons x _ ih =>
    obtain ⟨t, rfl, ht⟩ := x
    refine .cons ⟨t, rfl, ?_⟩ ih
    rw [upd_ne fun e => by
      rw [e, hp] at ht
      cases ht]
    exact ht
theorem PrsV.putH {s p : Addr} {G : Hp} {xs' zs vs : List V} {es : List Pr} (h : PrsV (hide s G) vs es) (np : p ≠ s) (hp : G p = some (.lst xs')) : PrsV (hide s (upd G p (.lst zs))) vs es := by
  induction h with
  | nil => exact .nil
  | cons x _ ih =>
    obtain ⟨t, rfl, ht⟩ := x
    obtain ⟨n1, h1⟩ := hide_of ht
    refine .cons ⟨t, rfl, ?_⟩ ih
    rw [hide_ne n1, upd_ne fun e => by
      rw [e, hp] at h1
      cases h1]
    exact h1
theorem PrsV.newH {s p : Addr} {G : Hp} {o : HO} {vs : List V} {es : List Pr} (h : PrsV (hide s G) vs es) (hs : ∃ u, G s = some u) (hp : G p = none) : PrsV (hide s (upd G p o)) vs es :=
  h.ex (hide_ex (Ex.new hp))
theorem perm_pop' {α : Type} {l : List α} {k : Nat} {y : α} (acc : List α) (h : l[k]? = some y) : ((acc ++ [y]) ++ l.eraseIdx k).Perm (acc ++ l) := by
  obtain ⟨lt, e⟩ := List.getElem?_eq_some_iff.mp h
  rw [List.append_assoc]
  refine List.Perm.append_left acc ?_
  have e2 := List.drop_eq_getElem_cons lt
  rw [e] at e2
  rw [List.eraseIdx_eq_take_drop_succ]
  refine List.Perm.trans (l₂ := l.take k ++ y :: l.drop (k + 1)) (show (y :: (l.take k ++ l.drop (k + 1))).Perm _ from List.perm_middle.symm) ?_
  rw [← e2, List.take_append_drop]
end Os
namespace Os
open PySem PySem.Spec PyProof.Rows L2 Evl
/-! ### what evaluates to data, wherever it stands -/
def EvD (te : TE) (σ : L2.St) (H : Hp) (d : PyData) : Prop := ∀ H1, Ex H H1 → ∀ Q : VK, (∀ v H2, Ex H1 H2 → Dt H2 v d → Q v H2) → te σ H1 Q
def EvDs (ta : TA) (σ : L2.St) (H : Hp) (ds : List PyData) : Prop := ∀ H1, Ex H H1 → ∀ Q : List V → Hp → Prop, (∀ vs H2, Ex H1 H2 → Dts H2 vs ds → Q vs H2) → ta σ H1 Q
section
variable {K : PySem.W.Frag} {σ : L2.St} {H H' : Hp} {ta tb te : TE} {tr : TA} {x y v : V} {d : PyData} {ds : List PyData}
theorem ed_of (h : Ev te σ H v) (hd : Dt H v d) : EvD te σ H d := fun H1 e Q q => h H1 e _ fun H2 e2 => q v H2 e2 (hd.same (same_ex (e.trans e2)))
theorem ed_l {xs : List V} (h : EvL te σ H xs) (hd : Dts H xs ds) : EvD te σ H (.list ds) := fun H1 e Q q => h H1 e _ fun p H2 _ e2 hp => q _ H2 e2 (.lst hp (hd.same (same_ex (e.trans e2))))
theorem eds_nil : EvDs tNil σ H [] := fun H1 _ Q q => q [] H1 (Ex.refl H1) .nil
theorem eds_cons (h : EvD te σ H d) (hr : EvDs tr σ H ds) : EvDs (tCons te tr) σ H (d :: ds) := fun H1 e Q q =>
  h H1 e _ fun v H2 e2 hv => hr H2 (e.trans e2) _ fun vs H3 e3 hvs => q _ H3 (e2.trans e3) (.cons (hv.same (same_ex e3)) hvs)
theorem ed_lst (h : EvDs tr σ H ds) (hl : ds.length ≤ 100000) : EvD (tLst tr) σ H (.list ds) := fun H1 e Q q =>
  h H1 e _ fun vs H2 e2 hvs => ⟨sz_of (by rw [hvs.length]; exact hl), fun p hp => q (.ref p) _ (e2.trans (Ex.new hp)) (.lst upd_same (hvs.same (same_ex (Ex.new hp))))⟩
theorem ed_tup (h : EvDs tr σ H ds) (hl : ds.length ≤ 100000) : EvD (tTup tr) σ H (.tuple ds) := fun H1 e Q q =>
  h H1 e _ fun vs H2 e2 hvs => ⟨sz_of (by rw [hvs.length]; exact hl), fun p hp => q (.ref p) _ (e2.trans (Ex.new hp)) (.tup upd_same (hvs.same (same_ex (Ex.new hp))))⟩
/-- a call that gives data -/
theorem ed_sp {sp : Sp} {dvs vs : List V} {E : XK} (h : EvA tr σ H vs) (hs : ∀ H1, Ex H H1 → ∀ Q : VK, (∀ v H2, Ex H1 H2 → Dt H2 v d → Q v H2) → sp (vs ++ dvs) H1 Q E) : EvD (tCall sp dvs E tr) σ H d := fun H1 e Q q =>
  h H1 e _ fun H2 e2 => hs H2 (e.trans e2) Q fun v H3 e3 => q v H3 (e2.trans e3)
theorem ed_spK {sp : Sp} {gV : List V → List V → List V} {vs zs : List V} {E : XK} {tk : TA} (h : EvA tk σ H zs) (e : gV [] zs = vs) (hs : ∀ H1, Ex H H1 → ∀ Q : VK, (∀ v H2, Ex H1 H2 → Dt H2 v d → Q v H2) → sp vs H1 Q E) : EvD (tCallK sp gV E tNil tk) σ H d := fun H1 e1 Q q =>
  h H1 e1 _ fun H2 e2 => by
    rw [e]
    exact hs H2 (e1.trans e2) Q fun v H3 e3 => q v H3 (e2.trans e3)
theorem ev_eqDD {n : Nat} (ha : EvD ta σ H d) (hb : EvD tb σ H d) (sh : Sh n d) (le : n ≤ 64) : Ev (tOp (rEqD K) ta tb) σ H (.bl true) := fun H1 e Q q =>
  ha H1 e _ fun v H2 e2 hv => hb H2 (e.trans e2) _ fun u H3 e3 hu => ⟨d, d, (hv.same (same_ex e3)).dp, hu.dp, sh.shaped le, sh.shaped le, by
    rw [sh.refl]
    exact q H3 (e2.trans e3)⟩
theorem ev_neDD {n : Nat} (ha : EvD ta σ H d) (hb : EvD tb σ H d) (sh : Sh n d) (le : n ≤ 64) : Ev (tOp (rNeD K) ta tb) σ H (.bl false) := fun H1 e Q q =>
  ha H1 e _ fun v H2 e2 hv => hb H2 (e.trans e2) _ fun u H3 e3 hu => ⟨d, d, (hv.same (same_ex e3)).dp, hu.dp, sh.shaped le, sh.shaped le, by
    rw [sh.refl]
    exact q H3 (e2.trans e3)⟩
end
end Os
namespace Os
open PySem PySem.Spec PyProof.Rows L2 Evl
theorem last_of (xs : List V) (y : V) : atI (xs ++ [y]) (-1) = some y := by
  unfold atI
  have : ixN (xs ++ [y]).length (-1) = some xs.length := by
    unfold ixN
    rw [if_neg (by decide), List.length_append]
    show (if _ then _ else _) = _
    rw [if_pos (by simp; omega)]
    simp
    omega
  rw [this]
  show (xs ++ [y])[xs.length]? = some y
  rw [List.getElem?_append_right (Nat.le_refl _), Nat.sub_self]
  rfl
end Os
namespace Os
theorem nodup_at {α : Type} {l : List α} (h : l.Nodup) {i j : Nat} {x : α} (hi : l[i]? = some x) (hj : l[j]? = some x) : i = j := by
  obtain ⟨li, ei⟩ := List.getElem?_eq_some_iff.mp hi
  obtain ⟨lj, ej⟩ := List.getElem?_eq_some_iff.mp hj
  rcases Nat.lt_trichotomy i j with lt | e | lt
  · exact absurd (ei.trans ej.symm) (List.pairwise_iff_getElem.mp h i j li lj lt)
  · exact e
  · exact absurd (ej.trans ei.symm) (List.pairwise_iff_getElem.mp h j i lj li lt)
end Os
namespace K95
open PySem PySem.Spec PyProof.Rows L2 Os Evl
abbrev sWI : Stmt := topS 18
theorem scWI : FnScope ["items"] ["items"] (defScope sWI) := ⟨rfl, rfl, rfl, by decide +kernel, rfl, by decide +kernel, by decide +kernel⟩
abbrev sRI : Stmt := topS 19
theorem scRI : FnScope ["text", "items", "at", "word"] ["text"] (defScope sRI) := ⟨rfl, rfl, rfl, by decide +kernel, rfl, by decide +kernel, by decide +kernel⟩
abbrev sWS : Stmt := topS 20
theorem scWS : FnScope ["seen", "entry"] ["seen"] (defScope sWS) := ⟨rfl, rfl, rfl, by decide +kernel, rfl, by decide +kernel, by decide +kernel⟩
abbrev sRS : Stmt := topS 21
theorem scRS : FnScope ["text", "seen", "at", "word"] ["text"] (defScope sRS) := ⟨rfl, rfl, rfl, by decide +kernel, rfl, by decide +kernel, by decide +kernel⟩
theorem name_free {z : Str} (h : nameB z = true) {c : Nat} (hc : c < 97) : c ∉ z.cps.toList := fun m => by
  unfold nameB at h
  rw [Bool.and_eq_true] at h
  have := List.all_eq_true.mp h.2 c m
  unfold letterB at this
  rw [Bool.and_eq_true] at this
  have := of_decide_eq_true this.1
  omega
theorem name_len' {z : Str} (h : nameB z = true) : z.length ≤ 8 := by
  unfold nameB at h
  rw [Bool.and_eq_true, Bool.and_eq_true] at h
  exact of_decide_eq_true h.1.2
theorem name_ne {z : Str} (h : nameB z = true) : z ≠ ("?" : Str) := fun e => by
  refine name_free h (c := 63) (by decide) ?_
  rw [e]
  decide
/-- an observation: few names, no name twice -/
structure ObsOk (os : List (Option Str)) : Prop where
  ne : os ≠ []
  few : os.length ≤ 40
  ok : ∀ z, some z ∈ os → nameB z = true ∧ PyData.strOk z = true
  nd : (os.filterMap id).Nodup
theorem ObsOk.words {os : List (Option Str)} (h : ObsOk os) : WOk (os.map oW) := by
  refine ⟨by rw [List.length_map]; have := h.few; omega, fun w hw => ?_⟩
  obtain ⟨o, ho, rfl⟩ := List.mem_map.mp hw
  cases o with
  | none => decide
  | some z => exact Nat.le_trans (name_len' (h.ok z ho).1) (by decide)
theorem ObsOk.wne {os : List (Option Str)} (h : ObsOk os) : os.map oW ≠ [] := fun e => h.ne (List.map_eq_nil_iff.mp e)
theorem ObsOk.back {os : List (Option Str)} (h : ObsOk os) : Txt.split (page (os.map oW)) (" " : Str) = os.map oW := split_page h.wne fun w hw => by
  obtain ⟨o, ho, rfl⟩ := List.mem_map.mp hw
  cases o with
  | none => decide
  | some z => exact name_free (h.ok z ho).1 (by decide)
theorem some_sub {os : List (Option Str)} {i : Nat} {z : Str} (nd : (os.filterMap id).Nodup) (h : os[i]? = some (some z)) : some z ∉ os.take i := fun m => by
  have lt := (List.getElem?_eq_some_iff.mp h).1
  have e : os = os.take i ++ (some z :: os.drop (i + 1)) := by
    have e7 := List.drop_eq_getElem_cons lt
    rw [(List.getElem?_eq_some_iff.mp h).2] at e7
    rw [← e7, List.take_append_drop]
  rw [e, List.filterMap_append] at nd
  refine (List.nodup_append.mp nd).2.2 z (List.mem_filterMap.mpr ⟨some z, m, rfl⟩) z ?_ rfl
  exact List.mem_filterMap.mpr ⟨some z, List.mem_cons_self, rfl⟩
theorem obs_row {zs : List Str} (ne : zs ≠ []) (l : zs.length ≤ 40) (ok : ∀ z ∈ zs, nameB z = true ∧ PyData.strOk z = true) (nd : zs.Nodup) : ObsOk (zs.map some) :=
  ⟨fun e => ne (List.map_eq_nil_iff.mp e), by rw [List.length_map]; exact l, fun z hz => by
    obtain ⟨y, hy, e⟩ := List.mem_map.mp hz
    rw [← Option.some.inj e]
    exact ok y hy, by
    rw [List.filterMap_map]
    have : zs.filterMap (id ∘ some) = zs := by
      rw [show (id ∘ some : Str → Option Str) = some from rfl, List.filterMap_some]
    rw [this]
    exact nd⟩
section
variable {P : Program} {w : World} {K : PySem.W.Frag} {mg : Str → Option Value} {base : Heap}
def spWI : Sp := fun vs H Q _ => ∃ (a : Addr) (zs : List Str), vs = [.ref a] ∧ H a = some (.lst (zs.map V.str)) ∧ WOk zs ∧ ∀ H', Ex H H' → Q (.str (page zs)) H'
theorem ok_wi {f : Addr} {fd : FuncData} {k : Nat} (F : Fun K "write_items" "write_items" sWI f fd) : FnOk P w K mg base CX0 (k + 1) f fd ["items"] spWI := by
  refine F.ok scWI (fun vs H Q E h => ?_) (fun cdv A outer s H vs Q E hr h => ?_)
  · obtain ⟨a, zs, rfl, _⟩ := h
    rfl
  · obtain ⟨a, zs, rfl, ha, hz, q⟩ := h
    refine ⟨_, (pss_one (ps_ret (pe_join pe_str (pv 0)))), ?_⟩
    exact s_ret (v := .str (page zs)) (ev_joinV len_sp ev_c (ev_var rfl) ha hz) q
def spWS : Sp := fun vs H Q _ => ∃ (a : Addr) (os : List (Option Str)), vs = [.ref a] ∧ H a = some (.lst (os.map oV)) ∧ WOk (os.map oW) ∧ ∀ H', Ex H H' → Q (.str (page (os.map oW))) H'
theorem words_of {os : List (Option Str)} : given (os.map oV).length (fun _ => true) (fun i => V.str (oW (os.getD i none))) = (os.map oW).map V.str := by
  rw [List.length_map, List.map_map]
  exact given_map os (V.str ∘ oW) _ fun i x e => by
    rw [List.getD_eq_getElem?_getD, e]
    rfl
theorem ok_ws {f : Addr} {fd : FuncData} {k : Nat} (F : Fun K "write_seen" "write_seen" sWS f fd) {tU : Tok} (mU : mg "UNSEEN" = some (.str "?" tU)) : FnOk P w K mg base CX0 (k + 1) f fd ["seen"] spWS := by
  refine F.ok scWS (fun vs H Q E h => ?_) (fun cdv A outer s H vs Q E hr h => ?_)
  · obtain ⟨a, os, rfl, _⟩ := h
    rfl
  · obtain ⟨a, os, rfl, ha, hz, q⟩ := h
    refine ⟨_, (pss_one (ps_ret (pe_join pe_str (pe_lc (own := [("entry", 1)]) (g := gName 1) (tt := tYes) rfl scWS.nd (pi_list (pv 0)) (blkOk_by (N := ["seen", "entry"]) (sc := defScope sWS) (by decide +kernel)) (fun _ _ _ _ _ => pg_name (i := 1) scWS.nd rfl (Or.inl rfl)) (fun _ _ _ _ _ => pts_nil) (fun _ _ _ _ _ => (pe_ifExp (pt_cmpR op_isN (pv 1) pe_non (nomark _)) (pe_glob (v := .str "?") (by rfl) mU ⟨_, rfl⟩) (pv 1))))))), ?_⟩
    refine s_ret (v := .str (page (os.map oW))) (ev_joinL len_sp ev_c ?_ hz) q
    rw [← words_of]
    have few := hz.few
    rw [List.length_map] at few
    refine el_lcL (f := fun _ => true) (v := _) (ev_var rfl) (sq_of ha) (by rw [List.length_map]; omega) (fun _ => rfl) (fun i x H2 _ _ => fun H3 e3 Q q => q H3 (Ex.refl H3)) (fun i x H2 e2 hx _ => ?_)
    rw [List.getElem?_map] at hx
    obtain ⟨o, ho, rfl⟩ := Option.map_eq_some_iff.mp hx
    rw [List.getD_eq_getElem?_getD, ho]
    show Ev _ _ _ (.str (oW o))
    cases o with
    | none => exact ev_if (b := true) (et_test (ev_op (ev_var rfl) ev_c rv_isN')) (fun _ => ev_c) fun h => nomatch h
    | some z => exact ev_if (b := false) (et_test (ev_op (ev_var rfl) ev_c rv_isN')) (fun h => nomatch h) fun _ => ev_var rfl
def spRI : Sp := fun vs H Q _ => ∃ (zs : List Str), vs = [.str (page zs)] ∧ ObsOk (zs.map some) ∧ ∀ H' p, Ex H H' → H p = none → H' p = some (.lst (zs.map V.str)) → Q (.ref p) H'
theorem ok_ri {f fI : Addr} {fd fdI : FuncData} {k : Nat} (F : Fun K "read_items" "read_items" sRI f fd)
    (GI : FnOk P w K mg base CX0 k fI fdI ["thing"] spItem) (FI : Fun K "is_item" "is_item" sItem fI fdI) (bI : Binds K fdI ["thing"] []) (gI : mg "is_item" = some (.ref fI))
    (mEnum : mg "enumerate" = none) {t40 : Tok} (m40 : mg "MOST_POSITIONS" = some (.int 40 t40)) : FnOk P w K mg base CX0 (k + 1) f fd ["text"] spRI := by
  refine F.ok scRI (fun vs H Q E h => ?_) (fun cdv A outer s H vs Q E hr h => ?_)
  · obtain ⟨zs, rfl, _⟩ := h
    rfl
  · obtain ⟨zs, rfl, ok, q⟩ := h
    refine ⟨_, (pss_cons (ps_set (i := 1) scRI.nd rfl (.inl rfl) (pe_lst pa_nil))
      (pss_cons (ps_for PassesOwn.never rfl (pi_enum (by rfl) mEnum (pa_cons (pe_split (pv 0) pe_str) pa_nil)) (pg_tup rfl (pgs_cons (pg_name (i := 2) scRI.nd rfl (Or.inl rfl)) (pgs_cons (pg_name (i := 3) scRI.nd rfl (Or.inl rfl)) pgs_nil)))
      (pss_cons (ps_if (PW.pt (pw_or (pt_cmpR op_ge (pv 2) (pe_glob (v := .int 40) (by rfl) m40 ⟨_, rfl⟩) (nomark _)) (pw_or (pt_not (pt_val (pe_call GI hr (by rfl) gI FI.kp bI .nil pass0 (pa_cons (pv 3) pa_nil)))) (pw_or1 (pt_cmpR op_in_seq (pv 3) (pv 1) (by rfl)))))) pss_never pss_nil)
      (pss_one (ps_expr (pe_bm PySem.F.plainAttrs_list PySem.F.slot_list_append PySem.F.type_list_append mt_append (pv 1) (pa_cons (pv 3) pa_nil))))))
      (pss_one (ps_ret (pv 1))))), ?_⟩
    have wok := ok.words
    have back := ok.back
    rw [some_W] at wok back
    have few : zs.length ≤ 40 := by
      have := ok.few
      rw [List.length_map] at this
      exact this
    refine q_asgL (xs := []) (el_lst ea_nil (Nat.zero_le _)) fun L H1 hL e1 h1 => ?_
    refine q_forE (xs := zs.map V.str) (el_split (ev_var rfl) ev_c len_sp (Nat.le_trans (join_len_le len_sp wok) (by decide)) back)
      (fun p i σ' H' => Ex H H' ∧ H' p = some (.lst (zs.map V.str)) ∧ p ≠ L ∧ H' L = some (.lst ((zs.take i).map V.str)) ∧ ∃ y2 y3, σ' = [some (.str (page zs)), some (.ref L), y2, y3])
      (fun p H2 hp e2 h2 => ⟨e1.trans e2, h2, (ne_of_none h1 hp).symm, e2 _ _ h1, _, _, rfl⟩) (fun p i σ' H' h => sq_of h.2.1) ?_ ?_
    · rintro p i x σ' H3 H4 hx ⟨e3, hp3, npL, hL3, y2, y3, rfl⟩ e4
      rw [List.getElem?_map] at hx
      obtain ⟨z, hz, rfl⟩ := Option.map_eq_some_iff.mp hx
      have hi : i < zs.length := (List.getElem?_eq_some_iff.mp hz).1
      have mz : some z ∈ zs.map some := List.mem_map.mpr ⟨z, List.mem_of_getElem? hz, rfl⟩
      obtain ⟨nb, so⟩ := ok.ok z mz
      have nin : z ∉ zs.take i := fun m => by
        refine some_sub (i := i) (z := z) ok.nd (by rw [List.getElem?_map, hz]; rfl) ?_
        rw [← List.map_take]
        exact List.mem_map.mpr ⟨z, m, rfl⟩
      have hL4 := e4 _ _ hL3
      refine q_when (b := false) (et_is (et_or (a := false) (b := false) (et_test (ev_is (ev_op (ev_var rfl) ev_c rv_I0) (by rw [decide_eq_false (by omega)]))) fun _ => et_is (et_or (a := false) (b := false) (et_is (et_not (et_B (ev_sp (z := .bl (itemB (.str z))) (ea_cons (ev_var rfl) ea_nil) fun H5 e5 Q q => ⟨.str z, .str z, rfl, .str z, ⟨Nat.le_trans (name_len' nb) (by decide), so⟩, fun H6 e6 => q H6 e6⟩))) (show (!nameB z) = false by rw [nb]; rfl)) fun _ => et_test (ev_is (ev_op (ev_var rfl) (ev_var rfl) (rv_isL (sq_of hL4) rfl (flat_strs' _))) (by rw [inV_strs', decide_eq_false nin]))) rfl) rfl) (fun h => nomatch h) fun _ H5 e5 => ?_
      refine s_app (e5 _ _ hL4) (ev_var rfl) (ev_var rfl) (by rw [List.length_map, List.length_take]; omega) fun H6 e6 => ?_
      have hLn : H L = none := hL
      refine ⟨((((e3.trans e4).trans e5).trans e6)).mut hLn, ?_, npL, ?_, _, _, rfl⟩
      · rw [upd_ne npL]
        exact e6 _ _ (e5 _ _ (e4 _ _ hp3))
      · rw [upd_same, List.take_add_one, hz]
        show some (HO.lst _) = some (HO.lst ((zs.take i ++ [z]).map V.str))
        rw [List.map_append]
        rfl
    · rintro p σ' H3 ⟨e3, hp3, npL, hL3, y2, y3, rfl⟩
      rw [List.length_map, List.take_length] at hL3
      exact s_ret (v := .ref L) (ev_var rfl) fun H4 e4 => q H4 L (e3.trans e4) hL (e4 _ _ hL3)
def spRS : Sp := fun vs H Q _ => ∃ (os : List (Option Str)), vs = [.str (page (os.map oW))] ∧ ObsOk os ∧ ∀ H' p, Ex H H' → H p = none → H' p = some (.lst (os.map oV)) → Q (.ref p) H'
theorem ok_rs {f fI : Addr} {fd fdI : FuncData} {k : Nat} (F : Fun K "read_seen" "read_seen" sRS f fd)
    (GI : FnOk P w K mg base CX0 k fI fdI ["thing"] spItem) (FI : Fun K "is_item" "is_item" sItem fI fdI) (bI : Binds K fdI ["thing"] []) (gI : mg "is_item" = some (.ref fI))
    (mEnum : mg "enumerate" = none) {t40 : Tok} (m40 : mg "MOST_POSITIONS" = some (.int 40 t40)) {tU : Tok} (mU : mg "UNSEEN" = some (.str "?" tU)) : FnOk P w K mg base CX0 (k + 1) f fd ["text"] spRS := by
  refine F.ok scRS (fun vs H Q E h => ?_) (fun cdv A outer s H vs Q E hr h => ?_)
  · obtain ⟨os, rfl, _⟩ := h
    rfl
  · obtain ⟨os, rfl, ok, q⟩ := h
    refine ⟨_, (pss_cons (ps_set (i := 1) scRS.nd rfl (.inl rfl) (pe_lst pa_nil))
      (pss_cons (ps_for PassesOwn.never rfl (pi_enum (by rfl) mEnum (pa_cons (pe_split (pv 0) pe_str) pa_nil)) (pg_tup rfl (pgs_cons (pg_name (i := 2) scRS.nd rfl (Or.inl rfl)) (pgs_cons (pg_name (i := 3) scRS.nd rfl (Or.inl rfl)) pgs_nil)))
      (pss_cons (ps_if (pt_cmpR op_ge (pv 2) (pe_glob (v := .int 40) (by rfl) m40 ⟨_, rfl⟩) (nomark _)) pss_never pss_nil)
      (pss_one (ps_if (pt_cmpR op_eq (pv 3) (pe_glob (v := .str "?") (by rfl) mU ⟨_, rfl⟩) (nomark _)) (pss_one (ps_expr (pe_bm PySem.F.plainAttrs_list PySem.F.slot_list_append PySem.F.type_list_append mt_append (pv 1) (pa_cons pe_non pa_nil)))) (pss_one (ps_if (PW.pt (pw_and (pt_val (pe_call GI hr (by rfl) gI FI.kp bI .nil pass0 (pa_cons (pv 3) pa_nil))) (pw_and1 (pt_cmpR op_notIn_seq (pv 3) (pv 1) (by rfl))))) (pss_one (ps_expr (pe_bm PySem.F.plainAttrs_list PySem.F.slot_list_append PySem.F.type_list_append mt_append (pv 1) (pa_cons (pv 3) pa_nil)))) pss_never))))))
      (pss_one (ps_ret (pv 1))))), ?_⟩
    have wok := ok.words
    have back := ok.back
    have few := ok.few
    refine q_asgL (xs := []) (el_lst ea_nil (Nat.zero_le _)) fun L H1 hL e1 h1 => ?_
    refine q_forE (xs := (os.map oW).map V.str) (el_split (ev_var rfl) ev_c len_sp (Nat.le_trans (join_len_le len_sp wok) (by decide)) back)
      (fun p i σ' H' => Ex H H' ∧ H' p = some (.lst ((os.map oW).map V.str)) ∧ p ≠ L ∧ H' L = some (.lst ((os.take i).map oV)) ∧ ∃ y2 y3, σ' = [some (.str (page (os.map oW))), some (.ref L), y2, y3])
      (fun p H2 hp e2 h2 => ⟨e1.trans e2, h2, (ne_of_none h1 hp).symm, e2 _ _ h1, _, _, rfl⟩) (fun p i σ' H' h => sq_of h.2.1) ?_ ?_
    · rintro p i x σ' H3 H4 hx ⟨e3, hp3, npL, hL3, y2, y3, rfl⟩ e4
      rw [List.getElem?_map] at hx
      obtain ⟨z, hz0, rfl⟩ := Option.map_eq_some_iff.mp hx
      rw [List.getElem?_map] at hz0
      obtain ⟨o, ho, rfl⟩ := Option.map_eq_some_iff.mp hz0
      have hi : i < os.length := (List.getElem?_eq_some_iff.mp ho).1
      have mo := List.mem_of_getElem? ho
      have hL4 := e4 _ _ hL3
      have hLn : H L = none := hL
      have fin : ∀ {H5 H6 : Hp}, Ex H4 H5 → Ex H5 H6 → (Ex H (upd H6 L (.lst ((os.take i).map oV ++ [oV o]))) ∧ upd H6 L (.lst ((os.take i).map oV ++ [oV o])) p = some (.lst ((os.map oW).map V.str)) ∧ p ≠ L ∧ upd H6 L (.lst ((os.take i).map oV ++ [oV o])) L = some (.lst ((os.take (i + 1)).map oV))) := fun e5 e6 => by
        refine ⟨(((e3.trans e4).trans e5).trans e6).mut hLn, ?_, npL, ?_⟩
        · rw [upd_ne npL]
          exact e6 _ _ (e5 _ _ (e4 _ _ hp3))
        · rw [upd_same, List.take_add_one, ho]
          show some (HO.lst _) = some (HO.lst ((os.take i ++ [o]).map oV))
          rw [List.map_append]
          rfl
      have sz : ((os.take i).map oV).length < 100000 := by rw [List.length_map, List.length_take]; omega
      refine q_when (b := false) (et_test (ev_is (ev_op (ev_var rfl) ev_c rv_I0) (by rw [decide_eq_false (by omega)]))) (fun h => nomatch h) fun _ H5 e5 => ?_
      cases o with
      | none =>
        refine s_if (b := true) (et_test (ev_op (ev_var rfl) ev_c (rv_eq rfl))) (fun _ H6 e6 => ?_) (fun h => nomatch h)
        refine s_app (e6 _ _ (e5 _ _ hL4)) (ev_var rfl) ev_c sz fun H7 e7 => ?_
        obtain ⟨f1, f2, f3, f4⟩ := fin (e5.trans e6) e7
        exact ⟨f1, f2, f3, f4, _, _, rfl⟩
      | some z =>
        obtain ⟨nb, so⟩ := ok.ok z mo
        have nin : some z ∉ os.take i := some_sub ok.nd ho
        refine s_if (b := false) (et_test (ev_is (ev_op (ev_var rfl) ev_c (rv_eq rfl)) (congrArg V.bl (decide_eq_false (fun e => name_ne nb (V.str.inj e)))))) (fun h => nomatch h) fun _ H6 e6 => ?_
        refine s_if (b := true) (et_is (et_and (a := true) (b := true) (et_is (et_B (ev_sp (z := .bl (itemB (.str z))) (ea_cons (ev_var rfl) ea_nil) fun H5 e5 Q q => ⟨.str z, .str z, rfl, .str z, ⟨Nat.le_trans (name_len' nb) (by decide), so⟩, fun H6 e6 => q H6 e6⟩)) nb) fun _ => et_test (ev_is (ev_op (ev_var rfl) (ev_var rfl) (rv_niL (sq_of (e6 _ _ (e5 _ _ hL4))) rfl (flat_o _))) (by rw [show inV (V.str (oW (some z))) ((os.take i).map oV) = _ from inV_o z _, decide_eq_false nin]; rfl))) rfl) (fun _ H7 e7 => ?_) (fun h => nomatch h)
        refine s_app (e7 _ _ (e6 _ _ (e5 _ _ hL4))) (ev_var rfl) (ev_var rfl) sz fun H8 e8 => ?_
        obtain ⟨f1, f2, f3, f4⟩ := fin ((e5.trans e6).trans e7) e8
        exact ⟨f1, f2, f3, f4, _, _, rfl⟩
    · rintro p σ' H3 ⟨e3, hp3, npL, hL3, y2, y3, rfl⟩
      rw [List.length_map, List.length_map, List.take_length] at hL3
      exact s_ret (v := .ref L) (ev_var rfl) fun H4 e4 => q H4 L (e3.trans e4) hL (e4 _ _ hL3)
end
end K95
/-! min of a list of pairs, remove of a pair -/
namespace Os
open PySem PySem.Spec PyProof.Rows L2 Evl

theorem prs_lay : ∀ es : List Pr, PyData.canLayAll0 (es.map Os.prD) = true
  | [] => by simp [PyData.canLayAll0]
  | e :: es => by simp [PyData.canLayAll0, PyData.canLay0, Os.prD, prs_lay es]
theorem pr_lay (e : Pr) : (Os.prD e).canLay0 = true := by simp [Os.prD, PyData.canLay0, PyData.canLayAll0]
theorem pr_depth (e : Pr) : (Os.prD e).depth = 1 := by simp [Os.prD, PyData.depth, PyData.depthAll]
theorem prs_depth : ∀ es : List Pr, PyData.depthAll (es.map Os.prD) ≤ 1
  | [] => by simp [PyData.depthAll]
  | e :: es => by
    have h1 := prs_depth es
    have h2 := pr_depth e
    simp only [List.map_cons, PyData.depthAll]
    omega
theorem lt_pr (e f : Pr) : PySem.W.dataLt (Os.prD e) (Os.prD f) = ltP e f := by
  show PyProof.Rows.lexLt itemOrd [.inl 1, .inl (e.1 : Int), .inl 1, .inl (e.2 : Int), .inl 0] [.inl 1, .inl (f.1 : Int), .inl 1, .inl (f.2 : Int), .inl 0] = ltP e f
  have hb : ∀ a b : Nat, itemOrd.blt (.inl (a : Int)) (.inl (b : Int)) = decide (a < b) := fun a b => decide_eq_decide.mpr (show (a : Int) < (b : Int) ↔ a < b by omega)
  have hn : ∀ {a b : Nat}, a ≠ b → (Sum.inl (a : Int) : Int ⊕ List Nat) ≠ .inl (b : Int) := fun h z => h (by have := Sum.inl.inj z; omega)
  rw [lex_self]
  unfold ltP
  by_cases h1 : e.1 = f.1
  · rw [h1, lex_self, lex_self, decide_eq_false (Nat.lt_irrefl _), decide_eq_true rfl, Bool.false_or, Bool.true_and]
    by_cases h2 : e.2 = f.2
    · rw [h2, lex_irrefl, decide_eq_false (Nat.lt_irrefl _)]
    · rw [lex_diff (O := itemOrd) (hn h2)]
      exact hb _ _
  · rw [lex_diff (O := itemOrd) (hn h1), decide_eq_false h1, Bool.false_and, Bool.or_false]
    exact hb _ _
/-- the least of e and es, the first of equal ones -/
def minP (e : Pr) (es : List Pr) : Pr := es.foldl (fun a y => if ltP y a = true then y else a) e
theorem minD_pr : ∀ (es : List Pr) (e : Pr), PySem.W.minD (Os.prD e) (es.map Os.prD) = Os.prD (minP e es)
  | [], _ => rfl
  | y :: es, e => by
    show PySem.W.minD (if PySem.W.dataLt (Os.prD y) (Os.prD e) = true then Os.prD y else Os.prD e) (es.map Os.prD) = Os.prD (minP (if ltP y e = true then y else e) es)
    rw [lt_pr]
    by_cases h : ltP y e = true
    · rw [if_pos h, if_pos h]
      exact minD_pr es y
    · rw [if_neg h, if_neg h]
      exact minD_pr es e
theorem minP_least : ∀ (es : List Pr) (e : Pr), ∀ f ∈ e :: es, ltP f (minP e es) = false
  | [], e, f, hf => by
    rw [List.mem_singleton.mp hf]
    show ltP e e = false
    rw [← Bool.not_eq_true, ltP_iff]
    omega
  | y :: es, e, f, hf => by
    show ltP f (minP (if ltP y e = true then y else e) es) = false
    by_cases h : ltP y e = true
    · rw [if_pos h]
      have ih := minP_least es y
      have iy := ih y List.mem_cons_self
      rcases List.mem_cons.mp hf with rfl | hf
      · rw [ltP_iff] at h
        rw [← Bool.not_eq_true, ltP_iff] at iy ⊢
        omega
      · exact ih f hf
    · rw [if_neg h]
      have ih := minP_least es e
      have ie := ih e List.mem_cons_self
      rcases List.mem_cons.mp hf with rfl | hf
      · exact ie
      · rcases List.mem_cons.mp hf with rfl | hf
        · rw [ltP_iff] at h
          rw [← Bool.not_eq_true, ltP_iff] at ie ⊢
          omega
        · exact ih f (List.mem_cons_of_mem _ hf)
theorem prD_inj {e f : Pr} (h : Os.prD e = Os.prD f) : e = f := by
  unfold Os.prD at h
  injection h with h
  injection h with h1 h
  injection h with h2 _
  injection h1 with h1
  injection h2 with h2
  exact Prod.ext (by omega) (by omega)
theorem alike_pr (e f : Pr) : PySem.W.alike (Os.prD e) (Os.prD f) = true := by simp [Os.prD, PySem.W.alike, PySem.W.alikeAll]
section
variable {X : Cx}
def rMinP (K : PySem.W.Frag) : List V → Hp → VK → Prop := fun vs H Q => ∃ (a : Addr) (xs : List V) (es : List Pr), vs = [V.ref a] ∧ H a = some (.lst xs) ∧ PrsV H xs es ∧ es ≠ [] ∧
  ∀ (i : Nat) (v : V) (e : Pr), xs[i]? = some v → es[i]? = some e → (∀ f ∈ es, ltP f e = false) → Q v H
theorem cr_minP (hc : X.calm = true) (hu : X.A.units + 64 < cLine) : CallR X (.builtin "min") (rMinP X.K) := by
  intro pins s σ H vs us Q I r h
  obtain ⟨a, xs, es, rfl, ha, hp, ne, q⟩ := h
  obtain ⟨its, rv, hl, _⟩ := I.list (sq_of ha)
  rw [Vals.ref1 r]
  cases es with
  | nil => exact absurd rfl ne
  | cons e es =>
    obtain ⟨as, rd⟩ := Dp.readsAll I ((e :: es).map Os.prD) xs its hp.dts.dp rv
    refine PySem.W.min_list_data (x := Os.prD e) (xs := es.map Os.prD) (I.ok.hd hc) hl.isList rd ⟨fun x hx y hy => ?_, fun x hx => ?_⟩ (by have : PyData.depthAll (Os.prD e :: es.map Os.prD) ≤ 1 := prs_depth (e :: es); omega) fun i v h' tk bs hv rdm hk => ?_
    · have hx' : x ∈ (e :: es).map Os.prD := hx
      have hy' : y ∈ (e :: es).map Os.prD := hy
      obtain ⟨x1, _, rfl⟩ := List.mem_map.mp hx'
      obtain ⟨y1, _, rfl⟩ := List.mem_map.mp hy'
      exact alike_pr x1 y1
    · have hx' : x ∈ (e :: es).map Os.prD := hx
      obtain ⟨x1, _, rfl⟩ := List.mem_map.mp hx'
      exact fun z => nomatch z
    · have hv' : its[i]? = some v := by simpa using hv
      have il : i < xs.length := by
        rw [rv.length]
        exact (List.getElem?_eq_some_iff.mp hv').1
      have hx : xs[i]? = some xs[i] := List.getElem?_eq_getElem il
      generalize xs[i] = x at hx
      obtain ⟨u, hu1, ru⟩ := rv.get hx
      rw [hv'] at hu1
      cases hu1
      obtain ⟨e', he', pe⟩ := hp.get hx
      obtain ⟨bs', rd'⟩ := Dp.reads I (Os.prD e') x v pe.dt.dp ru
      have r1 := SeqAt.readOf_eq (pr_lay e') (PySem.W.reads_keeps hk rd')
      rw [minD_pr] at rdm
      have r2 := SeqAt.readOf_eq (pr_lay _) rdm
      have ee : e' = minP e es := prD_inj (r1.symm.trans r2)
      subst ee
      exact ⟨x, H, I.kept hk, ru, q i x _ hx he' (minP_least es e)⟩
/-- l.remove(x) of a list of pairs -/
def rRemP : V → List V → Hp → VK → Prop := fun x vs H Q => ∃ (l : Addr) (xs : List V) (es : List Pr) (v : V) (e : Pr) (j : Nat), x = .ref l ∧ vs = [v] ∧ H l = some (.lst xs) ∧ PrsV H xs es ∧ PrV H v e ∧ es[j]? = some e ∧ (∀ m, m < j → es[m]? ≠ some e) ∧
  Q .non (upd H l (.lst (xs.eraseIdx j)))
theorem eqv_prs (e f : Pr) : PyData.eqv (Os.prD e) (Os.prD f) = decide (e = f) := by
  have h : PyData.eqv (Os.prD e) (Os.prD f) = ((e.1 : Int) == (f.1 : Int) && ((e.2 : Int) == (f.2 : Int) && true)) := by
    simp [Os.prD, PyData.eqv, PyData.eqvAll]
  rw [h, Bool.and_true]
  by_cases h1 : e.1 = f.1
  · by_cases h2 : e.2 = f.2
    · rw [decide_eq_true (Prod.ext h1 h2), h1, h2, beq_self_eq_true, beq_self_eq_true]
      rfl
    · rw [decide_eq_false (fun z => h2 (congrArg Prod.snd z)), show ((e.2 : Int) == (f.2 : Int)) = false from beq_eq_false_iff_ne.mpr (by omega), Bool.and_false]
  · rw [decide_eq_false (fun z => h1 (congrArg Prod.fst z)), show ((e.1 : Int) == (f.1 : Int)) = false from beq_eq_false_iff_ne.mpr (by omega), Bool.false_and]
theorem mt_remP (hu : X.A.units + 64 < cLine) : MtR X "list.remove" rRemP := by
  intro pins s σ H x xs v us Q I rx rxs h
  obtain ⟨l, zs, es, y, e, j, rfl, rfl, hH, hp, hy, hj, hno, q⟩ := h
  cases rx
  obtain ⟨u, rfl, ru⟩ := rxs.one
  obtain ⟨z, its, n, r, hl, e0⟩ := I.lstM hH
  obtain ⟨bs, r1⟩ := Dp.reads I (Os.prD e) y u hy.dt.dp ru
  obtain ⟨as, h4⟩ := Dp.readsAll I (es.map Os.prD) zs its hp.dts.dp r
  have hxs := prs_lay es
  have hle := hp.length
  have hmap : its.map (SeqAt.readOf s.heap) = es.map Os.prD := SeqAt.readsAll_map (es.map Os.prD) its as hxs h4
  have jl : j < es.length := (List.getElem?_eq_some_iff.mp hj).1
  have hjs : j < its.toArray.size := by rw [List.size_toArray]; omega
  have at_ : ∀ (m : Nat) (hm : m < its.toArray.size) (f : Pr), es[m]? = some f → SeqAt.readOf s.heap its.toArray[m] = Os.prD f := by
    intro m hm f hf
    have hml : m < its.length := by simpa using hm
    have e1 : (its.map (SeqAt.readOf s.heap))[m]? = (es.map Os.prD)[m]? := by rw [hmap]
    rw [List.getElem?_map, List.getElem?_map, List.getElem?_eq_getElem hml, hf] at e1
    have e2 := Option.some.inj e1
    simpa using e2
  have dp := prs_depth es
  have de := pr_depth e
  refine call_meets PySem.F.slot_list_remove ⟨_, e0, rfl⟩ PySem.F.entry_list_remove (PySem.F.args_list_remove_2 _ _)
    (SeqAt.list_removeAt l its.toArray n none #[] u (fun w => PyData.eqv (SeqAt.readOf s.heap w) (Os.prD e)) j hjs ?_ ?_ (by rw [List.size_toArray, ← hl]; exact z)) ⟨e0, SeqAt.items_eqAt (vs := its.toArray) (show ReadsAll s.heap its.toArray.toList (es.map Os.prD) as from h4) r1 hxs (pr_lay e) (by omega), ?_⟩
  · show PyData.eqv (SeqAt.readOf s.heap its.toArray[j]) (Os.prD e) = true
    rw [at_ j hjs e hj, eqv_prs, decide_eq_true rfl]
  · intro m hm hmj
    have hf : es[m]? = some es[m] := List.getElem?_eq_getElem (by omega)
    show PyData.eqv (SeqAt.readOf s.heap its.toArray[m]) (Os.prD e) = false
    rw [at_ m hm _ hf, eqv_prs]
    refine decide_eq_false fun w => hno m hmj ?_
    rw [hf, w]
  · refine ⟨.non, _, I.lset (its' := its.eraseIdx j) hH e0 ?_ (r.eraseIdx j) ?_, rfl, q⟩
    · show its.toArray.eraseIdxIfInBounds j = (its.eraseIdx j).toArray
      rw [List.eraseIdxIfInBounds_toArray]
    · have := len_erase zs j
      omega
/-- list(x), x a text -/
def signsV (z : Str) : List V := z.cps.toList.map fun c => V.str ⟨#[c]⟩
def rListStr : List V → Hp → VK → Prop := fun vs H Q => ∃ z : Str, vs = [V.str z] ∧ z.length ≤ sizeLine ∧ ∀ l, H l = none → Q (.ref l) (upd H l (.lst (signsV z)))
theorem vals_at : ∀ {xs : List V} {us : List Value}, xs.length = us.length → (∀ (i : Nat) (x : V) (u : Value), xs[i]? = some x → us[i]? = some u → RelV x u) → Vals xs us
  | [], [], _, _ => .nil
  | x :: xs, u :: us, hl, h => .cons (h 0 x u rfl rfl) (vals_at (by simpa using hl) fun i y v h1 h2 => h (i + 1) y v (by simpa using h1) (by simpa using h2))
  | [], _ :: _, hl, _ => by simp at hl
  | _ :: _, [], hl, _ => by simp at hl
theorem call_listS (hc : X.calm = true) : CallR X (.type "list") rListStr := by
  intro pins s σ H vs us Q I r h
  obtain ⟨z, rfl, hz, q⟩ := h
  obtain ⟨u, rfl, t, rfl⟩ := vals1 r
  refine call_list_str (I.ok.hd hc) z t (fun h' tk acc' c' hk hS hacc => ?_) (hn := hz)
  have hsz : acc'.size = z.cps.size := hacc.1
  have hl : (signsV z).length = acc'.toList.length := by
    unfold signsV
    rw [List.length_map, Array.length_toList, Array.length_toList, hsz]
  refine ⟨.ref s.heap.objs.size, upd H s.heap.objs.size (.lst (signsV z)), I.laid (t' := tk) hk (Nat.le_refl _) ⟨?_, acc'.toList, c', vals_at hl fun i x v h1 h2 => ?_, by simpa using hS⟩, rfl, q _ (I.hok.fresh (Nat.le_refl _))⟩
  · unfold signsV
    rw [List.length_map, Array.length_toList]
    exact hz
  · obtain ⟨c, tk', hc', rfl⟩ := hacc.2 i v (by simpa using h2)
    unfold signsV at h1
    rw [List.getElem?_map, Array.getElem?_toList, hc'] at h1
    cases h1
    exact ⟨_, rfl⟩
end
end Os
namespace K95
open PySem PySem.Spec PyProof.Rows L2 Os Evl
section
variable {K : PySem.W.Frag} {σ : L2.St} {H : Hp} {ta : TE}
theorem ev_len' {p : Addr} {xs : List V} (ha : Ev ta σ H (.ref p)) (h : H p = some (.lst xs)) :
    Ev (tCB (fun xs H Q => ∃ p ys, xs = [V.ref p] ∧ (SqL K H p ys ∨ SqT K H p ys) ∧ Q (.int ys.length) H) (tCons ta tNil)) σ H (.int (xs.length : Int)) := ev_len ha (sq_of h)
end
abbrev sNum : Stmt := topS 16
theorem scNum : FnScope ["word", "sign"] ["word"] (defScope sNum) := ⟨rfl, rfl, rfl, by decide +kernel, rfl, by decide +kernel, by decide +kernel⟩
abbrev sPairIn : Stmt := topS 17
theorem scPairIn : FnScope ["word", "numbers", "part"] ["word"] (defScope sPairIn) := ⟨rfl, rfl, rfl, by decide +kernel, rfl, by decide +kernel, by decide +kernel⟩
abbrev sWE : Stmt := topS 22
theorem scWE : FnScope ["edges", "p", "q"] ["edges"] (defScope sWE) := ⟨rfl, rfl, rfl, by decide +kernel, rfl, by decide +kernel, by decide +kernel⟩
abbrev sRE : Stmt := topS 23
theorem scRE : FnScope ["text", "words", "edges", "at", "word", "edge"] ["text"] (defScope sRE) := ⟨rfl, rfl, rfl, by decide +kernel, rfl, by decide +kernel, by decide +kernel⟩
/-! ### numbers below 40 and their texts -/
abbrev numS (n : Nat) : Str := Str.ofString (toString ((n : Nat) : Int))
def numOk (n : Nat) : Bool := decide ((numS n).length ≤ 2) && decide (1 ≤ (numS n).length) && (numS n).cps.toList.all (fun c => decide (48 ≤ c) && decide (c ≤ 57)) && (decide ((numS n).cps.toList.getD 0 0 ≠ 48) || decide (numS n = "0")) && decide (PySem.intText? (numS n) = some (n : Int))
theorem num_ok : ∀ n, n < 40 → numOk n = true := by decide +kernel
structure NumS (n : Nat) : Prop where
  short : (numS n).length ≤ 2
  long : 1 ≤ (numS n).length
  digits : ∀ c ∈ (numS n).cps.toList, 48 ≤ c ∧ c ≤ 57
  lead : (numS n).cps.toList.getD 0 0 ≠ 48 ∨ numS n = "0"
  val : PySem.intText? (numS n) = some (n : Int)
theorem num_of {n : Nat} (h : n < 40) : NumS n := by
  have := num_ok n h
  unfold numOk at this
  rw [Bool.and_eq_true, Bool.and_eq_true, Bool.and_eq_true, Bool.and_eq_true, Bool.or_eq_true] at this
  obtain ⟨⟨⟨⟨h1, h2⟩, h3⟩, h4⟩, h5⟩ := this
  refine ⟨of_decide_eq_true h1, of_decide_eq_true h2, fun c hc => ?_, h4.imp of_decide_eq_true of_decide_eq_true, of_decide_eq_true h5⟩
  have := List.all_eq_true.mp h3 c hc
  rw [Bool.and_eq_true] at this
  exact ⟨of_decide_eq_true this.1, of_decide_eq_true this.2⟩
theorem num_free {n c : Nat} (h : n < 40) (hc : c < 48 ∨ 57 < c) : c ∉ (numS n).cps.toList := fun m => by
  have := (num_of h).digits c m
  omega
theorem num_ne {n : Nat} (h : n < 40) : numS n ≠ ("-" : Str) := fun e => num_free h (c := 45) (by decide) (by rw [e]; decide)
def edgeS (e : Pr) : Str := Txt.join ("-" : Str) [numS e.1, numS e.2]
theorem edgeS_eq (e : Pr) : edgeS e = numS e.1 ++ ("-" : Str) ++ numS e.2 := by
  unfold edgeS
  rw [TL.join_eq]
  rfl
theorem edge_split {e : Pr} (h1 : e.1 < 40) (h2 : e.2 < 40) : Txt.split (edgeS e) ("-" : Str) = [numS e.1, numS e.2] :=
  TL.split_join (s := 45) (S := []) (by decide) (by decide +kernel) (fun h => nomatch h) fun p hp => by
    rcases List.mem_cons.mp hp with rfl | hp
    · exact num_free h1 (by decide)
    · rw [List.mem_singleton.mp hp]
      exact num_free h2 (by decide)
theorem edge_len {e : Pr} (h1 : e.1 < 40) (h2 : e.2 < 40) : (edgeS e).length ≤ 5 ∧ 1 ≤ (edgeS e).length := by
  rw [edgeS_eq, strLen_append, strLen_append]
  have := (num_of h1).short
  have := (num_of h2).short
  have := (num_of h1).long
  have e3 : ("-" : Str).length = 1 := by decide
  omega
theorem edge_free {e : Pr} (h1 : e.1 < 40) (h2 : e.2 < 40) {c : Nat} (hc : c < 45 ∨ 57 < c) : c ∉ (edgeS e).cps.toList := fun m => by
  rcases page_codes m with m | ⟨z, hz, m⟩
  · have e2 : ("-" : Str).cps.toList = [45] := by decide
    rw [e2, List.mem_singleton] at m
    omega
  · rcases List.mem_cons.mp hz with rfl | hz
    · exact num_free h1 (by omega) m
    · rw [List.mem_singleton.mp hz] at m
      exact num_free h2 (by omega) m
theorem edge_ne {e : Pr} (h1 : e.1 < 40) (h2 : e.2 < 40) : edgeS e ≠ ("-" : Str) := fun h => by
  have h3 := congrArg Str.length h
  rw [edgeS_eq, strLen_append, strLen_append] at h3
  have := (num_of h1).long
  have := (num_of h2).long
  have e3 : ("-" : Str).length = 1 := by decide
  omega
/-- a list of distinct edges between few positions -/
structure EdgesOk (es : List Pr) : Prop where
  few : es.length ≤ 100
  inn : ∀ e ∈ es, e.1 < e.2 ∧ e.2 < 40
  nd : es.Nodup
def pageE (es : List Pr) : Str := if es = [] then "-" else page (es.map edgeS)
theorem EdgesOk.words {es : List Pr} (h : EdgesOk es) : WOk (es.map edgeS) := by
  refine ⟨by rw [List.length_map]; exact h.few, fun w hw => ?_⟩
  obtain ⟨e, he, rfl⟩ := List.mem_map.mp hw
  have := h.inn e he
  exact Nat.le_trans (edge_len (by omega) this.2).1 (by decide)
theorem EdgesOk.len {es : List Pr} (h : EdgesOk es) : (pageE es).length ≤ 20100 := by
  unfold pageE
  split
  · decide
  · exact join_len_le len_sp h.words
theorem EdgesOk.back {es : List Pr} (h : EdgesOk es) : Txt.split (pageE es) (" " : Str) = (if es = [] then [("-" : Str)] else es.map edgeS) := by
  unfold pageE
  split
  · decide +kernel
  · rename_i ne
    refine split_page (fun e => ne (List.map_eq_nil_iff.mp e)) fun w hw => ?_
    obtain ⟨e, he, rfl⟩ := List.mem_map.mp hw
    have := h.inn e he
    exact edge_free (by omega) this.2 (by decide)
theorem sign_le48 {c : Nat} (h : 48 ≤ c) : (!decide ((⟨#[c]⟩ : Str).cps.toList < ("0" : Str).cps.toList)) = true := by
  have e : ("0" : Str).cps.toList = [48] := by decide
  rw [e]
  show (!decide ([c] < [48])) = true
  rw [decide_eq_false (show ¬ [c] < [48] from fun z => by
    cases z with
    | rel z => omega
    | cons z => cases z)]
  rfl
theorem le_sign57 {c : Nat} (h : c ≤ 57) : (!decide (("9" : Str).cps.toList < (⟨#[c]⟩ : Str).cps.toList)) = true := by
  have e : ("9" : Str).cps.toList = [57] := by decide
  rw [e]
  show (!decide ([57] < [c])) = true
  rw [decide_eq_false (show ¬ [57] < [c] from fun z => by
    cases z with
    | rel z => omega
    | cons z => cases z)]
  rfl
section
variable {P : Program} {w : World} {K : PySem.W.Frag} {mg : Str → Option Value} {base : Heap}
def spNum : Sp := fun vs H Q _ => ∃ (n : Nat), vs = [.str (numS n)] ∧ n < 40 ∧ ∀ H', Ex H H' → Q (.int (n : Int)) H'
theorem ok_num {f : Addr} {fd : FuncData} {k : Nat} (F : Fun K "number_in" "number_in" sNum f fd) (mLen : mg "len" = none) (mAll : mg "all" = none) (mInt : mg "int" = none) {t9 : Tok} (m9 : mg "MOST_DIGITS" = some (.int 9 t9)) : FnOk P w K mg base CX0 (k + 1) f fd ["word"] spNum := by
  refine F.ok scNum (fun vs H Q E h => ?_) (fun cdv A outer s H vs Q E hr h => ?_)
  · obtain ⟨n, rfl, _⟩ := h
    rfl
  · obtain ⟨n, rfl, hn, q⟩ := h
    refine ⟨_, (pss_cons (ps_if (PW.pt (pw_or (pt_not (pt_chain op_le op_le pe_int (pe_callB call_len_str (by rfl) mLen boot_len (pa_cons (pv 0) pa_nil)) (pe_glob (v := .int 9) (by rfl) m9 ⟨_, rfl⟩))) (pw_or1 (pt_not (pt_val (pe_callB (cr_all rfl) (by rfl) mAll boot_all (pa_cons (pe_lc (own := [("sign", 1)]) (g := gName 1) (tt := tYes) rfl scNum.nd (pi_str (pv 0)) (blkOk_by (N := ["word", "sign"]) (sc := defScope sNum) (by decide +kernel)) (fun _ _ _ _ _ => pg_name (i := 1) scNum.nd rfl (Or.inl rfl)) (fun _ _ _ _ _ => pts_nil) (fun _ _ _ _ _ => pe_chain op_le_str op_le_str pe_str (pv 1) pe_str)) pa_nil))))))) pss_never pss_nil)
      (pss_cons (ps_if (PW.pt (pw_and (pt_cmpR op_eq (pe_ix ix_str (pv 0) pe_int (fun _ _ => rfl)) pe_str (nomark _)) (pw_and1 (pt_cmpR op_ne (pv 0) pe_str (nomark _))))) pss_never pss_nil)
      (pss_one (ps_ret (pe_callTy call_int_str (by rfl) mInt boot_int (pa_cons (pv 0) pa_nil)))))), ?_⟩
    obtain ⟨hz, hz1, odig, olead, oval⟩ := num_of hn
    generalize numS n = z at hz hz1 odig olead oval ⊢
    refine q_when (b := !(true && true) || !((z.cps.toList.map fun _ => true).all id)) (et_or (et_not (et_test (ev_chain ev_c (ev_lenS (ev_var rfl) (by omega)) (by
        have := @rv_I0 H (fun i j => .bl (decide (i ≤ j))) 1 (z.length : Int)
        rw [decide_eq_true (by omega)] at this
        exact this) fun _ => ⟨_, ev_c, by
        have := @rv_I0 H (fun i j => .bl (decide (i ≤ j))) (z.length : Int) 9
        rw [decide_eq_true (by omega)] at this
        exact this⟩))) fun _ => et_not (et_B (ev_all ?_))) (fun h => ?_) fun _ H1 e1 => ?_
    · rw [List.map_map, ← given_map z.cps.toList (V.bl ∘ fun _ => true) (fun _ => .bl true) (fun i x e => rfl), Array.length_toList]
      refine el_lcS (f := fun _ => true) (v := _) (ev_var rfl) (by omega) (fun _ => rfl) (fun i c H2 _ _ => fun H3 e3 Q q => q H3 (Ex.refl H3)) (fun i c H2 e2 hc _ => ?_)
      have hd := odig c (List.mem_of_getElem? hc)
      exact ev_is (ev_chain (b := true) (c := true) ev_c (ev_var rfl) (by rw [← sign_le48 hd.1]; exact rv_leS) fun _ => ⟨_, ev_c, by rw [← le_sign57 hd.2]; exact rv_leS⟩) rfl
    · exact absurd h (by rw [List.all_eq_true.mpr (fun b hb => by obtain ⟨_, _, rfl⟩ := List.mem_map.mp hb; rfl)]; decide)
    · obtain ⟨c, hc⟩ : ∃ c, z.cps.toList[0]? = some c := ⟨_, List.getElem?_eq_getElem (by rw [Array.length_toList]; exact hz1)⟩
      refine q_when (b := decide (V.str ⟨#[c]⟩ = V.str "0") && !decide (V.str z = V.str "0")) (et_and (et_test (ev_op (ev_op (ev_var rfl) ev_c (rv_ixS (by omega) (atI_nat (j := 0) hc))) ev_c (rv_eq rfl))) fun _ => et_test (ev_op (ev_var rfl) ev_c (rv_ne rfl))) (fun h => ?_) fun _ H2 e2 => ?_
      · rw [Bool.and_eq_true] at h
        have h1 := of_decide_eq_true h.1
        have hc48 : c = 48 := by
          have := congrArg (fun s : Str => s.cps.toList) (V.str.inj h1)
          have e0 : ("0" : Str).cps.toList = [48] := by decide
          rw [e0] at this
          simpa using this
        rcases olead with l | l
        · refine absurd ?_ l
          rw [List.getD_eq_getElem?_getD, hc, hc48]
          rfl
        · rw [l, decide_eq_true rfl] at h
          exact absurd h.2 (by decide)
      · exact s_ret (v := .int (n : Int)) (ev_intS (ev_var rfl) (by omega) oval) fun H3 e3 => q H3 ((e1.trans e2).trans e3)
def spPairIn : Sp := fun vs H Q _ => ∃ (e : Pr), vs = [.str (edgeS e)] ∧ e.1 < 40 ∧ e.2 < 40 ∧ ∀ H' p, Ex H H' → H p = none → H' p = some (.tup [.int (e.1 : Int), .int (e.2 : Int)]) → Q (.ref p) H'
theorem ok_pairIn {f fN : Addr} {fd fdN : FuncData} {k : Nat} (F : Fun K "pair_in" "pair_in" sPairIn f fd)
    (GN : FnOk P w K mg base CX0 k fN fdN ["word"] spNum) (FN : Fun K "number_in" "number_in" sNum fN fdN) (bN : Binds K fdN ["word"] []) (gN : mg "number_in" = some (.ref fN)) (mLen : mg "len" = none) : FnOk P w K mg base CX0 (k + 1) f fd ["word"] spPairIn := by
  refine F.ok scPairIn (fun vs H Q E h => ?_) (fun cdv A outer s H vs Q E hr h => ?_)
  · obtain ⟨e, rfl, _⟩ := h
    rfl
  · obtain ⟨e, rfl, h1, h2, q⟩ := h
    refine ⟨_, (pss_cons (ps_setLc (i := 1) (own := [("part", 2)]) (g := gName 2) (tt := tYes) rfl scPairIn.nd rfl rfl (sw_true rfl rfl rfl (by decide +kernel)) (pi_list (pe_split (pv 0) pe_str)) (blkOk_by (N := ["word", "numbers", "part"]) (sc := defScope sPairIn) (by decide +kernel)) (fun _ _ _ _ _ => pg_name (i := 2) scPairIn.nd rfl (Or.inl rfl)) (fun _ _ _ _ _ => pts_nil) (fun _ _ _ _ _ => (pe_call GN hr (by rfl) gN FN.kp bN .nil pass0 (pa_cons (pv 2) pa_nil))))
      (pss_cons (ps_if (PW.pt (pw_or (pt_cmpR op_ne (pe_callB call_len_seq (by rfl) mLen boot_len (pa_cons (pv 1) pa_nil)) pe_int (nomark _)) (pw_or1 (pt_cmpR op_in_seq pe_non (pv 1) (by rfl))))) pss_never pss_nil)
      (pss_one (ps_ret (pe_tup (pa_cons (pe_ix ix_list (pv 1) pe_int (fun _ _ => rfl)) (pa_cons (pe_ix ix_list (pv 1) pe_int (fun _ _ => rfl)) pa_nil))))))), ?_⟩
    refine q_asgL (xs := [e.1, e.2].map fun n : Nat => V.int (n : Int)) (el_lcMapN (xs := [e.1, e.2]) (fV := fun n => V.str (numS n)) (fun n : Nat => V.int (n : Int)) (el_split (ws := [numS e.1, numS e.2]) (ev_var rfl) ev_c (by decide) (Nat.le_trans (edge_len h1 h2).1 (by decide)) (edge_split h1 h2)) (by show 2 ≤ 40000; decide) (fun _ => rfl) (fun n H2 e2 hn => ev_sp (ea_cons (ev_var rfl) ea_nil) fun H3 e3 Q q => ⟨n, rfl, by
        rcases List.mem_cons.mp hn with rfl | hn
        · exact h1
        · rw [List.mem_singleton.mp hn]
          exact h2, q⟩)) fun p H1 hp e1 hp1 => ?_
    refine q_when (b := !decide (V.int 2 = V.int 2) || false) (et_or (et_test (ev_op (ev_len' (ev_var rfl) hp1) ev_c (rv_ne rfl))) fun _ => et_test (ev_op ev_c (ev_var rfl) (rv_isL (sq_of hp1) rfl rfl))) (fun h => by rw [decide_eq_true rfl] at h; cases h) fun _ H2 e2 => ?_
    have hp2 := e2 _ _ hp1
    exact s_retU (xs := [.int (e.1 : Int), .int (e.2 : Int)]) (eu_tup (ea_cons (ev_op (ev_var rfl) ev_c (rv_ixL (sq_of hp2) (atI_nat (j := 0) rfl))) (ea_cons (ev_op (ev_var rfl) ev_c (rv_ixL (sq_of hp2) (atI_nat (j := 1) rfl))) ea_nil)) (by show 2 ≤ 100000; decide)) fun t H3 ht e3 h3 => q H3 t ((e1.trans e2).trans e3) (fresh_back (e1.trans e2) ht) h3
def spWE : Sp := fun vs H Q _ => ∃ (a : Addr) (xs : List V) (es : List Pr), vs = [.ref a] ∧ H a = some (.lst xs) ∧ PrsV H xs es ∧ EdgesOk es ∧ ∀ H', Ex H H' → Q (.str (pageE es)) H'
theorem ev_edge {σ : L2.St} {H : Hp} {e : Pr} {i j : Nat} (h1 : e.1 < 40) (h2 : e.2 < 40) (g1 : σ[i]? = some (some (.int (e.1 : Int)))) (g2 : σ[j]? = some (some (.int (e.2 : Int)))) :
    Ev (fun σ H Q => tJs [tFmt (tVar i), tC (.str "-"), tFmt (tVar j)] Str.empty σ H fun out H1 => Q (.str out) H1) σ H (.str (edgeS e)) := fun H1 e1 Q q => by
  have s1 := (num_of h1).short
  have s2 := (num_of h2).short
  have small : ∀ n : Nat, n < 40 → ((n : Int)).natAbs.log2 < 1920 := fun n hn => by
    rw [Int.natAbs_natCast]
    exact Nat.lt_of_le_of_lt (Nat.log2_le_self n) (by omega)
  have e0 : Str.empty.length = 0 := rfl
  have e3 : ("-" : Str).length = 1 := by decide
  refine ⟨.int (e.1 : Int), g1, .inr ⟨(e.1 : Int), rfl, small _ h1, numS e.1, rfl, sz_of (by rw [strLen_append]; omega), "-", rfl, sz_of (by rw [strLen_append, strLen_append]; omega), .int (e.2 : Int), g2, .inr ⟨(e.2 : Int), rfl, small _ h2, numS e.2, rfl, sz_of (by rw [strLen_append, strLen_append, strLen_append]; omega), ?_⟩⟩⟩
  show Q (.str (Str.empty ++ numS e.1 ++ ("-" : Str) ++ numS e.2)) H1
  have : (Str.empty ++ numS e.1 ++ ("-" : Str) ++ numS e.2) = edgeS e := by
    rw [edgeS_eq]
    refine TL.ext_tl ?_
    simp only [TL.tl_append]
    rfl
  rw [this]
  exact q H1 (Ex.refl H1)
theorem ok_we {f : Addr} {fd : FuncData} {k : Nat} (F : Fun K "write_edges" "write_edges" sWE f fd) {tE : Tok} (mE : mg "EMPTY" = some (.str "-" tE)) : FnOk P w K mg base CX0 (k + 1) f fd ["edges"] spWE := by
  refine F.ok scWE (fun vs H Q E h => ?_) (fun cdv A outer s H vs Q E hr h => ?_)
  · obtain ⟨a, xs, es, rfl, _⟩ := h
    rfl
  · obtain ⟨a, xs, es, rfl, ha, hp, ok, q⟩ := h
    refine ⟨_, (pss_cons (ps_if (pt_not (pt_truth (pv 0) (fun _ => rfl))) (pss_one (ps_ret (pe_glob (v := .str "-") (by rfl) mE ⟨_, rfl⟩))) pss_nil)
      (pss_one (ps_ret (pe_join pe_str (pe_lc (own := [("p", 1), ("q", 2)]) (g := gTup K 2 (gCons (gName 1) (gCons (gName 2) gNil))) (tt := tYes) rfl scWE.nd (pi_list (pv 0)) (blkOk_by (N := ["edges", "p", "q"]) (sc := defScope sWE) (by decide +kernel)) (fun _ _ _ _ _ => pg_tup rfl (pgs_cons (pg_name (i := 1) scWE.nd rfl (Or.inl rfl)) (pgs_cons (pg_name (i := 2) scWE.nd rfl (Or.inl rfl)) pgs_nil))) (fun _ _ _ _ _ => pts_nil) (fun _ _ _ _ _ => (pe_joined (.cons (pe_fmt (pv 1)) (.cons pe_str (.cons (pe_fmt (pv 2)) .nil)))))))))), ?_⟩
    have lx := hp.length
    refine q_when (b := !(!xs.isEmpty)) (et_not (et_tru (ev_var rfl) (sq_of ha))) (fun h H1 e1 => ?_) fun h H1 e1 => ?_
    · have he : es = [] := by
        rw [Bool.not_not, List.isEmpty_iff] at h
        rw [h] at lx
        exact List.length_eq_zero_iff.mp lx.symm
      subst he
      exact s_ret (v := .str "-") ev_c fun H2 e2 => q H2 (e1.trans e2)
    · have he : es ≠ [] := fun z => by
        subst z
        have : xs = [] := List.length_eq_zero_iff.mp lx
        rw [this] at h
        cases h
      have pg : pageE es = page (es.map edgeS) := if_neg he
      rw [pg] at q
      refine s_ret (v := .str (page (es.map edgeS))) (ev_joinL len_sp ev_c ?_ ok.words) fun H2 e2 => q H2 (e1.trans e2)
      rw [List.map_map]
      exact el_lcPr (V.str ∘ edgeS) rfl (ev_var rfl) (e1 _ _ ha) (hp.ex e1) (by have := ok.few; omega) (fun _ _ => rfl) fun e H2 e2 he => by
        have := ok.inn e he
        exact ev_edge (by omega) this.2 rfl rfl
def spRE : Sp := fun vs H Q _ => ∃ (es : List Pr), vs = [.str (pageE es)] ∧ EdgesOk es ∧ ∀ H' p xs, Ex H H' → H p = none → H' p = some (.lst xs) → PrsV H' xs es → Q (.ref p) H'
theorem ok_re {f fP fE : Addr} {fd fdP fdE : FuncData} {k : Nat} (F : Fun K "read_edges" "read_edges" sRE f fd)
    (GP : FnOk P w K mg base CX0 k fP fdP ["word"] spPairIn) (FP : Fun K "pair_in" "pair_in" sPairIn fP fdP) (bP : Binds K fdP ["word"] []) (gP : mg "pair_in" = some (.ref fP))
    (GE : FnOk P w K mg base CX0 k fE fdE ["n", "thing"] spEdge) (FE : Fun K "is_edge" "is_edge" sEdge fE fdE) (bE : Binds K fdE ["n", "thing"] []) (gE : mg "is_edge" = some (.ref fE))
    (mLen : mg "len" = none) (mEnum : mg "enumerate" = none) {t40 t100 tE : Tok} (m40 : mg "MOST_POSITIONS" = some (.int 40 t40)) (m100 : mg "MOST_EDGES" = some (.int 100 t100)) (mE : mg "EMPTY" = some (.str "-" tE)) : FnOk P w K mg base CX0 (k + 1) f fd ["text"] spRE := by
  refine F.ok scRE (fun vs H Q E h => ?_) (fun cdv A outer s H vs Q E hr h => ?_)
  · obtain ⟨es, rfl, _⟩ := h
    rfl
  · obtain ⟨es, rfl, ok, q⟩ := h
    have hu := room65 hr
    refine ⟨_, (pss_cons (ps_set (i := 1) scRE.nd rfl (.inl rfl) (pe_split (pv 0) pe_str))
      (pss_cons (ps_if (pt_cmpR op_eq (pe_ix ix_list (pv 1) pe_int (fun _ _ => rfl)) (pe_glob (v := .str "-") (by rfl) mE ⟨_, rfl⟩) (nomark _)) (pss_cons (ps_if (pt_cmpR op_gt (pe_callB call_len_seq (by rfl) mLen boot_len (pa_cons (pv 1) pa_nil)) pe_int (nomark _)) pss_never pss_nil)
      (pss_one (ps_ret (pe_lst pa_nil)))) pss_nil)
      (pss_cons (ps_set (i := 2) scRE.nd rfl (.inl rfl) (pe_lst pa_nil))
      (pss_cons (ps_for PassesOwn.never rfl (pi_enum (by rfl) mEnum (pa_cons (pv 1) pa_nil)) (pg_tup rfl (pgs_cons (pg_name (i := 3) scRE.nd rfl (Or.inl rfl)) (pgs_cons (pg_name (i := 4) scRE.nd rfl (Or.inl rfl)) pgs_nil)))
      (pss_cons (ps_set (i := 5) scRE.nd rfl (.inl rfl) (pe_call GP hr (by rfl) gP FP.kp bP .nil pass0 (pa_cons (pv 4) pa_nil)))
      (pss_cons (ps_if (PW.pt (pw_or (pt_cmpR op_ge (pv 3) (pe_glob (v := .int 100) (by rfl) m100 ⟨_, rfl⟩) (nomark _)) (pw_or (pt_not (pt_val (pe_call GE hr (by rfl) gE FE.kp bE .nil pass0 (pa_cons (pe_glob (v := .int 40) (by rfl) m40 ⟨_, rfl⟩) (pa_cons (pv 5) pa_nil))))) (pw_or1 (pt_cmpR (op_inD hu) (pv 5) (pv 2) (by rfl)))))) pss_never pss_nil)
      (pss_one (ps_expr (pe_bm PySem.F.plainAttrs_list PySem.F.slot_list_append PySem.F.type_list_append mt_append (pv 2) (pa_cons (pv 5) pa_nil)))))))
      (pss_one (ps_ret (pv 2))))))), ?_⟩
    have back := ok.back
    have few := ok.few
    refine q_asgL (el_split (ev_var rfl) ev_c len_sp (Nat.le_trans ok.len (by decide)) back) fun W H1 hW e1 h1 => ?_
    by_cases he : es = []
    · subst he
      rw [if_pos rfl] at h1
      refine q_when (b := true) (et_test (ev_is (ev_op (ev_op (ev_var rfl) ev_c (rv_ixL (sq_of h1) (atI_nat (j := 0) rfl))) ev_c (rv_eq rfl)) (congrArg V.bl (decide_eq_true rfl)))) (fun _ H2 e2 => ?_) fun h => nomatch h
      refine q_when (b := false) (et_test (ev_is (ev_op (ev_len' (ev_var rfl) (e2 _ _ h1)) ev_c rv_I0) rfl)) (fun h => nomatch h) fun _ H3 e3 => ?_
      exact s_retL (xs := []) (el_lst ea_nil (Nat.zero_le _)) fun p H4 hp e4 h4 => q H4 p [] (((e1.trans e2).trans e3).trans e4) (fresh_back ((e1.trans e2).trans e3) hp) h4 .nil
    · rw [if_neg he] at h1
      obtain ⟨e0, r, rfl⟩ := List.exists_cons_of_ne_nil he
      have i0 := ok.inn e0 List.mem_cons_self
      refine q_when (b := false) (et_test (ev_is (ev_op (ev_op (ev_var rfl) ev_c (rv_ixL (sq_of h1) (atI_nat (j := 0) rfl))) ev_c (rv_eq rfl)) (congrArg V.bl (decide_eq_false fun z => edge_ne (by omega) i0.2 (V.str.inj z))))) (fun h => nomatch h) fun _ H2 e2 => ?_
      generalize e0 :: r = es at *
      have h2 := e2 _ _ h1
      refine q_asgL (xs := []) (el_lst ea_nil (Nat.zero_le _)) fun L H3 hL e3 h3 => ?_
      have hL0 : H L = none := fresh_back (e1.trans e2) hL
      have h3W := e3 _ _ h2
      refine q_forEV (xs := (es.map edgeS).map V.str) (ev_var rfl) (sq_of h3W)
        (fun i σ' H' => Ex H H' ∧ H' W = some (.lst ((es.map edgeS).map V.str)) ∧ (∃ xs, H' L = some (.lst xs) ∧ PrsV H' xs (es.take i)) ∧ ∃ y3 y4 y5, σ' = [some (.str (pageE es)), some (.ref W), some (.ref L), y3, y4, y5])
        (fun H4 e4 => ⟨((e1.trans e2).trans e3).trans e4, e4 _ _ h3W, ⟨[], e4 _ _ h3, .nil⟩, _, _, _, rfl⟩) (fun i σ' H' h => sq_of h.2.1) ?_ ?_
      · rintro i x σ' H4 H5 hx ⟨x4, hW4, ⟨xs, hL4, hp4⟩, y3, y4, y5, rfl⟩ e5
        rw [List.getElem?_map] at hx
        obtain ⟨z, hz0, rfl⟩ := Option.map_eq_some_iff.mp hx
        rw [List.getElem?_map] at hz0
        obtain ⟨e, hei, rfl⟩ := Option.map_eq_some_iff.mp hz0
        have hi : i < es.length := (List.getElem?_eq_some_iff.mp hei).1
        have ie := ok.inn e (List.mem_of_getElem? hei)
        have e40 : e.1 < 40 := by omega
        refine ⟨.str (edgeS e), rfl, e, rfl, e40, ie.2, fun H6 t e6 ht h6 => ?_⟩
        have x6 := (x4.trans e5).trans e6
        have nin : e ∉ es.take i := fun m => by
          have nd := ok.nd
          have e7 := List.drop_eq_getElem_cons hi
          rw [(List.getElem?_eq_some_iff.mp hei).2] at e7
          have e8 : es = es.take i ++ (e :: es.drop (i + 1)) := by rw [← e7, List.take_append_drop]
          rw [e8] at nd
          exact (List.nodup_append.mp nd).2.2 e m e List.mem_cons_self rfl
        have dt6 : Dt H6 (.ref t) (Os.prD e) := .tup h6 (.cons (.int _) (.cons (.int _) .nil))
        have hp6 := hp4.ex (e5.trans e6)
        have hL6 := e6 _ _ (e5 _ _ hL4)
        have few2 : (es.take i).length ≤ 100 := by rw [List.length_take]; omega
        refine q_when (b := false) (et_is (et_or (a := false) (b := false) (et_test (ev_is (ev_op (ev_var rfl) ev_c rv_I0) (congrArg V.bl (decide_eq_false (by omega))))) fun _ => et_is (et_or (a := false) (b := false) (et_is (et_not (et_B (ev_sp (z := .bl (edgeB 40 (Os.prD e))) (ea_cons ev_c (ea_cons (ev_var rfl) ea_nil)) fun H7 e7 Q q => ⟨40, .ref t, Os.prD e, rfl, dt6.same (same_ex e7), q⟩))) (by
            show (!((decide ((0 : Int) ≤ (e.1 : Int)) && decide ((e.1 : Int) < 40)) && ((decide ((0 : Int) ≤ (e.2 : Int)) && decide ((e.2 : Int) < 40)) && decide ((e.1 : Int) < (e.2 : Int))))) = false
            rw [decide_eq_true (show (0 : Int) ≤ (e.1 : Int) by omega), decide_eq_true (show (e.1 : Int) < 40 by omega), decide_eq_true (show (0 : Int) ≤ (e.2 : Int) by omega), decide_eq_true (show (e.2 : Int) < 40 by omega), decide_eq_true (show (e.1 : Int) < (e.2 : Int) by omega)]
            rfl)) fun _ => et_test (ev_op (ev_var rfl) (ev_var rfl) ?_)) rfl) rfl) (fun h => nomatch h) fun _ H7 e7 => ?_
        · intro H7 e7 Q' q'
          refine ⟨Os.prD e, (es.take i).map Os.prD, (dt6.same (same_ex e7)).dp, Dt.dp (.lst (e7 _ _ hL6) (hp6.ex e7).dts), ?_, ?_, ?_⟩
          · exact Sh.shaped (n := 1) (.tup fun x hx => by
              rcases List.mem_cons.mp hx with rfl | hx
              · exact .int 0 _
              · rw [List.mem_singleton.mp hx]
                exact .int 0 _) (by decide)
          · exact Sh.shaped (sh_prs' _) (by decide)
          · rw [List.any_eq_false.mpr (fun z hz => by
              obtain ⟨g, hg, rfl⟩ := List.mem_map.mp hz
              rw [eqv_prs]
              exact fun h => nin (of_decide_eq_true h ▸ hg))]
            exact q' H7 (Ex.refl H7)
        · refine s_app (v := .ref t) (e7 _ _ hL6) (ev_var rfl) (ev_var rfl) (by rw [hp4.length]; omega) fun H8 e8 => ?_
          have x8 := (x6.trans e7).trans e8
          have nWL : W ≠ L := ne_of_none h2 hL
          have hL4n : H4 L ≠ none := by rw [hL4]; exact fun h => nomatch h
          refine ⟨x8.mut hL0, by rw [upd_ne nWL]; exact e8 _ _ (e7 _ _ (e6 _ _ (e5 _ _ hW4))), ⟨xs ++ [.ref t], upd_same, ?_⟩, _, _, _, rfl⟩
          have tk : es.take (i + 1) = es.take i ++ [e] := by
            rw [List.take_add_one, hei]
            rfl
          rw [tk]
          have offL : ∀ {G : Hp} {v : V} {g : Pr} {ys : List V}, G L = some (.lst ys) → PrV G v g → PrV (upd G L (.lst (xs ++ [.ref t]))) v g := fun hG hv => by
            obtain ⟨u, rfl, hu⟩ := hv
            exact ⟨u, rfl, by rw [upd_ne (fun z => by rw [z, hG] at hu; cases hu)]; exact hu⟩
          have hL8 := e8 _ _ (e7 _ _ hL6)
          refine prs_snoc (prs_map (fun v g hv => offL hL8 hv) (hp6.ex (e7.trans e8))) (offL hL8 ⟨t, rfl, e8 _ _ (e7 _ _ h6)⟩)
      · rintro σ' H4 ⟨x4, hW4, ⟨xs, hL4, hp4⟩, y3, y4, y5, rfl⟩
        rw [List.length_map, List.length_map, List.take_length] at hp4
        exact s_ret (v := .ref L) (ev_var rfl) fun H5 e5 => q H5 L xs (x4.trans e5) hL0 (e5 _ _ hL4) (hp4.ex e5)
end
end K95
namespace K95
open PySem PySem.Spec PyProof.Rows L2 Os Evl
abbrev sWT : Stmt := topS 24
theorem scWT : FnScope ["turns", "turn", "entry"] ["turns"] (defScope sWT) := ⟨rfl, rfl, rfl, by decide +kernel, rfl, by decide +kernel, by decide +kernel⟩
abbrev sTI : Stmt := topS 25
theorem scTI : FnScope ["line", "turn", "word", "entry"] ["line"] (defScope sTI) := ⟨rfl, rfl, rfl, by decide +kernel, rfl, by decide +kernel, by decide +kernel⟩
abbrev sRT : Stmt := topS 26
theorem scRT : FnScope ["text", "turns", "at", "line", "turn"] ["text"] (defScope sRT) := ⟨rfl, rfl, rfl, by decide +kernel, rfl, by decide +kernel, by decide +kernel⟩
abbrev nats (l : List Nat) : List V := l.map fun x : Nat => V.int (x : Int)
abbrev natsD (l : List Nat) : List PyData := l.map fun x : Nat => .int (x : Int)
theorem dts_nats {G : Hp} : ∀ c : List Nat, Dts G (nats c) (natsD c)
  | [] => .nil
  | x :: c => .cons (.int _) (dts_nats c)
/-- distinct positions below 40 -/
structure TurnOk (t : List Nat) : Prop where
  few : t.length ≤ 40
  inn : ∀ x ∈ t, x < 40
  nd : t.Nodup
def lineS (t : List Nat) : Str := if t = [] then "-" else page (t.map numS)
theorem TurnOk.words {t : List Nat} (h : TurnOk t) : WOk (t.map numS) := by
  refine ⟨by rw [List.length_map]; have := h.few; omega, fun w hw => ?_⟩
  obtain ⟨x, hx, rfl⟩ := List.mem_map.mp hw
  exact Nat.le_trans (num_of (h.inn x hx)).short (by decide)
theorem page_len2 {ws : List Str} (h : ∀ w ∈ ws, w.length ≤ 2) (l : ws.length ≤ 40) : (page ws).length ≤ 120 := by
  have e : page ws = Str.join (" " : Str) ws := StrLaws.glued_eq_join _ _
  rw [e]
  have h1 := StrLaws.join_length_le (" " : Str) ws
  have h2 := sum_len h
  rw [len_sp] at h1
  omega
theorem TurnOk.len {t : List Nat} (h : TurnOk t) : (lineS t).length ≤ 120 := by
  unfold lineS
  split
  · decide
  · refine page_len2 (fun w hw => ?_) (by rw [List.length_map]; exact h.few)
    obtain ⟨x, hx, rfl⟩ := List.mem_map.mp hw
    exact (num_of (h.inn x hx)).short
theorem TurnOk.free {t : List Nat} (h : TurnOk t) : 10 ∉ (lineS t).cps.toList := by
  unfold lineS
  split
  · decide
  · intro m
    rcases page_codes m with m | ⟨z, hz, m⟩
    · have e2 : (" " : Str).cps.toList = [32] := by decide
      rw [e2] at m
      exact absurd m (by decide)
    · obtain ⟨x, hx, rfl⟩ := List.mem_map.mp hz
      exact num_free (h.inn x hx) (by decide) m
theorem TurnOk.ne {t : List Nat} (h : TurnOk t) (ne : t ≠ []) : lineS t ≠ ("-" : Str) := by
  unfold lineS
  rw [if_neg ne]
  intro e
  obtain ⟨x, r, rfl⟩ := List.exists_cons_of_ne_nil ne
  have m : (numS x).cps.toList.getD 0 0 ∈ (page ((x :: r).map numS)).cps.toList := by
    have hl := (num_of (h.inn x List.mem_cons_self)).long
    have hm : (numS x).cps.toList.getD 0 0 ∈ (numS x).cps.toList := by
      rw [List.getD_eq_getElem?_getD, List.getElem?_eq_getElem (by rw [Array.length_toList]; exact hl)]
      exact List.getElem_mem _
    have : (page ((x :: r).map numS)) = Str.join (" " : Str) ((x :: r).map numS) := StrLaws.glued_eq_join _ _
    rw [this]
    cases r with
    | nil => exact hm
    | cons y r =>
      show _ ∈ (numS x ++ (" " : Str) ++ Str.join (" " : Str) ((y :: r).map numS)).cps.toList
      rw [PyProof.Rows.cps_toList_append, PyProof.Rows.cps_toList_append]
      exact List.mem_append_left _ (List.mem_append_left _ hm)
  rw [e] at m
  have hl := (num_of (h.inn x List.mem_cons_self)).long
  have hm : (numS x).cps.toList.getD 0 0 ∈ (numS x).cps.toList := by
    rw [List.getD_eq_getElem?_getD, List.getElem?_eq_getElem (by rw [Array.length_toList]; exact hl)]
    exact List.getElem_mem _
  have := (num_of (h.inn x List.mem_cons_self)).digits _ hm
  have e2 : ("-" : Str).cps.toList = [45] := by decide
  rw [e2, List.mem_singleton] at m
  omega
structure TurnsOk (ts : List (List Nat)) : Prop where
  ne : ts ≠ []
  few : ts.length ≤ 40
  ok : ∀ t ∈ ts, TurnOk t
def pageT (ts : List (List Nat)) : Str := Txt.join ("\n" : Str) (ts.map lineS)
theorem TurnsOk.words {ts : List (List Nat)} (h : TurnsOk ts) : WOk (ts.map lineS) := by
  refine ⟨by rw [List.length_map]; have := h.few; omega, fun w hw => ?_⟩
  obtain ⟨t, ht, rfl⟩ := List.mem_map.mp hw
  exact Nat.le_trans (h.ok t ht).len (by decide)
theorem TurnsOk.back {ts : List (List Nat)} (h : TurnsOk ts) : Txt.split (pageT ts) ("\n" : Str) = ts.map lineS :=
  split_lines (fun e => h.ne (List.map_eq_nil_iff.mp e)) fun w hw => by
    obtain ⟨t, ht, rfl⟩ := List.mem_map.mp hw
    exact (h.ok t ht).free
/-- rows of numbers that stand in a heap -/
inductive RwV (G : Hp) : List V → List (List Nat) → Prop
  | nil : RwV G [] []
  | cons {q : Addr} {t : List Nat} {rs : List V} {ts : List (List Nat)} : G q = some (.lst (nats t)) → RwV G rs ts → RwV G (.ref q :: rs) (t :: ts)
theorem RwV.len {G : Hp} : ∀ {rs : List V} {ts : List (List Nat)}, RwV G rs ts → rs.length = ts.length
  | _, _, .nil => rfl
  | _, _, .cons _ r => congrArg (· + 1) (RwV.len r)
theorem RwV.map {G G' : Hp} : ∀ {rs : List V} {ts : List (List Nat)}, (∀ q t, V.ref q ∈ rs → G q = some (.lst (nats t)) → G' q = some (.lst (nats t))) → RwV G rs ts → RwV G' rs ts
  | _, _, _, .nil => .nil
  | _, _, k, .cons h r => .cons (k _ _ List.mem_cons_self h) (RwV.map (fun q t m => k q t (List.mem_cons_of_mem _ m)) r)
theorem RwV.ex {G G' : Hp} {rs : List V} {ts : List (List Nat)} (h : RwV G rs ts) (e : Ex G G') : RwV G' rs ts := h.map fun _ _ _ => e _ _
theorem RwV.get {G : Hp} : ∀ {rs : List V} {ts : List (List Nat)} {i : Nat} {r : V}, RwV G rs ts → rs[i]? = some r → ∃ q t, r = .ref q ∧ ts[i]? = some t ∧ G q = some (.lst (nats t))
  | _, _, _, _, .nil, h => by simp at h
  | _, _, 0, _, .cons h1 _, h => by
    simp at h
    subst h
    exact ⟨_, _, rfl, rfl, h1⟩
  | _, _, i + 1, _, .cons _ r, h => by
    have h' := RwV.get (i := i) r (by simpa using h)
    simpa using h'
theorem RwV.snoc {G : Hp} {q : Addr} {t : List Nat} (h : G q = some (.lst (nats t))) : ∀ {rs : List V} {ts : List (List Nat)}, RwV G rs ts → RwV G (rs ++ [.ref q]) (ts ++ [t])
  | _, _, .nil => .cons h .nil
  | _, _, .cons h1 r => .cons h1 (RwV.snoc h r)
theorem RwV.dts {G : Hp} : ∀ {rs : List V} {ts : List (List Nat)}, RwV G rs ts → Dts G rs (ts.map fun t => .list (natsD t))
  | _, _, .nil => .nil
  | _, _, .cons h r => .cons (.lst h (dts_nats _)) (RwV.dts r)
theorem RwV.refs {G : Hp} : ∀ {rs : List V} {ts : List (List Nat)}, RwV G rs ts → ∀ r ∈ rs, ∃ q t, r = .ref q ∧ t ∈ ts ∧ G q = some (.lst (nats t))
  | _, _, .nil, _, h => by cases h
  | _, _, .cons h1 r, x, h => by
    rcases List.mem_cons.mp h with rfl | h
    · exact ⟨_, _, rfl, List.mem_cons_self, h1⟩
    · obtain ⟨q, t, h2, h3, h4⟩ := RwV.refs r x h
      exact ⟨q, t, h2, List.mem_cons_of_mem _ h3, h4⟩
section
variable {P : Program} {w : World} {K : PySem.W.Frag} {mg : Str → Option Value} {base : Heap}
def spWT : Sp := fun vs H Q _ => ∃ (a : Addr) (rs : List V) (ts : List (List Nat)), vs = [.ref a] ∧ H a = some (.lst rs) ∧ RwV H rs ts ∧ TurnsOk ts ∧ ∀ H', Ex H H' → Q (.str (pageT ts)) H'
theorem ok_wt {f : Addr} {fd : FuncData} {k : Nat} (F : Fun K "write_turns" "write_turns" sWT f fd) (mStr : mg "str" = none) {tE : Tok} (mE : mg "EMPTY" = some (.str "-" tE)) : FnOk P w K mg base CX0 (k + 1) f fd ["turns"] spWT := by
  refine F.ok scWT (fun vs H Q E h => ?_) (fun cdv A outer s H vs Q E hr h => ?_)
  · obtain ⟨a, rs, ts, rfl, _⟩ := h
    rfl
  · obtain ⟨a, rs, ts, rfl, ha, hr', ok, q⟩ := h
    refine ⟨_, (pss_one (ps_ret (pe_join pe_str (pe_lc (own := [("turn", 1)]) (g := gName 1) (tt := tYes) (te := tIf (tTru K (tVar 1)) (tM1 (rJoin K) (tC (.str " ")) (tLc (iList K (tVar 1)) (gName 2) tYes (tCB rStrI (tCons (tVar 2) tNil)) [2])) (tC (.str "-"))) rfl scWT.nd (pi_list (pv 0)) (blkOk_by (N := ["turns", "turn", "entry"]) (sc := defScope sWT) (by decide +kernel)) (fun _ _ _ _ _ => pg_name (i := 1) scWT.nd rfl (Or.inl rfl)) (fun _ _ _ _ _ => pts_nil) (fun _ _ _ _ _ => (pe_ifExp (pt_truth (pv 1) (fun _ => rfl)) (pe_join pe_str (pe_lc (own := [("entry", 2)]) (g := gName 2) (tt := tYes) (te := tCB rStrI (tCons (tVar 2) tNil)) rfl scWT.nd (pi_list (pv 1)) (blkOk_by (by rfl)) (fun _ _ _ _ _ => pg_name (i := 2) scWT.nd rfl (Or.inl rfl)) (fun _ _ _ _ _ => pts_nil) (fun _ _ _ _ _ => (pe_callTy call_str_int (by rfl) mStr boot_str (pa_cons (pv 2) pa_nil))))) (pe_glob (v := .str "-") (by rfl) mE ⟨_, rfl⟩))))))), ?_⟩
    have ln := hr'.len
    have few := ok.few
    refine s_ret (v := .str (pageT ts)) (ev_joinL len_nl ev_c ?_ ok.words) q
    rw [List.map_map, ← given_map ts (V.str ∘ lineS) (fun i => .str (lineS (ts.getD i []))) (fun i x e => by
      rw [List.getD_eq_getElem?_getD, e]
      rfl), ← ln]
    refine el_lcL (f := fun _ => true) (v := _) (ev_var rfl) (sq_of ha) (by omega) (fun _ => rfl) (fun i x H2 _ _ => fun H3 e3 Q q => q H3 (Ex.refl H3)) (fun i x H2 e2 hx _ => ?_)
    obtain ⟨p, t, rfl, ht, hp⟩ := hr'.get hx
    rw [List.getD_eq_getElem?_getD, ht]
    show Ev _ _ _ (.str (lineS t))
    have tok := ok.ok t (List.mem_of_getElem? ht)
    refine ev_if (b := !(nats t).isEmpty) (et_tru (ev_var rfl) (sq_of (e2 _ _ hp))) (fun h => ?_) fun h => ?_
    · have ne : t ≠ [] := fun z => by
        subst z
        cases h
      have pg : lineS t = page (t.map numS) := if_neg ne
      rw [pg]
      refine ev_joinL len_sp ev_c ?_ tok.words
      rw [List.map_map]
      exact el_lcMapL (xs := t) (fV := fun x : Nat => V.int (x : Int)) (V.str ∘ numS) (ev_var rfl) (sq_of (e2 _ _ hp)) (by have := tok.few; omega) (fun _ => rfl) fun x H3 e3 hx => ev_strI (ev_var rfl) (by have := tok.inn x hx; omega)
    · have em : t = [] := by
        rw [Bool.not_eq_false', List.isEmpty_iff, List.map_eq_nil_iff] at h
        exact h
      subst em
      exact ev_c
def spTI : Sp := fun vs H Q _ => ∃ (t : List Nat), vs = [.str (lineS t)] ∧ TurnOk t ∧ ∀ H' p, Ex H H' → H p = none → H' p = some (.lst (nats t)) → Q (.ref p) H'
theorem nats_eq (t : List Nat) : nats t = (t.map fun x : Nat => (x : Int)).map V.int := by
  rw [List.map_map]
  rfl
theorem ok_ti {f fN fP : Addr} {fd fdN fdP : FuncData} {k : Nat} (F : Fun K "_turn_in" "_turn_in" sTI f fd)
    (GN : FnOk P w K mg base CX0 k fN fdN ["word"] spNum) (FN : Fun K "number_in" "number_in" sNum fN fdN) (bN : Binds K fdN ["word"] []) (gN : mg "number_in" = some (.ref fN))
    (GP : FnOk P w K mg base CX0 k fP fdP ["n", "thing"] spPos) (FP : Fun K "is_position" "is_position" sPos fP fdP) (bP : Binds K fdP ["n", "thing"] []) (gP : mg "is_position" = some (.ref fP))
    (mAll : mg "all" = none) (mLen : mg "len" = none) (mSet : mg "set" = none) {t40 tE : Tok} (m40 : mg "MOST_POSITIONS" = some (.int 40 t40)) (mE : mg "EMPTY" = some (.str "-" tE)) : FnOk P w K mg base CX0 (k + 1) f fd ["line"] spTI := by
  refine F.ok scTI (fun vs H Q E h => ?_) (fun cdv A outer s H vs Q E hr h => ?_)
  · obtain ⟨t, rfl, _⟩ := h
    rfl
  · obtain ⟨t, rfl, ok, q⟩ := h
    refine ⟨_, (pss_cons (ps_if (pt_cmpR op_eq (pv 0) (pe_glob (v := .str "-") (by rfl) mE ⟨_, rfl⟩) (nomark _)) (pss_one (ps_ret (pe_lst pa_nil))) pss_nil)
      (pss_cons (ps_setLc (i := 1) (own := [("word", 2)]) (g := gName 2) (tt := tYes) rfl scTI.nd rfl rfl (sw_true rfl rfl rfl (by decide +kernel)) (pi_list (pe_split (pv 0) pe_str)) (blkOk_by (N := ["line", "turn", "word", "entry"]) (sc := defScope sTI) (by decide +kernel)) (fun _ _ _ _ _ => pg_name (i := 2) scTI.nd rfl (Or.inl rfl)) (fun _ _ _ _ _ => pts_nil) (fun _ _ _ _ _ => (pe_call GN hr (by rfl) gN FN.kp bN .nil pass0 (pa_cons (pv 2) pa_nil))))
      (pss_cons (ps_if (PW.pt (pw_or (pt_not (pt_val (pe_callB (cr_all rfl) (by rfl) mAll boot_all (pa_cons (pe_lc (own := [("entry", 3)]) (g := gName 3) (tt := tYes) rfl scTI.nd (pi_list (pv 1)) (blkOk_by (N := ["line", "turn", "word", "entry"]) (sc := defScope sTI) (by decide +kernel)) (fun _ _ _ _ _ => pg_name (i := 3) scTI.nd rfl (Or.inl rfl)) (fun _ _ _ _ _ => pts_nil) (fun _ _ _ _ _ => (pe_call GP hr (by rfl) gP FP.kp bP .nil pass0 (pa_cons (pe_glob (v := .int 40) (by rfl) m40 ⟨_, rfl⟩) (pa_cons (pv 3) pa_nil))))) pa_nil)))) (pw_or1 (pt_cmpR op_lt (RZ.pe_lenSetI (by rfl) mLen (by rfl) mSet (pv 1)) (pe_callB call_len_seq (by rfl) mLen boot_len (pa_cons (pv 1) pa_nil)) (nomark _))))) pss_never pss_nil)
      (pss_one (ps_ret (pv 1)))))), ?_⟩
    by_cases em : t = []
    · subst em
      refine q_when (b := true) (et_test (ev_is (ev_op (ev_var rfl) ev_c (rv_eq rfl)) (congrArg V.bl (decide_eq_true rfl)))) (fun _ H1 e1 => ?_) fun h => nomatch h
      exact s_retL (xs := []) (el_lst ea_nil (Nat.zero_le _)) fun p H2 hp e2 h2 => q H2 p (e1.trans e2) (fresh_back e1 hp) h2
    · refine q_when (b := false) (et_test (ev_is (ev_op (ev_var rfl) ev_c (rv_eq rfl)) (congrArg V.bl (decide_eq_false fun z => ok.ne em (V.str.inj z))))) (fun h => nomatch h) fun _ H1 e1 => ?_
      have pg : lineS t = page (t.map numS) := if_neg em
      have back : Txt.split (lineS t) (" " : Str) = t.map numS := by
        rw [pg]
        refine split_page (fun e => em (List.map_eq_nil_iff.mp e)) fun w hw => ?_
        obtain ⟨x, hx, rfl⟩ := List.mem_map.mp hw
        exact num_free (ok.inn x hx) (by decide)
      refine q_asgL (xs := nats t) (el_lcMapN (xs := t) (fV := fun x => V.str (numS x)) (fun x : Nat => V.int (x : Int)) (by
        have := el_split (ws := t.map numS) (te := tVar 0) (ta := tC (.str " ")) (σ := start ["line", "turn", "word", "entry"] [.str (lineS t)]) (H := H1) (ev_var rfl) ev_c len_sp (Nat.le_trans ok.len (by decide)) back
        rw [List.map_map] at this
        exact this) (by have := ok.few; omega) (fun _ => rfl) (fun n H2 e2 hn => ev_sp (ea_cons (ev_var rfl) ea_nil) fun H3 e3 Q q => ⟨n, rfl, ok.inn n hn, q⟩)) fun p H2 hp e2 h2 => ?_
      have len : (nats t).length = t.length := List.length_map ..
      refine q_when (b := !((t.map fun _ => true).all id) || false) (et_or (et_not (et_B (ev_all ?_))) fun _ => et_test (ev_is (ev_op (x := .int (((t.map fun x : Nat => (x : Int)).length : Nat) : Int)) ?_ (ev_len' (ev_var rfl) h2) rv_I0) ?_)) (fun h => ?_) fun _ H3 e3 => ?_
      · rw [List.map_map]
        exact el_lcMapL (xs := t) (fV := fun x : Nat => V.int (x : Int)) (V.bl ∘ fun _ => true) (ev_var rfl) (sq_of h2) (by have := ok.few; omega) (fun _ => rfl) fun x H4 e4 hx => ev_is (ev_sp (z := .bl (posB 40 (.int (x : Int)))) (ea_cons ev_c (ea_cons (ev_var rfl) ea_nil)) fun H5 e5 Q q => ⟨40, .int (x : Int), .int (x : Int), rfl, .int _, q⟩) (by
          have := ok.inn x hx
          show V.bl (decide ((0 : Int) ≤ (x : Int)) && decide ((x : Int) < 40)) = _
          rw [decide_eq_true (by omega), decide_eq_true (by omega)]
          rfl)
      · exact fun H4 e4 Q q => ⟨.ref p, rfl, p, t.map fun x : Nat => (x : Int), rfl, by rw [← nats_eq]; exact sq_of (e4 _ _ h2), by
          unfold List.Nodup
          rw [List.pairwise_map]
          exact List.Pairwise.imp (fun h e => h (by omega)) ok.nd, by rw [List.length_map]; have := ok.few; omega, q H4 (Ex.refl H4)⟩
      · exact congrArg V.bl (decide_eq_false (by rw [List.length_map, List.length_map]; omega))
      · exact absurd h (by rw [List.all_eq_true.mpr (fun b hb => by obtain ⟨_, _, rfl⟩ := List.mem_map.mp hb; rfl)]; decide)
      · exact s_ret (v := .ref p) (ev_var rfl) fun H4 e4 => q H4 p (((e1.trans e2).trans e3).trans e4) (fresh_back e1 hp) (e4 _ _ (e3 _ _ h2))
def spRT : Sp := fun vs H Q _ => ∃ (ts : List (List Nat)), vs = [.str (pageT ts)] ∧ TurnsOk ts ∧ ∀ H' p rs, Ex H H' → H p = none → H' p = some (.lst rs) → RwV H' rs ts → rs.Nodup → (∀ q, V.ref q ∈ rs → H q = none ∧ q ≠ p) → Q (.ref p) H'
theorem ok_rt {f fT : Addr} {fd fdT : FuncData} {k : Nat} (F : Fun K "read_turns" "read_turns" sRT f fd)
    (GT : FnOk P w K mg base CX0 k fT fdT ["line"] spTI) (FT : Fun K "_turn_in" "_turn_in" sTI fT fdT) (bT : Binds K fdT ["line"] []) (gT : mg "_turn_in" = some (.ref fT))
    (mEnum : mg "enumerate" = none) {t40 : Tok} (m40 : mg "MOST_POSITIONS" = some (.int 40 t40)) : FnOk P w K mg base CX0 (k + 1) f fd ["text"] spRT := by
  refine F.ok scRT (fun vs H Q E h => ?_) (fun cdv A outer s H vs Q E hr h => ?_)
  · obtain ⟨ts, rfl, _⟩ := h
    rfl
  · obtain ⟨ts, rfl, ok, q⟩ := h
    refine ⟨_, (pss_cons (ps_set (i := 1) scRT.nd rfl (.inl rfl) (pe_lst pa_nil))
      (pss_cons (ps_for PassesOwn.never rfl (pi_enum (by rfl) mEnum (pa_cons (pe_split (pv 0) pe_str) pa_nil)) (pg_tup rfl (pgs_cons (pg_name (i := 2) scRT.nd rfl (Or.inl rfl)) (pgs_cons (pg_name (i := 3) scRT.nd rfl (Or.inl rfl)) pgs_nil)))
      (pss_cons (ps_set (i := 4) scRT.nd rfl (.inl rfl) (pe_call GT hr (by rfl) gT FT.kp bT .nil pass0 (pa_cons (pv 3) pa_nil)))
      (pss_cons (ps_if (PW.pt (pw_or (pt_cmpR op_ge (pv 2) (pe_glob (v := .int 40) (by rfl) m40 ⟨_, rfl⟩) (nomark _)) (pw_or1 (pt_cmpR op_isN (pv 4) pe_non (nomark _))))) pss_never pss_nil)
      (pss_one (ps_expr (pe_bm PySem.F.plainAttrs_list PySem.F.slot_list_append PySem.F.type_list_append mt_append (pv 1) (pa_cons (pv 4) pa_nil)))))))
      (pss_one (ps_ret (pv 1))))), ?_⟩
    have few := ok.few
    refine q_asgL (xs := []) (el_lst ea_nil (Nat.zero_le _)) fun L H1 hL e1 h1 => ?_
    refine q_forE (xs := (ts.map lineS).map V.str) (el_split (ev_var rfl) ev_c len_nl (Nat.le_trans (join_len_le len_nl ok.words) (by decide)) ok.back)
      (fun p i σ' H' => Ex H H' ∧ H' p = some (.lst ((ts.map lineS).map V.str)) ∧ p ≠ L ∧ (∃ rs, H' L = some (.lst rs) ∧ RwV H' rs (ts.take i) ∧ rs.Nodup ∧ ∀ q, V.ref q ∈ rs → H q = none ∧ q ≠ L) ∧ ∃ y2 y3 y4, σ' = [some (.str (pageT ts)), some (.ref L), y2, y3, y4])
      (fun p H2 hp e2 h2 => ⟨e1.trans e2, h2, (ne_of_none h1 hp).symm, ⟨[], e2 _ _ h1, .nil, .nil, fun q h => nomatch h⟩, _, _, _, rfl⟩) (fun p i σ' H' h => sq_of h.2.1) ?_ ?_
    · rintro p i x σ' H3 H4 hx ⟨x3, hp3, npL, ⟨rs, hL3, rw3, nd3, fr3⟩, y2, y3, y4, rfl⟩ e4
      rw [List.getElem?_map] at hx
      obtain ⟨z, hz0, rfl⟩ := Option.map_eq_some_iff.mp hx
      rw [List.getElem?_map] at hz0
      obtain ⟨t, hti, rfl⟩ := Option.map_eq_some_iff.mp hz0
      have hi : i < ts.length := (List.getElem?_eq_some_iff.mp hti).1
      have tok := ok.ok t (List.mem_of_getElem? hti)
      refine ⟨.str (lineS t), rfl, t, rfl, tok, fun H5 u e5 hu h5 => ?_⟩
      have x4 := x3.trans e4
      have x5 := x4.trans e5
      refine q_when (b := false) (et_is (et_or (a := false) (b := false) (et_test (ev_is (ev_op (ev_var rfl) ev_c rv_I0) (congrArg V.bl (decide_eq_false (by omega))))) fun _ => et_test (ev_op (ev_var rfl) ev_c rv_isN')) rfl) (fun h => nomatch h) fun _ H6 e6 => ?_
      have hL4 := e4 _ _ hL3
      have hL6 := e6 _ _ (e5 _ _ hL4)
      have rl := rw3.len
      rw [List.length_take] at rl
      refine s_app (v := .ref u) hL6 (ev_var rfl) (ev_var rfl) (by omega) fun H7 e7 => ?_
      have x7 := (x5.trans e6).trans e7
      have nuL : u ≠ L := (ne_of_none hL4 hu).symm
      have tk : ts.take (i + 1) = ts.take i ++ [t] := by
        rw [List.take_add_one, hti]
        rfl
      refine ⟨x7.mut hL, ?_, npL, ⟨rs ++ [.ref u], upd_same, ?_, ?_, ?_⟩, _, _, _, rfl⟩
      · rw [upd_ne npL]
        exact e7 _ _ (e6 _ _ (e5 _ _ (e4 _ _ hp3)))
      · rw [tk]
        refine RwV.snoc ?_ (rw3.map fun q t' m h => ?_)
        · rw [upd_ne nuL]
          exact e7 _ _ (e6 _ _ h5)
        · rw [upd_ne (fr3 q m).2]
          exact e7 _ _ (e6 _ _ (e5 _ _ (e4 _ _ h)))
      · refine List.nodup_append.mpr ⟨nd3, List.nodup_cons.mpr ⟨by simp, .nil⟩, fun r1 hr1 r2 hr2 e => ?_⟩
        rw [List.mem_singleton.mp hr2] at e
        obtain ⟨q', t', e1', _, h'⟩ := rw3.refs r1 hr1
        rw [e1'] at e
        have eq := V.ref.inj e
        rw [eq] at h'
        have := e4 _ _ h'
        rw [hu] at this
        cases this
      · intro q' hq'
        rcases List.mem_append.mp hq' with h | h
        · exact fr3 q' h
        · have := V.ref.inj (List.mem_singleton.mp h)
          rw [this]
          exact ⟨fresh_back x4 hu, nuL⟩
    · rintro p σ' H3 ⟨x3, hp3, npL, ⟨rs, hL3, rw3, nd3, fr3⟩, y2, y3, y4, rfl⟩
      rw [List.length_map, List.length_map, List.take_length] at rw3
      exact s_ret (v := .ref L) (ev_var rfl) fun H4 e4 => q H4 L rs (x3.trans e4) hL (e4 _ _ hL3) (rw3.ex e4) nd3 fr3
end
end K95
namespace K95
open PySem PySem.Spec PyProof.Rows L2 Os Evl
abbrev sAllP : Stmt := topS 32
theorem scAllP : FnScope ["span", "found", "p", "q"] ["span"] (defScope sAllP) := ⟨rfl, rfl, rfl, by decide +kernel, rfl, by decide +kernel, by decide +kernel⟩
abbrev sPairs : Stmt := topS 33
theorem scPairs : FnScope ["source", "most", "span", "left", "count", "k"] ["source", "most"] (defScope sPairs) := ⟨rfl, rfl, rfl, by decide +kernel, rfl, by decide +kernel, by decide +kernel⟩
section
variable {P : Program} {w : World} {K : PySem.W.Frag} {mg : Str → Option Value} {base : Heap}
def spAllP : Sp := fun vs H Q _ => ∃ (n : Nat), vs = [.int (n : Int)] ∧ n ≤ 40 ∧ ∀ H' p (xs : List V) (es : List Pr), Ex H H' → H p = none → H' p = some (.lst xs) → PrsV H' xs es → (∀ e ∈ es, e.1 < e.2 ∧ e.2 < n) → es.Nodup → es.length ≤ 1600 → Q (.ref p) H'
theorem ok_allP {f : Addr} {fd : FuncData} {k : Nat} (F : Fun K "_law_all_pairs" "_law_all_pairs" sAllP f fd) (mRange : mg "range" = none) : FnOk P w K mg base CX0 (k + 1) f fd ["span"] spAllP := by
  refine F.ok scAllP (fun vs H Q E h => ?_) (fun cdv A outer s H vs Q E hr h => ?_)
  · obtain ⟨n, rfl, _⟩ := h
    rfl
  · obtain ⟨n, rfl, n40, q⟩ := h
    refine ⟨_, (pss_cons (ps_set (i := 1) scAllP.nd rfl (.inl rfl) (pe_lst pa_nil))
      (pss_cons (ps_for PassesOwn.never rfl (pi_range1 (by rfl) mRange (pa_cons (pv 0) pa_nil)) (pg_name (i := 2) scAllP.nd rfl (Or.inr rfl))
      (pss_one (ps_expr (pe_bm PySem.F.plainAttrs_list PySem.F.slot_list_extend PySem.F.type_list_extend mt_extend (pv 1) (pa_cons (pe_lc (own := [("q", 3)]) (g := gName 3) (tt := tYes) (te := tTup (tCons (tVar 2) (tCons (tVar 3) tNil))) rfl scAllP.nd (pi_range2 (by rfl) mRange (pa_cons (pe_op op_add (pv 2) pe_int) (pa_cons (pv 0) pa_nil))) (blkOk_by (N := ["span", "found", "p", "q"]) (sc := defScope sAllP) (by decide +kernel)) (fun _ _ _ _ _ => pg_name (i := 3) scAllP.nd rfl (Or.inl rfl)) (fun _ _ _ _ _ => pts_nil) (fun _ _ _ _ _ => (pe_tup (pa_cons (pv 2) (pa_cons (pv 3) pa_nil))))) pa_nil)))))
      (pss_one (ps_ret (pv 1))))), ?_⟩
    refine q_asgL (xs := []) (el_lst ea_nil (Nat.zero_le _)) fun Fa H1 hFa e1 h1 => ?_
    refine q_forR1 (n := (n : Int)) (ea_cons (ev_var rfl) ea_nil) ⟨by omega, by omega⟩
      (fun i σ' H' => Ex H H' ∧ i ≤ n ∧ ∃ (xs : List V) (es : List Pr) (y2 y3 : Option V), σ' = [some (.int (n : Int)), some (.ref Fa), y2, y3] ∧ H' Fa = some (.lst xs) ∧ PrsV H' xs es ∧ (∀ e ∈ es, e.1 < e.2 ∧ e.2 < n ∧ e.1 < i) ∧ es.Nodup ∧ es.length ≤ 40 * i)
      (fun H2 e2 => ⟨e1.trans e2, Nat.zero_le _, [], [], _, _, rfl, e2 _ _ h1, .nil, (fun e he => nomatch he), .nil, Nat.zero_le _⟩) ?_ ?_
    · rintro i σ' H2 hi ⟨e2, il, xs, es, y2, y3, rfl, hF, prs, inn, ndE, len⟩
      refine ⟨.ref Fa, rfl, .inl ⟨rfl, _, sq_of hF⟩, .int (i : Int), rfl, (i : Int), 1, rfl, rfl, .int (n : Int), rfl, (i : Int) + 1, (n : Int), rfl, ⟨by omega, by omega, by omega, by omega⟩, fun D hD => ?_⟩
      refine lc_range (lo := (i : Int) + 1) (n := ((n : Int) - ((i : Int) + 1)).toNat) (fun l Hh => Ex H2 Hh ∧ ∃ zs fs, Hh D = some (.lst zs) ∧ PrsV Hh zs fs ∧ (∀ e ∈ fs, e.1 = i ∧ e.1 < e.2 ∧ e.2 < n ∧ e.2 < i + 1 + l) ∧ fs.Nodup ∧ fs.length = l) ⟨Ex.new hD, [], [], upd_same, .nil, (fun e he => nomatch he), .nil, rfl⟩ ?_ ?_
      · rintro l Hh hl ⟨x1, zs, fs, hzs, pz, inz, ndz, fl⟩
        have e0 : (i : Int) + 1 + (l : Int) = ((i + 1 + l : Nat) : Int) := by omega
        rw [e0]
        refine ⟨rfl, ?_⟩
        dsimp only [tYes]
        rw [if_pos rfl]
        refine ⟨.int (i : Int), rfl, .int ((i + 1 + l : Nat) : Int), rfl, show 2 ≤ sizeLine by decide, fun t ht => ?_⟩
        have et := Ex.new (o := .tup [.int (i : Int), .int ((i + 1 + l : Nat) : Int)]) ht
        have zl := pz.length
        refine ⟨zs, et _ _ hzs, sz_lt (by omega), (x1.trans et).mut hD, zs ++ [.ref t], fs ++ [(i, i + 1 + l)], upd_same, ?_, fun e he => ?_, ?_, by rw [List.length_append, fl]; rfl⟩
        · have p1 : PrsV (upd Hh t (.tup [.int (i : Int), .int ((i + 1 + l : Nat) : Int)])) (zs ++ [.ref t]) (fs ++ [(i, i + 1 + l)]) := prs_snoc (pz.ex et) ⟨t, rfl, upd_same⟩
          exact PrsV.put0 p1 (et _ _ hzs)
        · rcases List.mem_append.mp he with he | he
          · have := inz e he
            omega
          · rw [List.mem_singleton.mp he]
            exact ⟨rfl, by show i < i + 1 + l; omega, by show i + 1 + l < n; omega, by show i + 1 + l < i + 1 + (l + 1); omega⟩
        · refine List.nodup_append.mpr ⟨ndz, List.nodup_cons.mpr ⟨by simp, .nil⟩, fun x1 h1 x2 h2 e => ?_⟩
          rw [List.mem_singleton.mp h2] at e
          have := inz x1 h1
          rw [e] at this
          exact absurd this.2.2.2 (by show ¬ (i + 1 + l < i + 1 + l); omega)
      · rintro Hh ⟨x1, zs, fs, hzs, pz, inz, ndz, fl⟩
        have zl := pz.length
        have xl := prs.length
        refine ⟨Fa, D, xs, zs, rfl, rfl, x1 _ _ hF, hzs, sz_of (by omega), ?_⟩
        refine ⟨(e2.trans x1).mut hFa, by omega, xs ++ zs, es ++ fs, _, _, rfl, upd_same, PrsV.put0 ((prs.ex x1).append pz) (x1 _ _ hF), fun e he => ?_, ?_, by rw [List.length_append, fl]; omega⟩
        · rcases List.mem_append.mp he with he | he
          · have := inn e he
            omega
          · have := inz e he
            omega
        · refine List.nodup_append.mpr ⟨ndE, ndz, fun x1 h1 x2 h2 e => ?_⟩
          have a1 := inn x1 h1
          have a2 := inz x2 h2
          rw [e] at a1
          omega
    · rintro σ' H2 ⟨e2, _, xs, es, y2, y3, rfl, hF, prs, inn, ndE, len⟩
      exact s_ret (v := .ref Fa) (ev_var rfl) fun H3 e3 => q H3 Fa xs es (e2.trans e3) hFa (e3 _ _ hF) (prs.ex e3) (fun e he => ⟨(inn e he).1, (inn e he).2.1⟩) ndE (by rw [Int.toNat_natCast] at len; omega)
def spPairs : Sp := fun vs H Q _ => ∃ (s : Addr) (B : Nat), vs = [.ref s, .int 100] ∧ Src H s B ∧ B ≤ 700000 ∧
  ∀ H' p (xs : List V) (es : List Pr), Drew s (B + 110) H H' → H p = none → H' p = some (.lst xs) → PrsV (hide s H') xs es → EdgesOk es → Q (.ref p) H'
theorem ok_pairs {f fK fA : Addr} {fd fdK fdA : FuncData} {k : Nat} (F : Fun K "_law_pairs" "_law_pairs" sPairs f fd)
    (GK : FnOk P w K mg base CX0 k fK fdK ["source", "count"] spPick) (FK : Fun K "_law_pick" "_law_pick" sPick fK fdK) (bK : Binds K fdK ["source", "count"] []) (gK : mg "_law_pick" = some (.ref fK))
    (GA : FnOk P w K mg base CX0 k fA fdA ["span"] spAllP) (FA : Fun K "_law_all_pairs" "_law_all_pairs" sAllP fA fdA) (bA : Binds K fdA ["span"] []) (gA : mg "_law_all_pairs" = some (.ref fA))
    (mMin : mg "min" = none) (mLen : mg "len" = none) (mRange : mg "range" = none) : FnOk P w K mg base CX0 (k + 1) f fd ["source", "most"] spPairs := by
  refine F.ok scPairs (fun vs H Q E h => ?_) (fun cdv A outer s0 H vs Q E hr h => ?_)
  · obtain ⟨s, B, rfl, _⟩ := h
    rfl
  · obtain ⟨s, B, rfl, hS, hB, q⟩ := h
    refine ⟨_, (pss_cons (ps_set (i := 2) scPairs.nd rfl (.inl rfl) (pe_ix ix_list (pe_lst (pa_cons pe_int (pa_cons pe_int (pa_cons pe_int pa_nil)))) (pe_call GK hr (by rfl) gK FK.kp bK .nil pass0 (pa_cons (pv 0) (pa_cons pe_int pa_nil))) (fun _ _ => rfl)))
      (pss_cons (ps_set (i := 3) scPairs.nd rfl (.inr rfl) (pe_call GA hr (by rfl) gA FA.kp bA .nil pass0 (pa_cons (pv 2) pa_nil)))
      (pss_cons (ps_set (i := 4) scPairs.nd rfl (.inl rfl) (pe_callB (call_min2 rfl) (by rfl) mMin boot_min (pa_cons (pe_callB call_len_seq (by rfl) mLen boot_len (pa_cons (pv 3) pa_nil)) (pa_cons (pe_ix ix_list (pe_lst (pa_cons pe_int (pa_cons pe_int (pa_cons (pe_call GK hr (by rfl) gK FK.kp bK .nil pass0 (pa_cons (pv 0) (pa_cons pe_int pa_nil))) (pa_cons (pe_call GK hr (by rfl) gK FK.kp bK .nil pass0 (pa_cons (pv 0) (pa_cons (pe_op op_add (pv 1) pe_int) pa_nil))) (pa_cons (pv 1) pa_nil)))))) (pe_call GK hr (by rfl) gK FK.kp bK .nil pass0 (pa_cons (pv 0) (pa_cons pe_int pa_nil))) (fun _ _ => rfl)) pa_nil))))
      (pss_one (ps_ret (pe_lc (own := [("k", 5)]) (g := gName 5) (tt := tYes) (te := tBM K "list" rPopAt (tVar 3) (tCons (tCall spPick [] E0 (tCons (tVar 0) (tCons (tCB (rLenS K) (tCons (tVar 3) tNil)) tNil))) tNil)) rfl scPairs.nd (pi_range1 (by rfl) mRange (pa_cons (pv 4) pa_nil)) (blkOk_by (N := ["source", "most", "span", "left", "count", "k"]) (sc := defScope sPairs) (by decide +kernel)) (fun _ _ _ _ _ => pg_name (i := 5) scPairs.nd rfl (Or.inl rfl)) (fun _ _ _ _ _ => pts_nil) (fun _ _ _ _ _ => (pe_bm PySem.F.plainAttrs_list PySem.F.slot_list_pop PySem.F.type_list_pop mt_popAt (pv 3) (pa_cons (pe_call GK hr (by rfl) gK FK.kp bK .nil pass0 (pa_cons (pv 0) (pa_cons (pe_callB call_len_seq (by rfl) mLen boot_len (pa_cons (pv 3) pa_nil)) pa_nil))) pa_nil))))))))), ?_⟩
    have src0 := hS.at
    -- span
    refine ⟨show 3 ≤ sizeLine by decide, fun p1 hp1 => ⟨.ref s, rfl, s, 3, B, rfl, hS.ex (Ex.new hp1), by omega, by decide, by decide, fun H1 r1 d1 r10 r11 => ?_⟩⟩
    have D1 : Drew s (B + 1) H H1 := ((Drew.refl hS).ex (Ex.new hp1)).trans d1
    have n1 : p1 ≠ s := new_apart src0 hp1
    obtain ⟨n, hn, n2, n40⟩ : ∃ n : Nat, ([.int 2, .int 6, .int 40] : List V)[r1.toNat]? = some (.int (n : Int)) ∧ 2 ≤ n ∧ n ≤ 40 := by
      have : r1.toNat < 3 := by omega
      match r1.toNat, this with
      | 0, _ => exact ⟨2, rfl, by decide, by decide⟩
      | 1, _ => exact ⟨6, rfl, by decide, by decide⟩
      | 2, _ => exact ⟨40, rfl, by decide, by decide⟩
    refine ⟨p1, _, r1, .int (n : Int), rfl, rfl, sq_of (d1.get n1 upd_same), by rw [show r1 = (r1.toNat : Int) by omega]; exact atI_nat hn, ?_⟩
    dsimp only [gName]
    -- left
    refine ⟨.int (n : Int), rfl, n, rfl, n40, fun H2 L xs es e2 hL hxs prs inn ndE len => ?_⟩
    have D2 := D1.ex e2
    have xl := prs.length
    have hL0 : H L = none := D1.none src0 hL
    have nLs : L ≠ s := new_apart D1.src.at hL
    have prs2 : PrsV (hide s H2) xs es := by
      refine prs_map (fun v e hv => ?_) prs
      obtain ⟨t, rfl, ht⟩ := hv
      refine ⟨t, rfl, ?_⟩
      rw [hide_ne fun z => ?_]
      · exact ht
      · obtain ⟨x, y, zz, hs, _⟩ := D2.src
        rw [z, hs] at ht
        cases ht
    -- count
    refine ⟨.ref L, rfl, L, xs, rfl, .inl (sq_of hxs), .ref s, rfl, s, 6, B + 1, rfl, D2.src, by omega, by decide, by decide, fun H3 r3 d3 r30 r31 => ⟨.ref s, rfl, .int 100, rfl, 100, 1, rfl, rfl, s, 101, B + 1 + 1, rfl, d3.src, by omega, by decide, by decide, fun H4 r4 d4 r40 r41 => ⟨.int 100, rfl, show 5 ≤ sizeLine by decide, fun p5 hp5 => ?_⟩⟩⟩
    have D4 := (D2.trans d3).trans d4
    have e5 := Ex.new (o := .lst [.int 0, .int 1, .int r3, .int r4, .int 100]) hp5
    have D5 := D4.ex e5
    refine ⟨.ref s, rfl, s, 5, B + 1 + 1 + 1, rfl, D5.src, by omega, by decide, by decide, fun H6 r6 d6 r60 r61 => ?_⟩
    have D6 := D5.trans d6
    have n5 : p5 ≠ s := new_apart D4.src.at hp5
    obtain ⟨m, hm, m0, m100⟩ : ∃ m : Nat, ([.int 0, .int 1, .int r3, .int r4, .int 100] : List V)[r6.toNat]? = some (.int (m : Int)) ∧ 0 ≤ m ∧ m ≤ 100 := by
      have : r6.toNat < 5 := by omega
      match r6.toNat, this with
      | 0, _ => exact ⟨0, rfl, by decide, by decide⟩
      | 1, _ => exact ⟨1, rfl, by decide, by decide⟩
      | 2, _ => exact ⟨r3.toNat, congrArg (fun z => some (V.int z)) (by omega), by omega, by omega⟩
      | 3, _ => exact ⟨r4.toNat, congrArg (fun z => some (V.int z)) (by omega), by omega, by omega⟩
      | 4, _ => exact ⟨100, rfl, by decide, by decide⟩
    refine ⟨p5, _, r6, .int (m : Int), rfl, rfl, sq_of (d6.get n5 upd_same), by rw [show r6 = (r6.toNat : Int) by omega]; exact atI_nat hm, (xs.length : Int), (m : Int), rfl, ?_⟩
    obtain ⟨c, hc, c1, c2⟩ : ∃ c : Nat, (if (m : Int) < (xs.length : Int) then (m : Int) else (xs.length : Int)) = (c : Int) ∧ c ≤ 100 ∧ c ≤ xs.length := by
      by_cases h : (m : Int) < (xs.length : Int)
      · exact ⟨m, if_pos h, by omega, by omega⟩
      · exact ⟨xs.length, if_neg h, by omega, by omega⟩
    rw [hc]
    dsimp only [gName]
    have d36 : Drew s (B + 1 + 1 + 1 + 1) H2 H6 := (((d3.trans d4).ex e5).trans d6)
    have hL6 := d36.get nLs hxs
    have prs6 := prs2.ex d36.kept
    refine ⟨.int (c : Int), rfl, (c : Int), rfl, by omega, by omega, fun D hD => ?_⟩
    have hD0 : H D = none := D6.none src0 hD
    have nDs : D ≠ s := new_apart D6.src.at hD
    have nDL : D ≠ L := (ne_of_none hL6 hD).symm
    refine lc_range (lo := 0) (n := (c : Int).toNat) (fun i Hh => ∃ l acc, Hh L = some (.lst l) ∧ Hh D = some (.lst acc) ∧ (acc ++ l).Perm xs ∧ acc.length = i ∧ PrsV (hide s Hh) xs es ∧ Drew s (B + 1 + 1 + 1 + 1 + i) H Hh) ?_ ?_ ?_
    · exact ⟨xs, [], by rw [upd_ne nDL.symm]; exact hL6, upd_same, List.Perm.refl _, rfl, prs6.newH D6.src.at hD, D6.mut src0 hD0⟩
    · rintro i Hh hi ⟨l, acc, hl1, hD1, pm, len2, prsH, dr⟩
      have hi' : i < c := by omega
      have ll : acc.length + l.length = xs.length := by rw [← List.length_append, pm.length_eq]
      refine ⟨rfl, ?_⟩
      dsimp only [tYes]
      rw [if_pos rfl]
      refine ⟨.ref L, rfl, .inl ⟨rfl, _, sq_of hl1⟩, .ref s, rfl, .ref L, rfl, L, l, rfl, .inl (sq_of hl1), s, (l.length : Int), B + 1 + 1 + 1 + 1 + i, rfl, dr.src, by omega, by omega, by omega, fun H7 r dr2 r0 r1 => ?_⟩
      have hl2 : H7 L = some (.lst l) := dr2.get nLs hl1
      have hD2 : H7 D = some (.lst acc) := dr2.get nDs hD1
      have lt : r.toNat < l.length := by omega
      have er : r = (r.toNat : Int) := by omega
      refine ⟨L, l, r, r.toNat, l[r.toNat], rfl, rfl, hl2, by omega, by omega, (ixN_seq (by rw [er]; exact ixN_nat lt)).1, List.getElem?_eq_getElem lt, acc, ?_, ?_, ?_⟩
      · rw [upd_ne nDL]
        exact hD2
      · exact sz_lt (by omega)
      · refine ⟨l.eraseIdx r.toNat, acc ++ [l[r.toNat]], ?_, upd_same, (perm_pop' acc (List.getElem?_eq_getElem lt)).trans pm, ?_, ?_, ((dr.trans dr2).mut src0 hL0).mut src0 hD0⟩
        · rw [upd_ne nDL.symm]
          exact upd_same
        · rw [List.length_append, len2]
          rfl
        · exact ((prsH.ex dr2.kept).putH nLs hl2).putH nDs (by rw [upd_ne nDL]; exact hD2)
    · rintro Hh ⟨l, acc, hl1, hD1, pm, len2, prsH, dr⟩
      rw [Int.toNat_natCast] at len2 dr
      obtain ⟨fs, pf, pfe⟩ := prsH.perm pm
      have tk := pf.take acc.length
      rw [List.take_left] at tk
      have sub := List.take_sublist acc.length fs
      exact q Hh D acc _ (dr.mono (by omega)) hD0 hD1 tk ⟨by rw [List.length_take]; omega, fun e he => by
        have := inn e (pfe.mem_iff.mp (sub.subset he))
        omega, (pfe.nodup_iff.mpr ndE).sublist sub⟩
end
end K95
/-! heaps but for some addresses -/
namespace Os
open PySem PySem.Spec PyProof.Rows L2 Evl
def hds (L : List Addr) (H : Hp) : Hp := fun b => if b ∈ L then none else H b
section
variable {L M : List Addr} {H H' : Hp} {a b s : Addr} {o : HO} {v : V} {d : PyData} {xs : List V} {ds : List PyData}
theorem hds_ne (h : b ∉ L) : hds L H b = H b := if_neg h
theorem hds_of (h : hds L H b = some o) : b ∉ L ∧ H b = some o := by
  unfold hds at h
  split at h
  · cases h
  · exact ⟨by assumption, h⟩
theorem hds_ex (e : Ex H H') : Ex (hds L H) (hds L H') := fun b o h => by
  obtain ⟨h1, h2⟩ := hds_of h
  rw [hds_ne h1]
  exact e _ _ h2
theorem hds_up : Ex (hds L H) H := fun b o h => (hds_of h).2
theorem hds_upd (h : a ∈ L) : hds L (upd H a o) = hds L H := by
  funext b
  unfold hds
  split
  · rfl
  · rename_i n
    exact upd_ne fun z => n (z ▸ h)
/-- what stands but for fewer places -/
theorem hds_sub (h : ∀ b ∈ M, b ∈ L) (e : Ex (hds M H) (hds M H')) : Ex (hds L H) (hds L H') := fun b o q => by
  obtain ⟨h1, h2⟩ := hds_of q
  rw [hds_ne h1]
  exact (hds_of (e b o (by rw [hds_ne fun z => h1 (h b z)]; exact h2))).2
theorem hds_new (h : H a = none) : Ex (hds L H) (hds L (upd H a o)) := hds_ex (Ex.new h)
theorem hds_drew {B : Nat} (d : Drew s B H H') (h : s ∈ L) : Ex (hds L H) (hds L H') := fun b o q => by
  obtain ⟨h1, h2⟩ := hds_of q
  rw [hds_ne h1]
  exact d.get (fun z => h1 (z ▸ h)) h2
theorem Dt.hex (h : Dt H v d) (e : Ex H H') : Dt H' v d := h.same (same_ex e)
theorem Dts.hex (h : Dts H xs ds) (e : Ex H H') : Dts H' xs ds := h.same (same_ex e)
theorem prs_hds {es : List Pr} (h : PrsV H xs es) (hl : ∀ b ∈ L, ∃ ys, H b = some (.lst ys)) : PrsV (hds L H) xs es := prs_map (fun v e hv => by
  obtain ⟨t, rfl, ht⟩ := hv
  refine ⟨t, rfl, ?_⟩
  rw [hds_ne fun z => ?_]
  · exact ht
  · obtain ⟨ys, hy⟩ := hl t z
    rw [hy] at ht
    cases ht) h
end
/-- all but the source and the list at a stands as it was -/
structure Drw2 (s a : Addr) (B : Nat) (H H' : Hp) : Prop where
  kept : Ex (hds [s, a] H) (hds [s, a] H')
  src : Src H' s B
section
variable {s a : Addr} {B C : Nat} {H H1 H2 : Hp}
theorem Drw2.refl (h : Src H s B) : Drw2 s a B H H := ⟨Ex.refl _, h⟩
theorem Drw2.trans (x : Drw2 s a B H H1) (y : Drw2 s a C H1 H2) : Drw2 s a C H H2 := ⟨x.kept.trans y.kept, y.src⟩
theorem Drw2.ex (x : Drw2 s a B H H1) (e : Ex H1 H2) : Drw2 s a B H H2 := ⟨x.kept.trans (hds_ex e), x.src.ex e⟩
theorem Drw2.mono (x : Drw2 s a B H H1) (le : B ≤ C) : Drw2 s a C H H1 := ⟨x.kept, x.src.mono le⟩
theorem Drew.two (x : Drew s B H H1) : Drw2 s a B H H1 := ⟨hds_drew x (by simp), x.src⟩
theorem Drw2.get (x : Drw2 s a B H H1) {b : Addr} {o : HO} (n1 : b ≠ s) (n2 : b ≠ a) (h : H b = some o) : H1 b = some o :=
  (hds_of (x.kept b o (by rw [hds_ne (by simp [n1, n2])]; exact h))).2
/-- the list itself changes -/
theorem Drw2.row (x : Drw2 s a B H H1) {o : HO} (n : a ≠ s) : Drw2 s a B H (upd H1 a o) := by
  refine ⟨by rw [hds_upd (by simp)]; exact x.kept, ?_⟩
  obtain ⟨p, q, r, h1, h2⟩ := x.src
  exact ⟨p, q, r, by rw [upd_ne n.symm]; exact h1, h2⟩
/-- an object that H does not know changes -/
theorem Drw2.mut (x : Drw2 s a B H H1) {p : Addr} {o : HO} (hs : ∃ u, H s = some u) (h : H p = none) : Drw2 s a B H (upd H1 p o) := by
  obtain ⟨u, hu⟩ := hs
  have np : s ≠ p := ne_of_none hu h
  refine ⟨fun b v q => ?_, ?_⟩
  · obtain ⟨q1, q2⟩ := hds_of q
    rw [hds_ne q1, upd_ne (ne_of_none q2 h)]
    exact (hds_of (x.kept b v q)).2
  · obtain ⟨y, z, w, h1, h2⟩ := x.src
    exact ⟨y, z, w, by rw [upd_ne np]; exact h1, h2⟩
/-- of a list that H does not know -/
theorem Drw2.off (y : Drw2 s a C H1 H2) {B : Nat} (x : Drew s B H H1) (h : H a = none) : Drew s C H H2 := by
  refine ⟨fun b o q => ?_, y.src⟩
  obtain ⟨q1, q2⟩ := hide_of q
  rw [hide_ne q1]
  exact y.get q1 (ne_of_none q2 h) (x.get q1 q2)
end
end Os
namespace Os
open PySem PySem.Spec PyProof.Rows L2 Evl
section
variable {G : Hp}
theorem Dts.app : ∀ {xs ys : List V} {ds es : List PyData}, Dts G xs ds → Dts G ys es → Dts G (xs ++ ys) (ds ++ es)
  | _, _, _, _, .nil, h => h
  | _, _, _, _, .cons h t, h2 => .cons h (Dts.app t h2)
theorem Dts.tk : ∀ {ds : List PyData} {xs : List V} (i : Nat), Dts G xs ds → Dts G (xs.take i) (ds.take i)
  | _, _, 0, _ => .nil
  | _, _, _ + 1, .nil => .nil
  | _, _, i + 1, .cons h t => .cons h (Dts.tk i t)
theorem Dts.dr : ∀ {ds : List PyData} {xs : List V} (i : Nat), Dts G xs ds → Dts G (xs.drop i) (ds.drop i)
  | _, _, 0, h => h
  | _, _, _ + 1, .nil => .nil
  | _, _, i + 1, .cons h t => Dts.dr i t
theorem Dts.st {v : V} {d : PyData} (hv : Dt G v d) : ∀ {ds : List PyData} {xs : List V} (i : Nat), Dts G xs ds → Dts G (xs.set i v) (ds.set i d)
  | _, _, _, .nil => .nil
  | _, _, 0, .cons h t => .cons hv t
  | _, _, i + 1, .cons h t => .cons h (Dts.st hv i t)
theorem Dts.er : ∀ {ds : List PyData} {xs : List V} (i : Nat), Dts G xs ds → Dts G (xs.eraseIdx i) (ds.eraseIdx i)
  | _, _, _, .nil => .nil
  | _, _, 0, .cons h t => t
  | _, _, i + 1, .cons h t => .cons h (Dts.er i t)
theorem Dts.at2 : ∀ {xs : List V} {ds : List PyData} {i : Nat} {x : V}, Dts G xs ds → xs[i]? = some x → ∃ d, ds[i]? = some d ∧ Dt G x d
  | _, _, _, _, .nil, h => by simp at h
  | _, _, 0, _, .cons h1 _, h => by
    simp at h
    subst h
    exact ⟨_, rfl, h1⟩
  | _, _, i + 1, _, .cons _ r, h => by
    have h' := Dts.at2 (i := i) r (by simpa using h)
    simpa using h'
end
end Os
namespace Os
open PySem PySem.Spec PyProof.Rows L2 Evl
section
variable {σ : L2.St} {H : Hp} {ta tb : TE} {x y : V} {D : Ends} {tz : TS} {i j : Nat}
theorem q_par (ha : Ev ta σ H x) (hb : Ev tb σ H y) (k : ∀ H1, Ex H H1 → tz D ((σ.set i (some x)).set j (some y)) H1) : tSeq (tPar i j (tCons ta (tCons tb tNil))) tz D σ H :=
  ha H (Ex.refl H) _ fun H1 e1 => hb H1 e1 _ fun H2 e2 => ⟨x, y, rfl, k H2 (e1.trans e2)⟩
end
end Os
namespace Os
open PySem PySem.Spec PyProof.Rows L2 Evl
section
variable {K : PySem.W.Frag} {σ : L2.St} {H : Hp} {ta tb te : TE} {t u : TT} {tu tz : TS} {D : Ends}
/-- if a and b: .., b told by hand -/
theorem q_andIf {b : Bool} (h : EvT t σ H b) (h2 : b = true → ∀ H1, Ex H H1 → u σ H1 fun c H2 => if c = true then tu { D with nx := tz D } σ H2 else tz D σ H2) (h3 : b = false → ∀ H1, Ex H H1 → tz D σ H1) : tSeq (tIfS (tAnd t u) tu tNext) tz D σ H :=
  h H (Ex.refl H) _ fun H1 e => by
    cases b with
    | true => exact h2 rfl H1 e
    | false => exact h3 rfl H1 e
theorem s_andIf {b : Bool} (h : EvT t σ H b) (h2 : b = true → ∀ H1, Ex H H1 → u σ H1 fun c H2 => if c = true then tu D σ H2 else D.nx σ H2) (h3 : b = false → ∀ H1, Ex H H1 → D.nx σ H1) : tIfS (tAnd t u) tu tNext D σ H :=
  h H (Ex.refl H) _ fun H1 e => by
    cases b with
    | true => exact h2 rfl H1 e
    | false => exact h3 rfl H1 e
/-- xs[i] = a new list -/
theorem s_setLL {l : Addr} {xs ys : List V} {j : Nat} (hl : H l = some (.lst xs)) (h : EvL te σ H ys) (ho : Ev ta σ H (.ref l)) (hi : Ev tb σ H (.int (j : Int))) (hj : j < xs.length) (k : ∀ p H1, H p = none → Ex H H1 → H1 p = some (.lst ys) → D.nx σ (upd H1 l (.lst (xs.set j (.ref p))))) :
    tAsg te (gSub ta tb rSetL) D σ H := h H (Ex.refl H) _ fun p H1 hp e1 h1 => ho H1 e1 _ fun H2 e2 => hi H2 (e1.trans e2) _ fun H3 e3 =>
  ⟨l, xs, (j : Int), j, rfl, rfl, ((e1.trans e2).trans e3) l _ hl, ixN_nat hj, k p H3 hp ((e1.trans e2).trans e3) (e3 _ _ (e2 _ _ h1))⟩
end
end Os
namespace K95
open PySem PySem.Spec PyProof.Rows L2 Os Evl
abbrev sPage : Stmt := topS 35
theorem scPage : FnScope ["door", "row", "name", "one", "two", "part", "spot"] ["door", "row"] (defScope sPage) := ⟨rfl, rfl, rfl, by decide +kernel, rfl, by decide +kernel, by decide +kernel⟩
abbrev sWritten : Stmt := topS 36
theorem scWritten : FnScope ["door", "row"] ["door", "row"] (defScope sWritten) := ⟨rfl, rfl, rfl, by decide +kernel, rfl, by decide +kernel, by decide +kernel⟩
abbrev sRead : Stmt := topS 37
theorem scRead : FnScope ["door", "page"] ["door", "page"] (defScope sRead) := ⟨rfl, rfl, rfl, by decide +kernel, rfl, by decide +kernel, by decide +kernel⟩
abbrev sNew : Stmt := topS 38
theorem scNew : FnScope ["source", "door", "letters", "name", "one", "pair", "part", "spot"] ["source", "door"] (defScope sNew) := ⟨rfl, rfl, rfl, by decide +kernel, rfl, by decide +kernel, by decide +kernel⟩
abbrev rowsD (ts : List (List Nat)) : List PyData := ts.map fun t => .list (natsD t)
/-- a row of one of the four kinds, and its text -/
inductive Rw : Nat → List PyData → Str → Prop
  | items (zs : List Str) : ObsOk (zs.map some) → Rw 0 (zs.map PyData.str) (page zs)
  | seen (os : List (Option Str)) : ObsOk os → Rw 1 (os.map oD) (page (os.map oW))
  | edges (es : List Pr) : EdgesOk es → Rw 2 (es.map Os.prD) (pageE es)
  | turns (ts : List (List Nat)) : TurnsOk ts → Rw 3 (rowsD ts) (pageT ts)
section
variable {G : Hp}
theorem Dts.strs : ∀ {xs : List V} {zs : List Str}, Dts G xs (zs.map PyData.str) → xs = zs.map V.str
  | _, [], h => by cases h; rfl
  | _, z :: zs, h => by
    cases h with
    | cons h1 h2 =>
      cases h1
      rw [Dts.strs h2]
      rfl
theorem Dts.os : ∀ {xs : List V} {os : List (Option Str)}, Dts G xs (os.map oD) → xs = os.map oV
  | _, [], h => by cases h; rfl
  | _, none :: os, h => by
    cases h with
    | cons h1 h2 =>
      cases h1
      rw [Dts.os h2]
      rfl
  | _, some z :: os, h => by
    cases h with
    | cons h1 h2 =>
      cases h1
      rw [Dts.os h2]
      rfl
theorem Dt.pr {v : V} {e : Pr} (h : Dt G v (Os.prD e)) : PrV G v e := by
  cases h with
  | tup ha ht =>
    cases ht with
    | cons h1 h2 =>
      cases h2 with
      | cons h3 h4 =>
        cases h4
        cases h1
        cases h3
        exact ⟨_, rfl, ha⟩
theorem Dts.prs : ∀ {xs : List V} {es : List Pr}, Dts G xs (es.map Os.prD) → PrsV G xs es
  | _, [], h => by cases h; exact .nil
  | _, e :: es, h => by
    cases h with
    | cons h1 h2 => exact .cons (Dt.pr h1) (Dts.prs h2)
theorem Dts.nats : ∀ {xs : List V} {t : List Nat}, Dts G xs (natsD t) → xs = nats t
  | _, [], h => by cases h; rfl
  | _, n :: t, h => by
    cases h with
    | cons h1 h2 =>
      cases h1
      rw [Dts.nats h2]
      rfl
theorem Dts.rows : ∀ {xs : List V} {ts : List (List Nat)}, Dts G xs (rowsD ts) → RwV G xs ts
  | _, [], h => by cases h; exact .nil
  | _, t :: ts, h => by
    cases h with
    | cons h1 h2 =>
      cases h1 with
      | lst ha ht =>
        rw [Dts.nats ht] at ha
        exact .cons ha (Dts.rows h2)
end
theorem sh_rows' (ts : List (List Nat)) : Sh 2 (.list (rowsD ts)) := .lst fun d hd => by
  obtain ⟨t, _, rfl⟩ := List.mem_map.mp hd
  exact .lst fun d hd => by
    obtain ⟨x, _, rfl⟩ := List.mem_map.mp hd
    exact .int 0 _
theorem Rw.sh {door : Nat} {ds : List PyData} {pg : Str} (h : Rw door ds pg) : Sh 2 (.list ds) := by
  cases h with
  | items zs ok =>
    rw [← some_D]
    exact (sh_o fun z hz => (ok.ok z hz).2).mono (by decide)
  | seen os ok => exact (sh_o fun z hz => (ok.ok z hz).2).mono (by decide)
  | edges es ok => exact sh_prs' es
  | turns ts ok => exact sh_rows' ts
theorem Rw.door {door : Nat} {ds : List PyData} {pg : Str} (h : Rw door ds pg) : door ≤ 3 := by cases h <;> decide
section
variable {P : Program} {w : World} {K : PySem.W.Frag} {mg : Str → Option Value} {base : Heap}
def spPage : Sp := fun vs H Q _ => ∃ (a : Addr) (door : Nat) (xs : List V) (ds : List PyData) (pg : Str), vs = [.int (door : Int), .ref a] ∧ H a = some (.lst xs) ∧ Dts H xs ds ∧ Rw door ds pg ∧ ∀ H', Ex H H' → Q (.str pg) H'
theorem ev_door {σ : L2.St} {H : Hp} {ta : TE} {d m : Nat} (h : Ev ta σ H (.int (d : Int))) : EvT (tTest (tOp rEq ta (tC (.int (m : Int))))) σ H (decide (d = m)) :=
  et_test (ev_is (ev_op h ev_c (rv_eq rfl)) (congrArg V.bl (decide_eq_decide.mpr ⟨fun z => by have := V.int.inj z; omega, fun z => by rw [z]⟩)))
theorem ok_page {f : Addr} {fd : FuncData} {k : Nat} (F : Fun K "_law_page" "_law_page" sPage f fd) (mLen : mg "len" = none) (mStr : mg "str" = none) : FnOk P w K mg base CX0 (k + 1) f fd ["door", "row"] spPage := by
  refine F.ok scPage (fun vs H Q E h => ?_) (fun cdv A outer s H vs Q E hr h => ?_)
  · obtain ⟨a, door, xs, ds, pg, rfl, _⟩ := h
    rfl
  · obtain ⟨a, door, xs, ds, pg, rfl, ha, hd, rw', q⟩ := h
    refine ⟨_, (pss_cons (ps_if (pt_cmpR op_eq (pv 0) pe_int (nomark _)) (pss_one (ps_ret (pe_join pe_str (pv 1)))) pss_nil)
      (pss_cons (ps_if (pt_cmpR op_eq (pv 0) pe_int (nomark _)) (pss_one (ps_ret (pe_join pe_str (pe_lc (own := [("name", 2)]) (g := gName 2) (tt := tYes) rfl scPage.nd (pi_list (pv 1)) (blkOk_by (N := ["door", "row", "name", "one", "two", "part", "spot"]) (sc := defScope sPage) (by decide +kernel)) (fun _ _ _ _ _ => pg_name (i := 2) scPage.nd rfl (Or.inl rfl)) (fun _ _ _ _ _ => pts_nil) (fun _ _ _ _ _ => (pe_ifExp (pt_cmpR op_isN (pv 2) pe_non (nomark _)) pe_str (pv 2))))))) pss_nil)
      (pss_cons (ps_if (pt_cmpR op_eq (pv 0) pe_int (nomark _)) (pss_one (ps_ret (pe_ifExp (pt_cmpR op_gt (pe_callB call_len_seq (by rfl) mLen boot_len (pa_cons (pv 1) pa_nil)) pe_int (nomark _)) (pe_join pe_str (pe_lc (own := [("one", 3), ("two", 4)]) (g := gTup K 2 (gCons (gName 3) (gCons (gName 4) gNil))) (tt := tYes) rfl scPage.nd (pi_list (pv 1)) (blkOk_by (N := ["door", "row", "name", "one", "two", "part", "spot"]) (sc := defScope sPage) (by decide +kernel)) (fun _ _ _ _ _ => pg_tup rfl (pgs_cons (pg_name (i := 3) scPage.nd rfl (Or.inl rfl)) (pgs_cons (pg_name (i := 4) scPage.nd rfl (Or.inl rfl)) pgs_nil))) (fun _ _ _ _ _ => pts_nil) (fun _ _ _ _ _ => (pe_op op_add_str (pe_op op_add_str (pe_callTy call_str_int (by rfl) mStr boot_str (pa_cons (pv 3) pa_nil)) pe_str) (pe_callTy call_str_int (by rfl) mStr boot_str (pa_cons (pv 4) pa_nil)))))) pe_str))) pss_nil)
      (pss_one (ps_ret (pe_join pe_str (pe_lc (own := [("part", 5)]) (g := gName 5) (tt := tYes) (te := tIf (tTest (tOp rEq (tCB (rLenS K) (tCons (tVar 5) tNil)) (tC (.int 0)))) (tC (.str "-")) (tM1 (rJoin K) (tC (.str " ")) (tLc (iList K (tVar 5)) (gName 6) tYes (tCB rStrI (tCons (tVar 6) tNil)) [6]))) rfl scPage.nd (pi_list (pv 1)) (blkOk_by (N := ["door", "row", "name", "one", "two", "part", "spot"]) (sc := defScope sPage) (by decide +kernel)) (fun _ _ _ _ _ => pg_name (i := 5) scPage.nd rfl (Or.inl rfl)) (fun _ _ _ _ _ => pts_nil) (fun _ _ _ _ _ => (pe_ifExp (pt_cmpR op_eq (pe_callB call_len_seq (by rfl) mLen boot_len (pa_cons (pv 5) pa_nil)) pe_int (nomark _)) pe_str (pe_join pe_str (pe_lc (own := [("spot", 6)]) (g := gName 6) (tt := tYes) (te := tCB rStrI (tCons (tVar 6) tNil)) rfl scPage.nd (pi_list (pv 5)) (blkOk_by (by rfl)) (fun _ _ _ _ _ => pg_name (i := 6) scPage.nd rfl (Or.inl rfl)) (fun _ _ _ _ _ => pts_nil) (fun _ _ _ _ _ => (pe_callTy call_str_int (by rfl) mStr boot_str (pa_cons (pv 6) pa_nil)))))))))))))), ?_⟩
    cases rw' with
    | items zs ok =>
      have ex := Dts.strs hd
      subst ex
      have wok := ok.words
      rw [some_W] at wok
      refine q_when (b := true) (ev_door (d := 0) (m := 0) (ev_var rfl)) (fun _ H1 e1 => ?_) fun h => nomatch h
      exact s_ret (v := .str (page zs)) (ev_joinV len_sp ev_c (ev_var rfl) (e1 _ _ ha) wok) fun H2 e2 => q H2 (e1.trans e2)
    | seen os ok =>
      have ex := Dts.os hd
      subst ex
      refine q_when (b := false) (ev_door (d := 1) (m := 0) (ev_var rfl)) (fun h => nomatch h) fun _ H1 e1 => ?_
      refine q_when (b := true) (ev_door (d := 1) (m := 1) (ev_var rfl)) (fun _ H2 e2 => ?_) fun h => nomatch h
      have e12 := e1.trans e2
      refine s_ret (v := .str (page (os.map oW))) (ev_joinL len_sp ev_c ?_ ok.words) fun H3 e3 => q H3 (e12.trans e3)
      have few := ok.few
      rw [← words_of]
      refine el_lcL (f := fun _ => true) (v := _) (ev_var rfl) (sq_of (e12 _ _ ha)) (by rw [List.length_map]; omega) (fun _ => rfl) (fun i x H2 _ _ => fun H3 e3 Q q => q H3 (Ex.refl H3)) (fun i x H2 e2 hx _ => ?_)
      rw [List.getElem?_map] at hx
      obtain ⟨o, ho, rfl⟩ := Option.map_eq_some_iff.mp hx
      rw [List.getD_eq_getElem?_getD, ho]
      show Ev _ _ _ (.str (oW o))
      cases o with
      | none => exact ev_if (b := true) (et_test (ev_op (ev_var rfl) ev_c rv_isN')) (fun _ => ev_c) fun h => nomatch h
      | some z => exact ev_if (b := false) (et_test (ev_op (ev_var rfl) ev_c rv_isN')) (fun h => nomatch h) fun _ => ev_var rfl
    | edges es ok =>
      have hp := Dts.prs hd
      have lx := hp.length
      have few := ok.few
      refine q_when (b := false) (ev_door (d := 2) (m := 0) (ev_var rfl)) (fun h => nomatch h) fun _ H1 e1 => ?_
      refine q_when (b := false) (ev_door (d := 2) (m := 1) (ev_var rfl)) (fun h => nomatch h) fun _ H2 e2 => ?_
      refine q_when (b := true) (ev_door (d := 2) (m := 2) (ev_var rfl)) (fun _ H3 e3 => ?_) fun h => nomatch h
      have e13 := (e1.trans e2).trans e3
      have ha3 := e13 _ _ ha
      have hp3 := hp.ex e13
      refine s_ret (v := .str (pageE es)) (ev_if (b := decide ((0 : Int) < (xs.length : Int))) (et_test (ev_op (ev_len' (ev_var rfl) ha3) ev_c rv_I0)) (fun h => ?_) fun h => ?_) fun H4 e4 => q H4 (e13.trans e4)
      · have ne : es ≠ [] := fun z => by
          subst z
          have h2 := of_decide_eq_true h
          rw [lx] at h2
          exact absurd h2 (by decide)
        have pg : pageE es = page (es.map edgeS) := if_neg ne
        rw [pg]
        refine ev_joinL len_sp ev_c ?_ ok.words
        rw [List.map_map]
        refine el_lcPr (V.str ∘ edgeS) rfl (ev_var rfl) ha3 hp3 (by omega) (fun _ _ => rfl) fun e H2 e2 he => ?_
        have ie := ok.inn e he
        have s1 : (Str.ofString (toString ((e.1 : Nat) : Int))).length ≤ 2 := (num_of (show e.1 < 40 by omega)).short
        have s2 : (Str.ofString (toString ((e.2 : Nat) : Int))).length ≤ 2 := (num_of ie.2).short
        have e3 : ("-" : Str).length = 1 := by decide
        exact ev_is (ev_op (ev_op (ev_strI (ev_var rfl) (by omega)) ev_c (rv_addS' (by rw [e3]; omega))) (ev_strI (ev_var rfl) (by omega)) (rv_addS' (by rw [strLen_append, e3]; omega))) (congrArg V.str (edgeS_eq e).symm)
      · have em : es = [] := by
          have h2 := of_decide_eq_false h
          exact List.length_eq_zero_iff.mp (by omega)
        subst em
        exact ev_c
    | turns ts ok =>
      have hw := Dts.rows hd
      have ln := hw.len
      have few := ok.few
      refine q_when (b := false) (ev_door (d := 3) (m := 0) (ev_var rfl)) (fun h => nomatch h) fun _ H1 e1 => ?_
      refine q_when (b := false) (ev_door (d := 3) (m := 1) (ev_var rfl)) (fun h => nomatch h) fun _ H2 e2 => ?_
      refine q_when (b := false) (ev_door (d := 3) (m := 2) (ev_var rfl)) (fun h => nomatch h) fun _ H3 e3 => ?_
      have e13 := (e1.trans e2).trans e3
      refine s_ret (v := .str (pageT ts)) (ev_joinL len_nl ev_c ?_ ok.words) fun H4 e4 => q H4 (e13.trans e4)
      rw [List.map_map, ← given_map ts (V.str ∘ lineS) (fun i => .str (lineS (ts.getD i []))) (fun i x e => by
        rw [List.getD_eq_getElem?_getD, e]
        rfl), ← ln]
      refine el_lcL (f := fun _ => true) (v := _) (ev_var rfl) (sq_of (e13 _ _ ha)) (by omega) (fun _ => rfl) (fun i x H2 _ _ => fun H3 e3 Q q => q H3 (Ex.refl H3)) (fun i x H4 e4 hx _ => ?_)
      obtain ⟨p, t, rfl, ht, hp⟩ := hw.get hx
      rw [List.getD_eq_getElem?_getD, ht]
      show Ev _ _ _ (.str (lineS t))
      have tok := ok.ok t (List.mem_of_getElem? ht)
      have hp4 := e4 _ _ (e13 _ _ hp)
      have len : (nats t).length = t.length := List.length_map ..
      refine ev_if (b := decide (V.int ((nats t).length : Int) = V.int 0)) (et_test (ev_op (ev_len' (ev_var rfl) hp4) ev_c (rv_eq rfl))) (fun h => ?_) fun h => ?_
      · have em : t = [] := by
          have h2 := V.int.inj (of_decide_eq_true h)
          exact List.length_eq_zero_iff.mp (by omega)
        subst em
        exact ev_c
      · have ne : t ≠ [] := fun z => by
          subst z
          exact of_decide_eq_false h rfl
        have pg : lineS t = page (t.map numS) := if_neg ne
        rw [pg]
        refine ev_joinL len_sp ev_c ?_ tok.words
        rw [List.map_map]
        exact el_lcMapL (xs := t) (fV := fun x : Nat => V.int (x : Int)) (V.str ∘ numS) (ev_var rfl) (sq_of hp4) (by have := tok.few; omega) (fun _ => rfl) fun x H3 e3 hx => ev_strI (ev_var rfl) (by have := tok.inn x hx; omega)
theorem ev_doorL {σ : L2.St} {H : Hp} {ta : TE} {d : Nat} (h : Ev ta σ H (.int (d : Int))) : EvT (tTest (tOp (rI0 fun i j => .bl (decide (i < j))) ta (tC (.int 2)))) σ H (decide (d < 2)) :=
  et_test (ev_is (ev_op h ev_c rv_I0) (congrArg V.bl (decide_eq_decide.mpr ⟨fun z => by omega, fun z => by omega⟩)))
theorem ok_written {f fA fB fC fD : Addr} {fd fdA fdB fdC fdD : FuncData} {k : Nat} (F : Fun K "_law_written" "_law_written" sWritten f fd)
    (GA : FnOk P w K mg base CX0 k fA fdA ["items"] spWI) (FA : Fun K "write_items" "write_items" sWI fA fdA) (bA : Binds K fdA ["items"] []) (gA : mg "write_items" = some (.ref fA))
    (GB : FnOk P w K mg base CX0 k fB fdB ["seen"] spWS) (FB : Fun K "write_seen" "write_seen" sWS fB fdB) (bB : Binds K fdB ["seen"] []) (gB : mg "write_seen" = some (.ref fB))
    (GC : FnOk P w K mg base CX0 k fC fdC ["edges"] spWE) (FC : Fun K "write_edges" "write_edges" sWE fC fdC) (bC : Binds K fdC ["edges"] []) (gC : mg "write_edges" = some (.ref fC))
    (GD : FnOk P w K mg base CX0 k fD fdD ["turns"] spWT) (FD : Fun K "write_turns" "write_turns" sWT fD fdD) (bD : Binds K fdD ["turns"] []) (gD : mg "write_turns" = some (.ref fD)) : FnOk P w K mg base CX0 (k + 1) f fd ["door", "row"] spPage := by
  refine F.ok scWritten (fun vs H Q E h => ?_) (fun cdv A outer s H vs Q E hr h => ?_)
  · obtain ⟨a, door, xs, ds, pg, rfl, _⟩ := h
    rfl
  · obtain ⟨a, door, xs, ds, pg, rfl, ha, hd, rw', q⟩ := h
    refine ⟨_, (pss_cons (ps_if (pt_cmpR op_lt (pv 0) pe_int (nomark _)) (pss_one (ps_ret (pe_ifExp (pt_cmpR op_eq (pv 0) pe_int (nomark _)) (pe_call GA hr (by rfl) gA FA.kp bA .nil pass0 (pa_cons (pv 1) pa_nil)) (pe_call GB hr (by rfl) gB FB.kp bB .nil pass0 (pa_cons (pv 1) pa_nil))))) pss_nil)
      (pss_one (ps_ret (pe_ifExp (pt_cmpR op_eq (pv 0) pe_int (nomark _)) (pe_call GC hr (by rfl) gC FC.kp bC .nil pass0 (pa_cons (pv 1) pa_nil)) (pe_call GD hr (by rfl) gD FD.kp bD .nil pass0 (pa_cons (pv 1) pa_nil)))))), ?_⟩
    cases rw' with
    | items zs ok =>
      have ex := Dts.strs hd
      subst ex
      have wok := ok.words
      rw [some_W] at wok
      refine q_when (b := true) (ev_doorL (d := 0) (ev_var rfl)) (fun _ H1 e1 => ?_) fun h => nomatch h
      refine s_ret (v := .str (page zs)) (ev_if (b := true) (ev_door (d := 0) (m := 0) (ev_var rfl)) (fun _ => ev_sp (ea_cons (ev_var rfl) ea_nil) fun H2 e2 Q q => ⟨a, zs, rfl, e2 _ _ (e1 _ _ ha), wok, q⟩) fun h => nomatch h) fun H2 e2 => q H2 (e1.trans e2)
    | seen os ok =>
      have ex := Dts.os hd
      subst ex
      refine q_when (b := true) (ev_doorL (d := 1) (ev_var rfl)) (fun _ H1 e1 => ?_) fun h => nomatch h
      refine s_ret (v := .str (page (os.map oW))) (ev_if (b := false) (ev_door (d := 1) (m := 0) (ev_var rfl)) (fun h => nomatch h) fun _ => ev_sp (ea_cons (ev_var rfl) ea_nil) fun H2 e2 Q q => ⟨a, os, rfl, e2 _ _ (e1 _ _ ha), ok.words, q⟩) fun H2 e2 => q H2 (e1.trans e2)
    | edges es ok =>
      have hp := Dts.prs hd
      refine q_when (b := false) (ev_doorL (d := 2) (ev_var rfl)) (fun h => nomatch h) fun _ H1 e1 => ?_
      refine s_ret (v := .str (pageE es)) (ev_if (b := true) (ev_door (d := 2) (m := 2) (ev_var rfl)) (fun _ => ev_sp (ea_cons (ev_var rfl) ea_nil) fun H2 e2 Q q => ⟨a, xs, es, rfl, e2 _ _ (e1 _ _ ha), hp.ex (e1.trans e2), ok, q⟩) fun h => nomatch h) fun H2 e2 => q H2 (e1.trans e2)
    | turns ts ok =>
      have hw := Dts.rows hd
      refine q_when (b := false) (ev_doorL (d := 3) (ev_var rfl)) (fun h => nomatch h) fun _ H1 e1 => ?_
      refine s_ret (v := .str (pageT ts)) (ev_if (b := false) (ev_door (d := 3) (m := 2) (ev_var rfl)) (fun h => nomatch h) fun _ => ev_sp (ea_cons (ev_var rfl) ea_nil) fun H2 e2 Q q => ⟨a, xs, ts, rfl, e2 _ _ (e1 _ _ ha), hw.ex (e1.trans e2), ok, q⟩) fun H2 e2 => q H2 (e1.trans e2)
/-- lists that stand -/
def Lists (H : Hp) (L : List Addr) : Prop := ∀ b ∈ L, ∃ ys, H b = some (.lst ys)
theorem Lists.ex {H H' : Hp} {L : List Addr} (h : Lists H L) (e : Ex H H') : Lists H' L := fun b hb => by
  obtain ⟨ys, hy⟩ := h b hb
  exact ⟨ys, e _ _ hy⟩
theorem Lists.new {H : Hp} {L : List Addr} (h : Lists H L) {p : Addr} (hp : H p = none) : p ∉ L := fun m => by
  obtain ⟨ys, hy⟩ := h p m
  rw [hp] at hy
  cases hy
def spRead : Sp := fun vs H Q _ => ∃ (door : Nat) (ds : List PyData) (pg : Str), vs = [.int (door : Int), .str pg] ∧ Rw door ds pg ∧ ∀ v H', Ex H H' → (∀ L, Lists H L → Dt (hds L H') v (.list ds)) → Q v H'
theorem ok_read {f fA fB fC fD : Addr} {fd fdA fdB fdC fdD : FuncData} {k : Nat} (F : Fun K "_law_read" "_law_read" sRead f fd)
    (GA : FnOk P w K mg base CX0 k fA fdA ["text"] spRI) (FA : Fun K "read_items" "read_items" sRI fA fdA) (bA : Binds K fdA ["text"] []) (gA : mg "read_items" = some (.ref fA))
    (GB : FnOk P w K mg base CX0 k fB fdB ["text"] spRS) (FB : Fun K "read_seen" "read_seen" sRS fB fdB) (bB : Binds K fdB ["text"] []) (gB : mg "read_seen" = some (.ref fB))
    (GC : FnOk P w K mg base CX0 k fC fdC ["text"] spRE) (FC : Fun K "read_edges" "read_edges" sRE fC fdC) (bC : Binds K fdC ["text"] []) (gC : mg "read_edges" = some (.ref fC))
    (GD : FnOk P w K mg base CX0 k fD fdD ["text"] spRT) (FD : Fun K "read_turns" "read_turns" sRT fD fdD) (bD : Binds K fdD ["text"] []) (gD : mg "read_turns" = some (.ref fD)) : FnOk P w K mg base CX0 (k + 1) f fd ["door", "page"] spRead := by
  refine F.ok scRead (fun vs H Q E h => ?_) (fun cdv A outer s H vs Q E hr h => ?_)
  · obtain ⟨door, ds, pg, rfl, _⟩ := h
    rfl
  · obtain ⟨door, ds, pg, rfl, rw', q⟩ := h
    refine ⟨_, (pss_cons (ps_if (pt_cmpR op_lt (pv 0) pe_int (nomark _)) (pss_one (ps_ret (pe_ifExp (pt_cmpR op_eq (pv 0) pe_int (nomark _)) (pe_call GA hr (by rfl) gA FA.kp bA .nil pass0 (pa_cons (pv 1) pa_nil)) (pe_call GB hr (by rfl) gB FB.kp bB .nil pass0 (pa_cons (pv 1) pa_nil))))) pss_nil)
      (pss_one (ps_ret (pe_ifExp (pt_cmpR op_eq (pv 0) pe_int (nomark _)) (pe_call GC hr (by rfl) gC FC.kp bC .nil pass0 (pa_cons (pv 1) pa_nil)) (pe_call GD hr (by rfl) gD FD.kp bD .nil pass0 (pa_cons (pv 1) pa_nil)))))), ?_⟩
    have done : ∀ {H1 H2 : Hp} {p : Addr} {xs : List V} {ds : List PyData} {L : List Addr}, Ex H H1 → H1 p = none → H2 p = some (.lst xs) → Lists H L → (∀ L, Lists H L → Dts (hds L H2) xs ds) → Dt (hds L H2) (.ref p) (.list ds) := fun {H1 H2 p xs ds L} e hp h2 hl hx => .lst (by rw [hds_ne ((hl.ex e).new hp)]; exact h2) (hx L hl)
    cases rw' with
    | items zs ok =>
      refine q_when (b := true) (ev_doorL (d := 0) (ev_var rfl)) (fun _ H1 e1 => ?_) fun h => nomatch h
      refine ev_door (d := 0) (m := 0) (σ := [some (.int ((0 : Nat) : Int)), some (.str (page zs))]) (ta := tVar 0) (H := H1) (ev_var rfl) H1 (Ex.refl H1) _ fun H2 e2 => ?_
      exact ⟨.str (page zs), rfl, zs, rfl, ok, fun H3 p e3 hp h3 => q _ H3 ((e1.trans e2).trans e3) fun L hl => done (e1.trans e2) hp h3 hl fun L hl => dts_strs zs⟩
    | seen os ok =>
      refine q_when (b := true) (ev_doorL (d := 1) (ev_var rfl)) (fun _ H1 e1 => ?_) fun h => nomatch h
      refine ev_door (d := 1) (m := 0) (σ := [some (.int ((1 : Nat) : Int)), some (.str (page (os.map oW)))]) (ta := tVar 0) (H := H1) (ev_var rfl) H1 (Ex.refl H1) _ fun H2 e2 => ?_
      exact ⟨.str (page (os.map oW)), rfl, os, rfl, ok, fun H3 p e3 hp h3 => q _ H3 ((e1.trans e2).trans e3) fun L hl => done (e1.trans e2) hp h3 hl fun L hl => dts_o os⟩
    | edges es ok =>
      refine q_when (b := false) (ev_doorL (d := 2) (ev_var rfl)) (fun h => nomatch h) fun _ H1 e1 => ?_
      refine ev_door (d := 2) (m := 2) (σ := [some (.int ((2 : Nat) : Int)), some (.str (pageE es))]) (ta := tVar 0) (H := H1) (ev_var rfl) H1 (Ex.refl H1) _ fun H2 e2 => ?_
      exact ⟨.str (pageE es), rfl, es, rfl, ok, fun H3 p xs e3 hp h3 hps => q _ H3 ((e1.trans e2).trans e3) fun L hl => done (e1.trans e2) hp h3 hl fun L hl => (prs_hds hps (hl.ex ((e1.trans e2).trans e3))).dts⟩
    | turns ts ok =>
      refine q_when (b := false) (ev_doorL (d := 3) (ev_var rfl)) (fun h => nomatch h) fun _ H1 e1 => ?_
      refine ev_door (d := 3) (m := 2) (σ := [some (.int ((3 : Nat) : Int)), some (.str (pageT ts))]) (ta := tVar 0) (H := H1) (ev_var rfl) H1 (Ex.refl H1) _ fun H2 e2 => ?_
      exact ⟨.str (pageT ts), rfl, ts, rfl, ok, fun H3 p rs e3 hp h3 hrw nd fr => q _ H3 ((e1.trans e2).trans e3) fun L hl => done (e1.trans e2) hp h3 hl fun L hl => (hrw.map fun b t m hb => by rw [hds_ne ((hl.ex (e1.trans e2)).new (fr b m).1)]; exact hb).dts⟩
/-- an entry for one of the four kinds -/
def ElOk : Nat → PyData → Prop
  | 0, d => ∃ z, d = .str z ∧ nameB z = true ∧ PyData.strOk z = true
  | 1, d => d = .none ∨ ∃ z, d = .str z ∧ nameB z = true ∧ PyData.strOk z = true
  | 2, d => ∃ e : Pr, d = Os.prD e ∧ e.1 < e.2 ∧ e.2 < 40
  | _, d => ∃ t, d = .list (natsD t) ∧ TurnOk t
def spNew : Sp := fun vs H Q _ => ∃ (s : Addr) (door B : Nat), vs = [.ref s, .int (door : Int)] ∧ Src H s B ∧ B ≤ 700000 ∧ door ≤ 3 ∧
  ∀ v d H', Drew s (B + 50) H H' → (∀ L, s ∈ L → Lists H L → Dt (hds L H') v d) → ElOk door d → d ≠ .none → Q v H'
theorem letterAt {r : Nat} (h : r < 26) : ∃ c, alphabet.cps.toList[r]? = some c ∧ 97 ≤ c ∧ c ≤ 122 := ⟨97 + r, alph_at h, by omega, by omega⟩
theorem ok_new {f fK : Addr} {fd fdK : FuncData} {k : Nat} (F : Fun K "_law_new" "_law_new" sNew f fd)
    (GK : FnOk P w K mg base CX0 k fK fdK ["source", "count"] spPick) (FK : Fun K "_law_pick" "_law_pick" sPick fK fdK) (bK : Binds K fdK ["source", "count"] []) (gK : mg "_law_pick" = some (.ref fK)) (mRange : mg "range" = none) : FnOk P w K mg base CX0 (k + 1) f fd ["source", "door"] spNew := by
  refine F.ok scNew (fun vs H Q E h => ?_) (fun cdv A outer s0 H vs Q E hr h => ?_)
  · obtain ⟨s, door, B, rfl, _⟩ := h
    rfl
  · obtain ⟨s, door, B, rfl, hS, hB, hdoor, q⟩ := h
    refine ⟨_, (pss_cons (ps_set (i := 2) scNew.nd rfl (.inl rfl) pe_str)
      (pss_cons (ps_set (i := 3) scNew.nd rfl (.inl rfl) (pe_op op_add_str (pe_op op_add_str (pe_ix ix_str (pv 2) (pe_call GK hr (by rfl) gK FK.kp bK .nil pass0 (pa_cons (pv 0) (pa_cons pe_int pa_nil))) (fun _ _ => rfl)) pe_str) (pe_ix ix_str (pv 2) (pe_call GK hr (by rfl) gK FK.kp bK .nil pass0 (pa_cons (pv 0) (pa_cons pe_int pa_nil))) (fun _ _ => rfl))))
      (pss_cons (ps_set (i := 4) scNew.nd rfl (.inl rfl) (pe_call GK hr (by rfl) gK FK.kp bK .nil pass0 (pa_cons (pv 0) (pa_cons pe_int pa_nil))))
      (pss_cons (ps_set (i := 5) scNew.nd rfl (.inl rfl) (pe_tup (pa_cons (pv 4) (pa_cons (pe_op op_add (pe_op op_add (pv 4) pe_int) (pe_call GK hr (by rfl) gK FK.kp bK .nil pass0 (pa_cons (pv 0) (pa_cons (pe_op op_sub pe_int (pv 4)) pa_nil)))) pa_nil))))
      (pss_cons (ps_setLc (i := 6) (own := [("spot", 7)]) (g := gName 7) (tt := tTest (tOp rEq (tCall spPick [] E0 (tCons (tVar 0) (tCons (tC (.int 9)) tNil))) (tC (.int 0)))) (te := tVar 7) rfl scNew.nd rfl rfl (sw_true rfl rfl rfl (by decide +kernel)) (pi_range1 (by rfl) mRange (pa_cons pe_int pa_nil)) (blkOk_by (N := ["source", "door", "letters", "name", "one", "pair", "part", "spot"]) (sc := defScope sNew) (by decide +kernel)) (fun _ _ _ _ _ => pg_name (i := 7) scNew.nd rfl (Or.inl rfl)) (fun _ _ _ _ _ => pts_one (pt_cmpR op_eq (pe_call GK hr (by rfl) gK FK.kp bK .nil pass0 (pa_cons (pv 0) (pa_cons pe_int pa_nil))) pe_int (nomark _))) (fun _ _ _ _ _ => pv 7))
      (pss_one (ps_ret (pe_ix ix_list (pe_lst (pa_cons (pv 3) (pa_cons (pv 3) (pa_cons (pv 5) (pa_cons (pv 6) pa_nil))))) (pv 1) (fun _ _ => rfl))))))))), ?_⟩
    have src0 := hS.at
    have sL : alphabet.length ≤ 100000 := by decide
    refine q_asg (v := .str alphabet) ev_c fun H1 e1 => ?_
    -- name
    refine ⟨.str alphabet, rfl, .ref s, rfl, s, 26, B, rfl, hS.ex e1, by omega, by decide, by decide, fun H2 r2 d2 r20 r21 => ?_⟩
    obtain ⟨c2, hc2, c2a, c2b⟩ := letterAt (show r2.toNat < 26 by omega)
    refine ⟨alphabet, r2, c2, rfl, rfl, sz_of sL, by rw [show r2 = (r2.toNat : Int) by omega]; exact atI_nat hc2, ⟨#[c2]⟩, "q", rfl, rfl, by show 2 ≤ sizeLine; decide, ?_⟩
    refine ⟨.str alphabet, rfl, .ref s, rfl, s, 26, B + 1, rfl, d2.src, by omega, by decide, by decide, fun H3 r3 d3 r30 r31 => ?_⟩
    obtain ⟨c3, hc3, c3a, c3b⟩ := letterAt (show r3.toNat < 26 by omega)
    refine ⟨alphabet, r3, c3, rfl, rfl, sz_of sL, by rw [show r3 = (r3.toNat : Int) by omega]; exact atI_nat hc3, (⟨#[c2]⟩ : Str) ++ ("q" : Str), ⟨#[c3]⟩, rfl, rfl, by rw [strLen_append]; show 3 ≤ sizeLine; decide, ?_⟩
    dsimp only [gName]
    have D3 : Drew s (B + 2) H H3 := (((Drew.refl hS).ex e1).trans d2).trans d3
    -- one, pair
    refine ⟨.ref s, rfl, s, 39, B + 1 + 1, rfl, d3.src, by omega, by decide, by decide, fun H4 r4 d4 r40 r41 => ?_⟩
    dsimp only [gName]
    refine ⟨.int r4, rfl, .int r4, rfl, r4, 1, rfl, rfl, .ref s, rfl, .int r4, rfl, 39, r4, rfl, rfl, s, 39 - r4, B + 1 + 1 + 1, rfl, d4.src, by omega, by omega, by omega, fun H5 r5 d5 r50 r51 => ⟨r4 + 1, r5, rfl, rfl, show 2 ≤ sizeLine by decide, fun t ht => ?_⟩⟩
    dsimp only [gName]
    have et := Ex.new (o := .tup [.int r4, .int (r4 + 1 + r5)]) ht
    have D5 : Drew s (B + 4) H (upd H5 t (.tup [.int r4, .int (r4 + 1 + r5)])) := ((D3.trans d4).trans d5).ex et
    have nts : t ≠ s := new_apart d5.src.at ht
    have ht0 : H t = none := ((D3.trans d4).trans d5).none src0 ht
    have htt : upd H5 t (.tup [.int r4, .int (r4 + 1 + r5)]) t = some (.tup [.int r4, .int (r4 + 1 + r5)]) := upd_same
    generalize upd H5 t (.tup [.int r4, .int (r4 + 1 + r5)]) = H6 at D5 htt
    -- part
    refine ⟨40, rfl, by decide, by decide, fun D hD => ?_⟩
    have hD0 : H D = none := D5.none src0 hD
    have nDs : D ≠ s := new_apart D5.src.at hD
    have nDt : D ≠ t := (ne_of_none htt hD).symm
    refine lc_range (lo := 0) (n := (40 : Int).toNat) (fun i Hh => ∃ u : List Nat, Hh D = some (.lst (nats u)) ∧ u.length ≤ i ∧ (∀ x ∈ u, x < i) ∧ u.Nodup ∧ Hh t = some (.tup [.int r4, .int (r4 + 1 + r5)]) ∧ Drew s (B + 4 + i) H Hh) ?_ ?_ ?_
    · exact ⟨[], upd_same, Nat.le_refl _, (fun x h => nomatch h), .nil, by rw [upd_ne nDt.symm]; exact htt, D5.mut src0 hD0⟩
    · rintro i Hh hi ⟨u, hu, ul, ui, und, htH, dr⟩
      have hi' : i < 40 := hi
      have e0 : (0 : Int) + (i : Int) = (i : Int) := Int.zero_add _
      rw [e0]
      refine ⟨rfl, ?_⟩
      refine ⟨.ref s, rfl, s, 9, B + 4 + i, rfl, dr.src, by omega, by decide, by decide, fun H7 r7 d7 r70 r71 => ⟨rfl, decide (V.int r7 = V.int 0), rfl, ?_⟩⟩
      have dr7 := dr.trans d7
      have hu7 := d7.get nDs hu
      have ht7 := d7.get nts htH
      cases hb : decide (V.int r7 = V.int 0) with
      | true =>
        dsimp only
        rw [if_pos rfl]
        refine ⟨.int (i : Int), rfl, nats u, hu7, sz_lt (by rw [List.length_map]; omega), u ++ [i], ?_, by rw [List.length_append]; show u.length + 1 ≤ i + 1; omega, fun x hx => ?_, ?_, by rw [upd_ne nDt.symm]; exact ht7, dr7.mut src0 hD0⟩
        · rw [upd_same, nats, nats, List.map_append]
          rfl
        · rcases List.mem_append.mp hx with hx | hx
          · have := ui x hx
            omega
          · rw [List.mem_singleton.mp hx]
            exact Nat.lt_succ_self i
        · refine List.nodup_append.mpr ⟨und, List.nodup_cons.mpr ⟨by simp, .nil⟩, fun x1 h1 x2 h2 e => ?_⟩
          rw [List.mem_singleton.mp h2] at e
          have := ui x1 h1
          omega
      | false =>
        dsimp only
        rw [if_neg (by decide)]
        exact ⟨u, hu7, by omega, fun x hx => by have := ui x hx; omega, und, ht7, dr7.mono (by omega)⟩
    · rintro Hh ⟨u, hu, ul, ui, und, htH, dr⟩
      have u40 : u.length ≤ 40 := ul
      have uin : ∀ x ∈ u, x < 40 := ui
      dsimp only [gName]
      refine ⟨_, rfl, _, rfl, _, rfl, _, rfl, show 4 ≤ sizeLine by decide, fun p hp => ?_⟩
      have ep := Ex.new (o := .lst [.str ((⟨#[c2]⟩ : Str) ++ ("q" : Str) ++ (⟨#[c3]⟩ : Str)), .str ((⟨#[c2]⟩ : Str) ++ ("q" : Str) ++ (⟨#[c3]⟩ : Str)), .ref t, .ref D]) hp
      have dr' : Drew s (B + 50) H (upd Hh p (.lst [.str ((⟨#[c2]⟩ : Str) ++ ("q" : Str) ++ (⟨#[c3]⟩ : Str)), .str ((⟨#[c2]⟩ : Str) ++ ("q" : Str) ++ (⟨#[c3]⟩ : Str)), .ref t, .ref D])) := (dr.ex ep).mono (by omega)
      have name : nameB ((⟨#[c2]⟩ : Str) ++ ("q" : Str) ++ (⟨#[c3]⟩ : Str)) = true ∧ PyData.strOk ((⟨#[c2]⟩ : Str) ++ ("q" : Str) ++ (⟨#[c3]⟩ : Str)) = true := by
        have el : ((⟨#[c2]⟩ : Str) ++ ("q" : Str) ++ (⟨#[c3]⟩ : Str)).cps.toList = [c2, 113, c3] := by
          rw [PyProof.Rows.cps_toList_append, PyProof.Rows.cps_toList_append]
          have : ("q" : Str).cps.toList = [113] := by decide
          rw [this]
          rfl
        have len : ((⟨#[c2]⟩ : Str) ++ ("q" : Str) ++ (⟨#[c3]⟩ : Str)).length = 3 := by
          show Array.size _ = 3
          rw [← Array.length_toList, el]
          rfl
        constructor
        · unfold nameB
          rw [len, el]
          simp [letterB, c2a, c2b, c3a, c3b]
        · unfold PyData.strOk
          rw [← Array.all_toList, el]
          simp
          omega
      have out : ∀ L, s ∈ L → Lists H L → t ∉ L ∧ D ∉ L := fun L _ hl => ⟨hl.new ht0, hl.new hD0⟩
      have e4 : ∃ n4 : Nat, r4 = (n4 : Int) := ⟨r4.toNat, by omega⟩
      have e5 : ∃ n5 : Nat, r4 + 1 + r5 = (n5 : Int) := ⟨(r4 + 1 + r5).toNat, by omega⟩
      obtain ⟨n4, hn4⟩ := e4
      obtain ⟨n5, hn5⟩ := e5
      refine ⟨.int (door : Int), rfl, p, [.str ((⟨#[c2]⟩ : Str) ++ ("q" : Str) ++ (⟨#[c3]⟩ : Str)), .str ((⟨#[c2]⟩ : Str) ++ ("q" : Str) ++ (⟨#[c3]⟩ : Str)), .ref t, .ref D], (door : Int), ?_⟩
      match door, hdoor with
      | 0, _ => exact ⟨_, rfl, rfl, sq_of upd_same, atI_nat (j := 0) rfl, q _ _ _ dr' (fun L _ _ => .str _) ⟨_, rfl, name⟩ (fun h => nomatch h)⟩
      | 1, _ => exact ⟨_, rfl, rfl, sq_of upd_same, atI_nat (j := 1) rfl, q _ _ _ dr' (fun L _ _ => .str _) (.inr ⟨_, rfl, name⟩) (fun h => nomatch h)⟩
      | 2, _ => exact ⟨_, rfl, rfl, sq_of upd_same, atI_nat (j := 2) rfl, q _ (Os.prD (n4, n5)) _ dr' (fun L hs hl => .tup (by rw [hds_ne (out L hs hl).1]; exact ep _ _ htH) (by rw [hn4, show (n4 : Int) + 1 + r5 = (n5 : Int) by omega]; exact .cons (.int _) (.cons (.int _) .nil))) ⟨(n4, n5), rfl, by show n4 < n5; omega, by show n5 < 40; omega⟩ (fun h => nomatch h)⟩
      | 3, _ => exact ⟨_, rfl, rfl, sq_of upd_same, atI_nat (j := 3) rfl, q _ (.list (natsD u)) _ dr' (fun L hs hl => .lst (by rw [hds_ne (out L hs hl).2]; exact ep _ _ hu) (dts_nats u)) ⟨u, rfl, u40, uin, und⟩ (fun h => nomatch h)⟩
end
end K95
namespace K95
open PySem PySem.Spec PyProof.Rows L2 Os Evl
abbrev sChange : Stmt := topS 34
theorem scChange : FnScope ["source", "row", "most", "new", "at", "to", "way", "one", "two"] ["source", "row", "most", "new"] (defScope sChange) := ⟨rfl, rfl, rfl, by decide +kernel, rfl, by decide +kernel, by decide +kernel⟩
def mostOf (door : Nat) : Nat := if door = 2 then 100 else 40
structure RowOk (door : Nat) (ds : List PyData) : Prop where
  few : ds.length ≤ mostOf door
  ne : door ≠ 2 → ds ≠ []
  ok : ∀ d ∈ ds, ElOk door d
  dist : door = 3 ∨ ds.Pairwise fun a b => a = .none ∨ a ≠ b
theorem apart_symm {a b : PyData} (h : a = .none ∨ a ≠ b) : b = .none ∨ b ≠ a := by
  by_cases hb : b = .none
  · exact .inl hb
  · exact .inr fun e => h.elim (fun ha => hb (e.trans ha)) fun hn => hn e.symm
theorem most_le (door : Nat) : mostOf door ≤ 100 := by unfold mostOf; split <;> decide
theorem set_perm {α : Type} {l : List α} {j : Nat} (h : j < l.length) (d : α) : (l.set j d).Perm (d :: l.eraseIdx j) := by
  rw [List.set_eq_take_append_cons_drop, if_pos h, List.eraseIdx_eq_take_drop_succ]
  exact List.perm_middle
theorem RowOk.perm {door : Nat} {ds es : List PyData} (h : RowOk door ds) (p : es.Perm ds) : RowOk door es :=
  ⟨by rw [p.length_eq]; exact h.few, fun hd e => h.ne hd (by rw [e] at p; exact p.symm.eq_nil), fun d hd => h.ok d (p.mem_iff.mp hd), h.dist.imp id fun x => (List.Perm.pairwise_iff (fun {_ _} => apart_symm) p).mpr x⟩
theorem RowOk.cons {door : Nat} {ds : List PyData} {d : PyData} (h : RowOk door ds) (hd : ElOk door d) (n : d ∉ ds ∨ d = .none) (l : ds.length < mostOf door) : RowOk door (d :: ds) :=
  ⟨l, (fun _ e => nomatch e), fun x hx => by
    rcases List.mem_cons.mp hx with rfl | hx
    · exact hd
    · exact h.ok x hx, h.dist.imp id fun x => List.pairwise_cons.mpr ⟨fun b hb => by
      rcases n with n | n
      · exact .inr fun e => n (by rw [e]; exact hb)
      · exact .inl n, x⟩⟩
theorem RowOk.ins {door : Nat} {ds : List PyData} {d : PyData} (h : RowOk door ds) (hd : ElOk door d) (n : d ∉ ds) (l : ds.length < mostOf door) (i : Nat) : RowOk door (ds.take i ++ [d] ++ ds.drop i) :=
  (h.cons hd (.inl n) l).perm (by
    rw [List.append_assoc]
    refine List.Perm.trans (l₂ := d :: (ds.take i ++ ds.drop i)) List.perm_middle ?_
    rw [List.take_append_drop])
theorem RowOk.sub {door : Nat} {ds es : List PyData} (h : RowOk door ds) (s : es.Sublist ds) (ne : door ≠ 2 → es ≠ []) : RowOk door es :=
  ⟨Nat.le_trans s.length_le h.few, ne, fun d hd => h.ok d (s.subset hd), h.dist.imp id fun x => x.sublist s⟩
theorem RowOk.set {door : Nat} {ds : List PyData} {d : PyData} {j : Nat} (h : RowOk door ds) (hd : ElOk door d) (n : d ∉ ds ∨ d = .none ∨ door = 3) (hj : j < ds.length) : RowOk door (ds.set j d) := by
  refine ⟨by rw [List.length_set]; exact h.few, fun _ e => ?_, fun x hx => ?_, ?_⟩
  · have := congrArg List.length e
    rw [List.length_set] at this
    have h0 : ds.length = 0 := this
    omega
  · rcases List.mem_or_eq_of_mem_set hx with hx | rfl
    · exact h.ok x hx
    · exact hd
  · rcases h.dist with e | x
    · exact .inl e
    · rcases n with n | n | n
      · refine .inr ((List.Perm.pairwise_iff (fun {_ _} => apart_symm) (set_perm hj d)).mpr (List.pairwise_cons.mpr ⟨fun b hb => .inr fun e => n (by rw [e]; exact List.mem_of_mem_eraseIdx hb), x.sublist (List.eraseIdx_sublist ds j)⟩))
      · exact .inr ((List.Perm.pairwise_iff (fun {_ _} => apart_symm) (set_perm hj d)).mpr (List.pairwise_cons.mpr ⟨fun b hb => .inl n, x.sublist (List.eraseIdx_sublist ds j)⟩))
      · exact .inl n
theorem swap_perm {α : Type} {l : List α} {i j : Nat} {x y : α} (hi : l[i]? = some x) (hj : l[j]? = some y) : ((l.set i y).set j x).Perm l := by
  obtain ⟨li, ei⟩ := List.getElem?_eq_some_iff.mp hi
  obtain ⟨lj, ej⟩ := List.getElem?_eq_some_iff.mp hj
  subst ei ej
  exact List.set_set_perm li lj
theorem elok_sh {door : Nat} {d : PyData} (h : ElOk door d) : Sh 1 d := by
  match door, h with
  | 0, ⟨z, e, _, so⟩ => subst e; exact .str 1 so
  | 1, .inl e => subst e; exact ⟨rfl, Nat.zero_le _⟩
  | 1, .inr ⟨z, e, _, so⟩ => subst e; exact .str 1 so
  | 2, ⟨e, h, _⟩ =>
    subst h
    exact .tup fun x hx => by
      rcases List.mem_cons.mp hx with rfl | hx
      · exact .int 0 _
      · rw [List.mem_singleton.mp hx]
        exact .int 0 _
  | _ + 3, ⟨t, e, _⟩ =>
    subst e
    exact .lst fun d hd => by
      obtain ⟨x, _, rfl⟩ := List.mem_map.mp hd
      exact .int 0 _
theorem RowOk.sh {door : Nat} {ds : List PyData} (h : RowOk door ds) : Sh 2 (.list ds) := .lst fun d hd => elok_sh (h.ok d hd)
theorem somes_nd : ∀ {os : List (Option Str)}, os.Pairwise (fun a b => oD a = .none ∨ oD a ≠ oD b) → (os.filterMap id).Nodup
  | [], _ => .nil
  | none :: os, x => somes_nd (os := os) (List.pairwise_cons.mp x).2
  | some z :: os, x => by
    obtain ⟨h1, h2⟩ := List.pairwise_cons.mp x
    refine List.nodup_cons.mpr ⟨fun m => ?_, somes_nd (os := os) h2⟩
    obtain ⟨o', m1, m2⟩ := List.mem_filterMap.mp m
    have : o' = some z := m2
    subst this
    exact (h1 _ m1).elim (fun z => nomatch z) fun n => n rfl
/-- each such row has its text -/
theorem RowOk.rw' {door : Nat} {ds : List PyData} (h : RowOk door ds) (le : door ≤ 3) : ∃ pg, Rw door ds pg := by
  match door, le, h with
  | 0, _, h =>
    have : ∀ ds : List PyData, (∀ d ∈ ds, ElOk 0 d) → ∃ zs : List Str, ds = zs.map PyData.str ∧ ∀ z ∈ zs, nameB z = true ∧ PyData.strOk z = true := fun ds => by
      induction ds with
      | nil => exact fun _ => ⟨[], rfl, fun z h => nomatch h⟩
      | cons d ds ih =>
        intro h
        obtain ⟨z, rfl, hz⟩ := h d List.mem_cons_self
        obtain ⟨zs, rfl, hzs⟩ := ih fun x hx => h x (List.mem_cons_of_mem _ hx)
        exact ⟨z :: zs, rfl, fun y hy => by
          rcases List.mem_cons.mp hy with rfl | hy
          · exact hz
          · exact hzs y hy⟩
    obtain ⟨zs, rfl, hzs⟩ := this ds h.ok
    refine ⟨_, .items zs (obs_row (fun e => h.ne (by decide) (by rw [e]; rfl)) (by have := h.few; rw [List.length_map] at this; exact this) hzs ?_)⟩
    rcases h.dist with e | x
    · cases e
    · unfold List.Nodup
      rw [List.pairwise_map] at x
      exact x.imp fun h e => h.elim (fun z => nomatch z) fun n => n (by rw [e])
  | 1, _, h =>
    have : ∀ ds : List PyData, (∀ d ∈ ds, ElOk 1 d) → ∃ os : List (Option Str), ds = os.map oD ∧ ∀ z, some z ∈ os → nameB z = true ∧ PyData.strOk z = true := fun ds => by
      induction ds with
      | nil => exact fun _ => ⟨[], rfl, fun z h => nomatch h⟩
      | cons d ds ih =>
        intro h
        obtain ⟨os, rfl, hos⟩ := ih fun x hx => h x (List.mem_cons_of_mem _ hx)
        rcases h d List.mem_cons_self with rfl | ⟨z, rfl, hz⟩
        · exact ⟨none :: os, rfl, fun y hy => by
            rcases List.mem_cons.mp hy with e | hy
            · cases e
            · exact hos y hy⟩
        · exact ⟨some z :: os, rfl, fun y hy => by
            rcases List.mem_cons.mp hy with e | hy
            · cases e
              exact hz
            · exact hos y hy⟩
    obtain ⟨os, rfl, hos⟩ := this ds h.ok
    refine ⟨_, .seen os ⟨fun e => h.ne (by decide) (by rw [e]; rfl), by have := h.few; rw [List.length_map] at this; exact this, hos, ?_⟩⟩
    rcases h.dist with e | x
    · cases e
    · rw [List.pairwise_map] at x
      exact somes_nd x
  | 2, _, h =>
    have : ∀ ds : List PyData, (∀ d ∈ ds, ElOk 2 d) → ∃ es : List Pr, ds = es.map Os.prD ∧ ∀ e ∈ es, e.1 < e.2 ∧ e.2 < 40 := fun ds => by
      induction ds with
      | nil => exact fun _ => ⟨[], rfl, fun z h => nomatch h⟩
      | cons d ds ih =>
        intro h
        obtain ⟨z, rfl, hz⟩ := h d List.mem_cons_self
        obtain ⟨zs, rfl, hzs⟩ := ih fun x hx => h x (List.mem_cons_of_mem _ hx)
        exact ⟨z :: zs, rfl, fun y hy => by
          rcases List.mem_cons.mp hy with rfl | hy
          · exact hz
          · exact hzs y hy⟩
    obtain ⟨es, rfl, hes⟩ := this ds h.ok
    refine ⟨_, .edges es ⟨by have := h.few; rw [List.length_map] at this; exact this, hes, ?_⟩⟩
    rcases h.dist with e | x
    · cases e
    · unfold List.Nodup
      rw [List.pairwise_map] at x
      exact x.imp fun h e => h.elim (fun z => nomatch z) fun n => n (by rw [e])
  | 3, _, h =>
    have : ∀ ds : List PyData, (∀ d ∈ ds, ElOk 3 d) → ∃ ts : List (List Nat), ds = rowsD ts ∧ ∀ t ∈ ts, TurnOk t := fun ds => by
      induction ds with
      | nil => exact fun _ => ⟨[], rfl, fun z h => nomatch h⟩
      | cons d ds ih =>
        intro h
        obtain ⟨z, rfl, hz⟩ := h d List.mem_cons_self
        obtain ⟨zs, rfl, hzs⟩ := ih fun x hx => h x (List.mem_cons_of_mem _ hx)
        exact ⟨z :: zs, rfl, fun y hy => by
          rcases List.mem_cons.mp hy with rfl | hy
          · exact hz
          · exact hzs y hy⟩
    obtain ⟨ts, rfl, hts⟩ := this ds h.ok
    exact ⟨_, .turns ts ⟨fun e => h.ne (by decide) (by rw [e]; rfl), by have := h.few; rw [List.length_map] at this; exact this, hts⟩⟩
section
variable {P : Program} {w : World} {K : PySem.W.Frag} {mg : Str → Option Value} {base : Heap}
def spChange : Sp := fun vs H Q _ => ∃ (s a : Addr) (door B : Nat) (v : V) (L : List Addr) (xs : List V) (ds : List PyData) (d : PyData), vs = [.ref s, .ref a, .int (mostOf door : Int), v] ∧ Src H s B ∧ B ≤ 700000 ∧ a ≠ s ∧ s ∈ L ∧ a ∈ L ∧
  H a = some (.lst xs) ∧ Dts (hds L H) xs ds ∧ RowOk door ds ∧ Dt (hds L H) v d ∧ ElOk door d ∧
  ∀ H' xs' ds', Drw2 s a (B + 3) H H' → H' a = some (.lst xs') → Dts (hds L H') xs' ds' → RowOk door ds' → Q .non H'
theorem ok_change {f fK : Addr} {fd fdK : FuncData} {k : Nat} (F : Fun K "_law_change" "_law_change" sChange f fd)
    (GK : FnOk P w K mg base CX0 k fK fdK ["source", "count"] spPick) (FK : Fun K "_law_pick" "_law_pick" sPick fK fdK) (bK : Binds K fdK ["source", "count"] []) (gK : mg "_law_pick" = some (.ref fK)) (mLen : mg "len" = none) (mMin : mg "min" = none) : FnOk P w K mg base CX0 (k + 1) f fd ["source", "row", "most", "new"] spChange := by
  refine F.ok scChange (fun vs H Q E h => ?_) (fun cdv A outer s0 H vs Q E hr h => ?_)
  · obtain ⟨s, a, door, B, v, L, xs, ds, d, rfl, _⟩ := h
    rfl
  · obtain ⟨s, a, door, B, v, L, xs, ds, d, rfl, hS, hB, nas, sL, aL, ha, hd, ok, hv, okd, q⟩ := h
    have hu := room65 hr
    refine ⟨_, (pss_cons (ps_par (i := 4) (j := 5) rfl scChange.nd rfl rfl (by decide) rfl rfl (pa_cons (pe_call GK hr (by rfl) gK FK.kp bK .nil pass0 (pa_cons (pv 0) (pa_cons (pe_op op_add (pe_callB call_len_seq (by rfl) mLen boot_len (pa_cons (pv 1) pa_nil)) pe_int) pa_nil))) (pa_cons (pe_call GK hr (by rfl) gK FK.kp bK .nil pass0 (pa_cons (pv 0) (pa_cons (pe_op op_add (pe_callB call_len_seq (by rfl) mLen boot_len (pa_cons (pv 1) pa_nil)) pe_int) pa_nil))) pa_nil)) (by rfl))
      (pss_cons (ps_set (i := 6) scChange.nd rfl (.inl rfl) (pe_call GK hr (by rfl) gK FK.kp bK .nil pass0 (pa_cons (pv 0) (pa_cons pe_int pa_nil))))
      (pss_one (ps_if (PW.pt (pw_and (pt_cmpR op_eq (pv 6) pe_int (nomark _)) (pw_and (pt_cmpR op_lt (pe_callB call_len_seq (by rfl) mLen boot_len (pa_cons (pv 1) pa_nil)) (pv 2) (nomark _)) (pw_and1 (pt_cmpR (op_notInD hu) (pv 3) (pv 1) (by rfl)))))) (pss_one (ps_expr (pe_bm PySem.F.plainAttrs_list PySem.F.slot_list_insert PySem.F.type_list_insert mt_insert (pv 1) (pa_cons (pv 4) (pa_cons (pv 3) pa_nil))))) (pss_one (ps_if (PW.pt (pw_and (pt_cmpR op_eq (pv 6) pe_int (nomark _)) (pw_and1 (pt_cmpR op_gt (pe_callB call_len_seq (by rfl) mLen boot_len (pa_cons (pv 1) pa_nil)) pe_int (nomark _))))) (pss_one (ps_expr (pe_bm PySem.F.plainAttrs_list PySem.F.slot_list_pop PySem.F.type_list_pop mt_popAt (pv 1) (pa_cons (pe_callB (call_min2 rfl) (by rfl) mMin boot_min (pa_cons (pv 4) (pa_cons (pe_op op_sub (pe_callB call_len_seq (by rfl) mLen boot_len (pa_cons (pv 1) pa_nil)) pe_int) pa_nil))) pa_nil)))) (pss_one (ps_if (PW.pt (pw_and (pt_cmpR op_eq (pv 6) pe_int (nomark _)) (pw_and (pt_cmpR op_gt (pe_callB call_len_seq (by rfl) mLen boot_len (pa_cons (pv 1) pa_nil)) pe_int (nomark _)) (pw_and1 (pt_cmpR (op_notInD hu) (pv 3) (pv 1) (by rfl)))))) (pss_one (ps_asg (pv 3) (pg_sub (pv 1) (pe_callB (call_min2 rfl) (by rfl) mMin boot_min (pa_cons (pv 4) (pa_cons (pe_op op_sub (pe_callB call_len_seq (by rfl) mLen boot_len (pa_cons (pv 1) pa_nil)) pe_int) pa_nil))) set_list (fun _ => rfl)))) (pss_one (ps_if (pt_cmpR op_gt (pe_callB call_len_seq (by rfl) mLen boot_len (pa_cons (pv 1) pa_nil)) pe_int (nomark _)) (pss_cons (ps_par (i := 7) (j := 8) rfl scChange.nd rfl rfl (by decide) rfl rfl (pa_cons (pe_callB (call_min2 rfl) (by rfl) mMin boot_min (pa_cons (pv 4) (pa_cons (pe_op op_sub (pe_callB call_len_seq (by rfl) mLen boot_len (pa_cons (pv 1) pa_nil)) pe_int) pa_nil))) (pa_cons (pe_callB (call_min2 rfl) (by rfl) mMin boot_min (pa_cons (pv 5) (pa_cons (pe_op op_sub (pe_callB call_len_seq (by rfl) mLen boot_len (pa_cons (pv 1) pa_nil)) pe_int) pa_nil))) pa_nil)) (by rfl))
      (pss_one (ps_asg (pe_tup (pa_cons (pe_ix ix_list (pv 1) (pv 8) (fun _ _ => rfl)) (pa_cons (pe_ix ix_list (pv 1) (pv 7) (fun _ _ => rfl)) pa_nil))) (pg_tup rfl (pgs_cons (pg_sub (pv 1) (pv 7) set_list (fun _ => rfl)) (pgs_cons (pg_sub (pv 1) (pv 8) set_list (fun _ => rfl)) pgs_nil)))))) pss_nil)))))))))), ?_⟩
    have lx := hd.length
    have few := ok.few
    have m100 := most_le door
    -- at, to, way
    refine ⟨.ref s, rfl, .ref a, rfl, a, xs, rfl, .inl (sq_of ha), (xs.length : Int), 1, rfl, rfl, s, (xs.length : Int) + 1, B, rfl, hS, by omega, by omega, by omega, fun H1 r1 d1 r10 r11 => ?_⟩
    have ha1 := d1.get nas ha
    refine ⟨.ref s, rfl, .ref a, rfl, a, xs, rfl, .inl (sq_of ha1), (xs.length : Int), 1, rfl, rfl, s, (xs.length : Int) + 1, B + 1, rfl, d1.src, by omega, by omega, by omega, fun H2 r2 d2 r20 r21 => ⟨_, _, rfl, ?_⟩⟩
    refine ⟨.ref s, rfl, s, 4, B + 1 + 1, rfl, d2.src, by omega, by decide, by decide, fun H3 r3 d3 r30 r31 => ?_⟩
    have D3 : Drew s (B + 3) H H3 := (d1.trans d2).trans d3
    have ha3 := D3.get nas ha
    have hd3 := hd.hex (hds_drew D3 sL)
    have hv3 := hv.hex (hds_drew D3 sL)
    dsimp only [gName]
    have two3 : Drw2 s a (B + 3) H H3 := D3.two
    obtain ⟨n1, e1⟩ : ∃ n : Nat, r1 = (n : Int) := ⟨r1.toNat, by omega⟩
    obtain ⟨n2, e2⟩ : ∃ n : Nat, r2 = (n : Int) := ⟨r2.toNat, by omega⟩
    subst e1 e2
    -- what follows a change of the row
    have fin : ∀ {G : Hp} {ys : List V} {es : List PyData}, Ex H3 G → Dts (hds L G) ys es → RowOk door es → Q .non (upd G a (.lst ys)) := fun {G ys es} e hy hok =>
      q _ ys es ((two3.ex e).row nas) upd_same (by rw [hds_upd aL]; exact hy) hok
    have same : ∀ {G : Hp}, Ex H3 G → Q .non G := fun e => q _ xs ds (two3.ex e) (e _ _ ha3) (hd3.hex (hds_ex e)) ok
    have lenE : ∀ {σ : L2.St} {G : Hp}, σ[1]? = some (some (.ref a)) → Ex H3 G → Ev (tCB (fun xs H Q => ∃ p ys, xs = [V.ref p] ∧ (SqL K H p ys ∨ SqT K H p ys) ∧ Q (.int ys.length) H) (tCons (tVar 1) tNil)) σ G (.int (xs.length : Int)) := fun h e => ev_len' (ev_var h) (e _ _ ha3)
    have ninE : ∀ {σ : L2.St} {G : Hp}, σ[1]? = some (some (.ref a)) → σ[3]? = some (some v) → Ex H3 G → EvT (tTest (tOp (rNotInD K) (tVar 3) (tVar 1))) σ G (!ds.any fun z => PyData.eqv z d) := fun {σ G} h1 h3 e => et_test (ev_op (ev_var h3) (ev_var h1) fun G1 eG Q q =>
      ⟨d, ds, ((hv3.hex (hds_ex (e.trans eG))).hex hds_up).dp, Dt.dp (.lst ((e.trans eG) _ _ ha3) ((hd3.hex (hds_ex (e.trans eG))).hex hds_up)), (elok_sh okd).shaped (by decide), ok.sh.shaped (by decide), q G1 (Ex.refl G1)⟩)
    have nin : (!ds.any fun z => PyData.eqv z d) = true → d ∉ ds := fun h m => by
      rw [Bool.not_eq_true', List.any_eq_false] at h
      exact h d m (elok_sh okd).refl
    have lastE : ∀ {σ : L2.St} {G : Hp} {i n : Nat}, σ[1]? = some (some (.ref a)) → σ[i]? = some (some (.int (n : Int))) → Ex H3 G → 0 < xs.length → ∃ j : Nat, j < xs.length ∧ Ev (tCB (fun xs H Q => ∃ i j, xs = [V.int i, .int j] ∧ Q (.int (if j < i then j else i)) H) (tCons (tVar i) (tCons (tOp (rI0 fun i j => .int (i - j)) (tCB (fun xs H Q => ∃ p ys, xs = [V.ref p] ∧ (SqL K H p ys ∨ SqT K H p ys) ∧ Q (.int ys.length) H) (tCons (tVar 1) tNil)) (tC (.int 1))) tNil))) σ G (.int (j : Int)) := fun {σ G i n} h1 hi e pos => by
      by_cases hlt : (xs.length : Int) - 1 < (n : Int)
      · exact ⟨xs.length - 1, by omega, ev_is (ev_min (ev_var hi) (ev_op (lenE h1 e) ev_c rv_I0)) (congrArg V.int (by rw [if_pos hlt]; omega))⟩
      · exact ⟨n, by omega, ev_is (ev_min (ev_var hi) (ev_op (lenE h1 e) ev_c rv_I0)) (congrArg V.int (by rw [if_neg hlt]))⟩
    refine s_if (b := decide (V.int r3 = V.int 0) && (decide ((xs.length : Int) < (mostOf door : Int)) && !ds.any fun z => PyData.eqv z d)) (et_and (et_test (ev_op (ev_var rfl) ev_c (rv_eq rfl))) fun _ => et_and (et_test (ev_op (lenE rfl (Ex.refl _)) (ev_var rfl) rv_I0)) fun _ => ninE rfl rfl (Ex.refl _)) (fun hb H4 e4 => ?_) fun _ H4 e4 => ?_
    · rw [Bool.and_eq_true, Bool.and_eq_true] at hb
      have hl := of_decide_eq_true hb.2.1
      refine ⟨.ref a, rfl, .inl ⟨rfl, xs, sq_of (e4 _ _ ha3)⟩, .int (n1 : Int), rfl, v, rfl, a, xs, (n1 : Int), v, rfl, rfl, e4 _ _ ha3, sz_lt (by omega), by omega, by omega, ?_⟩
      rw [Int.toNat_natCast]
      exact fin e4 (((hd3.hex (hds_ex e4)).tk n1).app (.cons (hv3.hex (hds_ex e4)) .nil) |>.app ((hd3.hex (hds_ex e4)).dr n1)) (ok.ins okd (nin hb.2.2) (by omega) n1)
    refine s_if (b := decide (V.int r3 = V.int 1) && decide ((1 : Int) < (xs.length : Int))) (et_and (et_test (ev_op (ev_var rfl) ev_c (rv_eq rfl))) fun _ => et_test (ev_op (lenE rfl e4) ev_c rv_I0)) (fun hb H5 e5 => ?_) fun _ H5 e5 => ?_
    · rw [Bool.and_eq_true] at hb
      have hl := of_decide_eq_true hb.2
      have e45 := e4.trans e5
      obtain ⟨j, hj, ej⟩ := lastE (σ := ((List.set (List.set (start ["source", "row", "most", "new", "at", "to", "way", "one", "two"] [.ref s, .ref a, .int (mostOf door : Int), v]) 4 (some (.int (n1 : Int)))) 5 (some (.int (n2 : Int)))).set 6 (some (.int r3)))) (G := H5) (i := 4) (n := n1) rfl rfl e45 (by omega)
      refine ⟨.ref a, rfl, .inl ⟨rfl, xs, sq_of (e45 _ _ ha3)⟩, ej H5 (Ex.refl H5) _ fun H6 e6 => ?_⟩
      have e46 := e45.trans e6
      refine ⟨a, xs, (j : Int), j, xs[j], rfl, rfl, e46 _ _ ha3, by omega, by omega, (ixN_seq (ixN_nat hj)).1, List.getElem?_eq_getElem hj, ?_⟩
      exact fin e46 ((hd3.hex (hds_ex e46)).er j) (ok.sub (List.eraseIdx_sublist ds j) fun _ e => by
        have := congrArg List.length e
        rw [List.length_eraseIdx_of_lt (by omega)] at this
        have h0 : ds.length - 1 = 0 := this
        omega)
    have e45 := e4.trans e5
    refine s_if (b := decide (V.int r3 = V.int 2) && (decide ((0 : Int) < (xs.length : Int)) && !ds.any fun z => PyData.eqv z d)) (et_and (et_test (ev_op (ev_var rfl) ev_c (rv_eq rfl))) fun _ => et_and (et_test (ev_op (lenE rfl e45) ev_c rv_I0)) fun _ => ninE rfl rfl e45) (fun hb H6 e6 => ?_) fun _ H6 e6 => ?_
    · rw [Bool.and_eq_true, Bool.and_eq_true] at hb
      have hl := of_decide_eq_true hb.2.1
      have e46 := e45.trans e6
      obtain ⟨j, hj, ej⟩ := lastE (σ := ((List.set (List.set (start ["source", "row", "most", "new", "at", "to", "way", "one", "two"] [.ref s, .ref a, .int (mostOf door : Int), v]) 4 (some (.int (n1 : Int)))) 5 (some (.int (n2 : Int)))).set 6 (some (.int r3)))) (G := H6) (i := 4) (n := n1) rfl rfl e46 (by omega)
      refine s_setL (e46 _ _ ha3) (ev_var rfl) (ev_var rfl) ej hj fun H7 e7 => ?_
      have e47 := e46.trans e7
      exact fin e47 ((hd3.hex (hds_ex e47)).st (hv3.hex (hds_ex e47)) j) (ok.set okd (.inl (nin hb.2.2)) (by omega))
    have e46 := e45.trans e6
    refine s_when (b := decide ((0 : Int) < (xs.length : Int))) (et_test (ev_op (lenE rfl e46) ev_c rv_I0)) (fun hb H7 e7 => ?_) fun _ H7 e7 => same (e46.trans e7)
    have hl := of_decide_eq_true hb
    have e47 := e46.trans e7
    obtain ⟨j1, hj1, ej1⟩ := lastE (σ := ((List.set (List.set (start ["source", "row", "most", "new", "at", "to", "way", "one", "two"] [.ref s, .ref a, .int (mostOf door : Int), v]) 4 (some (.int (n1 : Int)))) 5 (some (.int (n2 : Int)))).set 6 (some (.int r3)))) (G := H7) (i := 4) (n := n1) rfl rfl e47 (by omega)
    obtain ⟨j2, hj2, ej2⟩ := lastE (σ := ((List.set (List.set (start ["source", "row", "most", "new", "at", "to", "way", "one", "two"] [.ref s, .ref a, .int (mostOf door : Int), v]) 4 (some (.int (n1 : Int)))) 5 (some (.int (n2 : Int)))).set 6 (some (.int r3)))) (G := H7) (i := 5) (n := n2) rfl rfl e47 (by omega)
    refine q_par ej1 ej2 fun H9 e9 => ?_
    have e49 := e47.trans e9
    have ha9 := e49 _ _ ha3
    have hx1 : xs[j1]? = some xs[j1] := List.getElem?_eq_getElem hj1
    have hx2 : xs[j2]? = some xs[j2] := List.getElem?_eq_getElem hj2
    obtain ⟨d1', hd1', dt1⟩ := (hd3.hex (hds_ex e49)).at2 hx1
    obtain ⟨d2', hd2', dt2⟩ := (hd3.hex (hds_ex e49)).at2 hx2
    refine ⟨.ref a, rfl, .int (j2 : Int), rfl, a, xs, (j2 : Int), xs[j2], rfl, rfl, sq_of ha9, atI_nat hx2, .ref a, rfl, .int (j1 : Int), rfl, a, xs, (j1 : Int), xs[j1], rfl, rfl, sq_of ha9, atI_nat hx1, show 2 ≤ sizeLine by decide, fun pt hpt => ?_⟩
    have ept := Ex.new (o := .tup [xs[j2], xs[j1]]) hpt
    refine ⟨pt, _, rfl, st_of upd_same, rfl, _, _, rfl, .ref a, rfl, .int (j1 : Int), rfl, a, _, (j1 : Int), j1, rfl, rfl, ept _ _ ha9, ixN_nat hj1, ?_⟩
    refine ⟨_, _, rfl, .ref a, rfl, .int (j2 : Int), rfl, a, _, (j2 : Int), j2, rfl, rfl, upd_same, ixN_nat (by rw [List.length_set]; exact hj2), rfl, ?_⟩
    have e50 := e49.trans ept
    have dsN := ((((hd3.hex (hds_ex e50)).st (dt2.hex (hds_ex ept)) j1)).st (dt1.hex (hds_ex ept)) j2)
    exact q _ _ _ (((two3.ex e50).row nas).row nas) upd_same (by rw [hds_upd aL, hds_upd aL]; exact dsN) (ok.perm (swap_perm hd1' hd2'))
end
end K95
namespace K95
open PySem PySem.Spec PyProof.Rows L2 Os Evl
abbrev sRight : Stmt := topS 39
theorem scRight : FnScope ["source", "door", "row", "most", "past", "spin", "due", "kept", "page", "found", "text", "value", "then", "copy"] ["source", "door", "row", "most"] (defScope sRight) := ⟨rfl, rfl, rfl, by decide +kernel, rfl, by decide +kernel, by decide +kernel⟩
/-- what a call has left in the list of past calls -/
def PastV (G : Hp) (p : V) : Prop := ∃ (T : Addr) (f c : V) (pg : Str) (d : PyData), p = .ref T ∧ G T = some (.tup [.str pg, f, .str pg, c]) ∧ Dt G f d ∧ Dt G c d ∧ Sh 2 d
theorem PastV.ex {G G' : Hp} {p : V} (h : PastV G p) (e : Ex G G') : PastV G' p := by
  obtain ⟨T, f, c, pg, d, rfl, h1, h2, h3, h4⟩ := h
  exact ⟨T, f, c, pg, d, rfl, e _ _ h1, h2.hex e, h3.hex e, h4⟩
section
variable {P : Program} {w : World} {K : PySem.W.Frag} {mg : Str → Option Value} {base : Heap}
def spRight : Sp := fun vs H Q _ => ∃ (s a : Addr) (door B : Nat) (xs : List V) (ds : List PyData), vs = [.ref s, .int (door : Int), .ref a, .int (mostOf door : Int)] ∧ Src H s B ∧ B ≤ 600000 ∧ a ≠ s ∧ door ≤ 3 ∧
  H a = some (.lst xs) ∧ Dts (hds [s, a] H) xs ds ∧ RowOk door ds ∧ ∀ H', Drw2 s a (B + 1100) H H' → Q (.bl true) H'
theorem ok_right {f fG fW fR fC fN fK : Addr} {fd fdG fdW fdR fdC fdN fdK : FuncData} {k : Nat} (F : Fun K "_law_right" "_law_right" sRight f fd)
    (GG : FnOk P w K mg base CX0 k fG fdG ["door", "row"] spPage) (FG : Fun K "_law_page" "_law_page" sPage fG fdG) (bG : Binds K fdG ["door", "row"] []) (gG : mg "_law_page" = some (.ref fG))
    (GW : FnOk P w K mg base CX0 k fW fdW ["door", "row"] spPage) (FW : Fun K "_law_written" "_law_written" sWritten fW fdW) (bW : Binds K fdW ["door", "row"] []) (gW : mg "_law_written" = some (.ref fW))
    (GR : FnOk P w K mg base CX0 k fR fdR ["door", "page"] spRead) (FR : Fun K "_law_read" "_law_read" sRead fR fdR) (bR : Binds K fdR ["door", "page"] []) (gR : mg "_law_read" = some (.ref fR))
    (GC : FnOk P w K mg base CX0 k fC fdC ["source", "row", "most", "new"] spChange) (FC : Fun K "_law_change" "_law_change" sChange fC fdC) (bC : Binds K fdC ["source", "row", "most", "new"] []) (gC : mg "_law_change" = some (.ref fC))
    (GN : FnOk P w K mg base CX0 k fN fdN ["source", "door"] spNew) (FN : Fun K "_law_new" "_law_new" sNew fN fdN) (bN : Binds K fdN ["source", "door"] []) (gN : mg "_law_new" = some (.ref fN))
    (GK : FnOk P w K mg base CX0 k fK fdK ["source", "count"] spPick) (FK : Fun K "_law_pick" "_law_pick" sPick fK fdK) (bK : Binds K fdK ["source", "count"] []) (gK : mg "_law_pick" = some (.ref fK))
    (mRange : mg "range" = none) (mList : mg "list" = none) (mLen : mg "len" = none) : FnOk P w K mg base CX0 (k + 1) f fd ["source", "door", "row", "most"] spRight := by
  refine F.ok scRight (fun vs H Q E h => ?_) (fun cdv A outer s0 H vs Q E hr h => ?_)
  · obtain ⟨s, a, door, B, xs, ds, rfl, _⟩ := h
    rfl
  · obtain ⟨s, a, door, B, xs0, ds0, rfl, hS, hB, nas, hdoor, ha0, hd0, ok0, q⟩ := h
    refine ⟨_, (pss_cons (ps_set (i := 4) scRight.nd rfl (.inl rfl) (pe_lst pa_nil))
      (pss_cons (ps_for PassesOwn.never rfl (pi_range1 (by rfl) mRange (pa_cons pe_int pa_nil)) (pg_name (i := 5) scRight.nd rfl (Or.inl rfl))
      (pss_cons (ps_set (i := 6) scRight.nd rfl (.inl rfl) (pe_call GG hr (by rfl) gG FG.kp bG .nil pass0 (pa_cons (pv 1) (pa_cons (pv 2) pa_nil))))
      (pss_cons (ps_set (i := 7) scRight.nd rfl (.inl rfl) (pe_callTy call_list_of (by rfl) mList boot_list (pa_cons (pv 2) pa_nil)))
      (pss_cons (ps_set (i := 8) scRight.nd rfl (.inl rfl) (pe_call GW hr (by rfl) gW FW.kp bW .nil pass0 (pa_cons (pv 1) (pa_cons (pv 2) pa_nil))))
      (pss_cons (ps_set (i := 9) scRight.nd rfl (.inl rfl) (pe_call GR hr (by rfl) gR FR.kp bR .nil pass0 (pa_cons (pv 1) (pa_cons (pv 8) pa_nil))))
      (pss_cons (ps_if (PW.pt (pw_or (pt_cmpR op_ne (pv 8) (pv 6) (nomark _)) (pw_or (pt_cmpR (op_neD hr.units) (pv 9) (pv 2) (nomark _)) (pw_or1 (pt_cmpR (op_neD hr.units) (pv 2) (pv 7) (nomark _)))))) pss_never pss_nil)
      (pss_cons (ps_expr (pe_bm PySem.F.plainAttrs_list PySem.F.slot_list_append PySem.F.type_list_append mt_append (pv 4) (pa_cons (pe_tup (pa_cons (pv 8) (pa_cons (pv 9) (pa_cons (pv 6) (pa_cons (pv 7) pa_nil))))) pa_nil)))
      (pss_cons (ps_if (pt_cmpR (op_neD hr.units) (pe_lc (own := [("text", 10), ("value", 11), ("then", 12), ("copy", 13)]) (g := gTup K 4 (gCons (gName 10) (gCons (gName 11) (gCons (gName 12) (gCons (gName 13) gNil))))) (tt := tOr (tTest (tOp rNe (tVar 10) (tVar 12))) (tTest (tOp (rNeD K) (tVar 11) (tVar 13)))) (te := tC (.int 1)) rfl scRight.nd (pi_list (pv 4)) (blkOk_by (N := ["source", "door", "row", "most", "past", "spin", "due", "kept", "page", "found", "text", "value", "then", "copy"]) (sc := defScope sRight) (by decide +kernel)) (fun _ _ _ _ _ => pg_tup rfl (pgs_cons (pg_name (i := 10) scRight.nd rfl (Or.inl rfl)) (pgs_cons (pg_name (i := 11) scRight.nd rfl (Or.inl rfl)) (pgs_cons (pg_name (i := 12) scRight.nd rfl (Or.inl rfl)) (pgs_cons (pg_name (i := 13) scRight.nd rfl (Or.inl rfl)) pgs_nil))))) (fun _ _ _ _ _ => pts_one (PW.pt (pw_or (pt_cmpR op_ne (pv 10) (pv 12) (nomark _)) (pw_or1 (pt_cmpR (op_neD hr.units) (pv 11) (pv 13) (nomark _)))))) (fun _ _ _ _ _ => pe_int)) (pe_lst pa_nil) (nomark _)) pss_never pss_nil)
      (pss_cons (ps_expr (pe_call GC hr (by rfl) gC FC.kp bC .nil pass0 (pa_cons (pv 0) (pa_cons (pv 2) (pa_cons (pv 3) (pa_cons (pe_call GN hr (by rfl) gN FN.kp bN .nil pass0 (pa_cons (pv 0) (pa_cons (pv 1) pa_nil))) pa_nil))))))
      (pss_cons (ps_if (PW.pt (pw_and (pt_cmpR op_eq (pv 1) pe_int (nomark _)) (pw_and1 (pt_cmpR op_eq (pe_call GK hr (by rfl) gK FK.kp bK .nil pass0 (pa_cons (pv 0) (pa_cons pe_int pa_nil))) pe_int (nomark _))))) (pss_one (ps_asg pe_non (pg_sub (pv 2) (pe_call GK hr (by rfl) gK FK.kp bK .nil pass0 (pa_cons (pv 0) (pa_cons (pe_callB call_len_seq (by rfl) mLen boot_len (pa_cons (pv 2) pa_nil)) pa_nil))) set_list (fun _ => rfl)))) pss_nil)
      (pss_one (ps_if (PW.pt (pw_and (pt_cmpR op_eq (pv 1) pe_int (nomark _)) (pw_and (pt_cmpR op_gt (pe_callB call_len_seq (by rfl) mLen boot_len (pa_cons (pe_ix ix_list (pv 2) pe_int (fun _ _ => rfl)) pa_nil)) pe_int (nomark _)) (pw_and1 (pt_cmpR op_eq (pe_call GK hr (by rfl) gK FK.kp bK .nil pass0 (pa_cons (pv 0) (pa_cons pe_int pa_nil))) pe_int (nomark _)))))) (pss_one (ps_asg (pe_slice sl_list (pe_ix ix_list (pv 2) pe_int (fun _ _ => rfl)) (po_some pe_int) po_none) (pg_sub (pv 2) pe_int set_list (fun _ => rfl)))) pss_nil))))))))))))
      (pss_one (ps_ret pe_bl)))), ?_⟩
    have src0 := hS.at
    refine q_asgL (xs := []) (el_lst ea_nil (Nat.zero_le _)) fun Pa H1 hPa e1 h1 => ?_
    have nPs : Pa ≠ s := new_apart src0 hPa
    have nPa : Pa ≠ a := (ne_of_none ha0 hPa).symm
    have up0 : ∀ {G : Hp}, Ex H G → Ex (hds [s, a] H) (hds [s, a, Pa] G) := fun {G} e b o hb => by
      obtain ⟨b1, b2⟩ := hds_of hb
      rw [hds_ne fun m => b1 (by
        rcases List.mem_cons.mp m with m | m
        · rw [m]; simp
        · rcases List.mem_cons.mp m with m | m
          · rw [m]; simp
          · rw [List.mem_singleton.mp m, hPa] at b2
            cases b2)]
      exact e _ _ b2
    have two : ∀ {G G' : Hp} {C : Nat}, Drw2 s a C G G' → Ex (hds [s, a, Pa] G) (hds [s, a, Pa] G') := fun d => hds_sub (fun b hb => by
      rcases List.mem_cons.mp hb with m | m
      · rw [m]; simp
      · rw [List.mem_singleton.mp m]; simp) d.kept
    refine q_forR1 (n := 15) (ea_cons ev_c ea_nil) ⟨by decide, by decide⟩
      (fun i σ' H' => Drw2 s a (B + 70 * i) H H' ∧ (∃ xs ds ps, H' a = some (.lst xs) ∧ Dts (hds [s, a, Pa] H') xs ds ∧ RowOk door ds ∧ H' Pa = some (.lst ps) ∧ ps.length = i ∧ ∀ p ∈ ps, PastV (hds [s, a, Pa] H') p) ∧
        ∃ y5 y6 y7 y8 y9 y10 y11 y12 y13, σ' = [some (.ref s), some (.int (door : Int)), some (.ref a), some (.int (mostOf door : Int)), some (.ref Pa), y5, y6, y7, y8, y9, y10, y11, y12, y13])
      (fun H2 e2 => ⟨(Drw2.refl hS).ex (e1.trans e2), ⟨xs0, ds0, [], (e1.trans e2) _ _ ha0, hd0.hex (up0 (e1.trans e2)), ok0, e2 _ _ h1, rfl, fun p h => nomatch h⟩, _, _, _, _, _, _, _, _, _, rfl⟩) ?_ ?_
    · rintro i σ' H2 hi ⟨d2, ⟨xs, ds, ps, ha2, hd2, ok, hP2, pl, past2⟩, y5, y6, y7, y8, y9, y10, y11, y12, y13, rfl⟩
      have hi15 : i < 15 := by omega
      obtain ⟨pg, rw'⟩ := ok.rw' hdoor
      have sh := rw'.sh
      -- due, kept, page
      refine q_asg (v := .str pg) (ev_sp (ea_cons (ev_var rfl) (ea_cons (ev_var rfl) ea_nil)) fun H3 e3 Q q => ⟨a, door, xs, ds, pg, rfl, e3 _ _ ha2, (hd2.hex hds_up).hex e3, rw', q⟩) fun H3 e3 => ?_
      refine q_asgL (xs := xs) (el_list (ev_var rfl) (sq_of (e3 _ _ ha2))) fun C H4 hC e4 h4 => ?_
      have e34 := e3.trans e4
      refine q_asg (v := .str pg) (ev_sp (ea_cons (ev_var rfl) (ea_cons (ev_var rfl) ea_nil)) fun H5 e5 Q q => ⟨a, door, xs, ds, pg, rfl, (e34.trans e5) _ _ ha2, (hd2.hex hds_up).hex (e34.trans e5), rw', q⟩) fun H5 e5 => ?_
      have e35 := e34.trans e5
      have D5 := d2.ex e35
      have lists5 : Lists H5 [s, a, Pa] := fun b hb => by
        rcases List.mem_cons.mp hb with m | m
        · obtain ⟨x, y, z, h, _⟩ := D5.src
          rw [m]
          exact ⟨_, h⟩
        · rcases List.mem_cons.mp m with m | m
          · rw [m]
            exact ⟨_, e35 _ _ ha2⟩
          · rw [List.mem_singleton.mp m]
            exact ⟨_, e35 _ _ hP2⟩
      -- found
      refine ⟨.int (door : Int), rfl, .str pg, rfl, door, ds, pg, rfl, rw', fun fo H6 e6 hfo => ?_⟩
      dsimp only [gName]
      have e36 := e35.trans e6
      have hfoL := hfo _ lists5
      have nC : C ∉ [s, a, Pa] := fun m => by
        obtain ⟨ys, hy⟩ := lists5 C m
        have hC3 : H3 C = none := hC
        rcases List.mem_cons.mp m with m | m
        · obtain ⟨x, y, z, h, _⟩ := (d2.ex e3).src
          rw [← m, hC3] at h
          cases h
        · rcases List.mem_cons.mp m with m | m
          · have := e3 _ _ ha2
            rw [← m, hC3] at this
            cases this
          · have := e3 _ _ hP2
            rw [← List.mem_singleton.mp m, hC3] at this
            cases this
      have dC : ∀ {G : Hp}, Ex H6 G → Dt (hds [s, a, Pa] G) (.ref C) (.list ds) := fun e => .lst (by rw [hds_ne nC]; exact e _ _ (e6 _ _ (e5 _ _ h4))) (hd2.hex (hds_ex (e36.trans e)))
      have dF : ∀ {G : Hp}, Ex H6 G → Dt (hds [s, a, Pa] G) fo (.list ds) := fun e => hfoL.hex (hds_ex e)
      have dR : ∀ {G : Hp}, Ex H6 G → Dt G (.ref a) (.list ds) := fun e => .lst ((e36.trans e) _ _ ha2) ((hd2.hex hds_up).hex (e36.trans e))
      refine q_when (b := false) (et_is (et_or (a := false) (b := false) (et_test (ev_is (ev_op (ev_var rfl) (ev_var rfl) (rv_ne rfl)) (congrArg V.bl (by rw [decide_eq_true rfl]; rfl)))) fun _ => et_is (et_or (a := false) (b := false) (et_test (ev_neDD (ed_of (ev_var rfl) ((dF (Ex.refl _)).hex hds_up)) (ed_of (ev_var rfl) (dR (Ex.refl _))) sh (by decide))) fun _ => et_test (ev_neDD (ed_of (ev_var rfl) (dR (Ex.refl _))) (ed_of (ev_var rfl) ((dC (Ex.refl _)).hex hds_up)) sh (by decide))) rfl) rfl) (fun h => nomatch h) fun _ H7 e7 => ?_
      have e37 := e36.trans e7
      -- past.append(..)
      refine q_appU (xs := ps) (e37 _ _ hP2) (ev_var rfl) (eu_tup (ea_cons (ev_var rfl) (ea_cons (ev_var rfl) (ea_cons (ev_var rfl) (ea_cons (ev_var rfl) ea_nil)))) (by show 4 ≤ 100000; decide)) (by omega) fun T H8' hT e8' h8' => ?_
      have e38 := e37.trans e8'
      have D8 : Drw2 s a (B + 70 * i) H (upd H8' Pa (.lst (ps ++ [.ref T]))) := (d2.ex e38).mut src0 hPa
      have a8 : upd H8' Pa (.lst (ps ++ [.ref T])) a = some (.lst xs) := by
        rw [upd_ne nPa.symm]
        exact e38 _ _ ha2
      have P8 : upd H8' Pa (.lst (ps ++ [.ref T])) Pa = some (.lst (ps ++ [.ref T])) := upd_same
      have hds8 : hds [s, a, Pa] (upd H8' Pa (.lst (ps ++ [.ref T]))) = hds [s, a, Pa] H8' := hds_upd (by simp)
      have hd8 : Dts (hds [s, a, Pa] (upd H8' Pa (.lst (ps ++ [.ref T])))) xs ds := by
        rw [hds8]
        exact hd2.hex (hds_ex e38)
      have nT : T ∉ [s, a, Pa] := (lists5.ex (e6.trans e7)).new hT
      have past8 : ∀ p ∈ ps ++ [.ref T], PastV (hds [s, a, Pa] (upd H8' Pa (.lst (ps ++ [.ref T])))) p := fun p hp => by
        rw [hds8]
        rcases List.mem_append.mp hp with hp | hp
        · exact (past2 p hp).ex (hds_ex e38)
        · rw [List.mem_singleton.mp hp]
          exact ⟨T, fo, .ref C, pg, .list ds, rfl, by rw [hds_ne nT]; exact h8', dF (e7.trans e8'), dC (e7.trans e8'), sh⟩
      have pl8 : (ps ++ [V.ref T]).length = i + 1 := by rw [List.length_append, pl]; rfl
      generalize upd H8' Pa (.lst (ps ++ [.ref T])) = H8 at D8 a8 P8 hd8 past8 hds8
      generalize ps ++ [V.ref T] = ps8 at P8 past8 pl8
      have src8 := D8.src
      -- the check of all past calls
      have lcE : EvL (tLc (iList K (tVar 4)) (gTup K 4 (gCons (gName 10) (gCons (gName 11) (gCons (gName 12) (gCons (gName 13) gNil))))) (tOr (tTest (tOp rNe (tVar 10) (tVar 12))) (tTest (tOp (rNeD K) (tVar 11) (tVar 13)))) (tC (.int 1)) [10, 11, 12, 13]) [some (.ref s), some (.int (door : Int)), some (.ref a), some (.int (mostOf door : Int)), some (.ref Pa), some (.int (i : Int)), some (.str pg), some (.ref C), some (.str pg), some fo, y10, y11, y12, y13] H8 [] := fun H9 e9 Q' q' => by
        refine ⟨.ref Pa, rfl, Pa, rfl, ⟨ps8, sq_of (e9 _ _ P8)⟩, fun D hD => ?_⟩
        refine lc_list (xs := ps8) (fun _ Hh => Ex H9 Hh ∧ Hh D = some (.lst [])) ⟨Ex.new hD, upd_same⟩ (fun j Hh _ p => sq_of (p.1 _ _ (e9 _ _ P8))) (fun j p Hh hj pv => ?_) fun Hh pv => q' D Hh hD pv.1 pv.2
        obtain ⟨T', f', c', pg', d', rfl, t1, t2, t3, t4⟩ := past8 p (List.mem_of_getElem? hj)
        have e9h := e9.trans pv.1
        refine ⟨T', [.str pg', f', .str pg', c'], rfl, st_of (e9h _ _ (hds_of t1).2), rfl, _, _, rfl, _, _, rfl, _, _, rfl, _, [], rfl, rfl, rfl, ?_⟩
        refine et_or (a := false) (b := false) (et_test (ev_is (ev_op (ev_var rfl) (ev_var rfl) (rv_ne rfl)) (congrArg V.bl (by rw [decide_eq_true rfl]; rfl)))) (fun _ => et_test (ev_neDD (d := d') (ed_of (ev_var rfl) ((t2.hex hds_up).hex e9h)) (ed_of (ev_var rfl) ((t3.hex hds_up).hex e9h)) t4 (by decide))) Hh (Ex.refl Hh) _ fun H10 e10 => ?_
        show (fun _ Hh => Ex H9 Hh ∧ Hh D = some (.lst [])) (j + 1) H10
        exact ⟨pv.1.trans e10, e10 _ _ pv.2⟩
      refine q_when (b := false) (et_test (ev_neDD (d := .list []) (n := 1) (ed_l lcE .nil) (ed_lst eds_nil (by decide)) (.lst fun d h => nomatch h) (by decide))) (fun h => nomatch h) fun _ H9 e9 => ?_
      have D9 := D8.ex e9
      have up9 := hds_ex (L := [s, a, Pa]) e9
      have a9 := e9 _ _ a8
      have P9 := e9 _ _ P8
      have hd9 := hd8.hex up9
      have past9 : ∀ p ∈ ps8, PastV (hds [s, a, Pa] H9) p := fun p hp => (past8 p hp).ex up9
      have lists9 : Lists H9 [s, a, Pa] := fun b hb => by
        rcases List.mem_cons.mp hb with m | m
        · obtain ⟨x, y, z, h, _⟩ := D9.src
          rw [m]
          exact ⟨_, h⟩
        · rcases List.mem_cons.mp m with m | m
          · rw [m]
            exact ⟨_, a9⟩
          · rw [List.mem_singleton.mp m]
            exact ⟨_, P9⟩
      -- the row changes
      refine ⟨.ref s, rfl, .ref a, rfl, .int (mostOf door : Int), rfl, .ref s, rfl, .int (door : Int), rfl, s, door, B + 70 * i, rfl, D9.src, by omega, hdoor, fun v d H10 d10 hv okd hn => ?_⟩
      have up10 := hds_drew (L := [s, a, Pa]) d10 (by simp)
      refine ⟨s, a, door, B + 70 * i + 50, v, [s, a, Pa], xs, ds, d, rfl, d10.src, by omega, nas, by simp, by simp, d10.get nas a9, hd9.hex up10, ok, hv _ (by simp) lists9, okd, fun H11 xs' ds' d11 a11 hd11 ok11 => ?_⟩
      have P11 : H11 Pa = some (.lst ps8) := d11.get nPs nPa (d10.get nPs P9)
      have past11 : ∀ p ∈ ps8, PastV (hds [s, a, Pa] H11) p := fun p hp => ((past9 p hp).ex up10).ex (two d11)
      have D11 : Drw2 s a (B + 70 * i + 53) H H11 := (D9.trans d10.two).trans d11
      dsimp only
      have fin : ∀ {G : Hp} {ys : List V} {es : List PyData}, Drw2 s a (B + 70 * i + 60) H G → G a = some (.lst ys) → Dts (hds [s, a, Pa] G) ys es → RowOk door es → G Pa = some (.lst ps8) → (∀ p ∈ ps8, PastV (hds [s, a, Pa] G) p) →
          Drw2 s a (B + 70 * (i + 1)) H G ∧ ∃ xs ds ps, G a = some (.lst xs) ∧ Dts (hds [s, a, Pa] G) xs ds ∧ RowOk door ds ∧ G Pa = some (.lst ps) ∧ ps.length = i + 1 ∧ ∀ p ∈ ps, PastV (hds [s, a, Pa] G) p := fun h1 h2 h3 h4 h5 h6 => ⟨h1.mono (by omega), _, _, _, h2, h3, h4, h5, pl8, h6⟩
      have carry : ∀ {G : Hp}, Ex H11 G → Drw2 s a (B + 70 * i + 53) H G ∧ G a = some (.lst xs') ∧ Dts (hds [s, a, Pa] G) xs' ds' ∧ G Pa = some (.lst ps8) ∧ ∀ p ∈ ps8, PastV (hds [s, a, Pa] G) p := fun e =>
        ⟨D11.ex e, e _ _ a11, hd11.hex (hds_ex e), e _ _ P11, fun p hp => (past11 p hp).ex (hds_ex e)⟩
      have lx' := hd11.length
      by_cases door1 : door = 1
      · subst door1
        refine q_andIf (b := true) (ev_door (d := 1) (m := 1) (ev_var rfl)) (fun _ H12 e12 => ?_) (fun h => nomatch h)
        obtain ⟨D12, a12, hd12, P12, past12⟩ := carry e12
        refine ⟨.ref s, rfl, s, 2, B + 70 * i + 53, rfl, D12.src, by omega, by decide, by decide, fun H13 r d13 r0 r1 => ⟨rfl, decide (V.int r = V.int 0), rfl, ?_⟩⟩
        have up13 := hds_drew (L := [s, a, Pa]) d13 (by simp)
        have D13 := D12.trans (d13.two (a := a))
        have a13 := d13.get nas a12
        have P13 := d13.get nPs P12
        have hd13 := hd12.hex up13
        have past13 : ∀ p ∈ ps8, PastV (hds [s, a, Pa] H13) p := fun p hp => (past12 p hp).ex up13
        cases hb : decide (V.int r = V.int 0) with
        | true =>
          dsimp only
          rw [if_pos rfl]
          have pos : 0 < xs'.length := by
            have := ok11.ne (by decide)
            have h0 : ds' ≠ [] := this
            have := List.length_pos_iff.mpr h0
            omega
          have few := ok11.few
          have m100 := most_le 1
          refine ⟨.ref a, rfl, .ref s, rfl, .ref a, rfl, a, xs', rfl, .inl (sq_of a13), s, (xs'.length : Int), B + 70 * i + 54, rfl, d13.src, by omega, by omega, by omega, fun H14 r14 d14 r140 r141 => ?_⟩
          obtain ⟨n14, rfl⟩ : ∃ n : Nat, r14 = (n : Int) := ⟨r14.toNat, by omega⟩
          have a14 := d14.get nas a13
          refine ⟨a, xs', (n14 : Int), n14, rfl, rfl, a14, ixN_nat (by omega), ?_⟩
          have up14 := hds_drew (L := [s, a, Pa]) d14 (by simp)
          have hdsN : hds [s, a, Pa] (upd H14 a (.lst (xs'.set n14 .non))) = hds [s, a, Pa] H14 := hds_upd (by simp)
          refine s_andIf (b := false) (ev_door (d := 1) (m := 3) (ev_var rfl)) (fun h => nomatch h) fun _ G eG => ?_
          obtain ⟨f1, f2⟩ := fin (G := G) ((((D13.trans (d14.two (a := a))).row nas).ex eG).mono (by omega)) (eG _ _ upd_same) (Dts.hex (by rw [hdsN]; exact (hd13.hex up14).st .non n14) (hds_ex eG)) (ok11.set (.inl rfl) (.inr (.inl rfl)) (by omega)) (eG _ _ (by rw [upd_ne nPa]; exact d14.get nPs P13)) fun p hp => PastV.ex (by rw [hdsN]; exact (past13 p hp).ex up14) (hds_ex eG)
          exact ⟨f1, f2, _, _, _, _, _, _, _, _, _, rfl⟩
        | false =>
          dsimp only
          rw [if_neg (by decide)]
          refine s_andIf (b := false) (ev_door (d := 1) (m := 3) (ev_var rfl)) (fun h => nomatch h) fun _ G eG => ?_
          obtain ⟨f1, f2⟩ := fin (G := G) ((D13.ex eG).mono (by omega)) (eG _ _ a13) (hd13.hex (hds_ex eG)) ok11 (eG _ _ P13) fun p hp => (past13 p hp).ex (hds_ex eG)
          exact ⟨f1, f2, _, _, _, _, _, _, _, _, _, rfl⟩
      · refine q_andIf (b := false) (et_is (ev_door (d := door) (m := 1) (ev_var rfl)) (decide_eq_false door1)) (fun h => nomatch h) fun _ H12 e12 => ?_
        obtain ⟨D12, a12, hd12, P12, past12⟩ := carry e12
        by_cases door3 : door = 3
        · subst door3
          refine s_andIf (b := true) (ev_door (d := 3) (m := 3) (ev_var rfl)) (fun _ H13 e13 => ?_) (fun h => nomatch h)
          have hne := ok11.ne (by decide)
          obtain ⟨d0, dr, rfl⟩ := List.exists_cons_of_ne_nil hne
          obtain ⟨t0, rfl, tok⟩ := ok11.ok d0 List.mem_cons_self
          obtain ⟨D13, a13, hd13, P13, past13⟩ := carry (e12.trans e13)
          cases hd13 with
          | @cons x0 xr _ _ hx0 hxr =>
          cases hx0 with
          | @lst q0 zs0 _ hq0 hz0 =>
          have ez := Dts.nats hz0
          subst ez
          have hq := (hds_of hq0).2
          have few := tok.few
          have len : (nats t0).length = t0.length := List.length_map ..
          have row0 : ∀ {σ : L2.St} {G : Hp}, σ[2]? = some (some (.ref a)) → Ex H13 G → Ev (tOp (rIxL K) (tVar 2) (tC (.int 0))) σ G (.ref q0) := fun h e => ev_op (ev_var h) ev_c (rv_ixL (sq_of (e _ _ a13)) (atI_nat (j := 0) rfl))
          have lenT : EvT (tTest (tOp (rI0 fun i j => .bl (decide (j < i))) (tCB (fun xs H Q => ∃ p ys, xs = [V.ref p] ∧ (SqL K H p ys ∨ SqT K H p ys) ∧ Q (.int ys.length) H) (tCons (tOp (rIxL K) (tVar 2) (tC (.int 0))) tNil)) (tC (.int 0)))) [some (.ref s), some (.int ((3 : Nat) : Int)), some (.ref a), some (.int (mostOf 3 : Int)), some (.ref Pa), some (.int (i : Int)), some (.str pg), some (.ref C), some (.str pg), some fo, y10, y11, y12, y13] H13 (decide ((0 : Int) < ((nats t0).length : Int))) := et_test (ev_op (ev_len' (row0 rfl (Ex.refl _)) hq) ev_c rv_I0)
          refine lenT H13 (Ex.refl H13) _ fun H14 e14 => ?_
          obtain ⟨D14, a14, hd14, P14, past14⟩ := carry ((e12.trans e13).trans e14)
          cases hb : decide ((0 : Int) < ((nats t0).length : Int)) with
          | false =>
            obtain ⟨f1, f2⟩ := fin (G := H14) (D14.mono (by omega)) a14 hd14 ok11 P14 past14
            exact ⟨f1, f2, _, _, _, _, _, _, _, _, _, rfl⟩
          | true =>
            refine ⟨.ref s, rfl, s, 2, B + 70 * i + 53, rfl, D14.src, by omega, by decide, by decide, fun H15 r d15 r0 r1 => ⟨rfl, decide (V.int r = V.int 0), rfl, ?_⟩⟩
            have up15 := hds_drew (L := [s, a, Pa]) d15 (by simp)
            have D15 := D14.trans (d15.two (a := a))
            have a15 := d15.get nas a14
            have P15 := d15.get nPs P14
            have hd15 := hd14.hex up15
            have past15 : ∀ p ∈ ps8, PastV (hds [s, a, Pa] H15) p := fun p hp => (past14 p hp).ex up15
            cases hb2 : decide (V.int r = V.int 0) with
            | false =>
              dsimp only
              rw [if_neg (by decide)]
              obtain ⟨f1, f2⟩ := fin (G := H15) (D15.mono (by omega)) a15 hd15 ok11 P15 past15
              exact ⟨f1, f2, _, _, _, _, _, _, _, _, _, rfl⟩
            | true =>
              dsimp only
              rw [if_pos rfl]
              have q15 : H15 q0 = some (.lst (nats t0)) := (hds_of ((hds_ex (L := [s, a, Pa]) e14 |> fun e => up15 _ _ (e _ _ hq0)))).2
              have ecut : cutV (nats t0) (some (1 : Int)) none = nats (t0.drop 1) := by
                rw [show (1 : Int) = ((1 : Nat) : Int) from rfl, cut_drop]
                exact List.map_drop.symm
              refine s_setLL (xs := .ref q0 :: xr) (ys := nats (t0.drop 1)) (j := 0) a15 (by rw [← ecut]; exact el_sl (ev_op (ev_var rfl) ev_c (rv_ixL (sq_of a15) (atI_nat (j := 0) rfl))) (eo_some ev_c) eo_none (sq_of q15)) (ev_var rfl) ev_c (by show 0 < xr.length + 1; omega) fun p H16 hp e16 h16 => ?_
              have lists15 : Lists H15 [s, a, Pa] := fun b hb => by
                rcases List.mem_cons.mp hb with m | m
                · obtain ⟨x, y, z, h, _⟩ := D15.src
                  rw [m]
                  exact ⟨_, h⟩
                · rcases List.mem_cons.mp m with m | m
                  · rw [m]
                    exact ⟨_, a15⟩
                  · rw [List.mem_singleton.mp m]
                    exact ⟨_, P15⟩
              have np := lists15.new hp
              have hdsN : hds [s, a, Pa] (upd H16 a (.lst ((V.ref q0 :: xr).set 0 (.ref p)))) = hds [s, a, Pa] H16 := hds_upd (by simp)
              have sub := List.drop_sublist 1 t0
              obtain ⟨f1, f2⟩ := fin (G := upd H16 a (.lst ((V.ref q0 :: xr).set 0 (.ref p)))) (((D15.ex e16).row nas).mono (by omega)) upd_same (es := (PyData.list (natsD t0) :: dr).set 0 (.list (natsD (t0.drop 1)))) (by rw [hdsN]; exact (hd15.hex (hds_ex e16)).st (.lst (by rw [hds_ne np]; exact h16) (dts_nats _)) 0)
                (ok11.set ⟨_, rfl, ⟨Nat.le_trans sub.length_le few, fun x hx => tok.inn x (sub.subset hx), tok.nd.sublist sub⟩⟩ (.inr (.inr rfl)) (by show 0 < dr.length + 1; omega)) (by rw [upd_ne nPa]; exact e16 _ _ P15) fun p' hp' => by
                  rw [hdsN]
                  exact (past15 p' hp').ex (hds_ex e16)
              exact ⟨f1, f2, _, _, _, _, _, _, _, _, _, rfl⟩
        · refine s_andIf (b := false) (et_is (ev_door (d := door) (m := 3) (ev_var rfl)) (decide_eq_false door3)) (fun h => nomatch h) fun _ G eG => ?_
          obtain ⟨D13, a13, hd13, P13, past13⟩ := carry (e12.trans eG)
          obtain ⟨f1, f2⟩ := fin (G := G) (D13.mono (by omega)) a13 hd13 ok11 P13 past13
          exact ⟨f1, f2, _, _, _, _, _, _, _, _, _, rfl⟩
    · rintro σ' H2 ⟨d2, _, y5, y6, y7, y8, y9, y10, y11, y12, y13, rfl⟩
      exact s_ret (v := .bl true) ev_c fun H3 e3 => q H3 ((d2.ex e3).mono (by omega))
end
end K95
namespace K95
open PySem PySem.Spec PyProof.Rows L2 Os Evl
abbrev sLaw : Stmt := topS 40
theorem scLaw : FnScope ["script", "k", "source", "size", "row", "hidden", "parts", "name"] ["script"] (defScope sLaw) := ⟨rfl, rfl, rfl, by decide +kernel, rfl, by decide +kernel, by decide +kernel⟩
theorem Drew.old {s : Addr} {B : Nat} {H0 H H' : Hp} (e : Ex H0 H) (ns : H0 s = none) (d : Drew s B H H') : Ex H0 H' := fun b o h =>
  d.get (ne_of_none h ns) (e b o h)
theorem dts_flat {G : Hp} : ∀ {xs : List V} {ds : List PyData} (h : Dts G xs ds), (∀ d ∈ ds, d = .none ∨ ∃ z, d = .str z) → ∀ G', Dts G' xs ds
  | _, _, .nil, _, _ => .nil
  | _, _, .cons h t, k, G' => .cons (by
      rcases k _ List.mem_cons_self with e | ⟨z, e⟩
      · subst e
        cases h
        exact .non
      · subst e
        cases h
        exact .str z) (dts_flat t (fun d hd => k d (List.mem_cons_of_mem _ hd)) G')
theorem row0 {zs : List Str} (n1 : 1 ≤ zs.length) (l : zs.length ≤ 40) (ok : ∀ z ∈ zs, nameB z = true ∧ PyData.strOk z = true) (nd : zs.Nodup) : RowOk 0 (zs.map PyData.str) :=
  ⟨by rw [List.length_map]; exact l, fun _ e => by rw [List.map_eq_nil_iff] at e; rw [e] at n1; exact absurd n1 (by decide), fun d hd => by
    obtain ⟨z, hz, rfl⟩ := List.mem_map.mp hd
    exact ⟨z, rfl, ok z hz⟩, .inr (by
    rw [List.pairwise_map]
    exact nd.imp fun h => .inr fun e => h (PyData.str.inj e))⟩
theorem nd_of_somes : ∀ {os : List (Option Str)}, (os.filterMap id).Nodup → os.Pairwise fun a b => oD a = .none ∨ oD a ≠ oD b
  | [], _ => .nil
  | none :: os, h => List.pairwise_cons.mpr ⟨fun b _ => .inl rfl, nd_of_somes (os := os) h⟩
  | some z :: os, h => by
    obtain ⟨h1, h2⟩ := List.nodup_cons.mp (show (z :: os.filterMap id).Nodup from h)
    refine List.pairwise_cons.mpr ⟨fun b hb => .inr fun e => ?_, nd_of_somes (os := os) h2⟩
    cases b with
    | none => cases e
    | some y =>
      have := PyData.str.inj e
      subst this
      exact h1 (List.mem_filterMap.mpr ⟨some z, hb, rfl⟩)
theorem row1 {zs : List Str} {os : List (Option Str)} (n1 : 1 ≤ zs.length) (l : zs.length ≤ 40) (ok : ∀ z ∈ zs, nameB z = true ∧ PyData.strOk z = true) (nd : zs.Nodup) (len : os.length = zs.length) (sub : (os.filterMap id).Sublist zs) : RowOk 1 (os.map oD) :=
  ⟨by rw [List.length_map, len]; exact l, fun _ e => by rw [List.map_eq_nil_iff] at e; rw [e] at len; have h0 : 0 = zs.length := len; omega, fun d hd => by
    obtain ⟨o, ho, rfl⟩ := List.mem_map.mp hd
    cases o with
    | none => exact .inl rfl
    | some z => exact .inr ⟨z, rfl, ok z (sub.subset (List.mem_filterMap.mpr ⟨some z, ho, rfl⟩))⟩, .inr (by
    rw [List.pairwise_map]
    exact nd_of_somes (nd.sublist sub))⟩
theorem row2 {es : List Pr} (ok : EdgesOk es) : RowOk 2 (es.map Os.prD) :=
  ⟨by rw [List.length_map]; exact ok.few, (fun h => absurd rfl h), fun d hd => by
    obtain ⟨e, he, rfl⟩ := List.mem_map.mp hd
    exact ⟨e, rfl, ok.inn e he⟩, .inr (by
    rw [List.pairwise_map]
    exact ok.nd.imp fun h => .inr fun e => h (prD_inj e))⟩
theorem row3 : RowOk 3 (rowsD [[], [0], [39, 0]]) :=
  ⟨by decide, (fun _ e => nomatch e), fun d hd => by
    rcases List.mem_cons.mp hd with rfl | hd
    · exact ⟨[], rfl, by decide, (fun x h => nomatch h), .nil⟩
    · rcases List.mem_cons.mp hd with rfl | hd
      · exact ⟨[0], rfl, by decide, (fun x h => by rw [List.mem_singleton.mp h]; decide), by decide⟩
      · rw [List.mem_singleton.mp hd]
        refine ⟨[39, 0], rfl, by decide, (fun x h => ?_), by decide⟩
        rcases List.mem_cons.mp h with rfl | h
        · decide
        · rw [List.mem_singleton.mp h]
          decide, .inl rfl⟩
section
variable {P : Program} {w : World} {K : PySem.W.Frag} {mg : Str → Option Value} {base : Heap}
def spLaw (K : PySem.W.Frag) : Sp := fun vs H Q _ => ∃ (a : Addr) (ns : List Int), vs = [.ref a] ∧ SqL K H a (ns.map V.int) ∧ ns.length ≤ 63 ∧ ∀ H', Q (.bl true) H'
theorem ok_law {f fS fK fN fP fR : Addr} {fd fdS fdK fdN fdP fdR : FuncData} {k : Nat} (F : Fun K "law" "law" sLaw f fd)
    (GS : FnOk P w K mg base CX0 k fS fdS ["script", "k"] (spSource K)) (FS : Fun K "_law_source" "_law_source" sSource fS fdS) (bS : Binds K fdS ["script", "k"] []) (gS : mg "_law_source" = some (.ref fS))
    (GK : FnOk P w K mg base CX0 k fK fdK ["source", "count"] spPick) (FK : Fun K "_law_pick" "_law_pick" sPick fK fdK) (bK : Binds K fdK ["source", "count"] []) (gK : mg "_law_pick" = some (.ref fK))
    (GN : FnOk P w K mg base CX0 k fN fdN ["source", "size"] spNames) (FN : Fun K "_law_names" "_law_names" sNames fN fdN) (bN : Binds K fdN ["source", "size"] []) (gN : mg "_law_names" = some (.ref fN))
    (GP : FnOk P w K mg base CX0 k fP fdP ["source", "most"] spPairs) (FP : Fun K "_law_pairs" "_law_pairs" sPairs fP fdP) (bP : Binds K fdP ["source", "most"] []) (gP : mg "_law_pairs" = some (.ref fP))
    (GR : FnOk P w K mg base CX0 k fR fdR ["source", "door", "row", "most"] spRight) (FR : Fun K "_law_right" "_law_right" sRight fR fdR) (bR : Binds K fdR ["source", "door", "row", "most"] []) (gR : mg "_law_right" = some (.ref fR))
    (mRange : mg "range" = none) (mMax : mg "max" = none) (mMin : mg "min" = none) (mLen : mg "len" = none) : FnG P w K mg base (k + 1) f fd ["script"] (spLaw K) := by
  refine FnG.of (F.ok scLaw (fun vs H Q E h => ?_) (fun cdv A outer s0 H vs Q E hr h => ?_))
  · obtain ⟨a, ns, rfl, _⟩ := h
    rfl
  · obtain ⟨a, ns, rfl, hS, hlen, q⟩ := h
    refine ⟨_, (pss_cons (ps_for PassesOwn.never rfl (pi_range1 (by rfl) mRange (pa_cons (pe_callB (call_max2 rfl) (by rfl) mMax boot_max (pa_cons pe_int (pa_cons (pe_callB (call_min2 rfl) (by rfl) mMin boot_min (pa_cons pe_int (pa_cons (pe_callB call_len_seq (by rfl) mLen boot_len (pa_cons (pv 0) pa_nil)) pa_nil))) pa_nil))) pa_nil)) (pg_name (i := 1) scLaw.nd rfl (Or.inl rfl))
      (pss_cons (ps_set (i := 2) scLaw.nd rfl (.inr rfl) (pe_call GS hr (by rfl) gS FS.kp bS .nil pass0 (pa_cons (pv 0) (pa_cons (pv 1) pa_nil))))
      (pss_cons (ps_set (i := 3) scLaw.nd rfl (.inl rfl) (pe_ix ix_list (pe_lst (pa_cons (pe_op op_add pe_int (pe_call GK hr (by rfl) gK FK.kp bK .nil pass0 (pa_cons (pv 2) (pa_cons pe_int pa_nil)))) (pa_cons (pe_op op_add pe_int (pe_call GK hr (by rfl) gK FK.kp bK .nil pass0 (pa_cons (pv 2) (pa_cons pe_int pa_nil)))) (pa_cons pe_int pa_nil)))) (pe_call GK hr (by rfl) gK FK.kp bK .nil pass0 (pa_cons (pv 2) (pa_cons pe_int pa_nil))) (fun _ _ => rfl)))
      (pss_cons (ps_set (i := 4) scLaw.nd rfl (.inl rfl) (pe_call GN hr (by rfl) gN FN.kp bN .nil pass0 (pa_cons (pv 2) (pa_cons (pv 3) pa_nil))))
      (pss_cons (ps_setLc (i := 5) (own := [("name", 7)]) (g := gName 7) (tt := tYes) (te := tIf (tTest (tOp rEq (tCall spPick [] E0 (tCons (tVar 2) (tCons (tC (.int 2)) tNil))) (tC (.int 0)))) (tC .non) (tVar 7)) rfl scLaw.nd rfl rfl (sw_true rfl rfl rfl (by decide +kernel)) (pi_list (pv 4)) (blkOk_by (N := ["script", "k", "source", "size", "row", "hidden", "parts", "name"]) (sc := defScope sLaw) (by decide +kernel)) (fun _ _ _ _ _ => pg_name (i := 7) scLaw.nd rfl (Or.inl rfl)) (fun _ _ _ _ _ => pts_nil) (fun _ _ _ _ _ => (pe_ifExp (pt_cmpR op_eq (pe_call GK hr (by rfl) gK FK.kp bK .nil pass0 (pa_cons (pv 2) (pa_cons pe_int pa_nil))) pe_int (nomark _)) pe_non (pv 7))))
      (pss_cons (ps_set (i := 6) scLaw.nd rfl (.inl rfl) (pe_lst (pa_cons (pe_lst pa_nil) (pa_cons (pe_lst (pa_cons pe_int pa_nil)) (pa_cons (pe_lst (pa_cons pe_int (pa_cons pe_int pa_nil))) pa_nil)))))
      (pss_cons (ps_if (PW.pt (pw_or (pt_not (pt_val (pe_call GR hr (by rfl) gR FR.kp bR .nil pass0 (pa_cons (pv 2) (pa_cons pe_int (pa_cons (pv 4) (pa_cons pe_int pa_nil))))))) (pw_or1 (pt_not (pt_val (pe_call GR hr (by rfl) gR FR.kp bR .nil pass0 (pa_cons (pv 2) (pa_cons pe_int (pa_cons (pv 5) (pa_cons pe_int pa_nil)))))))))) pss_never pss_nil)
      (pss_one (ps_if (PW.pt (pw_or (pt_not (pt_val (pe_call GR hr (by rfl) gR FR.kp bR .nil pass0 (pa_cons (pv 2) (pa_cons pe_int (pa_cons (pe_call GP hr (by rfl) gP FP.kp bP .nil pass0 (pa_cons (pv 2) (pa_cons pe_int pa_nil))) (pa_cons pe_int pa_nil))))))) (pw_or1 (pt_not (pt_val (pe_call GR hr (by rfl) gR FR.kp bR .nil pass0 (pa_cons (pv 2) (pa_cons pe_int (pa_cons (pv 6) (pa_cons pe_int pa_nil)))))))))) pss_never pss_nil)))))))))
      (pss_one (ps_ret pe_bl))), ?_⟩
    have hlen' : (ns.map V.int).length = ns.length := List.length_map ..
    refine q_forR1 (n := if (if ((ns.map V.int).length : Int) < 4 then ((ns.map V.int).length : Int) else 4) > 1 then (if ((ns.map V.int).length : Int) < 4 then ((ns.map V.int).length : Int) else 4) else 1)
      (ea_cons (ev_max ev_c (ev_min ev_c (ev_len (ev_var rfl) hS))) ea_nil) ⟨by split <;> (try split) <;> omega, by split <;> (try split) <;> omega⟩
      (fun i σ' H' => Ex H H' ∧ i ≤ 4 ∧ ∃ y1 y2 y3 y4 y5 y6 y7, σ' = [some (.ref a), y1, y2, y3, y4, y5, y6, y7]) (fun H1 e1 => ⟨e1, by omega, _, _, _, _, _, _, _, rfl⟩) ?_ ?_
    · rintro i σ' H1 hi ⟨e1, hi4, y1, y2, y3, y4, y5, y6, y7, rfl⟩
      have hi5 : i < 4 := by
        split at hi <;> (try split at hi) <;> omega
      -- source = _law_source(script, k)
      refine ⟨.ref a, rfl, .int (i : Int), rfl, a, ns, i, rfl, ex_l e1 hS, by omega, fun H2 s e2 ns1 src => ?_⟩
      have src2 := src.at
      dsimp only [gName]
      -- size
      refine ⟨.ref s, rfl, s, 5, 0, rfl, src, by omega, by decide, by decide, fun H3 r3 d3 r30 r31 => ⟨1, r3, rfl, rfl, .ref s, rfl, s, 40, 1, rfl, d3.src, by omega, by decide, by decide, fun H4 r4 d4 r40 r41 => ⟨1, r4, rfl, rfl, show 3 ≤ sizeLine by decide, fun p4 hp4 => ?_⟩⟩⟩
      have e5 := Ex.new (o := .lst [.int (1 + r3), .int (1 + r4), .int 40]) hp4
      have n4 : p4 ≠ s := new_apart d4.src.at hp4
      refine ⟨.ref s, rfl, s, 3, 2, rfl, d4.src.ex e5, by omega, by decide, by decide, fun H6 r6 d6 r60 r61 => ?_⟩
      obtain ⟨n, hn, n1, n40⟩ : ∃ n : Nat, ([.int (1 + r3), .int (1 + r4), .int 40] : List V)[r6.toNat]? = some (.int (n : Int)) ∧ 1 ≤ n ∧ n ≤ 40 := by
        have : r6.toNat < 3 := by omega
        match r6.toNat, this with
        | 0, _ => exact ⟨(1 + r3).toNat, congrArg (fun z => some (V.int z)) (by omega), by omega, by omega⟩
        | 1, _ => exact ⟨(1 + r4).toNat, congrArg (fun z => some (V.int z)) (by omega), by omega, by omega⟩
        | 2, _ => exact ⟨40, rfl, by decide, by decide⟩
      refine ⟨p4, _, r6, .int (n : Int), rfl, rfl, sq_of (d6.get n4 upd_same), by rw [show r6 = (r6.toNat : Int) by omega]; exact atI_nat hn, ?_⟩
      dsimp only [gName]
      have D6 : Drew s 3 H2 H6 := ((d3.trans d4).ex e5).trans d6
      -- row
      refine ⟨.ref s, rfl, .int (n : Int), rfl, s, n, 3, rfl, D6.src, n40, by omega, fun H7 pr zs d7 hpr hzs len names nd => ?_⟩
      subst len
      have D7 := D6.trans d7
      have npr : pr ≠ s := new_apart D6.src.at hpr
      have pr2 : H2 pr = none := D6.none src2 hpr
      dsimp only [gName]
      -- hidden
      refine ⟨.ref pr, rfl, pr, rfl, ⟨_, sq_of hzs⟩, fun D hD => ?_⟩
      have hD2 : H2 D = none := D7.none src2 hD
      have nDs : D ≠ s := new_apart D7.src.at hD
      have nDp : D ≠ pr := (ne_of_none hzs hD).symm
      refine lc_list (xs := zs.map V.str) (fun j Hh => ∃ os : List (Option Str), Hh D = some (.lst (os.map oV)) ∧ os.length = j ∧ (os.filterMap id).Sublist (zs.take j) ∧ Hh pr = some (.lst (zs.map V.str)) ∧ Drew s (50 + j) H2 Hh) ?_ ?_ ?_ ?_
      · exact ⟨[], upd_same, rfl, List.Sublist.refl _, by rw [upd_ne nDp.symm]; exact hzs, (D7.mut src2 hD2).mono (by omega)⟩
      · rintro j Hh _ ⟨os, _, _, _, hp, _⟩
        exact sq_of hp
      · rintro j x Hh hx ⟨os, hD1, leno, sub, hp, dr⟩
        rw [List.getElem?_map] at hx
        obtain ⟨z, hz, rfl⟩ := Option.map_eq_some_iff.mp hx
        have hj : j < zs.length := (List.getElem?_eq_some_iff.mp hz).1
        have tk : zs.take (j + 1) = zs.take j ++ [z] := by
          rw [List.take_add_one, hz]
          rfl
        refine ⟨rfl, ?_⟩
        dsimp only [tYes]
        rw [if_pos rfl]
        refine ⟨.ref s, rfl, s, 2, 50 + j, rfl, dr.src, by omega, by decide, by decide, fun H8 r8 d8 r80 r81 => ⟨rfl, decide (V.int r8 = V.int 0), rfl, ?_⟩⟩
        have dr8 := dr.trans d8
        have hD8 := d8.get nDs hD1
        have hp8 := d8.get npr hp
        cases hb : decide (V.int r8 = V.int 0) with
        | true =>
          refine ⟨os.map oV, hD8, sz_lt (by rw [List.length_map]; omega), os ++ [none], ?_, by rw [List.length_append, leno]; rfl, ?_, by rw [upd_ne nDp.symm]; exact hp8, dr8.mut src2 hD2⟩
          · rw [upd_same, List.map_append]
            rfl
          · rw [tk, List.filterMap_append]
            show (os.filterMap id ++ []).Sublist _
            rw [List.append_nil]
            exact sub.trans (List.sublist_append_left _ _)
        | false =>
          refine ⟨.str z, rfl, os.map oV, hD8, sz_lt (by rw [List.length_map]; omega), os ++ [some z], ?_, by rw [List.length_append, leno]; rfl, ?_, by rw [upd_ne nDp.symm]; exact hp8, dr8.mut src2 hD2⟩
          · rw [upd_same, List.map_append]
            rfl
          · rw [tk, List.filterMap_append]
            exact List.Sublist.append sub (List.Sublist.refl _)
      · rintro H9 ⟨os, hD9, leno, sub, hp9, D9⟩
        rw [List.length_map] at leno sub D9
        rw [List.take_length] at sub
        dsimp only [gName]
        -- parts
        refine ⟨show 0 ≤ sizeLine by decide, fun q1 hq1 => ⟨show 1 ≤ sizeLine by decide, fun q2 hq2 => ⟨show 2 ≤ sizeLine by decide, fun q3 hq3 => ⟨show 3 ≤ sizeLine by decide, fun pp hpp => ?_⟩⟩⟩⟩
        have v1 := Ex.new (o := .lst []) hq1
        have v2 := Ex.new (o := .lst [.int 0]) hq2
        have v3 := Ex.new (o := .lst [.int 39, .int 0]) hq3
        have v4 := Ex.new (o := .lst [.ref q1, .ref q2, .ref q3]) hpp
        have v14 := ((v1.trans v2).trans v3).trans v4
        have D10 := D9.ex v14
        have hq1' := (v2.trans (v3.trans v4)) _ _ (upd_same (H := H9) (a := q1) (o := .lst []))
        have hq2' := (v3.trans v4) _ _ (upd_same (H := upd H9 q1 (.lst [])) (a := q2) (o := .lst [.int 0]))
        have hq3' := v4 _ _ (upd_same (H := upd (upd H9 q1 (.lst [])) q2 (.lst [.int 0])) (a := q3) (o := .lst [.int 39, .int 0]))
        have hpp' := upd_same (H := upd (upd (upd H9 q1 (.lst [])) q2 (.lst [.int 0])) q3 (.lst [.int 39, .int 0])) (a := pp) (o := .lst [.ref q1, .ref q2, .ref q3])
        have hpr10 := v14 _ _ hp9
        have hD10 := v14 _ _ hD9
        have new1 := fun (b : Addr) (o : HO) (h : H9 b = some o) => (show b ≠ q1 ∧ b ≠ q2 ∧ b ≠ q3 ∧ b ≠ pp from ⟨ne_of_none h hq1, ne_of_none (v1 _ _ h) hq2, ne_of_none ((v1.trans v2) _ _ h) hq3, ne_of_none (((v1.trans v2).trans v3) _ _ h) hpp⟩)
        have pp9 : H9 pp = none := fresh_back ((v1.trans v2).trans v3) hpp
        have pp2 : H2 pp = none := D9.none src2 pp9
        obtain ⟨so, hso⟩ := D9.src.at
        obtain ⟨ns1', ns2', ns3', nsp⟩ := new1 s so hso
        obtain ⟨nr1, nr2, nr3, nrp⟩ := new1 pr _ hp9
        obtain ⟨nd1, nd2, nd3, ndp⟩ := new1 D _ hD9
        generalize upd (upd (upd (upd H9 q1 (.lst [])) q2 (.lst [.int 0])) q3 (.lst [.int 39, .int 0])) pp (.lst [.ref q1, .ref q2, .ref q3]) = G0 at D10 hq1' hq2' hq3' hpp' hpr10 hD10
        have zne : 1 ≤ zs.length := n1
        -- the four checks
        refine ⟨.ref s, rfl, .ref pr, rfl, s, pr, 0, 50 + zs.length, zs.map V.str, zs.map PyData.str, rfl, D10.src, by omega, npr, by decide, hpr10, dts_flat (G := G0) (dts_strs zs) (fun d hd => by
            obtain ⟨z, _, rfl⟩ := List.mem_map.mp hd
            exact .inr ⟨z, rfl⟩) _, row0 n1 n40 names nd, fun G1 x1 => ⟨true, rfl, iteF ?_⟩⟩
        have D11 := x1.off D10 pr2
        have hD11 := x1.get nDs nDp hD10
        refine ⟨.ref s, rfl, .ref D, rfl, s, D, 1, _, os.map oV, os.map oD, rfl, D11.src, by omega, nDs, by decide, hD11, dts_flat (G := G1) (dts_o os) (fun d hd => by
            obtain ⟨o, _, rfl⟩ := List.mem_map.mp hd
            cases o with
            | none => exact .inl rfl
            | some z => exact .inr ⟨z, rfl⟩) _, row1 n1 n40 names nd leno sub, fun G2 x2 => ⟨true, rfl, iteF ?_⟩⟩
        have D12 := x2.off D11 hD2
        refine ⟨.ref s, rfl, .ref s, rfl, s, _, rfl, D12.src, by omega, fun G3 pe xs es d13 hpe hxs prs eok => ?_⟩
        have D13 := D12.trans d13
        have npe : pe ≠ s := new_apart D12.src.at hpe
        have pe2 : H2 pe = none := D12.none src2 hpe
        refine ⟨s, pe, 2, _, xs, es.map Os.prD, rfl, D13.src, by omega, npe, by decide, hxs, (prs_hds (prs.ex hide_same) (fun b hb => by
            rcases List.mem_cons.mp hb with m | m
            · obtain ⟨x, y, z, h, _⟩ := D13.src
              rw [m]
              exact ⟨_, h⟩
            · rw [List.mem_singleton.mp m]
              exact ⟨_, hxs⟩)).dts, row2 eok, fun G4 x4 => ⟨true, rfl, iteF ?_⟩⟩
        have D14 := x4.off D13 pe2
        -- what parts holds stands
        have stay : ∀ {b : Addr} {o : HO}, G0 b = some o → b ≠ s → b ≠ pr → b ≠ D → G4 b = some o := fun h b1 b2 b3 => by
          have g1 := x1.get b1 b2 h
          have g2 := x2.get b1 b3 g1
          have g3 := d13.get b1 g2
          exact x4.get b1 (ne_of_none g2 hpe) g3
        have npp : pp ≠ s := nsp.symm
        have q13 : q1 ≠ pp := ne_of_none ((v2.trans v3) _ _ (upd_same (H := H9) (a := q1) (o := .lst []))) hpp
        have q23 : q2 ≠ pp := ne_of_none (v3 _ _ (upd_same (H := upd H9 q1 (.lst [])) (a := q2) (o := .lst [.int 0]))) hpp
        have q33 : q3 ≠ pp := ne_of_none (upd_same (H := upd (upd H9 q1 (.lst [])) q2 (.lst [.int 0])) (a := q3) (o := .lst [.int 39, .int 0])) hpp
        have in' : ∀ {b : Addr} {o : HO}, G0 b = some o → b ≠ s → b ≠ pr → b ≠ D → b ≠ pp → hds [s, pp] G4 b = some o := fun h b1 b2 b3 b4 => by
          rw [hds_ne (by simp [b1, b4])]
          exact stay h b1 b2 b3
        refine ⟨.ref s, rfl, .ref pp, rfl, s, pp, 3, _, [.ref q1, .ref q2, .ref q3], rowsD [[], [0], [39, 0]], rfl, D14.src, by omega, npp, by decide, stay hpp' npp nrp.symm ndp.symm, ?_, row3, fun G5 x5 => ⟨true, rfl, iteF ?_⟩⟩
        · exact .cons (.lst (in' hq1' ns1'.symm nr1.symm nd1.symm q13) .nil) (.cons (.lst (in' hq2' ns2'.symm nr2.symm nd2.symm q23) (.cons (.int 0) .nil)) (.cons (.lst (in' hq3' ns3'.symm nr3.symm nd3.symm q33) (.cons (.int 39) (.cons (.int 0) .nil))) .nil))
        · exact ⟨Drew.old (e1.trans e2) (fresh_back e1 ns1) (x5.off D14 pp2), by omega, _, _, _, _, _, _, _, rfl⟩
    · rintro σ' H1 ⟨e1, _, y1, y2, y3, y4, y5, y6, y7, rfl⟩
      exact s_ret (v := .bl true) ev_c fun H2 e2 => q H2
end
end K95
namespace K95
open PySem PySem.Spec PyProof.Rows L2 Os Evl
section
variable {l : PySem.W.OpenLaw} {w : World} {K : PySem.W.Frag} {h : Heap} {mg : Str → Option Value} {fa : Addr}
/-- a def that stands at the top -/
def Def (K : PySem.W.Frag) (x : Str) (st : Stmt) (f : Addr) : Prop :=
  PySem.W.nsIn K mainGlobals x = some (some (.ref f)) ∧ (∃ (oc kV dc pm cd ct : Value) (od an : Option Addr) (sl : Array (Option Value)), K.lookup f = some ⟨oc, od, .func (PySem.W.fnOf x x (defArgs st) (defBody st) (defScope st) .none kV dc pm an cd ct), sl⟩ ∧ PySem.W.codeIn K cd x = true) ∧ PySem.W.keepIn K (.ref f) = true
theorem Def.of {x : Str} {st : Stmt} {f : Addr} {oc kV dc pm cd ct : Value} {od an : Option Addr} {sl : Array (Option Value)} (a : PySem.W.nsIn K mainGlobals x = some (some (.ref f)))
    (lk : K.lookup f = some ⟨oc, od, .func (PySem.W.fnOf x x (defArgs st) (defBody st) (defScope st) .none kV dc pm an cd ct), sl⟩) (c : PySem.W.codeIn K cd x = true) (kp : PySem.W.keepIn K (.ref f) = true) : Def K x st f :=
  ⟨a, ⟨oc, kV, dc, pm, cd, ct, od, an, sl, lk, c⟩, kp⟩
theorem Def.fun_ {x : Str} {st : Stmt} {f : Addr} (d : Def K x st f) : ∃ fd, Fun K x x st f fd := by
  obtain ⟨_, ⟨oc, kV, dc, pm, cd, ct, od, an, sl, lk, c⟩, k⟩ := d
  exact ⟨_, fun_mk lk c k⟩
theorem all_mk (X : K.In h) (G : h.Ns mainGlobals mg) (hfa : mg "law" = some (.ref fa))
    {fInt fPos fEdge fItem fWI fRI fWS fRS fNum fPairIn fWE fRE fWT fTI fRT fSource fPick fShuf fNames fAllP fPairs fChange fPage fWritten fRead fNew fRight fLaw : Addr} {t40 t100 t9 tE t8 tU : Tok} (n40 : PySem.W.nsIn K mainGlobals "MOST_POSITIONS" = some (some (.int 40 t40))) (n100 : PySem.W.nsIn K mainGlobals "MOST_EDGES" = some (some (.int 100 t100))) (n9 : PySem.W.nsIn K mainGlobals "MOST_DIGITS" = some (some (.int 9 t9))) (nE : PySem.W.nsIn K mainGlobals "EMPTY" = some (some (.str "-" tE))) (n8 : PySem.W.nsIn K mainGlobals "MOST_LETTERS" = some (some (.int 8 t8))) (nU : PySem.W.nsIn K mainGlobals "UNSEEN" = some (some (.str "?" tU)))
    (dInt : Def K "is_integer" sInt fInt)
    (dPos : Def K "is_position" sPos fPos)
    (dEdge : Def K "is_edge" sEdge fEdge)
    (dItem : Def K "is_item" sItem fItem)
    (dWI : Def K "write_items" sWI fWI)
    (dRI : Def K "read_items" sRI fRI)
    (dWS : Def K "write_seen" sWS fWS)
    (dRS : Def K "read_seen" sRS fRS)
    (dNum : Def K "number_in" sNum fNum)
    (dPairIn : Def K "pair_in" sPairIn fPairIn)
    (dWE : Def K "write_edges" sWE fWE)
    (dRE : Def K "read_edges" sRE fRE)
    (dWT : Def K "write_turns" sWT fWT)
    (dTI : Def K "_turn_in" sTI fTI)
    (dRT : Def K "read_turns" sRT fRT)
    (dSource : Def K "_law_source" sSource fSource)
    (dPick : Def K "_law_pick" sPick fPick)
    (dShuf : Def K "_law_shuffled" sShuf fShuf)
    (dNames : Def K "_law_names" sNames fNames)
    (dAllP : Def K "_law_all_pairs" sAllP fAllP)
    (dPairs : Def K "_law_pairs" sPairs fPairs)
    (dChange : Def K "_law_change" sChange fChange)
    (dPage : Def K "_law_page" sPage fPage)
    (dWritten : Def K "_law_written" sWritten fWritten)
    (dRead : Def K "_law_read" sRead fRead)
    (dNew : Def K "_law_new" sNew fNew)
    (dRight : Def K "_law_right" sRight fRight)
    (aLaw : PySem.W.nsIn K mainGlobals "law" = some (some (.ref fLaw))) {oc kV dc pm cd ct : Value} {od an : Option Addr} {sl : Array (Option Value)} (lLaw : K.lookup fLaw = some ⟨oc, od, .func (PySem.W.fnOf "law" "law" (defArgs sLaw) (defBody sLaw) (defScope sLaw) .none kV dc pm an cd ct), sl⟩) (cLaw : PySem.W.codeIn K cd "law" = true) (kLaw : PySem.W.keepIn K (.ref fLaw) = true)
    (z_isinstance : PySem.W.nsIn K mainGlobals "isinstance" = some none) (z_int : PySem.W.nsIn K mainGlobals "int" = some none) (z_bool : PySem.W.nsIn K mainGlobals "bool" = some none) (z_tuple : PySem.W.nsIn K mainGlobals "tuple" = some none) (z_len : PySem.W.nsIn K mainGlobals "len" = some none) (z_all : PySem.W.nsIn K mainGlobals "all" = some none) (z_str : PySem.W.nsIn K mainGlobals "str" = some none) (z_set : PySem.W.nsIn K mainGlobals "set" = some none) (z_enumerate : PySem.W.nsIn K mainGlobals "enumerate" = some none) (z_max : PySem.W.nsIn K mainGlobals "max" = some none) (z_abs : PySem.W.nsIn K mainGlobals "abs" = some none) (z_list : PySem.W.nsIn K mainGlobals "list" = some none) (z_range : PySem.W.nsIn K mainGlobals "range" = some none) (z_min : PySem.W.nsIn K mainGlobals "min" = some none) :
    ∃ fd : FuncData, (∀ (s : Shared) (v : Value), BindsTo s fd ⟨[v], []⟩ [("script", v)]) ∧ ∀ base : Heap, K.In base → base.Ns mainGlobals mg → FnG l.prog w K mg base 7 fa fd ["script"] (spLaw K) := by
  have e := hfa.symm.trans (PySem.W.mg_of X G aLaw)
  cases e
  have none' : ∀ {x : Str}, PySem.W.nsIn K mainGlobals x = some none → mg x = none := fun z => PySem.W.mg_none_of X G z
  have ref' : ∀ {x : Str} {f : Addr}, PySem.W.nsIn K mainGlobals x = some (some (.ref f)) → mg x = some (.ref f) := fun z => PySem.W.mg_of X G z
  obtain ⟨fdInt, FInt⟩ := dInt.fun_
  obtain ⟨fdPos, FPos⟩ := dPos.fun_
  obtain ⟨fdEdge, FEdge⟩ := dEdge.fun_
  obtain ⟨fdItem, FItem⟩ := dItem.fun_
  obtain ⟨fdWI, FWI⟩ := dWI.fun_
  obtain ⟨fdRI, FRI⟩ := dRI.fun_
  obtain ⟨fdWS, FWS⟩ := dWS.fun_
  obtain ⟨fdRS, FRS⟩ := dRS.fun_
  obtain ⟨fdNum, FNum⟩ := dNum.fun_
  obtain ⟨fdPairIn, FPairIn⟩ := dPairIn.fun_
  obtain ⟨fdWE, FWE⟩ := dWE.fun_
  obtain ⟨fdRE, FRE⟩ := dRE.fun_
  obtain ⟨fdWT, FWT⟩ := dWT.fun_
  obtain ⟨fdTI, FTI⟩ := dTI.fun_
  obtain ⟨fdRT, FRT⟩ := dRT.fun_
  obtain ⟨fdSource, FSource⟩ := dSource.fun_
  obtain ⟨fdPick, FPick⟩ := dPick.fun_
  obtain ⟨fdShuf, FShuf⟩ := dShuf.fun_
  obtain ⟨fdNames, FNames⟩ := dNames.fun_
  obtain ⟨fdAllP, FAllP⟩ := dAllP.fun_
  obtain ⟨fdPairs, FPairs⟩ := dPairs.fun_
  obtain ⟨fdChange, FChange⟩ := dChange.fun_
  obtain ⟨fdPage, FPage⟩ := dPage.fun_
  obtain ⟨fdWritten, FWritten⟩ := dWritten.fun_
  obtain ⟨fdRead, FRead⟩ := dRead.fun_
  obtain ⟨fdNew, FNew⟩ := dNew.fun_
  obtain ⟨fdRight, FRight⟩ := dRight.fun_
  have FLaw := fun_mk (st := sLaw) lLaw cLaw kLaw
  have bInt := FInt.binds (ps := ["thing"]) fun _ _ _ _ _ _ us hl => match us, hl with | [_], _ => rfl
  have bPos := FPos.binds (ps := ["n", "thing"]) fun _ _ _ _ _ _ us hl => match us, hl with | [_, _], _ => rfl
  have bEdge := FEdge.binds (ps := ["n", "thing"]) fun _ _ _ _ _ _ us hl => match us, hl with | [_, _], _ => rfl
  have bItem := FItem.binds (ps := ["thing"]) fun _ _ _ _ _ _ us hl => match us, hl with | [_], _ => rfl
  have bWI := FWI.binds (ps := ["items"]) fun _ _ _ _ _ _ us hl => match us, hl with | [_], _ => rfl
  have bRI := FRI.binds (ps := ["text"]) fun _ _ _ _ _ _ us hl => match us, hl with | [_], _ => rfl
  have bWS := FWS.binds (ps := ["seen"]) fun _ _ _ _ _ _ us hl => match us, hl with | [_], _ => rfl
  have bRS := FRS.binds (ps := ["text"]) fun _ _ _ _ _ _ us hl => match us, hl with | [_], _ => rfl
  have bNum := FNum.binds (ps := ["word"]) fun _ _ _ _ _ _ us hl => match us, hl with | [_], _ => rfl
  have bPairIn := FPairIn.binds (ps := ["word"]) fun _ _ _ _ _ _ us hl => match us, hl with | [_], _ => rfl
  have bWE := FWE.binds (ps := ["edges"]) fun _ _ _ _ _ _ us hl => match us, hl with | [_], _ => rfl
  have bRE := FRE.binds (ps := ["text"]) fun _ _ _ _ _ _ us hl => match us, hl with | [_], _ => rfl
  have bWT := FWT.binds (ps := ["turns"]) fun _ _ _ _ _ _ us hl => match us, hl with | [_], _ => rfl
  have bTI := FTI.binds (ps := ["line"]) fun _ _ _ _ _ _ us hl => match us, hl with | [_], _ => rfl
  have bRT := FRT.binds (ps := ["text"]) fun _ _ _ _ _ _ us hl => match us, hl with | [_], _ => rfl
  have bSource := FSource.binds (ps := ["script", "k"]) fun _ _ _ _ _ _ us hl => match us, hl with | [_, _], _ => rfl
  have bPick := FPick.binds (ps := ["source", "count"]) fun _ _ _ _ _ _ us hl => match us, hl with | [_, _], _ => rfl
  have bShuf := FShuf.binds (ps := ["source", "row"]) fun _ _ _ _ _ _ us hl => match us, hl with | [_, _], _ => rfl
  have bNames := FNames.binds (ps := ["source", "size"]) fun _ _ _ _ _ _ us hl => match us, hl with | [_, _], _ => rfl
  have bAllP := FAllP.binds (ps := ["span"]) fun _ _ _ _ _ _ us hl => match us, hl with | [_], _ => rfl
  have bPairs := FPairs.binds (ps := ["source", "most"]) fun _ _ _ _ _ _ us hl => match us, hl with | [_, _], _ => rfl
  have bChange := FChange.binds (ps := ["source", "row", "most", "new"]) fun _ _ _ _ _ _ us hl => match us, hl with | [_, _, _, _], _ => rfl
  have bPage := FPage.binds (ps := ["door", "row"]) fun _ _ _ _ _ _ us hl => match us, hl with | [_, _], _ => rfl
  have bWritten := FWritten.binds (ps := ["door", "row"]) fun _ _ _ _ _ _ us hl => match us, hl with | [_, _], _ => rfl
  have bRead := FRead.binds (ps := ["door", "page"]) fun _ _ _ _ _ _ us hl => match us, hl with | [_, _], _ => rfl
  have bNew := FNew.binds (ps := ["source", "door"]) fun _ _ _ _ _ _ us hl => match us, hl with | [_, _], _ => rfl
  have bRight := FRight.binds (ps := ["source", "door", "row", "most"]) fun _ _ _ _ _ _ us hl => match us, hl with | [_, _, _, _], _ => rfl
  refine ⟨PySem.W.fnOf "law" "law" (defArgs sLaw) (defBody sLaw) (defScope sLaw) .none kV dc pm an cd ct, fun s v => .of_eq rfl, fun base _ _ => ?_⟩
  have GInt : FnOk l.prog w K mg base CX0 1 fInt fdInt ["thing"] spInt := ok_int FInt (none' z_isinstance) (none' z_int) (none' z_bool)
  have GPos : FnOk l.prog w K mg base CX0 2 fPos fdPos ["n", "thing"] spPos := ok_pos FPos (GInt.mono (by decide)) FInt bInt (ref' dInt.1)
  have GEdge : FnOk l.prog w K mg base CX0 3 fEdge fdEdge ["n", "thing"] spEdge := ok_edge FEdge (GPos.mono (by decide)) FPos bPos (ref' dPos.1) (none' z_isinstance) (none' z_tuple) (none' z_len)
  have GItem : FnOk l.prog w K mg base CX0 1 fItem fdItem ["thing"] spItem := ok_item FItem (none' z_isinstance) (none' z_str) (none' z_len) (none' z_all) (PySem.W.mg_of X G n8)
  have GWI : FnOk l.prog w K mg base CX0 1 fWI fdWI ["items"] spWI := ok_wi FWI
  have GRI : FnOk l.prog w K mg base CX0 2 fRI fdRI ["text"] spRI := ok_ri FRI (GItem.mono (by decide)) FItem bItem (ref' dItem.1) (none' z_enumerate) (PySem.W.mg_of X G n40)
  have GWS : FnOk l.prog w K mg base CX0 1 fWS fdWS ["seen"] spWS := ok_ws FWS (PySem.W.mg_of X G nU)
  have GRS : FnOk l.prog w K mg base CX0 2 fRS fdRS ["text"] spRS := ok_rs FRS (GItem.mono (by decide)) FItem bItem (ref' dItem.1) (none' z_enumerate) (PySem.W.mg_of X G n40) (PySem.W.mg_of X G nU)
  have GNum : FnOk l.prog w K mg base CX0 1 fNum fdNum ["word"] spNum := ok_num FNum (none' z_len) (none' z_all) (none' z_int) (PySem.W.mg_of X G n9)
  have GPairIn : FnOk l.prog w K mg base CX0 2 fPairIn fdPairIn ["word"] spPairIn := ok_pairIn FPairIn (GNum.mono (by decide)) FNum bNum (ref' dNum.1) (none' z_len)
  have GWE : FnOk l.prog w K mg base CX0 1 fWE fdWE ["edges"] spWE := ok_we FWE (PySem.W.mg_of X G nE)
  have GRE : FnOk l.prog w K mg base CX0 4 fRE fdRE ["text"] spRE := ok_re FRE (GPairIn.mono (by decide)) FPairIn bPairIn (ref' dPairIn.1) (GEdge.mono (by decide)) FEdge bEdge (ref' dEdge.1) (none' z_len) (none' z_enumerate) (PySem.W.mg_of X G n40) (PySem.W.mg_of X G n100) (PySem.W.mg_of X G nE)
  have GWT : FnOk l.prog w K mg base CX0 1 fWT fdWT ["turns"] spWT := ok_wt FWT (none' z_str) (PySem.W.mg_of X G nE)
  have GTI : FnOk l.prog w K mg base CX0 3 fTI fdTI ["line"] spTI := ok_ti FTI (GNum.mono (by decide)) FNum bNum (ref' dNum.1) (GPos.mono (by decide)) FPos bPos (ref' dPos.1) (none' z_all) (none' z_len) (none' z_set) (PySem.W.mg_of X G n40) (PySem.W.mg_of X G nE)
  have GRT : FnOk l.prog w K mg base CX0 4 fRT fdRT ["text"] spRT := ok_rt FRT (GTI.mono (by decide)) FTI bTI (ref' dTI.1) (none' z_enumerate) (PySem.W.mg_of X G n40)
  have GSource : FnOk l.prog w K mg base CX0 1 fSource fdSource ["script", "k"] (spSource K) := ok_source FSource (none' z_len) (none' z_max) (none' z_abs)
  have GPick : FnOk l.prog w K mg base CX0 1 fPick fdPick ["source", "count"] spPick := ok_pick FPick
  have GShuf : FnOk l.prog w K mg base CX0 2 fShuf fdShuf ["source", "row"] spShuf := ok_shuf FShuf (GPick.mono (by decide)) FPick bPick (ref' dPick.1) (none' z_list) (none' z_len) (none' z_range)
  have GNames : FnOk l.prog w K mg base CX0 3 fNames fdNames ["source", "size"] spNames := ok_names FNames (GPick.mono (by decide)) FPick bPick (ref' dPick.1) (GShuf.mono (by decide)) FShuf bShuf (ref' dShuf.1) (none' z_range)
  have GAllP : FnOk l.prog w K mg base CX0 1 fAllP fdAllP ["span"] spAllP := ok_allP FAllP (none' z_range)
  have GPairs : FnOk l.prog w K mg base CX0 2 fPairs fdPairs ["source", "most"] spPairs := ok_pairs FPairs (GPick.mono (by decide)) FPick bPick (ref' dPick.1) (GAllP.mono (by decide)) FAllP bAllP (ref' dAllP.1) (none' z_min) (none' z_len) (none' z_range)
  have GChange : FnOk l.prog w K mg base CX0 2 fChange fdChange ["source", "row", "most", "new"] spChange := ok_change FChange (GPick.mono (by decide)) FPick bPick (ref' dPick.1) (none' z_len) (none' z_min)
  have GPage : FnOk l.prog w K mg base CX0 1 fPage fdPage ["door", "row"] spPage := ok_page FPage (none' z_len) (none' z_str)
  have GWritten : FnOk l.prog w K mg base CX0 2 fWritten fdWritten ["door", "row"] spPage := ok_written FWritten (GWI.mono (by decide)) FWI bWI (ref' dWI.1) (GWS.mono (by decide)) FWS bWS (ref' dWS.1) (GWE.mono (by decide)) FWE bWE (ref' dWE.1) (GWT.mono (by decide)) FWT bWT (ref' dWT.1)
  have GRead : FnOk l.prog w K mg base CX0 5 fRead fdRead ["door", "page"] spRead := ok_read FRead (GRI.mono (by decide)) FRI bRI (ref' dRI.1) (GRS.mono (by decide)) FRS bRS (ref' dRS.1) (GRE.mono (by decide)) FRE bRE (ref' dRE.1) (GRT.mono (by decide)) FRT bRT (ref' dRT.1)
  have GNew : FnOk l.prog w K mg base CX0 2 fNew fdNew ["source", "door"] spNew := ok_new FNew (GPick.mono (by decide)) FPick bPick (ref' dPick.1) (none' z_range)
  have GRight : FnOk l.prog w K mg base CX0 6 fRight fdRight ["source", "door", "row", "most"] spRight := ok_right FRight (GPage.mono (by decide)) FPage bPage (ref' dPage.1) (GWritten.mono (by decide)) FWritten bWritten (ref' dWritten.1) (GRead.mono (by decide)) FRead bRead (ref' dRead.1) (GChange.mono (by decide)) FChange bChange (ref' dChange.1) (GNew.mono (by decide)) FNew bNew (ref' dNew.1) (GPick.mono (by decide)) FPick bPick (ref' dPick.1) (none' z_range) (none' z_list) (none' z_len)
  exact ok_law FLaw (GSource.mono (by decide)) FSource bSource (ref' dSource.1) (GPick.mono (by decide)) FPick bPick (ref' dPick.1) (GNames.mono (by decide)) FNames bNames (ref' dNames.1) (GPairs.mono (by decide)) FPairs bPairs (ref' dPairs.1) (GRight.mono (by decide)) FRight bRight (ref' dRight.1) (none' z_range) (none' z_max) (none' z_min) (none' z_len)
end
end K95
open PySem PySem.W PyProof.Rows
set_option maxHeartbeats 0 in
theorem PySem.Challenge.cw_onceswapped_k95_lists_changed_in_place_holds : PySem.Challenge.rw_onceswapped_k95_lists_changed_in_place.Holds := by
  w_on; o_law; k_head; (case hw => w_witness2)
  k_fill
  refine Os.walk_ofG (l := PySem.Challenge.rw_onceswapped_k95_lists_changed_in_place) (n := 63) (k := 7) (x := "script") (sp := fun w => K95.spLaw _) rfl (by decide) rfl ⟨rfl, by decide, by decide⟩ (fun w h Y => PySem.W.kIn_of Y) ?F (fun _ _ a ns hl _ hS => ⟨a, ns, rfl, hS, hl, fun _ => rfl⟩)
  case F =>
    intro w mg fa h KX G hmg
    refine' K95.all_mk KX G hmg ?n40 ?n100 ?n9 ?nE ?n8 ?nU ?dInt ?dPos ?dEdge ?dItem ?dWI ?dRI ?dWS ?dRS ?dNum ?dPairIn ?dWE ?dRE ?dWT ?dTI ?dRT ?dSource ?dPick ?dShuf ?dNames ?dAllP ?dPairs ?dChange ?dPage ?dWritten ?dRead ?dNew ?dRight ?a13 ?l13 ?c13 ?k13 ?zisinstance ?zint ?zbool ?ztuple ?zlen ?zall ?zstr ?zset ?zenumerate ?zmax ?zabs ?zlist ?zrange ?zmin
    (case n40 => k_is)
    (case n100 => k_is)
    (case n9 => k_is)
    (case nE => k_is)
    (case n8 => k_is)
    (case nU => k_is)
    (case dInt => refine' K95.Def.of ?a ?l ?c ?k; (case a => k_is); (case l => k_is); (case c => k_is); (case k => k_is))
    (case dPos => refine' K95.Def.of ?a ?l ?c ?k; (case a => k_is); (case l => k_is); (case c => k_is); (case k => k_is))
    (case dEdge => refine' K95.Def.of ?a ?l ?c ?k; (case a => k_is); (case l => k_is); (case c => k_is); (case k => k_is))
    (case dItem => refine' K95.Def.of ?a ?l ?c ?k; (case a => k_is); (case l => k_is); (case c => k_is); (case k => k_is))
    (case dWI => refine' K95.Def.of ?a ?l ?c ?k; (case a => k_is); (case l => k_is); (case c => k_is); (case k => k_is))
    (case dRI => refine' K95.Def.of ?a ?l ?c ?k; (case a => k_is); (case l => k_is); (case c => k_is); (case k => k_is))
    (case dWS => refine' K95.Def.of ?a ?l ?c ?k; (case a => k_is); (case l => k_is); (case c => k_is); (case k => k_is))
    (case dRS => refine' K95.Def.of ?a ?l ?c ?k; (case a => k_is); (case l => k_is); (case c => k_is); (case k => k_is))
    (case dNum => refine' K95.Def.of ?a ?l ?c ?k; (case a => k_is); (case l => k_is); (case c => k_is); (case k => k_is))
    (case dPairIn => refine' K95.Def.of ?a ?l ?c ?k; (case a => k_is); (case l => k_is); (case c => k_is); (case k => k_is))
    (case dWE => refine' K95.Def.of ?a ?l ?c ?k; (case a => k_is); (case l => k_is); (case c => k_is); (case k => k_is))
    (case dRE => refine' K95.Def.of ?a ?l ?c ?k; (case a => k_is); (case l => k_is); (case c => k_is); (case k => k_is))
    (case dWT => refine' K95.Def.of ?a ?l ?c ?k; (case a => k_is); (case l => k_is); (case c => k_is); (case k => k_is))
    (case dTI => refine' K95.Def.of ?a ?l ?c ?k; (case a => k_is); (case l => k_is); (case c => k_is); (case k => k_is))
    (case dRT => refine' K95.Def.of ?a ?l ?c ?k; (case a => k_is); (case l => k_is); (case c => k_is); (case k => k_is))
    (case dSource => refine' K95.Def.of ?a ?l ?c ?k; (case a => k_is); (case l => k_is); (case c => k_is); (case k => k_is))
    (case dPick => refine' K95.Def.of ?a ?l ?c ?k; (case a => k_is); (case l => k_is); (case c => k_is); (case k => k_is))
    (case dShuf => refine' K95.Def.of ?a ?l ?c ?k; (case a => k_is); (case l => k_is); (case c => k_is); (case k => k_is))
    (case dNames => refine' K95.Def.of ?a ?l ?c ?k; (case a => k_is); (case l => k_is); (case c => k_is); (case k => k_is))
    (case dAllP => refine' K95.Def.of ?a ?l ?c ?k; (case a => k_is); (case l => k_is); (case c => k_is); (case k => k_is))
    (case dPairs => refine' K95.Def.of ?a ?l ?c ?k; (case a => k_is); (case l => k_is); (case c => k_is); (case k => k_is))
    (case dChange => refine' K95.Def.of ?a ?l ?c ?k; (case a => k_is); (case l => k_is); (case c => k_is); (case k => k_is))
    (case dPage => refine' K95.Def.of ?a ?l ?c ?k; (case a => k_is); (case l => k_is); (case c => k_is); (case k => k_is))
    (case dWritten => refine' K95.Def.of ?a ?l ?c ?k; (case a => k_is); (case l => k_is); (case c => k_is); (case k => k_is))
    (case dRead => refine' K95.Def.of ?a ?l ?c ?k; (case a => k_is); (case l => k_is); (case c => k_is); (case k => k_is))
    (case dNew => refine' K95.Def.of ?a ?l ?c ?k; (case a => k_is); (case l => k_is); (case c => k_is); (case k => k_is))
    (case dRight => refine' K95.Def.of ?a ?l ?c ?k; (case a => k_is); (case l => k_is); (case c => k_is); (case k => k_is))
    (case a13 => k_is); (case l13 => k_is); (case c13 => k_is); (case k13 => k_is)
    (case zisinstance => k_is); (case zint => k_is); (case zbool => k_is); (case ztuple => k_is); (case zlen => k_is); (case zall => k_is); (case zstr => k_is); (case zset => k_is); (case zenumerate => k_is); (case zmax => k_is); (case zabs => k_is); (case zlist => k_is); (case zrange => k_is); (case zmin => k_is)
