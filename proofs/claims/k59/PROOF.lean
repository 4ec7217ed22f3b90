import PyProof.Rows.All
import Wide.All
import OpenK.AllK
import Wide.FinOn
import HandS.ForMost
import HandS.ForExc
import HandS.Wide
import KE.DatumIndex
import HandS.TupAny
import HandS.Deep
import HandS.CallLocal
import HandS.IsInst
import HandS.ExcIs
import HandS.NoneIn
import HandS.Zip
import HandS.TupMul
import HandS.Style
import HandS.Comp
import HandS.HotCalls
import HandS.MapSum
import PyProof.MaxThree
import HandS.SortInts
import HandS.SortRule
import HandS.Dict
import KE.KRevSl
import HandS.Conv
import HandS.RevRange
import PyProof.StrOps2
import KE.GoesMore
import HandS.SetFor
import HandS.Strs
import HandS.Flow
import HandS.DictComp
import HandS.TupSets
import HandS.BoundDict
import PySem.Challenge.RW_paintershouse_k59_plans_and_prices_judge
set_option Elab.async false
set_option linter.all false
set_option maxRecDepth 100000
set_option maxHeartbeats 4000000
namespace Dn
open PySem PySem.Spec PyProof.Rows L2

/-! a def's promise, where it is known that no repr runs around the call -/
structure FnG (P : Program) (w : World) (K : PySem.W.Frag) (mg : Str → Option Value) (base : Heap) (CX : CXT) (k : Nat) (f : Addr) (fd : FuncData) (ps : List Str) (sp : Sp) : Prop where
  size : ∀ xs H Q E, sp xs H Q E → xs.length = ps.length
  goes : ∀ (A : Around) (outer : List Env) (s : Shared) (H : Hp) (args : Args) (us : List Value) (xs : List V) (Q : VK) (E : XK), A.guards = some [] → Room k A →
    Env0 P w K mg base A outer s H → BindsTo s fd args (ps.zip us) → Vals xs us → sp xs H Q E → codeAny (model P w) A (.call (.ref f) args) (CR CX outer P w H s Q E) s

section
variable {P : Program} {w : World} {K : PySem.W.Frag} {mg : Str → Option Value} {base : Heap} {CX : CXT} {k : Nat} {f : Addr} {fd : FuncData} {ps : List Str} {sp : Sp}
theorem FnG.of (F : FnOk P w K mg base CX k f fd ps sp) : FnG P w K mg base CX k f fd ps sp :=
  ⟨F.len, fun A o s H args us xs Q E _ r e b v h => F.run A o s H args us xs Q E r e b v h⟩
theorem FnG.up {j : Nat} (F : FnG P w K mg base CX j f fd ps sp) (h : j ≤ k) : FnG P w K mg base CX k f fd ps sp :=
  ⟨F.size, fun A o s H args us xs Q E g r => F.goes A o s H args us xs Q E g (r.mono h)⟩
end

section
variable {P : Program} {w : World} {K : PySem.W.Frag} {mg : Str → Option Value} {base : Heap} {CX : CXT} {k : Nat}
/-- by the body -/
theorem FnG.body {x qual : Str} {st : Stmt} {f : Addr} {fd : FuncData} {N ps : List Str} {sp : Sp} (F : Fun K x qual st f fd) (S : FnScope N ps (defScope st)) (size : ∀ xs H Q E, sp xs H Q E → xs.length = ps.length)
    (bd : ∀ (cdv : Value) (A : Around) (outer : List Env) (s : Shared) (H : Hp) (xs : List V) (Q : VK) (E : XK), (A.deeper (envOfC qual (defScope st) s.heap.objs.size f cdv)).guards = some [] →
      Room k (A.deeper (envOfC qual (defScope st) s.heap.objs.size f cdv)) → sp xs H Q E →
      ∃ t, PSs (cxOf CX P w K mg base N qual (defScope st) f cdv A outer s H E) (defBody st) t ∧ t { nx := fun _ H' => Q .non H', rt := Q } (start N xs) H) :
    FnG P w K mg base CX (k + 1) f fd ps sp := by
  obtain ⟨oc, od, kV, doc, pm, an, cdv, ct, osl, hfd, look, hcode⟩ := F.ex
  subst hfd
  constructor
  · exact size
  · intro A outer s H args us xs Q E guard room env bound rel want
    have same : xs.length = ps.length := size xs H Q E want
    have there : ∀ b o, base.get? b = some o → s.heap.get? b = some o := fun b o e => (env.bs b o e).1
    have inK : K.In s.heap := env.mod.kin.keeps there
    have free : s.heap.NoLimit := env.mod.nolimit.keeps there
    have kinds : ∀ y ∈ ps.zip us, (defScope st).names.lookup y.1 = some .local ∨ ((defScope st).names.lookup y.1 = some .cell ∧ ((cellsFrom (s.heap.objs.size + 1) (defScope st).names []).lookup y.1).isSome = true) := by
      rintro ⟨n, v⟩ hy
      cases S.par n (List.of_mem_zip hy).1 with
      | inl q => exact Or.inl q
      | inr q => exact Or.inr ⟨q, PySem.W.cellsFrom_some _ _ _ (Or.inl q)⟩
    apply codeAny_call_function room.depth (inK _ _ look) rfl S.co S.gen rfl (PySem.W.codeRec_of inK hcode)
    apply bound
    apply wpAny_newFunctionEnv_cells S.kind kinds
    intro e he s1 made
    cases he
    refine ⟨free.keeps made.toInCall.keep, ?_⟩
    apply codeAny_func
    obtain ⟨t, isT, ends⟩ := bd cdv A outer s H xs Q E guard (room.deeper _) want
    have J := inv_start (CX := CX) (E := E) S room.hd env same rel made
    refine wpAny_mono (isT.run [] s1 (start N xs) H _ J ends) ?_ (fun _ _ z => z)
    intro flow s2 got
    cases flow with
    | ret u => obtain ⟨v, τ, H2, J2, rv, q⟩ := got; exact ⟨v, H2, J2.os, J2.bare, J2.base, J2.hok, rv, q⟩
    | next => obtain ⟨τ, H2, J2, q⟩ := got; exact ⟨V.non, H2, J2.os, J2.bare, J2.base, J2.hok, rfl, q⟩
    | brk => exact got.elim fun _ z => z.elim fun _ z => z.2.elim
    | cont => exact got.elim fun _ z => z.elim fun _ z => z.2.elim
end

section
variable {X : Cx} {CX : CXT} {k : Nat} {f : Addr} {fd : FuncData} {ps : List Str} {sp : Sp} {E : XK} {x : Str} {p pos : Pos} {e : Expr} {es : List Expr} {t : TA}
theorem FnG.call {pins : List (Addr × Obj)} {σ : L2.St} {H : Hp} {s : Shared} {Q : VK} {us : List Value} {xs : List V} (F : FnG X.prog X.w X.K X.mg X.base CX k f fd ps sp) (g : X.A.guards = some []) (room : Room k X.A) (hb : Binds X.K fd ps [])
    (hx : Passes CX X E) (I : Inv X pins σ H s) (r : Vals xs us) (h : sp xs H Q E) : wpAny (model X.prog X.w) X.A (PySem.call (.ref f) us) (EP X pins σ Q) X.xe s := by
  have hl : (us ++ ([] : List Value)).length = ps.length := by
    rw [List.append_nil, ← r.length]
    exact F.size _ _ _ _ h
  have hb' := hb s us I.kIn hl
  rw [List.append_nil] at hb'
  apply wpAny_call
  refine codeAny_mono (F.goes X.A X.stack s H ⟨us, []⟩ us xs Q E g room I.env0 hb' r h) ?_
  intro res s2 got
  match res, got with
  | .error er, got => exact hx pins σ H s er s2 I got
  | .ok (.ret u), got => exact I.after got
  | .ok .next, got => exact got.elim
  | .ok .brk, got => exact got.elim
  | .ok .cont, got => exact got.elim
/-- f(e, ..) -/
theorem pe_callG (F : FnG X.prog X.w X.K X.mg X.base CX k f fd ps sp) (g : X.A.guards = some []) (room : Room k X.A) (hg : Gl X x) (hm : X.mg x = some (.ref f)) (hk : PySem.W.keepIn X.K (.ref f) = true) (hb : Binds X.K fd ps [])
    (hx : Passes CX X E) (ha : PA X (e :: es) t) (hdb : (x == ("__debug__" : Str)) = false := by decide) (he : starEach (e :: es) X.env = (false, eval e X.env) :: starEach es X.env := by rfl)
    (hpl : (backTo pos (starEach es X.env)).any (·.1) = false := by rfl) : PE X (.Call (.Name x p) (e :: es) [] pos) (fun σ H Q => t σ H fun xs H1 => sp xs H1 Q E) := by
  constructor
  intro pins s σ H Q I h
  apply wpAny_Call_Name_kw
  refine ld_glob I hg hm ?_ hdb
  refine PySem.W.callWith_K (h₀ := X.base) I.ok.mod.kin hk ?_ he hpl
  refine thn (ha.run pos pins s σ H _ I h) ?_
  rintro us s1 ⟨xs, H1, I1, r, q⟩
  exact ⟨I1.kIn, FnG.call F g room hb hx I1 r q⟩
end

/-! the law's own call -/
section
variable {P : Program} {w : World} {K : PySem.W.Frag} {mg mb : Str → Option Value} {k : Nat} {fa a : Addr} {fd : FuncData} {x : Str} {sp : Sp} {s : Shared} {us : List Value} {ns : List Int}
theorem law_core {H : Hp} (only : ∀ b, H b ≠ none → b = a ∧ ∃ o ys, H b = some (.frz o (.lst ys))) (outK : H a ≠ none → K.lookup a = none) (hok : HOk P w H s.heap)
    (KX : K.In s.heap) (gl : s.heap.Ns mainGlobals mg) (bl : s.heap.Ns builtinsNs mb) (bb : ∀ x : Str, x ≠ "__name__" → mb x = bootBuiltins x) (nl : s.heap.NoLimit) (bare : s.gens = #[])
    (at_a : s.heap.get? a = some { cls := .type "list", data := .seq us.toArray }) (room : Room k callerA)
    (F : ∀ base : Heap, K.In base → base.Ns mainGlobals mg → FnG P w K mg base CX0 k fa fd [x] sp) (bound : ∀ (s : Shared) (u : Value), BindsTo s fd ⟨[u], []⟩ [(x, u)])
    (want : sp [.ref a] H (fun v _ => v = .bl true) fun _ _ _ => False) :
    codeAny (model P w) callerA (.call (.ref fa) ⟨[.ref a], []⟩) (fun r s' => r = .ok (.ret (.bool true)) ∧ OldK s.heap s'.heap ∧ s'.os = s.os ∧ AllBare s'.gens) s := by
  have isA : ∀ {b : Addr} {u : HO}, H b = some u → b = a := fun {b u} e => (only b (by rw [e]; exact Option.some_ne_none u)).1
  have untold : ∀ b, b ≠ a → H b = none := fun b n => by
    cases e : H b with
    | none => rfl
    | some u => exact absurd (isA e) n
  have keepNs : ∀ {b : Addr} {m : Str → Option Value}, s.heap.Ns b m → (hidT s.heap H).Ns b m := by
    rintro b m ⟨o, es, ep, e, d, r⟩
    refine ⟨o, es, ep, hidT_get e (untold b ?_), d, r⟩
    rintro rfl
    rw [at_a] at e
    cases e
    cases d
  have inH : K.In (hidT s.heap H) := by
    intro b o e
    refine hidT_get (KX b o e) ?_
    by_cases hb : b = a
    · subst hb
      cases q : H b with
      | none => rfl
      | some u =>
        have z := outK (by rw [q]; exact Option.some_ne_none u)
        rw [z] at e
        cases e
    · exact untold b hb
  obtain ⟨mc, l1, l2⟩ := nl
  have modl : Mod K mg (hidT s.heap H) := ⟨inH, keepNs gl, ⟨mb, keepNs bl, bb⟩, ⟨mc, keepNs l1, l2⟩⟩
  have start0 : Env0 P w K mg (hidT s.heap H) callerA [] s H := by
    refine ⟨rfl, modl, fun b o e => of_hidT e, Nat.le_of_eq (hidT_size _ _), trivial, ?_, hok, .of_eq bare⟩
    intro b hb
    cases hb
  refine codeAny_mono ((F _ inH (keepNs gl)).goes callerA [] s H ⟨[.ref a], []⟩ [.ref a] [.ref a] _ _ rfl room start0 (bound s (.ref a)) (.cons rfl .nil) want) ?_
  intro res s2 got
  match res, got with
  | .error er, got => exact got.elim
  | .ok .next, got => exact got.elim
  | .ok .brk, got => exact got.elim
  | .ok .cont, got => exact got.elim
  | .ok (.ret u), got =>
    obtain ⟨v, H2, os, bare2, un, hok2, rv, q⟩ := got
    have q : v = .bl true := q
    subst q
    have rv : u = Value.bool true := rv
    subst rv
    refine ⟨rfl, OldK.of_keep ?_, os, bare2⟩
    intro b o e
    cases hb : H b with
    | none => exact un.keep b o e hb (fun z => by cases z) (fun z => by cases z)
    | some u =>
      obtain ⟨_, ob, ys, z⟩ := only b (by rw [hb]; exact Option.some_ne_none u)
      obtain ⟨e1, _⟩ := hok b _ z
      obtain ⟨e2, _⟩ := hok2 b _ (un.frzs b ob _ z)
      rw [e] at e1
      cases e1
      exact e2
theorem law_goes (KX : K.In s.heap) (gl : s.heap.Ns mainGlobals mg) (bl : s.heap.Ns builtinsNs mb) (bb : ∀ x : Str, x ≠ "__name__" → mb x = bootBuiltins x) (nl : s.heap.NoLimit) (bare : s.gens = #[])
    (at_a : s.heap.get? a = some { cls := .type "list", data := .seq us.toArray }) (nums : IntsAre us ns) (hz : ns.length ≤ sizeLine) (room : Room k callerA)
    (F : ∀ base : Heap, K.In base → base.Ns mainGlobals mg → FnG P w K mg base CX0 k fa fd [x] sp) (bound : ∀ (s : Shared) (u : Value), BindsTo s fd ⟨[u], []⟩ [(x, u)])
    (want : ∀ H : Hp, Only H → SqL K H a (ns.map V.int) → sp [.ref a] H (fun v _ => v = .bl true) fun _ _ _ => False) :
    codeAny (model P w) callerA (.call (.ref fa) ⟨[.ref a], []⟩) (fun r s' => r = .ok (.ret (.bool true)) ∧ OldK s.heap s'.heap ∧ s'.os = s.os ∧ AllBare s'.gens) s := by
  have many : us.length = ns.length := nums.length
  cases hk : K.lookup a with
  | some o =>
    have e := KX a o hk
    rw [at_a] at e
    cases e
    refine law_core (H := fun _ => none) (fun b z => absurd rfl z) (fun z => absurd rfl z) (fun b u z => by cases z) KX gl bl bb nl bare at_a room F bound (want _ (fun _ => .inl rfl) ?_)
    exact .inr ⟨_, us.toArray, _, hk, rfl, rfl, rfl, by simp [many]; exact hz, by simpa using vals_ints nums⟩
  | none =>
    let H : Hp := fun b => if b = a then some (.frz { cls := .type "list", data := .seq us.toArray } (.lst (ns.map V.int))) else none
    have on : ∀ {b : Addr} {u : HO}, H b = some u → b = a ∧ u = .frz { cls := .type "list", data := .seq us.toArray } (.lst (ns.map V.int)) := fun {b u} e => by
      by_cases hb : b = a
      · exact ⟨hb, (Option.some.inj ((if_pos hb).symm.trans e)).symm⟩
      · have z : (none : Option HO) = some u := (if_neg hb).symm.trans e
        cases z
    have is_a : H a = some (.frz { cls := .type "list", data := .seq us.toArray } (.lst (ns.map V.int))) := if_pos rfl
    refine law_core (H := H) (fun b z => ?_) (fun _ => hk) (fun b u z => ?_) KX gl bl bb nl bare at_a room F bound (want H (fun b => ?_) (.inl (.inr ⟨_, is_a⟩)))
    · obtain ⟨u, hu⟩ := Option.ne_none_iff_exists'.mp z
      obtain ⟨h1, h2⟩ := on hu
      exact ⟨h1, _, _, by rw [hu, h2]⟩
    · obtain ⟨h1, h2⟩ := on z
      subst h1 h2
      exact ⟨at_a, by rw [List.length_map]; exact hz, us, _, vals_ints nums, at_a⟩
    · by_cases hb : b = a
      · exact .inr ⟨_, _, by rw [hb]; exact is_a⟩
      · exact .inl (if_neg hb)
theorem walkG {l : PySem.W.OpenLaw} {n k : Nat} {q : Program} {loose : List Str} {XP : (Str → Option Value) → Heap → Prop} {YP : World → Heap → Prop} {d : DefRec} {K : Params → PySem.W.Frag} {sp : PySem.W.Frag → Sp} {x : Str}
    (hn : l.most = some n) (hz : n ≤ sizeLine) (hdf : d.params.defaults = []) (room : Room k callerA) (hY : ∀ (w : World) (h : Heap), YP w h → (K w.params).In h)
    (F : ∀ (w : World) (mg : Str → Option Value) (fa : Addr) (h : Heap), (K w.params).In h → h.Ns mainGlobals mg → mg d.name = some (.ref fa) →
      ∃ fd : FuncData, (∀ (s : Shared) (u : Value), BindsTo s fd ⟨[u], []⟩ [(x, u)]) ∧ ∀ base : Heap, (K w.params).In base → base.Ns mainGlobals mg → FnG l.prog w (K w.params) mg base CX0 k fa fd [x] (sp (K w.params)))
    (want : ∀ (K : PySem.W.Frag) (H : Hp) (a : Addr) (ns : List Int), ns.length ≤ n → Only H → SqL K H a (ns.map V.int) → sp K [.ref a] H (fun v _ => v = .bl true) fun _ _ _ => False) :
    PySem.W.WalkO q loose XP YP l.row.toRowW d [] (fun f vs => PySem.call f vs) := by
  apply Att.attach_call hn hdf
  intro w s₀ s₁ mg mb fa o pm cd doc a us ns G Y _ _ _ hmg at_a nums many bare
  obtain ⟨fd, bound, hF⟩ := F w mg fa _ (hY w _ Y) G.T.g hmg
  exact law_goes (hY w _ Y) G.T.g G.T.b G.T.builtins G.T.nolimit bare at_a nums (Nat.le_trans many hz) room hF bound fun H h1 h2 => want _ H a ns many h1 h2
end
end Dn
namespace Dn
open PySem PySem.Spec PyProof.Rows L2

abbrev Grows (H J : Hp) : Prop := ∀ a o, H a = some o → J a = some o
theorem rd_grows {H J : Hp} (e : Grows H J) {a : Addr} {u : HO} (h : Rd H a u) : Rd J a u := h.elim (fun h => .inl (e _ _ h)) fun ⟨o, h⟩ => .inr ⟨o, e _ _ h⟩
theorem sqL_grows {K : PySem.W.Frag} {H J : Hp} (e : Grows H J) {a : Addr} {xs : List V} (h : SqL K H a xs) : SqL K J a xs := h.imp (rd_grows e) id
theorem sqT_grows {K : PySem.W.Frag} {H J : Hp} (e : Grows H J) {a : Addr} {xs : List V} (h : SqT K H a xs) : SqT K J a xs := h.imp (rd_grows e) id
mutual
theorem dp_grows {K : PySem.W.Frag} {H J : Hp} (e : Grows H J) : ∀ (d : PyData) (v : V), Dp K H v d → Dp K J v d
  | .none, _, h => by cases h; exact .non
  | .bool b, _, h => by cases h; exact .bl b
  | .int i, _, h => by cases h; exact .int i
  | .str x, _, h => by cases h; exact .str x
  | .list ds, _, h => by cases h with | lst a b => exact .lst (sqL_grows e a) (dps_grows e ds _ b)
  | .tuple ds, _, h => by cases h with | tup a b => exact .tup (sqT_grows e a) (dps_grows e ds _ b)
  | .dict _, _, h => by cases h
theorem dps_grows {K : PySem.W.Frag} {H J : Hp} (e : Grows H J) : ∀ (ds : List PyData) (vs : List V), DpAll K H vs ds → DpAll K J vs ds
  | [], _, h => by cases h; exact .nil
  | d :: ds, _, h => by cases h with | cons a b => exact .cons (dp_grows e d _ a) (dps_grows e ds _ b)
end
theorem dps_len {K : PySem.W.Frag} {H : Hp} : ∀ {vs : List V} {ds : List PyData}, DpAll K H vs ds → vs.length = ds.length
  | _, _, .nil => rfl
  | _, _, .cons _ t => by rw [List.length_cons, List.length_cons, dps_len t]
theorem dps_get {K : PySem.W.Frag} {H : Hp} : ∀ {vs : List V} {ds : List PyData} {i : Nat} {d : PyData}, DpAll K H vs ds → ds[i]? = some d → ∃ v, vs[i]? = some v ∧ Dp K H v d
  | _, _, _, _, .nil, e => by simp at e
  | _, _, 0, _, .cons h _, e => by simp at e; subst e; exact ⟨_, rfl, h⟩
  | _, _, i + 1, d, .cons _ t, e => by
    obtain ⟨v, h1, h2⟩ := dps_get (i := i) (d := d) t (by simpa using e)
    exact ⟨v, by simpa using h1, h2⟩
theorem dps_get' {K : PySem.W.Frag} {H : Hp} : ∀ {vs : List V} {ds : List PyData} {i : Nat} {v : V}, DpAll K H vs ds → vs[i]? = some v → ∃ d, ds[i]? = some d ∧ Dp K H v d
  | _, _, _, _, .nil, e => by simp at e
  | _, _, 0, _, .cons h _, e => by simp at e; subst e; exact ⟨_, rfl, h⟩
  | _, _, i + 1, v, .cons _ t, e => by
    obtain ⟨d, h1, h2⟩ := dps_get' (i := i) (v := v) t (by simpa using e)
    exact ⟨d, by simpa using h1, h2⟩
theorem dps_app {K : PySem.W.Frag} {H : Hp} : ∀ {vs ws : List V} {ds es : List PyData}, DpAll K H vs ds → DpAll K H ws es → DpAll K H (vs ++ ws) (ds ++ es)
  | _, _, _, _, .nil, b => b
  | _, _, _, _, .cons h t, b => .cons h (dps_app t b)
theorem dps_take {K : PySem.W.Frag} {H : Hp} : ∀ (n : Nat) {vs : List V} {ds : List PyData}, DpAll K H vs ds → DpAll K H (vs.take n) (ds.take n)
  | 0, _, _, _ => .nil
  | _ + 1, _, _, .nil => .nil
  | n + 1, _, _, .cons h t => .cons h (dps_take n t)
theorem dps_drop {K : PySem.W.Frag} {H : Hp} : ∀ (n : Nat) {vs : List V} {ds : List PyData}, DpAll K H vs ds → DpAll K H (vs.drop n) (ds.drop n)
  | 0, _, _, a => a
  | _ + 1, _, _, .nil => .nil
  | n + 1, _, _, .cons _ t => dps_drop n t
theorem dps_set {K : PySem.W.Frag} {H : Hp} {v : V} {d : PyData} (r : Dp K H v d) : ∀ (n : Nat) {vs : List V} {ds : List PyData}, DpAll K H vs ds → DpAll K H (vs.set n v) (ds.set n d)
  | _, _, _, .nil => .nil
  | 0, _, _, .cons _ t => .cons r t
  | n + 1, _, _, .cons h t => .cons h (dps_set r n t)
theorem dps_ints {K : PySem.W.Frag} {H : Hp} : ∀ (ns : List Int), DpAll K H (ns.map V.int) (ns.map PyData.int)
  | [] => .nil
  | n :: ns => .cons (.int n) (dps_ints ns)
theorem dps_ints' {K : PySem.W.Frag} {H : Hp} : ∀ (ns : List Int) {vs : List V}, DpAll K H vs (ns.map PyData.int) → vs = ns.map V.int
  | [], _, h => by cases h; rfl
  | n :: ns, _, h => by
    cases h with
    | cons a b => cases a; rw [dps_ints' ns b]; rfl
theorem dps_bools' {K : PySem.W.Frag} {H : Hp} : ∀ (ns : List Bool) {vs : List V}, DpAll K H vs (ns.map PyData.bool) → vs = ns.map V.bl
  | [], _, h => by cases h; rfl
  | n :: ns, _, h => by
    cases h with
    | cons a b => cases a; rw [dps_bools' ns b]; rfl

/-! what is given: the written part, the state's list, its numbers, the classes of errors -/
structure Zz where
  K : PySem.W.Frag
  sa : Option Addr
  ns : List Int
  cl : Str → Option Value
  sp : Addr
/-! what a dict holds, told: keys ints and texts, or tuples of them -/
inductive Dk where
  | k (kvs : List (L2.Key × PyData)) | t (kvs : List (List L2.Key × PyData))
def DkOk (K : PySem.W.Frag) (I : Hp) (o : HO) : Dk → Prop
  | .k kvs => ∃ us : List (L2.Key × V), o = .dK us ∧ us.map (·.1) = kvs.map (·.1) ∧ DpAll K I (us.map (·.2)) (kvs.map (·.2))
  | .t kvs => ∃ us : List (List L2.Key × V), o = .dT us ∧ us.map (·.1) = kvs.map (·.1) ∧ DpAll K I (us.map (·.2)) (kvs.map (·.2))
theorem dk_grows {K : PySem.W.Frag} {I J : Hp} (e : Grows I J) {o : HO} : ∀ {d : Dk}, DkOk K I o d → DkOk K J o d
  | .k kvs, h => by
    obtain ⟨us, h1, h2, h3⟩ := h
    exact ⟨us, h1, h2, dps_grows e _ _ h3⟩
  | .t kvs, h => by
    obtain ⟨us, h1, h2, h3⟩ := h
    exact ⟨us, h1, h2, dps_grows e _ _ h3⟩
inductive Vl where
  | d (x : PyData) | st | op (v : V) | dk (d : Dk)
def VOk (Z : Zz) (I : Hp) (v : V) : Vl → Prop
  | .d x => Dp Z.K I v x
  | .st => ∃ a, Z.sa = some a ∧ v = .ref a
  | .op u => v = u
  | .dk d => ∃ a o, v = .ref a ∧ I a = some o ∧ DkOk Z.K I o d
inductive VOks (Z : Zz) (I : Hp) : List V → List Vl → Prop
  | nil : VOks Z I [] []
  | cons {v : V} {x : Vl} {vs : List V} {xs : List Vl} : VOk Z I v x → VOks Z I vs xs → VOks Z I (v :: vs) (x :: xs)
theorem vok_grows {Z : Zz} {I J : Hp} (e : Grows I J) {v : V} : ∀ {x : Vl}, VOk Z I v x → VOk Z J v x
  | .d x, h => dp_grows e x v h
  | .st, h => h
  | .op _, h => h
  | .dk d, h => by
    obtain ⟨a, o, h1, h2, h3⟩ := h
    exact ⟨a, o, h1, e a o h2, dk_grows e h3⟩
theorem voks_grows {Z : Zz} {I J : Hp} (e : Grows I J) : ∀ {vs : List V} {xs : List Vl}, VOks Z I vs xs → VOks Z J vs xs
  | _, _, .nil => .nil
  | _, _, .cons h t => .cons (vok_grows e h) (voks_grows e t)
theorem voks_len {Z : Zz} {I : Hp} : ∀ {vs : List V} {xs : List Vl}, VOks Z I vs xs → vs.length = xs.length
  | _, _, .nil => rfl
  | _, _, .cons _ t => by rw [List.length_cons, List.length_cons, voks_len t]

inductive Sl where
  | no | im (x : Vl) | ow (xs : List PyData) | od (d : Dk) | ow2 (xss : List (List PyData))
/-- lists of one's own, none of them twice -/
inductive Rws (Z : Zz) (H0 I H : Hp) : List Addr → List (List PyData) → Prop
  | nil : Rws Z H0 I H [] []
  | cons {r vs xs rs xss} : H r = some (.lst vs) → I r = none → H0 r = none → Z.sa ≠ some r → DpAll Z.K I vs xs → r ∉ rs → Rws Z H0 I H rs xss → Rws Z H0 I H (r :: rs) (xs :: xss)
inductive Sls (Z : Zz) (H0 I H : Hp) : L2.St → List Sl → List Addr → Prop
  | nil : Sls Z H0 I H [] [] []
  | no {s σ δ as} : Sls Z H0 I H σ δ as → Sls Z H0 I H (s :: σ) (.no :: δ) as
  | im {v x σ δ as} : VOk Z I v x → Sls Z H0 I H σ δ as → Sls Z H0 I H (some v :: σ) (.im x :: δ) as
  | ow {l vs xs σ δ as} : H l = some (.lst vs) → I l = none → H0 l = none → Z.sa ≠ some l → DpAll Z.K I vs xs → l ∉ as → Sls Z H0 I H σ δ as → Sls Z H0 I H (some (.ref l) :: σ) (.ow xs :: δ) (l :: as)
  | od {l o d σ δ as} : H l = some o → DkOk Z.K I o d → I l = none → H0 l = none → Z.sa ≠ some l → l ∉ as → Sls Z H0 I H σ δ as → Sls Z H0 I H (some (.ref l) :: σ) (.od d :: δ) (l :: as)
  | ow2 {l rs xss σ δ as} : H l = some (.lst (rs.map V.ref)) → I l = none → H0 l = none → Z.sa ≠ some l → Rws Z H0 I H rs xss → l ∉ rs → (∀ a ∈ l :: rs, a ∉ as) → Sls Z H0 I H σ δ as → Sls Z H0 I H (some (.ref l) :: σ) (.ow2 xss :: δ) (l :: rs ++ as)

structure Ok (Z : Zz) (I H : Hp) (c : Int) : Prop where
  ex : Grows I H
  st : ∀ a, Z.sa = some a → I a = none ∧ ∃ p, H a = some (.lst [.ref p, .int c]) ∧ p = Z.sp ∧ SqL Z.K I p (Z.ns.map V.int)
structure Gr (Z : Zz) (I H I' H' : Hp) : Prop where
  ii : Grows I I'
  hh : ∀ a o, Z.sa ≠ some a → H a = some o → H' a = some o
  th : ∀ a, H a ≠ none → H' a ≠ none
  fr : ∀ a, H a ≠ none → I a = none → I' a = none
theorem Gr.refl {Z : Zz} {I H : Hp} : Gr Z I H I H := ⟨fun _ _ h => h, fun _ _ _ h => h, fun _ h => h, fun _ _ h => h⟩
theorem Gr.trans {Z : Zz} {I H I1 H1 I2 H2 : Hp} (a : Gr Z I H I1 H1) (b : Gr Z I1 H1 I2 H2) : Gr Z I H I2 H2 :=
  ⟨fun x o h => b.ii x o (a.ii x o h), fun x o n h => b.hh x o n (a.hh x o n h), fun x h => b.th x (a.th x h), fun x h n => b.fr x (a.th x h) (a.fr x h n)⟩
/-- a new thing that stays -/
theorem Gr.new {Z : Zz} {I H : Hp} {c : Int} {p : Addr} {o : HO} (k : Ok Z I H c) (h : H p = none) : Gr Z I H (upd I p o) (upd H p o) ∧ Ok Z (upd I p o) (upd H p o) c := by
  have hi : I p = none := by
    cases e : I p with
    | none => rfl
    | some u => rw [k.ex p u e] at h; cases h
  have ne : ∀ {a : Addr} {u : HO}, H a = some u → a ≠ p := fun e z => by rw [z, h] at e; cases e
  have nei : ∀ {a : Addr} {u : HO}, I a = some u → a ≠ p := fun e z => by rw [z, hi] at e; cases e
  refine ⟨⟨fun a u e => by rw [upd_ne (nei e)]; exact e, fun a u _ e => by rw [upd_ne (ne e)]; exact e, fun a e => ?_, fun a e n => ?_⟩, ⟨fun a u e => ?_, fun a e => ?_⟩⟩
  · by_cases z : a = p
    · subst z; rw [upd_same]; exact Option.some_ne_none _
    · rw [upd_ne z]; exact e
  · by_cases z : a = p
    · subst z; exact absurd h e
    · rw [upd_ne z]; exact n
  · by_cases z : a = p
    · subst z; rw [upd_same] at e ⊢; exact e
    · rw [upd_ne z] at e ⊢; exact k.ex a u e
  · obtain ⟨n, q, e1, e2⟩ := k.st a e
    exact ⟨by rw [upd_ne (ne e1)]; exact n, q, by rw [upd_ne (ne e1)]; exact e1, e2.1, sqL_grows (fun a u e => by rw [upd_ne (nei e)]; exact e) e2.2⟩
/-- a new list of one's own -/
theorem Gr.own {Z : Zz} {I H : Hp} {c : Int} {p : Addr} {o : HO} (k : Ok Z I H c) (h : H p = none) : Gr Z I H I (upd H p o) ∧ Ok Z I (upd H p o) c := by
  have ne : ∀ {a : Addr} {u : HO}, H a = some u → a ≠ p := fun e z => by rw [z, h] at e; cases e
  refine ⟨⟨fun _ _ h => h, fun a u _ e => by rw [upd_ne (ne e)]; exact e, fun a e => ?_, fun _ _ n => n⟩, ⟨fun a u e => by rw [upd_ne (ne (k.ex a u e))]; exact k.ex a u e, fun a e => ?_⟩⟩
  · by_cases z : a = p
    · subst z; rw [upd_same]; exact Option.some_ne_none _
    · rw [upd_ne z]; exact e
  · obtain ⟨n, q, e1, e2⟩ := k.st a e
    exact ⟨n, q, by rw [upd_ne (ne e1)]; exact e1, e2⟩
theorem Rws.mono {Z : Zz} {H0 I H I' H' : Hp} (g : Gr Z I H I' H') {rs : List Addr} {xss : List (List PyData)} (h : Rws Z H0 I H rs xss) : Rws Z H0 I' H' rs xss := by
  induction h with
  | nil => exact .nil
  | cons h1 h2 h3 h4 h5 h6 _ ih => exact .cons (g.hh _ _ h4 h1) (g.fr _ (by rw [h1]; exact Option.some_ne_none _) h2) h3 h4 (dps_grows g.ii _ _ h5) h6 ih
theorem Rws.at {Z : Zz} {H0 I H : Hp} {rs : List Addr} {xss : List (List PyData)} (h : Rws Z H0 I H rs xss) : ∀ {a : Addr}, a ∈ rs → ∃ o, H a = some o ∧ I a = none ∧ H0 a = none ∧ Z.sa ≠ some a := by
  induction h with
  | nil => intro a m; cases m
  | cons h1 h2 h3 h4 h5 h6 _ ih => intro a m; cases m with
    | head => exact ⟨_, h1, h2, h3, h4⟩
    | tail _ m => exact ih m
theorem Rws.apart {Z : Zz} {H0 I H : Hp} {l : Addr} {o : HO} {rs : List Addr} {xss : List (List PyData)} (h : Rws Z H0 I H rs xss) : l ∉ rs → Rws Z H0 I (upd H l o) rs xss := by
  induction h with
  | nil => exact fun _ => .nil
  | cons h1 h2 h3 h4 h5 h6 _ ih => exact fun n => .cons (by rw [upd_ne (fun e => n (by rw [e]; exact List.mem_cons_self))]; exact h1) h2 h3 h4 h5 h6 (ih fun m => n (List.mem_cons_of_mem _ m))
theorem Rws.freeze {Z : Zz} {H0 I H : Hp} {l : Addr} {ob : HO} (hl : I l = none) {rs : List Addr} {xss : List (List PyData)} (h : Rws Z H0 I H rs xss) : l ∉ rs → Rws Z H0 (upd I l ob) H rs xss := by
  have gi : Grows I (upd I l ob) := fun a o e => by
    rw [upd_ne (fun z => by rw [z, hl] at e; cases e)]
    exact e
  induction h with
  | nil => exact fun _ => .nil
  | cons h1 h2 h3 h4 h5 h6 _ ih => exact fun n => .cons h1 (by rw [upd_ne (fun e => n (by rw [e]; exact List.mem_cons_self))]; exact h2) h3 h4 (dps_grows gi _ _ h5) h6 (ih fun m => n (List.mem_cons_of_mem _ m))
theorem Rws.entry {Z : Zz} {H0 I H : Hp} {D : Addr} {o : HO} {rs : List Addr} {xss : List (List PyData)} (h : Rws Z H0 I H rs xss) : D ∉ rs → Rws Z (upd H0 D o) I H rs xss := by
  induction h with
  | nil => exact fun _ => .nil
  | cons h1 h2 h3 h4 h5 h6 _ ih => exact fun n => .cons h1 h2 (by rw [upd_ne (fun e => n (by rw [e]; exact List.mem_cons_self))]; exact h3) h4 h5 h6 (ih fun m => n (List.mem_cons_of_mem _ m))
theorem Rws.len {Z : Zz} {H0 I H : Hp} {rs : List Addr} {xss : List (List PyData)} (h : Rws Z H0 I H rs xss) : rs.length = xss.length := by
  induction h with
  | nil => rfl
  | cons _ _ _ _ _ _ _ ih => rw [List.length_cons, List.length_cons, ih]
theorem Rws.get {Z : Zz} {H0 I H : Hp} {rs : List Addr} {xss : List (List PyData)} (h : Rws Z H0 I H rs xss) : ∀ {j : Nat} {xs : List PyData}, xss[j]? = some xs → ∃ r vs, rs[j]? = some r ∧ H r = some (.lst vs) ∧ DpAll Z.K I vs xs := by
  induction h with
  | nil => intro j xs e; simp at e
  | cons h1 h2 h3 h4 h5 h6 _ ih => intro j xs e; cases j with
    | zero => simp at e; subst e; exact ⟨_, _, rfl, h1, h5⟩
    | succ j =>
      obtain ⟨r, vs, a, b, c⟩ := ih (j := j) (xs := xs) (by simpa using e)
      exact ⟨r, vs, by simpa using a, b, c⟩
/-- one of them changed -/
theorem Rws.change {Z : Zz} {H0 I H : Hp} {ws : List V} {ys : List PyData} (e5 : DpAll Z.K I ws ys) {rs : List Addr} {xss : List (List PyData)} (h : Rws Z H0 I H rs xss) : ∀ {j : Nat} {r : Addr}, rs[j]? = some r → Rws Z H0 I (upd H r (.lst ws)) rs (xss.set j ys) := by
  induction h with
  | nil => intro j r e; simp at e
  | cons h1 h2 h3 h4 h5 h6 h ih => intro j r e; cases j with
    | zero =>
      simp at e
      subst e
      exact .cons upd_same h2 h3 h4 e5 h6 (h.apart h6)
    | succ j =>
      have e' := (List.getElem?_cons_succ ▸ e)
      exact .cons (by rw [upd_ne (fun z => h6 (by rw [z]; exact List.mem_of_getElem? e'))]; exact h1) h2 h3 h4 h5 h6 (ih e')
theorem Sls.mono {Z : Zz} {H0 I H I' H' : Hp} (g : Gr Z I H I' H') {σ : L2.St} {δ : List Sl} {as : List Addr} (h : Sls Z H0 I H σ δ as) : Sls Z H0 I' H' σ δ as := by
  induction h with
  | nil => exact .nil
  | no _ ih => exact .no ih
  | im a _ ih => exact .im (vok_grows g.ii a) ih
  | ow h1 h2 h3 h4 h5 h6 _ ih => exact .ow (g.hh _ _ h4 h1) (g.fr _ (by rw [h1]; exact Option.some_ne_none _) h2) h3 h4 (dps_grows g.ii _ _ h5) h6 ih
  | od h1 h5 h2 h3 h4 h6 _ ih => exact .od (g.hh _ _ h4 h1) (dk_grows g.ii h5) (g.fr _ (by rw [h1]; exact Option.some_ne_none _) h2) h3 h4 h6 ih
  | ow2 h1 h2 h3 h4 h5 h6 h7 _ ih => exact .ow2 (g.hh _ _ h4 h1) (g.fr _ (by rw [h1]; exact Option.some_ne_none _) h2) h3 h4 (h5.mono g) h6 h7 ih
theorem Sls.get {Z : Zz} {H0 I H : Hp} {σ : L2.St} {δ : List Sl} {as : List Addr} (h : Sls Z H0 I H σ δ as) : ∀ {i : Nat} {x : Vl}, δ[i]? = some (.im x) → ∃ v, σ[i]? = some (some v) ∧ VOk Z I v x := by
  induction h with
  | nil => intro i x e; simp at e
  | no _ ih => intro i x e; cases i with
    | zero => simp at e
    | succ i => simpa using ih (i := i) (x := x) (by simpa using e)
  | im a _ ih => intro i x e; cases i with
    | zero => simp at e; subst e; exact ⟨_, rfl, a⟩
    | succ i => simpa using ih (i := i) (x := x) (by simpa using e)
  | ow h1 h2 h3 h4 h5 h6 _ ih => intro i x e; cases i with
    | zero => simp at e
    | succ i => simpa using ih (i := i) (x := x) (by simpa using e)
  | od h1 h5 h2 h3 h4 h6 _ ih => intro i x e; cases i with
    | zero => simp at e
    | succ i => simpa using ih (i := i) (x := x) (by simpa using e)
  | ow2 h1 h2 h3 h4 h5 h6 h7 _ ih => intro i x e; cases i with
    | zero => simp at e
    | succ i => simpa using ih (i := i) (x := x) (by simpa using e)
theorem Sls.at {Z : Zz} {H0 I H : Hp} {σ : L2.St} {δ : List Sl} {as : List Addr} (h : Sls Z H0 I H σ δ as) : ∀ {a : Addr}, a ∈ as → ∃ o, H a = some o ∧ I a = none ∧ H0 a = none ∧ Z.sa ≠ some a := by
  induction h with
  | nil => intro a m; cases m
  | no _ ih => exact ih
  | im _ _ ih => exact ih
  | ow h1 h2 h3 h4 h5 h6 _ ih => intro a m; cases m with
    | head => exact ⟨_, h1, h2, h3, h4⟩
    | tail _ m => exact ih m
  | od h1 h5 h2 h3 h4 h6 _ ih => intro a m; cases m with
    | head => exact ⟨_, h1, h2, h3, h4⟩
    | tail _ m => exact ih m
  | ow2 h1 h2 h3 h4 h5 h6 h7 _ ih =>
    intro a m
    rcases List.mem_append.mp m with m | m
    · cases m with
      | head => exact ⟨_, h1, h2, h3, h4⟩
      | tail _ m => exact h5.at m
    · exact ih m
theorem Sls.own {Z : Zz} {H0 I H : Hp} {σ : L2.St} {δ : List Sl} {as : List Addr} (h : Sls Z H0 I H σ δ as) : ∀ {i : Nat} {xs : List PyData}, δ[i]? = some (.ow xs) →
    ∃ l vs, σ[i]? = some (some (.ref l)) ∧ l ∈ as ∧ H l = some (.lst vs) ∧ DpAll Z.K I vs xs := by
  induction h with
  | nil => intro i x e; simp at e
  | no _ ih => intro i x e; cases i with
    | zero => simp at e
    | succ i => simpa using ih (i := i) (xs := x) (by simpa using e)
  | im a _ ih => intro i x e; cases i with
    | zero => simp at e
    | succ i => simpa using ih (i := i) (xs := x) (by simpa using e)
  | ow h1 h2 h3 h4 h5 h6 _ ih => intro i x e; cases i with
    | zero => simp at e; subst e; exact ⟨_, _, rfl, List.mem_cons_self, h1, h5⟩
    | succ i =>
      obtain ⟨l, vs, a, b, c⟩ := ih (i := i) (xs := x) (by simpa using e)
      exact ⟨l, vs, by simpa using a, List.mem_cons_of_mem _ b, c⟩
  | od h1 h5 h2 h3 h4 h6 _ ih => intro i x e; cases i with
    | zero => simp at e
    | succ i =>
      obtain ⟨l, vs, a, b, c⟩ := ih (i := i) (xs := x) (by simpa using e)
      exact ⟨l, vs, by simpa using a, List.mem_cons_of_mem _ b, c⟩
  | ow2 h1 h2 h3 h4 h5 h6 h7 _ ih => intro i x e; cases i with
    | zero => simp at e
    | succ i =>
      obtain ⟨l, vs, a, b, c⟩ := ih (i := i) (xs := x) (by simpa using e)
      exact ⟨l, vs, by simpa using a, List.mem_append_right _ b, c⟩
/-- lists in a list of one's own -/
theorem Sls.own2 {Z : Zz} {H0 I H : Hp} {σ : L2.St} {δ : List Sl} {as : List Addr} (h : Sls Z H0 I H σ δ as) : ∀ {i : Nat} {xss : List (List PyData)}, δ[i]? = some (.ow2 xss) →
    ∃ l rs, σ[i]? = some (some (.ref l)) ∧ l ∈ as ∧ (∀ r ∈ rs, r ∈ as) ∧ H l = some (.lst (rs.map V.ref)) ∧ Rws Z H0 I H rs xss ∧ l ∉ rs := by
  induction h with
  | nil => intro i x e; simp at e
  | no _ ih => intro i x e; cases i with
    | zero => simp at e
    | succ i => simpa using ih (i := i) (xss := x) (by simpa using e)
  | im a _ ih => intro i x e; cases i with
    | zero => simp at e
    | succ i => simpa using ih (i := i) (xss := x) (by simpa using e)
  | ow h1 h2 h3 h4 h5 h6 _ ih => intro i x e; cases i with
    | zero => simp at e
    | succ i =>
      obtain ⟨l, rs, a, b, b2, c⟩ := ih (i := i) (xss := x) (by simpa using e)
      exact ⟨l, rs, by simpa using a, List.mem_cons_of_mem _ b, fun r m => List.mem_cons_of_mem _ (b2 r m), c⟩
  | od h1 h5 h2 h3 h4 h6 _ ih => intro i x e; cases i with
    | zero => simp at e
    | succ i =>
      obtain ⟨l, rs, a, b, b2, c⟩ := ih (i := i) (xss := x) (by simpa using e)
      exact ⟨l, rs, by simpa using a, List.mem_cons_of_mem _ b, fun r m => List.mem_cons_of_mem _ (b2 r m), c⟩
  | ow2 h1 h2 h3 h4 h5 h6 h7 _ ih => intro i x e; cases i with
    | zero =>
      simp at e
      subst e
      exact ⟨_, _, rfl, List.mem_append_left _ List.mem_cons_self, fun r m => List.mem_append_left _ (List.mem_cons_of_mem _ m), h1, h5, h6⟩
    | succ i =>
      obtain ⟨l, rs, a, b, b2, c⟩ := ih (i := i) (xss := x) (by simpa using e)
      exact ⟨l, rs, by simpa using a, List.mem_append_right _ b, fun r m => List.mem_append_right _ (b2 r m), c⟩
/-- a dict of one's own -/
theorem Sls.ownD {Z : Zz} {H0 I H : Hp} {σ : L2.St} {δ : List Sl} {as : List Addr} (h : Sls Z H0 I H σ δ as) : ∀ {i : Nat} {d : Dk}, δ[i]? = some (.od d) →
    ∃ l o, σ[i]? = some (some (.ref l)) ∧ l ∈ as ∧ H l = some o ∧ DkOk Z.K I o d := by
  induction h with
  | nil => intro i d e; simp at e
  | no _ ih => intro i d e; cases i with
    | zero => simp at e
    | succ i => simpa using ih (i := i) (d := d) (by simpa using e)
  | im a _ ih => intro i d e; cases i with
    | zero => simp at e
    | succ i => simpa using ih (i := i) (d := d) (by simpa using e)
  | ow h1 h2 h3 h4 h5 h6 _ ih => intro i d e; cases i with
    | zero => simp at e
    | succ i =>
      obtain ⟨l, o, a, b, c⟩ := ih (i := i) (d := d) (by simpa using e)
      exact ⟨l, o, by simpa using a, List.mem_cons_of_mem _ b, c⟩
  | od h1 h5 h2 h3 h4 h6 _ ih => intro i d e; cases i with
    | zero => simp at e; subst e; exact ⟨_, _, rfl, List.mem_cons_self, h1, h5⟩
    | succ i =>
      obtain ⟨l, o, a, b, c⟩ := ih (i := i) (d := d) (by simpa using e)
      exact ⟨l, o, by simpa using a, List.mem_cons_of_mem _ b, c⟩
  | ow2 h1 h2 h3 h4 h5 h6 h7 _ ih => intro i d e; cases i with
    | zero => simp at e
    | succ i =>
      obtain ⟨l, o, a, b, c⟩ := ih (i := i) (d := d) (by simpa using e)
      exact ⟨l, o, by simpa using a, List.mem_append_right _ b, c⟩
/-- a slot told anew -/
theorem Sls.put {Z : Zz} {H0 I H : Hp} {σ : L2.St} {δ : List Sl} {as : List Addr} (h : Sls Z H0 I H σ δ as) {v : V} {x : Vl} (r : VOk Z I v x) : ∀ (i : Nat), ∃ bs, Sls Z H0 I H (σ.set i (some v)) (δ.set i (.im x)) bs ∧ ∀ b ∈ bs, b ∈ as := by
  induction h with
  | nil => intro i; exact ⟨[], by cases i <;> exact .nil, fun _ m => m⟩
  | no h ih => intro i; cases i with
    | zero => exact ⟨_, .im r h, fun _ m => m⟩
    | succ i => obtain ⟨bs, a, b⟩ := ih i; exact ⟨bs, .no a, b⟩
  | im q h ih => intro i; cases i with
    | zero => exact ⟨_, .im r h, fun _ m => m⟩
    | succ i => obtain ⟨bs, a, b⟩ := ih i; exact ⟨bs, .im q a, b⟩
  | ow h1 h2 h3 h4 h5 h6 h ih => intro i; cases i with
    | zero => exact ⟨_, .im r h, fun _ m => List.mem_cons_of_mem _ m⟩
    | succ i =>
      obtain ⟨bs, a, b⟩ := ih i
      exact ⟨_ :: bs, .ow h1 h2 h3 h4 h5 (fun m => h6 (b _ m)) a, fun c m => by cases m with
        | head => exact List.mem_cons_self
        | tail _ m => exact List.mem_cons_of_mem _ (b _ m)⟩
  | od h1 h5 h2 h3 h4 h6 h ih => intro i; cases i with
    | zero => exact ⟨_, .im r h, fun _ m => List.mem_cons_of_mem _ m⟩
    | succ i =>
      obtain ⟨bs, a, b⟩ := ih i
      exact ⟨_ :: bs, .od h1 h5 h2 h3 h4 (fun m => h6 (b _ m)) a, fun c m => by cases m with
        | head => exact List.mem_cons_self
        | tail _ m => exact List.mem_cons_of_mem _ (b _ m)⟩
  | ow2 h1 h2 h3 h4 h5 h6 h7 h ih => intro i; cases i with
    | zero => exact ⟨_, .im r h, fun _ m => List.mem_append_right _ m⟩
    | succ i =>
      obtain ⟨bs, a, b⟩ := ih i
      exact ⟨_ ++ bs, .ow2 h1 h2 h3 h4 h5 h6 (fun x m n => h7 x m (b _ n)) a, fun c m => (List.mem_append.mp m).elim (fun m => List.mem_append_left _ m) fun m => List.mem_append_right _ (b _ m)⟩
theorem Sls.wipe1 {Z : Zz} {H0 I H : Hp} {σ : L2.St} {δ : List Sl} {as : List Addr} (h : Sls Z H0 I H σ δ as) {s : Option V} : ∀ (i : Nat), ∃ bs, Sls Z H0 I H (σ.set i s) (δ.set i .no) bs ∧ ∀ b ∈ bs, b ∈ as := by
  induction h with
  | nil => intro i; exact ⟨[], by cases i <;> exact .nil, fun _ m => m⟩
  | no h ih => intro i; cases i with
    | zero => exact ⟨_, .no h, fun _ m => m⟩
    | succ i => obtain ⟨bs, a, b⟩ := ih i; exact ⟨bs, .no a, b⟩
  | im q h ih => intro i; cases i with
    | zero => exact ⟨_, .no h, fun _ m => m⟩
    | succ i => obtain ⟨bs, a, b⟩ := ih i; exact ⟨bs, .im q a, b⟩
  | ow h1 h2 h3 h4 h5 h6 h ih => intro i; cases i with
    | zero => exact ⟨_, .no h, fun _ m => List.mem_cons_of_mem _ m⟩
    | succ i =>
      obtain ⟨bs, a, b⟩ := ih i
      exact ⟨_ :: bs, .ow h1 h2 h3 h4 h5 (fun m => h6 (b _ m)) a, fun c m => by cases m with
        | head => exact List.mem_cons_self
        | tail _ m => exact List.mem_cons_of_mem _ (b _ m)⟩
  | od h1 h5 h2 h3 h4 h6 h ih => intro i; cases i with
    | zero => exact ⟨_, .no h, fun _ m => List.mem_cons_of_mem _ m⟩
    | succ i =>
      obtain ⟨bs, a, b⟩ := ih i
      exact ⟨_ :: bs, .od h1 h5 h2 h3 h4 (fun m => h6 (b _ m)) a, fun c m => by cases m with
        | head => exact List.mem_cons_self
        | tail _ m => exact List.mem_cons_of_mem _ (b _ m)⟩
  | ow2 h1 h2 h3 h4 h5 h6 h7 h ih => intro i; cases i with
    | zero => exact ⟨_, .no h, fun _ m => List.mem_append_right _ m⟩
    | succ i =>
      obtain ⟨bs, a, b⟩ := ih i
      exact ⟨_ ++ bs, .ow2 h1 h2 h3 h4 h5 h6 (fun x m n => h7 x m (b _ n)) a, fun c m => (List.mem_append.mp m).elim (fun m => List.mem_append_left _ m) fun m => List.mem_append_right _ (b _ m)⟩
/-- a new list of one's own into a slot -/
theorem Sls.putOwn {Z : Zz} {H0 I H : Hp} {l : Addr} {vs : List V} {ys : List PyData} (e1 : H l = some (.lst vs)) (e2 : I l = none) (e3 : H0 l = none) (e4 : Z.sa ≠ some l) (e5 : DpAll Z.K I vs ys)
    {σ : L2.St} {δ : List Sl} {as : List Addr} (h : Sls Z H0 I H σ δ as) : ∀ (i : Nat), l ∉ as → ∃ bs, Sls Z H0 I H (σ.set i (some (.ref l))) (δ.set i (.ow ys)) bs ∧ ∀ b ∈ bs, b = l ∨ b ∈ as := by
  induction h with
  | nil => intro i _; exact ⟨[], by cases i <;> exact .nil, fun _ m => .inr m⟩
  | no h ih => intro i n; cases i with
    | zero => exact ⟨_, .ow e1 e2 e3 e4 e5 n h, fun _ m => by simpa using m⟩
    | succ i => obtain ⟨bs, a, b⟩ := ih i n; exact ⟨bs, .no a, b⟩
  | im q h ih => intro i n; cases i with
    | zero => exact ⟨_, .ow e1 e2 e3 e4 e5 n h, fun _ m => by simpa using m⟩
    | succ i => obtain ⟨bs, a, b⟩ := ih i n; exact ⟨bs, .im q a, b⟩
  | ow h1 h2 h3 h4 h5 h6 h ih => intro i n; cases i with
    | zero => exact ⟨_, .ow e1 e2 e3 e4 e5 (fun m => n (List.mem_cons_of_mem _ m)) h, fun _ m => by
        cases m with
        | head => exact .inl rfl
        | tail _ m => exact .inr (List.mem_cons_of_mem _ m)⟩
    | succ i =>
      obtain ⟨bs, a, b⟩ := ih i fun m => n (List.mem_cons_of_mem _ m)
      exact ⟨_ :: bs, .ow h1 h2 h3 h4 h5 (fun m => (b _ m).elim (fun e => n (e ▸ List.mem_cons_self)) h6) a, fun c m => by cases m with
        | head => exact .inr List.mem_cons_self
        | tail _ m => exact (b _ m).imp id (List.mem_cons_of_mem _)⟩
  | od h1 h5 h2 h3 h4 h6 h ih => intro i n; cases i with
    | zero => exact ⟨_, .ow e1 e2 e3 e4 e5 (fun m => n (List.mem_cons_of_mem _ m)) h, fun _ m => by
        cases m with
        | head => exact .inl rfl
        | tail _ m => exact .inr (List.mem_cons_of_mem _ m)⟩
    | succ i =>
      obtain ⟨bs, a, b⟩ := ih i fun m => n (List.mem_cons_of_mem _ m)
      exact ⟨_ :: bs, .od h1 h5 h2 h3 h4 (fun m => (b _ m).elim (fun e => n (e ▸ List.mem_cons_self)) h6) a, fun c m => by cases m with
        | head => exact .inr List.mem_cons_self
        | tail _ m => exact (b _ m).imp id (List.mem_cons_of_mem _)⟩
  | ow2 h1 h2 h3 h4 h5 h6 h7 h ih => intro i n; cases i with
    | zero => exact ⟨_, .ow e1 e2 e3 e4 e5 (fun m => n (List.mem_append_right _ m)) h, fun _ m => by
        cases m with
        | head => exact .inl rfl
        | tail _ m => exact .inr (List.mem_append_right _ m)⟩
    | succ i =>
      obtain ⟨bs, a, b⟩ := ih i fun m => n (List.mem_append_right _ m)
      exact ⟨_ ++ bs, .ow2 h1 h2 h3 h4 h5 h6 (fun x m k => (b _ k).elim (fun e => n (e ▸ List.mem_append_left _ m)) (h7 x m)) a, fun c m => (List.mem_append.mp m).elim (fun m => .inr (List.mem_append_left _ m)) fun m => (b _ m).imp id (List.mem_append_right _)⟩
/-- slots that do not have l stay where l changes -/
theorem Sls.apart {Z : Zz} {H0 I H : Hp} {l : Addr} {o : HO} {σ : L2.St} {δ : List Sl} {as : List Addr} (h : Sls Z H0 I H σ δ as) : l ∉ as → Sls Z H0 I (upd H l o) σ δ as := by
  induction h with
  | nil => exact fun _ => .nil
  | no _ ih => exact fun n => .no (ih n)
  | im a _ ih => exact fun n => .im a (ih n)
  | ow h1 h2 h3 h4 h5 h6 _ ih => exact fun n => .ow (by rw [upd_ne (fun e => n (by rw [e]; exact List.mem_cons_self))]; exact h1) h2 h3 h4 h5 h6 (ih fun m => n (List.mem_cons_of_mem _ m))
  | od h1 h5 h2 h3 h4 h6 _ ih => exact fun n => .od (by rw [upd_ne (fun e => n (by rw [e]; exact List.mem_cons_self))]; exact h1) h5 h2 h3 h4 h6 (ih fun m => n (List.mem_cons_of_mem _ m))
  | ow2 h1 h2 h3 h4 h5 h6 h7 _ ih => exact fun n => .ow2 (by rw [upd_ne (fun e => n (by rw [e]; exact List.mem_append_left _ List.mem_cons_self))]; exact h1) h2 h3 h4 (h5.apart fun m => n (List.mem_append_left _ (List.mem_cons_of_mem _ m))) h6 h7 (ih fun m => n (List.mem_append_right _ m))
/-- one's own list changed -/
theorem Sls.change {Z : Zz} {H0 I H : Hp} {ws : List V} {ys : List PyData} (e5 : DpAll Z.K I ws ys) {σ : L2.St} {δ : List Sl} {as : List Addr} (h : Sls Z H0 I H σ δ as) :
    ∀ {i : Nat} {xs : List PyData} {l : Addr}, δ[i]? = some (.ow xs) → σ[i]? = some (some (.ref l)) → Sls Z H0 I (upd H l (.lst ws)) σ (δ.set i (.ow ys)) as := by
  induction h with
  | nil => intro i x l e; simp at e
  | no h ih => intro i x l e f; cases i with
    | zero => simp at e
    | succ i => exact .no (ih (by simpa using e) (by simpa using f))
  | im q h ih => intro i x l e f; cases i with
    | zero => simp at e
    | succ i => exact .im q (ih (by simpa using e) (by simpa using f))
  | ow h1 h2 h3 h4 h5 h6 h ih => intro i x l e f; cases i with
    | zero =>
      simp at f
      subst f
      exact .ow upd_same h2 h3 h4 e5 h6 (h.apart h6)
    | succ i =>
      have e' := (List.getElem?_cons_succ ▸ e)
      have f' := (List.getElem?_cons_succ ▸ f)
      obtain ⟨l2, vs2, f2, m, _⟩ := h.own e'
      have : l2 = l := by rw [f2] at f'; cases f'; rfl
      subst this
      exact .ow (by rw [upd_ne (fun e => h6 (by rw [e]; exact m))]; exact h1) h2 h3 h4 h5 h6 (ih e' f')
  | od h1 h5' h2 h3 h4 h6 h ih => intro i x l e f; cases i with
    | zero => simp at e
    | succ i =>
      have e' := (List.getElem?_cons_succ ▸ e)
      have f' := (List.getElem?_cons_succ ▸ f)
      obtain ⟨l2, vs2, f2, m, _⟩ := h.own e'
      have : l2 = l := by rw [f2] at f'; cases f'; rfl
      subst this
      exact .od (by rw [upd_ne (fun e => h6 (by rw [e]; exact m))]; exact h1) h5' h2 h3 h4 h6 (ih e' f')
  | ow2 h1 h2 h3 h4 h5' h6 h7 h ih => intro i x l e f; cases i with
    | zero => simp at e
    | succ i =>
      have e' := (List.getElem?_cons_succ ▸ e)
      have f' := (List.getElem?_cons_succ ▸ f)
      obtain ⟨l2, vs2, f2, m, _⟩ := h.own e'
      have : l2 = l := by rw [f2] at f'; cases f'; rfl
      subst this
      exact .ow2 (by rw [upd_ne (fun e => h7 _ List.mem_cons_self (by rw [e]; exact m))]; exact h1) h2 h3 h4 (h5'.apart fun k => h7 _ (List.mem_cons_of_mem _ k) m) h6 h7 (ih e' f')
/-- one of the lists in one's own list changed -/
theorem Sls.change2 {Z : Zz} {H0 I H : Hp} {ws : List V} {ys : List PyData} (e5 : DpAll Z.K I ws ys) {σ : L2.St} {δ : List Sl} {as : List Addr} (h : Sls Z H0 I H σ δ as) :
    ∀ {i j : Nat} {xss : List (List PyData)} {l r : Addr} {rs : List Addr}, δ[i]? = some (.ow2 xss) → σ[i]? = some (some (.ref l)) → H l = some (.lst (rs.map V.ref)) → rs[j]? = some r → Sls Z H0 I (upd H r (.lst ws)) σ (δ.set i (.ow2 (xss.set j ys))) as := by
  have inj : ∀ {as bs : List Addr}, as.map V.ref = bs.map V.ref → as = bs := fun {as bs} e => (List.map_inj_right (fun _ _ z => V.ref.inj z)).mp e
  induction h with
  | nil => intro i j x l r rs e; simp at e
  | no h ih => intro i j x l r rs e f g k; cases i with
    | zero => simp at e
    | succ i => exact .no (ih (by simpa using e) (by simpa using f) g k)
  | im q h ih => intro i j x l r rs e f g k; cases i with
    | zero => simp at e
    | succ i => exact .im q (ih (by simpa using e) (by simpa using f) g k)
  | ow h1 h2 h3 h4 h5 h6 h ih => intro i j x l r rs e f g k; cases i with
    | zero => simp at e
    | succ i =>
      have e' := (List.getElem?_cons_succ ▸ e)
      have f' := (List.getElem?_cons_succ ▸ f)
      obtain ⟨l2, rs2, f2, m, m2, g2, _⟩ := h.own2 e'
      have : l2 = l := by rw [f2] at f'; cases f'; rfl
      subst this
      have : rs2 = rs := inj (HO.lst.inj (Option.some.inj (g2.symm.trans g)))
      subst this
      exact .ow (by rw [upd_ne (fun z => h6 (by rw [z]; exact m2 _ (List.mem_of_getElem? k)))]; exact h1) h2 h3 h4 h5 h6 (ih e' f' g k)
  | od h1 h5 h2 h3 h4 h6 h ih => intro i j x l r rs e f g k; cases i with
    | zero => simp at e
    | succ i =>
      have e' := (List.getElem?_cons_succ ▸ e)
      have f' := (List.getElem?_cons_succ ▸ f)
      obtain ⟨l2, rs2, f2, m, m2, g2, _⟩ := h.own2 e'
      have : l2 = l := by rw [f2] at f'; cases f'; rfl
      subst this
      have : rs2 = rs := inj (HO.lst.inj (Option.some.inj (g2.symm.trans g)))
      subst this
      exact .od (by rw [upd_ne (fun z => h6 (by rw [z]; exact m2 _ (List.mem_of_getElem? k)))]; exact h1) h5 h2 h3 h4 h6 (ih e' f' g k)
  | ow2 h1 h2 h3 h4 h5 h6 h7 h ih => intro i j x l r rs e f g k; cases i with
    | zero =>
      simp at e f
      subst e f
      have := inj (HO.lst.inj (Option.some.inj (h1.symm.trans g)))
      subst this
      exact .ow2 (by rw [upd_ne (fun z => h6 (by rw [z]; exact List.mem_of_getElem? k))]; exact h1) h2 h3 h4 (h5.change e5 k) h6 h7 (h.apart fun m => h7 _ (List.mem_cons_of_mem _ (List.mem_of_getElem? k)) m)
    | succ i =>
      have e' := (List.getElem?_cons_succ ▸ e)
      have f' := (List.getElem?_cons_succ ▸ f)
      obtain ⟨l2, rs2, f2, m, m2, g2, _⟩ := h.own2 e'
      have : l2 = l := by rw [f2] at f'; cases f'; rfl
      subst this
      have : rs2 = rs := inj (HO.lst.inj (Option.some.inj (g2.symm.trans g)))
      subst this
      have mr := m2 _ (List.mem_of_getElem? k)
      exact .ow2 (by rw [upd_ne (fun z => h7 _ List.mem_cons_self (by rw [z]; exact mr))]; exact h1) h2 h3 h4 (h5.apart fun z => h7 _ (List.mem_cons_of_mem _ z) mr) h6 h7 (ih e' f' g k)
/-- new lists in a new list of one's own into a slot -/
theorem Sls.putOwn2 {Z : Zz} {H0 I H : Hp} {l : Addr} {rs : List Addr} {yss : List (List PyData)} (e1 : H l = some (.lst (rs.map V.ref))) (e2 : I l = none) (e3 : H0 l = none) (e4 : Z.sa ≠ some l) (e5 : Rws Z H0 I H rs yss) (e6 : l ∉ rs)
    {σ : L2.St} {δ : List Sl} {as : List Addr} (h : Sls Z H0 I H σ δ as) : ∀ (i : Nat), (∀ a ∈ l :: rs, a ∉ as) → ∃ bs, Sls Z H0 I H (σ.set i (some (.ref l))) (δ.set i (.ow2 yss)) bs ∧ ∀ b ∈ bs, b ∈ l :: rs ∨ b ∈ as := by
  induction h with
  | nil => intro i _; exact ⟨[], by cases i <;> exact .nil, fun _ m => .inr m⟩
  | no h ih => intro i n; cases i with
    | zero => exact ⟨_, .ow2 e1 e2 e3 e4 e5 e6 n h, fun _ m => List.mem_append.mp m⟩
    | succ i => obtain ⟨bs, a, b⟩ := ih i n; exact ⟨bs, .no a, b⟩
  | im q h ih => intro i n; cases i with
    | zero => exact ⟨_, .ow2 e1 e2 e3 e4 e5 e6 n h, fun _ m => List.mem_append.mp m⟩
    | succ i => obtain ⟨bs, a, b⟩ := ih i n; exact ⟨bs, .im q a, b⟩
  | ow h1 h2 h3 h4 h5 h6 h ih => intro i n; cases i with
    | zero => exact ⟨_, .ow2 e1 e2 e3 e4 e5 e6 (fun a m k => n a m (List.mem_cons_of_mem _ k)) h, fun _ m => (List.mem_append.mp m).imp id (List.mem_cons_of_mem _)⟩
    | succ i =>
      obtain ⟨bs, a, b⟩ := ih i fun a m k => n a m (List.mem_cons_of_mem _ k)
      exact ⟨_ :: bs, .ow h1 h2 h3 h4 h5 (fun m => (b _ m).elim (fun k => n _ k List.mem_cons_self) h6) a, fun c m => by cases m with
        | head => exact .inr List.mem_cons_self
        | tail _ m => exact (b _ m).imp id (List.mem_cons_of_mem _)⟩
  | od h1 h5 h2 h3 h4 h6 h ih => intro i n; cases i with
    | zero => exact ⟨_, .ow2 e1 e2 e3 e4 e5 e6 (fun a m k => n a m (List.mem_cons_of_mem _ k)) h, fun _ m => (List.mem_append.mp m).imp id (List.mem_cons_of_mem _)⟩
    | succ i =>
      obtain ⟨bs, a, b⟩ := ih i fun a m k => n a m (List.mem_cons_of_mem _ k)
      exact ⟨_ :: bs, .od h1 h5 h2 h3 h4 (fun m => (b _ m).elim (fun k => n _ k List.mem_cons_self) h6) a, fun c m => by cases m with
        | head => exact .inr List.mem_cons_self
        | tail _ m => exact (b _ m).imp id (List.mem_cons_of_mem _)⟩
  | ow2 h1 h2 h3 h4 h5 h6 h7 h ih => intro i n; cases i with
    | zero => exact ⟨_, .ow2 e1 e2 e3 e4 e5 e6 (fun a m k => n a m (List.mem_append_right _ k)) h, fun _ m => (List.mem_append.mp m).imp id (List.mem_append_right _)⟩
    | succ i =>
      obtain ⟨bs, a, b⟩ := ih i fun a m k => n a m (List.mem_append_right _ k)
      exact ⟨_ ++ bs, .ow2 h1 h2 h3 h4 h5 h6 (fun x m k => (b _ k).elim (fun z => n _ z (List.mem_append_left _ m)) (h7 x m)) a, fun c m => (List.mem_append.mp m).elim (fun m => .inr (List.mem_append_left _ m)) fun m => (b _ m).imp id (List.mem_append_right _)⟩
/-- one's own list kept for good -/
theorem Sls.freeze {Z : Zz} {H0 I H : Hp} {l : Addr} {vs : List V} (hl : I l = none) {σ : L2.St} {δ : List Sl} {as : List Addr} (h : Sls Z H0 I H σ δ as) : l ∉ as → Sls Z H0 (upd I l (.lst vs)) H σ δ as := by
  have gi : Grows I (upd I l (.lst vs)) := fun a o e => by
    rw [upd_ne (fun z => by rw [z, hl] at e; cases e)]
    exact e
  induction h with
  | nil => exact fun _ => .nil
  | no _ ih => exact fun n => .no (ih n)
  | im a _ ih => exact fun n => .im (vok_grows gi a) (ih n)
  | ow h1 h2 h3 h4 h5 h6 _ ih => exact fun n => .ow h1 (by rw [upd_ne (fun e => n (by rw [e]; exact List.mem_cons_self))]; exact h2) h3 h4 (dps_grows gi _ _ h5) h6 (ih fun m => n (List.mem_cons_of_mem _ m))
  | od h1 h5 h2 h3 h4 h6 _ ih => exact fun n => .od h1 (dk_grows gi h5) (by rw [upd_ne (fun e => n (by rw [e]; exact List.mem_cons_self))]; exact h2) h3 h4 h6 (ih fun m => n (List.mem_cons_of_mem _ m))
  | ow2 h1 h2 h3 h4 h5 h6 h7 _ ih => exact fun n => .ow2 h1 (by rw [upd_ne (fun e => n (by rw [e]; exact List.mem_append_left _ List.mem_cons_self))]; exact h2) h3 h4 (h5.freeze hl fun m => n (List.mem_append_left _ (List.mem_cons_of_mem _ m))) h6 h7 (ih fun m => n (List.mem_append_right _ m))
theorem Sls.frz {Z : Zz} {H0 I H : Hp} {σ : L2.St} {δ : List Sl} {as : List Addr} (h : Sls Z H0 I H σ δ as) : ∀ {i : Nat} {xs : List PyData} {l : Addr} {vs : List V}, δ[i]? = some (.ow xs) → σ[i]? = some (some (.ref l)) → H l = some (.lst vs) →
    ∃ bs, Sls Z H0 (upd I l (.lst vs)) H σ (δ.set i (.im (.d (.list xs)))) bs ∧ ∀ b ∈ bs, b ∈ as := by
  induction h with
  | nil => intro i x l vs e; simp at e
  | no h ih => intro i x l vs e f g; cases i with
    | zero => simp at e
    | succ i => obtain ⟨bs, a, b⟩ := ih (i := i) (xs := x) (l := l) (vs := vs) (by simpa using e) (by simpa using f) g; exact ⟨bs, .no a, b⟩
  | im q h ih => intro i x l vs e f g; cases i with
    | zero => simp at e
    | succ i =>
      have e' := (List.getElem?_cons_succ ▸ e)
      have f' := (List.getElem?_cons_succ ▸ f)
      obtain ⟨l2, vs2, f2, m, g2, d⟩ := h.own e'
      have : l2 = l := by rw [f2] at f'; cases f'; rfl
      subst this
      obtain ⟨_, _, n, _⟩ := h.at m
      obtain ⟨bs, a, b⟩ := ih (i := i) (xs := x) (l := l2) (vs := vs) e' f' g
      exact ⟨bs, .im (vok_grows (fun a o e => by rw [upd_ne (fun z => by rw [z, n] at e; cases e)]; exact e) q) a, b⟩
  | ow h1 h2 h3 h4 h5 h6 h ih => intro i x l vs e f g; cases i with
    | zero =>
      simp at e f
      subst e f
      rw [h1] at g
      cases g
      refine ⟨_, .im (.lst (.inl (.inl upd_same)) (dps_grows (fun a o e => by rw [upd_ne (fun z => by rw [z, h2] at e; cases e)]; exact e) _ _ h5)) (h.freeze h2 h6), fun b m => List.mem_cons_of_mem _ m⟩
    | succ i =>
      have e' := (List.getElem?_cons_succ ▸ e)
      have f' := (List.getElem?_cons_succ ▸ f)
      obtain ⟨l2, vs2, f2, m, g2, d⟩ := h.own e'
      have : l2 = l := by rw [f2] at f'; cases f'; rfl
      subst this
      obtain ⟨_, _, n, _⟩ := h.at m
      obtain ⟨bs, a, b⟩ := ih (i := i) (xs := x) (l := l2) (vs := vs) e' f' g
      exact ⟨_ :: bs, .ow h1 (by rw [upd_ne (fun e => h6 (by rw [e]; exact m))]; exact h2) h3 h4 (dps_grows (fun a o e => by rw [upd_ne (fun z => by rw [z, n] at e; cases e)]; exact e) _ _ h5) (fun m => h6 (b _ m)) a, fun c m => by
        cases m with
        | head => exact List.mem_cons_self
        | tail _ m => exact List.mem_cons_of_mem _ (b _ m)⟩
  | od h1 h5 h2 h3 h4 h6 h ih => intro i x l vs e f g; cases i with
    | zero => simp at e
    | succ i =>
      have e' := (List.getElem?_cons_succ ▸ e)
      have f' := (List.getElem?_cons_succ ▸ f)
      obtain ⟨l2, vs2, f2, m, g2, d⟩ := h.own e'
      have : l2 = l := by rw [f2] at f'; cases f'; rfl
      subst this
      obtain ⟨_, _, n, _⟩ := h.at m
      obtain ⟨bs, a, b⟩ := ih (i := i) (xs := x) (l := l2) (vs := vs) e' f' g
      refine ⟨_ :: bs, .od h1 (dk_grows (fun a o e => by rw [upd_ne (fun z => by rw [z, n] at e; cases e)]; exact e) h5) (by rw [upd_ne (fun e => h6 (by rw [e]; exact m))]; exact h2) h3 h4 (fun m => h6 (b _ m)) a, fun c m => ?_⟩
      cases m with
      | head => exact List.mem_cons_self
      | tail _ m => exact List.mem_cons_of_mem _ (b _ m)
  | ow2 h1 h2 h3 h4 h5 h6 h7 h ih => intro i x l vs e f g; cases i with
    | zero => simp at e
    | succ i =>
      have e' := (List.getElem?_cons_succ ▸ e)
      have f' := (List.getElem?_cons_succ ▸ f)
      obtain ⟨l2, vs2, f2, m, g2, d⟩ := h.own e'
      have : l2 = l := by rw [f2] at f'; cases f'; rfl
      subst this
      obtain ⟨_, _, n, _⟩ := h.at m
      obtain ⟨bs, a, b⟩ := ih (i := i) (xs := x) (l := l2) (vs := vs) e' f' g
      exact ⟨_ ++ bs, .ow2 h1 (by rw [upd_ne (fun e => h7 _ List.mem_cons_self (by rw [e]; exact m))]; exact h2) h3 h4 (h5.freeze n fun z => h7 _ (List.mem_cons_of_mem _ z) m) h6 (fun c m n => h7 c m (b _ n)) a, fun c m =>
        (List.mem_append.mp m).elim (fun m => List.mem_append_left _ m) fun m => List.mem_append_right _ (b _ m)⟩
end Dn
namespace Dn
open PySem PySem.Spec PyProof.Rows L2

/-! results: nothing told, a value and the state's count, an error -/
inductive R (α : Type) where
  | no | ok (a : α) (c : Int) | ex (k : Str) (p : Option Int) (c : Int)
def R.bind {α β : Type} (r : R α) (f : α → Int → R β) : R β := match r with
  | .no => .no
  | .ok a c => f a c
  | .ex k p c => .ex k p c
def R.map {α β : Type} (r : R α) (f : α → β) : R β := match r with
  | .no => .no
  | .ok a c => .ok (f a) c
  | .ex k p c => .ex k p c
@[simp] theorem R.map_ok {α β : Type} {a : α} {c : Int} {f : α → β} : (R.ok a c).map f = .ok (f a) c := rfl
@[simp] theorem R.map_no {α β : Type} {f : α → β} : (R.no : R α).map f = .no := rfl
@[simp] theorem R.map_ex {α β : Type} {k : Str} {p : Option Int} {c : Int} {f : α → β} : (R.ex k p c : R α).map f = .ex k p c := rfl
@[simp] theorem R.bind_ok {α β : Type} {a : α} {c : Int} {f : α → Int → R β} : (R.ok a c).bind f = f a c := rfl
@[simp] theorem R.bind_no {α β : Type} {f : α → Int → R β} : (R.no : R α).bind f = .no := rfl
@[simp] theorem R.bind_ex {α β : Type} {k : Str} {p : Option Int} {c : Int} {f : α → Int → R β} : (R.ex k p c : R α).bind f = .ex k p c := rfl

/-- how an error lies -/
def XD (H : Hp) (p : Option Int) (d : Option Addr) : Prop := match p with
  | none => d = none
  | some n => ∃ a fs, d = some a ∧ H a = some (.xd fs) ∧ fs.lookup ("line" : Str) = some (V.int n)
def Res (Z : Zz) (W : XK) (I H : Hp) {α : Type} (r : R α) (P : α → Int → Hp → Hp → Prop) : Prop := match r with
  | .no => False
  | .ok a c => ∀ I' H', Gr Z I H I' H' → Ok Z I' H' c → P a c I' H'
  | .ex k p c => ∀ I' H' cls d, Gr Z I H I' H' → Ok Z I' H' c → Z.cl k = some cls → XD H' p d → W cls d H'
section
variable {Z : Zz} {W : XK} {I H I1 H1 : Hp} {α β : Type} {r : R α} {f : α → Int → R β}
theorem Res.base {P : α → Int → Hp → Hp → Prop} (g : Gr Z I H I1 H1) (h : Res Z W I H r P) : Res Z W I1 H1 r P := by
  cases r with
  | no => exact h
  | ok a c => exact fun I' H' g' k => h I' H' (g.trans g') k
  | ex k p c => exact fun I' H' cls d g' k e x => h I' H' cls d (g.trans g') k e x
theorem Res.imp {P P' : α → Int → Hp → Hp → Prop} (h : Res Z W I H r P) (q : ∀ a c I' H', Gr Z I H I' H' → Ok Z I' H' c → P a c I' H' → P' a c I' H') : Res Z W I H r P' := by
  cases r with
  | no => exact h
  | ok a c => exact fun I' H' g k => q a c I' H' g k (h I' H' g k)
  | ex k p c => exact h
theorem Res.bind {P : β → Int → Hp → Hp → Prop} (h : Res Z W I H (r.bind f) P) : Res Z W I H r fun a c I' H' => Res Z W I' H' (f a c) P := by
  cases r with
  | no => exact h
  | ok a c => exact fun I' H' g _ => Res.base g h
  | ex k p c => exact h
theorem Res.map {g : α → β} {P : β → Int → Hp → Hp → Prop} (h : Res Z W I H (r.map g) P) : Res Z W I H r fun a c _ _ => ∀ I2 H2, Gr Z I H I2 H2 → Ok Z I2 H2 c → P (g a) c I2 H2 := by
  cases r with
  | no => exact h
  | ok a c => exact fun _ _ _ _ => h
  | ex k p c => exact h
theorem Res.ok {c : Int} {a : α} {P : α → Int → Hp → Hp → Prop} (k : Ok Z I H c) (h : Res Z W I H (.ok a c) P) : P a c I H := h I H Gr.refl k
end

abbrev Den := List Sl → Int → R Vl
abbrev DenT := List Sl → Int → R Bool
abbrev DenA := List Sl → Int → R (List Vl)
abbrev DenL := List Sl → Int → R (List PyData)
abbrev DenO := List Sl → Int → R (Option Int)
inductive Out where
  | nx (δ : List Sl) | rt (x : Vl) | bk (δ : List Sl) | ct (δ : List Sl)
abbrev DenS := List Sl → Int → R Out

/-- at a state -/
structure At (Z : Zz) (H0 I H : Hp) (σ : L2.St) (δ : List Sl) (c : Int) : Prop where
  sl : ∃ as, Sls Z H0 I H σ δ as
  k : Ok Z I H c
theorem At.go {Z : Zz} {H0 I H I1 H1 : Hp} {σ : L2.St} {δ : List Sl} {c c1 : Int} (a : At Z H0 I H σ δ c) (g : Gr Z I H I1 H1) (k : Ok Z I1 H1 c1) : At Z H0 I1 H1 σ δ c1 := ⟨a.sl.imp fun _ h => h.mono g, k⟩

def SndE (Z : Zz) (W : XK) (te : TE) (de : Den) : Prop := ∀ H0 I H σ δ c, At Z H0 I H σ δ c → ∀ Q : VK, Res Z W I H (de δ c) (fun x _ I' H' => ∀ v, VOk Z I' v x → Q v H') → te σ H Q
def SndT (Z : Zz) (W : XK) (tt : TT) (de : DenT) : Prop := ∀ H0 I H σ δ c, At Z H0 I H σ δ c → ∀ Q : Bool → Hp → Prop, Res Z W I H (de δ c) (fun x _ _ H' => Q x H') → tt σ H Q
def SndA (Z : Zz) (W : XK) (ta : TA) (de : DenA) : Prop := ∀ H0 I H σ δ c, At Z H0 I H σ δ c → ∀ Q : List V → Hp → Prop, Res Z W I H (de δ c) (fun xs _ I' H' => ∀ vs, VOks Z I' vs xs → Q vs H') → ta σ H Q
def SndL (Z : Zz) (W : XK) (te : TE) (de : DenL) : Prop := ∀ H0 I H σ δ c, At Z H0 I H σ δ c → ∀ Q : VK,
  Res Z W I H (de δ c) (fun xs _ I' H' => ∀ l vs, H l = none → I' l = none → H' l = some (.lst vs) → Z.sa ≠ some l → DpAll Z.K I' vs xs → Q (.ref l) H') → te σ H Q
def SndO (Z : Zz) (W : XK) (te : TO) (de : DenO) : Prop := ∀ H0 I H σ δ c, At Z H0 I H σ δ c → ∀ Q : Option Int → Hp → Prop, Res Z W I H (de δ c) (fun x _ _ H' => Q x H') → te σ H Q

section
variable {Z : Zz} {W : XK}
theorem freshI {Z : Zz} {I H : Hp} {c : Int} (k : Ok Z I H c) {p : Addr} (h : H p = none) : I p = none := by
  cases e : I p with
  | none => rfl
  | some u => rw [k.ex p u e] at h; cases h
theorem freshS {Z : Zz} {I H : Hp} {c : Int} (k : Ok Z I H c) {p : Addr} (h : H p = none) : Z.sa ≠ some p := fun e => by
  obtain ⟨_, q, z, _⟩ := k.st p e
  rw [h] at z
  cases z
/-- one's own list, kept for good, is a value -/
theorem keepL {I H : Hp} {c : Int} (k : Ok Z I H c) {l : Addr} {vs : List V} {xs : List PyData} (h1 : I l = none) (h2 : H l = some (.lst vs)) (h3 : Z.sa ≠ some l) (h4 : DpAll Z.K I vs xs) :
    Ok Z (upd I l (.lst vs)) H c ∧ Grows I (upd I l (.lst vs)) ∧ VOk Z (upd I l (.lst vs)) (.ref l) (.d (.list xs)) := by
  have gi : Grows I (upd I l (.lst vs)) := fun a o e => by
    rw [upd_ne (fun z => by rw [z, h1] at e; cases e)]
    exact e
  refine ⟨⟨fun a o e => ?_, fun a e => ?_⟩, gi, .lst (.inl (.inl upd_same)) (dps_grows gi _ _ h4)⟩
  · by_cases z : a = l
    · subst z; rw [upd_same] at e; cases e; exact h2
    · rw [upd_ne z] at e; exact k.ex a o e
  · obtain ⟨n, p, e1, e2⟩ := k.st a e
    exact ⟨by rw [upd_ne (fun z => h3 (by rw [← z]; exact e))]; exact n, p, e1, e2.1, sqL_grows gi e2.2⟩
theorem snd_ofL {te : TE} {de : DenL} (h : SndL Z W te de) : SndE Z W te (fun δ c => (de δ c).map fun xs => .d (.list xs)) := by
  intro H0 I H σ δ c a Q r
  refine h H0 I H σ δ c a Q (Res.imp (Res.map r) fun xs c1 I1 H1 g k q l vs f0 f1 f2 f3 f4 => ?_)
  obtain ⟨k2, gi, v⟩ := keepL k f1 f2 f3 f4
  refine q _ _ ⟨fun b o e => gi b o (g.ii b o e), g.hh, g.th, fun b e n => ?_⟩ k2 _ v
  have z : b ≠ l := fun z => e (by rw [z]; exact f0)
  rw [upd_ne z]
  exact g.fr b e n
end
end Dn
namespace Dn
open PySem PySem.Spec PyProof.Rows L2

section
variable {Z : Zz} {W : XK}
/-! names, constants, operators -/
def dVar (i : Nat) : Den := fun δ c => match δ[i]? with
  | some (.im x) => .ok x c
  | _ => .no
theorem snd_var {i : Nat} : SndE Z W (tVar i) (dVar i) := by
  intro H0 I H σ δ c a Q r
  unfold dVar at r
  split at r
  · rename_i x e
    obtain ⟨as, s⟩ := a.sl
    obtain ⟨v, h1, h2⟩ := s.get e
    exact ⟨v, h1, Res.ok a.k r v h2⟩
  · exact r.elim
def dC (x : Vl) : Den := fun _ c => .ok x c
theorem snd_c {v : V} {x : Vl} (h : ∀ I, VOk Z I v x) : SndE Z W (tC v) (dC x) := fun _ I _ _ _ _ a _ r => Res.ok a.k r v (h I)
theorem snd_int {i : Int} : SndE Z W (tC (.int i)) (dC (.d (.int i))) := snd_c fun _ => .int i
theorem snd_str {i : Str} : SndE Z W (tC (.str i)) (dC (.d (.str i))) := snd_c fun _ => .str i
theorem snd_bl {i : Bool} : SndE Z W (tC (.bl i)) (dC (.d (.bool i))) := snd_c fun _ => .bl i
theorem snd_non : SndE Z W (tC .non) (dC (.d .none)) := snd_c fun _ => .non
theorem snd_fn {v : V} : SndE Z W (tC v) (dC (.op v)) := snd_c fun _ => rfl
/-- a value of the written part -/
theorem snd_glob {v : V} {x : PyData} (h : Dp Z.K (fun _ => none) v x) : SndE Z W (tC v) (dC (.d x)) := snd_c fun I => dp_grows (fun _ _ e => by cases e) x v h

def SndR (Z : Zz) (W : XK) (r : R2) (g : Vl → Vl → Int → R Vl) : Prop := ∀ I H x y vx vy c, Ok Z I H c → VOk Z I vx x → VOk Z I vy y → ∀ Q : VK, Res Z W I H (g x y c) (fun z _ I' H' => ∀ v, VOk Z I' v z → Q v H') → r vx vy H Q
def dOp (g : Vl → Vl → Int → R Vl) (da db : Den) : Den := fun δ c => (da δ c).bind fun x c => (db δ c).bind fun y c => g x y c
theorem snd_op {r : R2} {g : Vl → Vl → Int → R Vl} {ta tb : TE} {da db : Den} (hr : SndR Z W r g) (ha : SndE Z W ta da) (hb : SndE Z W tb db) : SndE Z W (tOp r ta tb) (dOp g da db) := by
  intro H0 I H σ δ c a Q h
  refine ha _ _ _ _ _ _ a _ (Res.imp (Res.bind h) fun x c1 I1 H1 g1 k1 h1 v hv => ?_)
  refine hb _ _ _ _ _ _ (a.go g1 k1) _ (Res.imp (Res.bind h1) fun y c2 I2 H2 g2 k2 h2 w hw => ?_)
  exact hr I2 H2 x y v w c2 k2 (vok_grows g2.ii hv) hw Q h2
def SndU (Z : Zz) (W : XK) (r : V → Hp → VK → Prop) (g : Vl → Int → R Vl) : Prop := ∀ I H x vx c, Ok Z I H c → VOk Z I vx x → ∀ Q : VK, Res Z W I H (g x c) (fun z _ I' H' => ∀ v, VOk Z I' v z → Q v H') → r vx H Q
def dUn (g : Vl → Int → R Vl) (da : Den) : Den := fun δ c => (da δ c).bind g
theorem snd_un {r : V → Hp → VK → Prop} {g : Vl → Int → R Vl} {ta : TE} {da : Den} (hr : SndU Z W r g) (ha : SndE Z W ta da) : SndE Z W (tUn r ta) (dUn g da) := by
  intro H0 I H σ δ c a Q h
  refine ha _ _ _ _ _ _ a _ (Res.imp (Res.bind h) fun x c1 I1 H1 g1 k1 h1 v hv => ?_)
  exact hr I1 H1 x v c1 k1 hv Q h1

/-- two ints to a scalar, where C holds -/
def gI (C : Int → Int → Bool) (f : Int → Int → PyData) : Vl → Vl → Int → R Vl
  | .d (.int i), .d (.int j), c => if C i j = true then .ok (.d (f i j)) c else .no
  | _, _, _ => .no
theorem gI_inv {C : Int → Int → Bool} {f : Int → Int → PyData} {x y : Vl} {c : Int} {I H : Hp} {P : Vl → Int → Hp → Hp → Prop} (h : Res Z W I H (gI C f x y c) P) : ∃ i j, x = .d (.int i) ∧ y = .d (.int j) ∧ C i j = true ∧ Res Z W I H (.ok (.d (f i j)) c) P := by
  unfold gI at h
  split at h
  · split at h
    · rename_i e
      exact ⟨_, _, rfl, rfl, e, h⟩
    · exact h.elim
  · exact h.elim
theorem rr_I0 {g : Int → Int → V} {f : Int → Int → PyData} (e : ∀ i j K I, Dp K I (g i j) (f i j)) : SndR Z W (rI0 g) (gI (fun _ _ => true) f) := by
  intro I H x y vx vy c k hx hy Q h
  obtain ⟨i, j, rfl, rfl, _, h⟩ := gI_inv h
  cases hx
  cases hy
  exact ⟨i, j, rfl, rfl, Res.ok k h _ (e i j _ _)⟩
theorem rr_I {D : Int → Int → Prop} {C : Int → Int → Bool} {g : Int → Int → V} {f : Int → Int → PyData} (e : ∀ i j K I, Dp K I (g i j) (f i j)) (hc : ∀ i j, C i j = true → D i j) : SndR Z W (rI D g) (gI C f) := by
  intro I H x y vx vy c k hx hy Q h
  obtain ⟨i, j, rfl, rfl, q, h⟩ := gI_inv h
  cases hx
  cases hy
  exact ⟨i, j, rfl, rfl, hc i j q, Res.ok k h _ (e i j _ _)⟩
theorem rr_add : SndR Z W (rI0 fun i j => .int (i + j)) (gI (fun _ _ => true) fun i j => .int (i + j)) := rr_I0 fun _ _ _ _ => .int _
theorem rr_sub : SndR Z W (rI0 fun i j => .int (i - j)) (gI (fun _ _ => true) fun i j => .int (i - j)) := rr_I0 fun _ _ _ _ => .int _
def bMul (i j : Int) : Bool := decide (i.natAbs < 2 ^ 200 ∧ j.natAbs < 2 ^ 200)
theorem log2_le {n k : Nat} (h : n < 2 ^ k) (hk : 0 < k) : n.log2 < k := PySem.Flt.log2_lt_of hk h
theorem bMul_ok {i j : Int} (h : bMul i j = true) : CMulW i j := by
  obtain ⟨h1, h2⟩ := of_decide_eq_true h
  have a := log2_le h1 (by decide)
  have b := log2_le h2 (by decide)
  show i.natAbs.log2 + j.natAbs.log2 < 1000000
  omega
theorem rr_mul : SndR Z W (rI CMulW fun i j => .int (i * j)) (gI bMul fun i j => .int (i * j)) := rr_I (fun _ _ _ _ => .int _) fun _ _ => bMul_ok
def bDiv (_ j : Int) : Bool := decide (0 < j ∧ j < 2 ^ 200)
theorem rr_fdiv : SndR Z W (rI CDivW fun i j => .int (i / j)) (gI bDiv fun i j => .int (i / j)) := rr_I (fun _ _ _ _ => .int _) fun i j h => by
  obtain ⟨h1, h2⟩ := of_decide_eq_true h
  have h2 : j.natAbs < 2 ^ 200 := by omega
  exact ⟨h1, Nat.lt_trans (log2_le h2 (by decide)) (by decide)⟩
theorem rr_mod : SndR Z W (rI (fun _ j => 0 < j) fun i j => .int (i % j)) (gI (fun _ j => decide (0 < j)) fun i j => .int (i % j)) := rr_I (fun _ _ _ _ => .int _) fun i j h => of_decide_eq_true h
theorem rr_pow : SndR Z W (rI CPow fun i j => .int (i ^ j.toNat)) (gI (fun i j => decide (0 ≤ j ∧ j ≤ 1000 ∧ i.natAbs < 1000)) fun i j => .int (i ^ j.toNat)) := rr_I (fun _ _ _ _ => .int _) fun i j h => by
  obtain ⟨h1, h2, h3⟩ := of_decide_eq_true h
  exact ⟨h1, by omega, Nat.lt_trans h3 (by decide)⟩
theorem rr_lt : SndR Z W (rI0 fun i j => .bl (decide (i < j))) (gI (fun _ _ => true) fun i j => .bool (decide (i < j))) := rr_I0 fun _ _ _ _ => .bl _
theorem rr_le : SndR Z W (rI0 fun i j => .bl (decide (i ≤ j))) (gI (fun _ _ => true) fun i j => .bool (decide (i ≤ j))) := rr_I0 fun _ _ _ _ => .bl _
theorem rr_gt : SndR Z W (rI0 fun i j => .bl (decide (j < i))) (gI (fun _ _ => true) fun i j => .bool (decide (j < i))) := rr_I0 fun _ _ _ _ => .bl _
theorem rr_ge : SndR Z W (rI0 fun i j => .bl (decide (j ≤ i))) (gI (fun _ _ => true) fun i j => .bool (decide (j ≤ i))) := rr_I0 fun _ _ _ _ => .bl _
def gNeg : Vl → Int → R Vl
  | .d (.int i), c => .ok (.d (.int (-i))) c
  | _, _ => .no
theorem ru_neg : SndU Z W (rU fun i => .int (-i)) gNeg := by
  intro I H x vx c k hx Q h
  unfold gNeg at h
  split at h
  · cases hx
    exact ⟨_, rfl, Res.ok k h _ (.int _)⟩
  · exact h.elim
/-- == of data -/
def gEq (neg : Bool) : Vl → Vl → Int → R Vl
  | .d x, .d y, c => if SeqAt.shaped x = true ∧ SeqAt.shaped y = true then .ok (.d (.bool (if neg then !PyData.eqv x y else PyData.eqv x y))) c else .no
  | _, _, _ => .no
theorem rr_eq : SndR Z W (rEqD Z.K) (gEq false) := by
  intro I H x y vx vy c k hx hy Q h
  unfold gEq at h
  split at h
  · split at h
    · rename_i e
      exact ⟨_, _, dp_grows k.ex _ _ hx, dp_grows k.ex _ _ hy, e.1, e.2, Res.ok k h _ (.bl _)⟩
    · exact h.elim
  · exact h.elim
theorem rr_ne : SndR Z W (rNeD Z.K) (gEq true) := by
  intro I H x y vx vy c k hx hy Q h
  unfold gEq at h
  split at h
  · split at h
    · rename_i e
      exact ⟨_, _, dp_grows k.ex _ _ hx, dp_grows k.ex _ _ hy, e.1, e.2, Res.ok k h _ (.bl _)⟩
    · exact h.elim
  · exact h.elim
/-- is None -/
def gIsN (neg : Bool) : Vl → Vl → Int → R Vl
  | .d .none, .d .none, c => .ok (.d (.bool (!neg))) c
  | .d (.bool _), .d .none, c => .ok (.d (.bool neg)) c
  | .d (.int _), .d .none, c => .ok (.d (.bool neg)) c
  | .d (.str _), .d .none, c => .ok (.d (.bool neg)) c
  | .d (.list _), .d .none, c => .ok (.d (.bool neg)) c
  | .d (.tuple _), .d .none, c => .ok (.d (.bool neg)) c
  | _, _, _ => .no
theorem rr_isN : SndR Z W (fun x y H Q => y = .non ∧ Q (.bl (decide (x = .non))) H) (gIsN false) := by
  intro I H x y vx vy c k hx hy Q h
  unfold gIsN at h
  split at h <;> first | exact h.elim | (cases hx; cases hy; exact ⟨rfl, Res.ok k h _ (.bl _)⟩)
theorem rr_notN : SndR Z W (fun x y H Q => y = .non ∧ Q (.bl (!decide (x = .non))) H) (gIsN true) := by
  intro I H x y vx vy c k hx hy Q h
  unfold gIsN at h
  split at h <;> first | exact h.elim | (cases hx; cases hy; exact ⟨rfl, Res.ok k h _ (.bl _)⟩)
/-- flat values -/
def toV : PyData → Option V
  | .none => some .non
  | .bool b => some (.bl b)
  | .int i => some (.int i)
  | .str x => some (.str x)
  | _ => none
theorem toV_of {K : PySem.W.Frag} {I : Hp} {v u : V} {x : PyData} (h : Dp K I v x) (e : toV x = some u) : v = u ∧ flatV u = true := by
  cases h <;> simp [toV] at e <;> subst e <;> exact ⟨rfl, rfl⟩
def toVs : List PyData → Option (List V)
  | [] => some []
  | x :: xs => match toV x, toVs xs with
    | some v, some vs => some (v :: vs)
    | _, _ => none
theorem toVs_of {K : PySem.W.Frag} {I : Hp} : ∀ {xs : List PyData} {vs us : List V}, DpAll K I vs xs → toVs xs = some us → vs = us ∧ us.all flatV = true
  | [], _, us, h, e => by cases h; cases e; exact ⟨rfl, rfl⟩
  | x :: xs, _, us, h, e => by
    cases h with
    | cons a b =>
      unfold toVs at e
      split at e
      · rename_i v ws e1 e2
        cases e
        obtain ⟨h1, h2⟩ := toV_of a e1
        obtain ⟨h3, h4⟩ := toVs_of b e2
        subst h1 h3
        exact ⟨rfl, by rw [List.all_cons, h2, h4]; rfl⟩
      · cases e
def gIn (neg : Bool) : Vl → Vl → Int → R Vl
  | .d x, .d (.list ys), c => match toV x, toVs ys with
    | some v, some vs => .ok (.d (.bool (if neg then !inV v vs else inV v vs))) c
    | _, _ => .no
  | .d x, .d (.tuple ys), c => match toV x, toVs ys with
    | some v, some vs => .ok (.d (.bool (if neg then !inV v vs else inV v vs))) c
    | _, _ => .no
  | _, _, _ => .no
theorem rr_in {neg : Bool} : SndR Z W (rIn Z.K neg) (gIn neg) := by
  intro I H x y vx vy c k hx hy Q h
  unfold gIn at h
  split at h
  · split at h
    · rename_i v vs e1 e2
      cases hy with
      | lst s t =>
        obtain ⟨h1, h2⟩ := toV_of hx e1
        obtain ⟨h3, h4⟩ := toVs_of t e2
        subst h1 h3
        exact ⟨_, _, rfl, .inl (sqL_grows k.ex s), h2, h4, Res.ok k h _ (.bl _)⟩
    · exact h.elim
  · split at h
    · rename_i v vs e1 e2
      cases hy with
      | tup s t =>
        obtain ⟨h1, h2⟩ := toV_of hx e1
        obtain ⟨h3, h4⟩ := toVs_of t e2
        subst h1 h3
        exact ⟨_, _, rfl, .inr (sqT_grows k.ex s), h2, h4, Res.ok k h _ (.bl _)⟩
    · exact h.elim
  · exact h.elim
/-- x[i] -/
theorem atI_of {K : PySem.W.Frag} {I : Hp} {vs : List V} {xs : List PyData} {i : Int} {d : PyData} (h : DpAll K I vs xs) (e : atI xs i = some d) : ∃ v, atI vs i = some v ∧ Dp K I v d := by
  unfold atI at e ⊢
  rw [dps_len h]
  cases q : ixN xs.length i with
  | none => rw [q] at e; cases e
  | some j =>
    rw [q] at e
    exact dps_get h e
def gIx : Vl → Vl → Int → R Vl
  | .d (.list xs), .d (.int i), c => match atI xs i with
    | some d => .ok (.d d) c
    | none => .no
  | .d (.tuple xs), .d (.int i), c => match atI xs i with
    | some d => .ok (.d d) c
    | none => .no
  | .d (.str z), .d (.int i), c => if z.length ≤ sizeLine then match atI z.cps.toList i with
    | some d => .ok (.d (.str ⟨#[d]⟩)) c
    | none => .no else .no
  | _, _, _ => .no
theorem rr_ix : SndR Z W (rIx Z.K) gIx := by
  intro I H x y vx vy c k hx hy Q h
  unfold gIx at h
  split at h
  · split at h
    · rename_i d e
      cases hx with
      | lst s t =>
        cases hy
        obtain ⟨v, h1, h2⟩ := atI_of t e
        exact .inl ⟨_, _, _, v, rfl, rfl, sqL_grows k.ex s, h1, Res.ok k h v h2⟩
    · exact h.elim
  · split at h
    · rename_i d e
      cases hx with
      | tup s t =>
        cases hy
        obtain ⟨v, h1, h2⟩ := atI_of t e
        exact .inr (.inl ⟨_, _, _, v, rfl, rfl, sqT_grows k.ex s, h1, Res.ok k h v h2⟩)
    · exact h.elim
  · split at h
    · rename_i z1
      split at h
      · rename_i d e
        cases hx
        cases hy
        exact .inr (.inr ⟨_, _, d, rfl, rfl, z1, e, Res.ok k h _ (.str _)⟩)
      · exact h.elim
    · exact h.elim
  · exact h.elim
/-- one's own list, read by its place -/
def gIxL (xs : List PyData) : Vl → Int → R Vl
  | .d (.int i), c => match atI xs i with
    | some d => .ok (.d d) c
    | none => .no
  | _, _ => .no
def dIxO (i : Nat) (db : Den) : Den := fun δ c => match δ[i]? with
  | some (.ow xs) => (db δ c).bind (gIxL xs)
  | _ => .no
theorem snd_ixO {i : Nat} {tb : TE} {db : Den} (hb : SndE Z W tb db) : SndE Z W (tOp (rIx Z.K) (tVar i) tb) (dIxO i db) := by
  intro H0 I H σ δ c a Q h
  unfold dIxO at h
  split at h
  · rename_i xs e
    obtain ⟨as, s⟩ := a.sl
    obtain ⟨l, vs, h1, m, h2, h3⟩ := s.own e
    obtain ⟨_, _, n1, _, n2⟩ := s.at m
    refine ⟨.ref l, h1, ?_⟩
    refine hb _ _ _ _ _ _ a _ (Res.imp (Res.bind h) fun y c2 I2 H2 g2 k2 hh w hw => ?_)
    unfold gIxL at hh
    split at hh
    · split at hh
      · rename_i d e4
        cases hw
        obtain ⟨v, h5, h6⟩ := atI_of (dps_grows g2.ii _ _ h3) e4
        exact .inl ⟨_, _, _, v, rfl, rfl, .inl (.inl (g2.hh _ _ n2 h2)), h5, Res.ok k2 hh v h6⟩
      · exact hh.elim
    · exact hh.elim
  · exact h.elim

/-! tests -/
def dTe (de : Den) : DenT := fun δ c => (de δ c).bind fun x c => match x with
  | .d (.bool b) => .ok b c
  | _ => .no
theorem snd_test {te : TE} {de : Den} (h : SndE Z W te de) : SndT Z W (tTest te) (dTe de) := by
  intro H0 I H σ δ c a Q r
  refine h _ _ _ _ _ _ a _ (Res.imp (Res.bind r) fun x c1 I1 H1 g1 k1 h1 v hv => ?_)
  split at h1
  · cases hv
    exact ⟨_, rfl, Res.ok k1 h1⟩
  · exact h1.elim
theorem snd_tB {te : TE} {de : Den} (h : SndE Z W te de) : SndT Z W (tB te) (dTe de) := snd_test h
/-- truth -/
def gTru : Vl → Int → R Bool
  | .d .none, c => .ok false c
  | .d (.bool b), c => .ok b c
  | .d (.int i), c => .ok (i != 0) c
  | .d (.list xs), c => .ok (!xs.isEmpty) c
  | .d (.tuple xs), c => .ok (!xs.isEmpty) c
  | _, _ => .no
theorem emp_of {K : PySem.W.Frag} {I : Hp} {vs : List V} {xs : List PyData} (h : DpAll K I vs xs) : (!vs.isEmpty) = !xs.isEmpty := by cases h <;> rfl
theorem tru_of {I H : Hp} {c : Int} (k : Ok Z I H c) {x : Vl} {v : V} (hv : VOk Z I v x) {P : Bool → Int → Hp → Hp → Prop} (h : Res Z W I H (gTru x c) P) : ∃ b, TruV Z.K v H b ∧ Res Z W I H (.ok b c) P := by
  unfold gTru at h
  split at h
  · cases hv; exact ⟨_, rfl, h⟩
  · cases hv; exact ⟨_, rfl, h⟩
  · cases hv; exact ⟨_, rfl, h⟩
  · cases hv with
    | lst s t => exact ⟨_, .inl ⟨_, sqL_grows k.ex s, (emp_of t).symm⟩, h⟩
  · cases hv with
    | tup s t => exact ⟨_, .inr (.inl ⟨_, sqT_grows k.ex s, (emp_of t).symm⟩), h⟩
  · exact h.elim
def dTru (de : Den) : DenT := fun δ c => (de δ c).bind gTru
theorem snd_tru {te : TE} {de : Den} (h : SndE Z W te de) : SndT Z W (fun σ H Q => te σ H fun x H' => ∃ k, TruV Z.K x H' k ∧ Q k H') (dTru de) := by
  intro H0 I H σ δ c a Q r
  refine h _ _ _ _ _ _ a _ (Res.imp (Res.bind r) fun x c1 I1 H1 g1 k1 h1 v hv => ?_)
  obtain ⟨b, h2, h3⟩ := tru_of k1 hv h1
  exact ⟨b, h2, Res.ok k1 h3⟩
def dTruO (i : Nat) : DenT := fun δ c => match δ[i]? with
  | some (.ow xs) => .ok (!xs.isEmpty) c
  | _ => .no
theorem snd_truO {i : Nat} : SndT Z W (fun σ H Q => tVar i σ H fun x H' => ∃ k, TruV Z.K x H' k ∧ Q k H') (dTruO i) := by
  intro H0 I H σ δ c a Q h
  unfold dTruO at h
  split at h
  · rename_i xs e
    obtain ⟨as, s⟩ := a.sl
    obtain ⟨l, vs, h1, m, h2, h3⟩ := s.own e
    exact ⟨.ref l, h1, _, .inl ⟨_, .inl (.inl h2), (emp_of h3).symm⟩, Res.ok a.k h⟩
  · exact h.elim
def dAnd (da db : DenT) : DenT := fun δ c => (da δ c).bind fun b c => if b = true then db δ c else .ok false c
def dOr (da db : DenT) : DenT := fun δ c => (da δ c).bind fun b c => if b = true then .ok true c else db δ c
def dNot (da : DenT) : DenT := fun δ c => (da δ c).bind fun b c => .ok (!b) c
theorem snd_and {ta tb : TT} {da db : DenT} (ha : SndT Z W ta da) (hb : SndT Z W tb db) : SndT Z W (tAnd ta tb) (dAnd da db) := by
  intro H0 I H σ δ c a Q r
  refine ha _ _ _ _ _ _ a _ (Res.imp (Res.bind r) fun b c1 I1 H1 g1 k1 h1 => ?_)
  cases b with
  | true => exact iteT (hb _ _ _ _ _ _ (a.go g1 k1) _ h1)
  | false => exact iteF (Res.ok k1 h1)
theorem snd_or {ta tb : TT} {da db : DenT} (ha : SndT Z W ta da) (hb : SndT Z W tb db) : SndT Z W (tOr ta tb) (dOr da db) := by
  intro H0 I H σ δ c a Q r
  refine ha _ _ _ _ _ _ a _ (Res.imp (Res.bind r) fun b c1 I1 H1 g1 k1 h1 => ?_)
  cases b with
  | true => exact iteT (Res.ok k1 h1)
  | false => exact iteF (hb _ _ _ _ _ _ (a.go g1 k1) _ h1)
theorem snd_not {ta : TT} {da : DenT} (ha : SndT Z W ta da) : SndT Z W (tNot ta) (dNot da) := by
  intro H0 I H σ δ c a Q r
  refine ha _ _ _ _ _ _ a _ (Res.imp (Res.bind r) fun b c1 I1 H1 g1 k1 h1 => ?_)
  exact Res.ok k1 h1
/-- a test as a value -/
def dBV (d : DenT) : Den := fun δ c => (d δ c).bind fun b c => .ok (.d (.bool b)) c
theorem snd_andV {ta tb : TE} {da db : Den} (ha : SndE Z W ta da) (hb : SndE Z W tb db) : SndE Z W (tAndV ta tb) (fun δ c => (dTe da δ c).bind fun b c => if b = true then db δ c else .ok (.d (.bool false)) c) := by
  intro H0 I H σ δ c a Q r
  refine snd_test ha _ _ _ _ _ _ a (fun b H1 => if b = true then tb σ H1 Q else Q (.bl false) H1) (Res.imp (Res.bind r) fun b c1 I1 H1 g1 k1 h1 => ?_)
  cases b with
  | true => exact iteT (hb _ _ _ _ _ _ (a.go g1 k1) _ h1)
  | false => exact iteF (Res.ok k1 h1 _ (.bl _))
theorem snd_orV {ta tb : TE} {da db : Den} (ha : SndE Z W ta da) (hb : SndE Z W tb db) : SndE Z W (tOrV ta tb) (fun δ c => (dTe da δ c).bind fun b c => if b = true then .ok (.d (.bool true)) c else db δ c) := by
  intro H0 I H σ δ c a Q r
  refine snd_test ha _ _ _ _ _ _ a (fun b H1 => if b = true then Q (.bl true) H1 else tb σ H1 Q) (Res.imp (Res.bind r) fun b c1 I1 H1 g1 k1 h1 => ?_)
  cases b with
  | true => exact iteT (Res.ok k1 h1 _ (.bl _))
  | false => exact iteF (hb _ _ _ _ _ _ (a.go g1 k1) _ h1)
theorem snd_notV {ta : TE} {da : Den} (ha : SndE Z W ta da) : SndE Z W (tNotV ta) (fun δ c => (dTe da δ c).bind fun b c => .ok (.d (.bool (!b))) c) := by
  intro H0 I H σ δ c a Q r
  refine snd_test ha _ _ _ _ _ _ a (fun b H1 => Q (.bl (!b)) H1) (Res.imp (Res.bind r) fun b c1 I1 H1 g1 k1 h1 => ?_)
  exact Res.ok k1 h1 _ (.bl _)
def dIf (dt : DenT) (da db : Den) : Den := fun δ c => (dt δ c).bind fun b c => if b = true then da δ c else db δ c
theorem snd_if {tt : TT} {ta tb : TE} {dt : DenT} {da db : Den} (ht : SndT Z W tt dt) (ha : SndE Z W ta da) (hb : SndE Z W tb db) : SndE Z W (tIf tt ta tb) (dIf dt da db) := by
  intro H0 I H σ δ c a Q r
  refine ht _ _ _ _ _ _ a _ (Res.imp (Res.bind r) fun b c1 I1 H1 g1 k1 h1 => ?_)
  cases b with
  | true => exact iteT (ha _ _ _ _ _ _ (a.go g1 k1) _ h1)
  | false => exact iteF (hb _ _ _ _ _ _ (a.go g1 k1) _ h1)
def dChain (g g' : Vl → Vl → Int → R Vl) (da db dc : Den) : Den := fun δ c => (da δ c).bind fun x c => (db δ c).bind fun y c => (g x y c).bind fun z c => match z with
  | .d (.bool b) => if b = true then (dc δ c).bind fun u c => g' y u c else .ok (.d (.bool false)) c
  | _ => .no
theorem snd_chain {r r' : R2} {g g' : Vl → Vl → Int → R Vl} {ta tb tc : TE} {da db dc : Den} (hr : SndR Z W r g) (hr' : SndR Z W r' g') (ha : SndE Z W ta da) (hb : SndE Z W tb db) (hc : SndE Z W tc dc) : SndE Z W (tChain r r' ta tb tc) (dChain g g' da db dc) := by
  intro H0 I H σ δ c a Q h
  refine ha _ _ _ _ _ _ a _ (Res.imp (Res.bind h) fun x c1 I1 H1 g1 k1 h1 v hv => ?_)
  refine hb _ _ _ _ _ _ (a.go g1 k1) _ (Res.imp (Res.bind h1) fun y c2 I2 H2 g2 k2 h2 w hw => ?_)
  refine hr I2 H2 x y v w c2 k2 (vok_grows g2.ii hv) hw _ (Res.imp (Res.bind h2) fun z c3 I3 H3 g3 k3 h3 u hu => ?_)
  split at h3
  · cases hu
    refine ⟨_, rfl, ?_⟩
    rename_i b
    cases b with
    | true =>
      refine iteT (hc _ _ _ _ _ _ (((a.go g1 k1).go g2 k2).go g3 k3) _ (Res.imp (Res.bind h3) fun t c4 I4 H4 g4 k4 h4 m hm => ?_))
      exact hr' I4 H4 y t w m c4 k4 (vok_grows (fun a o e => g4.ii a o (g3.ii a o e)) hw) hm Q h4
    | false => exact iteF (Res.ok k3 h3 _ (.bl _))
  · exact h3.elim

/-! arguments, displays -/
def dNil : DenA := fun _ c => .ok [] c
def dCons (da : Den) (dr : DenA) : DenA := fun δ c => (da δ c).bind fun x c => (dr δ c).bind fun xs c => .ok (x :: xs) c
theorem snd_nil : SndA Z W tNil dNil := fun _ _ _ _ _ _ a _ r => Res.ok a.k r _ .nil
theorem snd_cons {ta : TE} {tr : TA} {da : Den} {dr : DenA} (ha : SndE Z W ta da) (hr : SndA Z W tr dr) : SndA Z W (tCons ta tr) (dCons da dr) := by
  intro H0 I H σ δ c a Q h
  refine ha _ _ _ _ _ _ a _ (Res.imp (Res.bind h) fun x c1 I1 H1 g1 k1 h1 v hv => ?_)
  refine hr _ _ _ _ _ _ (a.go g1 k1) _ (Res.imp (Res.bind h1) fun y c2 I2 H2 g2 k2 h2 w hw => ?_)
  exact Res.ok k2 h2 _ (.cons (vok_grows g2.ii hv) hw)
/-- all data -/
def datas : List Vl → Option (List PyData)
  | [] => some []
  | .d x :: xs => match datas xs with
    | some ys => some (x :: ys)
    | none => none
  | _ :: _ => none
theorem datas_of {I : Hp} : ∀ {xs : List Vl} {vs : List V} {ys : List PyData}, VOks Z I vs xs → datas xs = some ys → DpAll Z.K I vs ys
  | [], _, _, h, e => by cases h; cases e; exact .nil
  | .d x :: xs, _, _, h, e => by
    cases h with
    | cons a b =>
      unfold datas at e
      split at e
      · rename_i ys e1
        cases e
        exact .cons a (datas_of b e1)
      · cases e
  | .st :: _, _, _, _, e => by cases e
  | .op _ :: _, _, _, _, e => by cases e
def dTup (da : DenA) : Den := fun δ c => (da δ c).bind fun xs c => match datas xs with
  | some ys => if ys.length ≤ 16777216 then .ok (.d (.tuple ys)) c else .no
  | none => .no
theorem snd_tup {ta : TA} {da : DenA} (ha : SndA Z W ta da) : SndE Z W (tTup ta) (dTup da) := by
  intro H0 I H σ δ c a Q h
  refine ha _ _ _ _ _ _ a _ (Res.imp (Res.bind h) fun x c1 I1 H1 g1 k1 h1 vs hv => ?_)
  split at h1
  · rename_i ys e
    split at h1
    · rename_i hl
      have hd := datas_of hv e
      refine ⟨by rw [dps_len hd, sizeLine_eq]; exact hl, fun p hp => ?_⟩
      obtain ⟨g2, k2⟩ := Gr.new (o := .tup vs) k1 hp
      exact h1 _ _ g2 k2 _ (.tup (.inl (.inl upd_same)) (dps_grows g2.ii _ _ hd))
    · exact h1.elim
  · exact h1.elim
def dLst (da : DenA) : DenL := fun δ c => (da δ c).bind fun xs c => match datas xs with
  | some ys => if ys.length ≤ 16777216 then .ok ys c else .no
  | none => .no
theorem freshB {I H I1 H1 : Hp} (g : Gr Z I H I1 H1) {p : Addr} (h : H1 p = none) : H p = none := by
  cases e : H p with
  | none => rfl
  | some u => exact absurd h (g.th p (by rw [e]; exact Option.some_ne_none u))
/-- a fresh list, from a later state -/
theorem resL_base {I H I1 H1 : Hp} {r : R (List PyData)} {Q : VK} (g : Gr Z I H I1 H1) (h : Res Z W I H r fun xs _ I' H' => ∀ l vs, H l = none → I' l = none → H' l = some (.lst vs) → Z.sa ≠ some l → DpAll Z.K I' vs xs → Q (.ref l) H') :
    Res Z W I1 H1 r fun xs _ I' H' => ∀ l vs, H1 l = none → I' l = none → H' l = some (.lst vs) → Z.sa ≠ some l → DpAll Z.K I' vs xs → Q (.ref l) H' :=
  Res.imp (Res.base g h) fun xs c I' H' _ _ q l vs f0 => q l vs (freshB g f0)
theorem snd_lst {ta : TA} {da : DenA} (ha : SndA Z W ta da) : SndL Z W (tLst ta) (dLst da) := by
  intro H0 I H σ δ c a Q h
  refine ha _ _ _ _ _ _ a _ (Res.imp (Res.bind h) fun x c1 I1 H1 g1 k1 h1 vs hv => ?_)
  split at h1
  · rename_i ys e
    split at h1
    · rename_i hl
      have hd := datas_of hv e
      refine ⟨by rw [dps_len hd, sizeLine_eq]; exact hl, fun p hp => ?_⟩
      obtain ⟨g2, k2⟩ := Gr.own (o := .lst vs) k1 hp
      exact h1 _ _ g2 k2 p vs (freshB g1 hp) (freshI k1 hp) upd_same (freshS k1 hp) hd
    · exact h1.elim
  · exact h1.elim
/-- a new list known at the state ahead -/
theorem newL {I H : Hp} {c : Int} (k : Ok Z I H c) {vs : List V} {xs : List PyData} (hd : DpAll Z.K I vs xs) {Q : VK}
    (h : Res Z W I H (.ok xs c) fun xs _ I' H' => ∀ l vs, H l = none → I' l = none → H' l = some (.lst vs) → Z.sa ≠ some l → DpAll Z.K I' vs xs → Q (.ref l) H') : ∀ p, H p = none → Q (.ref p) (upd H p (.lst vs)) := fun p hp => by
  obtain ⟨g2, k2⟩ := Gr.own (o := .lst vs) k hp
  exact h _ _ g2 k2 p vs hp (freshI k hp) upd_same (freshS k hp) hd
theorem newT {I H : Hp} {c : Int} (k : Ok Z I H c) {vs : List V} {xs : List PyData} (hd : DpAll Z.K I vs xs) {Q : VK}
    (h : Res Z W I H (.ok (.d (.tuple xs)) c) fun z _ I' H' => ∀ v, VOk Z I' v z → Q v H') : ∀ p, H p = none → Q (.ref p) (upd H p (.tup vs)) := fun p hp => by
  obtain ⟨g2, k2⟩ := Gr.new (o := .tup vs) k hp
  exact h _ _ g2 k2 _ (.tup (.inl (.inl upd_same)) (dps_grows g2.ii _ _ hd))
end
end Dn
namespace Dn
open PySem PySem.Spec PyProof.Rows L2

def R.calm {α : Type} (r : R α) : R α := match r with
  | .ex _ _ _ => .no
  | r => r
@[simp] theorem R.calm_ok {α : Type} {a : α} {c : Int} : (R.ok a c).calm = .ok a c := rfl
@[simp] theorem R.calm_no {α : Type} : (R.no : R α).calm = .no := rfl
theorem Res.calm {Z : Zz} {W W' : XK} {I H : Hp} {α : Type} {r : R α} {P : α → Int → Hp → Hp → Prop} (h : Res Z W I H r.calm P) : Res Z W' I H r P := by
  cases r with
  | no => exact h
  | ok a c => exact h
  | ex k p c => exact h.elim

section
variable {Z : Zz} {W : XK}
/-! calls -/
def SndC (Z : Zz) (W : XK) (r : List V → Hp → VK → Prop) (g : List Vl → Int → R Vl) : Prop := ∀ I H xs vs c, Ok Z I H c → VOks Z I vs xs → ∀ Q : VK, Res Z W I H (g xs c) (fun z _ I' H' => ∀ v, VOk Z I' v z → Q v H') → r vs H Q
def SndCL (Z : Zz) (W : XK) (r : List V → Hp → VK → Prop) (g : List Vl → Int → R (List PyData)) : Prop := ∀ I H xs vs c, Ok Z I H c → VOks Z I vs xs → ∀ Q : VK,
  Res Z W I H (g xs c) (fun xs _ I' H' => ∀ l vs, H l = none → I' l = none → H' l = some (.lst vs) → Z.sa ≠ some l → DpAll Z.K I' vs xs → Q (.ref l) H') → r vs H Q
def dCB (g : List Vl → Int → R Vl) (da : DenA) : Den := fun δ c => (da δ c).bind g
def dCBL (g : List Vl → Int → R (List PyData)) (da : DenA) : DenL := fun δ c => (da δ c).bind g
theorem snd_callB {r : List V → Hp → VK → Prop} {g : List Vl → Int → R Vl} {ta : TA} {da : DenA} (hr : SndC Z W r g) (ha : SndA Z W ta da) : SndE Z W (tCB r ta) (dCB g da) := by
  intro H0 I H σ δ c a Q h
  refine ha _ _ _ _ _ _ a _ (Res.imp (Res.bind h) fun xs c1 I1 H1 g1 k1 h1 vs hv => ?_)
  exact hr I1 H1 xs vs c1 k1 hv Q h1
theorem snd_callBL {r : List V → Hp → VK → Prop} {g : List Vl → Int → R (List PyData)} {ta : TA} {da : DenA} (hr : SndCL Z W r g) (ha : SndA Z W ta da) : SndL Z W (tCB r ta) (dCBL g da) := by
  intro H0 I H σ δ c a Q h
  refine ha _ _ _ _ _ _ a _ (Res.imp (Res.bind h) fun xs c1 I1 H1 g1 k1 h1 vs hv => ?_)
  exact hr I1 H1 xs vs c1 k1 hv Q (Res.imp h1 fun ys c2 I2 H2 g2 k2 q l ws f0 => q l ws (freshB g1 f0))
def gAbs : List Vl → Int → R Vl
  | [.d (.int i)], c => .ok (.d (.int (if i < 0 then -i else i))) c
  | _, _ => .no
theorem rc_abs : SndC Z W (fun xs H Q => ∃ i, xs = [.int i] ∧ Q (.int (if i < 0 then -i else i)) H) gAbs := by
  intro I H xs vs c k hv Q h
  unfold gAbs at h
  split at h
  · cases hv with
    | cons a b => cases b; cases a; exact ⟨_, rfl, Res.ok k h _ (.int _)⟩
  · exact h.elim
def gMax2 : List Vl → Int → R Vl
  | [.d (.int i), .d (.int j)], c => .ok (.d (.int (if j > i then j else i))) c
  | _, _ => .no
theorem rc_max2 : SndC Z W (fun xs H Q => ∃ i j, xs = [.int i, .int j] ∧ Q (.int (if j > i then j else i)) H) gMax2 := by
  intro I H xs vs c k hv Q h
  unfold gMax2 at h
  split at h
  · cases hv with
    | cons a b => cases b with
      | cons a2 b2 => cases b2; cases a; cases a2; exact ⟨_, _, rfl, Res.ok k h _ (.int _)⟩
  · exact h.elim
def gMin2 : List Vl → Int → R Vl
  | [.d (.int i), .d (.int j)], c => .ok (.d (.int (if j < i then j else i))) c
  | _, _ => .no
theorem rc_min2 : SndC Z W (fun xs H Q => ∃ i j, xs = [.int i, .int j] ∧ Q (.int (if j < i then j else i)) H) gMin2 := by
  intro I H xs vs c k hv Q h
  unfold gMin2 at h
  split at h
  · cases hv with
    | cons a b => cases b with
      | cons a2 b2 => cases b2; cases a; cases a2; exact ⟨_, _, rfl, Res.ok k h _ (.int _)⟩
  · exact h.elim
def gInt1 : List Vl → Int → R Vl
  | [.d (.int i)], c => .ok (.d (.int i)) c
  | [.d (.bool b)], c => .ok (.d (.int (if b then 1 else 0))) c
  | _, _ => .no
theorem rc_int1 : SndC Z W (fun xs H Q => (∃ i, xs = [.int i] ∧ Q (.int i) H) ∨ ∃ k, xs = [.bl k] ∧ Q (.int (if k then 1 else 0)) H) gInt1 := by
  intro I H xs vs c k hv Q h
  unfold gInt1 at h
  split at h
  · cases hv with
    | cons a b => cases b; cases a; exact .inl ⟨_, rfl, Res.ok k h _ (.int _)⟩
  · cases hv with
    | cons a b => cases b; cases a; exact .inr ⟨_, rfl, Res.ok k h _ (.int _)⟩
  · exact h.elim
def gLen : List Vl → Int → R Vl
  | [.d (.list xs)], c => .ok (.d (.int xs.length)) c
  | [.d (.tuple xs)], c => .ok (.d (.int xs.length)) c
  | [.d (.str z)], c => if z.length ≤ 16777216 then .ok (.d (.int z.length)) c else .no
  | _, _ => .no
def rLenA (K : PySem.W.Frag) : List V → Hp → VK → Prop := fun xs H Q => ∃ x n, xs = [x] ∧ LenV K x H n ∧ Q (.int n) H
theorem rc_len : SndC Z W (rLenA Z.K) gLen := by
  intro I H xs vs c k hv Q h
  unfold gLen at h
  split at h
  · cases hv with
    | cons a b => cases b; cases a with
      | lst s t => exact ⟨_, _, rfl, .inl ⟨_, sqL_grows k.ex s, rfl⟩, by rw [dps_len t]; exact Res.ok k h _ (.int _)⟩
  · cases hv with
    | cons a b => cases b; cases a with
      | tup s t => exact ⟨_, _, rfl, .inr ⟨_, sqT_grows k.ex s, rfl⟩, by rw [dps_len t]; exact Res.ok k h _ (.int _)⟩
  · split at h
    · rename_i z
      cases hv with
      | cons a b => cases b; cases a; exact ⟨_, _, rfl, ⟨by rw [sizeLine_eq]; exact z, rfl⟩, Res.ok k h _ (.int _)⟩
    · exact h.elim
  · exact h.elim
/-- len of one's own list -/
def dLenO (i : Nat) : Den := fun δ c => match δ[i]? with
  | some (.ow xs) => .ok (.d (.int xs.length)) c
  | _ => .no
theorem snd_lenO {i : Nat} : SndE Z W (tCB (rLenA Z.K) (tCons (tVar i) tNil)) (dLenO i) := by
  intro H0 I H σ δ c a Q h
  unfold dLenO at h
  split at h
  · rename_i xs e
    obtain ⟨as, s⟩ := a.sl
    obtain ⟨l, vs, h1, m, h2, h3⟩ := s.own e
    exact ⟨.ref l, h1, .ref l, vs.length, rfl, .inl ⟨vs, .inl (.inl h2), rfl⟩, by rw [dps_len h3]; exact Res.ok a.k h _ (.int _)⟩
  · exact h.elim
def gTuple : List Vl → Int → R Vl
  | [.d (.list xs)], c => .ok (.d (.tuple xs)) c
  | [.d (.tuple xs)], c => .ok (.d (.tuple xs)) c
  | _, _ => .no
theorem rc_tuple : SndC Z W (fun xs H Q => ∃ p ys, xs = [.ref p] ∧ ((SqL Z.K H p ys ∧ ∀ l, H l = none → Q (.ref l) (upd H l (.tup ys))) ∨ (SqT Z.K H p ys ∧ Q (.ref p) H))) gTuple := by
  intro I H xs vs c k hv Q h
  unfold gTuple at h
  split at h
  · cases hv with
    | cons a b => cases b; cases a with
      | lst s t => exact ⟨_, _, rfl, .inl ⟨sqL_grows k.ex s, newT k t h⟩⟩
  · cases hv with
    | cons a b => cases b; cases a with
      | tup s t => exact ⟨_, _, rfl, .inr ⟨sqT_grows k.ex s, Res.ok k h _ (.tup s t)⟩⟩
  · exact h.elim
def gList : List Vl → Int → R (List PyData)
  | [.d (.list xs)], c => .ok xs c
  | [.d (.tuple xs)], c => .ok xs c
  | _, _ => .no
theorem rc_list : SndCL Z W (fun xs H Q => ∃ p ys, xs = [.ref p] ∧ (SqL Z.K H p ys ∨ SqT Z.K H p ys) ∧ ∀ l, H l = none → Q (.ref l) (upd H l (.lst ys))) gList := by
  intro I H xs vs c k hv Q h
  unfold gList at h
  split at h
  · cases hv with
    | cons a b => cases b; cases a with
      | lst s t => exact ⟨_, _, rfl, .inl (sqL_grows k.ex s), newL k t h⟩
  · cases hv with
    | cons a b => cases b; cases a with
      | tup s t => exact ⟨_, _, rfl, .inr (sqT_grows k.ex s), newL k t h⟩
  · exact h.elim
/-- slices -/
def dNoO : DenO := fun _ c => .ok none c
def dSoO (da : Den) : DenO := fun δ c => (da δ c).bind fun x c => match x with
  | .d (.int i) => .ok (some i) c
  | _ => .no
theorem snd_noO : SndO Z W tNoPart dNoO := fun _ _ _ _ _ _ a _ r => Res.ok a.k r
theorem snd_soO {ta : TE} {da : Den} (ha : SndE Z W ta da) : SndO Z W (tPart ta) (dSoO da) := by
  intro H0 I H σ δ c a Q h
  refine ha _ _ _ _ _ _ a _ (Res.imp (Res.bind h) fun x c1 I1 H1 g1 k1 h1 v hv => ?_)
  split at h1
  · cases hv
    exact ⟨_, rfl, Res.ok k1 h1⟩
  · exact h1.elim
def cutD (xs : List PyData) (lo hi : Option Int) : List PyData := (xs.drop (HT.sIx xs.length 0 lo)).take (HT.sIx xs.length xs.length hi - HT.sIx xs.length 0 lo)
theorem dps_cut {K : PySem.W.Frag} {I : Hp} {vs : List V} {xs : List PyData} (h : DpAll K I vs xs) (lo hi : Option Int) : DpAll K I (cutV vs lo hi) (cutD xs lo hi) := by
  unfold cutV cutD
  rw [dps_len h]
  exact dps_take _ (dps_drop _ h)
def dSlL (da : Den) (dl dh : DenO) : DenL := fun δ c => (da δ c).bind fun x c => (dl δ c).bind fun lo c => (dh δ c).bind fun hi c => match x with
  | .d (.list xs) => .ok (cutD xs lo hi) c
  | _ => .no
theorem snd_slL {ta : TE} {tl th : TO} {da : Den} {dl dh : DenO} (ha : SndE Z W ta da) (hl : SndO Z W tl dl) (hh : SndO Z W th dh) : SndL Z W (tSl (rSlL Z.K) ta tl th) (dSlL da dl dh) := by
  intro H0 I H σ δ c a Q h
  refine ha _ _ _ _ _ _ a _ (Res.imp (Res.bind h) fun x c1 I1 H1 g1 k1 h1 v hv => ?_)
  refine hl _ _ _ _ _ _ (a.go g1 k1) _ (Res.imp (Res.bind h1) fun lo c2 I2 H2 g2 k2 h2 => ?_)
  refine hh _ _ _ _ _ _ ((a.go g1 k1).go g2 k2) _ (Res.imp (Res.bind h2) fun hi c3 I3 H3 g3 k3 h3 => ?_)
  split at h3
  · cases hv with
    | lst s t =>
      have gi : Grows I1 I3 := fun a o e => g3.ii a o (g2.ii a o e)
      refine ⟨_, _, rfl, sqL_grows (fun a o e => k3.ex a o (gi a o e)) s, newL k3 (dps_cut (dps_grows gi _ _ t) lo hi) (Res.imp h3 fun ys c4 I4 H4 g4 k4 q l ws f0 => q l ws (freshB (g1.trans (g2.trans g3)) f0))⟩
  · exact h3.elim
def dSlT (da : Den) (dl dh : DenO) : Den := fun δ c => (da δ c).bind fun x c => (dl δ c).bind fun lo c => (dh δ c).bind fun hi c => match x with
  | .d (.tuple xs) => .ok (.d (.tuple (cutD xs lo hi))) c
  | _ => .no
end
end Dn
namespace Dn
open PySem PySem.Spec PyProof.Rows L2
section
variable {Z : Zz} {W : XK}
/-! statements -/
def FinO (Z : Zz) (H0 : Hp) (D : Ends) (o : Out) (_ : Int) (I' H' : Hp) : Prop := match o with
  | .nx δ => ∀ σ, (∃ as, Sls Z H0 I' H' σ δ as) → D.nx σ H'
  | .bk δ => ∀ σ, (∃ as, Sls Z H0 I' H' σ δ as) → D.bk σ H'
  | .ct δ => ∀ σ, (∃ as, Sls Z H0 I' H' σ δ as) → D.ct σ H'
  | .rt x => ∀ v, VOk Z I' v x → D.rt v H'
def SndS (Z : Zz) (W : XK) (ts : TS) (ds : DenS) : Prop := ∀ I0 H0 I H σ δ c, Gr Z I0 H0 I H → At Z H0 I H σ δ c → ∀ D : Ends, Res Z W I0 H0 (ds δ c) (FinO Z H0 D) → ts D σ H
theorem Res.bindS {I0 H0 I H : Hp} {α β : Type} {r : R α} {f : α → Int → R β} {P : β → Int → Hp → Hp → Prop} (g : Gr Z I0 H0 I H) (h : Res Z W I0 H0 (r.bind f) P) :
    Res Z W I H r fun a c I' H' => Gr Z I0 H0 I' H' ∧ Res Z W I0 H0 (f a c) P := by
  cases r with
  | no => exact h
  | ok a c => exact fun I' H' g' _ => ⟨g.trans g', h⟩
  | ex k p c => exact fun I' H' cls d g' k e x => h I' H' cls d (g.trans g') k e x
theorem Res.okS {I0 H0 I H : Hp} {α : Type} {a : α} {c : Int} {P : α → Int → Hp → Hp → Prop} (g : Gr Z I0 H0 I H) (k : Ok Z I H c) (h : Res Z W I0 H0 (.ok a c) P) : P a c I H := h I H g k
def dNext : DenS := fun δ c => .ok (.nx δ) c
theorem sns_next : SndS Z W tNext dNext := fun _ _ _ _ _ _ _ g a _ h => Res.okS g a.k h _ a.sl
def dBreak : DenS := fun δ c => .ok (.bk δ) c
theorem sns_break : SndS Z W tBreak dBreak := fun _ _ _ _ _ _ _ g a _ h => Res.okS g a.k h _ a.sl
def dCont : DenS := fun δ c => .ok (.ct δ) c
theorem sns_cont : SndS Z W tCont dCont := fun _ _ _ _ _ _ _ g a _ h => Res.okS g a.k h _ a.sl
def seqO (f : DenS) : Out → Int → R Out
  | .nx δ, c => f δ c
  | o, c => .ok o c
def dSeq (d e : DenS) : DenS := fun δ c => (d δ c).bind (seqO e)
theorem sns_seq {t u : TS} {d e : DenS} (h1 : SndS Z W t d) (h2 : SndS Z W u e) : SndS Z W (tSeq t u) (dSeq d e) := by
  intro I0 H0 I H σ δ c g a D h
  refine h1 _ _ _ _ _ _ _ g a { D with nx := u D } ?_
  unfold dSeq at h
  cases q : d δ c with
  | no => rw [q] at h; exact h
  | ex k p c => rw [q] at h; exact h
  | ok o c1 =>
    rw [q] at h
    intro I1 H1 g1 k1
    cases o with
    | nx δ1 => exact fun σ1 s => h2 _ _ _ _ _ _ _ g1 ⟨s, k1⟩ D h
    | rt x => exact h I1 H1 g1 k1
    | bk δ1 => exact h I1 H1 g1 k1
    | ct δ1 => exact h I1 H1 g1 k1
def dSet (i : Nat) (de : Den) : DenS := fun δ c => (de δ c).bind fun x c => .ok (.nx (δ.set i (.im x))) c
theorem sns_set {i : Nat} {te : TE} {de : Den} (he : SndE Z W te de) : SndS Z W (tAsg te (gName i)) (dSet i de) := by
  intro I0 H0 I H σ δ c g a D h
  refine he _ _ _ _ _ _ a _ (Res.imp (Res.bindS g h) fun x c1 I1 H1 g1 k1 q v hv => ?_)
  obtain ⟨as, s⟩ := (a.go g1 k1).sl
  obtain ⟨bs, s2, _⟩ := s.put hv i
  exact Res.okS q.1 k1 q.2 _ ⟨bs, s2⟩
def dNew (i : Nat) (de : DenL) : DenS := fun δ c => (de δ c).bind fun xs c => .ok (.nx (δ.set i (.ow xs))) c
theorem sns_new {i : Nat} {te : TE} {de : DenL} (he : SndL Z W te de) : SndS Z W (tAsg te (gName i)) (dNew i de) := by
  intro I0 H0 I H σ δ c g a D h
  refine he _ _ _ _ _ _ a _ (Res.imp (Res.bindS g h) fun xs c1 I1 H1 g1 k1 q l vs f0 f1 f2 f3 f4 => ?_)
  obtain ⟨as, s0⟩ := a.sl
  have n : l ∉ as := fun m => by
    obtain ⟨ws, e, _⟩ := s0.at m
    rw [f0] at e
    cases e
  obtain ⟨bs, s2, _⟩ := (s0.mono g1).putOwn f2 f1 (freshB g f0) f3 f4 i n
  exact Res.okS q.1 k1 q.2 _ ⟨bs, s2⟩
def dDrop (de : Den) : DenS := fun δ c => (de δ c).bind fun _ c => .ok (.nx δ) c
theorem sns_drop {te : TE} {de : Den} (he : SndE Z W te de) : SndS Z W (tDrop te) (dDrop de) := by
  intro I0 H0 I H σ δ c g a D h
  refine he _ _ _ _ _ _ a _ (Res.imp (Res.bindS g h) fun x c1 I1 H1 g1 k1 q v hv => ?_)
  exact Res.okS q.1 k1 q.2 _ (a.go g1 k1).sl
/-- a state behind the change of one's own list -/
theorem own_step {I0 H0 I H : Hp} {c : Int} {l : Addr} {o : HO} (g : Gr Z I0 H0 I H) (k : Ok Z I H c) (h0 : H0 l = none) (hi : I l = none) (hs : Z.sa ≠ some l) : Gr Z I0 H0 I (upd H l o) ∧ Ok Z I (upd H l o) c := by
  refine ⟨⟨g.ii, fun a u n e => ?_, fun a e => ?_, g.fr⟩, ⟨fun a u e => ?_, fun a e => ?_⟩⟩
  · rw [upd_ne (fun z => by rw [z, h0] at e; cases e)]; exact g.hh a u n e
  · by_cases z : a = l
    · subst z; rw [upd_same]; exact Option.some_ne_none _
    · rw [upd_ne z]; exact g.th a e
  · rw [upd_ne (fun z => by rw [z, hi] at e; cases e)]; exact k.ex a u e
  · obtain ⟨n, p, e1, e2⟩ := k.st a e
    exact ⟨n, p, by rw [upd_ne (fun z => hs (by rw [← z]; exact e))]; exact e1, e2⟩
/-- x.append(e) on one's own list -/
def dApp (i : Nat) (de : Den) : DenS := fun δ c => match δ[i]? with
  | some (.ow xs) => (de δ c).bind fun y c => match y with
    | .d y => if xs.length < 16777216 then .ok (.nx (δ.set i (.ow (xs ++ [y])))) c else .no
    | _ => .no
  | _ => .no
theorem sns_app {i : Nat} {te : TE} {de : Den} (he : SndE Z W te de) : SndS Z W (tDrop (tBM Z.K "list" rAppend (tVar i) (tCons te tNil))) (dApp i de) := by
  intro I0 H0 I H σ δ c g a D h
  unfold dApp at h
  split at h
  · rename_i xs e
    obtain ⟨as, s⟩ := a.sl
    obtain ⟨l, vs, h1, m, h2, h3⟩ := s.own e
    obtain ⟨_, _, n1, n0, n2⟩ := s.at m
    refine ⟨.ref l, h1, .inl ⟨rfl, _, .inl (.inl h2)⟩, ?_⟩
    refine he _ _ _ _ _ _ a _ (Res.imp (Res.bindS g h) fun y c1 I1 H1 g1 k1 q v hv => ?_)
    obtain ⟨q1, q2⟩ := q
    split at q2
    · split at q2
      · rename_i y hz
        have hn : I1 l = none := g1.fr l (by rw [h2]; exact Option.some_ne_none _) n1
        have hd := dps_grows g1.ii _ _ h3
        refine ⟨l, vs, v, rfl, rfl, g1.hh _ _ n2 h2, by rw [dps_len h3, sizeLine_eq]; exact hz, ?_⟩
        obtain ⟨g3, k3⟩ := own_step (o := .lst (vs ++ [v])) q1 k1 n0 hn n2
        exact Res.okS g3 k3 q2 _ ⟨as, (s.mono g1).change (dps_app hd (.cons hv .nil)) e h1⟩
      · exact q2.elim
    · exact q2.elim
  · exact h.elim
def dRet (de : Den) : DenS := fun δ c => (de δ c).bind fun x c => .ok (.rt x) c
theorem sns_ret {te : TE} {de : Den} (he : SndE Z W te de) : SndS Z W (tRet te) (dRet de) := by
  intro I0 H0 I H σ δ c g a D h
  refine he _ _ _ _ _ _ a _ (Res.imp (Res.bindS g h) fun x c1 I1 H1 g1 k1 q v hv => ?_)
  exact Res.okS q.1 k1 q.2 v hv
def dRetN : DenS := fun _ c => .ok (.rt (.d .none)) c
theorem sns_retN : SndS Z W tRetN dRetN := fun _ _ _ _ _ _ _ g a _ h => Res.okS g a.k h .non .non
def dRetO (i : Nat) : DenS := fun δ c => match δ[i]? with
  | some (.ow xs) => .ok (.rt (.d (.list xs))) c
  | _ => .no
theorem sns_retO {i : Nat} : SndS Z W (tRet (tVar i)) (dRetO i) := by
  intro I0 H0 I H σ δ c g a D h
  unfold dRetO at h
  split at h
  · rename_i xs e
    obtain ⟨as, s⟩ := a.sl
    obtain ⟨l, vs, h1, m, h2, h3⟩ := s.own e
    obtain ⟨_, _, n1, n0, n2⟩ := s.at m
    obtain ⟨k2, gi, hv⟩ := keepL a.k n1 h2 n2 h3
    refine ⟨.ref l, h1, Res.okS ⟨fun b o e => gi b o (g.ii b o e), g.hh, g.th, fun b e n => ?_⟩ k2 h _ hv⟩
    rw [upd_ne (fun z => e (by rw [z]; exact n0))]
    exact g.fr b e n
  · exact h.elim
def dIfS (dt : DenT) (d e : DenS) : DenS := fun δ c => (dt δ c).bind fun b c => if b = true then d δ c else e δ c
theorem sns_if {tt : TT} {t u : TS} {dt : DenT} {d e : DenS} (ht : SndT Z W tt dt) (h1 : SndS Z W t d) (h2 : SndS Z W u e) : SndS Z W (tIfS tt t u) (dIfS dt d e) := by
  intro I0 H0 I H σ δ c g a D h
  refine ht _ _ _ _ _ _ a _ (Res.imp (Res.bindS g h) fun b c1 I1 H1 g1 k1 q => ?_)
  cases b with
  | true => exact iteT (h1 _ _ _ _ _ _ _ q.1 (a.go g1 k1) D q.2)
  | false => exact iteF (h2 _ _ _ _ _ _ _ q.1 (a.go g1 k1) D q.2)
/-- x += e on ints -/
def dAug (i : Nat) (f : Int → Int → Int) (de : Den) : DenS := fun δ c => match δ[i]? with
  | some (.im (.d (.int a))) => (de δ c).bind fun y c => match y with
    | .d (.int b) => .ok (.nx (δ.set i (.im (.d (.int (f a b)))))) c
    | _ => .no
  | _ => .no
theorem sns_aug {i : Nat} {f : Int → Int → Int} {te : TE} {de : Den} (he : SndE Z W te de) : SndS Z W (tAug i te (ipI f)) (dAug i f de) := by
  intro I0 H0 I H σ δ c g a D h
  unfold dAug at h
  split at h
  · rename_i x e
    obtain ⟨as, s⟩ := a.sl
    obtain ⟨v, h1, h2⟩ := s.get e
    refine ⟨v, h1, ?_⟩
    refine he _ _ _ _ _ _ a _ (Res.imp (Res.bindS g h) fun y c1 I1 H1 g1 k1 q w hw => ?_)
    obtain ⟨q1, q2⟩ := q
    split at q2
    · cases hw
      cases h2
      obtain ⟨bs, s2, _⟩ := (s.mono g1).put (x := .d (.int (f _ _))) (.int (f _ _)) i
      exact ⟨_, _, rfl, rfl, Res.okS q1 k1 q2 _ ⟨bs, s2⟩⟩
    · exact q2.elim
  · exact h.elim

/-! what is walked -/
theorem Gr.re {I0 H0 I H : Hp} (g : Gr Z I0 H0 I H) : Gr Z I H0 I H := ⟨fun _ _ e => e, g.hh, g.th, fun _ _ n => n⟩
theorem Gr.co {I0 H0 I H I' H' : Hp} (g : Gr Z I0 H0 I H) (h : Gr Z I H0 I' H') : Gr Z I0 H0 I' H' := ⟨fun a o e => h.ii a o (g.ii a o e), h.hh, h.th, fun a e n => h.fr a e (g.fr a e n)⟩
structure Walks (Z : Zz) (J : It) (I : Hp) (xs : List Vl) : Prop where
  go : ∀ i H, Grows I H → i < xs.length → J.go i H
  stop : ∀ H, Grows I H → J.stop xs.length H
  yld : ∀ i H v H' x Ic c, Grows I Ic → Ok Z Ic H c → xs[i]? = some x → J.yld i H v H' → ∃ I2, Gr Z Ic H I2 H' ∧ Ok Z I2 H' c ∧ VOk Z I2 v x
abbrev DenI := List Sl → Int → R (List Vl)
def SndI (Z : Zz) (W : XK) (wi : TI) (di : DenI) : Prop := ∀ H0 I H σ δ c, At Z H0 I H σ δ c → ∀ Q : It → Hp → Prop, Res Z W I H (di δ c) (fun xs _ I' H' => ∀ J, Walks Z J I' xs → Q J H') → wi σ H Q
theorem dps_at {K : PySem.W.Frag} {I : Hp} {vs : List V} {xs : List PyData} {i : Nat} {v : V} {x : Vl} (h : DpAll K I vs xs) (e : (xs.map Vl.d)[i]? = some x) (e2 : vs[i]? = some v) : ∃ y, x = .d y ∧ Dp K I v y := by
  obtain ⟨d, h1, h2⟩ := dps_get' h e2
  rw [List.getElem?_map, h1] at e
  cases e
  exact ⟨d, rfl, h2⟩
theorem walks_list {a : Addr} {I : Hp} {vs : List V} {xs : List PyData} (s : SqL Z.K I a vs) (h : DpAll Z.K I vs xs) : Walks Z (Itl Z.K a) I (xs.map Vl.d) := by
  refine ⟨fun i H e hi => ⟨vs, vs[i]'(by rw [dps_len h]; simpa using hi), sqL_grows e s, by simp⟩, fun H e => ⟨vs, sqL_grows e s, by rw [dps_len h]; simp⟩, ?_⟩
  rintro i H v H' x Ic c e k ex ⟨rfl, y⟩
  obtain ⟨d, rfl, h2⟩ := dps_at h ex (y vs (sqL_grows (fun a o z => k.ex a o (e a o z)) s))
  exact ⟨Ic, Gr.refl, k, dp_grows e _ _ h2⟩
theorem walks_tup {a : Addr} {I : Hp} {vs : List V} {xs : List PyData} (s : SqT Z.K I a vs) (h : DpAll Z.K I vs xs) : Walks Z (Itt Z.K a) I (xs.map Vl.d) := by
  refine ⟨fun i H e hi => ⟨vs, vs[i]'(by rw [dps_len h]; simpa using hi), sqT_grows e s, by simp⟩, fun H e => ⟨vs, sqT_grows e s, by rw [dps_len h]; simp⟩, ?_⟩
  rintro i H v H' x Ic c e k ex ⟨rfl, y⟩
  obtain ⟨d, rfl, h2⟩ := dps_at h ex (y vs (sqT_grows (fun a o z => k.ex a o (e a o z)) s))
  exact ⟨Ic, Gr.refl, k, dp_grows e _ _ h2⟩
def rng (lo : Int) (n : Nat) : List Vl := (List.range n).map fun (i : Nat) => Vl.d (.int (lo + (i : Int)))
theorem walks_rng {I : Hp} {lo : Int} {n : Nat} : Walks Z (Itr lo n) I (rng lo n) := by
  refine ⟨fun i H _ hi => (show i < n by simpa [rng] using hi), fun H _ => (show n ≤ _ by simp [rng]), ?_⟩
  rintro i H v H' x Ic c e k ex ⟨rfl, rfl⟩
  have hi : i < n := by
    have z := (List.getElem?_eq_some_iff.mp ex).1
    simpa [rng] using z
  unfold rng at ex
  rw [List.getElem?_map, List.getElem?_range hi] at ex
  cases ex
  exact ⟨Ic, Gr.refl, k, .int _⟩
def dIL (de : Den) : DenI := fun δ c => (de δ c).bind fun x c => match x with
  | .d (.list xs) => .ok (xs.map Vl.d) c
  | _ => .no
theorem snd_iL {te : TE} {de : Den} (h : SndE Z W te de) : SndI Z W (iList Z.K te) (dIL de) := by
  intro H0 I H σ δ c a Q r
  refine h _ _ _ _ _ _ a _ (Res.imp (Res.bind r) fun x c1 I1 H1 g1 k1 h1 v hv => ?_)
  split at h1
  · cases hv with
    | lst s t => exact ⟨_, rfl, ⟨_, sqL_grows k1.ex s⟩, Res.ok k1 h1 _ (walks_list s t)⟩
  · exact h1.elim
def dIT (de : Den) : DenI := fun δ c => (de δ c).bind fun x c => match x with
  | .d (.tuple xs) => .ok (xs.map Vl.d) c
  | _ => .no
theorem snd_iT {te : TE} {de : Den} (h : SndE Z W te de) : SndI Z W (iTup Z.K te) (dIT de) := by
  intro H0 I H σ δ c a Q r
  refine h _ _ _ _ _ _ a _ (Res.imp (Res.bind r) fun x c1 I1 H1 g1 k1 h1 v hv => ?_)
  split at h1
  · cases hv with
    | tup s t => exact ⟨_, rfl, ⟨_, sqT_grows k1.ex s⟩, Res.ok k1 h1 _ (walks_tup s t)⟩
  · exact h1.elim
/- what is asked of a range's ends is never to be reckoned by the unifier -/
@[irreducible] def bR (i : Int) : Bool := decide (-(2 ^ 62) ≤ i ∧ i < 2 ^ 62)
theorem bR_ok {i : Int} (h0 : -(2 ^ 62) ≤ i) (h1 : i < 2 ^ 62) : bR i = true := by
  unfold bR
  exact decide_eq_true ⟨h0, h1⟩
theorem bR_of {i : Int} (h : bR i = true) : -(2 ^ 62) ≤ i ∧ i < 2 ^ 62 := by
  unfold bR at h
  exact of_decide_eq_true h
def dI1 (da : DenA) : DenI := fun δ c => (da δ c).bind fun xs c => match xs with
  | [.d (.int n)] => if bR n = true then .ok (rng 0 n.toNat) c else .no
  | _ => .no
theorem snd_i1 {ta : TA} {da : DenA} (h : SndA Z W ta da) : SndI Z W (iRng1 ta) (dI1 da) := by
  intro H0 I H σ δ c a Q r
  refine h _ _ _ _ _ _ a _ (Res.imp (Res.bind r) fun x c1 I1 H1 g1 k1 h1 v hv => ?_)
  split at h1
  · split at h1
    · rename_i n b
      obtain ⟨b1, b2⟩ := bR_of b
      cases hv with
      | cons q t => cases t; cases q; exact ⟨n, rfl, b1, b2, Res.ok k1 h1 _ walks_rng⟩
    · exact h1.elim
  · exact h1.elim
def dI2 (da : DenA) : DenI := fun δ c => (da δ c).bind fun xs c => match xs with
  | [.d (.int m), .d (.int n)] => if bR m = true ∧ bR n = true then .ok (rng m (n - m).toNat) c else .no
  | _ => .no
theorem snd_i2 {ta : TA} {da : DenA} (h : SndA Z W ta da) : SndI Z W (iRng2 ta) (dI2 da) := by
  intro H0 I H σ δ c a Q r
  refine h _ _ _ _ _ _ a _ (Res.imp (Res.bind r) fun x c1 I1 H1 g1 k1 h1 v hv => ?_)
  split at h1
  · split at h1
    · rename_i m n b
      obtain ⟨b1, b2⟩ := bR_of b.1
      obtain ⟨b3, b4⟩ := bR_of b.2
      cases hv with
      | cons q t => cases t with
        | cons q2 t2 => cases t2; cases q; cases q2; exact ⟨m, n, rfl, ⟨b1, b2, b3, b4⟩, Res.ok k1 h1 _ walks_rng⟩
    · exact h1.elim
  · exact h1.elim

/-! targets -/
theorem wipe_at (σ : L2.St) : ∀ (vs : List Nat) (i : Nat), (wipe σ vs)[i]? = if i ∈ vs then σ[i]?.map (fun _ => none) else σ[i]?
  | [], i => by simp [wipe]
  | v :: vs, i => by
    unfold wipe
    rw [List.getElem?_set, wipe_at σ vs i, wipe_length]
    by_cases e : v = i
    · subst e
      simp only [if_true, List.mem_cons, true_or]
      by_cases h : v < σ.length
      · rw [if_pos h, List.getElem?_eq_getElem h]; rfl
      · rw [if_neg h, List.getElem?_eq_none (by omega)]; rfl
    · rw [if_neg e]
      simp only [List.mem_cons, show (i = v) = False by simp; exact fun h => e h.symm, false_or]
theorem wipe_put (σ : L2.St) {vs : List Nat} {j : Nat} (h : j ∈ vs) (x : Option V) : wipe (σ.set j x) vs = wipe σ vs := by
  apply List.ext_getElem?
  intro i
  rw [wipe_at, wipe_at]
  by_cases e : i ∈ vs
  · rw [if_pos e, if_pos e, List.getElem?_set]
    by_cases z : j = i
    · subst z
      by_cases hl : j < σ.length
      · rw [if_pos rfl, if_pos hl, List.getElem?_eq_getElem hl]; rfl
      · rw [if_pos rfl, if_neg hl, List.getElem?_eq_none (by omega)]
    · rw [if_neg z]
  · rw [if_neg e, if_neg e, List.getElem?_set, if_neg (fun z => e (by rw [← z]; exact h))]
theorem wipe_wipe (σ : L2.St) (vs : List Nat) : wipe (wipe σ vs) vs = wipe σ vs := by
  apply List.ext_getElem?
  intro i
  rw [wipe_at, wipe_at]
  by_cases e : i ∈ vs
  · rw [if_pos e, if_pos e]; cases σ[i]? <;> rfl
  · rw [if_neg e, if_neg e]
def dwipe (δ : List Sl) : List Nat → List Sl
  | [] => δ
  | v :: vs => (dwipe δ vs).set v .no
theorem sls_wipe {H0 I H : Hp} {σ : L2.St} {δ : List Sl} : ∀ (vs : List Nat), (∃ as, Sls Z H0 I H σ δ as) → ∃ as, Sls Z H0 I H (wipe σ vs) (dwipe δ vs) as
  | [], h => h
  | v :: vs, h => by
    obtain ⟨as, s⟩ := sls_wipe vs h
    obtain ⟨bs, s2, _⟩ := s.wipe1 (s := none) v
    exact ⟨bs, s2⟩
abbrev DenG := Vl → List Sl → Option (List Sl)
/-- a target that stores at the places js -/
def SndG (Z : Zz) (js : List Nat) (g : TG) (dg : DenG) : Prop := ∀ H0 I H σ δ δ' v x c, At Z H0 I H σ δ c → VOk Z I v x → dg x δ = some δ' → ∀ Q : L2.St → Hp → Prop,
  (∀ σ', (∃ as, Sls Z H0 I H σ' δ' as) → (∀ vs, (∀ j ∈ js, j ∈ vs) → wipe σ' vs = wipe σ vs) → Q σ' H) → g v σ H Q
def dName (j : Nat) : DenG := fun x δ => some (δ.set j (.im x))
theorem sng_name {j : Nat} : SndG Z [j] (gName j) (dName j) := by
  intro H0 I H σ δ δ' v x c a hv e Q q
  cases e
  obtain ⟨as, s⟩ := a.sl
  obtain ⟨bs, s2, _⟩ := s.put hv j
  exact q _ ⟨bs, s2⟩ fun vs h => wipe_put σ (h j (by simp)) _
abbrev DenGs := List PyData → List Sl → Option (List Sl)
def SndGs (Z : Zz) (js : List Nat) (g : TGs) (dg : DenGs) : Prop := ∀ H0 I H σ δ δ' vs xs c, At Z H0 I H σ δ c → DpAll Z.K I vs xs → dg xs δ = some δ' → ∀ Q : L2.St → Hp → Prop,
  (∀ σ', (∃ as, Sls Z H0 I H σ' δ' as) → (∀ vs, (∀ j ∈ js, j ∈ vs) → wipe σ' vs = wipe σ vs) → Q σ' H) → g vs σ H Q
def dGN : DenGs := fun xs δ => match xs with
  | [] => some δ
  | _ => none
theorem sng_nil : SndGs Z [] gNil dGN := by
  intro H0 I H σ δ δ' vs xs c a hv e Q q
  unfold dGN at e
  split at e
  · cases e; cases hv; exact ⟨rfl, q _ a.sl fun _ _ => rfl⟩
  · cases e
def dGC (dg : DenG) (dr : DenGs) : DenGs := fun xs δ => match xs with
  | x :: xs => (dg (.d x) δ).bind fun δ => dr xs δ
  | [] => none
theorem sng_cons {js ks : List Nat} {g : TG} {gs : TGs} {dg : DenG} {dr : DenGs} (h1 : SndG Z js g dg) (h2 : SndGs Z ks gs dr) : SndGs Z (js ++ ks) (gCons g gs) (dGC dg dr) := by
  intro H0 I H σ δ δ' vs xs c a hv e Q q
  unfold dGC at e
  split at e
  · rename_i x xs
    cases hv with
    | cons hx ht =>
      cases e1 : dg (.d x) δ with
      | none => rw [e1] at e; cases e
      | some δ1 =>
        rw [e1] at e
        refine ⟨_, _, rfl, h1 _ _ _ _ _ _ _ (.d x) c a hx e1 _ fun σ1 s1 w1 => ?_⟩
        refine h2 _ _ _ _ _ _ _ _ c ⟨s1, a.k⟩ ht e _ fun σ2 s2 w2 => q σ2 s2 fun vs hs => ?_
        rw [w2 vs fun j hj => hs j (List.mem_append_right _ hj), w1 vs fun j hj => hs j (List.mem_append_left _ hj)]
  · cases e
def dGT (n : Nat) (dr : DenGs) : DenG := fun x δ => match x with
  | .d (.tuple xs) => if xs.length = n then dr xs δ else none
  | _ => none
theorem sng_tup {n : Nat} {js : List Nat} {gs : TGs} {dr : DenGs} (h : SndGs Z js gs dr) : SndG Z js (gTup Z.K n gs) (dGT n dr) := by
  intro H0 I H σ δ δ' v x c a hv e Q q
  unfold dGT at e
  split at e
  · split at e
    · rename_i hl
      cases hv with
      | tup s t => exact ⟨_, _, rfl, sqT_grows a.k.ex s, by rw [dps_len t]; exact hl, h _ _ _ _ _ _ _ _ c a t e Q q⟩
    · cases e
  · cases e

/-! for -/
def turnO (f : List Sl → Int → R Out) : Out → Int → R Out
  | .nx δ, c => f δ c
  | .ct δ, c => f δ c
  | .bk δ, c => .ok (.nx δ) c
  | .rt v, c => .ok (.rt v) c
def loopD (dg : DenG) (db : DenS) : List Vl → List Sl → Int → R Out
  | [], δ, c => .ok (.nx δ) c
  | x :: xs, δ, c => match dg x δ with
    | none => .no
    | some δ1 => (db δ1 c).bind (turnO (loopD dg db xs))
def dFor (di : DenI) (dg : DenG) (db : DenS) : DenS := fun δ c => (di δ c).bind fun xs c => loopD dg db xs δ c
theorem sns_for {wi : TI} {g : TG} {tb : TS} {di : DenI} {dg : DenG} {db : DenS} {js : List Nat} (hi : SndI Z W wi di) (hg : SndG Z js g dg) (hb : SndS Z W tb db) : SndS Z W (tFor wi g tb) (dFor di dg db) := by
  intro I0 H0 I H σ δ c g0 a D h
  refine hi _ _ _ _ _ _ a _ (Res.imp (Res.bindS g0 h) fun xs c1 I1 H1 g1 k1 q J w => ?_)
  obtain ⟨g2, q⟩ := q
  refine ⟨fun i m σ H => m = xs.length - i ∧ i ≤ xs.length ∧ ∃ Ic δ c, Gr Z I0 H0 Ic H ∧ At Z H0 Ic H σ δ c ∧ Grows I1 Ic ∧ Res Z W I0 H0 (loopD dg db (xs.drop i) δ c) (FinO Z H0 D),
    ⟨xs.length, by simp, Nat.zero_le _, I1, δ, c1, g2, a.go g1 k1, fun _ _ e => e, q⟩, ?_⟩
  rintro i m σ H ⟨rfl, hle, Ic, δ, c, g3, a3, gi, r⟩
  by_cases hlt : i < xs.length
  · refine .inr ⟨w.go i H (fun b o e => a3.k.ex b o (gi b o e)) hlt, fun σ' H' => ∃ Ic δ c, Gr Z I0 H0 Ic H' ∧ At Z H0 Ic H' σ' δ c ∧ Grows I1 Ic ∧ Res Z W I0 H0 (loopD dg db (xs.drop (i + 1)) δ c) (FinO Z H0 D),
      fun σ' H' n => ⟨xs.length - (i + 1), by omega, rfl, hlt, n⟩, fun v H' y => ?_⟩
    obtain ⟨I2, g4, k4, hv⟩ := w.yld i H v H' xs[i] Ic c gi a3.k (by simp) y
    rw [List.drop_eq_getElem_cons hlt] at r
    unfold loopD at r
    split at r
    · exact r.elim
    · rename_i δ1 e1
      refine hg _ _ _ _ _ _ _ _ c (a3.go g4 k4) hv e1 _ fun σ1 s1 _ => ?_
      have g34 := g3.trans g4
      refine hb _ _ _ _ _ _ _ g34.re ⟨s1, k4⟩ _ ?_
      have gi2 : Grows I1 I2 := fun b o e => g4.ii b o (gi b o e)
      cases qb : db δ1 c with
      | no => rw [qb] at r; exact r
      | ex k p c =>
        rw [qb] at r
        exact fun I3 H3 cls d g5 => r I3 H3 cls d (g34.co g5)
      | ok o c2 =>
        rw [qb] at r
        intro I3 H3 g5 k5
        have g6 := g34.co g5
        cases o with
        | nx δ2 => exact fun σ2 s2 => ⟨I3, δ2, c2, g6, ⟨s2, k5⟩, fun b o e => g5.ii b o (gi2 b o e), r⟩
        | ct δ2 => exact fun σ2 s2 => ⟨I3, δ2, c2, g6, ⟨s2, k5⟩, fun b o e => g5.ii b o (gi2 b o e), r⟩
        | bk δ2 => exact fun σ2 s2 => Res.okS (W := W) g6 k5 r σ2 s2
        | rt x => exact fun v hv => Res.okS (W := W) g6 k5 r v hv
  · have e : i = xs.length := by omega
    subst e
    refine .inl ⟨w.stop H fun b o e => a3.k.ex b o (gi b o e), ?_⟩
    rw [List.drop_length] at r
    exact Res.okS g3 a3.k r _ a3.sl
end
end Dn
namespace Dn
open PySem PySem.Spec PyProof.Rows L2
abbrev aAdd := gI (fun _ _ => true) fun i j => .int (i + j)
abbrev aSub := gI (fun _ _ => true) fun i j => .int (i - j)
abbrev aMul := gI bMul fun i j => .int (i * j)
abbrev aDiv := gI bDiv fun i j => .int (i / j)
abbrev aMod := gI (fun _ j => decide (0 < j)) fun i j => .int (i % j)
abbrev aPow := gI (fun i j => decide (0 ≤ j ∧ j ≤ 1000 ∧ i.natAbs < 1000)) fun i j => .int (i ^ j.toNat)
abbrev aLt := gI (fun _ _ => true) fun i j => .bool (decide (i < j))
abbrev aLe := gI (fun _ _ => true) fun i j => .bool (decide (i ≤ j))
abbrev aGt := gI (fun _ _ => true) fun i j => .bool (decide (j < i))
abbrev aGe := gI (fun _ _ => true) fun i j => .bool (decide (j ≤ i))
def dL (de : DenL) : Den := fun δ c => (de δ c).map fun xs => .d (.list xs)
section
variable {Z : Zz} {W : XK}
/-! a def's promise -/
def spD (n : Nat) (K : PySem.W.Frag) (cl : Str → Option Value) (df : List Int → List Vl → Int → R Vl) : Sp := fun vs H Q E => vs.length = n ∧ ∃ Z I xs c, Z.K = K ∧ Z.cl = cl ∧ Ok Z I H c ∧ VOks Z I vs xs ∧
  Res Z E I H (df Z.ns xs c) (fun z _ I' H' => ∀ v, VOk Z I' v z → Q v H')
def dCall (n : Nat) (df : List Vl → Int → R Vl) (da : DenA) : Den := fun δ c => (da δ c).bind fun xs c => if xs.length = n then df xs c else .no
theorem snd_call {n : Nat} {df : List Int → List Vl → Int → R Vl} {ta : TA} {da : DenA} (ha : SndA Z W ta da) : SndE Z W (fun σ H Q => ta σ H fun xs H1 => spD n Z.K Z.cl df xs H1 Q W) (dCall n (df Z.ns) da) := by
  intro H0 I H σ δ c a Q h
  refine ha _ _ _ _ _ _ a _ (Res.imp (Res.bind h) fun xs c1 I1 H1 g1 k1 h1 vs hv => ?_)
  split at h1
  · rename_i e
    exact ⟨(voks_len hv).trans e, Z, I1, xs, c1, rfl, rfl, k1, hv, h1⟩
  · exact h1.elim
/-- of a def that raises nothing -/
def dCall0 (n : Nat) (df : List Vl → Int → R Vl) (da : DenA) : Den := fun δ c => (da δ c).bind fun xs c => if xs.length = n then (df xs c).calm else .no
theorem snd_call0 {n : Nat} {df : List Int → List Vl → Int → R Vl} {ta : TA} {da : DenA} (ha : SndA Z W ta da) : SndE Z W (fun σ H Q => ta σ H fun xs H1 => spD n Z.K Z.cl df xs H1 Q E0) (dCall0 n (df Z.ns) da) := by
  intro H0 I H σ δ c a Q h
  refine ha _ _ _ _ _ _ a _ (Res.imp (Res.bind h) fun xs c1 I1 H1 g1 k1 h1 vs hv => ?_)
  split at h1
  · rename_i e
    exact ⟨(voks_len hv).trans e, Z, I1, xs, c1, rfl, rfl, k1, hv, h1.calm⟩
  · exact h1.elim
def finO : Out → Int → R Vl
  | .rt x, c => .ok x c
  | .nx _, c => .ok (.d .none) c
  | _, _ => .no
def finD (r : R Out) : R Vl := r.bind finO
def args (xs : List Vl) (m : Nat) : List Sl := xs.map Sl.im ++ List.replicate m Sl.no
theorem sls_start {Z : Zz} {H0 I H : Hp} {m : Nat} : ∀ {vs : List V} {xs : List Vl}, VOks Z I vs xs → Sls Z H0 I H (vs.map some ++ List.replicate m none) (args xs m) []
  | _, _, .nil => by
    have : ∀ m : Nat, Sls Z H0 I H (List.replicate m none) (List.replicate m Sl.no) [] := fun m => by
      induction m with
      | zero => exact .nil
      | succ m ih => rw [List.replicate_succ, List.replicate_succ]; exact .no ih
    exact this m
  | _, _, .cons h t => .im h (sls_start t)
def dDef (m : Nat) (ds : DenS) (xs : List Vl) (c : Int) : R Vl := finD (ds (args xs m) c)
section
variable {P : Program} {w : World} {K : PySem.W.Frag} {mg : Str → Option Value} {base : Heap} {CX : CXT} {k : Nat}
theorem fnD {x qual : Str} {st : Stmt} {f : Addr} {fd : FuncData} {N ps : List Str} {cl : Str → Option Value} (n m : Nat) (ds : List Int → DenS) (F : Fun K x qual st f fd) (S : FnScope N ps (defScope st)) (hn : ps.length = n) (hm : N.length = n + m)
    (bd : ∀ (cdv : Value) (A : Around) (outer : List Env) (s : Shared) (H : Hp) (E : XK), (A.deeper (envOfC qual (defScope st) s.heap.objs.size f cdv)).guards = some [] →
      Room k (A.deeper (envOfC qual (defScope st) s.heap.objs.size f cdv)) →
      ∃ t, PSs (cxOf CX P w K mg base N qual (defScope st) f cdv A outer s H E) (defBody st) t ∧ ∀ Z : Zz, Z.K = K → Z.cl = cl → SndS Z E t (ds Z.ns)) :
    FnG P w K mg base CX (k + 1) f fd ps (spD n K cl fun ns => dDef m (ds ns)) := by
  refine FnG.body F S (fun xs H Q E h => h.1.trans hn.symm) fun cdv A outer s H vs Q E g r h => ?_
  obtain ⟨t, isT, snd⟩ := bd cdv A outer s H E g r
  obtain ⟨hl, Z, I, xs, c, rfl, rfl, ok, hv, h⟩ := h
  refine ⟨t, isT, ?_⟩
  have e : start N vs = vs.map some ++ List.replicate m none := by unfold L2.start; rw [hm, hl, Nat.add_sub_cancel_left]
  rw [e]
  refine snd Z rfl rfl I H I H _ _ c Gr.refl ⟨⟨_, sls_start hv⟩, ok⟩ _ ?_
  have h : Res Z E I H ((ds Z.ns (args xs m) c).bind finO) _ := h
  cases q : ds Z.ns (args xs m) c with
  | no => rw [q] at h; exact h
  | ex k p c => rw [q] at h; exact h
  | ok o c1 =>
    rw [q] at h
    intro I1 H1 g1 k1
    cases o with
    | nx δ => exact fun _ _ => h I1 H1 g1 k1 .non .non
    | rt x => exact fun v hv => h I1 H1 g1 k1 v hv
    | bk δ => exact h.elim
    | ct δ => exact h.elim
end

/-! the state's list -/
def dSt1 (i : Nat) : Den := fun δ c => match δ[i]? with
  | some (.im .st) => .ok (.d (.int c)) c
  | _ => .no
def dSt0 (ns : List Int) (i : Nat) : Den := fun δ c => match δ[i]? with
  | some (.im .st) => .ok (.d (.list (ns.map .int))) c
  | _ => .no
theorem snd_st1 {i : Nat} : SndE Z W (tOp (rIx Z.K) (tVar i) (tC (.int 1))) (dSt1 i) := by
  intro H0 I H σ δ c a Q h
  unfold dSt1 at h
  split at h
  · rename_i e
    obtain ⟨as, s⟩ := a.sl
    obtain ⟨v, h1, b, h2, rfl⟩ := s.get e
    obtain ⟨n, p, e1, e2⟩ := a.k.st b h2
    exact ⟨_, h1, .inl ⟨b, _, 1, .int c, rfl, rfl, .inl (.inl e1), rfl, Res.ok a.k h _ (.int _)⟩⟩
  · exact h.elim
theorem snd_st0 {i : Nat} : SndE Z W (tOp (rIx Z.K) (tVar i) (tC (.int 0))) (dSt0 Z.ns i) := by
  intro H0 I H σ δ c a Q h
  unfold dSt0 at h
  split at h
  · rename_i e
    obtain ⟨as, s⟩ := a.sl
    obtain ⟨v, h1, b, h2, rfl⟩ := s.get e
    obtain ⟨n, p, e1, e2⟩ := a.k.st b h2
    exact ⟨_, h1, .inl ⟨b, _, 0, .ref p, rfl, rfl, .inl (.inl e1), rfl, Res.ok a.k h _ (.lst e2.2 (dps_ints _))⟩⟩
  · exact h.elim
/-- state[1] = e -/
def dStSet (i : Nat) (de : Den) : DenS := fun δ c => match δ[i]? with
  | some (.im .st) => (de δ c).bind fun y _ => match y with
    | .d (.int n) => .ok (.nx δ) n
    | _ => .no
  | _ => .no
theorem sns_stSet {i : Nat} {te : TE} {de : Den} (he : SndE Z W te de) : SndS Z W (tAsg te (gSub (tVar i) (tC (.int 1)) rSetL)) (dStSet i de) := by
  intro I0 H0 I H σ δ c g a D h
  unfold dStSet at h
  split at h
  · rename_i e
    refine he _ _ _ _ _ _ a _ (Res.imp (Res.bindS g h) fun y c1 I1 H1 g1 k1 q v hv => ?_)
    obtain ⟨q1, q2⟩ := q
    obtain ⟨as, s⟩ := (a.go g1 k1).sl
    split at q2
    · rename_i n
      cases hv
      obtain ⟨u, h1, b, h2, rfl⟩ := s.get e
      obtain ⟨n1, p, e1, e2⟩ := k1.st b h2
      refine ⟨_, h1, b, _, 1, 1, rfl, rfl, e1, rfl, ?_⟩
      have ne : ∀ {d : Addr}, Z.sa ≠ some d → d ≠ b := fun h z => h (by rw [z]; exact h2)
      have nI : ∀ {d : Addr} {o : HO}, I1 d = some o → d ≠ b := fun h z => by rw [z, n1] at h; cases h
      refine Res.okS (I := I1) ⟨q1.ii, fun d o m e => by rw [upd_ne (ne m)]; exact q1.hh d o m e, fun d e => ?_, q1.fr⟩ ⟨fun d o e => by rw [upd_ne (nI e)]; exact k1.ex d o e, fun d e => ?_⟩ q2 _ ?_
      · by_cases z : d = b
        · subst z; rw [upd_same]; exact Option.some_ne_none _
        · rw [upd_ne z]; exact q1.th d e
      · have z : d = b := by rw [h2] at e; cases e; rfl
        subst z
        exact ⟨n1, p, upd_same, e2⟩
      · refine ⟨as, s.apart fun m => ?_⟩
        obtain ⟨_, _, _, _, z⟩ := s.at m
        exact z h2
    · exact q2.elim
  · exact h.elim
/-! repr -/
mutual
theorem dp_noDict {K : PySem.W.Frag} {H : Hp} : ∀ (d : PyData) (v : V), Dp K H v d → d.hasDict = false
  | .none, _, _ => by simp only [PyData.hasDict]
  | .bool _, _, _ => by simp only [PyData.hasDict]
  | .int _, _, _ => by simp only [PyData.hasDict]
  | .str _, _, _ => by simp only [PyData.hasDict]
  | .list ds, _, h => by cases h with | lst a b => simp only [PyData.hasDict]; exact dps_noDict ds _ b
  | .tuple ds, _, h => by cases h with | tup a b => simp only [PyData.hasDict]; exact dps_noDict ds _ b
  | .dict _, _, h => by cases h
theorem dps_noDict {K : PySem.W.Frag} {H : Hp} : ∀ (ds : List PyData) (vs : List V), DpAll K H vs ds → PyData.hasDictAll ds = false
  | [], _, _ => by simp only [PyData.hasDictAll]
  | d :: ds, _, h => by cases h with | cons a b => simp only [PyData.hasDictAll, dp_noDict d _ a, dps_noDict ds _ b, Bool.or_self]
end
def rRepr (K : PySem.W.Frag) : List V → Hp → VK → Prop := fun vs H Q => ∃ a d, vs = [.ref a] ∧ Dp K H (.ref a) d ∧ d.showable = true ∧ d.depth ≤ 60 ∧ d.shown.length ≤ sizeLine ∧ Q (.str d.shown) H
theorem call_reprD {X : Cx} (hg : X.A.guards = some []) (hu : X.A.units + 70 < cLine) : CallR X (.builtin "repr") (rRepr X.K) := by
  intro pins s σ H xs us Q I r h
  obtain ⟨a, d, rfl, hd, hs, hp, hz, q⟩ := h
  cases r with
  | cons rv t =>
    cases t
    obtain ⟨as, rd⟩ := Dp.reads I d _ _ hd rv
    cases rv
    exact repr_of_reads' rd hs (PyData.noDict_hsm (dp_noDict d _ hd)) hg (by omega) (fun _ _ e => e) (fun h' u tk hk => ⟨.str _, H, I.kept (t' := tk) hk, ⟨u, rfl⟩, q⟩) hz
theorem guard_room {k : Nat} {A : Around} (r : Room k A) : A.units + 70 < cLine := by have := r.un; omega
def gRepr : List Vl → Int → R Vl
  | [.d (.list xs)], c => if PyData.showable (.list xs) = true ∧ PyData.depth (.list xs) ≤ 60 ∧ (PyData.shown (.list xs)).length ≤ 16777216 then .ok (.d (.str (PyData.shown (.list xs)))) c else .no
  | _, _ => .no
theorem rc_repr : SndC Z W (rRepr Z.K) gRepr := by
  intro I H xs vs c k hv Q h
  unfold gRepr at h
  split at h
  · split at h
    · rename_i xs e
      cases hv with
      | cons a b =>
        cases b
        have a2 := dp_grows k.ex _ _ a
        cases a with
        | lst s t => exact ⟨_, _, rfl, a2, e.1, e.2.1, by rw [sizeLine_eq]; exact e.2.2, Res.ok k h _ (.str _)⟩
    · exact h.elim
  · exact h.elim
def gEqS : Vl → Vl → Int → R Vl
  | .d (.str a), .d (.str b), c => .ok (.d (.bool (decide (a = b)))) c
  | _, _, _ => .no
theorem rr_eqS : SndR Z W rEq gEqS := by
  intro I H x y vx vy c k hx hy Q h
  unfold gEqS at h
  split at h
  · cases hx; cases hy
    rename_i a b
    refine ⟨rfl, ?_⟩
    have e : decide (V.str a = V.str b) = decide (a = b) := by
      by_cases z : a = b
      · subst z; simp
      · rw [decide_eq_false z, decide_eq_false (fun q => z (V.str.inj q))]
    rw [e]
    exact Res.ok k h _ (.bl _)
  · exact h.elim
/-! the law: its state, then the rest -/
theorem law_run {a0 : Addr} {K : PySem.W.Frag} {cl : Str → Option Value} {ts : TE} {tr : TS} {ds : Den} {dr : List Int → DenS} {E : XK} {N : List Str} {m : Nat} (hN : N.length = m + 2) (hs : SndE ⟨K, none, [], cl, a0⟩ E ts ds) (hr : ∀ l ns p, SndS ⟨K, some l, ns, cl, p⟩ E tr (dr ns))
    {a : Addr} {H : Hp} {nums ns : List Int} {c1 c2 : Int} (hS : SqL K H a (nums.map V.int)) (e1 : ds (args [.d (.list (nums.map .int))] (m + 1)) 0 = .ok (.d (.list (ns.map .int))) c1)
    (e2 : dr ns (args [.d (.list (nums.map .int)), .st] m) 0 = .ok (.rt (.d (.bool true))) c2) (Q : VK) (q : ∀ H', Q (.bl true) H') :
    tSeq (tAsg (tLst (tCons ts (tCons (tC (.int 0)) tNil))) (gName 1)) tr { nx := fun _ H' => Q .non H', rt := Q } (start N [.ref a]) H := by
  have k0 : Ok ⟨K, none, [], cl, a0⟩ H H 0 := ⟨fun _ _ e => e, fun _ e => by cases e⟩
  have v0 : ∀ {Z : Zz}, Z.K = K → VOk Z H (.ref a) (.d (.list (nums.map .int))) := fun {Z} e => by cases e; exact .lst hS (dps_ints _)
  have st0 : start N [.ref a] = [V.ref a].map some ++ List.replicate (m + 1) none := by unfold L2.start; rw [hN]; rfl
  rw [st0]
  refine hs H H H _ _ 0 ⟨⟨_, sls_start (.cons (v0 rfl) .nil)⟩, k0⟩ _ ?_
  rw [e1]
  intro I1 H1 g1 k1 v hv
  cases hv with
  | lst s t =>
    have e := dps_ints' ns t
    subst e
    rename_i p0
    refine ⟨by show 2 ≤ sizeLine; decide, fun l hl => ?_⟩
    have hi := freshI k1 hl
    show tr { nx := fun _ H' => Q .non H', rt := Q } _ _
    refine hr l ns p0 I1 (upd H1 l (.lst [.ref _, .int 0])) I1 (upd H1 l (.lst [.ref _, .int 0])) _ (args [.d (.list (nums.map .int)), .st] m) 0 Gr.refl ⟨⟨[], ?_⟩, ⟨fun b o e => ?_, fun b e => ?_⟩⟩ _ ?_
    · exact sls_start (m := m) (vs := [.ref a, .ref l]) (.cons (vok_grows g1.ii (v0 rfl)) (.cons ⟨l, rfl, rfl⟩ .nil))
    · rw [upd_ne (fun z => by rw [z, hi] at e; cases e)]; exact k1.ex b o e
    · cases e; exact ⟨hi, _, upd_same, rfl, s⟩
    · rw [e2]; exact fun I2 H2 _ _ v hv => by cases hv; exact q H2
end
end Dn
namespace Dn
open PySem PySem.Spec PyProof.Rows L2
def dAndV (da db : Den) : Den := fun δ c => (dTe da δ c).bind fun b c => if b = true then db δ c else .ok (.d (.bool false)) c
def dOrV (da db : Den) : Den := fun δ c => (dTe da δ c).bind fun b c => if b = true then .ok (.d (.bool true)) c else db δ c
def dNotV (da : Den) : Den := fun δ c => (dTe da δ c).bind fun b c => .ok (.d (.bool (!b))) c
def aCatT : Vl → Vl → Int → R Vl
  | .d (.tuple xs), .d (.tuple ys), c => if xs.length + ys.length ≤ 16777216 then .ok (.d (.tuple (xs ++ ys))) c else .no
  | _, _, _ => .no
def dYes : DenT := fun _ c => .ok true c
section
variable {Z : Zz} {W : XK}
theorem dps_nil {K : PySem.W.Frag} {I : Hp} {vs : List V} {xs : List PyData} (h : DpAll K I vs xs) : vs = [] ↔ xs = [] := by cases h <;> simp
theorem rr_catT : SndR Z W (rCatA Z.K) aCatT := by
  intro I H x y vx vy c k hx hy Q h
  unfold aCatT at h
  split at h
  · split at h
    · rename_i xs ys hl
      cases hx with
      | tup s t => cases hy with
        | tup s2 t2 =>
          refine ⟨_, _, _, _, rfl, rfl, sqT_grows k.ex s, sqT_grows k.ex s2, by rw [dps_len t, dps_len t2, sizeLine_eq]; exact hl, fun e => ?_, fun _ e => ?_, fun _ _ => newT k (dps_app t t2) h⟩
          · have := (dps_nil t).mp e
            subst this
            exact Res.ok k h _ (.tup s2 t2)
          · have := (dps_nil t2).mp e
            subst this
            rw [List.append_nil] at h
            exact Res.ok k h _ (.tup s t)
    · exact h.elim
  · exact h.elim
theorem snd_slT {ta : TE} {tl th : TO} {da : Den} {dl dh : DenO} (ha : SndE Z W ta da) (hl : SndO Z W tl dl) (hh : SndO Z W th dh) : SndE Z W (tSl (rSlA Z.K) ta tl th) (dSlT da dl dh) := by
  intro H0 I H σ δ c a Q h
  refine ha _ _ _ _ _ _ a _ (Res.imp (Res.bind h) fun x c1 I1 H1 g1 k1 h1 v hv => ?_)
  refine hl _ _ _ _ _ _ (a.go g1 k1) _ (Res.imp (Res.bind h1) fun lo c2 I2 H2 g2 k2 h2 => ?_)
  refine hh _ _ _ _ _ _ ((a.go g1 k1).go g2 k2) _ (Res.imp (Res.bind h2) fun hi c3 I3 H3 g3 k3 h3 => ?_)
  split at h3
  · rename_i xs
    cases hv with
    | tup s t =>
      have gi : Grows I1 I3 := fun a o e => g3.ii a o (g2.ii a o e)
      have t3 := dps_grows gi _ _ t
      refine ⟨_, _, rfl, sqT_grows (fun a o e => k3.ex a o (gi a o e)) s, fun e => ?_, fun _ => newT k3 (dps_cut t3 lo hi) h3⟩
      rw [dps_len t] at e
      have z : cutD xs lo hi = xs := by
        unfold cutD
        rw [e.1, e.2]
        simp
      rw [z] at h3
      exact Res.ok k3 h3 _ (.tup (sqT_grows gi s) t3)
  · exact h3.elim
def dCatL (da db : DenL) : DenL := fun δ c => (da δ c).bind fun xs c => (db δ c).bind fun ys c => if xs.length + ys.length ≤ 16777216 then .ok (xs ++ ys) c else .no
theorem snd_catL {ta tb : TE} {da db : DenL} (ha : SndL Z W ta da) (hb : SndL Z W tb db) : SndL Z W (tOp rCat ta tb) (dCatL da db) := by
  intro H0 I H σ δ c a Q h
  refine ha _ _ _ _ _ _ a _ (Res.imp (Res.bind h) fun xs c1 I1 H1 g1 k1 h1 l vs f0 f1 f2 f3 f4 => ?_)
  refine hb _ _ _ _ _ _ (a.go g1 k1) _ (Res.imp (Res.bind h1) fun ys c2 I2 H2 g2 k2 h2 m ws e0 e1 e2 e3 e4 => ?_)
  split at h2
  · rename_i hl
    have h4 := dps_grows g2.ii _ _ f4
    refine ⟨l, m, vs, ws, rfl, rfl, g2.hh _ _ f3 f2, e2, by rw [dps_len f4, dps_len e4, sizeLine_eq]; exact hl, newL k2 (dps_app h4 e4) (Res.imp h2 fun zs c3 I3 H3 g3 k3 q l ws f0 => q l ws (freshB (g1.trans g2) f0))⟩
  · exact h2.elim
def boolsOf : List PyData → Option (List Bool)
  | [] => some []
  | .bool b :: xs => (boolsOf xs).map (b :: ·)
  | _ => none
theorem boolsOf_eq : ∀ {xs : List PyData} {bs : List Bool}, boolsOf xs = some bs → xs = bs.map .bool
  | [], bs, e => by cases e; rfl
  | .bool b :: xs, bs, e => by
    unfold boolsOf at e
    cases q : boolsOf xs with
    | none => rw [q] at e; cases e
    | some cs => rw [q] at e; cases e; rw [boolsOf_eq q]; rfl
  | .none :: _, _, e => by cases e
  | .int _ :: _, _, e => by cases e
  | .str _ :: _, _, e => by cases e
  | .list _ :: _, _, e => by cases e
  | .tuple _ :: _, _, e => by cases e
  | .dict _ :: _, _, e => by cases e
def intsOf : List PyData → Option (List Int)
  | [] => some []
  | .int b :: xs => (intsOf xs).map (b :: ·)
  | _ => none
theorem intsOf_eq : ∀ {xs : List PyData} {bs : List Int}, intsOf xs = some bs → xs = bs.map .int
  | [], bs, e => by cases e; rfl
  | .int b :: xs, bs, e => by
    unfold intsOf at e
    cases q : intsOf xs with
    | none => rw [q] at e; cases e
    | some cs => rw [q] at e; cases e; rw [intsOf_eq q]; rfl
  | .none :: _, _, e => by cases e
  | .bool _ :: _, _, e => by cases e
  | .str _ :: _, _, e => by cases e
  | .list _ :: _, _, e => by cases e
  | .tuple _ :: _, _, e => by cases e
  | .dict _ :: _, _, e => by cases e
def gAll : List Vl → Int → R Vl
  | [.d (.list xs)], c => match boolsOf xs with
    | some bs => .ok (.d (.bool (bs.all id))) c
    | none => .no
  | _, _ => .no
def gAny : List Vl → Int → R Vl
  | [.d (.list xs)], c => match boolsOf xs with
    | some bs => .ok (.d (.bool (bs.any id))) c
    | none => .no
  | _, _ => .no
def gSum : List Vl → Int → R Vl
  | [.d (.list xs)], c => match intsOf xs with
    | some ns => .ok (.d (.int ns.sum)) c
    | none => .no
  | _, _ => .no
theorem rc_all : SndC Z W (L2.rAll Z.K) gAll := by
  intro I H xs vs c k hv Q h
  unfold gAll at h
  split at h
  · split at h
    · rename_i bs e
      cases hv with
      | cons a b => cases b; cases a with
        | lst s t =>
          rw [boolsOf_eq e] at t
          have := dps_bools' bs t
          subst this
          exact ⟨_, bs, rfl, sqL_grows k.ex s, Res.ok k h _ (.bl _)⟩
    · exact h.elim
  · exact h.elim
theorem rc_any : SndC Z W (L2.rAny Z.K) gAny := by
  intro I H xs vs c k hv Q h
  unfold gAny at h
  split at h
  · split at h
    · rename_i bs e
      cases hv with
      | cons a b => cases b; cases a with
        | lst s t =>
          rw [boolsOf_eq e] at t
          have := dps_bools' bs t
          subst this
          exact ⟨_, bs, rfl, sqL_grows k.ex s, Res.ok k h _ (.bl _)⟩
    · exact h.elim
  · exact h.elim
theorem rc_sum : SndC Z W (L2.rSum Z.K) gSum := by
  intro I H xs vs c k hv Q h
  unfold gSum at h
  split at h
  · split at h
    · rename_i bs e
      cases hv with
      | cons a b => cases b; cases a with
        | lst s t =>
          rw [intsOf_eq e] at t
          have := dps_ints' bs t
          subst this
          exact ⟨_, bs, rfl, sqL_grows k.ex s, Res.ok k h _ (.int _)⟩
    · exact h.elim
  · exact h.elim
theorem snd_yes : SndT Z W tYes dYes := fun _ _ _ _ _ _ a _ h => Res.ok a.k h
/-! list comprehensions -/
def keepD (dt : DenT) (de : Den) (rest : Int → R (List PyData)) (δ : List Sl) (c : Int) : R (List PyData) := (dt δ c).calm.bind fun b c => if b = true then (de δ c).calm.bind fun y c => match y with
  | .d y => (rest c).bind fun ys c => .ok (y :: ys) c
  | _ => .no else rest c
def compD (dg : DenG) (dt : DenT) (de : Den) (δ : List Sl) : List Vl → Int → R (List PyData)
  | [], c => .ok [] c
  | x :: xs, c => match dg x δ with
    | none => .no
    | some δ1 => keepD dt de (compD dg dt de δ xs) δ1 c
def dLc (vs : List Nat) (di : DenI) (dg : DenG) (dt : DenT) (de : Den) : DenL := fun δ c => (di δ c).bind fun xs c => if xs.length ≤ 16777216 then compD dg dt de (dwipe δ vs) xs c else .no
theorem snd_lc {wi : TI} {g : TG} {tt : TT} {te : TE} {di : DenI} {dg : DenG} {dt : DenT} {de : Den} {js vs : List Nat} (hj : ∀ j ∈ js, j ∈ vs) (hi : SndI Z W wi di) (hg : SndG Z js g dg) (ht : SndT Z E0 tt dt) (he : SndE Z E0 te de) :
    SndL Z W (tLc wi g tt te vs) (dLc vs di dg dt de) := by
  intro H0 I H σ δ c a Q h
  refine hi _ _ _ _ _ _ a _ (Res.imp (Res.bind h) fun xs c1 I1 H1 g1 k1 h1 J w => ?_)
  split at h1
  · rename_i hlen
    intro D hD
    obtain ⟨gD, kD⟩ := Gr.own (o := .lst []) k1 hD
    have sD := freshS k1 hD
    refine ⟨fun i m Hc => m = xs.length - i ∧ i ≤ xs.length ∧ ∃ Ic c acc ds, Gr Z I1 H1 Ic Hc ∧ Ok Z Ic Hc c ∧ Hc D = some (.lst acc) ∧ Ic D = none ∧ DpAll Z.K Ic acc ds ∧ ds.length ≤ i ∧
      Res Z W I1 H1 ((compD dg dt de (dwipe δ vs) (xs.drop i) c).map (ds ++ ·)) (fun xs _ I' H' => ∀ l vs, H l = none → I' l = none → H' l = some (.lst vs) → Z.sa ≠ some l → DpAll Z.K I' vs xs → Q (.ref l) H'),
      ⟨xs.length, by simp, Nat.zero_le _, I1, c1, [], [], gD, kD, upd_same, freshI k1 hD, .nil, Nat.le_refl _, ?_⟩, ?_⟩
    · have e : (compD dg dt de (dwipe δ vs) (xs.drop 0) c1).map (([] : List PyData) ++ ·) = compD dg dt de (dwipe δ vs) xs c1 := by
        rw [List.drop_zero]; cases compD dg dt de (dwipe δ vs) xs c1 <;> rfl
      rw [e]
      exact h1
    · rintro i m Hc ⟨rfl, hle, Ic, c, acc, ds, g2, k2, hD2, nD, hd, hn, r⟩
      have back : Grows Ic Hc := k2.ex
      by_cases hlt : i < xs.length
      · refine .inr ⟨w.go i Hc (fun b o e => back b o (g2.ii b o e)) hlt, fun Hn => ∃ Ic c acc ds, Gr Z I1 H1 Ic Hn ∧ Ok Z Ic Hn c ∧ Hn D = some (.lst acc) ∧ Ic D = none ∧ DpAll Z.K Ic acc ds ∧ ds.length ≤ i + 1 ∧
          Res Z W I1 H1 ((compD dg dt de (dwipe δ vs) (xs.drop (i + 1)) c).map (ds ++ ·)) (fun xs _ I' H' => ∀ l vs, H l = none → I' l = none → H' l = some (.lst vs) → Z.sa ≠ some l → DpAll Z.K I' vs xs → Q (.ref l) H'),
          fun Hn n => ⟨xs.length - (i + 1), by omega, rfl, hlt, n⟩, fun v Hy y => ?_⟩
        obtain ⟨I2, g3, k3, hv⟩ := w.yld i Hc v Hy xs[i] Ic c g2.ii k2 (by simp) y
        rw [List.drop_eq_getElem_cons hlt] at r
        unfold compD at r
        have stay : ∀ {Ia Ha : Hp}, Gr Z Ic Hc Ia Ha → Ha D = some (.lst acc) ∧ Ia D = none := fun g => ⟨g.hh D _ sD hD2, g.fr D (by rw [hD2]; exact Option.some_ne_none _) nD⟩
        have a2 : At Z H0 I2 Hy (wipe σ vs) (dwipe δ vs) c := ⟨sls_wipe vs (a.sl.imp fun _ s => s.mono (g1.trans (g2.trans g3))), k3⟩
        split at r
        · exact r.elim
        · rename_i δ1 e1
          refine hg _ _ _ _ _ _ _ _ c a2 hv e1 _ fun σ1 s1 w1 => ⟨by rw [w1 vs hj, wipe_wipe], ?_⟩
          unfold keepD at r
          refine ht _ _ _ _ _ _ ⟨s1, k3⟩ _ ?_
          cases q1 : dt δ1 c with
          | no => rw [q1] at r; exact r.elim
          | ex k p c => rw [q1] at r; exact r.elim
          | ok b c2 =>
            rw [q1] at r
            intro I3 H3 g4 k4
            cases b with
            | false => exact iteF ⟨I3, c2, acc, ds, g2.trans (g3.trans g4), k4, (stay (g3.trans g4)).1, (stay (g3.trans g4)).2, dps_grows (fun b o e => g4.ii b o (g3.ii b o e)) _ _ hd, by omega, r⟩
            | true =>
              refine iteT ?_
              refine he _ _ _ _ _ _ ⟨s1.imp fun _ s => s.mono g4, k4⟩ _ ?_
              have r : Res Z W I1 H1 (((de δ1 c2).calm.bind fun y c => match y with
                | .d y => (compD dg dt de (dwipe δ vs) (xs.drop (i + 1)) c).bind fun ys c => .ok (y :: ys) c
                | _ => .no).map (ds ++ ·)) _ := r
              cases q2 : de δ1 c2 with
              | no => rw [q2] at r; exact r.elim
              | ex k p c => rw [q2] at r; exact r.elim
              | ok y c3 =>
                rw [q2] at r
                intro I4 H4 g5 k5 v2 hv2
                cases y with
                | st => exact r.elim
                | op u => exact r.elim
                | dk u => exact r.elim
                | d y =>
                  have gg := g3.trans (g4.trans g5)
                  obtain ⟨z1, z2⟩ := stay gg
                  have hd2 := dps_grows gg.ii _ _ hd
                  refine ⟨acc, z1, ?_, ?_⟩
                  · rw [dps_len hd, sizeLine_eq]; omega
                  · have nI : ∀ {d : Addr} {o : HO}, I4 d = some o → d ≠ D := fun h z => by rw [z, z2] at h; cases h
                    refine ⟨I4, c3, acc ++ [v2], ds ++ [y], ?_, ?_, upd_same, z2, dps_app hd2 (.cons hv2 .nil), by simp; omega, ?_⟩
                    · have g6 := g2.trans gg
                      refine ⟨g6.ii, fun d o n e => ?_, fun d e => ?_, g6.fr⟩
                      · rw [upd_ne (fun z => by rw [z, hD] at e; cases e)]; exact g6.hh d o n e
                      · rw [upd_ne (fun z => e (by rw [z]; exact hD))]; exact g6.th d e
                    · refine ⟨fun d o e => by rw [upd_ne (nI e)]; exact k5.ex d o e, fun d e => ?_⟩
                      obtain ⟨n1, p, e2, e3⟩ := k5.st d e
                      exact ⟨n1, p, by rw [upd_ne (fun z => sD (by rw [← z]; exact e))]; exact e2, e3⟩
                    · have e4 : ((compD dg dt de (dwipe δ vs) (xs.drop (i + 1)) c3).bind fun ys c => R.ok (y :: ys) c).map (ds ++ ·) = (compD dg dt de (dwipe δ vs) (xs.drop (i + 1)) c3).map ((ds ++ [y]) ++ ·) := by
                        cases compD dg dt de (dwipe δ vs) (xs.drop (i + 1)) c3 with
                        | no => rfl
                        | ex k p c => rfl
                        | ok ys c => show R.ok (ds ++ y :: ys) c = R.ok (ds ++ [y] ++ ys) c; rw [List.append_assoc]; rfl
                      rw [← e4]
                      exact r
      · have e : i = xs.length := by omega
        subst e
        refine .inl ⟨w.stop Hc fun b o e => back b o (g2.ii b o e), ?_⟩
        rw [List.drop_length] at r
        have r : Res Z W I1 H1 (R.ok (ds ++ []) c) _ := r
        rw [List.append_nil] at r
        exact r Ic Hc g2 k2 D acc (freshB g1 hD) nD hD2 sD hd
  · exact h1.elim
/-! more statements -/
def dUnp (de : Den) (dg : DenG) : DenS := fun δ c => (de δ c).bind fun x c => match dg x δ with
  | some δ1 => .ok (.nx δ1) c
  | none => .no
theorem sns_unp {te : TE} {de : Den} {g : TG} {dg : DenG} {js : List Nat} (he : SndE Z W te de) (hg : SndG Z js g dg) : SndS Z W (tAsg te g) (dUnp de dg) := by
  intro I0 H0 I H σ δ c g0 a D h
  refine he _ _ _ _ _ _ a _ (Res.imp (Res.bindS g0 h) fun x c1 I1 H1 g1 k1 q v hv => ?_)
  obtain ⟨q1, q2⟩ := q
  split at q2
  · rename_i δ1 e
    exact hg _ _ _ _ _ _ _ _ c1 (a.go g1 k1) hv e _ fun σ1 s1 _ => Res.okS q1 k1 q2 _ s1
  · exact q2.elim
/-- raise X('..') -/
def dRaise (k : Str) : DenS := fun _ c => .ex k none c
end
end Dn
namespace Dn
open PySem PySem.Spec PyProof.Rows L2
/-! reckoning -/
theorem bMul_small {i j : Int} (h1 : -10 ^ 30 ≤ i) (h2 : i ≤ 10 ^ 30) (h3 : -10 ^ 30 ≤ j) (h4 : j ≤ 10 ^ 30) : bMul i j = true := decide_eq_true ⟨by omega, by omega⟩
theorem aAdd_eq (i j c : Int) : aAdd (.d (.int i)) (.d (.int j)) c = .ok (.d (.int (i + j))) c := rfl
theorem aSub_eq (i j c : Int) : aSub (.d (.int i)) (.d (.int j)) c = .ok (.d (.int (i - j))) c := rfl
theorem aMul_eq (i j c : Int) (h1 : -10 ^ 30 ≤ i) (h2 : i ≤ 10 ^ 30) (h3 : -10 ^ 30 ≤ j) (h4 : j ≤ 10 ^ 30) : aMul (.d (.int i)) (.d (.int j)) c = .ok (.d (.int (i * j))) c := by
  show (if bMul i j = true then R.ok (Vl.d (.int (i * j))) c else R.no) = _
  rw [if_pos (bMul_small h1 h2 h3 h4)]
theorem aDiv_eq (i j c : Int) (h1 : 0 < j) (h2 : j ≤ 10 ^ 30) : aDiv (.d (.int i)) (.d (.int j)) c = .ok (.d (.int (i / j))) c := by
  show (if bDiv i j = true then R.ok (Vl.d (.int (i / j))) c else R.no) = _
  rw [if_pos (show bDiv i j = true from decide_eq_true ⟨h1, by omega⟩)]
theorem aMod_eq (i j c : Int) (h1 : 0 < j) : aMod (.d (.int i)) (.d (.int j)) c = .ok (.d (.int (i % j))) c := by
  show (if decide (0 < j) = true then R.ok (Vl.d (.int (i % j))) c else R.no) = _
  rw [if_pos (decide_eq_true h1)]
theorem aLt_eq (i j c : Int) : aLt (.d (.int i)) (.d (.int j)) c = .ok (.d (.bool (decide (i < j)))) c := rfl
theorem aLe_eq (i j c : Int) : aLe (.d (.int i)) (.d (.int j)) c = .ok (.d (.bool (decide (i ≤ j)))) c := rfl
theorem aGt_eq (i j c : Int) : aGt (.d (.int i)) (.d (.int j)) c = .ok (.d (.bool (decide (j < i)))) c := rfl
theorem aGe_eq (i j c : Int) : aGe (.d (.int i)) (.d (.int j)) c = .ok (.d (.bool (decide (j ≤ i)))) c := rfl
theorem pow18 (c : Int) : aPow (.d (.int 10)) (.d (.int 18)) c = .ok (.d (.int 1000000000000000000)) c := by
  show (if decide ((0 : Int) ≤ 18 ∧ (18 : Int) ≤ 1000 ∧ (10 : Int).natAbs < 1000) = true then R.ok (Vl.d (.int ((10 : Int) ^ (18 : Int).toNat))) c else R.no) = _
  rw [if_pos (by decide)]
  rfl
theorem gEq_int (i j c : Int) : gEq false (.d (.int i)) (.d (.int j)) c = .ok (.d (.bool (i == j))) c := by
  simp only [gEq]
  rw [if_pos ⟨by simp [SeqAt.shaped, PyData.canLay0, PyData.depth], by simp [SeqAt.shaped, PyData.canLay0, PyData.depth]⟩]
  simp [PyData.eqv]
theorem gNe_int (i j c : Int) : gEq true (.d (.int i)) (.d (.int j)) c = .ok (.d (.bool (i != j))) c := by
  simp only [gEq]
  rw [if_pos ⟨by simp [SeqAt.shaped, PyData.canLay0, PyData.depth], by simp [SeqAt.shaped, PyData.canLay0, PyData.depth]⟩]
  simp [PyData.eqv, bne]
theorem gEq_str (a b : Str) (c : Int) (h1 : PyData.strOk a = true) (h2 : PyData.strOk b = true) : gEq false (.d (.str a)) (.d (.str b)) c = .ok (.d (.bool (a == b))) c := by
  simp only [gEq]
  rw [if_pos ⟨by simp [SeqAt.shaped, PyData.canLay0, PyData.depth, h1], by simp [SeqAt.shaped, PyData.canLay0, PyData.depth, h2]⟩]
  simp [PyData.eqv]
/-- a loop that keeps J, turn by turn, and ends in the next statement -/
theorem loop_ok {dg : DenG} {db : DenS} (J : Nat → List Sl → Int → Prop) : ∀ (xs : List Vl) (n : Nat) (δ : List Sl) (c : Int), J n δ c →
    (∀ (i : Nat) x δ c, xs[i]? = some x → J (n + i) δ c → ∃ δ1, dg x δ = some δ1 ∧ ∃ o δ2 c2, db δ1 c = .ok o c2 ∧ (o = .nx δ2 ∨ o = .ct δ2) ∧ J (n + i + 1) δ2 c2) →
    ∃ δ' c', loopD dg db xs δ c = .ok (.nx δ') c' ∧ J (n + xs.length) δ' c'
  | [], n, δ, c, h0, _ => ⟨δ, c, rfl, h0⟩
  | x :: xs, n, δ, c, h0, hs => by
    obtain ⟨δ1, e1, o, δ2, c2, e2, e3, j⟩ := hs 0 x δ c rfl h0
    obtain ⟨δ', c', e4, j'⟩ := loop_ok J xs (n + 1) δ2 c2 j fun i y δ c hi hj => by
      have := hs (i + 1) y δ c (by simpa using hi) (by rw [show n + (i + 1) = n + 1 + i by omega]; exact hj)
      rw [show n + (i + 1) + 1 = n + 1 + i + 1 by omega] at this
      exact this
    refine ⟨δ', c', ?_, by rw [List.length_cons, show n + (xs.length + 1) = n + 1 + xs.length by omega]; exact j'⟩
    unfold loopD
    rw [e1]
    show (db δ1 c).bind _ = _
    rw [e2]
    rcases e3 with rfl | rfl <;> exact e4
/-- the same with a break -/
theorem loop_br {dg : DenG} {db : DenS} (J : Nat → List Sl → Int → Prop) : ∀ (xs : List Vl) (n : Nat) (δ : List Sl) (c : Int), J n δ c →
    (∀ (i : Nat) x δ c, xs[i]? = some x → J (n + i) δ c → ∃ δ1, dg x δ = some δ1 ∧ ∃ o δ2 c2, db δ1 c = .ok o c2 ∧ (o = .nx δ2 ∨ o = .bk δ2) ∧ J (n + i + 1) δ2 c2) →
    ∃ m δ' c', m ≤ n + xs.length ∧ loopD dg db xs δ c = .ok (.nx δ') c' ∧ J m δ' c'
  | [], n, δ, c, h0, _ => ⟨n, δ, c, Nat.le_refl _, rfl, h0⟩
  | x :: xs, n, δ, c, h0, hs => by
    obtain ⟨δ1, e1, o, δ2, c2, e2, e3, j⟩ := hs 0 x δ c rfl h0
    rcases e3 with rfl | rfl
    · obtain ⟨m, δ', c', hm, e4, j'⟩ := loop_br J xs (n + 1) δ2 c2 j fun i y δ c hi hj => by
        have := hs (i + 1) y δ c (by simpa using hi) (by rw [show n + (i + 1) = n + 1 + i by omega]; exact hj)
        rw [show n + (i + 1) + 1 = n + 1 + i + 1 by omega] at this
        exact this
      refine ⟨m, δ', c', by rw [List.length_cons]; omega, ?_, j'⟩
      unfold loopD
      rw [e1]
      show (db δ1 c).bind _ = _
      rw [e2]
      exact e4
    · refine ⟨n + 1, δ2, c2, by rw [List.length_cons]; omega, ?_, j⟩
      unfold loopD
      rw [e1]
      show (db δ1 c).bind _ = _
      rw [e2]
      rfl
theorem rng_get {lo : Int} {n i : Nat} {x : Vl} (h : (rng lo n)[i]? = some x) : x = .d (.int (lo + (i : Int))) ∧ i < n := by
  have hi : i < n := by
    have z := (List.getElem?_eq_some_iff.mp h).1
    simpa [rng] using z
  unfold rng at h
  rw [List.getElem?_map, List.getElem?_range hi] at h
  exact ⟨(Option.some.inj h).symm, hi⟩
theorem rng_len {lo : Int} {n : Nat} : (rng lo n).length = n := by simp [rng]
/-! what may be told by repr -/
mutual
def tame : PyData → Bool
  | .int i => decide (i.natAbs < 10 ^ 12)
  | .str x => PyData.strOk x
  | .list xs => tames xs
  | .tuple xs => tames xs
  | .dict _ => false
  | _ => true
def tames : List PyData → Bool
  | [] => true
  | x :: xs => tame x && tames xs
end
mutual
theorem tame_all : ∀ d : PyData, tame d = true → d.canLay0 = true ∧ d.intsShort 13 = true ∧ d.showable = true
  | .none, _ => ⟨by simp only [PyData.canLay0], rfl, by simp only [PyData.showable]⟩
  | .bool _, _ => ⟨by simp only [PyData.canLay0], rfl, by simp only [PyData.showable]⟩
  | .int i, h => by
    have h : i.natAbs < 10 ^ 12 := by simpa only [tame, decide_eq_true_eq] using h
    refine ⟨by simp only [PyData.canLay0], by simp only [PyData.intsShort, decide_eq_true_eq]; exact PyData.shown_int_le h, ?_⟩
    simp only [PyData.showable, decide_eq_true_eq]
    exact Nat.lt_trans (log2_le (k := 40) (Nat.lt_trans h (by decide)) (by decide)) (by decide)
  | .str x, h => ⟨by simpa only [PyData.canLay0, tame] using h, rfl, by simp only [PyData.showable]⟩
  | .list xs, h => by
    obtain ⟨a, b, c⟩ := tames_all xs (by simpa only [tame] using h)
    exact ⟨by simpa only [PyData.canLay0] using a, by simpa only [PyData.intsShort] using b, by simpa only [PyData.showable] using c⟩
  | .tuple xs, h => by
    obtain ⟨a, b, c⟩ := tames_all xs (by simpa only [tame] using h)
    exact ⟨by simpa only [PyData.canLay0] using a, by simpa only [PyData.intsShort] using b, by simpa only [PyData.showable] using c⟩
  | .dict _, h => by simp only [tame] at h; cases h
theorem tames_all : ∀ d : List PyData, tames d = true → PyData.canLayAll0 d = true ∧ PyData.intsShortAll 13 d = true ∧ PyData.showableAll d = true
  | [], _ => ⟨by simp only [PyData.canLayAll0], rfl, by simp only [PyData.showableAll]⟩
  | x :: xs, h => by
    simp only [tames, Bool.and_eq_true] at h
    obtain ⟨a, b, c⟩ := tame_all x h.1
    obtain ⟨a2, b2, c2⟩ := tames_all xs h.2
    exact ⟨by simp only [PyData.canLayAll0, a, a2, Bool.and_self], by simp only [PyData.intsShortAll, b, b2, Bool.and_self], by simp only [PyData.showableAll, c, c2, Bool.and_self]⟩
end
structure Fits (d : PyData) : Prop where
  t : tame d = true
  p : d.depth ≤ 50
  w : d.weight ≤ 1000000
theorem Fits.repr {d : PyData} (f : Fits d) (c : Int) : gRepr [.d (.list [d])] c = .ok (.d (.str (PyData.shown (.list [d])))) c := by
  obtain ⟨a, b, s⟩ := tame_all d f.t
  have hd : (PyData.list [d]).depth ≤ 51 := by have := f.p; simp only [PyData.depth, PyData.depthAll]; omega
  have hl : PyData.layable0 (.list [d]) = true := by
    have hw := f.w
    simp only [PyData.layable0, PyData.canLay0, PyData.canLayAll0, a, Bool.and_true, Bool.true_and, Bool.and_eq_true, decide_eq_true_eq]
    refine ⟨Nat.le_trans hd (by decide), ?_⟩
    simp only [PyData.weight, PyData.weightAll]
    have e : (2 : Nat) ^ 20 = 1048576 := by decide
    omega
  have hs := PyData.shown_le_of_layable0 hl (by simp only [PyData.intsShort, PyData.intsShortAll, b, Bool.and_true])
  simp only [gRepr]
  rw [if_pos ⟨by simp only [PyData.showable, PyData.showableAll, s, Bool.and_true], Nat.le_trans hd (by decide), Nat.le_trans hs (by decide)⟩]
def cSame (ns : List Int) : DenS := dRet (dOp (gEqS) (dCB gRepr (dCons (dL (dLst (dCons (dVar 0) (dNil)))) (dNil))) (dCB gRepr (dCons (dL (dLst (dCons (dVar 1) (dNil)))) (dNil))))
theorem same_ok {ns : List Int} {d : PyData} (f : Fits d) (c : Int) : dDef 0 (cSame ns) [.d d, .d d] c = .ok (.d (.bool true)) c := by
  simp [dDef, cSame, dRet, dOp, dCB, dCons, dL, dLst, dNil, dVar, args, datas, f.repr, gEqS, finD, finO]
/-! the law's numbers -/
def cNext (ns : List Int) : DenS := dSeq (dStSet 0 (dOp aAdd (dSt1 0) (dC (.d (.int 1))))) (dSeq (dSet 2 (dOp aDiv (dSt1 0) (dCB gLen (dCons (dSt0 ns 0) (dNil))))) (dRet (dOp aMod (dCB gInt1 (dCons (dOp aAdd (dOp aAdd (dOp gIx (dSt0 ns 0) (dOp aMod (dSt1 0) (dCB gLen (dCons (dSt0 ns 0) (dNil))))) (dOp aMul (dVar 2) (dC (.d (.int 389))))) (dOp aMul (dOp aMul (dSt1 0) (dVar 2)) (dC (.d (.int 17))))) (dNil))) (dVar 1))))
structure Good (ns : List Int) : Prop where
  ne : ns ≠ []
  lt : ∀ n ∈ ns, 0 ≤ n ∧ n < 1009
  len : ns.length ≤ 5000
theorem atI_ok {α : Type} {xs : List α} {i : Int} (h0 : 0 ≤ i) (h1 : i < (xs.length : Int)) : ∃ x, atI xs i = some x ∧ x ∈ xs := by
  have hn : i.toNat < xs.length := by omega
  refine ⟨xs[i.toNat], ?_, List.getElem_mem hn⟩
  unfold atI ixN
  rw [if_pos h0, if_pos h1]
  show xs[i.toNat]? = _
  rw [List.getElem?_eq_getElem hn]
theorem next_ok {ns : List Int} (g : Good ns) {m c : Int} (hm : 0 < m) (h0 : 0 ≤ c) (h1 : c ≤ 1000000) : ∃ r, dDef 1 (cNext ns) [.st, .d (.int m)] c = .ok (.d (.int r)) (c + 1) ∧ 0 ≤ r ∧ r < m := by
  have hl : (0 : Int) < (ns.length : Int) := by
    have := List.length_pos_iff.mpr g.ne
    omega
  have hl2 := g.len
  have hr0 := Int.emod_nonneg (c + 1) (b := (ns.length : Int)) (by omega)
  have hr1 := Int.emod_lt_of_pos (c + 1) hl
  obtain ⟨x, e, hx⟩ := atI_ok (xs := ns.map PyData.int) (i := (c + 1) % (ns.length : Int)) hr0 (by rw [List.length_map]; exact hr1)
  obtain ⟨v, hv, rfl⟩ := List.mem_map.mp hx
  have ht0 : 0 ≤ (c + 1) / (ns.length : Int) := Int.ediv_nonneg (by omega) (by omega)
  have ht1 : (c + 1) / (ns.length : Int) ≤ c + 1 := Int.ediv_le_self _ (by omega)
  have hp1 : (c + 1) * ((c + 1) / (ns.length : Int)) ≤ 1000001 * 1000001 := Int.mul_le_mul (by omega) (by omega) ht0 (by omega)
  have hp0 : 0 ≤ (c + 1) * ((c + 1) / (ns.length : Int)) := Int.mul_nonneg (by omega) ht0
  refine ⟨(v + (c + 1) / (ns.length : Int) * 389 + (c + 1) * ((c + 1) / (ns.length : Int)) * 17) % m, ?_, Int.emod_nonneg _ (by omega), Int.emod_lt_of_pos _ hm⟩
  · have h389 := aMul_eq ((c + 1) / (ns.length : Int)) 389 (c + 1) (by omega) (by omega) (by omega) (by omega)
    have hcc := aMul_eq (c + 1) ((c + 1) / (ns.length : Int)) (c + 1) (by omega) (by omega) (by omega) (by omega)
    have h17 := aMul_eq ((c + 1) * ((c + 1) / (ns.length : Int))) 17 (c + 1) (by omega) (by omega) (by omega) (by omega)
    have hd := aDiv_eq (c + 1) (ns.length : Int) (c + 1) hl (by omega)
    have hmd := aMod_eq (c + 1) (ns.length : Int) (c + 1) hl
    have hmm := aMod_eq (v + (c + 1) / (ns.length : Int) * 389 + (c + 1) * ((c + 1) / (ns.length : Int)) * 17) m (c + 1) hm
    simp only [dDef, cNext, dSeq, seqO, dStSet, dRet, dSet, dOp, dCB, dCons, dNil, dVar, dC, dSt0, dSt1, args, List.map_cons, List.map_nil, List.replicate, List.cons_append, List.nil_append, List.getElem?_cons_zero, List.getElem?_cons_succ, R.bind_ok, aAdd_eq, gLen,
      List.length_map, List.set_cons_succ, List.set_cons_zero, hd, hmd, gIx, e, h389, hcc, h17, gInt1, hmm, finD, finO]
end Dn
namespace Dn
open PySem PySem.Spec PyProof.Rows L2
/-! the law's stream -/
def cSt1 : DenS := dSeq (dApp 1 (dOp aMod (dCB gInt1 (dCons (dVar 3) (dNil))) (dC (.d (.int 1009))))) (dSeq (dSet 3 (dOp aDiv (dVar 3) (dC (.d (.int 1009))))) (dIfS (dTe (dOp (gEq false) (dVar 3) (dC (.d (.int 0))))) (dBreak) (dNext)))
def cSt2 : DenS := dSeq (dSet 5 (dOp aMod (dCB gInt1 (dCons (dOp aAdd (dOp aAdd (dOp aMul (dVar 5) (dC (.d (.int 48271)))) (dOp aMul (dC (.d (.int 7))) (dVar 4))) (dC (.d (.int 11)))) (dNil))) (dC (.d (.int 2147483647))))) (dApp 1 (dOp aMod (dOp aMod (dCB gInt1 (dCons (dOp aAdd (dOp aMul (dVar 5) (dC (.d (.int 69621)))) (dVar 4)) (dNil))) (dC (.d (.int 2147483629)))) (dC (.d (.int 1009)))))
def cSt3 : DenS := dSeq (dSet 3 (dCB gAbs (dCons (dCB gInt1 (dCons (dVar 2) (dNil))) (dNil)))) (dIfS (dTe (dOp (aGe) (dVar 3) (dOp aPow (dC (.d (.int 10))) (dC (.d (.int 18)))))) (dFor (dI1 (dCons (dC (.d (.int 60))) (dNil))) (dName 4) cSt1) (dSeq (dSet 5 (dOp aMod (dCB gInt1 (dCons (dVar 3) (dNil))) (dC (.d (.int 2147483647))))) (dFor (dI1 (dCons (dC (.d (.int 10))) (dNil))) (dName 4) cSt2)))
def cStream (ns : List Int) : DenS := dSeq (dNew 1 (dLst (dNil))) (dSeq (dFor (dIL (dL (dSlL (dVar 0) (dNoO) (dSoO (dC (.d (.int 63))))))) (dName 2) cSt3) (dSeq (dIfS (dTe (dOp (gEq false) (dLenO 1) (dC (.d (.int 0))))) (dApp 1 (dC (.d (.int 0)))) (dNext)) (dRetO 1)))
def Sm (ns : List Int) : Prop := ∀ n ∈ ns, 0 ≤ n ∧ n < 1009
theorem Sm.app {ns : List Int} (h : Sm ns) {v : Int} (h0 : 0 ≤ v) (h1 : v < 1009) : Sm (ns ++ [v]) := fun n m => by
  rcases List.mem_append.mp m with m | m
  · exact h n m
  · rw [List.mem_singleton] at m; subst m; exact ⟨h0, h1⟩
theorem st1_ok {sc s2 s5 : Sl} {N : Nat} (hN : N ≤ 100000) : ∀ (ns : List Int) (r : Int) (s4 : Sl), Sm ns → 0 ≤ r → ns.length ≤ N → ∃ ns' s3' s4', loopD (dName 4) cSt1 (rng 0 60) [sc, .ow (ns.map .int), s2, .im (.d (.int r)), s4, s5] 0 = .ok (.nx [sc, .ow (ns'.map .int), s2, s3', s4', s5]) 0 ∧ Sm ns' ∧ ns'.length ≤ N + 60 := by
  intro ns r s4 hs hr hn
  obtain ⟨m, δ', c', hm, e, rfl, ns', r', s4', rfl, h1, h2, h3⟩ := loop_br (dg := dName 4) (db := cSt1) (fun m δ c => c = 0 ∧ ∃ ns' r' s4', δ = [sc, .ow (ns'.map .int), s2, .im (.d (.int r')), s4', s5] ∧ Sm ns' ∧ 0 ≤ r' ∧ ns'.length ≤ N + m) (rng 0 60) 0 _ 0
    ⟨rfl, ns, r, s4, rfl, hs, hr, by omega⟩ (by
      rintro i x δ c hx ⟨rfl, ns', r', s4', rfl, h1, h2, h3⟩
      obtain ⟨rfl, hi⟩ := rng_get hx
      refine ⟨_, rfl, ?_⟩
      have hl : ns'.length < 16777216 := by omega
      have m0 := Int.emod_nonneg r' (b := 1009) (by omega)
      have m1 := Int.emod_lt_of_pos r' (b := 1009) (by omega)
      have d0 : 0 ≤ r' / 1009 := Int.ediv_nonneg h2 (by omega)
      have am := aMod_eq r' 1009 0 (by omega)
      have ad := aDiv_eq r' 1009 0 (by omega) (by omega)
      by_cases z : r' / 1009 = 0
      · refine ⟨.bk [sc, .ow ((ns' ++ [r' % 1009]).map .int), s2, .im (.d (.int (r' / 1009))), .im (.d (.int (0 + (i : Int)))), s5], _, 0, ?_, .inr rfl, rfl, ns' ++ [r' % 1009], r' / 1009, _, rfl, h1.app m0 m1, d0, by simp; omega⟩
        simp only [cSt1, dSeq, seqO, dApp, dSet, dIfS, dTe, dBreak, dNext, dOp, dCB, dCons, dNil, dVar, dC, List.getElem?_cons_zero, List.getElem?_cons_succ, List.set_cons_succ, List.set_cons_zero, R.bind_ok, gInt1, am, ad, List.length_map, hl, if_true, gEq_int, z, beq_self_eq_true, List.map_append, List.map_cons, List.map_nil]
      · refine ⟨.nx [sc, .ow ((ns' ++ [r' % 1009]).map .int), s2, .im (.d (.int (r' / 1009))), .im (.d (.int (0 + (i : Int)))), s5], _, 0, ?_, .inl rfl, rfl, ns' ++ [r' % 1009], r' / 1009, _, rfl, h1.app m0 m1, d0, by simp; omega⟩
        have z2 : (r' / 1009 == 0) = false := by simpa using z
        simp only [cSt1, dSeq, seqO, dApp, dSet, dIfS, dTe, dBreak, dNext, dOp, dCB, dCons, dNil, dVar, dC, List.getElem?_cons_zero, List.getElem?_cons_succ, List.set_cons_succ, List.set_cons_zero, R.bind_ok, gInt1, am, ad, List.length_map, hl, if_true, gEq_int, z2, Bool.false_eq_true, if_false, List.map_append, List.map_cons, List.map_nil])
  rw [rng_len] at hm
  exact ⟨ns', _, s4', e, h1, by omega⟩
theorem st2_ok {sc s2 s3 : Sl} {N : Nat} (hN : N ≤ 100000) : ∀ (ns : List Int) (r : Int) (s4 : Sl), Sm ns → 0 ≤ r → r < 2147483647 → ns.length ≤ N → ∃ ns' s4' s5', loopD (dName 4) cSt2 (rng 0 10) [sc, .ow (ns.map .int), s2, s3, s4, .im (.d (.int r))] 0 = .ok (.nx [sc, .ow (ns'.map .int), s2, s3, s4', s5']) 0 ∧ Sm ns' ∧ ns'.length = ns.length + 10 ∧ ns'.length ≤ N + 60 := by
  intro ns r s4 hs hr hr2 hn
  obtain ⟨δ', c', e, rfl, ns', r', s4', rfl, h1, h2, h3, h4⟩ := loop_ok (dg := dName 4) (db := cSt2) (fun m δ c => c = 0 ∧ ∃ ns' r' s4', δ = [sc, .ow (ns'.map .int), s2, s3, s4', .im (.d (.int r'))] ∧ Sm ns' ∧ 0 ≤ r' ∧ r' < 2147483647 ∧ ns'.length = ns.length + m) (rng 0 10) 0 _ 0
    ⟨rfl, ns, r, s4, rfl, hs, hr, hr2, by omega⟩ (by
      rintro i x δ c hx ⟨rfl, ns', r', s4', rfl, h1, h2, h3, h4⟩
      obtain ⟨rfl, hi⟩ := rng_get hx
      refine ⟨_, rfl, ?_⟩
      have hl : ns'.length < 16777216 := by omega
      have a1 := aMul_eq r' 48271 0 (by omega) (by omega) (by omega) (by omega)
      have a2 := aMul_eq 7 (0 + (i : Int)) 0 (by omega) (by omega) (by omega) (by omega)
      have a3 := aMod_eq (r' * 48271 + 7 * (0 + (i : Int)) + 11) 2147483647 0 (by omega)
      have b0 := Int.emod_nonneg (r' * 48271 + 7 * (0 + (i : Int)) + 11) (b := 2147483647) (by omega)
      have b1 := Int.emod_lt_of_pos (r' * 48271 + 7 * (0 + (i : Int)) + 11) (b := 2147483647) (by omega)
      generalize (r' * 48271 + 7 * (0 + (i : Int)) + 11) % 2147483647 = q at a3 b0 b1
      have a4 := aMul_eq q 69621 0 (by omega) (by omega) (by omega) (by omega)
      have a5 := aMod_eq (q * 69621 + (0 + (i : Int))) 2147483629 0 (by omega)
      have a6 := aMod_eq ((q * 69621 + (0 + (i : Int))) % 2147483629) 1009 0 (by omega)
      have c0 := Int.emod_nonneg ((q * 69621 + (0 + (i : Int))) % 2147483629) (b := 1009) (by omega)
      have c1 := Int.emod_lt_of_pos ((q * 69621 + (0 + (i : Int))) % 2147483629) (b := 1009) (by omega)
      generalize (q * 69621 + (0 + (i : Int))) % 2147483629 % 1009 = t at a6 c0 c1
      refine ⟨.nx [sc, .ow ((ns' ++ [t]).map .int), s2, s3, .im (.d (.int (0 + (i : Int)))), .im (.d (.int q))], _, 0, ?_, .inl rfl, rfl, ns' ++ [t], q, _, rfl, h1.app c0 c1, b0, b1, by simp; omega⟩
      simp only [cSt2, dSeq, seqO, dApp, dSet, dOp, dCB, dCons, dNil, dVar, dC, List.getElem?_cons_zero, List.getElem?_cons_succ, List.set_cons_succ, List.set_cons_zero, R.bind_ok, gInt1, aAdd_eq, a1, a2, a3, a4, a5, a6, List.length_map, hl, if_true, List.map_append, List.map_cons, List.map_nil])
  rw [rng_len] at h4
  exact ⟨ns', s4', _, e, h1, by omega, by omega⟩
theorem stream_ok (nums : List Int) (hn : nums.length ≤ 63) : ∃ ns, Good ns ∧ dDef 5 (cStream []) [.d (.list (nums.map .int))] 0 = .ok (.d (.list (ns.map .int))) 0 := by
  obtain ⟨xs, hxs, hlen⟩ : ∃ xs : List Int, cutD (nums.map PyData.int) none (some 63) = xs.map .int ∧ xs.length ≤ 63 := by
    refine ⟨(nums.drop (HT.sIx (nums.map PyData.int).length 0 none)).take (HT.sIx (nums.map PyData.int).length (nums.map PyData.int).length (some 63) - HT.sIx (nums.map PyData.int).length 0 none), ?_, ?_⟩
    · unfold cutD; rw [List.map_take, List.map_drop]
    · rw [List.length_take, List.length_drop]; omega
  obtain ⟨δ', c', e, rfl, ns, s2, s3, s4, s5, rfl, h1, h2⟩ := loop_ok (dg := dName 2) (db := cSt3) (fun m δ c => c = 0 ∧ ∃ ns s2 s3 s4 s5, δ = [.im (.d (.list (nums.map .int))), .ow (ns.map .int), s2, s3, s4, s5] ∧ Sm ns ∧ ns.length ≤ 60 * m)
    ((xs.map PyData.int).map Vl.d) 0 [.im (.d (.list (nums.map .int))), .ow [], .no, .no, .no, .no] 0 ⟨rfl, [], .no, .no, .no, .no, rfl, (fun _ m => by cases m), by simp⟩ (by
      rintro i x δ c hx ⟨rfl, ns, s2, s3, s4, s5, rfl, h1, h2⟩
      have hi : i < xs.length := by
        have z := (List.getElem?_eq_some_iff.mp hx).1
        simpa using z
      obtain ⟨n, rfl⟩ : ∃ n, x = .d (.int n) := by
        rw [List.map_map, List.getElem?_map, List.getElem?_eq_getElem hi] at hx
        exact ⟨_, (Option.some.inj hx).symm⟩
      refine ⟨_, rfl, ?_⟩
      have hr : 0 ≤ (if n < 0 then -n else n) := by split <;> omega
      generalize hq : (if n < 0 then -n else n) = r at hr
      by_cases z : 1000000000000000000 ≤ r
      · obtain ⟨ns', s3', s4', e1, e2, e3⟩ := st1_ok (sc := .im (.d (.list (nums.map .int)))) (s2 := .im (.d (.int n))) (s5 := s5) (N := 60 * i) (by omega) ns r s4 h1 hr (by omega)
        refine ⟨_, _, _, ?_, .inl rfl, rfl, ns', .im (.d (.int n)), s3', s4', s5, rfl, e2, by omega⟩
        have z2 : (decide (1000000000000000000 ≤ r)) = true := decide_eq_true z
        simp only [cSt3, dSeq, seqO, dSet, dIfS, dTe, dOp, dCB, dCons, dNil, dVar, dC, List.getElem?_cons_zero, List.getElem?_cons_succ, List.set_cons_succ, List.set_cons_zero, R.bind_ok, gInt1, gAbs, hq, pow18, aGe_eq, z2, if_true, dFor, dI1, bR, show decide (-(2 ^ 62) ≤ (60 : Int) ∧ (60 : Int) < 2 ^ 62) = true from by decide, show (60 : Int).toNat = 60 from rfl]
        exact e1
      · have b0 := Int.emod_nonneg r (b := 2147483647) (by omega)
        have b1 := Int.emod_lt_of_pos r (b := 2147483647) (by omega)
        have am := aMod_eq r 2147483647 0 (by omega)
        obtain ⟨ns', s4', s5', e1, e2, e4, e3⟩ := st2_ok (sc := .im (.d (.list (nums.map .int)))) (s2 := .im (.d (.int n))) (s3 := .im (.d (.int r))) (N := 60 * i) (by omega) ns (r % 2147483647) s4 h1 b0 b1 (by omega)
        refine ⟨_, _, _, ?_, .inl rfl, rfl, ns', .im (.d (.int n)), .im (.d (.int r)), s4', s5', rfl, e2, by omega⟩
        have z2 : (decide (1000000000000000000 ≤ r)) = false := decide_eq_false z
        simp only [cSt3, dSeq, seqO, dSet, dIfS, dTe, dOp, dCB, dCons, dNil, dVar, dC, List.getElem?_cons_zero, List.getElem?_cons_succ, List.set_cons_succ, List.set_cons_zero, R.bind_ok, gInt1, gAbs, hq, pow18, aGe_eq, z2, Bool.false_eq_true, if_false, am, if_true, dFor, dI1, bR, show decide (-(2 ^ 62) ≤ (10 : Int) ∧ (10 : Int) < 2 ^ 62) = true from by decide, show (10 : Int).toNat = 10 from rfl]
        exact e1)
  rw [List.length_map, List.length_map] at h2
  have hl : ns.length ≤ 3780 := by omega
  have hd : dFor (dIL (dL (dSlL (dVar 0) (dNoO) (dSoO (dC (.d (.int 63))))))) (dName 2) cSt3 [.im (.d (.list (nums.map .int))), .ow [], .no, .no, .no, .no] 0 = .ok (.nx [.im (.d (.list (nums.map .int))), .ow (ns.map .int), s2, s3, s4, s5]) 0 := by
    simp only [dFor, dIL, dL, dSlL, dVar, dNoO, dSoO, dC, List.getElem?_cons_zero, R.bind_ok, R.map_ok, hxs]
    exact e
  by_cases z : ns = []
  · subst z
    refine ⟨[0], ⟨by simp, fun n m => by simp at m; subst m; omega, by simp⟩, ?_⟩
    simp only [dDef, cStream, dSeq, seqO, dNew, dLst, dNil, datas, args, List.map_cons, List.map_nil, List.replicate, List.cons_append, List.nil_append, R.bind_ok, List.length_nil, Nat.zero_le, if_true, List.set_cons_succ, List.set_cons_zero, hd, dIfS, dTe, dOp, dLenO, List.getElem?_cons_zero, List.getElem?_cons_succ, dC, gEq_int, List.length_map,
      show ((((0 : Nat) : Int)) == 0) = true from rfl, dApp, show (0 < 16777216) = True from by simp, dRetO, finD, finO]
  · have hp : 0 < ns.length := List.length_pos_iff.mpr z
    have z2 : ((ns.length : Int) == 0) = false := by
      have : (ns.length : Int) ≠ 0 := by omega
      simpa using this
    refine ⟨ns, ⟨z, h1, by omega⟩, ?_⟩
    simp only [dDef, cStream, dSeq, seqO, dNew, dLst, dNil, datas, args, List.map_cons, List.map_nil, List.replicate, List.cons_append, List.nil_append, R.bind_ok, List.length_nil, Nat.zero_le, if_true, List.set_cons_succ, List.set_cons_zero, hd, dIfS, dTe, dOp, dLenO, List.getElem?_cons_zero, List.getElem?_cons_succ, dC, gEq_int, List.length_map,
      z2, Bool.false_eq_true, if_false, dNext, dRetO, finD, finO]
end Dn
namespace Dn
open PySem PySem.Spec PyProof.Rows L2
/-! the same rules, the written part told -/
section
variable {X : Cx} {K : PySem.W.Frag} {tg l : Expr} {tl : TE}
theorem pi_listK (h : X.K = K) (hl : PE X l tl) : PI X tg l (iList K tl) := by
  subst h
  exact pi_list hl
theorem pi_tupK (h : X.K = K) (hl : PE X l tl) : PI X tg l (iTup K tl) := by
  subst h
  exact pi_tup hl
end
def rTupA (K : PySem.W.Frag) : List V → Hp → VK → Prop := fun xs H Q => ∃ p ys, xs = [.ref p] ∧ ((SqL K H p ys ∧ ∀ l, H l = none → Q (.ref l) (upd H l (.tup ys))) ∨ (SqT K H p ys ∧ Q (.ref p) H))
def rListA (K : PySem.W.Frag) : List V → Hp → VK → Prop := fun xs H Q => ∃ p ys, xs = [.ref p] ∧ (SqL K H p ys ∨ SqT K H p ys) ∧ ∀ l, H l = none → Q (.ref l) (upd H l (.lst ys))
/-! errors -/
structure Exc1 (K : PySem.W.Frag) (mg : Str → Option Value) (x : Str) where
  a : Addr
  g : mg x = some (.ref a)
  x1 : PySem.W.excIn K a [.type "ValueError", .type "Exception", .type "BaseException", .type "object"] "ValueError.__new__" = true
  k : PySem.W.keepIn K (.ref a) = true
  bs : PySem.W.subIn K (.ref a) (.type "BaseException") = some true
  ty : PySem.W.typeIn K (.ref a) = some (.type "type")
section
variable {Z : Zz} {W : XK}
theorem sns_raise {x : Str} {C : Addr} (h : Z.cl x = some (.ref C)) : SndS Z W (fun _ _ H => W (.ref C) none H) (dRaise x) := by
  intro I0 H0 I H σ δ c g a D r
  exact r I H (.ref C) none g a.k h rfl
end
/-! a call of what a local name holds -/
section
variable {X : Cx} {CX : CXT} {k i : Nat} {f : Addr} {fd : FuncData} {ps : List Str} {sp : Sp} {E : L2.St → XK} {x : Str} {p pos : Pos} {e : Expr} {es : List Expr} {t : TA}
theorem FnG.callAt {pins : List (Addr × Obj)} {σ : L2.St} {H : Hp} {s : Shared} {Q : VK} {us : List Value} {xs : List V} (F : FnG X.prog X.w X.K X.mg X.base CX k f fd ps sp) (g : X.A.guards = some []) (room : Room k X.A) (hb : Binds X.K fd ps [])
    (hx : PassesAt CX X σ (E σ)) (I : Inv X pins σ H s) (r : Vals xs us) (h : sp xs H Q (E σ)) : wpAny (model X.prog X.w) X.A (PySem.call (.ref f) us) (EP X pins σ Q) X.xe s := by
  have hl : (us ++ ([] : List Value)).length = ps.length := by
    rw [List.append_nil, ← r.length]
    exact F.size _ _ _ _ h
  have hb' := hb s us I.kIn hl
  rw [List.append_nil] at hb'
  apply wpAny_call
  refine codeAny_mono (F.goes X.A X.stack s H ⟨us, []⟩ us xs Q (E σ) g room I.env0 hb' r h) ?_
  intro res s2 got
  match res, got with
  | .error er, got => exact hx pins H s er s2 I got
  | .ok (.ret u), got => exact I.after got
  | .ok .next, got => exact got.elim
  | .ok .brk, got => exact got.elim
  | .ok .cont, got => exact got.elim
theorem pe_localG (F : FnG X.prog X.w X.K X.mg X.base CX k f fd ps sp) (g : X.A.guards = some []) (room : Room k X.A) (hN : X.N[i]? = some x) (hv : Vis X.env.scope x) (hk : PySem.W.keepIn X.K (.ref f) = true) (hb : Binds X.K fd ps [])
    (hx : ∀ σ, PassesAt CX X σ (E σ)) (ha : PA X (e :: es) t) (hdb : (x == ("__debug__" : Str)) = false := by decide) (hcd : (x == ("__classdict__" : Str)) = false := by decide)
    (he : starEach (e :: es) X.env = (false, eval e X.env) :: starEach es X.env := by rfl) (hpl : (backTo pos (starEach es X.env)).any (·.1) = false := by rfl) :
    PE X (.Call (.Name x p) (e :: es) [] pos) (fun σ H Q => σ[i]? = some (some (.ref f)) ∧ t σ H fun xs H1 => sp xs H1 Q (E σ)) := by
  constructor
  rintro pins s σ H Q I ⟨hs, h⟩
  apply wpAny_Call_Name_kw
  refine thn ((pe_var (pos := p) hN hv hdb hcd).run pins s σ H (fun v H1 => v = .ref f ∧ H1 = H) I ⟨_, hs, rfl, rfl⟩) ?_
  rintro u s1 ⟨v, H1, I1, rv, rfl, rfl⟩
  cases rv
  refine PySem.W.callWith_K (h₀ := X.base) I.ok.mod.kin hk ?_ he hpl
  refine thn (ha.run pos pins s1 σ _ _ I1 h) ?_
  rintro us s2 ⟨xs, H2, I2, r, q⟩
  exact ⟨I2.kIn, FnG.callAt F g room hb (hx σ) I2 r q⟩
end
/-! isinstance of the error that is handled, by a tuple of classes -/
def rIsET (K : PySem.W.Frag) (D a : Addr) : List V → Hp → VK → Prop := fun xs H Q => ∃ (tp : Addr) (cs : List V) (us : List Value) (b : Bool), xs = [.ref a, .ref tp] ∧ H tp = some (.tup cs) ∧ Paired ClsV cs us ∧ PySem.W.kitAny K (.ref D) us = some b ∧ Q (.bl b) H
theorem call_isET {X : Cx} {a D : Addr} {oe : Obj} {pn : List (Addr × Obj)} (C : ExcC X.K D) (hz : Zc (.ref D) none oe) (hf : ∃ vs, oe.data = .fields vs) : CallR (X.suite a ((a, oe) :: pn)) (.builtin "isinstance") (rIsET X.K D a) := by
  intro pins s σ H xs us Q I r h
  obtain ⟨tp, cs, ws, b, rfl, hT, hc, e, q⟩ := h
  obtain ⟨u1, u2, rfl, r1, r2⟩ := vals2 r
  cases (show u1 = Value.ref a from r1)
  cases (show u2 = Value.ref tp from r2)
  obtain ⟨_, its, rv, o, g1, g2, n, g3⟩ := I.hok tp _ hT
  have same := ClsV.all hc rv
  subst same
  obtain ⟨here, _⟩ := I.pin (a, oe) (List.mem_append.mpr (.inl List.mem_cons_self))
  obtain ⟨vs, hv⟩ := hf
  obtain ⟨oc, od, oda, osl⟩ := oe
  obtain ⟨z1, z2⟩ := hz
  dsimp only at z1 z2 hv
  subst z1 z2 hv
  have J : PySem.W.InstAt s.heap a ⟨.ref D, none, .fields vs, osl⟩ D none := ⟨here, rfl, rfl, trivial⟩
  obtain ⟨tc, td, tda, tsl⟩ := o
  dsimp only at g2 g3
  subst g2 g3
  exact PySem.W.kia_tup (PySem.W.handS_kitx_exc C.hg C.hk C.hs C.hd C.ha C.hn C.ht C.hm) I.kIn J g1 e (fun z => nomatch z) fun tk => ⟨.bl b, H, I.kept (t' := tk) fun _ _ z => z, rfl, q⟩
section
variable {Z : Zz} {W : XK}
/-! a list into names -/
def dGU (n : Nat) (dr : DenGs) : DenG := fun x δ => match x with
  | .d (.list xs) => if xs.length = n then dr xs δ else none
  | _ => none
theorem sng_unl {n : Nat} {js : List Nat} {gs : TGs} {dr : DenGs} (h : SndGs Z js gs dr) : SndG Z js (gUnl Z.K n gs) (dGU n dr) := by
  intro H0 I H σ δ δ' v x c a hv e Q q
  unfold dGU at e
  split at e
  · split at e
    · rename_i hl
      cases hv with
      | lst s t => exact ⟨_, _, rfl, sqL_grows a.k.ex s, by rw [dps_len t]; exact hl, h _ _ _ _ _ _ _ _ c a t e Q q⟩
    · cases e
  · cases e
/-! the law's asker: call(value), told -/
def spAsk (P : Program) (w : World) (K : PySem.W.Frag) (mg : Str → Option Value) (base : Heap) (k : Nat) (tell : R Vl → R Vl) : Sp := fun vs H Q E => ∃ (g : Addr) (v : V), vs = [.ref g, v] ∧
  ∃ (fd : FuncData) (ps : List Str) (df : List Int → List Vl → Int → R Vl), FnG P w K mg base (L2.CX P w) k g fd ps (spD 1 K mg df) ∧ PySem.W.keepIn K (.ref g) = true ∧ Binds K fd ps [] ∧
  ∃ (Z : Zz) (I : Hp) (x : Vl) (c : Int), Z.K = K ∧ Z.cl = mg ∧ Ok Z I H c ∧ VOk Z I v x ∧ Res Z E I H (tell (df Z.ns [x] c)) (fun z _ I' H' => ∀ u, VOk Z I' u z → Q u H')
def dAsk (tell : R Vl → R Vl) (df : List Vl → Int → R Vl) (de : Den) : Den := fun δ c => (de δ c).bind fun x c => (tell (df [x] c)).calm
theorem snd_ask {P : Program} {w : World} {K : PySem.W.Frag} {mg : Str → Option Value} {base : Heap} {k : Nat} {tell : R Vl → R Vl} {g : Addr} {fd : FuncData} {ps : List Str} {df : List Int → List Vl → Int → R Vl} {sa : Option Addr} {sp : Addr} {ns : List Int} {te : TE} {de : Den}
    (G : FnG P w K mg base (L2.CX P w) k g fd ps (spD 1 K mg df)) (kp : PySem.W.keepIn K (.ref g) = true) (b : Binds K fd ps []) (he : SndE ⟨K, sa, ns, mg, sp⟩ W te de) :
    SndE ⟨K, sa, ns, mg, sp⟩ W (fun σ H Q => tCons (tC (.ref g)) (tCons te tNil) σ H fun xs H1 => spAsk P w K mg base k tell xs H1 Q E0) (dAsk tell (df ns) de) := by
  intro H0 I H σ δ c a Q h
  refine he _ _ _ _ _ _ a _ (Res.imp (Res.bind h) fun x c1 I1 H1 g1 k1 h1 v hv => ?_)
  exact ⟨g, v, rfl, fd, ps, df, G, kp, b, _, I1, x, c1, rfl, rfl, k1, hv, h1.calm⟩
end
end Dn
namespace Dn
open PySem PySem.Spec PyProof.Rows L2
section
variable {Z : Zz} {W : XK}
/-! one's own list read as a value: lent, while an atom is told; or kept from then on -/
def lend1 (δ : List Sl) (i : Nat) : List Sl := match δ[i]? with
  | some (.ow xs) => δ.set i (.im (.d (.list xs)))
  | _ => δ
theorem At.lend {H0 I H : Hp} {σ : L2.St} {δ : List Sl} {c : Int} (a : At Z H0 I H σ δ c) (i : Nat) : ∃ I', Grows I I' ∧ At Z H0 I' H σ (lend1 δ i) c ∧ ∀ b, H0 b ≠ none → I b = none → I' b = none := by
  unfold lend1
  split
  · rename_i xs e
    obtain ⟨as, s⟩ := a.sl
    obtain ⟨l, vs, h1, m, h2, h3⟩ := s.own e
    obtain ⟨_, _, n1, n0, n2⟩ := s.at m
    obtain ⟨k2, gi, _⟩ := keepL a.k n1 h2 n2 h3
    obtain ⟨bs, s2, _⟩ := s.frz e h1 h2
    exact ⟨_, gi, ⟨⟨bs, s2⟩, k2⟩, fun b e n => by rw [upd_ne (fun z => e (by rw [z]; exact n0))]; exact n⟩
  · exact ⟨I, fun _ _ e => e, a, fun _ _ n => n⟩
def dFrz (i : Nat) (ds : DenS) : DenS := fun δ c => ds (lend1 δ i) c
theorem sns_frz {i : Nat} {ts : TS} {ds : DenS} (h : SndS Z W ts ds) : SndS Z W ts (dFrz i ds) := by
  intro I0 H0 I H σ δ c g a D r
  obtain ⟨I', gi, a', fr⟩ := a.lend i
  exact h I0 H0 I' H σ _ c ⟨fun b o e => gi b o (g.ii b o e), g.hh, g.th, fun b e n => fr b e (g.fr b e n)⟩ a' D r
def atom : Vl → Bool
  | .d .none => true
  | .d (.bool _) => true
  | .d (.int _) => true
  | .d (.str _) => true
  | _ => false
theorem atom_any {I J : Hp} {v : V} : ∀ {x : Vl}, atom x = true → VOk Z I v x → VOk Z J v x
  | .d .none, _, r => by cases r; exact .non
  | .d (.bool _), _, r => by cases r; exact .bl _
  | .d (.int _), _, r => by cases r; exact .int _
  | .d (.str _), _, r => by cases r; exact .str _
  | .d (.list _), h, _ => by cases h
  | .d (.tuple _), h, _ => by cases h
  | .d (.dict _), h, _ => by cases h
  | .st, h, _ => by cases h
  | .op _, h, _ => by cases h
  | .dk _, h, _ => by cases h
theorem back {I I' H I2 H2 : Hp} {c c2 : Int} (k : Ok Z I H c) (gi : Grows I I') (g : Gr Z I' H I2 H2) (k2 : Ok Z I2 H2 c2) : Gr Z I H I H2 ∧ Ok Z I H2 c2 := by
  refine ⟨⟨fun _ _ e => e, g.hh, g.th, fun _ _ n => n⟩, ⟨fun b o e => k2.ex b o (g.ii b o (gi b o e)), fun b e => ?_⟩⟩
  obtain ⟨n, p, e1, e2, e3⟩ := k.st b e
  obtain ⟨n2, p2, f1, f2, f3⟩ := k2.st b e
  exact ⟨n, p2, f1, f2, by rw [f2, ← e2]; exact e3⟩
theorem Res.lend {I I' H : Hp} {c : Int} (k : Ok Z I H c) (gi : Grows I I') {α : Type} {r : R α} {P : α → Int → Hp → Hp → Prop} (h : Res Z W I H r P) : Res Z W I' H r fun x c _ H2 => Gr Z I H I H2 ∧ Ok Z I H2 c ∧ P x c I H2 := by
  cases r with
  | no => exact h
  | ok a c => exact fun I2 H2 g k2 => ⟨(back k gi g k2).1, (back k gi g k2).2, h I H2 (back k gi g k2).1 (back k gi g k2).2⟩
  | ex x p c => exact fun I2 H2 cls d g k2 e z => h I H2 cls d (back k gi g k2).1 (back k gi g k2).2 e z
def dBor (i : Nat) (de : Den) : Den := fun δ c => (de (lend1 δ i) c).bind fun x c => if atom x = true then .ok x c else .no
theorem snd_bor {i : Nat} {te : TE} {de : Den} (he : SndE Z W te de) : SndE Z W te (dBor i de) := by
  intro H0 I H σ δ c a Q h
  obtain ⟨I', gi, a', _⟩ := a.lend i
  refine he _ _ _ _ _ _ a' _ (Res.imp (Res.lend a.k gi (Res.bind h)) fun x c1 I1 H1 g1 k1 q v hv => ?_)
  obtain ⟨_, k2, q⟩ := q
  split at q
  · rename_i hx
    exact Res.ok k2 q v (atom_any hx hv)
  · exact q.elim
def dBorT (i : Nat) (dt : DenT) : DenT := fun δ c => dt (lend1 δ i) c
theorem snd_borT {i : Nat} {tt : TT} {dt : DenT} (he : SndT Z W tt dt) : SndT Z W tt (dBorT i dt) := by
  intro H0 I H σ δ c a Q h
  obtain ⟨I', gi, a', _⟩ := a.lend i
  exact he _ _ _ _ _ _ a' _ (Res.imp (Res.lend a.k gi h) fun x c1 I1 H1 g1 k1 q => q.2.2)
/-! one's own list changed: xs[k] = e, xs.extend(e) -/
def dSetO (i : Nat) (dk de : Den) : DenS := fun δ c => (de δ c).bind fun y c => match δ[i]? with
  | some (.ow xs) => (dk δ c).bind fun k c => match y, k with
    | .d y, .d (.int n) => match ixN xs.length n with
      | some j => .ok (.nx (δ.set i (.ow (xs.set j y)))) c
      | none => .no
    | _, _ => .no
  | _ => .no
theorem sns_setO {i : Nat} {tk te : TE} {dk de : Den} (hk : SndE Z W tk dk) (he : SndE Z W te de) : SndS Z W (tAsg te (gSub (tVar i) tk rSetL)) (dSetO i dk de) := by
  intro I0 H0 I H σ δ c g a D h
  refine he _ _ _ _ _ _ a _ (Res.imp (Res.bindS g h) fun y c1 I1 H1 g1 k1 q v hv => ?_)
  obtain ⟨q1, q2⟩ := q
  split at q2
  · rename_i xs e
    have a1 := a.go g1 k1
    obtain ⟨as, s⟩ := a1.sl
    obtain ⟨l, vs, h1, m, h2, h3⟩ := s.own e
    obtain ⟨_, _, n1, n0, n2⟩ := s.at m
    refine ⟨.ref l, h1, ?_⟩
    refine hk _ _ _ _ _ _ a1 _ (Res.imp (Res.bindS q1 q2) fun k c2 I2 H2 g2 k2 q u hu => ?_)
    obtain ⟨q3, q4⟩ := q
    split at q4
    · split at q4
      · rename_i n _ j hj
        cases hu
        have hn : I2 l = none := g2.fr l (by rw [h2]; exact Option.some_ne_none _) n1
        have hd := dps_grows g2.ii _ _ h3
        refine ⟨l, vs, n, j, rfl, rfl, g2.hh _ _ n2 h2, by rw [dps_len h3]; exact hj, ?_⟩
        obtain ⟨g3, k3⟩ := own_step (o := .lst (vs.set j v)) q3 k2 n0 hn n2
        exact Res.okS g3 k3 q4 _ ⟨as, (s.mono g2).change (dps_set (vok_grows g2.ii hv) j hd) e h1⟩
      · exact q4.elim
    · exact q4.elim
  · exact q2.elim
def dExt (i : Nat) (de : DenL) : DenS := fun δ c => match δ[i]? with
  | some (.ow xs) => (de δ c).bind fun ys c => if xs.length + ys.length ≤ 16777216 then .ok (.nx (δ.set i (.ow (xs ++ ys)))) c else .no
  | _ => .no
theorem sns_ext {i : Nat} {te : TE} {de : DenL} (he : SndL Z W te de) : SndS Z W (tDrop (tBM Z.K "list" rExtend (tVar i) (tCons te tNil))) (dExt i de) := by
  intro I0 H0 I H σ δ c g a D h
  unfold dExt at h
  split at h
  · rename_i xs e
    obtain ⟨as, s⟩ := a.sl
    obtain ⟨l, vs, h1, m, h2, h3⟩ := s.own e
    obtain ⟨_, _, n1, n0, n2⟩ := s.at m
    refine ⟨.ref l, h1, .inl ⟨rfl, _, .inl (.inl h2)⟩, ?_⟩
    refine he _ _ _ _ _ _ a _ (Res.imp (Res.bindS g h) fun ys c1 I1 H1 g1 k1 q b ws f0 f1 f2 f3 f4 => ?_)
    obtain ⟨q1, q2⟩ := q
    split at q2
    · rename_i hz
      have hn : I1 l = none := g1.fr l (by rw [h2]; exact Option.some_ne_none _) n1
      have hd := dps_grows g1.ii _ _ h3
      refine ⟨l, b, vs, ws, rfl, rfl, g1.hh _ _ n2 h2, f2, by rw [dps_len h3, dps_len f4, sizeLine_eq]; exact hz, ?_⟩
      obtain ⟨g3, k3⟩ := own_step (o := .lst (vs ++ ws)) q1 k1 n0 hn n2
      exact Res.okS g3 k3 q2 _ ⟨as, (s.mono g1).change (dps_app hd f4) e h1⟩
    · exact q2.elim
  · exact h.elim
end
end Dn
namespace Dn
open PySem PySem.Spec PyProof.Rows L2
/-! readings over typed values: a reading m : M τ of a piece says what the piece's denotation gives, where m gives something -/
abbrev M (α : Type) := Int → R α
def M.ret {α : Type} (a : α) : M α := fun c => .ok a c
def M.bind {α β : Type} (m : M α) (f : α → M β) : M β := fun c => (m c).bind f
def M.no {α : Type} : M α := fun _ => .no
def M.err {α : Type} (k : Str) : M α := fun c => .ex k none c
def M.calm {α : Type} (m : M α) : M α := fun c => (m c).calm
def M.get : M Int := fun c => .ok c c
def M.put (n : Int) : M Unit := fun _ => .ok () n
def Let {α : Type} {β : Type} (a : α) (f : α → β) : β := f a
theorem R.bind_assoc {α β γ : Type} (r : R α) (f : α → Int → R β) (g : β → Int → R γ) : (r.bind f).bind g = r.bind fun a c => (f a c).bind g := by cases r <;> rfl
@[simp] theorem M.ret_bind {α β : Type} (a : α) (f : α → M β) : M.bind (M.ret a) f = f a := rfl
@[simp] theorem M.no_bind {α β : Type} (f : α → M β) : M.bind (M.no : M α) f = M.no := rfl
@[simp] theorem M.err_bind {α β : Type} (k : Str) (f : α → M β) : M.bind (M.err k : M α) f = M.err k := rfl
@[simp] theorem M.calm_ret {α : Type} (a : α) : M.calm (M.ret a) = M.ret a := rfl
@[simp] theorem M.bind_ret {α : Type} (m : M α) : M.bind m M.ret = m := by
  funext c
  show (m c).bind _ = m c
  cases m c <;> rfl
theorem M.bind_assoc {α β γ : Type} (m : M α) (f : α → M β) (g : β → M γ) : M.bind (M.bind m f) g = M.bind m fun a => M.bind (f a) g := by
  funext c
  exact R.bind_assoc _ _ _
theorem Let_eq {α β : Type} (a : α) (f : α → β) : Let a f = f a := rfl

/-! the judgement -/
def Rf {α γ : Type} (r : R α) (o : α → γ) (s : R γ) : Prop := match r with
  | .no => True
  | .ok a c => s = .ok (o a) c
  | .ex k p c => s = .ex k p c
def RK {τ γ : Type} (m : M τ) (o : τ → γ) (f : Int → R γ) : Prop := ∀ c, Rf (m c) o (f c)
def BK {β τ γ : Type} (f : Int → R β) (K : β → Int → R γ) (m : M τ) (o : τ → γ) : Prop := RK m o fun c => (f c).bind K
def PV {β : Type} (f : Int → R β) (v : β) : Prop := ∀ c, f c = .ok v c
section
variable {α β γ γ' τ τ' : Type}
theorem RK.ret {a : τ} {o : τ → γ} : RK (M.ret a) o (fun c => .ok (o a) c) := fun _ => rfl
theorem RK.err {k : Str} {o : τ → γ} : RK (M.err k) o (fun c => .ex k none c) := fun _ => rfl
theorem RK.no {o : τ → γ} {f : Int → R γ} : RK M.no o f := fun _ => trivial
theorem RK.of {m : M τ} {o : τ → γ} {f g : Int → R γ} (e : ∀ c, f c = g c) (h : RK m o g) : RK m o f := fun c => by rw [e]; exact h c
theorem RK.bind {mz : M α} {o1 : α → β} {f : Int → R β} {k : α → M τ} {o : τ → γ} {K : β → Int → R γ} (h : RK mz o1 f) (h2 : ∀ z, RK (k z) o (K (o1 z))) : BK f K (M.bind mz k) o := by
  intro c
  have h := h c
  show Rf ((mz c).bind k) o ((f c).bind K)
  cases e : mz c with
  | no => exact trivial
  | ok a c1 => rw [e] at h; rw [show f c = _ from h]; exact h2 a c1
  | ex x p c1 => rw [e] at h; rw [show f c = _ from h]; exact rfl
theorem BK.ok {f : Int → R β} {v : β} {m : M τ} {o : τ → γ} {K : β → Int → R γ} (h : PV f v) (h2 : RK m o (K v)) : BK f K m o := by
  intro c
  show Rf (m c) o ((f c).bind K)
  rw [h c]
  exact h2 c
theorem RK.calm {m : M τ} {o : τ → γ} {f : Int → R γ} (h : RK m o f) : RK (M.calm m) o (fun c => (f c).calm) := by
  intro c
  have h := h c
  show Rf ((m c).calm) o _
  cases e : m c with
  | no => exact trivial
  | ok a c1 => rw [e] at h; show ((f c).calm) = _; rw [show f c = _ from h]; exact rfl
  | ex x p c1 => exact trivial
theorem RK.pv {f : Int → R γ} {a : τ} {o : τ → γ} (h : PV f (o a)) : RK (M.ret a) o f := fun c => h c
/-- f c = g x c for all c, read off a known part -/
theorem PV.of {f g : Int → R β} {v : β} (e : ∀ c, f c = g c) (h : PV g v) : PV f v := fun c => (e c).trans (h c)
theorem PV.cv {f : Int → R β} {v w : β} (h : PV f v) (e : v = w) : PV f w := e ▸ h
end

/-! encodings -/
class Enc (α : Type) where
  enc : α → PyData
open Enc (enc)
instance : Enc Int := ⟨.int⟩
instance : Enc Bool := ⟨.bool⟩
instance : Enc Str := ⟨.str⟩
instance : Enc Unit := ⟨fun _ => .none⟩
instance : Enc PyData := ⟨fun d => d⟩
instance {α : Type} [Enc α] : Enc (List α) := ⟨fun l => .list (l.map enc)⟩
structure Tp (α : Type) where
  l : List α
deriving DecidableEq
instance {α : Type} [Enc α] : Enc (Tp α) := ⟨fun t => .tuple (t.l.map enc)⟩
structure P1 (α : Type) where
  a : α
deriving DecidableEq
structure P2 (α β : Type) where
  a : α
  b : β
deriving DecidableEq
structure P3 (α β γ : Type) where
  a : α
  b : β
  c : γ
deriving DecidableEq
structure P4 (α β γ δ : Type) where
  a : α
  b : β
  c : γ
  d : δ
deriving DecidableEq
structure P5 (α β γ δ ε : Type) where
  a : α
  b : β
  c : γ
  d : δ
  e : ε
deriving DecidableEq
structure P6 (α β γ δ ε ζ : Type) where
  a : α
  b : β
  c : γ
  d : δ
  e : ε
  f : ζ
deriving DecidableEq
section
variable {α β γ δ ε ζ : Type} [Enc α] [Enc β] [Enc γ] [Enc δ] [Enc ε] [Enc ζ]
instance : Enc (P1 α) := ⟨fun p => .tuple [enc p.a]⟩
instance : Enc (P2 α β) := ⟨fun p => .tuple [enc p.a, enc p.b]⟩
instance : Enc (P3 α β γ) := ⟨fun p => .tuple [enc p.a, enc p.b, enc p.c]⟩
instance : Enc (P4 α β γ δ) := ⟨fun p => .tuple [enc p.a, enc p.b, enc p.c, enc p.d]⟩
instance : Enc (P5 α β γ δ ε) := ⟨fun p => .tuple [enc p.a, enc p.b, enc p.c, enc p.d, enc p.e]⟩
instance : Enc (P6 α β γ δ ε ζ) := ⟨fun p => .tuple [enc p.a, enc p.b, enc p.c, enc p.d, enc p.e, enc p.f]⟩
instance : Enc (Option α) := ⟨fun o => match o with
  | none => .none
  | some a => enc a⟩
end
/-- types of data that == tells apart, of bounded depth -/
class Shp (α : Type) [Enc α] [DecidableEq α] where
  dep : Nat
  lay : ∀ a : α, (enc a).canLay0 = true
  dp : ∀ a : α, (enc a).depth ≤ dep
  eq : ∀ a b : α, PyData.eqv (enc a) (enc b) = decide (a = b)
theorem Shp.shaped {α : Type} [Enc α] [DecidableEq α] [s : Shp α] (h : s.dep ≤ 64) (a : α) : SeqAt.shaped (enc a) = true := by
  unfold SeqAt.shaped
  rw [s.lay a, Bool.true_and]
  exact decide_eq_true (Nat.le_trans (s.dp a) h)
instance : Shp Int := ⟨1, fun a => by simp [enc, PyData.canLay0], fun a => by simp [enc, PyData.depth], fun a b => by simp [enc, PyData.eqv]; rfl⟩
instance : Shp Bool := ⟨1, fun a => by simp [enc, PyData.canLay0], fun a => by simp [enc, PyData.depth], fun a b => by simp [enc, PyData.eqv]; cases a <;> cases b <;> rfl⟩
theorem canLayAll_of {α : Type} [Enc α] (h : ∀ a : α, (enc a).canLay0 = true) : ∀ l : List α, PyData.canLayAll0 (l.map enc) = true
  | [] => by simp [PyData.canLayAll0]
  | a :: l => by simp [PyData.canLayAll0, h a, canLayAll_of h l]
theorem depthAll_of {α : Type} [Enc α] {n : Nat} (h : ∀ a : α, (enc a).depth ≤ n) : ∀ l : List α, PyData.depthAll (l.map enc) ≤ n
  | [] => by simp [PyData.depthAll]
  | a :: l => by simp only [PyData.depthAll, List.map_cons]; exact Nat.max_le.mpr ⟨h a, depthAll_of h l⟩
theorem eqvAll_of {α : Type} [Enc α] [DecidableEq α] (h : ∀ a b : α, PyData.eqv (enc a) (enc b) = decide (a = b)) : ∀ l m : List α, PyData.eqvAll (l.map enc) (m.map enc) = decide (l = m)
  | [], [] => by simp [PyData.eqvAll]
  | [], _ :: _ => by simp [PyData.eqvAll]
  | _ :: _, [] => by simp [PyData.eqvAll]
  | a :: l, b :: m => by simp only [PyData.eqvAll, List.map_cons, h a b, eqvAll_of h l m, List.cons.injEq, Bool.decide_and]
section
variable {α β γ δ ε ζ : Type} [Enc α] [Enc β] [Enc γ] [Enc δ] [DecidableEq α] [DecidableEq β] [DecidableEq γ] [DecidableEq δ] [sa : Shp α] [sb : Shp β] [sc : Shp γ] [sd : Shp δ]
instance : Shp (List α) := ⟨sa.dep + 1, fun a => by simp only [enc, PyData.canLay0]; exact canLayAll_of sa.lay a, fun a => by simp only [enc, PyData.depth]; exact Nat.succ_le_succ (depthAll_of sa.dp a), fun a b => by simp only [enc, PyData.eqv]; exact eqvAll_of sa.eq a b⟩
instance : Shp (Tp α) := ⟨sa.dep + 1, fun a => by simp only [enc, PyData.canLay0]; exact canLayAll_of sa.lay a.l, fun a => by simp only [enc, PyData.depth]; exact Nat.succ_le_succ (depthAll_of sa.dp a.l), fun a b => by
  simp only [enc, PyData.eqv]
  refine (eqvAll_of sa.eq a.l b.l).trans ?_
  cases a; cases b
  simp only [Tp.mk.injEq]⟩
instance : Shp (P2 α β) := ⟨sa.dep + sb.dep + 1, fun a => by simp only [enc, PyData.canLay0, PyData.canLayAll0]; erw [sa.lay, sb.lay]; rfl, fun a => by
  have h1 := sa.dp a.a; have h2 := sb.dp a.b
  simp only [enc, PyData.depth, PyData.depthAll] at *
  omega, fun a b => by
  have h1 := sa.eq a.a b.a; have h2 := sb.eq a.b b.b
  obtain ⟨a1, a2⟩ := a; obtain ⟨b1, b2⟩ := b
  simp only [enc, PyData.eqv, PyData.eqvAll, P2.mk.injEq, Bool.decide_and, Bool.and_true] at *
  rw [h1, h2]⟩
instance : Shp (P3 α β γ) := ⟨sa.dep + sb.dep + sc.dep + 1, fun a => by simp only [enc, PyData.canLay0, PyData.canLayAll0]; erw [sa.lay, sb.lay, sc.lay]; rfl, fun a => by
  have h1 := sa.dp a.a; have h2 := sb.dp a.b; have h3 := sc.dp a.c
  simp only [enc, PyData.depth, PyData.depthAll] at *
  omega, fun a b => by
  have h1 := sa.eq a.a b.a; have h2 := sb.eq a.b b.b; have h3 := sc.eq a.c b.c
  obtain ⟨a1, a2, a3⟩ := a; obtain ⟨b1, b2, b3⟩ := b
  simp only [enc, PyData.eqv, PyData.eqvAll, P3.mk.injEq, Bool.decide_and, Bool.and_true] at *
  rw [h1, h2, h3]⟩
instance : Shp (P4 α β γ δ) := ⟨sa.dep + sb.dep + sc.dep + sd.dep + 1, fun a => by simp only [enc, PyData.canLay0, PyData.canLayAll0]; erw [sa.lay, sb.lay, sc.lay, sd.lay]; rfl, fun a => by
  have h1 := sa.dp a.a; have h2 := sb.dp a.b; have h3 := sc.dp a.c; have h4 := sd.dp a.d
  simp only [enc, PyData.depth, PyData.depthAll] at *
  omega, fun a b => by
  have h1 := sa.eq a.a b.a; have h2 := sb.eq a.b b.b; have h3 := sc.eq a.c b.c; have h4 := sd.eq a.d b.d
  obtain ⟨a1, a2, a3, a4⟩ := a; obtain ⟨b1, b2, b3, b4⟩ := b
  simp only [enc, PyData.eqv, PyData.eqvAll, P4.mk.injEq, Bool.decide_and, Bool.and_true] at *
  rw [h1, h2, h3, h4]⟩
end
end Dn
namespace Dn
open PySem PySem.Spec PyProof.Rows L2
open Dn.Enc (enc)
section
variable {α β γ ρ σ τ : Type} {δ δ' : List Sl} {m : M τ} {o : τ → γ}
/-! pure pieces -/
theorem pv_var {i : Nat} {x : Vl} (h : δ[i]? = some (.im x)) : PV (dVar i δ) x := fun c => by unfold dVar; rw [h]
theorem pv_c {x : Vl} : PV (dC x δ) x := fun _ => rfl
theorem pv_op {g : Vl → Vl → Int → R Vl} {da db : Den} {x y z : Vl} (ha : PV (da δ) x) (hb : PV (db δ) y) (h : PV (g x y) z) : PV (dOp g da db δ) z := fun c => by
  unfold dOp; rw [ha c]; show (db δ c).bind _ = _; rw [hb c]; exact h c
theorem pv_un {g : Vl → Int → R Vl} {da : Den} {x z : Vl} (ha : PV (da δ) x) (h : PV (g x) z) : PV (dUn g da δ) z := fun c => by
  unfold dUn; rw [ha c]; exact h c
theorem pv_cb {g : List Vl → Int → R Vl} {da : DenA} {x : List Vl} {z : Vl} (ha : PV (da δ) x) (h : PV (g x) z) : PV (dCB g da δ) z := fun c => by
  unfold dCB; rw [ha c]; exact h c
theorem pv_cbl {g : List Vl → Int → R (List PyData)} {da : DenA} {x : List Vl} {z : List PyData} (ha : PV (da δ) x) (h : PV (g x) z) : PV (dCBL g da δ) z := fun c => by
  unfold dCBL; rw [ha c]; exact h c
theorem pv_nil : PV (dNil δ) [] := fun _ => rfl
theorem pv_cons {da : Den} {dr : DenA} {x : Vl} {xs : List Vl} (ha : PV (da δ) x) (hr : PV (dr δ) xs) : PV (dCons da dr δ) (x :: xs) := fun c => by
  unfold dCons; rw [ha c]; show (dr δ c).bind _ = _; rw [hr c]; rfl
theorem pv_tup {da : DenA} {xs : List Vl} {ys : List PyData} (ha : PV (da δ) xs) (h : datas xs = some ys) (hl : ys.length ≤ 16777216) : PV (dTup da δ) (.d (.tuple ys)) := fun c => by
  unfold dTup; rw [ha c]; show (match datas xs with | some ys => _ | none => _) = _; rw [h]; exact if_pos hl
theorem pv_lst {da : DenA} {xs : List Vl} {ys : List PyData} (ha : PV (da δ) xs) (h : datas xs = some ys) (hl : ys.length ≤ 16777216) : PV (dLst da δ) ys := fun c => by
  unfold dLst; rw [ha c]; show (match datas xs with | some ys => _ | none => _) = _; rw [h]; exact if_pos hl
theorem pv_L {de : DenL} {xs : List PyData} (h : PV (de δ) xs) : PV (dL de δ) (.d (.list xs)) := fun c => by
  unfold dL; rw [h c]; rfl
theorem pv_te {de : Den} {b : Bool} (h : PV (de δ) (.d (.bool b))) : PV (dTe de δ) b := fun c => by
  unfold dTe; rw [h c]; rfl
theorem pv_and {da db : DenT} {a b : Bool} (ha : PV (da δ) a) (hb : PV (db δ) b) : PV (dAnd da db δ) (a && b) := fun c => by
  unfold dAnd; rw [ha c]; cases a
  · rfl
  · exact hb c
theorem pv_or {da db : DenT} {a b : Bool} (ha : PV (da δ) a) (hb : PV (db δ) b) : PV (dOr da db δ) (a || b) := fun c => by
  unfold dOr; rw [ha c]; cases a
  · exact hb c
  · rfl
theorem pv_not {da : DenT} {a : Bool} (ha : PV (da δ) a) : PV (dNot da δ) (!a) := fun c => by
  unfold dNot; rw [ha c]; rfl
theorem pv_andV {da db : Den} {a b : Bool} (ha : PV (da δ) (.d (.bool a))) (hb : PV (db δ) (.d (.bool b))) : PV (dAndV da db δ) (.d (.bool (a && b))) := fun c => by
  unfold dAndV; rw [pv_te ha c]; cases a
  · rfl
  · exact hb c
theorem pv_orV {da db : Den} {a b : Bool} (ha : PV (da δ) (.d (.bool a))) (hb : PV (db δ) (.d (.bool b))) : PV (dOrV da db δ) (.d (.bool (a || b))) := fun c => by
  unfold dOrV; rw [pv_te ha c]; cases a
  · exact hb c
  · rfl
theorem pv_notV {da : Den} {a : Bool} (ha : PV (da δ) (.d (.bool a))) : PV (dNotV da δ) (.d (.bool (!a))) := fun c => by
  unfold dNotV; rw [pv_te ha c]; rfl
theorem pv_tru {de : Den} {v : Vl} {b : Bool} (h : PV (de δ) v) (h2 : PV (gTru v) b) : PV (dTru de δ) b := fun c => by
  unfold dTru; rw [h c]; exact h2 c
theorem pv_truO {i : Nat} {xs : List PyData} (h : δ[i]? = some (.ow xs)) : PV (dTruO i δ) (!xs.isEmpty) := fun c => by
  unfold dTruO; rw [h]
theorem pv_if {dt : DenT} {da db : Den} {b : Bool} {x y : PyData} (ht : PV (dt δ) b) (ha : PV (da δ) (.d x)) (hb : PV (db δ) (.d y)) : PV (dIf dt da db δ) (.d (if b = true then x else y)) := fun c => by
  unfold dIf; rw [ht c]; cases b
  · exact hb c
  · exact ha c
theorem pv_chain {g g' : Vl → Vl → Int → R Vl} {da db dc : Den} {x y u : Vl} {a b : Bool} (ha : PV (da δ) x) (hb : PV (db δ) y) (hc : PV (dc δ) u) (h : PV (g x y) (.d (.bool a))) (h' : PV (g' y u) (.d (.bool b))) : PV (dChain g g' da db dc δ) (.d (.bool (a && b))) := fun c => by
  unfold dChain; rw [ha c]; show (db δ c).bind _ = _; rw [hb c]; show (g x y c).bind _ = _; rw [h c]; cases a
  · rfl
  · show (dc δ c).bind _ = _; rw [hc c]; exact h' c
theorem pv_lenO {i : Nat} {xs : List PyData} (h : δ[i]? = some (.ow xs)) : PV (dLenO i δ) (.d (.int xs.length)) := fun c => by
  unfold dLenO; rw [h]
theorem pv_st0 {ns : List Int} {i : Nat} (h : δ[i]? = some (.im .st)) : PV (dSt0 ns i δ) (.d (.list (ns.map .int))) := fun c => by
  unfold dSt0; rw [h]
theorem pv_noO : PV (dNoO δ) none := fun _ => rfl
theorem pv_soO {da : Den} {i : Int} (h : PV (da δ) (.d (.int i))) : PV (dSoO da δ) (some i) := fun c => by
  unfold dSoO; rw [h c]; rfl
def cut {α : Type} (xs : List α) (lo hi : Option Int) : List α := (xs.drop (HT.sIx xs.length 0 lo)).take (HT.sIx xs.length xs.length hi - HT.sIx xs.length 0 lo)
theorem cutD_map [Enc α] (xs : List α) (lo hi : Option Int) : cutD (xs.map enc) lo hi = (cut xs lo hi).map enc := by
  unfold cutD cut
  rw [List.length_map, List.map_take, List.map_drop]
theorem pv_slL [Enc α] {da : Den} {dl dh : DenO} {xs : List α} {lo hi : Option Int} (ha : PV (da δ) (.d (enc xs))) (hl : PV (dl δ) lo) (hh : PV (dh δ) hi) : PV (dSlL da dl dh δ) ((cut xs lo hi).map enc) := fun c => by
  unfold dSlL; rw [ha c]; show (dl δ c).bind _ = _; rw [hl c]; show (dh δ c).bind _ = _; rw [hh c]
  show R.ok (cutD (xs.map enc) lo hi) c = _
  rw [cutD_map]
theorem pv_slT [Enc α] {da : Den} {dl dh : DenO} {xs : Tp α} {lo hi : Option Int} (ha : PV (da δ) (.d (enc xs))) (hl : PV (dl δ) lo) (hh : PV (dh δ) hi) : PV (dSlT da dl dh δ) (.d (enc (Tp.mk (cut xs.l lo hi)))) := fun c => by
  unfold dSlT; rw [ha c]; show (dl δ c).bind _ = _; rw [hl c]; show (dh δ c).bind _ = _; rw [hh c]
  show R.ok (Vl.d (.tuple (cutD (xs.l.map enc) lo hi))) c = _
  rw [cutD_map]; rfl

/-! what the operators do -/
theorem k_add {x y : Int} : PV (aAdd (.d (.int x)) (.d (.int y))) (.d (.int (x + y))) := fun _ => rfl
theorem k_sub {x y : Int} : PV (aSub (.d (.int x)) (.d (.int y))) (.d (.int (x - y))) := fun _ => rfl
theorem k_lt {x y : Int} : PV (aLt (.d (.int x)) (.d (.int y))) (.d (.bool (decide (x < y)))) := fun _ => rfl
theorem k_le {x y : Int} : PV (aLe (.d (.int x)) (.d (.int y))) (.d (.bool (decide (x ≤ y)))) := fun _ => rfl
theorem k_gt {x y : Int} : PV (aGt (.d (.int x)) (.d (.int y))) (.d (.bool (decide (y < x)))) := fun _ => rfl
theorem k_ge {x y : Int} : PV (aGe (.d (.int x)) (.d (.int y))) (.d (.bool (decide (y ≤ x)))) := fun _ => rfl
theorem k_neg {x : Int} : PV (gNeg (.d (.int x))) (.d (.int (-x))) := fun _ => rfl
theorem k_divL {x y : Int} (h : bDiv x y = true) : PV (aDiv (.d (.int x)) (.d (.int y))) (.d (.int (x / y))) := fun c => by
  show (if bDiv x y = true then R.ok (Vl.d (.int (x / y))) c else R.no) = _; rw [if_pos h]
theorem k_modL {x y : Int} (h : decide (0 < y) = true) : PV (aMod (.d (.int x)) (.d (.int y))) (.d (.int (x % y))) := fun c => by
  show (if decide (0 < y) = true then R.ok (Vl.d (.int (x % y))) c else R.no) = _; rw [if_pos h]
theorem k_powL {x y z : Int} (h : decide (0 ≤ y ∧ y ≤ 1000 ∧ x.natAbs < 1000) = true) (e : x ^ y.toNat = z) : PV (aPow (.d (.int x)) (.d (.int y))) (.d (.int z)) := fun c => by
  show (if decide (0 ≤ y ∧ y ≤ 1000 ∧ x.natAbs < 1000) = true then R.ok (Vl.d (.int (x ^ y.toNat))) c else R.no) = _; rw [if_pos h, e]
def mulM (x y : Int) : M Int := if bMul x y = true then M.ret (x * y) else M.no
def divM (x y : Int) : M Int := if bDiv x y = true then M.ret (x / y) else M.no
def modM (x y : Int) : M Int := if 0 < y then M.ret (x % y) else M.no
def eI : Int → Vl := fun i => .d (.int i)
theorem k_mul {x y : Int} : RK (mulM x y) (fun z => Vl.d (enc z)) (aMul (.d (.int x)) (.d (.int y))) := fun c => by
  unfold mulM
  by_cases h : bMul x y = true
  · rw [if_pos h]; show (if bMul x y = true then R.ok (Vl.d (.int (x * y))) c else R.no) = _; rw [if_pos h]; rfl
  · rw [if_neg h]; exact trivial
theorem k_div {x y : Int} : RK (divM x y) (fun z => Vl.d (enc z)) (aDiv (.d (.int x)) (.d (.int y))) := fun c => by
  unfold divM
  by_cases h : bDiv x y = true
  · rw [if_pos h]; show (if bDiv x y = true then R.ok (Vl.d (.int (x / y))) c else R.no) = _; rw [if_pos h]; rfl
  · rw [if_neg h]; exact trivial
theorem k_mod {x y : Int} : RK (modM x y) (fun z => Vl.d (enc z)) (aMod (.d (.int x)) (.d (.int y))) := fun c => by
  unfold modM
  by_cases h : 0 < y
  · rw [if_pos h]; show (if decide (0 < y) = true then R.ok (Vl.d (.int (x % y))) c else R.no) = _; rw [if_pos (decide_eq_true h)]; rfl
  · rw [if_neg h]; exact trivial
theorem k_eqI {x y : Int} : PV (gEq false (.d (.int x)) (.d (.int y))) (.d (.bool (x == y))) := fun c => gEq_int x y c
theorem k_neI {x y : Int} : PV (gEq true (.d (.int x)) (.d (.int y))) (.d (.bool (x != y))) := fun c => gNe_int x y c
theorem k_eq [Enc α] [DecidableEq α] [s : Shp α] {x y : α} (h : s.dep ≤ 64) : PV (gEq false (.d (enc x)) (.d (enc y))) (.d (.bool (decide (x = y)))) := fun c => by
  show (if SeqAt.shaped (enc x) = true ∧ SeqAt.shaped (enc y) = true then R.ok (Vl.d (.bool (if false = true then !PyData.eqv (enc x) (enc y) else PyData.eqv (enc x) (enc y)))) c else R.no) = _
  rw [if_pos ⟨Shp.shaped h x, Shp.shaped h y⟩, s.eq x y]; rfl
theorem k_ne [Enc α] [DecidableEq α] [s : Shp α] {x y : α} (h : s.dep ≤ 64) : PV (gEq true (.d (enc x)) (.d (enc y))) (.d (.bool (decide (x ≠ y)))) := fun c => by
  show (if SeqAt.shaped (enc x) = true ∧ SeqAt.shaped (enc y) = true then R.ok (Vl.d (.bool (if true = true then !PyData.eqv (enc x) (enc y) else PyData.eqv (enc x) (enc y)))) c else R.no) = _
  rw [if_pos ⟨Shp.shaped h x, Shp.shaped h y⟩, s.eq x y, if_pos rfl]; simp
def eqM (x y : PyData) : M Bool := if SeqAt.shaped x = true ∧ SeqAt.shaped y = true then M.ret (PyData.eqv x y) else M.no
theorem k_eqD {x y : PyData} : RK (eqM x y) (fun z => Vl.d (enc z)) (gEq false (.d x) (.d y)) := fun c => by
  unfold eqM
  by_cases h : SeqAt.shaped x = true ∧ SeqAt.shaped y = true
  · rw [if_pos h]; show (if SeqAt.shaped x = true ∧ SeqAt.shaped y = true then R.ok (Vl.d (.bool (if false = true then !PyData.eqv x y else PyData.eqv x y))) c else R.no) = _; rw [if_pos h]; rfl
  · rw [if_neg h]; exact trivial
theorem k_neD {x y : PyData} : RK (M.bind (eqM x y) fun b => M.ret (!b)) (fun z => Vl.d (enc z)) (gEq true (.d x) (.d y)) := fun c => by
  unfold eqM
  by_cases h : SeqAt.shaped x = true ∧ SeqAt.shaped y = true
  · rw [if_pos h]; show (if SeqAt.shaped x = true ∧ SeqAt.shaped y = true then R.ok (Vl.d (.bool (if true = true then !PyData.eqv x y else PyData.eqv x y))) c else R.no) = _; rw [if_pos h]; rfl
  · rw [if_neg h]; exact trivial
theorem k_eqS {x y : Str} : PV (gEqS (.d (.str x)) (.d (.str y))) (.d (.bool (decide (x = y)))) := fun _ => rfl
theorem k_isN [Enc α] {x : Option α} (hn : ∀ a : α, ∀ c, gIsN false (.d (enc a)) (.d .none) c = .ok (.d (.bool false)) c) : PV (gIsN false (.d (enc x)) (.d .none)) (.d (.bool x.isNone)) := fun c => by
  cases x
  · rfl
  · exact hn _ c
theorem k_notN [Enc α] {x : Option α} (hn : ∀ a : α, ∀ c, gIsN true (.d (enc a)) (.d .none) c = .ok (.d (.bool true)) c) : PV (gIsN true (.d (enc x)) (.d .none)) (.d (.bool x.isSome)) := fun c => by
  cases x
  · rfl
  · exact hn _ c
/-! flat data in a list or tuple -/
class Flt1 (α : Type) [Enc α] [DecidableEq α] where
  v : α → V
  t : ∀ a : α, toV (enc a) = some (v a)
  i : ∀ a b : α, inV (v a) [v b] = decide (a = b)
theorem toVs_map [Enc α] [DecidableEq α] [f : Flt1 α] : ∀ l : List α, toVs (l.map enc) = some (l.map f.v)
  | [] => rfl
  | a :: l => by
    have e := f.t a
    simp only [List.map_cons, toVs, e, toVs_map l]
end
end Dn
namespace Dn
open PySem PySem.Spec PyProof.Rows L2
open Dn.Enc (enc)
def tupK (xs : List Vl) (c : Int) : R Vl := match datas xs with
  | some ys => if ys.length ≤ 16777216 then R.ok (Vl.d (.tuple ys)) c else .no
  | none => .no
def lstK (xs : List Vl) (c : Int) : R (List PyData) := match datas xs with
  | some ys => if ys.length ≤ 16777216 then R.ok ys c else .no
  | none => .no
theorem lenok {n : Nat} (h : Nat.ble n 16777216 = true := by rfl) : n ≤ 16777216 := Nat.le_of_ble_eq_true h
section
variable {α β γ ρ σ τ : Type} {δ δ' : List Sl} {m : M τ} {o : τ → γ}
/-! pieces in their order -/
theorem b_op {g : Vl → Vl → Int → R Vl} {da db : Den} {K : Vl → Int → R γ} (h : BK (da δ) (fun x c => (db δ c).bind fun y c => (g x y c).bind K) m o) : BK (dOp g da db δ) K m o := by
  intro c
  have h := h c
  show Rf (m c) o ((dOp g da db δ c).bind K)
  unfold dOp
  rw [R.bind_assoc]
  simp only [R.bind_assoc]
  exact h
theorem b_un {g : Vl → Int → R Vl} {da : Den} {K : Vl → Int → R γ} (h : BK (da δ) (fun x c => (g x c).bind K) m o) : BK (dUn g da δ) K m o := by
  intro c
  show Rf (m c) o ((dUn g da δ c).bind K)
  unfold dUn
  rw [R.bind_assoc]
  exact h c
theorem b_cb {g : List Vl → Int → R Vl} {da : DenA} {K : Vl → Int → R γ} (h : BK (da δ) (fun x c => (g x c).bind K) m o) : BK (dCB g da δ) K m o := by
  intro c
  show Rf (m c) o ((dCB g da δ c).bind K)
  unfold dCB
  rw [R.bind_assoc]
  exact h c
theorem b_cbl {g : List Vl → Int → R (List PyData)} {da : DenA} {K : List PyData → Int → R γ} (h : BK (da δ) (fun x c => (g x c).bind K) m o) : BK (dCBL g da δ) K m o := by
  intro c
  show Rf (m c) o ((dCBL g da δ c).bind K)
  unfold dCBL
  rw [R.bind_assoc]
  exact h c
theorem b_cons {da : Den} {dr : DenA} {K : List Vl → Int → R γ} (h : BK (da δ) (fun x c => (dr δ c).bind fun xs c => K (x :: xs) c) m o) : BK (dCons da dr δ) K m o := by
  intro c
  show Rf (m c) o ((dCons da dr δ c).bind K)
  unfold dCons
  rw [R.bind_assoc]
  simp only [R.bind_assoc]
  exact h c
theorem b_nil {K : List Vl → Int → R γ} (h : RK m o (K [])) : BK (dNil δ) K m o := fun c => h c
theorem b_call {n : Nat} {df : List Vl → Int → R Vl} {da : DenA} {K : Vl → Int → R γ} (h : BK (da δ) (fun xs c => (if xs.length = n then df xs c else .no).bind K) m o) : BK (dCall n df da δ) K m o := by
  intro c
  show Rf (m c) o ((dCall n df da δ c).bind K)
  unfold dCall
  rw [R.bind_assoc]
  exact h c
theorem b_call0 {n : Nat} {df : List Vl → Int → R Vl} {da : DenA} {K : Vl → Int → R γ} (h : BK (da δ) (fun xs c => (if xs.length = n then (df xs c).calm else .no).bind K) m o) : BK (dCall0 n df da δ) K m o := by
  intro c
  show Rf (m c) o ((dCall0 n df da δ c).bind K)
  unfold dCall0
  rw [R.bind_assoc]
  exact h c
/-- at a call: what the def's reading promises -/
theorem r_call {n : Nat} {df : List Vl → Int → R Vl} {xs : List Vl} {mz : M α} {o1 : α → Vl} (hn : xs.length = n) (h : RK mz o1 (df xs)) : RK mz o1 (fun c => if xs.length = n then df xs c else .no) := fun c => by
  show Rf (mz c) o1 (if xs.length = n then df xs c else .no)
  rw [if_pos hn]; exact h c
theorem r_call0 {n : Nat} {df : List Vl → Int → R Vl} {xs : List Vl} {mz : M α} {o1 : α → Vl} (hn : xs.length = n) (h : RK mz o1 (df xs)) : RK (M.calm mz) o1 (fun c => if xs.length = n then (df xs c).calm else .no) := fun c => by
  show Rf (M.calm mz c) o1 (if xs.length = n then (df xs c).calm else .no)
  rw [if_pos hn]; exact RK.calm h c
theorem b_tup {da : DenA} {K : Vl → Int → R γ} (h : BK (da δ) (fun xs c => (tupK xs c).bind K) m o) : BK (dTup da δ) K m o := by
  intro c
  show Rf (m c) o ((dTup da δ c).bind K)
  unfold dTup
  rw [R.bind_assoc]
  exact h c
theorem b_lst {da : DenA} {K : List PyData → Int → R γ} (h : BK (da δ) (fun xs c => (lstK xs c).bind K) m o) : BK (dLst da δ) K m o := by
  intro c
  show Rf (m c) o ((dLst da δ c).bind K)
  unfold dLst
  rw [R.bind_assoc]
  exact h c
theorem k_tup {xs : List Vl} {ys : List PyData} (h : datas xs = some ys) (hl : ys.length ≤ 16777216) : PV (tupK xs) (.d (.tuple ys)) := fun c => by
  unfold tupK
  rw [h]; exact if_pos hl
theorem k_lst {xs : List Vl} {ys : List PyData} (h : datas xs = some ys) (hl : ys.length ≤ 16777216) : PV (lstK xs) ys := fun c => by
  unfold lstK
  rw [h]; exact if_pos hl
theorem b_L {de : DenL} {K : Vl → Int → R γ} (h : BK (de δ) (fun xs c => K (.d (.list xs)) c) m o) : BK (dL de δ) K m o := by
  intro c
  have h := h c
  show Rf (m c) o ((dL de δ c).bind K)
  unfold dL
  have e : ((de δ c).map fun xs => Vl.d (.list xs)).bind K = (de δ c).bind fun xs c => K (.d (.list xs)) c := by cases de δ c <;> rfl
  rw [e]
  exact h
theorem b_te {de : Den} {K : Bool → Int → R γ} (h : BK (de δ) (fun x c => (match x with | .d (.bool b) => R.ok b c | _ => .no).bind K) m o) : BK (dTe de δ) K m o := by
  intro c
  show Rf (m c) o ((dTe de δ c).bind K)
  unfold dTe
  rw [R.bind_assoc]
  exact h c
theorem b_tru {de : Den} {K : Bool → Int → R γ} (h : BK (de δ) (fun x c => (gTru x c).bind K) m o) : BK (dTru de δ) K m o := by
  intro c
  show Rf (m c) o ((dTru de δ c).bind K)
  unfold dTru
  rw [R.bind_assoc]
  exact h c
/-- a test, then what follows it -/
theorem b_not {dt : DenT} {K : Bool → Int → R γ} (h : BK (dt δ) (fun b c => K (!b) c) m o) : BK (dNot dt δ) K m o := by
  intro c
  show Rf (m c) o ((dNot dt δ c).bind K)
  unfold dNot
  rw [R.bind_assoc]
  exact h c
theorem b_and {da db : DenT} {K : Bool → Int → R γ} (h : BK (da δ) (fun b c => (if b = true then db δ c else .ok false c).bind K) m o) : BK (dAnd da db δ) K m o := by
  intro c
  show Rf (m c) o ((dAnd da db δ c).bind K)
  unfold dAnd
  rw [R.bind_assoc]
  exact h c
theorem b_or {da db : DenT} {K : Bool → Int → R γ} (h : BK (da δ) (fun b c => (if b = true then .ok true c else db δ c).bind K) m o) : BK (dOr da db δ) K m o := by
  intro c
  show Rf (m c) o ((dOr da db δ c).bind K)
  unfold dOr
  rw [R.bind_assoc]
  exact h c
theorem b_andV {da db : Den} {K : Vl → Int → R γ} (h : BK (dTe da δ) (fun b c => (if b = true then db δ c else .ok (.d (.bool false)) c).bind K) m o) : BK (dAndV da db δ) K m o := by
  intro c
  show Rf (m c) o ((dAndV da db δ c).bind K)
  unfold dAndV
  rw [R.bind_assoc]
  exact h c
theorem b_orV {da db : Den} {K : Vl → Int → R γ} (h : BK (dTe da δ) (fun b c => (if b = true then .ok (.d (.bool true)) c else db δ c).bind K) m o) : BK (dOrV da db δ) K m o := by
  intro c
  show Rf (m c) o ((dOrV da db δ c).bind K)
  unfold dOrV
  rw [R.bind_assoc]
  exact h c
theorem b_notV {da : Den} {K : Vl → Int → R γ} (h : BK (dTe da δ) (fun b c => K (.d (.bool (!b))) c) m o) : BK (dNotV da δ) K m o := by
  intro c
  show Rf (m c) o ((dNotV da δ c).bind K)
  unfold dNotV
  rw [R.bind_assoc]
  exact h c
theorem b_if {dt : DenT} {da db : Den} {K : Vl → Int → R γ} (h : BK (dt δ) (fun b c => (if b = true then da δ c else db δ c).bind K) m o) : BK (dIf dt da db δ) K m o := by
  intro c
  show Rf (m c) o ((dIf dt da db δ c).bind K)
  unfold dIf
  rw [R.bind_assoc]
  exact h c
theorem b_chain {g g' : Vl → Vl → Int → R Vl} {da db dc : Den} {K : Vl → Int → R γ} (h : BK (da δ) (fun x c => (db δ c).bind fun y c => (g x y c).bind fun z c => (match z with
    | .d (.bool b) => if b = true then (dc δ c).bind fun u c => g' y u c else .ok (.d (.bool false)) c
    | _ => .no).bind K) m o) : BK (dChain g g' da db dc δ) K m o := by
  intro c
  have h := h c
  show Rf (m c) o ((dChain g g' da db dc δ c).bind K)
  unfold dChain
  rw [R.bind_assoc]
  simp only [R.bind_assoc]
  exact h
/-! branches, by values and by M -/
/-- two branches of one M each: their answers go on together -/
theorem RK.ite {b : Bool} {m1 m2 : M τ} {f g : Int → R γ} (h1 : RK m1 o f) (h2 : RK m2 o g) : RK (if b = true then m1 else m2) o (fun c => if b = true then f c else g c) := by
  cases b
  · exact h2
  · exact h1
theorem BK.ite {b : Bool} {m1 m2 : M τ} {f g : Int → R β} {K : β → Int → R γ} (h1 : BK f K m1 o) (h2 : BK g K m2 o) : RK (if b = true then m1 else m2) o (fun c => (if b = true then f c else g c).bind K) := by
  cases b
  · exact h2
  · exact h1
/-- what is left at an end: K takes the value on -/
theorem BK.tail {f : Int → R β} {mz : M τ} {o1 : τ → β} (h : RK mz o1 f) : BK f (fun x c => .ok x c) mz o1 := by
  intro c
  have h := h c
  show Rf (mz c) o1 ((f c).bind fun x c => .ok x c)
  cases e : mz c with
  | no => exact trivial
  | ok a c1 => rw [e] at h; rw [show f c = _ from h]; rfl
  | ex x p c1 => rw [e] at h; rw [show f c = _ from h]; rfl

/-! statements -/
theorem b_seq {a b : DenS} {K : Out → Int → R γ} (h : BK (a δ) (fun w c => (seqO b w c).bind K) m o) : BK (dSeq a b δ) K m o := by
  intro c
  show Rf (m c) o ((dSeq a b δ c).bind K)
  unfold dSeq
  rw [R.bind_assoc]
  exact h c
theorem seqO_assoc (b r : DenS) (w : Out) (c : Int) : (seqO b w c).bind (seqO r) = seqO (dSeq b r) w c := by cases w <;> rfl
theorem dSeq_assoc (a b r : DenS) : dSeq (dSeq a b) r = dSeq a (dSeq b r) := by
  funext δ c
  unfold dSeq
  rw [R.bind_assoc]
  congr 1
  funext w c
  exact seqO_assoc b r w c
theorem b_assoc {a b r : DenS} {K : Out → Int → R γ} (h : BK (dSeq a (dSeq b r) δ) K m o) : BK (dSeq (dSeq a b) r δ) K m o := by rw [dSeq_assoc]; exact h
theorem b_next {r : DenS} {K : Out → Int → R γ} (h : BK (r δ) K m o) : BK (dSeq dNext r δ) K m o := h
theorem b_end {K : Out → Int → R γ} (h : RK m o (K (.nx δ))) : BK (dNext δ) K m o := h
theorem b_set {i : Nat} {de : Den} {r : DenS} {K : Out → Int → R γ} (h : BK (de δ) (fun x c => (r (δ.set i (.im x)) c).bind K) m o) : BK (dSeq (dSet i de) r δ) K m o := by
  refine b_seq ?_
  intro c
  show Rf (m c) o ((dSet i de δ c).bind _)
  unfold dSet
  rw [R.bind_assoc]
  exact h c
theorem b_let [Enc α] {i : Nat} {de : Den} {r : DenS} {K : Out → Int → R γ} {x : α} {f : α → M τ} (he : PV (de δ) (.d (enc x))) (h : ∀ x : α, BK (r (δ.set i (.im (.d (enc x))))) K (f x) o) : BK (dSeq (dSet i de) r δ) K (Let x f) o :=
  b_set (BK.ok he (h x))
theorem b_new {i : Nat} {de : DenL} {r : DenS} {K : Out → Int → R γ} (h : BK (de δ) (fun x c => (r (δ.set i (.ow x)) c).bind K) m o) : BK (dSeq (dNew i de) r δ) K m o := by
  refine b_seq ?_
  intro c
  show Rf (m c) o ((dNew i de δ c).bind _)
  unfold dNew
  rw [R.bind_assoc]
  exact h c
theorem b_letL [Enc α] {i : Nat} {de : DenL} {r : DenS} {K : Out → Int → R γ} {x : List α} {f : List α → M τ} (he : PV (de δ) (x.map enc)) (h : ∀ x : List α, BK (r (δ.set i (.ow (x.map enc)))) K (f x) o) : BK (dSeq (dNew i de) r δ) K (Let x f) o :=
  b_new (BK.ok he (h x))
theorem b_drop {de : Den} {r : DenS} {K : Out → Int → R γ} (h : BK (de δ) (fun _ c => (r δ c).bind K) m o) : BK (dSeq (dDrop de) r δ) K m o := by
  refine b_seq ?_
  intro c
  show Rf (m c) o ((dDrop de δ c).bind _)
  unfold dDrop
  rw [R.bind_assoc]
  exact h c
theorem b_ret {de : Den} {r : DenS} {K : Out → Int → R γ} (h : BK (de δ) (fun x c => K (.rt x) c) m o) : BK (dSeq (dRet de) r δ) K m o := by
  refine b_seq ?_
  intro c
  show Rf (m c) o ((dRet de δ c).bind _)
  unfold dRet
  rw [R.bind_assoc]
  exact h c
theorem b_retN {r : DenS} {K : Out → Int → R γ} (h : RK m o (K (.rt (.d .none)))) : BK (dSeq dRetN r δ) K m o := h
theorem b_retO {i : Nat} {r : DenS} {K : Out → Int → R γ} {xs : List PyData} (hi : δ[i]? = some (.ow xs)) (h : RK m o (K (.rt (.d (.list xs))))) : BK (dSeq (dRetO i) r δ) K m o := by
  refine b_seq ?_
  intro c
  show Rf (m c) o ((dRetO i δ c).bind _)
  unfold dRetO
  rw [hi]
  exact h c
theorem b_raise {k : Str} {r : DenS} {K : Out → Int → R γ} : BK (dSeq (dRaise k) r δ) K (M.err k : M τ) o := fun _ => rfl
theorem b_break {r : DenS} {K : Out → Int → R γ} (h : RK m o (K (.bk δ))) : BK (dSeq dBreak r δ) K m o := h
theorem b_cont {r : DenS} {K : Out → Int → R γ} (h : RK m o (K (.ct δ))) : BK (dSeq dCont r δ) K m o := h
theorem b_ifS {dt : DenT} {a b r : DenS} {K : Out → Int → R γ} (h : BK (dt δ) (fun t c => (if t = true then dSeq a r δ c else dSeq b r δ c).bind K) m o) : BK (dSeq (dIfS dt a b) r δ) K m o := by
  refine b_seq ?_
  intro c
  have h := h c
  show Rf (m c) o ((dIfS dt a b δ c).bind _)
  unfold dIfS
  rw [R.bind_assoc]
  have e : (fun t c => (if t = true then a δ c else b δ c).bind fun w c => (seqO r w c).bind K) = fun (t : Bool) (c : Int) => (if t = true then dSeq a r δ c else dSeq b r δ c).bind K := by
    funext t c
    cases t
    · show (b δ c).bind _ = ((b δ c).bind (seqO r)).bind K
      rw [R.bind_assoc]
    · show (a δ c).bind _ = ((a δ c).bind (seqO r)).bind K
      rw [R.bind_assoc]
  rw [e]
  exact h
/-- if: both branches go on by themselves -/
theorem b_ifd {dt : DenT} {a b r : DenS} {K : Out → Int → R γ} {t : Bool} {m1 m2 : M τ} (ht : PV (dt δ) t) (h1 : BK (dSeq a r δ) K m1 o) (h2 : BK (dSeq b r δ) K m2 o) : BK (dSeq (dIfS dt a b) r δ) K (if t = true then m1 else m2) o :=
  b_ifS (BK.ok ht (BK.ite h1 h2))
/-- if: both branches come together in a state -/
theorem b_ifj {dt : DenT} {a b r : DenS} {K : Out → Int → R γ} {t : Bool} {m1 m2 : M σ} {k : σ → M τ} (lay : σ → List Sl) (ht : PV (dt δ) t) (h1 : BK (a δ) (fun w c => .ok w c) m1 (fun s => .nx (lay s))) (h2 : BK (b δ) (fun w c => .ok w c) m2 (fun s => .nx (lay s)))
    (hr : ∀ s, BK (r (lay s)) K (k s) o) : BK (dSeq (dIfS dt a b) r δ) K (M.bind (if t = true then m1 else m2) k) o := by
  have id : ∀ {d : DenS} {m : M σ} {o : σ → Out}, BK (d δ) (fun w c => .ok w c) m o → RK m o (d δ) := fun {d m o} h c => by
    have h := h c
    have e : (d δ c).bind (fun w c => R.ok w c) = d δ c := by cases d δ c <;> rfl
    show Rf (m c) o (d δ c)
    rw [← e]
    exact h
  refine b_seq ?_
  refine RK.bind (β := Out) (K := fun w c => (seqO r w c).bind K) (o1 := fun s => Out.nx (lay s)) ?_ (fun s => hr s)
  intro c
  show Rf _ _ (dIfS dt a b δ c)
  unfold dIfS
  rw [ht c]
  cases t
  · exact id h2 c
  · exact id h1 c
/-- the same where the test is an M -/
theorem b_ifjM {dt : DenT} {a b r : DenS} {K : Out → Int → R γ} {mt : M Bool} {m1 m2 : M σ} {k : σ → M τ} (lay : σ → List Sl) (ht : RK mt (fun b => b) (dt δ)) (h1 : BK (a δ) (fun w c => .ok w c) m1 (fun s => .nx (lay s))) (h2 : BK (b δ) (fun w c => .ok w c) m2 (fun s => .nx (lay s)))
    (hr : ∀ s, BK (r (lay s)) K (k s) o) : BK (dSeq (dIfS dt a b) r δ) K (M.bind mt fun t => M.bind (if t = true then m1 else m2) k) o := by
  have id : ∀ {d : DenS} {m : M σ} {o : σ → Out}, BK (d δ) (fun w c => .ok w c) m o → RK m o (d δ) := fun {d m o} h c => by
    have h := h c
    have e : (d δ c).bind (fun w c => R.ok w c) = d δ c := by cases d δ c <;> rfl
    show Rf (m c) o (d δ c)
    rw [← e]
    exact h
  refine b_ifS (RK.bind ht fun t => ?_)
  have z : ∀ c, (if t = true then dSeq a r δ c else dSeq b r δ c).bind K = (if t = true then a δ c else b δ c).bind fun w c => (seqO r w c).bind K := fun c => by
    cases t
    · show ((b δ c).bind (seqO r)).bind K = (b δ c).bind _
      rw [R.bind_assoc]
    · show ((a δ c).bind (seqO r)).bind K = (a δ c).bind _
      rw [R.bind_assoc]
  refine RK.of z (RK.bind (β := Out) (K := fun w c => (seqO r w c).bind K) (o1 := fun s => Out.nx (lay s)) (RK.ite (id h1) (id h2)) fun s => hr s)
/-! ghosts -/
def dWipe (vs : List Nat) : DenS := fun δ c => .ok (.nx (dwipe δ vs)) c
theorem Sls.wipe0 {Z : Zz} {H0 I H : Hp} {σ : L2.St} {δ : List Sl} : ∀ (vs : List Nat), (∃ as, Sls Z H0 I H σ δ as) → ∃ as, Sls Z H0 I H σ (dwipe δ vs) as
  | [], h => h
  | v :: vs, h => by
    obtain ⟨as, s⟩ := Sls.wipe0 vs h
    by_cases hv : v < σ.length
    · obtain ⟨bs, s2, _⟩ := s.wipe1 (s := σ[v]) v
      rw [List.set_getElem_self hv] at s2
      exact ⟨bs, s2⟩
    · have e : ∀ {σ : L2.St} {δ : List Sl} {as : List Addr}, Sls Z H0 I H σ δ as → σ.length = δ.length := fun h => by
        induction h with
        | nil => rfl
        | no _ ih => simp [ih]
        | im _ _ ih => simp [ih]
        | ow _ _ _ _ _ _ _ ih => simp [ih]
        | od _ _ _ _ _ _ _ ih => simp [ih]
        | ow2 _ _ _ _ _ _ _ _ ih => simp [ih]
      have z := e s
      refine ⟨as, ?_⟩
      show Sls Z H0 I H σ ((dwipe δ vs).set v .no) as
      rw [List.set_eq_of_length_le (by omega)]
      exact s
theorem sns_wipe {Z : Zz} {W : XK} {vs : List Nat} : SndS Z W tNext (dWipe vs) := fun _ _ _ _ _ _ _ g a _ h => Res.okS g a.k h _ (Sls.wipe0 vs a.sl)
/-- a statement behind whose start slots are forgotten -/
def dFgt (vs : List Nat) (ds : DenS) : DenS := fun δ c => ds (dwipe δ vs) c
theorem sns_fgt {Z : Zz} {W : XK} {vs : List Nat} {ts : TS} {ds : DenS} (h : SndS Z W ts ds) : SndS Z W ts (dFgt vs ds) := by
  intro I0 H0 I H σ δ c g a D r
  exact h I0 H0 I H σ _ c g ⟨Sls.wipe0 vs a.sl, a.k⟩ D r
theorem b_fgt {vs : List Nat} {a r : DenS} {K : Out → Int → R γ} (h : BK (dSeq a r (dwipe δ vs)) K m o) : BK (dSeq (dFgt vs a) r δ) K m o := h
theorem b_frz {i : Nat} {a r : DenS} {K : Out → Int → R γ} (h : BK (dSeq a r (lend1 δ i)) K m o) : BK (dSeq (dFrz i a) r δ) K m o := h
theorem b_wipe {vs : List Nat} {r : DenS} {K : Out → Int → R γ} (h : BK (r (dwipe δ vs)) K m o) : BK (dSeq (dWipe vs) r δ) K m o := h
theorem b_at {ds : DenS} {K : Out → Int → R γ} (δ' : List Sl) (e : δ = δ') (h : BK (ds δ') K m o) : BK (ds δ) K m o := e ▸ h
end
end Dn
namespace Dn
open PySem PySem.Spec PyProof.Rows L2
open Dn.Enc (enc)
/-! loops -/
inductive Fl (σ ρ : Type) where
  | nx (s : σ) | bk (s : σ) | rt (r : ρ)
def forS {α σ : Type} : List α → σ → (σ → α → M σ) → M σ
  | [], s, _ => M.ret s
  | x :: xs, s, f => M.bind (f s x) fun s => forS xs s f
def flK {σ ρ : Type} (k : σ → M (Fl σ ρ)) : Fl σ ρ → M (Fl σ ρ)
  | .nx s => k s
  | .bk s => M.ret (.nx s)
  | .rt r => M.ret (.rt r)
def forF {α σ ρ : Type} : List α → σ → (σ → α → M (Fl σ ρ)) → M (Fl σ ρ)
  | [], s, _ => M.ret (.nx s)
  | x :: xs, s, f => M.bind (f s x) (flK fun s => forF xs s f)
/-- behind a loop that may return: on with k, or out with h -/
def outK {σ ρ τ : Type} (h : ρ → M τ) (k : σ → M τ) : Fl σ ρ → M τ
  | .nx s => k s
  | .bk s => k s
  | .rt r => h r
def thenF {σ ρ τ : Type} (m : M (Fl σ ρ)) (h : ρ → M τ) (k : σ → M τ) : M τ := M.bind m (outK h k)
instance : Enc Empty := ⟨fun e => e.elim⟩
def nrmK : Out → Int → R Out
  | .ct δ, c => .ok (.nx δ) c
  | w, c => .ok w c
def vls {α : Type} [Enc α] (xs : List α) : List Vl := xs.map fun x => Vl.d (enc x)
def outF {σ ρ : Type} [Enc ρ] (lay : σ → List Sl) : Fl σ ρ → Out
  | .nx s => .nx (lay s)
  | .bk s => .bk (lay s)
  | .rt r => .rt (.d (enc r))
/-- of a target -/
def GO {γ : Type} (dg : DenG) (v : Vl) (δ : List Sl) (f : List Sl → Int → R γ) : Int → R γ := fun c => match dg v δ with
  | none => .no
  | some δ1 => f δ1 c
section
variable {α β γ ρ σ τ : Type} {δ δ' : List Sl} {m : M τ} {o : τ → γ}
theorem g_some {dg : DenG} {v : Vl} {f : List Sl → Int → R γ} {δ1 : List Sl} (e : dg v δ = some δ1) (h : RK m o (f δ1)) : RK m o (GO dg v δ f) := fun c => by
  show Rf (m c) o (GO dg v δ f c)
  unfold GO
  rw [e]
  exact h c
theorem r_loopS [Enc α] {dg : DenG} {db : DenS} (lay : σ → List Sl) {f : σ → α → M σ} (hb : ∀ s x, RK (f s x) (fun s => Out.nx (lay s)) (GO dg (.d (enc x)) (lay s) fun δ1 c => (db δ1 c).bind nrmK)) :
    ∀ (xs : List α) (s : σ), RK (forS xs s f) (fun s => Out.nx (lay s)) (fun c => loopD dg db (vls xs) (lay s) c)
  | [], s => fun _ => rfl
  | x :: xs, s => by
    intro c
    have h := hb s x c
    show Rf ((f s x c).bind _) _ (loopD dg db (Vl.d (enc x) :: vls xs) (lay s) c)
    unfold GO at h
    unfold loopD
    cases e : f s x c with
    | no => exact trivial
    | ex k p c1 =>
      rw [e] at h
      split at h
      · cases h
      · rename_i δ1 e1
        have h : Rf _ _ ((db δ1 c).bind nrmK) := h
        try rw [e1]
        cases e2 : db δ1 c with
        | no => rw [e2] at h; cases h
        | ex k2 p2 c2 => rw [e2] at h; first | (show (db δ1 c).bind _ = _; rw [e2]; exact h) | exact h
        | ok w c2 => rw [e2] at h; cases w <;> cases h
    | ok s1 c1 =>
      rw [e] at h
      split at h
      · cases h
      · rename_i δ1 e1
        have h : Rf _ _ ((db δ1 c).bind nrmK) := h
        try rw [e1]
        show Rf _ _ ((db δ1 c).bind _)
        cases e2 : db δ1 c with
        | no => rw [e2] at h; cases h
        | ex k2 p2 c2 => rw [e2] at h; cases h
        | ok w c2 =>
          rw [e2] at h
          cases w with
          | nx d => cases h; exact r_loopS lay hb xs s1 c1
          | ct d => cases h; exact r_loopS lay hb xs s1 c1
          | bk d => cases h
          | rt d => cases h
theorem r_loopF [Enc α] [Enc ρ] {dg : DenG} {db : DenS} (lay : σ → List Sl) {f : σ → α → M (Fl σ ρ)} (hb : ∀ s x, RK (f s x) (outF lay) (GO dg (.d (enc x)) (lay s) fun δ1 c => (db δ1 c).bind nrmK)) :
    ∀ (xs : List α) (s : σ), RK (forF xs s f) (fun w => match w with | .nx s => Out.nx (lay s) | .bk s => Out.nx (lay s) | .rt r => Out.rt (.d (enc r))) (fun c => loopD dg db (vls xs) (lay s) c)
  | [], s => fun _ => rfl
  | x :: xs, s => by
    intro c
    have h := hb s x c
    show Rf ((f s x c).bind _) _ (loopD dg db (Vl.d (enc x) :: vls xs) (lay s) c)
    unfold GO at h
    unfold loopD
    cases e : f s x c with
    | no => exact trivial
    | ex k p c1 =>
      rw [e] at h
      split at h
      · cases h
      · rename_i δ1 e1
        have h : Rf _ _ ((db δ1 c).bind nrmK) := h
        try rw [e1]
        cases e2 : db δ1 c with
        | no => rw [e2] at h; cases h
        | ex k2 p2 c2 => rw [e2] at h; first | (show (db δ1 c).bind _ = _; rw [e2]; exact h) | exact h
        | ok w c2 => rw [e2] at h; cases w <;> cases h
    | ok s1 c1 =>
      rw [e] at h
      split at h
      · cases h
      · rename_i δ1 e1
        have h : Rf _ _ ((db δ1 c).bind nrmK) := h
        try rw [e1]
        show Rf _ _ ((db δ1 c).bind _)
        cases e2 : db δ1 c with
        | no => rw [e2] at h; cases h
        | ex k2 p2 c2 => rw [e2] at h; cases h
        | ok w c2 =>
          rw [e2] at h
          cases s1 with
          | nx s1 =>
            cases w with
            | nx d => cases h; exact r_loopF lay hb xs s1 c1
            | ct d => cases h; exact r_loopF lay hb xs s1 c1
            | bk d => cases h
            | rt d => cases h
          | bk s1 =>
            cases w with
            | nx d => cases h
            | ct d => cases h
            | bk d => cases h; exact rfl
            | rt d => cases h
          | rt r =>
            cases w with
            | nx d => cases h
            | ct d => cases h
            | bk d => cases h
            | rt d => cases h; exact rfl
theorem b_for {di : DenI} {dg : DenG} {db r : DenS} {K : Out → Int → R γ} (h : BK (di δ) (fun vs c => (loopD dg db vs δ c).bind fun w c => (seqO r w c).bind K) m o) : BK (dSeq (dFor di dg db) r δ) K m o := by
  refine b_seq ?_
  intro c
  show Rf (m c) o ((dFor di dg db δ c).bind _)
  unfold dFor
  rw [R.bind_assoc]
  exact h c
theorem r_forS [Enc α] {dg : DenG} {db r : DenS} {K : Out → Int → R γ} (lay : σ → List Sl) {s0 : σ} {xs : List α} {f : σ → α → M σ} {k : σ → M τ} (e : δ = lay s0)
    (hb : ∀ s x, RK (f s x) (fun s => Out.nx (lay s)) (GO dg (.d (enc x)) (lay s) fun δ1 c => (db δ1 c).bind nrmK)) (hr : ∀ s, BK (r (lay s)) K (k s) o) :
    RK (M.bind (forS xs s0 f) k) o (fun c => (loopD dg db (vls xs) δ c).bind fun w c => (seqO r w c).bind K) := by
  subst e
  exact RK.bind (β := Out) (K := fun w c => (seqO r w c).bind K) (o1 := fun s => Out.nx (lay s)) (r_loopS lay hb xs s0) (fun s => hr s)
theorem r_forF [Enc α] [Enc ρ] {dg : DenG} {db r : DenS} {K : Out → Int → R γ} (lay : σ → List Sl) {s0 : σ} {xs : List α} {f : σ → α → M (Fl σ ρ)} {h : ρ → M τ} {k : σ → M τ} (e : δ = lay s0)
    (hb : ∀ s x, RK (f s x) (outF lay) (GO dg (.d (enc x)) (lay s) fun δ1 c => (db δ1 c).bind nrmK)) (hh : ∀ x, RK (h x) o (K (.rt (.d (enc x))))) (hr : ∀ s, BK (r (lay s)) K (k s) o) :
    RK (thenF (forF xs s0 f) h k) o (fun c => (loopD dg db (vls xs) δ c).bind fun w c => (seqO r w c).bind K) := by
  subst e
  refine RK.bind (β := Out) (K := fun w c => (seqO r w c).bind K) (r_loopF lay hb xs s0) (fun w => ?_)
  cases w with
  | nx s => exact hr s
  | bk s => exact hr s
  | rt x => exact hh x

/-! what is walked -/
theorem pv_iL [Enc α] {de : Den} {xs : List α} (h : PV (de δ) (.d (enc xs))) : PV (dIL de δ) (vls xs) := fun c => by
  unfold dIL; rw [h c]
  show R.ok ((xs.map enc).map Vl.d) c = _
  rw [List.map_map]; rfl
theorem pv_iT [Enc α] {de : Den} {xs : Tp α} (h : PV (de δ) (.d (enc xs))) : PV (dIT de δ) (vls xs.l) := fun c => by
  unfold dIT; rw [h c]
  show R.ok ((xs.l.map enc).map Vl.d) c = _
  rw [List.map_map]; rfl
theorem b_iL {de : Den} {K : List Vl → Int → R γ} (h : BK (de δ) (fun x c => (match x with | .d (.list xs) => R.ok (xs.map Vl.d) c | _ => .no).bind K) m o) : BK (dIL de δ) K m o := by
  intro c
  show Rf (m c) o ((dIL de δ c).bind K)
  unfold dIL
  rw [R.bind_assoc]
  exact h c
theorem b_iT {de : Den} {K : List Vl → Int → R γ} (h : BK (de δ) (fun x c => (match x with | .d (.tuple xs) => R.ok (xs.map Vl.d) c | _ => .no).bind K) m o) : BK (dIT de δ) K m o := by
  intro c
  show Rf (m c) o ((dIT de δ c).bind K)
  unfold dIT
  rw [R.bind_assoc]
  exact h c
theorem k_iL [Enc α] {xs : List α} : PV (fun c => match Vl.d (enc xs) with | .d (.list xs) => R.ok (xs.map Vl.d) c | _ => .no) (vls xs) := fun c => by
  show R.ok ((xs.map enc).map Vl.d) c = _
  rw [List.map_map]; rfl
theorem k_iT [Enc α] {xs : Tp α} : PV (fun c => match Vl.d (enc xs) with | .d (.tuple xs) => R.ok (xs.map Vl.d) c | _ => .no) (vls xs.l) := fun c => by
  show R.ok ((xs.l.map enc).map Vl.d) c = _
  rw [List.map_map]; rfl
def rngL (lo : Int) (n : Nat) : List Int := (List.range n).map fun (i : Nat) => lo + (i : Int)
theorem rng_vls (lo : Int) (n : Nat) : rng lo n = vls (rngL lo n) := by
  unfold rng vls rngL
  rw [List.map_map]; rfl
def rng1M (n : Int) : M (List Int) := if bR n = true then M.ret (rngL 0 n.toNat) else M.no
def rng2M (a b : Int) : M (List Int) := if bR a = true ∧ bR b = true then M.ret (rngL a (b - a).toNat) else M.no
theorem pv_r1 {da : DenA} {n : Int} (h : PV (da δ) [.d (.int n)]) (hb : bR n = true) : PV (dI1 da δ) (vls (rngL 0 n.toNat)) := fun c => by
  unfold dI1; rw [h c]
  show (if bR n = true then R.ok (rng 0 n.toNat) c else .no) = _
  rw [if_pos hb, rng_vls]
theorem b_r1 {da : DenA} {K : List Vl → Int → R γ} (h : BK (da δ) (fun xs c => (match xs with | [.d (.int n)] => if bR n = true then R.ok (rng 0 n.toNat) c else .no | _ => .no).bind K) m o) : BK (dI1 da δ) K m o := by
  intro c
  show Rf (m c) o ((dI1 da δ c).bind K)
  unfold dI1
  rw [R.bind_assoc]
  exact h c
theorem k_r1 {n : Int} : RK (rng1M n) vls (fun c => match [Vl.d (.int n)] with | [.d (.int n)] => if bR n = true then R.ok (rng 0 n.toNat) c else .no | _ => .no) := fun c => by
  show Rf (rng1M n c) vls (if bR n = true then R.ok (rng 0 n.toNat) c else .no)
  unfold rng1M
  by_cases hb : bR n = true
  · rw [if_pos hb, if_pos hb, rng_vls]; exact rfl
  · rw [if_neg hb]; exact trivial
theorem b_r2 {da : DenA} {K : List Vl → Int → R γ} (h : BK (da δ) (fun xs c => (match xs with | [.d (.int a), .d (.int n)] => if bR a = true ∧ bR n = true then R.ok (rng a (n - a).toNat) c else .no | _ => .no).bind K) m o) : BK (dI2 da δ) K m o := by
  intro c
  show Rf (m c) o ((dI2 da δ c).bind K)
  unfold dI2
  rw [R.bind_assoc]
  exact h c
theorem k_r2 {a n : Int} : RK (rng2M a n) vls (fun c => match [Vl.d (.int a), Vl.d (.int n)] with | [.d (.int a), .d (.int n)] => if bR a = true ∧ bR n = true then R.ok (rng a (n - a).toNat) c else .no | _ => .no) := fun c => by
  show Rf (rng2M a n c) vls (if bR a = true ∧ bR n = true then R.ok (rng a (n - a).toNat) c else .no)
  unfold rng2M
  by_cases hb : bR a = true ∧ bR n = true
  · rw [if_pos hb, if_pos hb, rng_vls]; exact rfl
  · rw [if_neg hb]; exact trivial
/-! comprehensions -/
def compM {α β : Type} : List α → (α → M Bool) → (α → M β) → M (List β)
  | [], _, _ => M.ret []
  | x :: xs, t, f => M.bind (M.calm (t x)) fun b => if b = true then M.bind (M.calm (f x)) fun y => M.bind (compM xs t f) fun ys => M.ret (y :: ys) else compM xs t f
def lcM {α β : Type} (xs : List α) (t : α → M Bool) (f : α → M β) : M (List β) := if xs.length ≤ 16777216 then compM xs t f else M.no
def lcP {α β : Type} (xs : List α) (t : α → Bool) (f : α → β) : M (List β) := if xs.length ≤ 16777216 then M.ret ((xs.filter t).map f) else M.no
def mapM1 {α β : Type} (xs : List α) (f : α → M β) : M (List β) := lcM xs (fun _ => M.ret true) f
def mapP {α β : Type} (xs : List α) (f : α → β) : M (List β) := if xs.length ≤ 16777216 then M.ret (xs.map f) else M.no
theorem b_lc {vs : List Nat} {di : DenI} {dg : DenG} {dt : DenT} {de : Den} {K : List PyData → Int → R γ} (h : BK (di δ) (fun xs c => (if xs.length ≤ 16777216 then compD dg dt de (dwipe δ vs) xs c else .no).bind K) m o) : BK (dLc vs di dg dt de δ) K m o := by
  intro c
  show Rf (m c) o ((dLc vs di dg dt de δ c).bind K)
  unfold dLc
  rw [R.bind_assoc]
  exact h c
theorem vls_len [Enc α] (xs : List α) : (vls xs).length = xs.length := by simp [vls]
theorem r_comp [Enc α] [Enc β] {dg : DenG} {dt : DenT} {de : Den} {t : α → M Bool} {f : α → M β} (hb : ∀ x, ∃ δ1, dg (.d (enc x)) δ = some δ1 ∧ RK (t x) (fun b => b) (dt δ1) ∧ RK (f x) (fun y => Vl.d (enc y)) (de δ1)) :
    ∀ xs : List α, RK (compM xs t f) (List.map enc) (fun c => compD dg dt de δ (vls xs) c)
  | [] => fun _ => rfl
  | x :: xs => by
    obtain ⟨δ1, e, h1, h2⟩ := hb x
    have ih := r_comp hb xs
    have z : ∀ c, compD dg dt de δ (vls (x :: xs)) c = (dt δ1 c).calm.bind fun b c => if b = true then (de δ1 c).calm.bind fun y c => (match y with
      | .d y => (compD dg dt de δ (vls xs) c).bind fun ys c => .ok (y :: ys) c
      | _ => .no) else compD dg dt de δ (vls xs) c := fun c => by
      show (match dg (Vl.d (enc x)) δ with | none => R.no | some δ1 => keepD dt de (compD dg dt de δ (vls xs)) δ1 c) = _
      rw [e]
      rfl
    refine RK.of z ?_
    refine RK.bind (RK.calm h1) fun b => ?_
    cases b
    · exact ih
    · refine RK.bind (RK.calm h2) fun y => ?_
      exact RK.bind ih fun ys => fun c => rfl
theorem k_lcM [Enc α] [Enc β] {dg : DenG} {dt : DenT} {de : Den} {t : α → M Bool} {f : α → M β} {xs : List α} (hb : ∀ x, ∃ δ1, dg (.d (enc x)) δ = some δ1 ∧ RK (t x) (fun b => b) (dt δ1) ∧ RK (f x) (fun y => Vl.d (enc y)) (de δ1)) :
    RK (lcM xs t f) (List.map enc) (fun c => if (vls xs).length ≤ 16777216 then compD dg dt de δ (vls xs) c else .no) := fun c => by
  show Rf (lcM xs t f c) _ (if (vls xs).length ≤ 16777216 then compD dg dt de δ (vls xs) c else .no)
  unfold lcM
  rw [vls_len]
  by_cases h : xs.length ≤ 16777216
  · rw [if_pos h, if_pos h]; exact r_comp hb xs c
  · rw [if_neg h]; exact trivial
theorem compM_pure {t : α → Bool} {f : α → β} : ∀ xs : List α, compM xs (fun x => M.ret (t x)) (fun x => M.ret (f x)) = M.ret ((xs.filter t).map f)
  | [] => rfl
  | x :: xs => by
    show (if t x = true then M.bind (compM xs _ _) fun ys => M.ret (f x :: ys) else compM xs _ _) = _
    rw [compM_pure xs, List.filter_cons]
    cases t x <;> rfl
theorem lcP_eq {t : α → Bool} {f : α → β} (xs : List α) : lcP xs t f = lcM xs (fun x => M.ret (t x)) (fun x => M.ret (f x)) := by
  unfold lcP lcM
  rw [compM_pure]
theorem mapP_eq {f : α → β} (xs : List α) : mapP xs f = lcM xs (fun _ => M.ret true) (fun x => M.ret (f x)) := by
  have := lcP_eq (t := fun _ => true) (f := f) xs
  rw [← this]
  unfold mapP lcP
  rw [List.filter_eq_self.mpr fun _ _ => rfl]
theorem k_lcP [Enc α] [Enc β] {dg : DenG} {dt : DenT} {de : Den} {t : α → Bool} {f : α → β} {xs : List α} (hb : ∀ x, ∃ δ1, dg (.d (enc x)) δ = some δ1 ∧ PV (dt δ1) (t x) ∧ PV (de δ1) (.d (enc (f x)))) :
    RK (lcP xs t f) (List.map enc) (fun c => if (vls xs).length ≤ 16777216 then compD dg dt de δ (vls xs) c else .no) := by
  rw [lcP_eq]
  exact k_lcM fun x => by
    obtain ⟨δ1, e, h1, h2⟩ := hb x
    exact ⟨δ1, e, RK.pv h1, RK.pv h2⟩
theorem k_mapP [Enc α] [Enc β] {dg : DenG} {de : Den} {f : α → β} {xs : List α} (hb : ∀ x, ∃ δ1, dg (.d (enc x)) δ = some δ1 ∧ PV (de δ1) (.d (enc (f x)))) :
    RK (mapP xs f) (List.map enc) (fun c => if (vls xs).length ≤ 16777216 then compD dg dYes de δ (vls xs) c else .no) := by
  rw [mapP_eq]
  exact k_lcM fun x => by
    obtain ⟨δ1, e, h2⟩ := hb x
    exact ⟨δ1, e, fun _ => rfl, RK.pv h2⟩
theorem k_mapM [Enc α] [Enc β] {dg : DenG} {de : Den} {f : α → M β} {xs : List α} (hb : ∀ x, ∃ δ1, dg (.d (enc x)) δ = some δ1 ∧ RK (f x) (fun y => Vl.d (enc y)) (de δ1)) :
    RK (mapM1 xs f) (List.map enc) (fun c => if (vls xs).length ≤ 16777216 then compD dg dYes de δ (vls xs) c else .no) :=
  k_lcM fun x => by
    obtain ⟨δ1, e, h2⟩ := hb x
    exact ⟨δ1, e, fun _ => rfl, h2⟩
end
end Dn
namespace Dn
open PySem PySem.Spec PyProof.Rows L2
open Dn.Enc (enc)
section
variable {α β γ ρ σ τ : Type} {δ δ' : List Sl} {m : M τ} {o : τ → γ}
/-! items -/
def optM {α : Type} : Option α → M α
  | some a => M.ret a
  | none => M.no
@[simp] theorem optM_some {α : Type} (a : α) : optM (some a) = M.ret a := rfl
@[simp] theorem optM_none {α : Type} : (optM (none : Option α)) = M.no := rfl
def ixM {α : Type} (xs : List α) (i : Int) : M α := optM (atI xs i)
theorem atI_map [Enc α] (xs : List α) (i : Int) : atI (xs.map enc) i = (atI xs i).map enc := by
  unfold atI
  rw [List.length_map]
  cases ixN xs.length i with
  | none => rfl
  | some j => exact List.getElem?_map
theorem k_ixL [Enc α] {xs : List α} {i : Int} : RK (ixM xs i) (fun y => Vl.d (enc y)) (gIx (.d (enc xs)) (.d (.int i))) := fun c => by
  show Rf (ixM xs i c) _ (match atI (xs.map enc) i with | some d => R.ok (Vl.d d) c | none => .no)
  unfold ixM
  rw [atI_map]
  cases atI xs i with
  | none => exact trivial
  | some a => exact rfl
theorem k_ixT [Enc α] {xs : Tp α} {i : Int} : RK (ixM xs.l i) (fun y => Vl.d (enc y)) (gIx (.d (enc xs)) (.d (.int i))) := fun c => by
  show Rf (ixM xs.l i c) _ (match atI (xs.l.map enc) i with | some d => R.ok (Vl.d d) c | none => .no)
  unfold ixM
  rw [atI_map]
  cases atI xs.l i with
  | none => exact trivial
  | some a => exact rfl
/-- x[k] of a tuple that is told whole, or a display -/
theorem k_ixC {xs : List PyData} {i : Int} {d : PyData} (h : atI xs i = some d) : PV (gIx (.d (.tuple xs)) (.d (.int i))) (.d d) := fun c => by
  show (match atI xs i with | some d => R.ok (Vl.d d) c | none => .no) = _
  rw [h]
theorem b_ixO [Enc α] {i : Nat} {db : Den} {xs : List α} {K : Vl → Int → R γ} (hi : δ[i]? = some (.ow (xs.map enc))) (h : BK (db δ) (fun y c => (gIxL (xs.map enc) y c).bind K) m o) : BK (dIxO i db δ) K m o := by
  intro c
  show Rf (m c) o ((dIxO i db δ c).bind K)
  unfold dIxO
  rw [hi]
  show Rf (m c) o (((db δ c).bind _).bind K)
  rw [R.bind_assoc]
  exact h c
theorem k_ixO [Enc α] {xs : List α} {i : Int} : RK (ixM xs i) (fun y => Vl.d (enc y)) (gIxL (xs.map enc) (.d (.int i))) := fun c => by
  show Rf (ixM xs i c) _ (match atI (xs.map enc) i with | some d => R.ok (Vl.d d) c | none => .no)
  unfold ixM
  rw [atI_map]
  cases atI xs i with
  | none => exact trivial
  | some a => exact rfl
theorem b_slL {da : Den} {dl dh : DenO} {K : List PyData → Int → R γ} (h : BK (da δ) (fun x c => (dl δ c).bind fun lo c => (dh δ c).bind fun hi c => (match x with | .d (.list xs) => R.ok (cutD xs lo hi) c | _ => .no).bind K) m o) : BK (dSlL da dl dh δ) K m o := by
  intro c
  have h := h c
  show Rf (m c) o ((dSlL da dl dh δ c).bind K)
  unfold dSlL
  rw [R.bind_assoc]
  simp only [R.bind_assoc]
  exact h
theorem b_slT {da : Den} {dl dh : DenO} {K : Vl → Int → R γ} (h : BK (da δ) (fun x c => (dl δ c).bind fun lo c => (dh δ c).bind fun hi c => (match x with | .d (.tuple xs) => R.ok (Vl.d (.tuple (cutD xs lo hi))) c | _ => .no).bind K) m o) : BK (dSlT da dl dh δ) K m o := by
  intro c
  have h := h c
  show Rf (m c) o ((dSlT da dl dh δ c).bind K)
  unfold dSlT
  rw [R.bind_assoc]
  simp only [R.bind_assoc]
  exact h
theorem k_slL [Enc α] {xs : List α} {lo hi : Option Int} : PV (fun c => match Vl.d (enc xs) with | .d (.list xs) => R.ok (cutD xs lo hi) c | _ => .no) ((cut xs lo hi).map enc) := fun c => by
  show R.ok (cutD (xs.map enc) lo hi) c = _
  rw [cutD_map]
theorem k_slT [Enc α] {xs : Tp α} {lo hi : Option Int} : PV (fun c => match Vl.d (enc xs) with | .d (.tuple xs) => R.ok (Vl.d (.tuple (cutD xs lo hi))) c | _ => .no) (.d (enc (Tp.mk (cut xs.l lo hi)))) := fun c => by
  show R.ok (Vl.d (.tuple (cutD (xs.l.map enc) lo hi))) c = _
  rw [cutD_map]; rfl
theorem b_noO {K : Option Int → Int → R γ} (h : RK m o (K none)) : BK (dNoO δ) K m o := fun c => h c
theorem b_soO {da : Den} {K : Option Int → Int → R γ} (h : BK (da δ) (fun x c => (match x with | .d (.int i) => R.ok (some i) c | _ => .no).bind K) m o) : BK (dSoO da δ) K m o := by
  intro c
  show Rf (m c) o ((dSoO da δ c).bind K)
  unfold dSoO
  rw [R.bind_assoc]
  exact h c
/-! + of tuples and of new lists -/
def catM {α : Type} (xs ys : List α) : M (List α) := if xs.length + ys.length ≤ 16777216 then M.ret (xs ++ ys) else M.no
def catTM {α : Type} (xs ys : Tp α) : M (Tp α) := if xs.l.length + ys.l.length ≤ 16777216 then M.ret ⟨xs.l ++ ys.l⟩ else M.no
theorem k_catT [Enc α] {xs ys : Tp α} : RK (catTM xs ys) (fun y => Vl.d (enc y)) (aCatT (.d (enc xs)) (.d (enc ys))) := fun c => by
  show Rf (catTM xs ys c) _ (if (xs.l.map enc).length + (ys.l.map enc).length ≤ 16777216 then R.ok (Vl.d (.tuple (xs.l.map enc ++ ys.l.map enc))) c else .no)
  unfold catTM
  rw [List.length_map, List.length_map]
  by_cases h : xs.l.length + ys.l.length ≤ 16777216
  · rw [if_pos h, if_pos h, ← List.map_append]; exact rfl
  · rw [if_neg h]; exact trivial
theorem b_catL {da db : DenL} {K : List PyData → Int → R γ} (h : BK (da δ) (fun xs c => (db δ c).bind fun ys c => (if xs.length + ys.length ≤ 16777216 then R.ok (xs ++ ys) c else .no).bind K) m o) : BK (dCatL da db δ) K m o := by
  intro c
  have h := h c
  show Rf (m c) o ((dCatL da db δ c).bind K)
  unfold dCatL
  rw [R.bind_assoc]
  simp only [R.bind_assoc]
  exact h
theorem k_catL [Enc α] {xs ys : List α} : RK (catM xs ys) (List.map enc) (fun c => if (xs.map enc).length + (ys.map enc).length ≤ 16777216 then R.ok (xs.map enc ++ ys.map enc) c else .no) := fun c => by
  show Rf (catM xs ys c) _ (if (xs.map enc).length + (ys.map enc).length ≤ 16777216 then R.ok (xs.map enc ++ ys.map enc) c else .no)
  unfold catM
  rw [List.length_map, List.length_map]
  by_cases h : xs.length + ys.length ≤ 16777216
  · rw [if_pos h, if_pos h, ← List.map_append]; exact rfl
  · rw [if_neg h]; exact trivial
/-! one's own list -/
def appM {α : Type} (xs : List α) (y : α) : M (List α) := if xs.length < 16777216 then M.ret (xs ++ [y]) else M.no
theorem b_app [Enc α] {i : Nat} {de : Den} {r : DenS} {K : Out → Int → R γ} {xs : List α} (hi : δ[i]? = some (.ow (xs.map enc)))
    (h : BK (de δ) (fun y c => (match y with | .d y => if (xs.map enc).length < 16777216 then R.ok (Out.nx (δ.set i (.ow (xs.map enc ++ [y])))) c else .no | _ => .no).bind fun w c => (seqO r w c).bind K) m o) : BK (dSeq (dApp i de) r δ) K m o := by
  refine b_seq ?_
  intro c
  show Rf (m c) o ((dApp i de δ c).bind _)
  unfold dApp
  rw [hi]
  show Rf (m c) o (((de δ c).bind _).bind _)
  rw [R.bind_assoc]
  exact h c
theorem r_app [Enc α] {i : Nat} {r : DenS} {K : Out → Int → R γ} {xs : List α} {y : α} {k : List α → M τ} (h : ∀ zs : List α, BK (r (δ.set i (.ow (zs.map enc)))) K (k zs) o) :
    RK (M.bind (appM xs y) k) o (fun c => (match Vl.d (enc y) with | .d y => if (xs.map enc).length < 16777216 then R.ok (Out.nx (δ.set i (.ow (xs.map enc ++ [y])))) c else .no | _ => .no).bind fun w c => (seqO r w c).bind K) := by
  refine RK.bind (β := Out) (K := fun w c => (seqO r w c).bind K) (o1 := fun (zs : List α) => Out.nx (δ.set i (.ow (zs.map enc)))) ?_ fun zs => h zs
  intro c
  show Rf (appM xs y c) _ (if (xs.map enc).length < 16777216 then R.ok (Out.nx (δ.set i (.ow (xs.map enc ++ [enc y])))) c else .no)
  unfold appM
  rw [List.length_map]
  by_cases h : xs.length < 16777216
  · rw [if_pos h, if_pos h]
    show R.ok _ c = R.ok (Out.nx (δ.set i (.ow ((xs ++ [y]).map enc)))) c
    rw [List.map_append]; rfl
  · rw [if_neg h]; exact trivial
def setM {α : Type} (xs : List α) (k : Int) (v : α) : M (List α) := match ixN xs.length k with
  | some j => M.ret (xs.set j v)
  | none => M.no
theorem b_setO {i : Nat} {dk de : Den} {r : DenS} {K : Out → Int → R γ}
    (h : BK (de δ) (fun y c => (match y with
      | .d y => match δ[i]? with
        | some (.ow xs) => (dk δ c).bind fun k c => match k with
          | .d (.int n) => match ixN xs.length n with
            | some j => R.ok (Out.nx (δ.set i (.ow (xs.set j y)))) c
            | none => .no
          | _ => .no
        | _ => .no
      | _ => .no).bind fun w c => (seqO r w c).bind K) m o) (e : ∀ c, dSetO i dk de δ c = (de δ c).bind fun y c => match y with
      | .d y => match δ[i]? with
        | some (.ow xs) => (dk δ c).bind fun k c => match k with
          | .d (.int n) => match ixN xs.length n with
            | some j => R.ok (Out.nx (δ.set i (.ow (xs.set j y)))) c
            | none => .no
          | _ => .no
        | _ => .no
      | _ => .no) : BK (dSeq (dSetO i dk de) r δ) K m o := by
  refine b_seq ?_
  intro c
  show Rf (m c) o ((dSetO i dk de δ c).bind _)
  rw [e, R.bind_assoc]
  exact h c
def extM {α : Type} (xs ys : List α) : M (List α) := if xs.length + ys.length ≤ 16777216 then M.ret (xs ++ ys) else M.no
theorem b_ext [Enc α] {i : Nat} {de : DenL} {r : DenS} {K : Out → Int → R γ} {xs : List α} (hi : δ[i]? = some (.ow (xs.map enc)))
    (h : BK (de δ) (fun ys c => (if (xs.map enc).length + ys.length ≤ 16777216 then R.ok (Out.nx (δ.set i (.ow (xs.map enc ++ ys)))) c else .no).bind fun w c => (seqO r w c).bind K) m o) : BK (dSeq (dExt i de) r δ) K m o := by
  refine b_seq ?_
  intro c
  show Rf (m c) o ((dExt i de δ c).bind _)
  unfold dExt
  rw [hi]
  show Rf (m c) o (((de δ c).bind _).bind _)
  rw [R.bind_assoc]
  exact h c
theorem r_ext [Enc α] {i : Nat} {r : DenS} {K : Out → Int → R γ} {xs ys : List α} {k : List α → M τ} (h : ∀ zs : List α, BK (r (δ.set i (.ow (zs.map enc)))) K (k zs) o) :
    RK (M.bind (extM xs ys) k) o (fun c => (if (xs.map enc).length + (ys.map enc).length ≤ 16777216 then R.ok (Out.nx (δ.set i (.ow (xs.map enc ++ ys.map enc)))) c else .no).bind fun w c => (seqO r w c).bind K) := by
  refine RK.bind (β := Out) (K := fun w c => (seqO r w c).bind K) (o1 := fun (zs : List α) => Out.nx (δ.set i (.ow (zs.map enc)))) ?_ fun zs => h zs
  intro c
  show Rf (extM xs ys c) _ (if (xs.map enc).length + (ys.map enc).length ≤ 16777216 then R.ok (Out.nx (δ.set i (.ow (xs.map enc ++ ys.map enc)))) c else .no)
  unfold extM
  rw [List.length_map, List.length_map]
  by_cases h : xs.length + ys.length ≤ 16777216
  · rw [if_pos h, if_pos h, ← List.map_append]; exact rfl
  · rw [if_neg h]; exact trivial
theorem b_aug {i : Nat} {f : Int → Int → Int} {de : Den} {r : DenS} {K : Out → Int → R γ} {a : Int} (hi : δ[i]? = some (.im (.d (enc a))))
    (h : BK (de δ) (fun y c => (match y with | .d (.int b) => R.ok (Out.nx (δ.set i (.im (.d (.int (f a b)))))) c | _ => .no).bind fun w c => (seqO r w c).bind K) m o) : BK (dSeq (dAug i f de) r δ) K m o := by
  refine b_seq ?_
  intro c
  show Rf (m c) o ((dAug i f de δ c).bind _)
  unfold dAug
  rw [hi]
  show Rf (m c) o (((de δ c).bind _).bind _)
  rw [R.bind_assoc]
  exact h c
theorem r_aug {i : Nat} {f : Int → Int → Int} {r : DenS} {K : Out → Int → R γ} {a b : Int} {k : Int → M τ} (h : ∀ z : Int, BK (r (δ.set i (.im (.d (enc z))))) K (k z) o) :
    RK (Let (f a b) k) o (fun c => (match Vl.d (.int b) with | .d (.int b) => R.ok (Out.nx (δ.set i (.im (.d (.int (f a b)))))) c | _ => .no).bind fun w c => (seqO r w c).bind K) := h (f a b)
theorem b_unp {de : Den} {dg : DenG} {r : DenS} {K : Out → Int → R γ} (h : BK (de δ) (fun x => GO dg x δ fun δ1 c => (r δ1 c).bind K) m o) : BK (dSeq (dUnp de dg) r δ) K m o := by
  refine b_seq ?_
  intro c
  have h := h c
  show Rf (m c) o ((dUnp de dg δ c).bind _)
  unfold dUnp
  rw [R.bind_assoc]
  have e : ∀ (x : Vl) (c : Int), (match dg x δ with | some δ1 => R.ok (Out.nx δ1) c | none => .no).bind (fun w c => (seqO r w c).bind K) = GO dg x δ (fun δ1 c => (r δ1 c).bind K) c := fun x c => by
    unfold GO
    cases dg x δ with
    | none => rfl
    | some d => rfl
  have e2 : (fun x c => (match dg x δ with | some δ1 => R.ok (Out.nx δ1) c | none => .no).bind (fun w c => (seqO r w c).bind K)) = fun x => GO dg x δ fun δ1 c => (r δ1 c).bind K := funext fun x => funext fun c => e x c
  exact Eq.mpr (congrArg (fun f => Rf (m c) o ((de δ c).bind f)) e2) h
/-! the state -/
theorem b_st1 {i : Nat} {K : Vl → Int → R γ} {k : Int → M τ} (hi : δ[i]? = some (.im .st)) (h : ∀ z : Int, RK (k z) o (K (.d (enc z)))) : BK (dSt1 i δ) K (M.bind M.get k) o := by
  intro c
  show Rf (k c c) o ((dSt1 i δ c).bind K)
  unfold dSt1
  rw [hi]
  exact h c c
theorem b_stSet {i : Nat} {de : Den} {r : DenS} {K : Out → Int → R γ} (hi : δ[i]? = some (.im .st)) (h : BK (de δ) (fun y c => (match y with | .d (.int n) => R.ok (Out.nx δ) n | _ => .no).bind fun w c => (seqO r w c).bind K) m o) : BK (dSeq (dStSet i de) r δ) K m o := by
  refine b_seq ?_
  intro c
  show Rf (m c) o ((dStSet i de δ c).bind _)
  unfold dStSet
  rw [hi]
  show Rf (m c) o (((de δ c).bind _).bind _)
  rw [R.bind_assoc]
  exact h c
theorem r_stSet {r : DenS} {K : Out → Int → R γ} {n : Int} {k : Unit → M τ} (h : BK (r δ) K (k ()) o) : RK (M.bind (M.put n) k) o (fun c => (match Vl.d (.int n) with | .d (.int n) => R.ok (Out.nx δ) n | _ => .no).bind fun w c => (seqO r w c).bind K) := fun c => h n
/-! built-ins -/
def absI (i : Int) : Int := if i < 0 then -i else i
def maxI (i j : Int) : Int := if j > i then j else i
def minI (i j : Int) : Int := if j < i then j else i
def bti (b : Bool) : Int := if b then 1 else 0
theorem k_abs {i : Int} : PV (gAbs [.d (.int i)]) (.d (.int (absI i))) := fun _ => rfl
theorem k_max2 {i j : Int} : PV (gMax2 [.d (.int i), .d (.int j)]) (.d (.int (maxI i j))) := fun _ => rfl
theorem k_min2 {i j : Int} : PV (gMin2 [.d (.int i), .d (.int j)]) (.d (.int (minI i j))) := fun _ => rfl
theorem k_int {i : Int} : PV (gInt1 [.d (.int i)]) (.d (.int i)) := fun _ => rfl
theorem k_intB {b : Bool} : PV (gInt1 [.d (.bool b)]) (.d (.int (bti b))) := fun _ => rfl
theorem k_lenL [Enc α] {xs : List α} : PV (gLen [.d (enc xs)]) (.d (.int xs.length)) := fun c => by
  show R.ok (Vl.d (.int (xs.map enc).length)) c = _
  rw [List.length_map]
theorem k_lenT [Enc α] {xs : Tp α} : PV (gLen [.d (enc xs)]) (.d (.int xs.l.length)) := fun c => by
  show R.ok (Vl.d (.int (xs.l.map enc).length)) c = _
  rw [List.length_map]
theorem k_lenO [Enc α] {i : Nat} {xs : List α} (hi : δ[i]? = some (.ow (xs.map enc))) : PV (dLenO i δ) (.d (.int xs.length)) := fun c => by
  unfold dLenO
  rw [hi]
  show R.ok (Vl.d (.int (xs.map enc).length)) c = _
  rw [List.length_map]
theorem k_tuple [Enc α] {xs : List α} : PV (gTuple [.d (enc xs)]) (.d (enc (Tp.mk xs))) := fun _ => rfl
theorem k_tupleT {xs : List PyData} : PV (gTuple [.d (.tuple xs)]) (.d (.tuple xs)) := fun _ => rfl
theorem k_listT [Enc α] {xs : Tp α} : PV (gList [.d (enc xs)]) (xs.l.map enc) := fun _ => rfl
theorem k_listL [Enc α] {xs : List α} : PV (gList [.d (enc xs)]) (xs.map enc) := fun _ => rfl
theorem boolsOf_enc : ∀ xs : List Bool, boolsOf (xs.map enc) = some xs
  | [] => rfl
  | b :: xs => by
    show (boolsOf (xs.map enc)).map (b :: ·) = _
    rw [boolsOf_enc xs]; rfl
theorem intsOf_enc : ∀ xs : List Int, intsOf (xs.map enc) = some xs
  | [] => rfl
  | b :: xs => by
    show (intsOf (xs.map enc)).map (b :: ·) = _
    rw [intsOf_enc xs]; rfl
theorem k_all {xs : List Bool} : PV (gAll [.d (enc xs)]) (.d (.bool (xs.all id))) := fun c => by
  show (match boolsOf (xs.map enc) with | some bs => R.ok (Vl.d (.bool (bs.all id))) c | none => .no) = _
  rw [boolsOf_enc]
theorem k_any {xs : List Bool} : PV (gAny [.d (enc xs)]) (.d (.bool (xs.any id))) := fun c => by
  show (match boolsOf (xs.map enc) with | some bs => R.ok (Vl.d (.bool (bs.any id))) c | none => .no) = _
  rw [boolsOf_enc]
theorem k_sum {xs : List Int} : PV (gSum [.d (enc xs)]) (.d (.int xs.sum)) := fun c => by
  show (match intsOf (xs.map enc) with | some bs => R.ok (Vl.d (.int bs.sum)) c | none => .no) = _
  rw [intsOf_enc]
def reprOk (d : PyData) : Prop := PyData.showable d = true ∧ PyData.depth d ≤ 60 ∧ (PyData.shown d).length ≤ 16777216
open Classical in
noncomputable def reprM (d : PyData) : M Str := if reprOk d then M.ret d.shown else M.no
theorem k_repr {xs : List PyData} : RK (reprM (.list xs)) (fun y => Vl.d (enc y)) (gRepr [.d (.list xs)]) := fun c => by
  unfold reprM
  by_cases h : reprOk (.list xs)
  · rw [if_pos h]
    show gRepr [.d (.list xs)] c = _
    unfold gRepr
    exact if_pos h
  · rw [if_neg h]; exact trivial
theorem k_truB {b : Bool} : PV (gTru (.d (.bool b))) b := fun _ => rfl
theorem k_truI {i : Int} : PV (gTru (.d (.int i))) (i != 0) := fun _ => rfl
theorem k_truL [Enc α] {xs : List α} : PV (gTru (.d (enc xs))) (!xs.isEmpty) := fun c => by
  show R.ok (!(xs.map enc).isEmpty) c = _
  cases xs <;> rfl
theorem k_truT [Enc α] {xs : Tp α} : PV (gTru (.d (enc xs))) (!xs.l.isEmpty) := fun c => by
  show R.ok (!(xs.l.map enc).isEmpty) c = _
  cases xs.l <;> rfl
theorem k_truO [Enc α] {i : Nat} {xs : List α} (hi : δ[i]? = some (.ow (xs.map enc))) : PV (dTruO i δ) (!xs.isEmpty) := fun c => by
  unfold dTruO
  rw [hi]
  show R.ok (!(xs.map enc).isEmpty) c = _
  cases xs <;> rfl
/-! in -/
instance : Flt1 Int := ⟨.int, fun _ => rfl, fun a b => by
  by_cases h : a = b
  · subst h; simp [inV, eqV]
  · simp [inV, eqV, h]; exact fun e => h e.symm⟩
instance : Flt1 Str := ⟨.str, fun _ => rfl, fun a b => by
  by_cases h : a = b
  · subst h; simp [inV, eqV]
  · simp [inV, eqV, h]; exact fun e => h e.symm⟩
theorem inV_cons (x y : V) (ys : List V) : inV x (y :: ys) = (inV x [y] || inV x ys) := by simp [inV]
theorem inV_map [Enc α] [DecidableEq α] [f : Flt1 α] (a : α) : ∀ l : List α, inV (f.v a) (l.map f.v) = decide (a ∈ l)
  | [] => by simp [inV]
  | b :: l => by
    rw [List.map_cons, inV_cons, f.i, inV_map a l]
    by_cases h : a = b
    · subst h; simp
    · simp [h]
theorem k_inL [Enc α] [DecidableEq α] [f : Flt1 α] {a : α} {l : List α} : PV (gIn false (.d (enc a)) (.d (enc l))) (.d (.bool (decide (a ∈ l)))) := fun c => by
  show (match toV (enc a), toVs (l.map enc) with | some v, some vs => R.ok (Vl.d (.bool (if false = true then !inV v vs else inV v vs))) c | _, _ => .no) = _
  rw [f.t, toVs_map]
  show R.ok (Vl.d (.bool (inV (f.v a) (l.map f.v)))) c = _
  rw [inV_map]
theorem k_inT [Enc α] [DecidableEq α] [f : Flt1 α] {a : α} {l : List α} : PV (gIn false (.d (enc a)) (.d (.tuple (l.map enc)))) (.d (.bool (decide (a ∈ l)))) := fun c => by
  show (match toV (enc a), toVs (l.map enc) with | some v, some vs => R.ok (Vl.d (.bool (if false = true then !inV v vs else inV v vs))) c | _, _ => .no) = _
  rw [f.t, toVs_map]
  show R.ok (Vl.d (.bool (inV (f.v a) (l.map f.v)))) c = _
  rw [inV_map]
theorem k_ninT [Enc α] [DecidableEq α] [f : Flt1 α] {a : α} {l : List α} : PV (gIn true (.d (enc a)) (.d (.tuple (l.map enc)))) (.d (.bool (decide (a ∉ l)))) := fun c => by
  show (match toV (enc a), toVs (l.map enc) with | some v, some vs => R.ok (Vl.d (.bool (if true = true then !inV v vs else inV v vs))) c | _, _ => .no) = _
  rw [f.t, toVs_map]
  show R.ok (Vl.d (.bool (!inV (f.v a) (l.map f.v)))) c = _
  rw [inV_map]; simp
theorem k_ninL [Enc α] [DecidableEq α] [f : Flt1 α] {a : α} {l : List α} : PV (gIn true (.d (enc a)) (.d (.list (l.map enc)))) (.d (.bool (decide (a ∉ l)))) := fun c => by
  show (match toV (enc a), toVs (l.map enc) with | some v, some vs => R.ok (Vl.d (.bool (if true = true then !inV v vs else inV v vs))) c | _, _ => .no) = _
  rw [f.t, toVs_map]
  show R.ok (Vl.d (.bool (!inV (f.v a) (l.map f.v)))) c = _
  rw [inV_map]; simp
/-! lent, and kept -/
theorem b_bor {i : Nat} {de : Den} {K : Vl → Int → R γ} (h : BK (de (lend1 δ i)) (fun x c => (if atom x = true then R.ok x c else .no).bind K) m o) : BK (dBor i de δ) K m o := by
  intro c
  show Rf (m c) o ((dBor i de δ c).bind K)
  unfold dBor
  rw [R.bind_assoc]
  exact h c
theorem b_borT {i : Nat} {dt : DenT} {K : Bool → Int → R γ} (h : BK (dt (lend1 δ i)) K m o) : BK (dBorT i dt δ) K m o := h
theorem pv_bor {i : Nat} {de : Den} {x : Vl} (h : PV (de (lend1 δ i)) x) (ha : atom x = true) : PV (dBor i de δ) x := fun c => by
  unfold dBor
  rw [h c]
  exact if_pos ha
theorem pv_borT {i : Nat} {dt : DenT} {b : Bool} (h : PV (dt (lend1 δ i)) b) : PV (dBorT i dt δ) b := h
theorem k_atom {x : Vl} (h : atom x = true) : PV (fun c => if atom x = true then R.ok x c else .no) x := fun c => if_pos h
end
end Dn
namespace Dn
open PySem PySem.Spec PyProof.Rows L2
open Dn.Enc (enc)
section
variable {α β γ ρ σ τ : Type} {δ δ' : List Sl} {m : M τ} {o : τ → γ}
theorem RK.close {f : Int → R γ} (h : BK f (fun x c => .ok x c) m o) : RK m o f := fun c => by
  have h := h c
  have e : (f c).bind (fun w c => R.ok w c) = f c := by cases f c <;> rfl
  show Rf (m c) o (f c)
  rw [← e]
  exact h
theorem RK.cvo {mz : M α} {o1 o2 : α → β} {f : Int → R β} (e : ∀ z, o1 z = o2 z) (h : RK mz o1 f) : RK mz o2 f := by
  rw [show o2 = o1 from funext fun z => (e z).symm]
  exact h
theorem cvL [Enc α] [Enc β] {f : α → β} (h : ∀ a, enc (f a) = enc a) (l : List α) : enc (l.map f) = enc l := by
  show PyData.list ((l.map f).map enc) = PyData.list (l.map enc)
  rw [List.map_map]
  congr 1
  exact List.map_congr_left fun a _ => h a
theorem cvT [Enc α] [Enc β] {f : α → β} (h : ∀ a, enc (f a) = enc a) (t : Tp α) : enc (Tp.mk (t.l.map f)) = enc t := by
  show PyData.tuple ((t.l.map f).map enc) = PyData.tuple (t.l.map enc)
  rw [List.map_map]
  congr 1
  exact List.map_congr_left fun a _ => h a
/-! unpacking what is told as a list or tuple of any length -/
def as1 {α : Type} : List α → M (P1 α)
  | [a] => M.ret ⟨a⟩
  | _ => M.no
def as2 {α : Type} : List α → M (P2 α α)
  | [a, b] => M.ret ⟨a, b⟩
  | _ => M.no
def as3 {α : Type} : List α → M (P3 α α α)
  | [a, b, c] => M.ret ⟨a, b, c⟩
  | _ => M.no
def as4 {α : Type} : List α → M (P4 α α α α)
  | [a, b, c, d] => M.ret ⟨a, b, c, d⟩
  | _ => M.no
theorem g_as2 [Enc α] {h : List PyData → PyData} {xs : List α} {dg : DenG} {f : List Sl → Int → R γ} {k : P2 α α → M τ} (hk : ∀ p : P2 α α, RK (k p) o (GO dg (.d (h [enc p.a, enc p.b])) δ f)) : RK (M.bind (as2 xs) k) o (GO dg (.d (h (xs.map enc))) δ f) := by
  match xs with
  | [a, b] => exact hk ⟨a, b⟩
  | [] => exact RK.no
  | [_] => exact RK.no
  | _ :: _ :: _ :: _ => exact RK.no
theorem g_as3 [Enc α] {h : List PyData → PyData} {xs : List α} {dg : DenG} {f : List Sl → Int → R γ} {k : P3 α α α → M τ} (hk : ∀ p : P3 α α α, RK (k p) o (GO dg (.d (h [enc p.a, enc p.b, enc p.c])) δ f)) : RK (M.bind (as3 xs) k) o (GO dg (.d (h (xs.map enc))) δ f) := by
  match xs with
  | [a, b, c] => exact hk ⟨a, b, c⟩
  | [] => exact RK.no
  | [_] => exact RK.no
  | [_, _] => exact RK.no
  | _ :: _ :: _ :: _ :: _ => exact RK.no
theorem g_as4 [Enc α] {h : List PyData → PyData} {xs : List α} {dg : DenG} {f : List Sl → Int → R γ} {k : P4 α α α α → M τ} (hk : ∀ p : P4 α α α α, RK (k p) o (GO dg (.d (h [enc p.a, enc p.b, enc p.c, enc p.d])) δ f)) : RK (M.bind (as4 xs) k) o (GO dg (.d (h (xs.map enc))) δ f) := by
  match xs with
  | [a, b, c, d] => exact hk ⟨a, b, c, d⟩
  | [] => exact RK.no
  | [_] => exact RK.no
  | [_, _] => exact RK.no
  | [_, _, _] => exact RK.no
  | _ :: _ :: _ :: _ :: _ :: _ => exact RK.no
end
theorem fin_true {r : R Out} {c : Int} (h : r.bind finO = .ok (.d (.bool true)) c) : r = .ok (.rt (.d (.bool true))) c := by
  cases r with
  | no => cases h
  | ex k p c => cases h
  | ok w c1 =>
    cases w with
    | nx δ => cases h
    | bk δ => cases h
    | ct δ => cases h
    | rt x => cases h; rfl
/-! ghosts behind a block -/
theorem dSeq_next {Z : Zz} {W : XK} {ts : TS} {ds dn : DenS} (h : SndS Z W ts ds) (hn : SndS Z W tNext dn) : SndS Z W ts (dSeq ds dn) := by
  intro I0 H0 I H σ δ c g a D r
  have e : tSeq ts tNext = ts := by
    funext D σ H
    rfl
  have := sns_seq h hn I0 H0 I H σ δ c g a D r
  rw [e] at this
  exact this
theorem sns_seq1 {Z : Zz} {W : XK} {ts : TS} {ds dn : DenS} (h : SndS Z W ts ds) (hn : SndS Z W tNext dn) : SndS Z W ts (dSeq ds dn) := dSeq_next h hn
theorem sns_frz1 {Z : Zz} {W : XK} {i : Nat} {dn : DenS} (hn : SndS Z W tNext dn) : SndS Z W tNext (dSeq (dFrz i dNext) dn) := dSeq_next (sns_frz sns_next) hn
end Dn
namespace Dn
open PySem PySem.Spec PyProof.Rows L2
open Dn.Enc (enc)
/-! reckoning with readings -/
section
variable {α β γ ρ σ τ : Type}
@[simp] theorem M.bind_get (f : Int → M β) (c : Int) : M.bind M.get f c = f c c := rfl
@[simp] theorem M.bind_put (n : Int) (f : Unit → M β) (c : Int) : M.bind (M.put n) f c = f () n := rfl
theorem M.bind_of {m : M α} {f : α → M β} {a : α} {c c' : Int} (h : m c = .ok a c') : M.bind m f c = f a c' := by
  show (m c).bind f = _
  rw [h]; rfl
theorem M.calm_of {m : M α} {a : α} {c c' : Int} (h : m c = .ok a c') : M.calm m c = .ok a c' := by
  show (m c).calm = _
  rw [h]; rfl
theorem M.bindc_of {m : M α} {f : α → M β} {a : α} {c c' : Int} (h : m c = .ok a c') : M.bind (M.calm m) f c = f a c' := M.bind_of (M.calm_of h)
theorem M.ret_at (a : α) (c : Int) : M.ret a c = .ok a c := rfl
theorem M.ext {m n : M α} (h : ∀ c, m c = n c) : m = n := funext h
def Sm30 (x : Int) : Prop := -10 ^ 30 ≤ x ∧ x ≤ 10 ^ 30
theorem mulM_ok {x y : Int} (h1 : -10 ^ 30 ≤ x) (h2 : x ≤ 10 ^ 30) (h3 : -10 ^ 30 ≤ y) (h4 : y ≤ 10 ^ 30) : mulM x y = M.ret (x * y) := if_pos (bMul_small h1 h2 h3 h4)
theorem divM_ok {x y : Int} (h1 : 0 < y) (h2 : y ≤ 10 ^ 30) : divM x y = M.ret (x / y) := if_pos (decide_eq_true ⟨h1, by omega⟩)
theorem modM_ok {x y : Int} (h1 : 0 < y) : modM x y = M.ret (x % y) := if_pos h1
theorem atI_in {xs : List α} {i : Int} (h0 : 0 ≤ i) (h1 : i < xs.length) : atI xs i = some (xs[i.toNat]'(by omega)) := by
  unfold atI ixN
  rw [if_pos h0, if_pos h1]
  exact List.getElem?_eq_getElem (by omega)
theorem ixM_ok {xs : List α} {i : Int} (h0 : 0 ≤ i) (h1 : i < xs.length) : ixM xs i = M.ret (xs[i.toNat]'(by omega)) := by
  unfold ixM
  rw [atI_in h0 h1]; rfl
theorem atI_get {xs : List α} {i : Nat} (h : i < xs.length) : atI xs (i : Int) = some xs[i] := by
  rw [atI_in (by omega) (by omega)]; simp
theorem ixM_some {xs : List α} {i : Int} {a : α} (h : atI xs i = some a) : ixM xs i = M.ret a := by unfold ixM; rw [h]; rfl
theorem appM_ok {xs : List α} {y : α} (h : xs.length < 16777216) : appM xs y = M.ret (xs ++ [y]) := if_pos h
theorem extM_ok {xs ys : List α} (h : xs.length + ys.length ≤ 16777216) : extM xs ys = M.ret (xs ++ ys) := if_pos h
theorem catM_ok {xs ys : List α} (h : xs.length + ys.length ≤ 16777216) : catM xs ys = M.ret (xs ++ ys) := if_pos h
theorem catTM_ok {xs ys : Tp α} (h : xs.l.length + ys.l.length ≤ 16777216) : catTM xs ys = M.ret ⟨xs.l ++ ys.l⟩ := if_pos h
theorem rng1M_ok {n : Int} (h0 : -(2 ^ 62) ≤ n) (h1 : n < 2 ^ 62) : rng1M n = M.ret (rngL 0 n.toNat) := if_pos (bR_ok h0 h1)
theorem rng2M_ok {a n : Int} (h0 : -(2 ^ 62) ≤ a) (h1 : a < 2 ^ 62) (h2 : -(2 ^ 62) ≤ n) (h3 : n < 2 ^ 62) : rng2M a n = M.ret (rngL a (n - a).toNat) := if_pos ⟨bR_ok h0 h1, bR_ok h2 h3⟩
theorem mapP_ok {xs : List α} {f : α → β} (h : xs.length ≤ 16777216) : mapP xs f = M.ret (xs.map f) := if_pos h
theorem lcP_ok {xs : List α} {t : α → Bool} {f : α → β} (h : xs.length ≤ 16777216) : lcP xs t f = M.ret ((xs.filter t).map f) := if_pos h
theorem rngL_len (lo : Int) (n : Nat) : (rngL lo n).length = n := by simp [rngL]
theorem rngL_get {lo : Int} {n i : Nat} {x : Int} (h : (rngL lo n)[i]? = some x) : x = lo + (i : Int) ∧ i < n := by
  have hi : i < n := by
    have z := (List.getElem?_eq_some_iff.mp h).1
    simpa [rngL] using z
  unfold rngL at h
  rw [List.getElem?_map, List.getElem?_range hi] at h
  exact ⟨(Option.some.inj h).symm, hi⟩
theorem rngL_mem {lo : Int} {n : Nat} {x : Int} : x ∈ rngL lo n ↔ lo ≤ x ∧ x < lo + n := by
  unfold rngL
  rw [List.mem_map]
  constructor
  · rintro ⟨i, hi, rfl⟩
    rw [List.mem_range] at hi
    omega
  · rintro ⟨h1, h2⟩
    exact ⟨(x - lo).toNat, List.mem_range.mpr (by omega), by omega⟩
/-- a loop by an invariant over its turns -/
theorem forS_ix {f : σ → α → M σ} (P : Nat → σ → Int → Prop) : ∀ (xs : List α) (n : Nat) (s : σ) (c : Int), P n s c → (∀ i x s c, xs[i]? = some x → P (n + i) s c → ∃ s' c', f s x c = .ok s' c' ∧ P (n + i + 1) s' c') →
    ∃ s' c', forS xs s f c = .ok s' c' ∧ P (n + xs.length) s' c'
  | [], n, s, c, h0, _ => ⟨s, c, rfl, h0⟩
  | x :: xs, n, s, c, h0, hs => by
    obtain ⟨s1, c1, e1, p1⟩ := hs 0 x s c rfl h0
    obtain ⟨s2, c2, e2, p2⟩ := forS_ix P xs (n + 1) s1 c1 p1 fun i y s c hi hp => by
      have := hs (i + 1) y s c (by simpa using hi) (by rw [show n + (i + 1) = n + 1 + i by omega]; exact hp)
      rw [show n + (i + 1) + 1 = n + 1 + i + 1 by omega] at this
      exact this
    refine ⟨s2, c2, ?_, by rw [List.length_cons, show n + (xs.length + 1) = n + 1 + xs.length by omega]; exact p2⟩
    show M.bind (f s x) (fun s => forS xs s f) c = _
    rw [M.bind_of e1]
    exact e2
theorem forS_inv {f : σ → α → M σ} (P : Nat → σ → Int → Prop) {xs : List α} {s : σ} {c : Int} (h0 : P 0 s c) (hs : ∀ i x s c, xs[i]? = some x → P i s c → ∃ s' c', f s x c = .ok s' c' ∧ P (i + 1) s' c') :
    ∃ s' c', forS xs s f c = .ok s' c' ∧ P xs.length s' c' := by
  obtain ⟨s', c', e, p⟩ := forS_ix P xs 0 s c h0 fun i x s c hi hp => by
    rw [Nat.zero_add] at hp ⊢
    exact hs i x s c hi hp
  rw [Nat.zero_add] at p
  exact ⟨s', c', e, p⟩
/-- a loop that only reckons: a fold -/
theorem forS_pure {f : σ → α → M σ} {g : σ → α → σ} (P : σ → Prop) : ∀ (xs : List α) (s : σ), P s → (∀ s x, x ∈ xs → P s → f s x = M.ret (g s x) ∧ P (g s x)) → forS xs s f = M.ret (xs.foldl g s) ∧ P (xs.foldl g s)
  | [], s, h, _ => ⟨rfl, h⟩
  | x :: xs, s, h, hs => by
    obtain ⟨e, p⟩ := hs s x List.mem_cons_self h
    obtain ⟨e2, p2⟩ := forS_pure P xs (g s x) p fun s y hy => hs s y (List.mem_cons_of_mem _ hy)
    refine ⟨?_, p2⟩
    show M.bind (f s x) (fun s => forS xs s f) = _
    rw [e]
    exact e2
/-- a loop with ways out -/
theorem forF_ix {f : σ → α → M (Fl σ ρ)} (P : Nat → σ → Int → Prop) (Q : Fl σ ρ → Int → Prop) : ∀ (xs : List α) (n : Nat) (s : σ) (c : Int), P n s c →
    (∀ i x s c, xs[i]? = some x → P (n + i) s c → ∃ w c', f s x c = .ok w c' ∧ match w with | .nx s' => P (n + i + 1) s' c' | .bk s' => Q (.nx s') c' | .rt r => Q (.rt r) c') →
    (∀ s c, P (n + xs.length) s c → Q (.nx s) c) → ∃ w c', forF xs s f c = .ok w c' ∧ Q w c'
  | [], n, s, c, h0, _, hq => ⟨.nx s, c, rfl, hq s c h0⟩
  | x :: xs, n, s, c, h0, hs, hq => by
    obtain ⟨w, c1, e1, p1⟩ := hs 0 x s c rfl h0
    have z : forF (x :: xs) s f c = M.bind (f s x) (flK fun s => forF xs s f) c := rfl
    cases w with
    | nx s1 =>
      obtain ⟨w2, c2, e2, p2⟩ := forF_ix P Q xs (n + 1) s1 c1 p1 (fun i y s c hi hp => by
        have := hs (i + 1) y s c (by simpa using hi) (by rw [show n + (i + 1) = n + 1 + i by omega]; exact hp)
        rw [show n + (i + 1) + 1 = n + 1 + i + 1 by omega] at this
        exact this) (fun s c h => hq s c (by rw [List.length_cons, show n + (xs.length + 1) = n + 1 + xs.length by omega]; exact h))
      exact ⟨w2, c2, by rw [z, M.bind_of e1]; exact e2, p2⟩
    | bk s1 => exact ⟨.nx s1, c1, by rw [z, M.bind_of e1]; rfl, p1⟩
    | rt r => exact ⟨.rt r, c1, by rw [z, M.bind_of e1]; rfl, p1⟩
theorem forF_inv {f : σ → α → M (Fl σ ρ)} (P : Nat → σ → Int → Prop) (Q : Fl σ ρ → Int → Prop) {xs : List α} {s : σ} {c : Int} (h0 : P 0 s c)
    (hs : ∀ i x s c, xs[i]? = some x → P i s c → ∃ w c', f s x c = .ok w c' ∧ match w with | .nx s' => P (i + 1) s' c' | .bk s' => Q (.nx s') c' | .rt r => Q (.rt r) c')
    (hq : ∀ s c, P xs.length s c → Q (.nx s) c) : ∃ w c', forF xs s f c = .ok w c' ∧ Q w c' :=
  forF_ix P Q xs 0 s c h0 (fun i x s c hi hp => by rw [Nat.zero_add] at hp; obtain ⟨w, c', e, h⟩ := hs i x s c hi hp; refine ⟨w, c', e, ?_⟩; cases w <;> simpa using h) (fun s c h => hq s c (by simpa using h))
theorem compM_inv {t : α → M Bool} {f : α → M β} (P : Nat → List β → Int → Prop) : ∀ (xs : List α) (n : Nat) (acc : List β) (c : Int), P n acc c →
    (∀ i x acc c, xs[i]? = some x → P (n + i) acc c → ∃ b c1, t x c = .ok b c1 ∧ (b = true → ∃ y c2, f x c1 = .ok y c2 ∧ P (n + i + 1) (acc ++ [y]) c2) ∧ (b = false → P (n + i + 1) acc c1)) →
    ∃ ys c', compM xs t f c = .ok ys c' ∧ P (n + xs.length) (acc ++ ys) c'
  | [], n, acc, c, h0, _ => ⟨[], c, rfl, by rw [List.append_nil]; exact h0⟩
  | x :: xs, n, acc, c, h0, hs => by
    obtain ⟨b, c1, e1, hb1, hb2⟩ := hs 0 x acc c rfl h0
    have step : ∀ (acc' : List β) (c2 : Int), P (n + 1) acc' c2 → ∃ ys c', compM xs t f c2 = .ok ys c' ∧ P (n + 1 + xs.length) (acc' ++ ys) c' := fun acc' c2 hp =>
      compM_inv P xs (n + 1) acc' c2 hp fun i y a c hi hp => by
        have := hs (i + 1) y a c (by simpa using hi) (by rw [show n + (i + 1) = n + 1 + i by omega]; exact hp)
        rw [show n + (i + 1) + 1 = n + 1 + i + 1 by omega] at this
        exact this
    have z : compM (x :: xs) t f c = M.bind (M.calm (t x)) (fun b => if b = true then M.bind (M.calm (f x)) fun y => M.bind (compM xs t f) fun ys => M.ret (y :: ys) else compM xs t f) c := rfl
    rw [z, M.bindc_of e1, List.length_cons, show n + (xs.length + 1) = n + 1 + xs.length by omega]
    cases b with
    | true =>
      obtain ⟨y, c2, e2, p2⟩ := hb1 rfl
      obtain ⟨ys, c', e3, p3⟩ := step _ c2 p2
      refine ⟨y :: ys, c', ?_, by rw [show acc ++ y :: ys = acc ++ [y] ++ ys by simp]; exact p3⟩
      rw [if_pos rfl, M.bindc_of e2, M.bind_of e3]; rfl
    | false =>
      obtain ⟨ys, c', e3, p3⟩ := step _ c1 (hb2 rfl)
      exact ⟨ys, c', by rw [if_neg Bool.false_ne_true]; exact e3, p3⟩
/-- [f x for x in xs] turn by turn -/
theorem mapM1_inv {f : α → M β} (P : Nat → List β → Int → Prop) {xs : List α} {c : Int} (hl : xs.length ≤ 16777216) (h0 : P 0 [] c) (hs : ∀ i x acc c, xs[i]? = some x → P i acc c → ∃ y c', f x c = .ok y c' ∧ P (i + 1) (acc ++ [y]) c') :
    ∃ ys c', mapM1 xs f c = .ok ys c' ∧ P xs.length ys c' := by
  obtain ⟨ys, c', e, p⟩ := compM_inv (t := fun _ => M.ret true) (f := f) P xs 0 [] c h0 fun i x acc c hi hp => by
    rw [Nat.zero_add] at hp ⊢
    obtain ⟨y, c', e, p⟩ := hs i x acc c hi hp
    exact ⟨true, c, rfl, fun _ => ⟨y, c', e, p⟩, fun z => by cases z⟩
  refine ⟨ys, c', ?_, by simpa using p⟩
  unfold mapM1 lcM
  rw [if_pos hl]
  exact e
/-- [f x for x in xs] where f only reckons -/
theorem mapM1_pure {f : α → M β} {g : α → β} {xs : List α} (hl : xs.length ≤ 16777216) (h : ∀ x ∈ xs, f x = M.ret (g x)) : mapM1 xs f = M.ret (xs.map g) := by
  unfold mapM1 lcM
  rw [if_pos hl]
  clear hl
  induction xs with
  | nil => rfl
  | cons x xs ih =>
    show M.bind (M.calm (f x)) (fun y => M.bind (compM xs _ f) fun ys => M.ret (y :: ys)) = _
    rw [h x List.mem_cons_self, ih fun y hy => h y (List.mem_cons_of_mem _ hy)]
    rfl
theorem lcM_pure {t : α → M Bool} {f : α → M β} {u : α → Bool} {g : α → β} {xs : List α} (hl : xs.length ≤ 16777216) (ht : ∀ x ∈ xs, t x = M.ret (u x)) (h : ∀ x ∈ xs, u x = true → f x = M.ret (g x)) : lcM xs t f = M.ret ((xs.filter u).map g) := by
  unfold lcM
  rw [if_pos hl]
  clear hl
  induction xs with
  | nil => rfl
  | cons x xs ih =>
    show M.bind (M.calm (t x)) (fun b => if b = true then M.bind (M.calm (f x)) (fun y => M.bind (compM xs t f) fun ys => M.ret (y :: ys)) else compM xs t f) = _
    rw [ht x List.mem_cons_self, ih (fun y hy => ht y (List.mem_cons_of_mem _ hy)) (fun y hy => h y (List.mem_cons_of_mem _ hy)), List.filter_cons]
    cases hu : u x with
    | false => rfl
    | true =>
      rw [h x List.mem_cons_self hu]
      rfl
/-- r is told, and so -/
def Gives (r : R α) (Q : α → Int → Prop) : Prop := ∃ a c, r = .ok a c ∧ Q a c
theorem Gives.ret {a : α} {c : Int} {Q : α → Int → Prop} (h : Q a c) : Gives (M.ret a c) Q := ⟨a, c, rfl, h⟩
theorem Gives.ok {a : α} {c : Int} {Q : α → Int → Prop} (h : Q a c) : Gives (.ok a c) Q := ⟨a, c, rfl, h⟩
theorem Gives.bind {m : M α} {f : α → M β} {c : Int} {P : α → Int → Prop} {Q : β → Int → Prop} (h : Gives (m c) P) (k : ∀ a c, P a c → Gives (f a c) Q) : Gives (M.bind m f c) Q := by
  obtain ⟨a, c', e, p⟩ := h
  rw [M.bind_of e]
  exact k a c' p
theorem Gives.calm {m : M α} {c : Int} {P : α → Int → Prop} (h : Gives (m c) P) : Gives (M.calm m c) P := by
  obtain ⟨a, c', e, p⟩ := h
  exact ⟨a, c', M.calm_of e, p⟩
theorem Gives.bindc {m : M α} {f : α → M β} {c : Int} {P : α → Int → Prop} {Q : β → Int → Prop} (h : Gives (m c) P) (k : ∀ a c, P a c → Gives (f a c) Q) : Gives (M.bind (M.calm m) f c) Q := .bind (.calm h) k
theorem Gives.imp {r : R α} {P Q : α → Int → Prop} (h : Gives r P) (k : ∀ a c, P a c → Q a c) : Gives r Q := by
  obtain ⟨a, c', e, p⟩ := h
  exact ⟨a, c', e, k a c' p⟩
theorem Gives.forS {f : σ → α → M σ} (P : Nat → σ → Int → Prop) {xs : List α} {s : σ} {c : Int} (h0 : P 0 s c) (hs : ∀ i x s c, xs[i]? = some x → P i s c → Gives (f s x c) (P (i + 1))) : Gives (Dn.forS xs s f c) (P xs.length) :=
  forS_inv P h0 hs
theorem Gives.forF {f : σ → α → M (Fl σ ρ)} (P : Nat → σ → Int → Prop) (Q : Fl σ ρ → Int → Prop) {xs : List α} {s : σ} {c : Int} (h0 : P 0 s c)
    (hs : ∀ i x s c, xs[i]? = some x → P i s c → Gives (f s x c) (fun w c' => match w with | .nx s' => P (i + 1) s' c' | .bk s' => Q (.nx s') c' | .rt r => Q (.rt r) c'))
    (hq : ∀ s c, P xs.length s c → Q (.nx s) c) : Gives (Dn.forF xs s f c) Q := forF_inv P Q h0 hs hq
theorem Gives.mapM1 {f : α → M β} (P : Nat → List β → Int → Prop) {xs : List α} {c : Int} (hl : xs.length ≤ 16777216) (h0 : P 0 [] c) (hs : ∀ i x acc c, xs[i]? = some x → P i acc c → Gives (f x c) (fun y c' => P (i + 1) (acc ++ [y]) c')) : Gives (Dn.mapM1 xs f c) (P xs.length) :=
  mapM1_inv P hl h0 hs
end
end Dn
namespace Dn
open PySem PySem.Spec PyProof.Rows L2
open Dn.Enc (enc)
/-! list + list, whatever they are -/
def rCatS (K : PySem.W.Frag) : R2 := fun x y H Q => ∃ l b xs zs, x = .ref l ∧ y = .ref b ∧ SqL K H l xs ∧ SqL K H b zs ∧ xs.length + zs.length ≤ sizeLine ∧ ∀ p, H p = none → Q (.ref p) (upd H p (.lst (xs ++ zs)))
theorem op_catS {X : Cx} : OpR X (binaryOp .Add) (rCatS X.K) := by
  intro pins s σ H x y v u Q I rx ry h
  obtain ⟨l, b, xs, zs, rfl, rfl, h1, h2, hz, q⟩ := h
  cases rx; cases ry
  obtain ⟨its, r, ⟨⟨k1, dd, da1, sl⟩, n, g1, c1, _, d1⟩, _⟩ := I.list h1
  obtain ⟨jts, r2, ⟨⟨k2, dd2, da2, sl2⟩, n2, g2, c2, _, d2⟩, _⟩ := I.list h2
  simp only at c1 d1 c2 d2
  subst c1 d1 c2 d2
  have e1 := r.length
  have e2 := r2.length
  have ea : its.toArray ++ jts.toArray = (its ++ jts).toArray := by simp
  refine PySem.concat_meets ⟨_, g1, rfl⟩ ⟨_, g2, rfl⟩ PySem.noFill_list_add PySem.seq_list_add PySem.F.slot_list_add PySem.F.entry_list_add
    (PySem.F.args_list_add_2 _ _) (PyProof.Rows.list_addW l b its.toArray jts.toArray n n2 dd dd2 sl sl2 ?_) ⟨g1, g2, ?_⟩
  · rw [List.size_toArray, List.size_toArray]; omega
  · rw [ea]
    exact ⟨.ref _, _, I.lnew (t' := s.toks) (r.append r2) (by rw [List.length_append]; omega), rfl, q _ I.fresh⟩
section
variable {Z : Zz} {W : XK}
/-- what a list is told as, new or kept -/
def dCatV (da db : Den) : DenL := fun δ c => (da δ c).bind fun x c => (db δ c).bind fun y c => match x, y with
  | .d (.list xs), .d (.list ys) => if xs.length + ys.length ≤ 16777216 then .ok (xs ++ ys) c else .no
  | _, _ => .no
theorem snd_catV {ta tb : TE} {da db : Den} (ha : SndE Z W ta da) (hb : SndE Z W tb db) : SndL Z W (tOp (rCatS Z.K) ta tb) (dCatV da db) := by
  intro H0 I H σ δ c a Q h
  refine ha _ _ _ _ _ _ a _ (Res.imp (Res.bind h) fun x c1 I1 H1 g1 k1 h1 v hv => ?_)
  refine hb _ _ _ _ _ _ (a.go g1 k1) _ (Res.imp (Res.bind h1) fun y c2 I2 H2 g2 k2 h2 w hw => ?_)
  split at h2
  · split at h2
    · rename_i hl
      cases vok_grows g2.ii hv with
      | lst s t => cases hw with
        | lst s2 t2 =>
          refine ⟨_, _, _, _, rfl, rfl, sqL_grows k2.ex s, sqL_grows k2.ex s2, by rw [dps_len t, dps_len t2, sizeLine_eq]; exact hl, newL k2 (dps_app t t2) (Res.imp h2 fun zs c3 I3 H3 g3 k3 q l ws f0 => q l ws (freshB (g1.trans g2) f0))⟩
    · exact h2.elim
  · exact h2.elim
/-! zip -/
def zipD (xs ys : List PyData) : List Vl := (xs.zip ys).map fun p => Vl.d (.tuple [p.1, p.2])
theorem zip_at {vs ws : List V} {xs ys : List PyData} {I : Hp} {i : Nat} {v w : V} {x : Vl} (h1 : DpAll Z.K I vs xs) (h2 : DpAll Z.K I ws ys) (e : (zipD xs ys)[i]? = some x) (e1 : vs[i]? = some v) (e2 : ws[i]? = some w) :
    ∃ a b, x = .d (.tuple [a, b]) ∧ Dp Z.K I v a ∧ Dp Z.K I w b := by
  obtain ⟨a, p1, q1⟩ := dps_get' h1 e1
  obtain ⟨b, p2, q2⟩ := dps_get' h2 e2
  refine ⟨a, b, ?_, q1, q2⟩
  unfold zipD at e
  rw [List.getElem?_map, (List.getElem?_zip_eq_some (z := (a, b))).mpr ⟨p1, p2⟩] at e
  exact (Option.some.inj e).symm
theorem zipD_len {vs ws : List V} {xs ys : List PyData} {I : Hp} (h1 : DpAll Z.K I vs xs) (h2 : DpAll Z.K I ws ys) : (zipD xs ys).length = min vs.length ws.length := by
  unfold zipD
  rw [List.length_map, List.length_zip, dps_len h1, dps_len h2]
theorem walks_zipL {a b : Addr} {I : Hp} {vs ws : List V} {xs ys : List PyData} (s1 : SqL Z.K I a vs) (s2 : SqL Z.K I b ws) (h1 : DpAll Z.K I vs xs) (h2 : DpAll Z.K I ws ys) : Walks Z (Itz Z.K a b) I (zipD xs ys) := by
  have hl := zipD_len h1 h2
  refine ⟨fun i H e hi => ⟨vs, ws, vs[i]'(by omega), ws[i]'(by omega), sqL_grows e s1, sqL_grows e s2, by simp, by simp⟩, fun H e => ⟨vs, ws, sqL_grows e s1, sqL_grows e s2, by omega⟩, ?_⟩
  rintro i H v H' x Ic c e k ex ⟨T, u, w, rfl, nT, rfl, y1, y2⟩
  have gr : Grows I H := fun b o z => k.ex b o (e b o z)
  obtain ⟨p, q, rfl, d1, d2⟩ := zip_at h1 h2 ex (y1 vs (sqL_grows gr s1)) (y2 ws (sqL_grows gr s2))
  obtain ⟨g2, k2⟩ := Gr.new (o := .tup [u, w]) k nT
  exact ⟨_, g2, k2, .tup (.inl (.inl upd_same)) (dps_grows g2.ii _ _ (.cons (dp_grows e _ _ d1) (.cons (dp_grows e _ _ d2) .nil)))⟩
theorem walks_zipT {a b : Addr} {I : Hp} {vs ws : List V} {xs ys : List PyData} (s1 : SqT Z.K I a vs) (s2 : SqT Z.K I b ws) (h1 : DpAll Z.K I vs xs) (h2 : DpAll Z.K I ws ys) : Walks Z (RZ.ItzT Z.K a b) I (zipD xs ys) := by
  have hl := zipD_len h1 h2
  refine ⟨fun i H e hi => ⟨vs, ws, vs[i]'(by omega), ws[i]'(by omega), sqT_grows e s1, sqT_grows e s2, by simp, by simp⟩, fun H e => ⟨vs, ws, sqT_grows e s1, sqT_grows e s2, by omega⟩, ?_⟩
  rintro i H v H' x Ic c e k ex ⟨T, u, w, rfl, nT, rfl, y1, y2⟩
  have gr : Grows I H := fun b o z => k.ex b o (e b o z)
  obtain ⟨p, q, rfl, d1, d2⟩ := zip_at h1 h2 ex (y1 vs (sqT_grows gr s1)) (y2 ws (sqT_grows gr s2))
  obtain ⟨g2, k2⟩ := Gr.new (o := .tup [u, w]) k nT
  exact ⟨_, g2, k2, .tup (.inl (.inl upd_same)) (dps_grows g2.ii _ _ (.cons (dp_grows e _ _ d1) (.cons (dp_grows e _ _ d2) .nil)))⟩
def dIZ (da : DenA) : DenI := fun δ c => (da δ c).bind fun xs c => match xs with
  | [.d (.list xs), .d (.list ys)] => .ok (zipD xs ys) c
  | [.d (.tuple xs), .d (.tuple ys)] => .ok (zipD xs ys) c
  | _ => .no
theorem snd_iZ {ta : TA} {da : DenA} (h : SndA Z W ta da) : SndI Z W (RZ.iZipA Z.K ta) (dIZ da) := by
  intro H0 I H σ δ c a Q r
  refine h _ _ _ _ _ _ a _ (Res.imp (Res.bind r) fun x c1 I1 H1 g1 k1 h1 v hv => ?_)
  split at h1
  · cases hv with
    | cons q t => cases t with
      | cons q2 t2 =>
        cases t2
        cases q with
        | lst s u => cases q2 with
          | lst s2 u2 => exact ⟨_, _, _, _, rfl, .inl ⟨sqL_grows k1.ex s, sqL_grows k1.ex s2, Res.ok k1 h1 _ (walks_zipL s s2 u u2)⟩⟩
  · cases hv with
    | cons q t => cases t with
      | cons q2 t2 =>
        cases t2
        cases q with
        | tup s u => cases q2 with
          | tup s2 u2 => exact ⟨_, _, _, _, rfl, .inr ⟨sqT_grows k1.ex s, sqT_grows k1.ex s2, Res.ok k1 h1 _ (walks_zipT s s2 u u2)⟩⟩
  · exact h1.elim
theorem pi_zipK {X : Cx} {K : PySem.W.Frag} {e e2 : Expr} {ta : TA} {p pos tpos : Pos} {elts : List Expr} {kk : Nat} (h : X.K = K) (hg : Gl X "zip") (hm : X.mg "zip" = none) (ha : PA X [e, e2] ta)
    (hs : starEach [e, e2] X.env = (false, eval e X.env) :: starEach [e2] X.env := by rfl) (hpl : (backTo pos (starEach [e2] X.env)).any (·.1) = false := by rfl) :
    PI X (.Tuple elts kk tpos) (.Call (.Name "zip" p) [e, e2] [] pos) (RZ.iZipA K ta) := by
  subst h
  exact RZ.pi_zipA hg hm ha hs hpl
/-! enumerate of a list -/
def enumD (xs : List PyData) : List Vl := xs.zipIdx.map fun p => Vl.d (.tuple [.int (p.2 : Nat), p.1])
theorem walks_enum {a : Addr} {I : Hp} {vs : List V} {xs : List PyData} (s1 : SqL Z.K I a vs) (h1 : DpAll Z.K I vs xs) : Walks Z (Ite Z.K a) I (enumD xs) := by
  have hl : (enumD xs).length = vs.length := by unfold enumD; rw [List.length_map, List.length_zipIdx, dps_len h1]
  refine ⟨fun i H e hi => ⟨vs, vs[i]'(by omega), sqL_grows e s1, by simp⟩, fun H e => ⟨vs, sqL_grows e s1, by omega⟩, ?_⟩
  rintro i H v H' x Ic c e k ex ⟨T, u, rfl, nT, rfl, y1⟩
  have gr : Grows I H := fun b o z => k.ex b o (e b o z)
  obtain ⟨p, e1, d1⟩ := dps_get' h1 (y1 vs (sqL_grows gr s1))
  have ex : x = .d (.tuple [.int (i : Nat), p]) := by
    unfold enumD at ex
    rw [List.getElem?_map, List.getElem?_zipIdx, e1] at ex
    simpa using ex.symm
  subst ex
  obtain ⟨g2, k2⟩ := Gr.new (o := .tup [.int (i : Nat), u]) k nT
  exact ⟨_, g2, k2, .tup (.inl (.inl upd_same)) (dps_grows g2.ii _ _ (.cons (.int _) (.cons (dp_grows e _ _ d1) .nil)))⟩
def dIE (da : DenA) : DenI := fun δ c => (da δ c).bind fun xs c => match xs with
  | [.d (.list xs)] => .ok (enumD xs) c
  | _ => .no
theorem snd_iE {ta : TA} {da : DenA} (h : SndA Z W ta da) : SndI Z W (iEnum Z.K ta) (dIE da) := by
  intro H0 I H σ δ c a Q r
  refine h _ _ _ _ _ _ a _ (Res.imp (Res.bind r) fun x c1 I1 H1 g1 k1 h1 v hv => ?_)
  split at h1
  · cases hv with
    | cons q t =>
      cases t
      cases q with
      | lst s u => exact ⟨_, _, rfl, sqL_grows k1.ex s, Res.ok k1 h1 _ (walks_enum s u)⟩
  · exact h1.elim
theorem pi_enumK {X : Cx} {K : PySem.W.Frag} {e : Expr} {ta : TA} {p pos tpos : Pos} {elts : List Expr} {kk : Nat} (h : X.K = K) (hg : Gl X "enumerate") (hm : X.mg "enumerate" = none) (ha : PA X [e] ta) (hs : starEach [e] X.env = [(false, eval e X.env)] := by rfl) :
    PI X (.Tuple elts kk tpos) (.Call (.Name "enumerate" p) [e] [] pos) (iEnum K ta) := by
  subst h
  exact pi_enum hg hm ha hs
end
end Dn
namespace Dn
open PySem PySem.Spec PyProof.Rows L2
open Dn.Enc (enc)
section
variable {Z : Zz} {W : XK}
/-! [e for x in xs if t for y in ys if u] -/
def comp2D (dg : DenG) (dt : DenT) (di1 : DenI) (dg1 : DenG) (dt1 : DenT) (de : Den) (vs1 : List Nat) (δ : List Sl) : List Vl → Nat → Int → R (List PyData)
  | [], _, c => .ok [] c
  | x :: xs, n, c => match dg x δ with
    | none => .no
    | some δ1 => (dt δ1 c).calm.bind fun b c => if b = true then (di1 δ1 c).calm.bind fun ys c => if n + ys.length ≤ 16777216 then (compD dg1 dt1 de (dwipe δ1 vs1) ys c).bind fun zs c =>
        (comp2D dg dt di1 dg1 dt1 de vs1 δ xs (n + ys.length) c).bind fun ws c => .ok (zs ++ ws) c else .no
      else comp2D dg dt di1 dg1 dt1 de vs1 δ xs n c
def dLc2 (vs vs1 : List Nat) (di : DenI) (dg : DenG) (dt : DenT) (di1 : DenI) (dg1 : DenG) (dt1 : DenT) (de : Den) : DenL := fun δ c => (di δ c).bind fun xs c => comp2D dg dt di1 dg1 dt1 de vs1 (dwipe δ vs) xs 0 c
theorem R.map_bind {α β γ : Type} (r : R α) (f : α → β) (g : β → Int → R γ) : (r.map f).bind g = r.bind fun a c => g (f a) c := by cases r <;> rfl
theorem R.bind_map {α β γ : Type} (r : R α) (f : α → Int → R β) (g : β → γ) : (r.bind f).map g = r.bind fun a c => (f a c).map g := by cases r <;> rfl
/-- the accumulated list stays one's own -/
structure Acc (Z : Zz) (I1 H1 : Hp) (D : Addr) (Ic Hc : Hp) (c : Int) (acc : List V) (ds : List PyData) : Prop where
  g : Gr Z I1 H1 Ic Hc
  k : Ok Z Ic Hc c
  h : Hc D = some (.lst acc)
  n : Ic D = none
  d : DpAll Z.K Ic acc ds
theorem Acc.go {I1 H1 Ic Hc Ia Ha : Hp} {D : Addr} {c ca : Int} {acc : List V} {ds : List PyData} (a : Acc Z I1 H1 D Ic Hc c acc ds) (sD : Z.sa ≠ some D) (g : Gr Z Ic Hc Ia Ha) (k : Ok Z Ia Ha ca) : Acc Z I1 H1 D Ia Ha ca acc ds :=
  ⟨a.g.trans g, k, g.hh D _ sD a.h, g.fr D (by rw [a.h]; exact Option.some_ne_none _) a.n, dps_grows g.ii _ _ a.d⟩
theorem Acc.app {I1 H1 Ic Hc : Hp} {D : Addr} {c : Int} {acc : List V} {ds : List PyData} {v : V} {y : PyData} (a : Acc Z I1 H1 D Ic Hc c acc ds) (sD : Z.sa ≠ some D) (hD : H1 D = none) (r : Dp Z.K Ic v y) : Acc Z I1 H1 D Ic (upd Hc D (.lst (acc ++ [v]))) c (acc ++ [v]) (ds ++ [y]) := by
  have nI : ∀ {d : Addr} {o : HO}, Ic d = some o → d ≠ D := fun h z => by rw [z, a.n] at h; cases h
  refine ⟨⟨a.g.ii, fun d o n e => ?_, fun d e => ?_, a.g.fr⟩, ⟨fun d o e => by rw [upd_ne (nI e)]; exact a.k.ex d o e, fun d e => ?_⟩, upd_same, a.n, dps_app a.d (.cons r .nil)⟩
  · rw [upd_ne (fun z => by rw [z, hD] at e; cases e)]; exact a.g.hh d o n e
  · rw [upd_ne (fun z => e (by rw [z]; exact hD))]; exact a.g.th d e
  · obtain ⟨n1, p, e2, e3⟩ := a.k.st d e
    exact ⟨n1, p, by rw [upd_ne (fun z => sD (by rw [← z]; exact e))]; exact e2, e3⟩
theorem Sls.entry {H0 I H : Hp} {σ : L2.St} {δ : List Sl} {as : List Addr} {D : Addr} {o : HO} (h : Sls Z H0 I H σ δ as) : D ∉ as → Sls Z (upd H0 D o) I H σ δ as := by
  induction h with
  | nil => exact fun _ => .nil
  | no _ ih => exact fun n => .no (ih n)
  | im a _ ih => exact fun n => .im a (ih n)
  | ow h1 h2 h3 h4 h5 h6 _ ih => exact fun n => .ow h1 h2 (by rw [upd_ne (fun e => n (by rw [e]; exact List.mem_cons_self))]; exact h3) h4 h5 h6 (ih fun m => n (List.mem_cons_of_mem _ m))
  | od h1 h5 h2 h3 h4 h6 _ ih => exact fun n => .od h1 h5 h2 (by rw [upd_ne (fun e => n (by rw [e]; exact List.mem_cons_self))]; exact h3) h4 h6 (ih fun m => n (List.mem_cons_of_mem _ m))
  | ow2 h1 h2 h3 h4 h5 h6 h7 _ ih => exact fun n => .ow2 h1 h2 (by rw [upd_ne (fun e => n (by rw [e]; exact List.mem_append_left _ List.mem_cons_self))]; exact h3) h4 (h5.entry fun m => n (List.mem_append_left _ (List.mem_cons_of_mem _ m))) h6 h7 (ih fun m => n (List.mem_append_right _ m))
theorem app_assoc {r : R (List PyData)} {ds : List PyData} {y : PyData} : (r.bind fun ys c => R.ok (y :: ys) c).map (ds ++ ·) = r.map ((ds ++ [y]) ++ ·) := by
  cases r with
  | no => rfl
  | ex k p c => rfl
  | ok ys c => show R.ok (ds ++ y :: ys) c = R.ok (ds ++ [y] ++ ys) c; rw [List.append_assoc]; rfl
theorem snd_lc2 {wi wi1 : TI} {g g1 : TG} {tt tt1 : TT} {te : TE} {di di1 : DenI} {dg dg1 : DenG} {dt dt1 : DenT} {de : Den} {js js1 vs vs1 : List Nat} (hj : ∀ j ∈ js, j ∈ vs) (hj1 : ∀ j ∈ js1, j ∈ vs1)
    (hi : SndI Z W wi di) (hg : SndG Z js g dg) (ht : SndT Z E0 tt dt) (hi1 : SndI Z E0 wi1 di1) (hg1 : SndG Z js1 g1 dg1) (ht1 : SndT Z E0 tt1 dt1) (he : SndE Z E0 te de) :
    SndL Z W (tLc2 wi g tt wi1 g1 tt1 te vs vs1) (dLc2 vs vs1 di dg dt di1 dg1 dt1 de) := by
  intro H0 I H σ δ c a Q h
  refine hi _ _ _ _ _ _ a _ (Res.imp (Res.bind h) fun xs c1 I1 H1 ga k1 h1 J w => ?_)
  intro D hD
  obtain ⟨gD, kD⟩ := Gr.own (o := .lst []) k1 hD
  have sD := freshS k1 hD
  have hHD : H D = none := freshB ga hD
  obtain ⟨H0', H0D, sl0⟩ : ∃ H0' : Hp, H0' D ≠ none ∧ ∃ as, Sls Z H0' I1 H1 σ δ as := by
    obtain ⟨as, s⟩ := a.sl
    refine ⟨upd H0 D (.lst []), by rw [upd_same]; exact Option.some_ne_none _, as, (s.mono ga).entry fun mm => ?_⟩
    obtain ⟨vv, f, _⟩ := s.at mm
    rw [hHD] at f
    cases f
  let Fin : List PyData → Int → Hp → Hp → Prop := fun xs _ I' H' => ∀ l vs, H l = none → I' l = none → H' l = some (.lst vs) → Z.sa ≠ some l → DpAll Z.K I' vs xs → Q (.ref l) H'
  let C2 : List Vl → Nat → Int → R (List PyData) := comp2D dg dt di1 dg1 dt1 de vs1 (dwipe δ vs)
  refine ⟨fun i m Hc => m = xs.length - i ∧ i ≤ xs.length ∧ ∃ Ic c acc ds n, Acc Z I1 H1 D Ic Hc c acc ds ∧ ds.length ≤ n ∧ Res Z W I1 H1 ((C2 (xs.drop i) n c).map (ds ++ ·)) Fin,
    ⟨xs.length, by simp, Nat.zero_le _, I1, c1, [], [], 0, ⟨gD, kD, upd_same, freshI k1 hD, .nil⟩, Nat.le_refl _, ?_⟩, ?_⟩
  · have e : (C2 (xs.drop 0) 0 c1).map (([] : List PyData) ++ ·) = C2 xs 0 c1 := by
      rw [List.drop_zero]; cases C2 xs 0 c1 <;> rfl
    rw [e]
    exact h1
  · rintro i m Hc ⟨rfl, hle, Ic, c, acc, ds, n, A, hn, r⟩
    have back : Grows Ic Hc := A.k.ex
    by_cases hlt : i < xs.length
    · refine .inr ⟨w.go i Hc (fun b o e => back b o (A.g.ii b o e)) hlt, fun Hn => ∃ Ic c acc ds n, Acc Z I1 H1 D Ic Hn c acc ds ∧ ds.length ≤ n ∧ Res Z W I1 H1 ((C2 (xs.drop (i + 1)) n c).map (ds ++ ·)) Fin,
        fun Hn q => ⟨xs.length - (i + 1), by omega, rfl, hlt, q⟩, fun v Hy y => ?_⟩
      obtain ⟨I2, g3, k3, hv⟩ := w.yld i Hc v Hy xs[i] Ic c A.g.ii A.k (by simp) y
      rw [List.drop_eq_getElem_cons hlt] at r
      have A3 := A.go sD g3 k3
      have a2 : At Z H0' I2 Hy (wipe σ vs) (dwipe δ vs) c := ⟨sls_wipe vs (sl0.imp fun _ s => s.mono A3.g), k3⟩
      have z : C2 (xs[i] :: xs.drop (i + 1)) n c = match dg xs[i] (dwipe δ vs) with
        | none => .no
        | some δ1 => (dt δ1 c).calm.bind fun b c => if b = true then (di1 δ1 c).calm.bind fun ys c => if n + ys.length ≤ 16777216 then (compD dg1 dt1 de (dwipe δ1 vs1) ys c).bind fun zs c =>
            (C2 (xs.drop (i + 1)) (n + ys.length) c).bind fun ws c => .ok (zs ++ ws) c else .no
          else C2 (xs.drop (i + 1)) n c := rfl
      rw [z] at r
      cases e1 : dg xs[i] (dwipe δ vs) with
      | none => rw [e1] at r; exact r.elim
      | some δ1 =>
        rw [e1] at r
        dsimp only at r
        refine hg _ _ _ _ _ _ _ _ c a2 hv e1 _ fun σ1 s1 w1 => ⟨by rw [w1 vs hj, wipe_wipe], ?_⟩
        refine ht _ _ _ _ _ _ ⟨s1, k3⟩ _ ?_
        cases q1 : dt δ1 c with
        | no => rw [q1] at r; exact r.elim
        | ex k p c => rw [q1] at r; exact r.elim
        | ok b c2 =>
          rw [q1] at r
          intro I3 H3 g4 k4
          have A4 := A3.go sD g4 k4
          cases b with
          | false => exact iteF ⟨I3, c2, acc, ds, n, A4, hn, r⟩
          | true =>
            refine iteT ?_
            have s4 := s1.imp fun _ s => s.mono g4
            refine hi1 _ _ _ _ _ _ ⟨s4, k4⟩ _ ?_
            cases q2 : di1 δ1 c2 with
            | no => have r : Res Z W I1 H1 (((di1 δ1 c2).calm.bind _).map _) _ := r; rw [q2] at r; exact r.elim
            | ex k p c => have r : Res Z W I1 H1 (((di1 δ1 c2).calm.bind _).map _) _ := r; rw [q2] at r; exact r.elim
            | ok ys c3 =>
              have r : Res Z W I1 H1 (((di1 δ1 c2).calm.bind fun ys c => if n + ys.length ≤ 16777216 then (compD dg1 dt1 de (dwipe δ1 vs1) ys c).bind fun zs c =>
                (C2 (xs.drop (i + 1)) (n + ys.length) c).bind fun ws c => .ok (zs ++ ws) c else .no).map (ds ++ ·)) Fin := r
              rw [q2] at r
              have r : Res Z W I1 H1 ((if n + ys.length ≤ 16777216 then (compD dg1 dt1 de (dwipe δ1 vs1) ys c3).bind fun zs c =>
                (C2 (xs.drop (i + 1)) (n + ys.length) c).bind fun ws c => .ok (zs ++ ws) c else .no).map (ds ++ ·)) Fin := r
              by_cases hz : n + ys.length ≤ 16777216
              · rw [if_pos hz] at r
                intro I4 H4 g5 k5 J1 w1'
                have A5 := A4.go sD g5 k5
                have s5 := s4.imp fun _ s => s.mono g5
                refine ⟨fun j m Hc => m = ys.length - j ∧ j ≤ ys.length ∧ ∃ Ic c acc ds, Grows I4 Ic ∧ Acc Z I1 H1 D Ic Hc c acc ds ∧ (∃ as, Sls Z H0' Ic Hc σ1 δ1 as) ∧ ds.length ≤ n + j ∧
                  Res Z W I1 H1 (((compD dg1 dt1 de (dwipe δ1 vs1) (ys.drop j) c).bind fun zs c => (C2 (xs.drop (i + 1)) (n + ys.length) c).bind fun ws c => .ok (zs ++ ws) c).map (ds ++ ·)) Fin,
                  ⟨ys.length, by simp, Nat.zero_le _, I4, c3, acc, ds, fun _ _ e => e, A5, s5, by omega, by rw [List.drop_zero]; exact r⟩, ?_⟩
                rintro j m Hd ⟨rfl, hle1, Id, cd, acc1, ds1, gI, B, sB, hn1, r1⟩
                by_cases hlt1 : j < ys.length
                · refine .inr ⟨w1'.go j Hd (fun b o e => B.k.ex b o (gI b o e)) hlt1, fun Hn => ∃ Ic c acc ds, Grows I4 Ic ∧ Acc Z I1 H1 D Ic Hn c acc ds ∧ (∃ as, Sls Z H0' Ic Hn σ1 δ1 as) ∧ ds.length ≤ n + (j + 1) ∧
                    Res Z W I1 H1 (((compD dg1 dt1 de (dwipe δ1 vs1) (ys.drop (j + 1)) c).bind fun zs c => (C2 (xs.drop (i + 1)) (n + ys.length) c).bind fun ws c => .ok (zs ++ ws) c).map (ds ++ ·)) Fin,
                    fun Hn q => ⟨ys.length - (j + 1), by omega, rfl, hlt1, q⟩, fun v1 Hy1 y1 => ?_⟩
                  obtain ⟨I6, g6, k6, hv1⟩ := w1'.yld j Hd v1 Hy1 ys[j] Id cd gI B.k (by simp) y1
                  rw [List.drop_eq_getElem_cons hlt1] at r1
                  have B6 := B.go sD g6 k6
                  have s6 := sB.imp fun _ s => s.mono g6
                  have z1 : compD dg1 dt1 de (dwipe δ1 vs1) (ys[j] :: ys.drop (j + 1)) cd = match dg1 ys[j] (dwipe δ1 vs1) with
                    | none => .no
                    | some δ2 => keepD dt1 de (compD dg1 dt1 de (dwipe δ1 vs1) (ys.drop (j + 1))) δ2 cd := rfl
                  rw [z1] at r1
                  cases f1 : dg1 ys[j] (dwipe δ1 vs1) with
                  | none => rw [f1] at r1; exact r1.elim
                  | some δ2 =>
                    rw [f1] at r1
                    dsimp only at r1
                    refine hg1 _ _ _ _ _ _ _ _ cd ⟨sls_wipe vs1 s6, k6⟩ hv1 f1 _ fun σ2 s2 w2 => ⟨by rw [w2 vs1 hj1, wipe_wipe], ?_⟩
                    refine ht1 _ _ _ _ _ _ ⟨s2, k6⟩ _ ?_
                    have r1 : Res Z W I1 H1 (((keepD dt1 de (compD dg1 dt1 de (dwipe δ1 vs1) (ys.drop (j + 1))) δ2 cd).bind fun zs c => (C2 (xs.drop (i + 1)) (n + ys.length) c).bind fun ws c => .ok (zs ++ ws) c).map (ds1 ++ ·)) Fin := r1
                    unfold keepD at r1
                    cases p1 : dt1 δ2 cd with
                    | no => rw [p1] at r1; exact r1.elim
                    | ex k p c => rw [p1] at r1; exact r1.elim
                    | ok b1 c4 =>
                      rw [p1] at r1
                      intro I7 H7 g7 k7
                      have B7 := B6.go sD g7 k7
                      have s7 := s6.imp fun _ s => s.mono g7
                      have gI7 : Grows I4 I7 := fun b o e => g7.ii b o (g6.ii b o (gI b o e))
                      cases b1 with
                      | false => exact iteF ⟨I7, c4, acc1, ds1, gI7, B7, s7, by omega, r1⟩
                      | true =>
                        refine iteT ?_
                        refine he _ _ _ _ _ _ ⟨s2.imp fun _ s => s.mono g7, k7⟩ _ ?_
                        cases p2 : de δ2 c4 with
                        | no =>
                          have r1 : Res Z W I1 H1 ((((de δ2 c4).calm.bind _).bind _).map _) _ := r1
                          rw [p2] at r1; exact r1.elim
                        | ex k p c =>
                          have r1 : Res Z W I1 H1 ((((de δ2 c4).calm.bind _).bind _).map _) _ := r1
                          rw [p2] at r1; exact r1.elim
                        | ok yv c5 =>
                          have r1 : Res Z W I1 H1 ((((de δ2 c4).calm.bind fun y c => match y with
                            | .d y => (compD dg1 dt1 de (dwipe δ1 vs1) (ys.drop (j + 1)) c).bind fun ys c => .ok (y :: ys) c
                            | _ => .no).bind fun zs c => (C2 (xs.drop (i + 1)) (n + ys.length) c).bind fun ws c => .ok (zs ++ ws) c).map (ds1 ++ ·)) Fin := r1
                          rw [p2] at r1
                          intro I8 H8 g8 k8 v2 hv2
                          cases yv with
                          | st => exact r1.elim
                          | op u => exact r1.elim
                          | dk u => exact r1.elim
                          | d yv =>
                            have B8 := B7.go sD g8 k8
                            refine ⟨acc1, B8.h, by rw [dps_len B8.d, sizeLine_eq]; omega, ?_⟩
                            have B9 := B8.app sD hD hv2
                            refine ⟨I8, c5, acc1 ++ [v2], ds1 ++ [yv], fun b o e => g8.ii b o (gI7 b o e), B9, ?_, by simp; omega, ?_⟩
                            · obtain ⟨as, s⟩ := s7
                              refine ⟨as, (s.mono g8).apart fun mm => ?_⟩
                              obtain ⟨_, _, _, n0, _⟩ := s.at mm
                              exact H0D n0
                            · have r1 : Res Z W I1 H1 ((((compD dg1 dt1 de (dwipe δ1 vs1) (ys.drop (j + 1)) c5).bind fun ys c => .ok (yv :: ys) c).bind fun zs c => (C2 (xs.drop (i + 1)) (n + ys.length) c).bind fun ws c => .ok (zs ++ ws) c).map (ds1 ++ ·)) Fin := r1
                              have e9 : (((compD dg1 dt1 de (dwipe δ1 vs1) (ys.drop (j + 1)) c5).bind fun ys c => R.ok (yv :: ys) c).bind fun zs c => (C2 (xs.drop (i + 1)) (n + ys.length) c).bind fun ws c => R.ok (zs ++ ws) c).map (ds1 ++ ·) =
                                (((compD dg1 dt1 de (dwipe δ1 vs1) (ys.drop (j + 1)) c5).bind fun zs c => (C2 (xs.drop (i + 1)) (n + ys.length) c).bind fun ws c => R.ok (zs ++ ws) c).map ((ds1 ++ [yv]) ++ ·)) := by
                                cases compD dg1 dt1 de (dwipe δ1 vs1) (ys.drop (j + 1)) c5 with
                                | no => rfl
                                | ex k p c => rfl
                                | ok zs c6 =>
                                  show (((C2 (xs.drop (i + 1)) (n + ys.length) c6).bind fun ws c => R.ok (yv :: zs ++ ws) c).map (ds1 ++ ·)) = ((C2 (xs.drop (i + 1)) (n + ys.length) c6).bind fun ws c => R.ok (zs ++ ws) c).map ((ds1 ++ [yv]) ++ ·)
                                  cases C2 (xs.drop (i + 1)) (n + ys.length) c6 with
                                  | no => rfl
                                  | ex k p c => rfl
                                  | ok ws c7 => show R.ok (ds1 ++ (yv :: zs ++ ws)) c7 = R.ok (ds1 ++ [yv] ++ (zs ++ ws)) c7; simp
                              rw [← e9]
                              exact r1
                · have ej : j = ys.length := by omega
                  subst ej
                  refine .inl ⟨w1'.stop Hd fun b o e => B.k.ex b o (gI b o e), ?_⟩
                  rw [List.drop_length] at r1
                  refine ⟨Id, cd, acc1, ds1, n + ys.length, B, hn1, ?_⟩
                  have r1 : Res Z W I1 H1 (((C2 (xs.drop (i + 1)) (n + ys.length) cd).bind fun ws c => .ok ([] ++ ws) c).map (ds1 ++ ·)) Fin := r1
                  have e9 : ((C2 (xs.drop (i + 1)) (n + ys.length) cd).bind fun ws c => R.ok ([] ++ ws) c) = C2 (xs.drop (i + 1)) (n + ys.length) cd := by
                    cases C2 (xs.drop (i + 1)) (n + ys.length) cd <;> rfl
                  rw [e9] at r1
                  exact r1
              · rw [if_neg hz] at r
                exact r.elim
    · have e : i = xs.length := by omega
      subst e
      refine .inl ⟨w.stop Hc fun b o e => back b o (A.g.ii b o e), ?_⟩
      rw [List.drop_length] at r
      have r : Res Z W I1 H1 (R.ok (ds ++ []) c) _ := r
      rw [List.append_nil] at r
      exact r Ic Hc A.g A.k D acc (freshB ga hD) A.n A.h sD A.d
end
end Dn
namespace Dn
open PySem PySem.Spec PyProof.Rows L2
open Dn.Enc (enc)
section
variable {Z : Zz} {W : XK}
/-! max, min of a list of ints -/
def gMaxL : List Vl → Int → R Vl
  | [.d (.list xs)], c => match intsOf xs with
    | some (n :: ns) => .ok (.d (.int (ns.foldl max n))) c
    | _ => .no
  | _, _ => .no
def gMinL : List Vl → Int → R Vl
  | [.d (.list xs)], c => match intsOf xs with
    | some (n :: ns) => .ok (.d (.int (ns.foldl min n))) c
    | _ => .no
  | _, _ => .no
theorem foldl_max : ∀ (ns : List Int) (n : Int), (ns.foldl max n ∈ n :: ns) ∧ ∀ y ∈ n :: ns, y ≤ ns.foldl max n
  | [], n => ⟨List.mem_singleton.mpr rfl, fun y h => by rw [List.mem_singleton.mp h]; exact Int.le_refl _⟩
  | m :: ns, n => by
    obtain ⟨h1, h2⟩ := foldl_max ns (max n m)
    refine ⟨?_, fun y h => ?_⟩
    · rcases List.mem_cons.mp h1 with h | h
      · show ns.foldl max (max n m) ∈ n :: m :: ns
        rw [h]
        rcases Int.le_total n m with z | z
        · rw [Int.max_eq_right z]; exact List.mem_cons_of_mem _ List.mem_cons_self
        · rw [Int.max_eq_left z]; exact List.mem_cons_self
      · exact List.mem_cons_of_mem _ (List.mem_cons_of_mem _ h)
    · have z := h2 (max n m) List.mem_cons_self
      rcases List.mem_cons.mp h with rfl | h
      · exact Int.le_trans (Int.le_max_left _ _) z
      · rcases List.mem_cons.mp h with rfl | h
        · exact Int.le_trans (Int.le_max_right _ _) z
        · exact h2 y (List.mem_cons_of_mem _ h)
theorem foldl_min : ∀ (ns : List Int) (n : Int), (ns.foldl min n ∈ n :: ns) ∧ ∀ y ∈ n :: ns, ns.foldl min n ≤ y
  | [], n => ⟨List.mem_singleton.mpr rfl, fun y h => by rw [List.mem_singleton.mp h]; exact Int.le_refl _⟩
  | m :: ns, n => by
    obtain ⟨h1, h2⟩ := foldl_min ns (min n m)
    refine ⟨?_, fun y h => ?_⟩
    · rcases List.mem_cons.mp h1 with h | h
      · show ns.foldl min (min n m) ∈ n :: m :: ns
        rw [h]
        rcases Int.le_total n m with z | z
        · rw [Int.min_eq_left z]; exact List.mem_cons_self
        · rw [Int.min_eq_right z]; exact List.mem_cons_of_mem _ List.mem_cons_self
      · exact List.mem_cons_of_mem _ (List.mem_cons_of_mem _ h)
    · have z := h2 (min n m) List.mem_cons_self
      rcases List.mem_cons.mp h with rfl | h
      · exact Int.le_trans z (Int.min_le_left _ _)
      · rcases List.mem_cons.mp h with rfl | h
        · exact Int.le_trans z (Int.min_le_right _ _)
        · exact h2 y (List.mem_cons_of_mem _ h)
theorem rc_maxL : SndC Z W (L2.rMax Z.K) gMaxL := by
  intro I H xs vs c k hv Q h
  unfold gMaxL at h
  split at h
  · split at h
    · rename_i n ns e
      cases hv with
      | cons a b => cases b; cases a with
        | lst s t =>
          rw [intsOf_eq e] at t
          have := dps_ints' _ t
          subst this
          obtain ⟨h1, h2⟩ := foldl_max ns n
          refine ⟨_, n :: ns, rfl, sqL_grows k.ex s, by simp, fun m m1 m2 => ?_⟩
          rw [show m = ns.foldl max n from Int.le_antisymm (h2 m m1) (m2 _ h1)]
          exact Res.ok k h _ (.int _)
    · exact h.elim
  · exact h.elim
theorem rc_minL : SndC Z W (L2.rMin Z.K) gMinL := by
  intro I H xs vs c k hv Q h
  unfold gMinL at h
  split at h
  · split at h
    · rename_i n ns e
      cases hv with
      | cons a b => cases b; cases a with
        | lst s t =>
          rw [intsOf_eq e] at t
          have := dps_ints' _ t
          subst this
          obtain ⟨h1, h2⟩ := foldl_min ns n
          refine ⟨_, n :: ns, rfl, sqL_grows k.ex s, by simp, fun m m1 m2 => ?_⟩
          rw [show m = ns.foldl min n from Int.le_antisymm (m2 _ h1) (h2 m m1)]
          exact Res.ok k h _ (.int _)
    · exact h.elim
  · exact h.elim
/-! a new list, times an int -/
def dRepL (da : DenL) (db : Den) : DenL := fun δ c => (da δ c).bind fun xs c => (db δ c).bind fun y c => match y with
  | .d (.int k) => if bR k = true ∧ xs.length * k.toNat ≤ 16777216 then .ok (List.replicate k.toNat xs).flatten c else .no
  | _ => .no
theorem dps_rep {K : PySem.W.Frag} {I : Hp} {vs : List V} {xs : List PyData} (h : DpAll K I vs xs) : ∀ n : Nat, DpAll K I (List.replicate n vs).flatten (List.replicate n xs).flatten
  | 0 => .nil
  | n + 1 => by
    rw [List.replicate_succ, List.replicate_succ, List.flatten_cons, List.flatten_cons]
    exact dps_app h (dps_rep h n)
theorem snd_repL {ta tb : TE} {da : DenL} {db : Den} (ha : SndL Z W ta da) (hb : SndE Z W tb db) : SndL Z W (tOp rRep ta tb) (dRepL da db) := by
  intro H0 I H σ δ c a Q h
  refine ha _ _ _ _ _ _ a _ (Res.imp (Res.bind h) fun xs c1 I1 H1 g1 k1 h1 l vs f0 f1 f2 f3 f4 => ?_)
  refine hb _ _ _ _ _ _ (a.go g1 k1) _ (Res.imp (Res.bind h1) fun y c2 I2 H2 g2 k2 h2 w hw => ?_)
  split at h2
  · split at h2
    · rename_i k hl
      obtain ⟨b1, b2⟩ := bR_of hl.1
      cases hw
      have h4 := dps_grows g2.ii _ _ f4
      refine ⟨l, k, vs, rfl, rfl, g2.hh _ _ f3 f2, by omega, by omega, by rw [dps_len f4, sizeLine_eq]; exact hl.2, newL k2 (dps_rep h4 _) (Res.imp h2 fun zs c3 I3 H3 g3 k3 q l ws f0 => q l ws (freshB (g1.trans g2) f0))⟩
    · exact h2.elim
  · exact h2.elim
/-! xs[::-1] of a list -/
def dRevL (da : Den) : DenL := fun δ c => (da δ c).bind fun x c => match x with
  | .d (.list xs) => .ok xs.reverse c
  | _ => .no
theorem dps_rev {K : PySem.W.Frag} {I : Hp} : ∀ {vs : List V} {xs : List PyData}, DpAll K I vs xs → DpAll K I vs.reverse xs.reverse
  | _, _, .nil => .nil
  | _, _, .cons h t => by
    rw [List.reverse_cons, List.reverse_cons]
    exact dps_app (dps_rev t) (.cons h .nil)
theorem snd_revL {ta : TE} {da : Den} (ha : SndE Z W ta da) : SndL Z W (tRevL Z.K ta) (dRevL da) := by
  intro H0 I H σ δ c a Q h
  refine ha _ _ _ _ _ _ a _ (Res.imp (Res.bind h) fun x c1 I1 H1 g1 k1 h1 v hv => ?_)
  split at h1
  · cases hv with
    | lst s t => exact ⟨_, _, rfl, sqL_grows k1.ex s, newL k1 (dps_rev t) (Res.imp h1 fun ys c2 I2 H2 g2 k2 q l ws f0 => q l ws (freshB g1 f0))⟩
  · exact h1.elim
theorem pe_revLK {X : Cx} {K : PySem.W.Frag} {e : Expr} {te : TE} {k : Nat} {p1 p2 p3 pos : Pos} (h : X.K = K) (he : PE X e te) : PE X (.Subscript e (.Slice none none (some (.UnaryOp .USub (.Constant (.int 1) k p1) p2)) p3) pos) (tRevL K te) := by
  subst h
  exact pe_revL he
end
/-! typed -/
section
variable {α β γ κ ρ σ τ : Type} {δ δ' : List Sl} {m : M τ} {o : τ → κ}
def comp2M {α β γ : Type} (t : α → M Bool) (ys : α → M (List β)) (u : α → β → M Bool) (f : α → β → M γ) : List α → Nat → M (List γ)
  | [], _ => M.ret []
  | x :: xs, n => M.bind (M.calm (t x)) fun b => if b = true then M.bind (M.calm (ys x)) fun l => if n + l.length ≤ 16777216 then M.bind (compM l (u x) (f x)) fun zs =>
      M.bind (comp2M t ys u f xs (n + l.length)) fun ws => M.ret (zs ++ ws) else M.no
    else comp2M t ys u f xs n
def lc2M {α β γ : Type} (xs : List α) (t : α → M Bool) (ys : α → M (List β)) (u : α → β → M Bool) (f : α → β → M γ) : M (List γ) := comp2M t ys u f xs 0
theorem r_comp2 [Enc α] [Enc β] [Enc γ] {dg dg1 : DenG} {dt dt1 : DenT} {di1 : DenI} {de : Den} {vs1 : List Nat} {t : α → M Bool} {ys : α → M (List β)} {u : α → β → M Bool} {f : α → β → M γ}
    (hb : ∀ x, ∃ δ1, dg (.d (enc x)) δ = some δ1 ∧ RK (t x) (fun b => b) (dt δ1) ∧ RK (ys x) vls (di1 δ1) ∧ ∀ y, ∃ δ2, dg1 (.d (enc y)) (dwipe δ1 vs1) = some δ2 ∧ RK (u x y) (fun b => b) (dt1 δ2) ∧ RK (f x y) (fun z => Vl.d (enc z)) (de δ2)) :
    ∀ (xs : List α) (n : Nat), RK (comp2M t ys u f xs n) (List.map enc) (fun c => comp2D dg dt di1 dg1 dt1 de vs1 δ (vls xs) n c)
  | [], _ => fun _ => rfl
  | x :: xs, n => by
    obtain ⟨δ1, e, h1, h2, h3⟩ := hb x
    have ih := r_comp2 hb xs
    have z : ∀ c, comp2D dg dt di1 dg1 dt1 de vs1 δ (vls (x :: xs)) n c = (dt δ1 c).calm.bind fun b c => if b = true then (di1 δ1 c).calm.bind fun ys c => if n + ys.length ≤ 16777216 then
        (compD dg1 dt1 de (dwipe δ1 vs1) ys c).bind fun zs c => (comp2D dg dt di1 dg1 dt1 de vs1 δ (vls xs) (n + ys.length) c).bind fun ws c => .ok (zs ++ ws) c else .no
      else comp2D dg dt di1 dg1 dt1 de vs1 δ (vls xs) n c := fun c => by
      show (match dg (Vl.d (enc x)) δ with | none => R.no | some δ1 => _) = _
      rw [e]
      rfl
    refine RK.of z (RK.bind (RK.calm h1) fun b => ?_)
    cases b
    · exact ih n
    · refine RK.bind (RK.calm h2) fun l => ?_
      show RK (if n + l.length ≤ 16777216 then _ else M.no) _ (fun c => if n + (vls l).length ≤ 16777216 then _ else R.no)
      rw [vls_len]
      by_cases hl : n + l.length ≤ 16777216
      · rw [if_pos hl]
        refine RK.of (g := fun c => (compD dg1 dt1 de (dwipe δ1 vs1) (vls l) c).bind fun zs c => (comp2D dg dt di1 dg1 dt1 de vs1 δ (vls xs) (n + l.length) c).bind fun ws c => .ok (zs ++ ws) c) (fun c => if_pos hl) ?_
        refine RK.bind (r_comp h3 l) fun zs => RK.bind (ih _) fun ws => fun c => ?_
        show R.ok (zs.map enc ++ ws.map enc) c = R.ok ((zs ++ ws).map enc) c
        rw [List.map_append]
      · rw [if_neg hl]; exact RK.no
theorem k_lc2M [Enc α] [Enc β] [Enc γ] {dg dg1 : DenG} {dt dt1 : DenT} {di1 : DenI} {de : Den} {vs1 : List Nat} {t : α → M Bool} {ys : α → M (List β)} {u : α → β → M Bool} {f : α → β → M γ} {xs : List α}
    (hb : ∀ x, ∃ δ1, dg (.d (enc x)) δ = some δ1 ∧ RK (t x) (fun b => b) (dt δ1) ∧ RK (ys x) vls (di1 δ1) ∧ ∀ y, ∃ δ2, dg1 (.d (enc y)) (dwipe δ1 vs1) = some δ2 ∧ RK (u x y) (fun b => b) (dt1 δ2) ∧ RK (f x y) (fun z => Vl.d (enc z)) (de δ2)) :
    RK (lc2M xs t ys u f) (List.map enc) (comp2D dg dt di1 dg1 dt1 de vs1 δ (vls xs) 0) := r_comp2 hb xs 0
theorem b_lc2 {vs vs1 : List Nat} {di di1 : DenI} {dg dg1 : DenG} {dt dt1 : DenT} {de : Den} {K : List PyData → Int → R κ} (h : BK (di δ) (fun xs c => (comp2D dg dt di1 dg1 dt1 de vs1 (dwipe δ vs) xs 0 c).bind K) m o) : BK (dLc2 vs vs1 di dg dt di1 dg1 dt1 de δ) K m o := by
  intro c
  show Rf (m c) o ((dLc2 vs vs1 di dg dt di1 dg1 dt1 de δ c).bind K)
  unfold dLc2
  rw [R.bind_assoc]
  exact h c
theorem comp2M_pure {t : α → M Bool} {ys : α → M (List β)} {u : α → β → M Bool} {f : α → β → M γ} {t' : α → Bool} {ys' : α → List β} {u' : α → β → Bool} {f' : α → β → γ} : ∀ (xs : List α) (n : Nat),
    (∀ x ∈ xs, t x = M.ret (t' x)) → (∀ x ∈ xs, t' x = true → ys x = M.ret (ys' x) ∧ ∀ y ∈ ys' x, u x y = M.ret (u' x y) ∧ (u' x y = true → f x y = M.ret (f' x y))) → n + ((xs.filter t').map fun x => (ys' x).length).sum ≤ 16777216 →
    comp2M t ys u f xs n = M.ret ((xs.filter t').flatMap fun x => ((ys' x).filter (u' x)).map (f' x))
  | [], _, _, _, _ => rfl
  | x :: xs, n, h1, h2, h3 => by
    show M.bind (M.calm (t x)) (fun b => if b = true then M.bind (M.calm (ys x)) (fun l => if n + l.length ≤ 16777216 then M.bind (compM l (u x) (f x)) (fun zs => M.bind (comp2M t ys u f xs (n + l.length)) fun ws => M.ret (zs ++ ws)) else M.no) else comp2M t ys u f xs n) = _
    rw [h1 x List.mem_cons_self]
    have r1 := fun y (hy : y ∈ xs) => h1 y (List.mem_cons_of_mem _ hy)
    have r2 := fun y (hy : y ∈ xs) => h2 y (List.mem_cons_of_mem _ hy)
    rw [List.filter_cons] at h3 ⊢
    cases ht : t' x with
    | false =>
      rw [ht, if_neg Bool.false_ne_true] at h3
      rw [if_neg Bool.false_ne_true]
      exact comp2M_pure xs n r1 r2 h3
    | true =>
      rw [ht, if_pos rfl, List.map_cons, List.sum_cons] at h3
      obtain ⟨e1, e2⟩ := h2 x List.mem_cons_self ht
      rw [if_pos rfl, e1]
      have e3 := comp2M_pure xs (n + (ys' x).length) r1 r2 (by omega)
      have e4 := lcM_pure (t := u x) (f := f x) (u := u' x) (g := f' x) (xs := ys' x) (by omega) (fun y hy => (e2 y hy).1) (fun y hy => (e2 y hy).2)
      unfold lcM at e4
      rw [if_pos (by omega)] at e4
      show (if n + (ys' x).length ≤ 16777216 then M.bind (compM (ys' x) (u x) (f x)) (fun zs => M.bind (comp2M t ys u f xs (n + (ys' x).length)) fun ws => M.ret (zs ++ ws)) else M.no) = _
      rw [if_pos (by omega), e4, e3, List.flatMap_cons]
      rfl
/-! zip, enumerate -/
def zipL {α β : Type} (xs : List α) (ys : List β) : List (P2 α β) := (xs.zip ys).map fun p => ⟨p.1, p.2⟩
theorem zipD_enc [Enc α] [Enc β] (xs : List α) (ys : List β) : zipD (xs.map enc) (ys.map enc) = vls (zipL xs ys) := by
  unfold zipD zipL vls
  rw [List.zip_map, List.map_map, List.map_map]
  rfl
theorem k_izL [Enc α] [Enc β] {xs : List α} {ys : List β} : PV (fun c => match [Vl.d (enc xs), Vl.d (enc ys)] with
  | [.d (.list xs), .d (.list ys)] => R.ok (zipD xs ys) c
  | [.d (.tuple xs), .d (.tuple ys)] => .ok (zipD xs ys) c
  | _ => .no) (vls (zipL xs ys)) := fun c => by
  show R.ok (zipD (xs.map enc) (ys.map enc)) c = _
  rw [zipD_enc]
theorem k_izT [Enc α] [Enc β] {xs : Tp α} {ys : Tp β} : PV (fun c => match [Vl.d (enc xs), Vl.d (enc ys)] with
  | [.d (.list xs), .d (.list ys)] => R.ok (zipD xs ys) c
  | [.d (.tuple xs), .d (.tuple ys)] => .ok (zipD xs ys) c
  | _ => .no) (vls (zipL xs.l ys.l)) := fun c => by
  show R.ok (zipD (xs.l.map enc) (ys.l.map enc)) c = _
  rw [zipD_enc]
theorem b_iZ {da : DenA} {K : List Vl → Int → R κ} (h : BK (da δ) (fun xs c => (match xs with
  | [.d (.list xs), .d (.list ys)] => R.ok (zipD xs ys) c
  | [.d (.tuple xs), .d (.tuple ys)] => .ok (zipD xs ys) c
  | _ => .no).bind K) m o) : BK (dIZ da δ) K m o := by
  intro c
  show Rf (m c) o ((dIZ da δ c).bind K)
  unfold dIZ
  rw [R.bind_assoc]
  exact h c
def enumL {α : Type} (xs : List α) : List (P2 Int α) := xs.zipIdx.map fun p => ⟨(p.2 : Nat), p.1⟩
theorem enumD_enc [Enc α] (xs : List α) : enumD (xs.map enc) = vls (enumL xs) := by
  unfold enumD enumL vls
  rw [List.zipIdx_map, List.map_map, List.map_map]
  rfl
theorem k_ieL [Enc α] {xs : List α} : PV (fun c => match [Vl.d (enc xs)] with
  | [.d (.list xs)] => R.ok (enumD xs) c
  | _ => .no) (vls (enumL xs)) := fun c => by
  show R.ok (enumD (xs.map enc)) c = _
  rw [enumD_enc]
theorem b_iE {da : DenA} {K : List Vl → Int → R κ} (h : BK (da δ) (fun xs c => (match xs with
  | [.d (.list xs)] => R.ok (enumD xs) c
  | _ => .no).bind K) m o) : BK (dIE da δ) K m o := by
  intro c
  show Rf (m c) o ((dIE da δ c).bind K)
  unfold dIE
  rw [R.bind_assoc]
  exact h c
/-! + of lists told; a list times an int; reversed -/
theorem b_catV {da db : Den} {K : List PyData → Int → R κ} (h : BK (da δ) (fun x c => (db δ c).bind fun y c => (match x, y with
  | .d (.list xs), .d (.list ys) => if xs.length + ys.length ≤ 16777216 then R.ok (xs ++ ys) c else .no
  | _, _ => .no).bind K) m o) : BK (dCatV da db δ) K m o := by
  intro c
  have h := h c
  show Rf (m c) o ((dCatV da db δ c).bind K)
  unfold dCatV
  rw [R.bind_assoc]
  simp only [R.bind_assoc]
  exact h
theorem k_catV [Enc α] {xs ys : List α} : RK (catM xs ys) (List.map enc) (fun c => match Vl.d (enc xs), Vl.d (enc ys) with
  | .d (.list xs), .d (.list ys) => if xs.length + ys.length ≤ 16777216 then R.ok (xs ++ ys) c else .no
  | _, _ => .no) := fun c => k_catL (xs := xs) (ys := ys) c
def repM {α : Type} (xs : List α) (k : Int) : M (List α) := if bR k = true ∧ xs.length * k.toNat ≤ 16777216 then M.ret (List.replicate k.toNat xs).flatten else M.no
theorem b_repL {da : DenL} {db : Den} {K : List PyData → Int → R κ} (h : BK (da δ) (fun xs c => (db δ c).bind fun y c => (match y with
  | .d (.int k) => if bR k = true ∧ xs.length * k.toNat ≤ 16777216 then R.ok (List.replicate k.toNat xs).flatten c else .no
  | _ => .no).bind K) m o) : BK (dRepL da db δ) K m o := by
  intro c
  have h := h c
  show Rf (m c) o ((dRepL da db δ c).bind K)
  unfold dRepL
  rw [R.bind_assoc]
  simp only [R.bind_assoc]
  exact h
theorem k_repL [Enc α] {xs : List α} {k : Int} : RK (repM xs k) (List.map enc) (fun c => match Vl.d (.int k) with
  | .d (.int k) => if bR k = true ∧ (xs.map enc).length * k.toNat ≤ 16777216 then R.ok (List.replicate k.toNat (xs.map enc)).flatten c else .no
  | _ => .no) := fun c => by
  show Rf (repM xs k c) _ (if bR k = true ∧ (xs.map enc).length * k.toNat ≤ 16777216 then R.ok (List.replicate k.toNat (xs.map enc)).flatten c else .no)
  unfold repM
  rw [List.length_map]
  by_cases h : bR k = true ∧ xs.length * k.toNat ≤ 16777216
  · rw [if_pos h, if_pos h]
    show R.ok _ c = R.ok (((List.replicate k.toNat xs).flatten).map enc) c
    rw [List.map_flatten, List.map_replicate]
  · rw [if_neg h]; exact trivial
theorem b_revL {da : Den} {K : List PyData → Int → R κ} (h : BK (da δ) (fun x c => (match x with | .d (.list xs) => R.ok xs.reverse c | _ => .no).bind K) m o) : BK (dRevL da δ) K m o := by
  intro c
  show Rf (m c) o ((dRevL da δ c).bind K)
  unfold dRevL
  rw [R.bind_assoc]
  exact h c
theorem k_revL [Enc α] {xs : List α} : PV (fun c => match Vl.d (enc xs) with | .d (.list xs) => R.ok xs.reverse c | _ => .no) (xs.reverse.map enc) := fun c => by
  show R.ok (xs.map enc).reverse c = _
  rw [List.map_reverse]
def maxM : List Int → M Int
  | [] => M.no
  | n :: ns => M.ret (ns.foldl max n)
def minM : List Int → M Int
  | [] => M.no
  | n :: ns => M.ret (ns.foldl min n)
theorem k_maxL {xs : List Int} : RK (maxM xs) (fun y => Vl.d (enc y)) (gMaxL [.d (enc xs)]) := fun c => by
  show Rf (maxM xs c) _ (match intsOf (xs.map enc) with | some (n :: ns) => R.ok (Vl.d (.int (ns.foldl max n))) c | _ => .no)
  rw [intsOf_enc]
  cases xs
  · exact trivial
  · exact rfl
theorem k_minL {xs : List Int} : RK (minM xs) (fun y => Vl.d (enc y)) (gMinL [.d (enc xs)]) := fun c => by
  show Rf (minM xs c) _ (match intsOf (xs.map enc) with | some (n :: ns) => R.ok (Vl.d (.int (ns.foldl min n))) c | _ => .no)
  rw [intsOf_enc]
  cases xs
  · exact trivial
  · exact rfl
end
end Dn
namespace Dn
open PySem PySem.Spec PyProof.Rows L2
open Dn.Enc (enc)
/-! lists walked to their end, while an error is handled -/
section
variable {prog : Program} {w : World} {A : Around} {s : Shared}
theorem hotEnd {it l x1 : Addr} {i : Nat} {ys : Array Value} {Q : Option Value → Shared → Prop} {E : Value → Shared → Prop} (hot : HotX.HotAt A x1 s.heap) (ne : x1 ≠ it) (at_it : s.heap.IsListIter it l i)
    (at_l : s.heap.IsList l ys) (off : ys[i]? = none) (want : ∀ h', (∀ b o, b ≠ it → s.heap.get? b = some o → h'.get? b = some o) → Q none { s with heap := h' }) :
    wpAny (model prog w) A (pyNext (.ref it)) Q E s := by
  obtain ⟨oi, gi, ci, di⟩ := id at_it
  obtain ⟨ol, gl, _, nl, dl⟩ := at_l
  obtain ⟨hh, o1, vs1, h1, d1, c1⟩ := hot
  unfold pyNext
  apply wpAny_bind
  apply wpAny_attempt
  apply wpAny_callSpecial?_slot at_it.typeIs slot_listiter_next
  refine wpAny_call_entry slot_listiter_next at_it.typeIs entry_listiter_next ?_ (args_listiter_next _)
  show wpAny _ _ (field (.ref it) 0 >>= _) _ _ s
  apply wpAny_bind
  refine wpAny_field gi di (x := .ref l) rfl ?_
  show wpAny _ _ (if (Value.ref l == Value.none) = true then _ else _) _ _ s
  rw [if_neg (by intro z; cases z)]
  show wpAny _ _ (field (.ref it) 1 >>= _) _ _ s
  apply wpAny_bind
  refine wpAny_field gi di (x := .int i 0) rfl ?_
  show wpAny _ _ (seqItems? (.ref l) >>= _) _ _ s
  apply wpAny_bind
  apply wpAny_seqItems gl dl
  simp only [Int.toNat_natCast, off]
  apply wpAny_bind
  apply wpAny_rule
  apply wpAny_bind
  refine wpAny_setField gi di (by simp) ?_
  have up1 : (s.heap.update it (Obj.mapFields (·.setIfInBounds 0 Value.none))).get? x1 = some o1 := by
    rw [Heap.get?_update_other _ _ (Ne.symm ne)]
    exact h1
  have oth : ∀ b o, b ≠ it → s.heap.get? b = some o → (s.heap.update it (Obj.mapFields (·.setIfInBounds 0 Value.none))).get? b = some o := fun b o n e => by
    rw [Heap.get?_update_other _ _ (Ne.symm n)]
    exact e
  generalize (s.heap.update it (Obj.mapFields (·.setIfInBounds 0 Value.none))) = h0 at up1 oth ⊢
  show wpAny _ _ (newExc (.type "StopIteration") [] >>= _) _ _ _
  apply wpAny_bind
  simp only [newExc, newTuple]
  apply wpAny_bind
  refine wpAny_newObj_type ?_ (by size_fits)
  refine wpAny_bind (m := firstArgMember _ _) (wpAny_of_eq (a := Value.none) (by first | rfl | (simp only [firstArgMember]; rfl)) ?_)
  refine wpAny_newObj_type ?_ (by size_fits)
  have up2 := Heap.get?_push_of_some { cls := .type "tuple", data := .seq ([] : List Value).toArray } up1
  refine HotX.raiseNew_hot ⟨hh, o1, vs1, Heap.get?_push_of_some _ up2, d1, c1⟩ (Nat.ne_of_lt (Heap.lt_size up2)) (Heap.get?_push_size _ rfl) rfl ?_ ?_
  · first | (simp; done) | (simp; omega) | (simp only [Array.size_append]; simp; omega)
  apply wpAny_bind
  refine wpAny_isInstance (T := "StopIteration") (b := true) ⟨_, Heap.get?_update_self _ (Heap.get?_push_size _ rfl) rfl, rfl⟩ isSubtype_stop ?_
  apply wpAny_pure
  apply want
  intro b o n e
  have e1 := Heap.get?_push_of_some { cls := .type "tuple", data := .seq ([] : List Value).toArray } (oth b o n e)
  rw [Heap.get?_update_other _ _ (Nat.ne_of_gt (Heap.lt_size e1))]
  exact Heap.get?_push_of_some _ e1
/-- a list's walk, the handled error kept -/
theorem hotWalk {x1 : Addr} {o1 : Obj} {vs1 : Array Value} (hh : A.handled = some (.ref x1)) (d1 : o1.data = .fields vs1) (c1 : vs1[2]? = some .none) (it l : Addr) (n1 : x1 ≠ it) (n2 : l ≠ it) (ys : Array Value) :
    PySem.Walks prog w A it [it, l, x1] [it] ys.size (fun i v => ys[i]? = some v) (fun i h => h.IsListIter it l i ∧ h.IsList l ys ∧ h.get? x1 = some o1) where
  sub := fun b hb => by
    rw [List.mem_singleton.mp hb]
    exact List.mem_cons_self
  frame := fun i h h' st k => by
    obtain ⟨⟨o, g, r⟩, ⟨o', g', r'⟩, g1⟩ := st
    exact ⟨⟨o, k it (by simp) _ g, r⟩, ⟨o', k l (by simp) _ g', r'⟩, k x1 (by simp) _ g1⟩
  item := fun i s Q E lt st want => by
    obtain ⟨a, b, c⟩ := st
    have there : ys[i]? = some ys[i] := Array.getElem?_eq_some_iff.mpr ⟨lt, rfl⟩
    refine wpAny_pyNext_list_item a b there fun h' a' same => ?_
    have sb := same.extBut
    exact want _ h' s.toks there ⟨a', b.extBut sb n2, sb _ _ n1 c⟩ fun q o hq e => sb q o (fun z => hq (by rw [z]; exact List.mem_singleton.mpr rfl)) e
  done := fun s Q E st want => by
    obtain ⟨a, b, c⟩ := st
    refine hotEnd ⟨hh, o1, vs1, c, d1, c1⟩ n1 a b (by simp) fun h' k => ?_
    exact want h' s.toks fun q o hq e => k q o (fun z => hq (by rw [z]; exact List.mem_singleton.mpr rfl)) e
  self := fun i s Q E st want => wpAny_pyIter_listiter st.1 want
end
end Dn
namespace Dn
open PySem PySem.Spec PyProof.Rows L2
open Dn.Enc (enc)
theorem paired_at {α β : Type} {F : α → β → Prop} : ∀ {as : List α} {bs : List β}, Paired F as bs → ∀ {i : Nat} {b : β}, bs[i]? = some b → ∃ a, as[i]? = some a ∧ F a b
  | _, _, .nil, i, b, e => by cases e
  | _, _, .cons h t, 0, b, e => by cases e; exact ⟨_, rfl, h⟩
  | _, _, .cons h t, i + 1, b, e => paired_at t (by simpa using e)
theorem paired_len {α β : Type} {F : α → β → Prop} : ∀ {as : List α} {bs : List β}, Paired F as bs → as.length = bs.length
  | _, _, .nil => rfl
  | _, _, .cons h t => by rw [List.length_cons, List.length_cons, paired_len t]
def bitOf (ks : List Bool) (i : Nat) : Int := if ks[i]?.getD false = true then 1 else 0
/-! sum([int(x) for x in l]) while an error is handled, l one's own truths -/
section
variable {X : Cx} {iter : Expr} {ti : TE} {x : Str} {scope : Scope} {p0 p1 p2 p3 p4 p5 p6 : Pos} {cl : List (Str × Addr)}
theorem pe_sumHot (hc : L2H.HotC X) (hi : PE X iter ti) (gS : Gl X "sum") (mS : X.mg "sum" = none) (mI : X.mg "int" = none) (cl : List (Str × Addr)) (clos : closureFor scope X.env = pure cl)
    (nocell : ∀ y ∈ scope.names, y.2 ≠ .cell) (fun_ : scope.kind = .function) (once : ∀ y ∈ scope.names, y.2 = .local → scope.names.lookup y.1 = some .local) (hx : scope.names.lookup x = some .local)
    (kI : ∀ C, (compEnvC scope cl C X.env).kindOf "int" = some .globalImplicit) (kx : ∀ C, (compEnvC scope cl C X.env).kindOf x = some .local) (kk : ∀ C, (compEnvC scope cl C X.env).scope.kind = .function)
    (ndb : (x == ("__debug__" : Str)) = false) (hs : ∀ v, foldedSetIterable iter X.env v = pure v := by intro _; rfl)
    (h1 : starEach [.ListComp (.Call (.Name "int" p1) [.Name x p2] [] p3) [⟨.Name x p4, iter, [], 0⟩] scope p5] X.env = [(false, eval (.ListComp (.Call (.Name "int" p1) [.Name x p2] [] p3) [⟨.Name x p4, iter, [], 0⟩] scope p5) X.env)] := by rfl)
    (h2 : ∀ C, starEach [.Name x p2] (compEnvC scope cl C X.env) = [(false, eval (.Name x p2) (compEnvC scope cl C X.env))] := by intro _; rfl) :
    PE X (.Call (.Name "sum" p0) [.ListComp (.Call (.Name "int" p1) [.Name x p2] [] p3) [⟨.Name x p4, iter, [], 0⟩] scope p5] [] p6)
      (fun σ H Q => ti σ H fun v H1 => ∃ l ks, v = .ref l ∧ H1 l = some (.lst (ks.map V.bl)) ∧ Q (.int (preSum (bitOf ks) ks.length)) H1) := by
  constructor
  intro pins s σ H Q I h
  apply wpAny_Call_Name_kw
  refine ld_blt I gS mS boot_sum ?_
  refine PyProof.Rows.callWith_builtin1 ?_ h1 rfl
  rw [h1]
  show wpAny _ _ (spliced ((false, _) :: [])) _ _ _
  apply Calls.spliced_cons
  refine wpAny_ListComp_free (cl := cl) (fun _ => true) (fun v y => ∃ k : Bool, v = .bool k ∧ ∃ t, y = .int (if k then 1 else 0) t) clos nocell fun_ once hx ?_ hs
  refine thn (hi.run pins s σ H _ I h) ?_
  rintro u s1 ⟨v, H1, I1, rv, l, ks, ev, hl, q⟩
  subst ev
  cases (show u = Value.ref l from rv)
  obtain ⟨hz, its, n, ri, e⟩ := I1.hok l _ hl
  have isL : s1.heap.IsList l its.toArray := ⟨_, e, rfl, _, rfl⟩
  have lens : its.length = ks.length := by rw [← ri.length, List.length_map]
  obtain ⟨pp, ⟨hh, vs1, d1, c1⟩, hp⟩ := hc
  have P1 := (I1.pin pp (List.mem_append_left _ hp)).1
  refine wpAny_pyIter_list isL ?_
  refine ⟨s1.heap.objs.size, _, _, its.toArray.size, _, _, rfl, hotWalk hh d1 c1 s1.heap.objs.size l (Nat.ne_of_lt (Heap.lt_size P1)) (Nat.ne_of_lt (Heap.lt_size e)) its.toArray, ?_, ⟨⟨_, Heap.get?_push_size _ rfl, rfl, rfl⟩, isL.push _, Heap.get?_push_of_some _ P1⟩, ?_, ?_, ?_⟩
  · rw [List.size_toArray, lens]
    simpa using hz
  · intro b hb
    show b < (s1.heap.push _).objs.size
    rw [Heap.size_push]
    simp only [List.mem_cons, List.not_mem_nil, or_false] at hb
    rcases hb with rfl | rfl | rfl
    · exact Nat.lt_succ_self _
    · exact Nat.lt_succ_of_lt (Heap.lt_size e)
    · exact Nat.lt_succ_of_lt (Heap.lt_size P1)
  · constructor
    · intro C i v s3 m3 E' hC hP hn hm hk ht
      exact wpAny_tests_nil ⟨rfl, _, _, rfl, fun _ _ z => z⟩
    · intro C i v s3 m3 E' hC hP _ hn hm hk ht
      have up : ∀ b o, X.base.get? b = some o → s3.heap.get? b = some o := fun b o eb => by
        have e1 := I1.bk b o eb
        refine hk b o (fun z => ?_) (Heap.get?_push_of_some _ e1)
        rw [List.mem_singleton.mp z] at e1
        exact absurd (Heap.lt_size e1) (Nat.lt_irrefl _)
      obtain ⟨mb, b1, b2⟩ := I1.mod.blt
      apply wpAny_Call_Name_kw
      refine Calls.Name_function_global (kk C) (kI C) (Calls.loadGlobal_builtin (mg := X.mg) (mb := mb) ?_ mI ?_ ((b2 "int" (by decide)).trans (by rfl)) ?_)
      · show s3.heap.Ns X.env.globals X.mg
        rw [I1.ok.glob]
        exact I1.mod.glob.keeps up
      · show s3.heap.Ns X.env.builtins mb
        rw [I1.ok.blt]
        exact b1.keeps up
      · refine PyProof.Rows.callWith_type1 ?_ (h2 C) rfl
        rw [h2 C]
        show wpAny _ _ (spliced ((false, _) :: [])) _ _ _
        apply Calls.spliced_cons
        refine wpAny_Name (wpAny_loadName_local (kk C) (kx C) hn hm ?_) ndb
        apply Calls.spliced_nil
        have at_i : its[i]? = some v := by simpa using hP
        obtain ⟨k, rfl⟩ : ∃ k : Bool, v = .bool k := by
          have lt : i < (ks.map V.bl).length := by
            rw [ri.length]
            exact (List.getElem?_eq_some_iff.mp at_i).1
          obtain ⟨u', hu', ru⟩ := ri.get (List.getElem?_eq_getElem lt)
          rw [at_i] at hu'
          cases hu'
          rw [List.getElem_map] at ru
          exact ⟨_, ru⟩
        exact call_int_bool ⟨⟨k, rfl, _, rfl⟩, _, _, rfl, fun _ _ z => z⟩
  · intro D h' tk ys vs hD hL hPl hlen hPv hF hk
    have hF : Paired (fun v y => ∃ k : Bool, v = .bool k ∧ ∃ t, y = .int (if k then 1 else 0) t) vs ys.toList := by
      have z : vs.filter (fun _ => true) = vs := List.filter_eq_self.mpr fun _ _ => rfl
      rw [z] at hF
      exact hF
    have vsE : vs = its := by
      apply List.ext_getElem?
      intro i
      cases ev : vs[i]? with
      | some v => simpa using (hPv i v ev).symm
      | none =>
        have : vs.length ≤ i := List.getElem?_eq_none_iff.mp ev
        symm
        apply List.getElem?_eq_none
        simp only [List.size_toArray] at hlen
        omega
    subst vsE
    have nys : ys.size = ks.length := by
      have z := paired_len hF
      rw [lens] at z
      simpa using z.symm
    have up : ∀ b o, s1.heap.get? b = some o → h'.get? b = some o := fun b o e1 => by
      refine hk b o (fun z => ?_) (Heap.get?_push_of_some _ e1)
      rw [List.mem_singleton.mp z] at e1
      exact absurd (Heap.lt_size e1) (Nat.lt_irrefl _)
    obtain ⟨oD, gD, rD⟩ := id hL
    apply Calls.spliced_nil
    refine call_sum_walkG ?_
    refine wpAny_pyIter_list hL ?_
    have P2 := up _ _ P1
    refine ⟨h'.objs.size, _, _, ys.size, _, _, bitOf ks, rfl, hotWalk (A := X.A.in1) hh d1 c1 h'.objs.size D (Nat.ne_of_lt (Heap.lt_size P2)) (Nat.ne_of_lt (Heap.lt_size gD)) ys, ⟨⟨_, Heap.get?_push_size _ rfl, rfl, rfl⟩, hL.push _, Heap.get?_push_of_some _ P2⟩, ?_, ?_, ?_⟩
    · intro b hb
      show b < (h'.push _).objs.size
      rw [Heap.size_push]
      simp only [List.mem_cons, List.not_mem_nil, or_false] at hb
      rcases hb with rfl | rfl | rfl
      · exact Nat.lt_succ_self _
      · exact Nat.lt_succ_of_lt (Heap.lt_size gD)
      · exact Nat.lt_succ_of_lt (Heap.lt_size P2)
    · intro i v hv
      have hv : ys.toList[i]? = some v := by simpa using hv
      obtain ⟨w, hw, k, rfl, t, rfl⟩ := paired_at hF hv
      refine ⟨t, ?_⟩
      have kE : ks[i]? = some k := by
        have lt : i < (ks.map V.bl).length := by
          rw [ri.length]
          exact (List.getElem?_eq_some_iff.mp hw).1
        obtain ⟨u', hu', ru⟩ := ri.get (List.getElem?_eq_getElem lt)
        rw [hw] at hu'
        cases hu'
        rw [List.getElem_map] at ru
        rw [List.length_map] at lt
        rw [List.getElem?_eq_getElem lt]
        cases ru
        rfl
      unfold bitOf
      rw [kE]
      rfl
    · intro h'' tk' t' kk'
      refine ⟨.int (preSum (bitOf ks) ks.length), H1, I1.kept (t' := tk') fun b o e1 => ?_, ⟨t', ?_⟩, q⟩
      · refine kk' b o (fun z => ?_) (Heap.get?_push_of_some _ (up b o e1))
        have e2 := up b o e1
        rw [List.mem_singleton.mp z] at e2
        exact absurd (Heap.lt_size e2) (Nat.lt_irrefl _)
      · rw [nys]
end
end Dn
namespace Dn
open PySem PySem.Spec PyProof.Rows L2
open Dn.Enc (enc)
/-! a def's promise while the error p is handled; it may speak of p -/
abbrev SpH := Addr × Obj → Sp
structure FnE (P : Program) (w : World) (K : PySem.W.Frag) (mg : Str → Option Value) (base : Heap) (CX : CXT) (k : Nat) (f : Addr) (fd : FuncData) (ps : List Str) (sp : SpH) : Prop where
  size : ∀ p xs H Q E, sp p xs H Q E → xs.length = ps.length
  goes : ∀ (A : Around) (outer : List Env) (s : Shared) (H : Hp) (args : Args) (us : List Value) (xs : List V) (Q : VK) (E : XK) (p : Addr × Obj), L2H.RoomH k A → L2H.Hot1 A p → L2H.PinOk outer H s p →
    Env0 P w K mg base A outer s H → BindsTo s fd args (ps.zip us) → Vals xs us → sp p xs H Q E → codeAny (model P w) A (.call (.ref f) args) (CR CX outer P w H s Q E) s
section
variable {P : Program} {w : World} {K : PySem.W.Frag} {mg : Str → Option Value} {base : Heap} {CX : CXT} {k : Nat}
theorem FnE.body {x qual : Str} {st : Stmt} {f : Addr} {fd : FuncData} {N ps : List Str} {sp : SpH} (F : Fun K x qual st f fd) (S : FnScope N ps (defScope st)) (size : ∀ p xs H Q E, sp p xs H Q E → xs.length = ps.length)
    (bd : ∀ (cdv : Value) (A : Around) (outer : List Env) (s : Shared) (H : Hp) (xs : List V) (Q : VK) (E : XK) (p : Addr × Obj), L2H.Hot1 A p → L2H.RoomH k (A.deeper (envOfC qual (defScope st) s.heap.objs.size f cdv)) → sp p xs H Q E →
      ∃ t, PSs (L2H.cxH CX P w K mg base N qual (defScope st) f cdv A outer s H E p) (defBody st) t ∧ t { nx := fun _ H' => Q .non H', rt := Q } (start N xs) H) :
    FnE P w K mg base CX (k + 1) f fd ps sp := by
  obtain ⟨oc, od, kV, doc, pm, an, cdv, ct, osl, hfd, look, hcode⟩ := F.ex
  subst hfd
  refine ⟨size, ?_⟩
  intro A outer s H args us xs Q E p room hot pin env bound rel want
  have same : xs.length = ps.length := size p xs H Q E want
  have there : ∀ b o, base.get? b = some o → s.heap.get? b = some o := fun b o e => (env.bs b o e).1
  have inK : K.In s.heap := env.mod.kin.keeps there
  have free : s.heap.NoLimit := env.mod.nolimit.keeps there
  have kinds : ∀ y ∈ ps.zip us, (defScope st).names.lookup y.1 = some .local ∨ ((defScope st).names.lookup y.1 = some .cell ∧ ((cellsFrom (s.heap.objs.size + 1) (defScope st).names []).lookup y.1).isSome = true) := by
    rintro ⟨n, v⟩ hy
    cases S.par n (List.of_mem_zip hy).1 with
    | inl q => exact Or.inl q
    | inr q => exact Or.inr ⟨q, PySem.W.cellsFrom_some _ _ _ (Or.inl q)⟩
  apply codeAny_call_function room.depth (inK _ _ look) rfl S.co S.gen rfl (PySem.W.codeRec_of inK hcode)
  apply bound
  apply wpAny_newFunctionEnv_cells S.kind kinds
  intro e he s1 made
  cases he
  refine ⟨free.keeps made.toInCall.keep, ?_⟩
  apply codeAny_func
  obtain ⟨t, isT, ends⟩ := bd cdv A outer s H xs Q E p hot (room.deeper _) want
  have J := L2H.inv_startH (CX := CX) (E := E) S pin env same rel made
  refine wpAny_mono (isT.run [] s1 (start N xs) H _ J ends) ?_ (fun _ _ z => z)
  intro flow s2 got
  cases flow with
  | ret u => obtain ⟨v, τ, H2, J2, rv, q⟩ := got; exact ⟨v, H2, J2.os, J2.bare, J2.base, J2.hok, rv, q⟩
  | next => obtain ⟨τ, H2, J2, q⟩ := got; exact ⟨V.non, H2, J2.os, J2.bare, J2.base, J2.hok, rfl, q⟩
  | brk => exact got.elim fun _ z => z.elim fun _ z => z.2.elim
  | cont => exact got.elim fun _ z => z.elim fun _ z => z.2.elim
end
/-! its call -/
section
variable {X : Cx} {CX : CXT} {k : Nat} {f : Addr} {fd : FuncData} {ps : List Str} {sp : SpH} {E : XK} {x : Str} {q pos : Pos} {e : Expr} {es : List Expr} {t : TA}
theorem pe_callE {p : Addr × Obj} (F : FnE X.prog X.w X.K X.mg X.base CX k f fd ps sp) (room : L2H.RoomH k X.A) (hot : L2H.Hot1 X.A p) (hp : p ∈ X.pn) (hg : Gl X x) (hm : X.mg x = some (.ref f)) (hk : PySem.W.keepIn X.K (.ref f) = true) (hb : Binds X.K fd ps [])
    (hx : Passes CX X E) (ha : PA X (e :: es) t) (hdb : (x == ("__debug__" : Str)) = false := by decide) (he : starEach (e :: es) X.env = (false, eval e X.env) :: starEach es X.env := by rfl)
    (hpl : (backTo pos (starEach es X.env)).any (·.1) = false := by rfl) : PE X (.Call (.Name x q) (e :: es) [] pos) (fun σ H Q => t σ H fun xs H1 => sp p xs H1 Q E) := by
  constructor
  intro pins s σ H Q I h
  apply wpAny_Call_Name_kw
  refine ld_glob I hg hm ?_ hdb
  refine PySem.W.callWith_K (h₀ := X.base) I.ok.mod.kin hk ?_ he hpl
  refine thn (ha.run pos pins s σ H _ I h) ?_
  rintro us s1 ⟨xs, H1, I1, r, want⟩
  refine ⟨I1.kIn, ?_⟩
  have hl : (us ++ ([] : List Value)).length = ps.length := by
    rw [List.append_nil, ← r.length]
    exact F.size _ _ _ _ _ want
  have hb' := hb s1 us I1.kIn hl
  rw [List.append_nil] at hb'
  obtain ⟨p1, p2, p3, p4, p5⟩ := I1.pin p (List.mem_append_left _ hp)
  have pin : L2H.PinOk X.stack H1 s1 p := by
    refine ⟨p1, p2, fun hm => ?_, p5⟩
    rcases List.mem_cons.mp (I1.stkSub p.1 hm) with z | z
    · exact p3 z
    · exact p4 z
  apply wpAny_call
  refine codeAny_mono (F.goes X.A X.stack s1 H1 ⟨us, []⟩ us xs Q E p room hot pin I1.env0 hb' r want) ?_
  intro res s2 got
  match res, got with
  | .error er, got => exact hx pins σ H1 s1 er s2 I1 got
  | .ok (.ret u), got => exact I1.after got
  | .ok .next, got => exact got.elim
  | .ok .brk, got => exact got.elim
  | .ok .cont, got => exact got.elim
end
/-! isinstance of the error that is handled -/
theorem call_isH {X : Cx} {a D : Addr} {oe : Obj} (C : ExcC X.K D) (hz : Zc (.ref D) none oe) (hf : ∃ vs, oe.data = .fields vs) (hp : (a, oe) ∈ X.pn) : CallR X (.builtin "isinstance") (rIsE X.K D a) := by
  intro pins s σ H xs us Q I r h
  obtain ⟨c, cv, b, rfl, hcv, e, q⟩ := h
  obtain ⟨u1, u2, rfl, r1, r2⟩ := vals2 r
  cases (show u1 = Value.ref a from r1)
  cases hcv _ r2
  have here := (I.pin (a, oe) (List.mem_append_left _ hp)).1
  obtain ⟨vs, hv⟩ := hf
  obtain ⟨oc, od, oda, osl⟩ := oe
  obtain ⟨z1, z2⟩ := hz
  dsimp only at z1 z2 hv
  subst z1 z2 hv
  have J : PySem.W.InstAt s.heap a ⟨.ref D, none, .fields vs, osl⟩ D none := ⟨here, rfl, rfl, trivial⟩
  refine PySem.W.kia_one (PySem.W.handS_kitx_exc C.hg C.hk C.hs C.hd C.ha C.hn C.ht C.hm) I.kIn J e (fun z => nomatch z) fun tk => ?_
  exact ⟨.bl b, H, I.kept (t' := tk) fun _ _ z => z, rfl, q⟩
/-! the five errors -/
def errNames : List Str := ["NotAllowed", "TooLarge", "Missing", "BadPaper", "BadForm"]
def errWord (i : Nat) : Str := (["refused", "large", "missing", "paper", "form"] : List Str)[i]?.getD "odd"
structure Err5 (K : PySem.W.Frag) (mg : Str → Option Value) where
  p : Addr
  gp : mg "PaintError" = some (.ref p)
  a0 : Addr
  g0 : mg "NotAllowed" = some (.ref a0)
  a1 : Addr
  g1 : mg "TooLarge" = some (.ref a1)
  a2 : Addr
  g2 : mg "Missing" = some (.ref a2)
  a3 : Addr
  g3 : mg "BadPaper" = some (.ref a3)
  a4 : Addr
  g4 : mg "BadForm" = some (.ref a4)
def Err5.at {K : PySem.W.Frag} {mg : Str → Option Value} (T : Err5 K mg) : Nat → Addr
  | 0 => T.a0 | 1 => T.a1 | 2 => T.a2 | 3 => T.a3 | _ => T.a4
structure Err5.Ok {K : PySem.W.Frag} {mg : Str → Option Value} (T : Err5 K mg) : Prop where
  ec : ∀ i < 4, ExcC K (T.at i)
  it : ∀ i < 4, ∀ j < 5, PySem.W.kitOne K (.ref (T.at i)) (.ref (T.at j)) = some (i == j)
  te : ∀ i < 4, PySem.W.exmOne K (.ref (T.at i)) (.ref T.p) = some true
/-- what _law_error tells of the error that is handled -/
def spErr {K : PySem.W.Frag} {mg : Str → Option Value} (T : Err5 K mg) : SpH := fun p xs H Q E => xs = [.ref p.1] ∧ ∃ i < 4, Zc (.ref (T.at i)) none p.2 ∧ (∃ vs, p.2.data = .fields vs) ∧
  ∀ l m ys zs, H l = none → (upd H l (.lst ys)) m = none → Q (.str (errWord i)) (upd (upd H l (.lst ys)) m (.lst zs))
end Dn
namespace Dn
open PySem PySem.Spec PyProof.Rows L2
open Dn.Enc (enc)
/-! try: .. except PaintError as e: return _law_error(e) -/
theorem takesN0 {X : Cx} : L2N.Takes X (fun _ _ _ _ => False) := by
  rintro u s' ⟨_, _, _, _, _, _, _, _, _, _, _, _, _, _, _, _, no⟩
  exact no.elim
/-- what the suite does -/
def tsErr {K : PySem.W.Frag} {mg : Str → Option Value} (T : Err5 K mg) (i : Nat) : Addr → Value → Option Addr → TS := fun a cls d D σ H => σ[i]? = some (some (.ref a)) ∧ ∃ j < 4, cls = .ref (T.at j) ∧ d = none ∧
  ∀ l m ys zs, H l = none → (upd H l (.lst ys)) m = none → D.rt (.str (errWord j)) (upd (upd H l (.lst ys)) m (.lst zs))
theorem pss_err {X : Cx} {a : Addr} {oe : Obj} {pn : List (Addr × Obj)} {cls : Value} {d : Option Addr} {T : Err5 X.K X.mg} {k i : Nat} {f : Addr} {fd : FuncData} {x n : Str} {q pos np rp : Pos}
    (F : FnE X.prog X.w X.K X.mg X.base CX0 k f fd ["e"] (spErr T)) (room : L2H.RoomH k X.A) (hz : L2N.Zn cls d oe) (hf : ∃ vs, oe.data = .fields vs) (hg : Gl X x) (hm : X.mg x = some (.ref f)) (hk : PySem.W.keepIn X.K (.ref f) = true) (hb : Binds X.K fd ["e"] [])
    (hn : X.N[i]? = some n) (hv : Vis X.env.scope n) (ndb : (n == ("__debug__" : Str)) = false) (ncd : (n == ("__classdict__" : Str)) = false) (hdb : (x == ("__debug__" : Str)) = false)
    (he : starEach [.Name n np] X.env = [(false, eval (.Name n np) X.env)] := by rfl) :
    PSs (X.suite a ((a, oe) :: pn)) [.Return (some (.Call (.Name x q) [.Name n np] [] pos)) rp] (tsErr T i a cls d) := by
  obtain ⟨vs, hv'⟩ := hf
  have hot : L2H.Hot1 (X.suite a ((a, oe) :: pn)).A (a, oe) := ⟨rfl, vs, hv', hz.2.2 vs hv'⟩
  have pe : PE (X.suite a ((a, oe) :: pn)) (.Call (.Name x q) [.Name n np] [] pos) (fun σ H Q => tCons (tVar i) tNil σ H fun xs H1 => spErr T (a, oe) xs H1 Q E0) :=
    pe_callE (X := X.suite a ((a, oe) :: pn)) (E := E0) F ⟨room.dp, room.un⟩ hot List.mem_cons_self hg hm hk hb pass0 (pa_cons (pe_var hn hv ndb ncd) pa_nil he) hdb he rfl
  refine ⟨fun pins s σ H D I h => (pss_one (ps_ret pe)).run pins s σ H D I ?_⟩
  obtain ⟨h1, j, hj, e1, e2, h2⟩ := h
  exact ⟨.ref a, h1, rfl, j, hj, ⟨hz.1.trans e1, hz.2.1.trans e2⟩, ⟨vs, hv'⟩, h2⟩
section
variable {X : Cx} {x n : Str} {c : Value} {i : Nat} {body suite : List Stmt} {b₀ : Stmt} {np pos pos' : Pos} {tb : XK → TS} {ts : Addr → Value → Option Addr → TS}
theorem ps_tryE (hs : X.stack = X.env :: X.outer) (hf : X.env.frame = some X.env.locals) (hN : X.N.Nodup) (hi : X.N[i]? = some n) (hln : X.env.kindOf n = some .local) (hc : Names X x c)
    (hb : ∀ (W : XK) (pn : List (Addr × Obj)) (xe : Value → Shared → Prop), L2N.Takes (X.tr pn xe) (fun cls d _ H => W cls d H) → PassesOwn (model X.prog X.w) X.A X.env xe → PSs (X.tr pn xe) body (tb W))
    (hsu : ∀ (a : Addr) (oe : Obj) (cls : Value) (d : Option Addr) (pn : List (Addr × Obj)), L2N.Zn cls d oe → (∃ vs, oe.data = .fields vs) → PSs (X.suite a ((a, oe) :: pn)) (b₀ :: suite) (ts a cls d)) :
    PS X (.Try body [.ExceptHandler (some (.Name x np)) (some n) (b₀ :: suite) pos'] [] [] pos) (fun D σ H => tb (fun cls d H => ∀ σ : L2.St, i < σ.length → wAs X.K c i ts (fun _ _ _ _ => False) D cls d σ H) D σ H) := by
  have base := L2N.ps_try_as (body := body) (pos := pos) (pos' := pos') (np := np) (tb := fun W => tb (fun cls d H => ∀ σ : L2.St, i < σ.length → W cls d σ H)) hs hf hN hi hln hc takesN0 (fun W pn xe tk own => ?_) hsu
  · exact base
  · refine hb _ pn xe ?_ own
    rintro u s' ⟨a, B, sI, pins, σ, H, cls, d, e, I, r1, r2, r3, r4, r5, r6, w⟩
    refine tk u s' ⟨a, B, sI, pins, σ, H, cls, d, e, I, r1, r2, r3, r4, r5, r6, w σ ?_⟩
    rw [I.len]
    exact (List.getElem?_eq_some_iff.mp hi).1
end
/-- the error's word -/
def errOut : Str → Int → R Out := fun k c => if k = ("NotAllowed" : Str) then .ok (.rt (.d (.str "refused"))) c else if k = ("TooLarge" : Str) then .ok (.rt (.d (.str "large"))) c else
  if k = ("Missing" : Str) then .ok (.rt (.d (.str "missing"))) c else if k = ("BadPaper" : Str) then .ok (.rt (.d (.str "paper"))) c else .no
def dTryE (db : DenS) : DenS := fun δ c => match db δ c with
  | .ok o c1 => .ok o c1
  | .ex k none c1 => errOut k c1
  | _ => .no
theorem errOut_at {K : PySem.W.Frag} {mg : Str → Option Value} (T : Err5 K mg) {k : Str} {c : Int} {Z : Zz} {W : XK} {I H : Hp} {P : Out → Int → Hp → Hp → Prop} (hm : Z.cl = mg) (h : Res Z W I H (errOut k c) P) :
    ∃ j < 4, mg k = some (.ref (T.at j)) ∧ Res Z W I H (.ok (.rt (.d (.str (errWord j)))) c) P := by
  unfold errOut at h
  split at h
  · rename_i e
    exact ⟨0, by decide, by rw [e]; exact T.g0, h⟩
  · split at h
    · rename_i e
      exact ⟨1, by decide, by rw [e]; exact T.g1, h⟩
    · split at h
      · rename_i e
        exact ⟨2, by decide, by rw [e]; exact T.g2, h⟩
      · split at h
        · rename_i e
          exact ⟨3, by decide, by rw [e]; exact T.g3, h⟩
        · exact h.elim
theorem sns_tryE {Z : Zz} {W0 : XK} {tb : XK → TS} {db : DenS} {i : Nat} (hb : ∀ W, SndS Z W (tb W) db) (T : Err5 Z.K Z.cl) (ok : T.Ok) :
    SndS Z W0 (fun D σ H => tb (fun cls d H => ∀ σ : L2.St, i < σ.length → wAs Z.K (.ref T.p) i (tsErr T i) (fun _ _ _ _ => False) D cls d σ H) D σ H) (dTryE db) := by
  intro I0 H0 I H σ δ c g a D h
  refine hb _ I0 H0 I H σ δ c g a D ?_
  unfold dTryE at h
  cases e : db δ c with
  | no => rw [e] at h; exact h.elim
  | ok o c1 => rw [e] at h; exact h
  | ex k p c1 =>
    rw [e] at h
    cases p with
    | some n => exact h.elim
    | none =>
      obtain ⟨j, hj, hk, h⟩ := errOut_at T rfl h
      intro I2 H2 cls d g2 k2 hcl hd σ' lt
      have hcls : cls = .ref (T.at j) := Option.some.inj (hcl.symm.trans hk)
      refine ⟨true, by rw [hcls]; exact ok.te j hj, fun _ a' _ => ⟨?_, j, hj, hcls, hd, fun l m ys zs e1 e2 => ?_⟩, fun z => nomatch z⟩
      · rw [List.getElem?_set_self lt]
      · obtain ⟨g3, k3⟩ := Gr.own (o := .lst ys) k2 e1
        obtain ⟨g4, k4⟩ := Gr.own (o := .lst zs) k3 e2
        have h := Res.base (g2.trans (g3.trans g4)) h
        exact Res.ok k4 h _ (.str _)
end Dn
namespace Dn
open PySem PySem.Spec PyProof.Rows L2
open Dn.Enc (enc)
/-! _law_error, read -/
def tIs (K : PySem.W.Frag) (D a c : Addr) : TE := tCB (rIsE K D a) (tCons (tVar 0) (tCons (tC (V.ref c)) tNil))
theorem isE_reads {K : PySem.W.Frag} {D a c : Addr} {b : Bool} {σ : L2.St} {H : Hp} {Q : VK} (h0 : σ[0]? = some (some (.ref a))) (k : PySem.W.kitOne K (.ref D) (.ref c) = some b) (q : Q (.bl b) H) : tIs K D a c σ H Q :=
  ⟨.ref a, h0, .ref c, .ref c, b, rfl, fun _ r => r, k, q⟩
def errKs (i : Nat) : List Bool := [i == 0, i == 1, i == 2, i == 3, i == 4]
theorem err_reads {K : PySem.W.Frag} {mg : Str → Option Value} (T : Err5 K mg) (ok : T.Ok) {i : Nat} (hi : i < 4) {a : Addr} {D : Ends} {σ : L2.St} {H : Hp} (h0 : σ[0]? = some (some (.ref a))) (h1 : 1 < σ.length)
    (want : ∀ l m ys zs, H l = none → (upd H l (.lst ys)) m = none → D.rt (.str (errWord i)) (upd (upd H l (.lst ys)) m (.lst zs))) :
    tSeq (tAsg (tLst (tCons (tIs K (T.at i) a T.a0) (tCons (tIs K (T.at i) a T.a1) (tCons (tIs K (T.at i) a T.a2) (tCons (tIs K (T.at i) a T.a3) (tCons (tIs K (T.at i) a T.a4) tNil)))))) (gName 1))
      (tSeq (tIfS (tTest (tOp rNe (fun σ H Q => tVar 1 σ H fun v H1 => ∃ l ks, v = V.ref l ∧ H1 l = some (HO.lst (List.map V.bl ks)) ∧ Q (V.int (preSum (bitOf ks) ks.length)) H1) (tC (V.int 1)))) (tRet (tC (V.str "odd"))) tNext)
        (tRet (tOp (rIx K) (tLst (tCons (tC (V.str "refused")) (tCons (tC (V.str "large")) (tCons (tC (V.str "missing")) (tCons (tC (V.str "paper")) (tCons (tC (V.str "form")) tNil))))))
          (tBM K "list" (rIndex K) (tVar 1) (tCons (tC (V.bl true)) tNil))))) D σ H := by
  refine isE_reads h0 (ok.it i hi 0 (by decide)) (isE_reads h0 (ok.it i hi 1 (by decide)) (isE_reads h0 (ok.it i hi 2 (by decide)) (isE_reads h0 (ok.it i hi 3 (by decide)) (isE_reads h0 (ok.it i hi 4 (by decide)) ?_))))
  refine ⟨by show 5 ≤ sizeLine; decide, fun l hl => ?_⟩
  have at1 : (σ.set 1 (some (V.ref l)))[1]? = some (some (.ref l)) := List.getElem?_set_self h1
  have hL : (upd H l (.lst ((errKs i).map V.bl))) l = some (.lst ((errKs i).map V.bl)) := upd_same
  have sum1 : preSum (bitOf (errKs i)) (errKs i).length = 1 := by
    match i, hi with
    | 0, _ => rfl
    | 1, _ => rfl
    | 2, _ => rfl
    | 3, _ => rfl
  refine ⟨.ref l, at1, l, errKs i, rfl, hL, rfl, ?_⟩
  rw [sum1]
  refine ⟨false, rfl, ?_⟩
  refine cast (if_neg Bool.false_ne_true).symm ?_
  refine ⟨by show 5 ≤ sizeLine; decide, fun m hm => ?_⟩
  have nm : m ≠ l := fun z => by
    rw [z] at hm
    cases (show (upd H l (.lst ((errKs i).map V.bl))) l = none from hm).symm.trans upd_same
  have hL2 : (upd (upd H l (.lst ((errKs i).map V.bl))) m (.lst [V.str "refused", V.str "large", V.str "missing", V.str "paper", V.str "form"])) l = some (.lst ((errKs i).map V.bl)) := by
    rw [upd_ne (Ne.symm nm)]
    exact upd_same
  refine ⟨.ref l, at1, .inl ⟨rfl, _, .inl (.inl hL2)⟩, ?_⟩
  refine ⟨l, (errKs i).map V.bl, .bl true, i, .bl true, rfl, rfl, .inl (.inl hL2), rfl, ?_, ?_, rfl, ?_, ?_⟩
  · match i, hi with
    | 0, _ => rfl
    | 1, _ => rfl
    | 2, _ => rfl
    | 3, _ => rfl
  · match i, hi with
    | 0, _ => rfl
    | 1, _ => rfl
    | 2, _ => rfl
    | 3, _ => rfl
  · intro k z lt e
    match i, hi, k, lt with
    | 1, _, 0, _ => cases e; rfl
    | 2, _, 0, _ => cases e; rfl
    | 2, _, 1, _ => cases e; rfl
    | 3, _, 0, _ => cases e; rfl
    | 3, _, 1, _ => cases e; rfl
    | 3, _, 2, _ => cases e; rfl
  · have fin := want l m ((errKs i).map V.bl) [V.str "refused", V.str "large", V.str "missing", V.str "paper", V.str "form"] hl hm
    refine .inl ⟨m, _, (i : Nat), .str (errWord i), rfl, rfl, .inl (.inl upd_same), ?_, fin⟩
    match i, hi with
    | 0, _ => rfl
    | 1, _ => rfl
    | 2, _ => rfl
    | 3, _ => rfl
end Dn
namespace Dn
open PySem PySem.Spec PyProof.Rows L2
open Dn.Enc (enc)
theorem passN {X : Cx} : Passes (L2N.CX X.prog X.w) X E0 := by
  rintro pins σ H s e s' I ⟨_, _, _, _, _, _, _, _, _, _, _, _, no⟩
  exact no.elim
/-! a told call, typed -/
def errM (k : Str) (c : Int) : R PyData := if k = ("NotAllowed" : Str) then .ok (.str "refused") c else if k = ("TooLarge" : Str) then .ok (.str "large") c else
  if k = ("Missing" : Str) then .ok (.str "missing") c else if k = ("BadPaper" : Str) then .ok (.str "paper") c else .no
def M.tryE (m : M PyData) : M PyData := fun c => match m c with
  | .ok a c1 => .ok a c1
  | .ex k none c1 => errM k c1
  | _ => .no
theorem b_tryE {db : DenS} {δ : List Sl} {m : M PyData} (h : BK (db δ) finO m (fun r => Vl.d (enc r))) : BK (dSeq (dTryE db) dNext δ) finO (M.tryE m) (fun r => Vl.d (enc r)) := by
  intro c
  have h := h c
  unfold M.tryE
  cases e : m c with
  | no => trivial
  | ok a c1 =>
    rw [e] at h
    have h : (db δ c).bind finO = .ok (Vl.d (enc a)) c1 := h
    show (dSeq (dTryE db) dNext δ c).bind finO = .ok (Vl.d (enc a)) c1
    unfold dSeq dTryE
    cases q : db δ c with
    | no => rw [q] at h; cases h
    | ex k p c2 => rw [q] at h; cases h
    | ok o c2 =>
      rw [q] at h
      cases o with
      | nx δ' => exact h
      | rt x => exact h
      | bk δ' => cases h
      | ct δ' => cases h
  | ex k p c1 =>
    rw [e] at h
    have h : (db δ c).bind finO = .ex k p c1 := h
    cases p with
    | some n => trivial
    | none =>
      have q : db δ c = .ex k none c1 := by
        cases q : db δ c with
        | no => rw [q] at h; cases h
        | ex k p c2 => rw [q] at h; cases h; rfl
        | ok o c2 =>
          rw [q] at h
          cases o with
          | nx δ' => cases h
          | rt x => cases h
          | bk δ' => cases h
          | ct δ' => cases h
      show Rf (errM k c1) _ ((dSeq (dTryE db) dNext δ c).bind finO)
      unfold dSeq dTryE
      rw [q]
      show Rf (errM k c1) _ (((errOut k c1).bind _).bind finO)
      unfold errM errOut
      by_cases k1 : k = ("NotAllowed" : Str)
      · simp only [k1, if_true]; rfl
      · by_cases k2 : k = ("TooLarge" : Str)
        · simp only [k1, k2, if_true, if_false]; rfl
        · by_cases k3 : k = ("Missing" : Str)
          · simp only [k1, k2, k3, if_true, if_false]; rfl
          · by_cases k4 : k = ("BadPaper" : Str)
            · simp only [k1, k2, k3, k4, if_true, if_false]; rfl
            · simp only [k1, k2, k3, k4, if_false]; trivial
/-- what a call gives, or the error's word -/
theorem Gives.tryE {m : M PyData} {c : Int} {Q : PyData → Int → Prop} (h : Gives (m c) Q) : Gives (M.tryE m c) Q := by
  obtain ⟨a, c1, e, q⟩ := h
  exact ⟨a, c1, by unfold M.tryE; rw [e], q⟩
theorem tryE_ret {m : M PyData} {c c1 : Int} {a : PyData} (e : m c = .ok a c1) : M.tryE m c = .ok a c1 := by unfold M.tryE; rw [e]
theorem tryE_err {m : M PyData} {c c1 : Int} {k : Str} (e : m c = .ex k none c1) : M.tryE m c = errM k c1 := by unfold M.tryE; rw [e]
end Dn
namespace Dn
open PySem PySem.Spec PyProof.Rows L2
open Dn.Enc (enc)
/-! [f, g, ..][k](e, ..) -/
theorem atI_maps {α β : Type} (g : α → β) (xs : List α) (i : Int) : atI (xs.map g) i = (atI xs i).map g := by
  unfold atI
  rw [List.length_map]
  cases ixN xs.length i with
  | none => rfl
  | some j => simp
abbrev Fam := List (Addr × (List Int → List Vl → Int → R Vl))
def Can (X : Cx) (E : XK) (n : Nat) (K : PySem.W.Frag) (mg : Str → Option Value) (p : Addr × (List Int → List Vl → Int → R Vl)) : Prop :=
  ∃ (CX : CXT) (k : Nat) (fd : FuncData) (ps : List Str), FnG X.prog X.w X.K X.mg X.base CX k p.1 fd ps (spD n K mg p.2) ∧ Room k X.A ∧ PySem.W.keepIn X.K (.ref p.1) = true ∧ Binds X.K fd ps [] ∧ Passes CX X E
section
variable {X : Cx} {E : XK} {n : Nat} {K : PySem.W.Frag} {mg : Str → Option Value} {L : Fam} {fe e : Expr} {es : List Expr} {pos : Pos} {tf : TE} {t : TA}
theorem can_nil : ∀ p ∈ ([] : Fam), Can X E n K mg p := fun p h => by cases h
theorem can_cons {CX : CXT} {k : Nat} {f : Addr} {fd : FuncData} {ps : List Str} {df : List Int → List Vl → Int → R Vl} (F : FnG X.prog X.w X.K X.mg X.base CX k f fd ps (spD n K mg df)) (r : Room k X.A) (kp : PySem.W.keepIn X.K (.ref f) = true) (b : Binds X.K fd ps [])
    (x : Passes CX X E) (h : ∀ p ∈ L, Can X E n K mg p) : ∀ p ∈ (f, df) :: L, Can X E n K mg p := fun p hp => by
  rcases List.mem_cons.mp hp with rfl | hp
  · exact ⟨CX, k, fd, ps, F, r, kp, b, x⟩
  · exact h p hp
theorem pe_table (g : X.A.guards = some []) (can : ∀ p ∈ L, Can X E n K mg p) (hf : PE X fe tf) (ha : PA X (e :: es) t)
    (hev : eval (.Call fe (e :: es) [] pos) X.env = (do
      let f ← eval fe X.env
      callWith pos f [] (backTo pos (starEach (e :: es) X.env)) (backToKw pos (keywordEach [] X.env))) := by rfl)
    (he : starEach (e :: es) X.env = (false, eval e X.env) :: starEach es X.env := by rfl) (hpl : (backTo pos (starEach es X.env)).any (·.1) = false := by rfl) :
    PE X (.Call fe (e :: es) [] pos) (fun σ H Q => tf σ H fun v H1 => ∃ p ∈ L, v = .ref p.1 ∧ t σ H1 fun xs H2 => spD n K mg p.2 xs H2 Q E) := by
  constructor
  intro pins s σ H Q I h
  rw [hev]
  apply wpAny_bind
  refine thn (hf.run pins s σ H _ I h) ?_
  rintro u s1 ⟨v, H1, I1, rv, p, hp, ev, want⟩
  subst ev
  cases (show u = Value.ref p.1 from rv)
  obtain ⟨CX, k, fd, ps, F, room, kp, hb, hx⟩ := can p hp
  refine PySem.W.callWith_K (h₀ := X.base) I1.ok.mod.kin kp ?_ he hpl
  refine thn (ha.run pos pins s1 σ H1 _ I1 want) ?_
  rintro us s2 ⟨xs, H2, I2, r, q⟩
  exact ⟨I2.kIn, FnG.call F g room hb hx I2 r q⟩
end
def tRefs : List Addr → TA
  | [] => tNil
  | a :: as => tCons (tC (.ref a)) (tRefs as)
theorem tRefs_reads {σ : L2.St} {H : Hp} {Q : List V → Hp → Prop} : ∀ {as : List Addr}, Q (as.map V.ref) H → tRefs as σ H Q
  | [], q => q
  | a :: as, q => tRefs_reads (as := as) (Q := fun xs H2 => Q (V.ref a :: xs) H2) q
def tabK (n : Nat) (dfs : List (List Vl → Int → R Vl)) (fa : Int → R (List Vl)) : Vl → Int → R Vl
  | .d (.int i), c1 => match atI dfs i with
    | some df => (fa c1).bind fun xs c2 => if xs.length = n then df xs c2 else .no
    | none => .no
  | _, _ => .no
def dTab (n : Nat) (dfs : List (List Vl → Int → R Vl)) (di : Den) (da : DenA) : Den := fun δ c => (di δ c).bind (tabK n dfs (da δ))
theorem snd_tab {Z : Zz} {W : XK} {n : Nat} {L : Fam} {te : TE} {ta : TA} {di : Den} {da : DenA} (hi : SndE Z W te di) (ha : SndA Z W ta da) (few : L.length ≤ sizeLine := by exact Nat.le_trans (m := 64) (Nat.le_of_ble_eq_true rfl) (by decide)) :
    SndE Z W (fun σ H Q => tOp (rIx Z.K) (tLst (tRefs (L.map (·.1)))) te σ H fun v H1 => ∃ p ∈ L, v = .ref p.1 ∧ ta σ H1 fun xs H2 => spD n Z.K Z.cl p.2 xs H2 Q W) (dTab n (L.map fun p => p.2 Z.ns) di da) := by
  intro H0 I H σ δ c a Q h
  refine tRefs_reads ⟨by simpa using few, fun l hl => ?_⟩
  obtain ⟨g1, k1⟩ := Gr.own (o := .lst ((L.map (·.1)).map V.ref)) a.k hl
  refine hi _ _ _ _ _ _ (a.go g1 k1) _ (Res.imp (Res.bind (Res.base g1 h)) fun x c2 I2 H2 g2 k2 h2 v hv => ?_)
  unfold tabK at h2
  split at h2
  · rename_i i
    cases hv
    rw [atI_maps] at h2
    cases e : atI L i with
    | none => rw [e] at h2; exact h2.elim
    | some p =>
      rw [e] at h2
      have at_l : H2 l = some (.lst ((L.map (·.1)).map V.ref)) := g2.hh l _ (freshS a.k hl) upd_same
      have mem : p ∈ L := by
        unfold atI at e
        cases q : ixN L.length i with
        | none => rw [q] at e; cases e
        | some j => rw [q] at e; exact List.mem_of_getElem? e
      refine .inl ⟨l, _, i, .ref p.1, rfl, rfl, .inl (.inl at_l), ?_, p, mem, rfl, ?_⟩
      · rw [atI_maps, atI_maps, e]
        rfl
      · refine ha _ _ _ _ _ _ (a.go (g1.trans g2) k2) _ (Res.imp (Res.bind h2) fun xs c3 I3 H3 g3 k3 h3 vs hvs => ?_)
        split at h3
        · rename_i en
          exact ⟨(voks_len hvs).trans en, Z, I3, xs, c3, rfl, rfl, k3, hvs, h3⟩
        · exact h3.elim
  · exact h2.elim
/-- of a def that raises nothing -/
theorem fn_calm {P : Program} {w : World} {K : PySem.W.Frag} {mg : Str → Option Value} {base : Heap} {CX : CXT} {k n : Nat} {f : Addr} {fd : FuncData} {ps : List Str} {df : List Int → List Vl → Int → R Vl} (F : FnG P w K mg base CX k f fd ps (spD n K mg df)) :
    FnG P w K mg base CX k f fd ps (spD n K mg fun ns xs c => (df ns xs c).calm) := by
  have imp : ∀ {xs : List V} {H : Hp} {Q : VK} {E : XK}, spD n K mg (fun ns xs c => (df ns xs c).calm) xs H Q E → spD n K mg df xs H Q E := by
    rintro xs H Q E ⟨hl, Z, I, ys, c, e1, e2, k, hv, h⟩
    exact ⟨hl, Z, I, ys, c, e1, e2, k, hv, h.calm⟩
  exact ⟨fun xs H Q E h => F.size xs H Q E (imp h), fun A o s H args us xs Q E g r e b v h => F.goes A o s H args us xs Q E g r e b v (imp h)⟩
/-! typed -/
def tabM {α : Type} (i : Int) (ms : List (M α)) : M α := match atI ms i with
  | some m => m
  | none => fun _ => .no
inductive Tabs {τ : Type} (o : τ → Vl) (n : Nat) (fa : Int → R (List Vl)) : List (M τ) → List (List Vl → Int → R Vl) → Prop where
  | nil : Tabs o n fa [] []
  | cons {m : M τ} {df : List Vl → Int → R Vl} {ms : List (M τ)} {dfs : List (List Vl → Int → R Vl)} : RK m o (fun c => (fa c).bind fun xs c2 => if xs.length = n then df xs c2 else .no) → Tabs o n fa ms dfs → Tabs o n fa (m :: ms) (df :: dfs)
theorem Tabs.len {τ : Type} {o : τ → Vl} {n : Nat} {fa : Int → R (List Vl)} : ∀ {ms : List (M τ)} {dfs : List (List Vl → Int → R Vl)}, Tabs o n fa ms dfs → ms.length = dfs.length
  | _, _, .nil => rfl
  | _, _, .cons _ t => by rw [List.length_cons, List.length_cons, t.len]
theorem Tabs.get {τ : Type} {o : τ → Vl} {n : Nat} {fa : Int → R (List Vl)} : ∀ {ms : List (M τ)} {dfs : List (List Vl → Int → R Vl)}, Tabs o n fa ms dfs → ∀ {j : Nat} {m : M τ}, ms[j]? = some m → ∃ df, dfs[j]? = some df ∧ RK m o (fun c => (fa c).bind fun xs c2 => if xs.length = n then df xs c2 else .no)
  | _, _, .nil, j, m, e => by cases e
  | _, _, .cons h t, 0, m, e => by cases e; exact ⟨_, rfl, h⟩
  | _, _, .cons h t, j + 1, m, e => by
    obtain ⟨df, e2, r⟩ := t.get (j := j) (m := m) (by simpa using e)
    exact ⟨df, by simpa using e2, r⟩
theorem r_tab {τ : Type} {o : τ → Vl} {n : Nat} {fa : Int → R (List Vl)} {ms : List (M τ)} {dfs : List (List Vl → Int → R Vl)} {i : Int} (t : Tabs o n fa ms dfs) : RK (tabM i ms) o (tabK n dfs fa (.d (.int i))) := by
  intro c
  unfold tabM
  cases e : atI ms i with
  | none => trivial
  | some m =>
    unfold atI at e
    cases q : ixN ms.length i with
    | none => rw [q] at e; cases e
    | some j =>
      rw [q] at e
      have e : ms[j]? = some m := e
      obtain ⟨df, e2, r⟩ := t.get e
      have e3 : atI dfs i = some df := by
        unfold atI
        rw [← t.len, q]
        exact e2
      have q3 : tabK n dfs fa (.d (.int i)) c = (fa c).bind fun xs c2 => if xs.length = n then df xs c2 else .no := by
        show (match atI dfs i with
          | some df => (fa c).bind fun xs c2 => if xs.length = n then df xs c2 else .no
          | none => .no) = _
        rw [e3]
      show Rf (m c) o (tabK n dfs fa (.d (.int i)) c)
      rw [q3]
      exact r c
section
variable {γ τ : Type} {δ : List Sl} {m : M τ} {o : τ → γ}
theorem b_tab {n : Nat} {dfs : List (List Vl → Int → R Vl)} {di : Den} {da : DenA} {K : Vl → Int → R γ} (h : BK (di δ) (fun x c => (tabK n dfs (da δ) x c).bind K) m o) : BK (dTab n dfs di da δ) K m o := by
  intro c
  show Rf (m c) o ((dTab n dfs di da δ c).bind K)
  unfold dTab
  rw [R.bind_assoc]
  exact h c
end
end Dn
namespace Dn
open PySem PySem.Spec PyProof.Rows L2
open Dn.Enc (enc)
/-! names from a tuple, within a comprehension -/
theorem pg_tupK {X : Cx} {K : PySem.W.Frag} {es : List Expr} {k : Nat} {t : TGs} {pos : Pos} (n : Nat) (hK : X.K = K) (hc : X.calm = true) (h : PGs X es t)
    (hn : (assignEach es X.env).length = n := by rfl) (hst : (assignEach es X.env).findIdx? (·.1) = none := by rfl) : PG X (.Tuple es k pos) (gTup K n t) := by
  subst hK
  exact pg_tup hc h hn hst
end Dn
namespace Dn
open PySem PySem.Spec PyProof.Rows L2
open Dn.Enc (enc)
/-! a op1 b op2 c op3 .. -/
abbrev TCh := V → L2.St → Hp → VK → Prop
section
variable {X : Cx}
structure PCh (X : Cx) (ops : List CmpOp) (es : List Expr) (t : TCh) : Prop where
  val : ∀ (pos : Pos) (pins : List (Addr × Obj)) (s : Shared) (σ : L2.St) (H : Hp) (Q : VK) (x : V) (v : Value), Inv X pins σ H s → RelV x v → t x σ H Q → wpAny (model X.prog X.w) X.A (compareChain pos v ops (evalEach es X.env)) (EP X pins σ Q) X.xe s
  tst : ∀ (pos : Pos) (pins : List (Addr × Obj)) (s : Shared) (σ : L2.St) (H : Hp) (Q : Bool → Hp → Prop) (x : V) (v : Value), Inv X pins σ H s → RelV x v → t x σ H (fun z H' => ∃ k, z = .bl k ∧ Q k H') →
    wpAny (model X.prog X.w) X.A (testChain pos v ops (evalEach es X.env)) (TP X pins σ Q) X.xe s
def tChL (r : R2) (tb : TE) : TCh := fun x σ H Q => tb σ H fun y H1 => r x y H1 Q
def tChC (r : R2) (tb : TE) (t : TCh) : TCh := fun x σ H Q => tb σ H fun y H1 => r x y H1 fun z H2 => ∃ k, z = .bl k ∧ (if k = true then t y σ H2 Q else Q (.bl false) H2)
theorem pch_last {op : CmpOp} {r : R2} {b : Expr} {tb : TE} (ho : OpR X (compareOp op) r) (hb : PE X b tb) : PCh X [op] [b] (tChL r tb) where
  val := fun pos pins s σ H Q x v I rx h => chain_last (thn (hb.run pins s σ H _ I h) fun u s1 ⟨y, H1, I1, ry, q⟩ => ho pins s1 σ H1 x y v u Q I1 rx ry q)
  tst := fun pos pins s σ H Q x v I rx h => test_last (thn (hb.run pins s σ H _ I h) fun u s1 ⟨y, H1, I1, ry, q⟩ => thn (ho pins s1 σ H1 x y v u _ I1 rx ry q) fun d s2 ⟨z, H2, I2, rz, k, ek, qk⟩ => by
    subst ek
    cases rz
    exact wpAny_truthy_bool ⟨H2, I2, qk⟩)
theorem pch_link {op op' : CmpOp} {ops : List CmpOp} {r : R2} {b e' : Expr} {es : List Expr} {tb : TE} {t : TCh} (ho : OpR X (compareOp op) r) (hb : PE X b tb) (hr : PCh X (op' :: ops) (e' :: es) t) : PCh X (op :: op' :: ops) (b :: e' :: es) (tChC r tb t) where
  val := fun pos pins s σ H Q x v I rx h => chain_link (thn (hb.run pins s σ H _ I h) fun u s1 ⟨y, H1, I1, ry, q⟩ => thn (ho pins s1 σ H1 x y v u _ I1 rx ry q) fun d s2 ⟨z, H2, I2, rz, k, ek, qk⟩ => by
    subst ek
    cases rz
    apply wpAny_truthy_bool
    cases k with
    | false => exact ite_ff ⟨.bl false, H2, I2, rfl, qk⟩
    | true => exact ite_tt (hr.val pos pins s2 σ H2 Q y u I2 ry qk))
  tst := fun pos pins s σ H Q x v I rx h => test_link (thn (hb.run pins s σ H _ I h) fun u s1 ⟨y, H1, I1, ry, q⟩ => thn (ho pins s1 σ H1 x y v u _ I1 rx ry q) fun d s2 ⟨z, H2, I2, rz, k, ek, qk⟩ => by
    subst ek
    cases rz
    apply wpAny_truthy_bool
    cases k with
    | false =>
      obtain ⟨k', e', q'⟩ := qk
      cases e'
      exact ite_ff ⟨H2, I2, q'⟩
    | true => exact ite_tt (hr.tst pos pins s2 σ H2 Q y u I2 ry qk))
def tChN (ta : TE) (t : TCh) : TE := fun σ H Q => ta σ H fun x H1 => t x σ H1 Q
variable {o1 o2 : CmpOp} {ops : List CmpOp} {a r1 r2 : Expr} {rs : List Expr} {ta : TE} {t : TCh} {pos : Pos}
theorem pe_chainN (ha : PE X a ta) (h : PCh X (o1 :: o2 :: ops) (r1 :: r2 :: rs) t) (hm : lastMarks (o1 :: o2 :: ops) (r1 :: r2 :: rs) = false := by with_unfolding_all rfl) : PE X (.Compare a (o1 :: o2 :: ops) (r1 :: r2 :: rs) pos) (tChN ta t) :=
  ⟨fun pins s σ H Q I w => Compare_chain (thn (ha.run pins s σ H _ I w) fun v s1 ⟨x, H1, I1, rx, q⟩ => h.val pos pins s1 σ H1 Q x v I1 rx q) hm⟩
theorem pt_chainN (ha : PE X a ta) (h : PCh X (o1 :: o2 :: ops) (r1 :: r2 :: rs) t) (hm : lastMarks (o1 :: o2 :: ops) (r1 :: r2 :: rs) = false := by with_unfolding_all rfl) : PT X (.Compare a (o1 :: o2 :: ops) (r1 :: r2 :: rs) pos) (tTest (tChN ta t)) :=
  ⟨fun pins s σ H Q I w => isTrue_chain (thn (ha.run pins s σ H _ I w) fun v s1 ⟨x, H1, I1, rx, q⟩ => h.tst pos pins s1 σ H1 Q x v I1 rx q) hm⟩
end
abbrev DenC := Vl → List Sl → Int → R Vl
def dChL (g : Vl → Vl → Int → R Vl) (db : Den) : DenC := fun x δ c => (db δ c).bind fun y c1 => g x y c1
def chK (d : DenC) (y : Vl) (δ : List Sl) : Vl → Int → R Vl
  | .d (.bool b), c => if b = true then d y δ c else .ok (.d (.bool false)) c
  | _, _ => .no
def dChC (g : Vl → Vl → Int → R Vl) (db : Den) (d : DenC) : DenC := fun x δ c => (db δ c).bind fun y c1 => (g x y c1).bind (chK d y δ)
def dChN (da : Den) (d : DenC) : Den := fun δ c => (da δ c).bind fun x c1 => d x δ c1
def SndCh (Z : Zz) (W : XK) (t : TCh) (d : DenC) : Prop := ∀ H0 I H σ δ c x v, At Z H0 I H σ δ c → VOk Z I v x → ∀ Q : VK, Res Z W I H (d x δ c) (fun y _ I' H' => ∀ u, VOk Z I' u y → Q u H') → t v σ H Q
section
variable {Z : Zz} {W : XK}
theorem snc_last {r : R2} {g : Vl → Vl → Int → R Vl} {tb : TE} {db : Den} (hr : SndR Z W r g) (hb : SndE Z W tb db) : SndCh Z W (tChL r tb) (dChL g db) := by
  intro H0 I H σ δ c x v a hv Q h
  refine hb _ _ _ _ _ _ a _ (Res.imp (Res.bind h) fun y c2 I2 H2 g2 k2 h2 w hw => ?_)
  exact hr I2 H2 x y v w c2 k2 (vok_grows g2.ii hv) hw Q h2
theorem snc_link {r : R2} {g : Vl → Vl → Int → R Vl} {tb : TE} {db : Den} {t : TCh} {d : DenC} (hr : SndR Z W r g) (hb : SndE Z W tb db) (ht : SndCh Z W t d) : SndCh Z W (tChC r tb t) (dChC g db d) := by
  intro H0 I H σ δ c x v a hv Q h
  refine hb _ _ _ _ _ _ a _ (Res.imp (Res.bind h) fun y c2 I2 H2 g2 k2 h2 w hw => ?_)
  refine hr I2 H2 x y v w c2 k2 (vok_grows g2.ii hv) hw _ (Res.imp (Res.bind h2) fun z c3 I3 H3 g3 k3 h3 u hu => ?_)
  unfold chK at h3
  split at h3
  · cases hu
    refine ⟨_, rfl, ?_⟩
    rename_i b
    cases b with
    | true => exact ite_tt (ht _ _ _ _ _ _ _ _ ((a.go g2 k2).go g3 k3) (vok_grows g3.ii hw) Q h3)
    | false => exact ite_ff (Res.ok k3 h3 _ (.bl _))
  · exact h3.elim
theorem snd_chN {ta : TE} {da : Den} {t : TCh} {d : DenC} (ha : SndE Z W ta da) (ht : SndCh Z W t d) : SndE Z W (tChN ta t) (dChN da d) := by
  intro H0 I H σ δ c a Q h
  refine ha _ _ _ _ _ _ a _ (Res.imp (Res.bind h) fun x c2 I2 H2 g2 k2 h2 v hv => ?_)
  exact ht _ _ _ _ _ _ _ _ (a.go g2 k2) hv Q h2
end
/-! told alone -/
section
variable {δ : List Sl}
def PVC (d : DenC) (δ : List Sl) (x : Vl) (b : Bool) : Prop := ∀ c, d x δ c = .ok (.d (.bool b)) c
theorem pvc_last {g : Vl → Vl → Int → R Vl} {db : Den} {x y : Vl} {b : Bool} (hb : PV (db δ) y) (h : PV (g x y) (.d (.bool b))) : PVC (dChL g db) δ x b := fun c => by
  show (db δ c).bind _ = _
  rw [hb c]
  exact h c
theorem pvc_link {g : Vl → Vl → Int → R Vl} {db : Den} {d : DenC} {x y : Vl} {a b : Bool} (hb : PV (db δ) y) (h : PV (g x y) (.d (.bool a))) (ht : PVC d δ y b) : PVC (dChC g db d) δ x (a && b) := fun c => by
  show (db δ c).bind _ = _
  rw [hb c]
  show (g x y c).bind _ = _
  rw [h c]
  cases a
  · rfl
  · exact ht c
theorem pv_chN {da : Den} {d : DenC} {x : Vl} {b : Bool} (ha : PV (da δ) x) (h : PVC d δ x b) : PV (dChN da d δ) (.d (.bool b)) := fun c => by
  show (da δ c).bind _ = _
  rw [ha c]
  exact h c
variable {γ τ : Type}
theorem b_chN {m : M τ} {o : τ → γ} {da : Den} {d : DenC} {K : Vl → Int → R γ} (h : BK (da δ) (fun x c => (d x δ c).bind K) m o) : BK (dChN da d δ) K m o := by
  intro c
  show Rf (m c) o ((dChN da d δ c).bind K)
  unfold dChN
  rw [R.bind_assoc]
  exact h c
theorem r_chL {m : M τ} {o : τ → Vl} {g : Vl → Vl → Int → R Vl} {db : Den} {x : Vl} (h : BK (db δ) (fun y c1 => g x y c1) m o) : RK m o (dChL g db x δ) := h
theorem r_chC {m : M τ} {o : τ → Vl} {g : Vl → Vl → Int → R Vl} {db : Den} {d : DenC} {x : Vl} (h : BK (db δ) (fun y c1 => (g x y c1).bind (chK d y δ)) m o) : RK m o (dChC g db d x δ) := h
theorem r_chK {g : Vl → Vl → Int → R Vl} {d : DenC} {x y : Vl} {b : Bool} {m : M Bool} (hg : PV (g x y) (.d (.bool b))) (h : RK m (fun z => Vl.d (enc z)) (d y δ)) :
    RK (if b = true then m else M.ret false) (fun z : Bool => Vl.d (enc z)) (fun c1 => (g x y c1).bind (chK d y δ)) := by
  intro c
  show Rf _ _ ((g x y c).bind _)
  rw [hg c]
  cases b with
  | true => exact h c
  | false => rfl
end
end Dn
namespace Dn
open PySem PySem.Spec PyProof.Rows L2
open Dn.Enc (enc)
/-! a value of a told type, out of data -/
open Classical in
noncomputable def M.dec {α : Type} [Enc α] (x : PyData) : M α := fun c => if h : ∃ a : α, enc a = x then .ok h.choose c else .no
theorem r_dec {α τ γ : Type} [Enc α] {x : PyData} {F : α → M τ} {o : τ → γ} {K : Vl → Int → R γ} (h : ∀ a : α, RK (F a) o (K (.d (enc a)))) : RK (M.bind (M.dec x) F) o (K (.d x)) := by
  intro c
  show Rf ((M.dec x c).bind F) o _
  unfold M.dec
  split
  · rename_i e
    have e2 := e.choose_spec
    have h2 := h e.choose c
    rw [e2] at h2
    exact h2
  · trivial
class Inj (α : Type) [Enc α] : Prop where
  inj : ∀ a b : α, enc a = enc b → a = b
theorem M.dec_enc {α : Type} [Enc α] [i : Inj α] (a : α) : M.dec (enc a) = M.ret a := by
  funext c
  unfold M.dec
  have e : ∃ b : α, enc b = enc a := ⟨a, rfl⟩
  rw [dif_pos e]
  rw [i.inj _ _ e.choose_spec]
  rfl
theorem inj_map {α : Type} [Enc α] [i : Inj α] : ∀ l m : List α, l.map enc = m.map enc → l = m
  | [], [], _ => rfl
  | [], _ :: _, h => by cases h
  | _ :: _, [], h => by cases h
  | a :: l, b :: m, h => by
    rw [List.map_cons, List.map_cons] at h
    injection h with h1 h2
    rw [i.inj _ _ h1, inj_map l m h2]
instance : Inj Int := ⟨fun a b h => by injection h⟩
instance : Inj Bool := ⟨fun a b h => by injection h⟩
instance : Inj Str := ⟨fun a b h => by injection h⟩
instance : Inj Unit := ⟨fun _ _ _ => rfl⟩
instance : Inj PyData := ⟨fun _ _ h => h⟩
section
variable {α β γ δ : Type} [Enc α] [Enc β] [Enc γ] [Enc δ] [ia : Inj α] [ib : Inj β] [ic : Inj γ] [id_ : Inj δ]
instance : Inj (List α) := ⟨fun a b h => by injection h with h; exact inj_map a b h⟩
instance : Inj (Tp α) := ⟨fun ⟨l⟩ ⟨m⟩ h => by
  injection h with h
  exact congrArg Tp.mk (inj_map l m h)⟩
instance : Inj (P1 α) := ⟨fun ⟨a⟩ ⟨a'⟩ h => by
  injection h with h
  injection h with h1 h
  have e1 : a = a' := ia.inj _ _ h1
  subst e1; rfl⟩
instance : Inj (P2 α β) := ⟨fun ⟨a, b⟩ ⟨a', b'⟩ h => by
  injection h with h
  injection h with h1 h
  injection h with h2 h
  have e1 : a = a' := ia.inj _ _ h1
  have e2 : b = b' := ib.inj _ _ h2
  subst e1 e2; rfl⟩
instance : Inj (P3 α β γ) := ⟨fun ⟨a, b, c⟩ ⟨a', b', c'⟩ h => by
  injection h with h
  injection h with h1 h
  injection h with h2 h
  injection h with h3 h
  have e1 : a = a' := ia.inj _ _ h1
  have e2 : b = b' := ib.inj _ _ h2
  have e3 : c = c' := ic.inj _ _ h3
  subst e1 e2 e3; rfl⟩
instance : Inj (P4 α β γ δ) := ⟨fun ⟨a, b, c, d⟩ ⟨a', b', c', d'⟩ h => by
  injection h with h
  injection h with h1 h
  injection h with h2 h
  injection h with h3 h
  injection h with h4 h
  have e1 : a = a' := ia.inj _ _ h1
  have e2 : b = b' := ib.inj _ _ h2
  have e3 : c = c' := ic.inj _ _ h3
  have e4 : d = d' := id_.inj _ _ h4
  subst e1 e2 e3 e4; rfl⟩
end
end Dn
namespace Dn
open PySem PySem.Spec PyProof.Rows L2
open Dn.Enc (enc)
/-! max, min of three, of four ints -/
section
variable {prog : Program} {w : World} {A : Around} {E : Value → Shared → Prop} {s : Shared}
theorem args_max3' (u0 u1 u2 : Value) : argsOk "max" ⟨[u0, u1, u2], []⟩ := by
  unfold argsOk
  kernel_rfl
theorem maxN3 {u0 u1 u2 : Value} {Q : Value → Shared → Prop}
    (go : wpAny (model prog w) A.in1 (pyIter (.ref s.heap.objs.size)) (fun it s2 => ∃ it1 fp wr k P St bt, it = .ref it1 ∧ PySem.Walks prog w A.in1 it1 fp wr k P St ∧ St 0 s2.heap ∧ (∀ b ∈ fp, b < s2.heap.objs.size) ∧ 0 < k ∧ CmpOf prog w A.in1 .Gt P bt ∧
      ∀ v h2 tk, P (argBest bt (k - 1)) v → (∀ b o, b ∉ wr → s2.heap.get? b = some o → h2.get? b = some o) → Q v { s2 with heap := h2, toks := tk }) E { s with heap := s.heap.push { cls := .type "tuple", data := .seq #[u0, u1, u2] } }) :
    wpAny (model prog w) A (call (.builtin "max") [u0, u1, u2]) Q E s := by
  have name : (toString "max" ++ toString ".loop" : String) = "max.loop" := by decide
  apply call_function_tree F.kind_max F.plain_max F.entry_max (args_max3' _ _ _)
  show wpAny _ A.in1 (Builtin.Builtins.bindParams "max" ["key", "default"] 0 ⟨[], []⟩ >>= _) _ _ s
  apply wpAny_bind
  apply wpAny_of_eq (show Builtin.Builtins.bindParams "max" ["key", "default"] 0 ⟨[], []⟩ = pure [none, none] from rfl)
  show wpAny _ A.in1 (newTuple [u0, u1, u2] >>= _) _ _ s
  apply wpAny_bind
  refine wpAny_newObj_type ?_
  apply wpAny_bind
  refine wpAny_mono go ?_ fun _ _ z => z
  rintro it s2 ⟨it1, fp, wr, k, P, St, bt, rfl, W, st, below, pos, cmp, want⟩
  apply wpAny_bind
  refine wpAny_newObj_type ?_
  rw [name]
  have fresh : s2.heap.objs.size ∉ fp := fun hm => absurd (below _ hm) (Nat.lt_irrefl _)
  refine wpAny_pure ⟨plainId_quiet F.plain_max_loop _, ?_⟩
  refine codeAny_max_loop_first W bt cmp s2.heap.objs.size fresh pos (W.frame _ _ _ st fun b _ o e => Heap.get?_push_of_some _ e) (Heap.get?_push_size _ rfl) fun v h2 tk hP k2 => ?_
  refine want v h2 tk hP fun b o hb e => ?_
  exact k2 b o hb (Nat.ne_of_lt (Heap.lt_size e)) (Heap.get?_push_of_some _ e)
theorem args_max4' (u0 u1 u2 u3 : Value) : argsOk "max" ⟨[u0, u1, u2, u3], []⟩ := by
  unfold argsOk
  kernel_rfl
theorem maxN4 {u0 u1 u2 u3 : Value} {Q : Value → Shared → Prop}
    (go : wpAny (model prog w) A.in1 (pyIter (.ref s.heap.objs.size)) (fun it s2 => ∃ it1 fp wr k P St bt, it = .ref it1 ∧ PySem.Walks prog w A.in1 it1 fp wr k P St ∧ St 0 s2.heap ∧ (∀ b ∈ fp, b < s2.heap.objs.size) ∧ 0 < k ∧ CmpOf prog w A.in1 .Gt P bt ∧
      ∀ v h2 tk, P (argBest bt (k - 1)) v → (∀ b o, b ∉ wr → s2.heap.get? b = some o → h2.get? b = some o) → Q v { s2 with heap := h2, toks := tk }) E { s with heap := s.heap.push { cls := .type "tuple", data := .seq #[u0, u1, u2, u3] } }) :
    wpAny (model prog w) A (call (.builtin "max") [u0, u1, u2, u3]) Q E s := by
  have name : (toString "max" ++ toString ".loop" : String) = "max.loop" := by decide
  apply call_function_tree F.kind_max F.plain_max F.entry_max (args_max4' _ _ _ _)
  show wpAny _ A.in1 (Builtin.Builtins.bindParams "max" ["key", "default"] 0 ⟨[], []⟩ >>= _) _ _ s
  apply wpAny_bind
  apply wpAny_of_eq (show Builtin.Builtins.bindParams "max" ["key", "default"] 0 ⟨[], []⟩ = pure [none, none] from rfl)
  show wpAny _ A.in1 (newTuple [u0, u1, u2, u3] >>= _) _ _ s
  apply wpAny_bind
  refine wpAny_newObj_type ?_
  apply wpAny_bind
  refine wpAny_mono go ?_ fun _ _ z => z
  rintro it s2 ⟨it1, fp, wr, k, P, St, bt, rfl, W, st, below, pos, cmp, want⟩
  apply wpAny_bind
  refine wpAny_newObj_type ?_
  rw [name]
  have fresh : s2.heap.objs.size ∉ fp := fun hm => absurd (below _ hm) (Nat.lt_irrefl _)
  refine wpAny_pure ⟨plainId_quiet F.plain_max_loop _, ?_⟩
  refine codeAny_max_loop_first W bt cmp s2.heap.objs.size fresh pos (W.frame _ _ _ st fun b _ o e => Heap.get?_push_of_some _ e) (Heap.get?_push_size _ rfl) fun v h2 tk hP k2 => ?_
  refine want v h2 tk hP fun b o hb e => ?_
  exact k2 b o hb (Nat.ne_of_lt (Heap.lt_size e)) (Heap.get?_push_of_some _ e)
theorem args_min3' (u0 u1 u2 : Value) : argsOk "min" ⟨[u0, u1, u2], []⟩ := by
  unfold argsOk
  kernel_rfl
theorem minN3 {u0 u1 u2 : Value} {Q : Value → Shared → Prop}
    (go : wpAny (model prog w) A.in1 (pyIter (.ref s.heap.objs.size)) (fun it s2 => ∃ it1 fp wr k P St bt, it = .ref it1 ∧ PySem.Walks prog w A.in1 it1 fp wr k P St ∧ St 0 s2.heap ∧ (∀ b ∈ fp, b < s2.heap.objs.size) ∧ 0 < k ∧ CmpOf prog w A.in1 .Lt P bt ∧
      ∀ v h2 tk, P (argBest bt (k - 1)) v → (∀ b o, b ∉ wr → s2.heap.get? b = some o → h2.get? b = some o) → Q v { s2 with heap := h2, toks := tk }) E { s with heap := s.heap.push { cls := .type "tuple", data := .seq #[u0, u1, u2] } }) :
    wpAny (model prog w) A (call (.builtin "min") [u0, u1, u2]) Q E s := by
  have name : (toString "min" ++ toString ".loop" : String) = "min.loop" := by decide
  apply call_function_tree F.kind_min F.plain_min F.entry_min (args_min3' _ _ _)
  show wpAny _ A.in1 (Builtin.Builtins.bindParams "min" ["key", "default"] 0 ⟨[], []⟩ >>= _) _ _ s
  apply wpAny_bind
  apply wpAny_of_eq (show Builtin.Builtins.bindParams "min" ["key", "default"] 0 ⟨[], []⟩ = pure [none, none] from rfl)
  show wpAny _ A.in1 (newTuple [u0, u1, u2] >>= _) _ _ s
  apply wpAny_bind
  refine wpAny_newObj_type ?_
  apply wpAny_bind
  refine wpAny_mono go ?_ fun _ _ z => z
  rintro it s2 ⟨it1, fp, wr, k, P, St, bt, rfl, W, st, below, pos, cmp, want⟩
  apply wpAny_bind
  refine wpAny_newObj_type ?_
  rw [name]
  have fresh : s2.heap.objs.size ∉ fp := fun hm => absurd (below _ hm) (Nat.lt_irrefl _)
  refine wpAny_pure ⟨plainId_quiet F.plain_min_loop _, ?_⟩
  refine codeAny_min_loop_first W bt cmp s2.heap.objs.size fresh pos (W.frame _ _ _ st fun b _ o e => Heap.get?_push_of_some _ e) (Heap.get?_push_size _ rfl) fun v h2 tk hP k2 => ?_
  refine want v h2 tk hP fun b o hb e => ?_
  exact k2 b o hb (Nat.ne_of_lt (Heap.lt_size e)) (Heap.get?_push_of_some _ e)
theorem args_min4' (u0 u1 u2 u3 : Value) : argsOk "min" ⟨[u0, u1, u2, u3], []⟩ := by
  unfold argsOk
  kernel_rfl
theorem minN4 {u0 u1 u2 u3 : Value} {Q : Value → Shared → Prop}
    (go : wpAny (model prog w) A.in1 (pyIter (.ref s.heap.objs.size)) (fun it s2 => ∃ it1 fp wr k P St bt, it = .ref it1 ∧ PySem.Walks prog w A.in1 it1 fp wr k P St ∧ St 0 s2.heap ∧ (∀ b ∈ fp, b < s2.heap.objs.size) ∧ 0 < k ∧ CmpOf prog w A.in1 .Lt P bt ∧
      ∀ v h2 tk, P (argBest bt (k - 1)) v → (∀ b o, b ∉ wr → s2.heap.get? b = some o → h2.get? b = some o) → Q v { s2 with heap := h2, toks := tk }) E { s with heap := s.heap.push { cls := .type "tuple", data := .seq #[u0, u1, u2, u3] } }) :
    wpAny (model prog w) A (call (.builtin "min") [u0, u1, u2, u3]) Q E s := by
  have name : (toString "min" ++ toString ".loop" : String) = "min.loop" := by decide
  apply call_function_tree F.kind_min F.plain_min F.entry_min (args_min4' _ _ _ _)
  show wpAny _ A.in1 (Builtin.Builtins.bindParams "min" ["key", "default"] 0 ⟨[], []⟩ >>= _) _ _ s
  apply wpAny_bind
  apply wpAny_of_eq (show Builtin.Builtins.bindParams "min" ["key", "default"] 0 ⟨[], []⟩ = pure [none, none] from rfl)
  show wpAny _ A.in1 (newTuple [u0, u1, u2, u3] >>= _) _ _ s
  apply wpAny_bind
  refine wpAny_newObj_type ?_
  apply wpAny_bind
  refine wpAny_mono go ?_ fun _ _ z => z
  rintro it s2 ⟨it1, fp, wr, k, P, St, bt, rfl, W, st, below, pos, cmp, want⟩
  apply wpAny_bind
  refine wpAny_newObj_type ?_
  rw [name]
  have fresh : s2.heap.objs.size ∉ fp := fun hm => absurd (below _ hm) (Nat.lt_irrefl _)
  refine wpAny_pure ⟨plainId_quiet F.plain_min_loop _, ?_⟩
  refine codeAny_min_loop_first W bt cmp s2.heap.objs.size fresh pos (W.frame _ _ _ st fun b _ o e => Heap.get?_push_of_some _ e) (Heap.get?_push_size _ rfl) fun v h2 tk hP k2 => ?_
  refine want v h2 tk hP fun b o hb e => ?_
  exact k2 b o hb (Nat.ne_of_lt (Heap.lt_size e)) (Heap.get?_push_of_some _ e)
end
section
variable {X : Cx}
theorem cr_maxN3 (hc : X.calm = true) : CallR X (.builtin "max") (fun xs H Q => ∃ i0 i1 i2 : Int, xs = [.int i0, .int i1, .int i2] ∧ ∀ m, m ∈ [i0, i1, i2] → (∀ y, y ∈ [i0, i1, i2] → y ≤ m) → Q (.int m) H) := by
  intro pins s σ H vs us Q I r h
  obtain ⟨i0, i1, i2, rfl, q⟩ := h
  obtain ⟨t0, t1, t2, rfl⟩ : ∃ t0 t1 t2 : Tok, us = [.int i0 t0, .int i1 t1, .int i2 t2] := by
    cases r with
    | cons r0 r =>
        cases r with
        | cons r1 r =>
            cases r with
            | cons r2 r =>
                cases r
                obtain ⟨t0, rfl⟩ := r0
                obtain ⟨t1, rfl⟩ := r1
                obtain ⟨t2, rfl⟩ := r2
                exact ⟨t0, t1, t2, rfl⟩
  have tup : (s.heap.push { cls := .type "tuple", data := .seq #[.int i0 t0, .int i1 t1, .int i2 t2] }).IsTuple s.heap.objs.size (intItems #[(i0, t0), (i1, t1), (i2, t2)]) := ⟨_, Heap.get?_push_size _ rfl, rfl, 0, by simp [intItems]⟩
  refine maxN3 (wpAny_pyIter_tuple tup ?_)
  have more : (s.heap.push { cls := .type "tuple", data := .seq #[.int i0 t0, .int i1 t1, .int i2 t2] }).objs.size = s.heap.objs.size + 1 := Heap.size_push ..
  have walk := Walks.tuple (prog := X.prog) (w := X.w) (A := X.A.in1) (I.ok.hd hc) (s.heap.push { cls := .type "tuple", data := .seq #[.int i0 t0, .int i1 t1, .int i2 t2] }).objs.size s.heap.objs.size (by rw [more]; exact Nat.ne_of_lt (Nat.lt_succ_self _)) (intItems #[(i0, t0), (i1, t1), (i2, t2)])
  refine ⟨_, _, _, _, _, _, _, rfl, walk, ⟨⟨_, Heap.get?_push_size _ rfl, rfl, rfl⟩, tup.push _⟩, fun b hb => ?_, by simp [intItems], CmpOf.ints_gt (numAt #[(i0, t0), (i1, t1), (i2, t2)]) (fun _ _ => intItems_at), fun v h2 tk hP k => ?_⟩
  · show b < ((s.heap.push _).push _).objs.size
    rw [Heap.size_push, more]
    simp only [List.mem_cons, List.not_mem_nil, or_false] at hb
    rcases hb with rfl | rfl
    · rw [more]; exact Nat.lt_succ_self _
    · exact Nat.lt_succ_of_lt (Nat.lt_succ_self _)
  · obtain ⟨t, rfl⟩ := intItems_at hP
    obtain ⟨b1, b2⟩ := argBest_gt (numAt #[(i0, t0), (i1, t1), (i2, t2)]) 2
    have sz : (intItems #[(i0, t0), (i1, t1), (i2, t2)]).size - 1 = 2 := by simp [intItems]
    rw [sz]
    have all : ∀ j, j ≤ 2 → numAt #[(i0, t0), (i1, t1), (i2, t2)] j ∈ [i0, i1, i2] := fun j hj => by
      match j, hj with
      | 0, _ => simp [numAt]
      | 1, _ => simp [numAt]
      | 2, _ => simp [numAt]
    have is : ∀ y, y ∈ [i0, i1, i2] → ∃ j, j ≤ 2 ∧ numAt #[(i0, t0), (i1, t1), (i2, t2)] j = y := fun y hy => by
      simp only [List.mem_cons, List.not_mem_nil, or_false] at hy
      rcases hy with rfl | rfl | rfl
      · exact ⟨0, by decide, by simp [numAt]⟩
      · exact ⟨1, by decide, by simp [numAt]⟩
      · exact ⟨2, by decide, by simp [numAt]⟩
    refine ⟨.int _, H, I.kept (t' := tk) fun b o e => ?_, ⟨t, rfl⟩, q _ (all _ b1) fun y hy => ?_⟩
    · refine k b o (fun hm => ?_) (Heap.get?_push_of_some _ (Heap.get?_push_of_some _ e))
      have z := Heap.lt_size e
      rw [List.mem_singleton.mp hm, more] at z
      exact absurd (Nat.lt_of_succ_lt z) (Nat.lt_irrefl _)
    · obtain ⟨j, hj, rfl⟩ := is y hy
      exact b2 j hj
theorem cr_maxN4 (hc : X.calm = true) : CallR X (.builtin "max") (fun xs H Q => ∃ i0 i1 i2 i3 : Int, xs = [.int i0, .int i1, .int i2, .int i3] ∧ ∀ m, m ∈ [i0, i1, i2, i3] → (∀ y, y ∈ [i0, i1, i2, i3] → y ≤ m) → Q (.int m) H) := by
  intro pins s σ H vs us Q I r h
  obtain ⟨i0, i1, i2, i3, rfl, q⟩ := h
  obtain ⟨t0, t1, t2, t3, rfl⟩ : ∃ t0 t1 t2 t3 : Tok, us = [.int i0 t0, .int i1 t1, .int i2 t2, .int i3 t3] := by
    cases r with
    | cons r0 r =>
        cases r with
        | cons r1 r =>
            cases r with
            | cons r2 r =>
                cases r with
                | cons r3 r =>
                    cases r
                    obtain ⟨t0, rfl⟩ := r0
                    obtain ⟨t1, rfl⟩ := r1
                    obtain ⟨t2, rfl⟩ := r2
                    obtain ⟨t3, rfl⟩ := r3
                    exact ⟨t0, t1, t2, t3, rfl⟩
  have tup : (s.heap.push { cls := .type "tuple", data := .seq #[.int i0 t0, .int i1 t1, .int i2 t2, .int i3 t3] }).IsTuple s.heap.objs.size (intItems #[(i0, t0), (i1, t1), (i2, t2), (i3, t3)]) := ⟨_, Heap.get?_push_size _ rfl, rfl, 0, by simp [intItems]⟩
  refine maxN4 (wpAny_pyIter_tuple tup ?_)
  have more : (s.heap.push { cls := .type "tuple", data := .seq #[.int i0 t0, .int i1 t1, .int i2 t2, .int i3 t3] }).objs.size = s.heap.objs.size + 1 := Heap.size_push ..
  have walk := Walks.tuple (prog := X.prog) (w := X.w) (A := X.A.in1) (I.ok.hd hc) (s.heap.push { cls := .type "tuple", data := .seq #[.int i0 t0, .int i1 t1, .int i2 t2, .int i3 t3] }).objs.size s.heap.objs.size (by rw [more]; exact Nat.ne_of_lt (Nat.lt_succ_self _)) (intItems #[(i0, t0), (i1, t1), (i2, t2), (i3, t3)])
  refine ⟨_, _, _, _, _, _, _, rfl, walk, ⟨⟨_, Heap.get?_push_size _ rfl, rfl, rfl⟩, tup.push _⟩, fun b hb => ?_, by simp [intItems], CmpOf.ints_gt (numAt #[(i0, t0), (i1, t1), (i2, t2), (i3, t3)]) (fun _ _ => intItems_at), fun v h2 tk hP k => ?_⟩
  · show b < ((s.heap.push _).push _).objs.size
    rw [Heap.size_push, more]
    simp only [List.mem_cons, List.not_mem_nil, or_false] at hb
    rcases hb with rfl | rfl
    · rw [more]; exact Nat.lt_succ_self _
    · exact Nat.lt_succ_of_lt (Nat.lt_succ_self _)
  · obtain ⟨t, rfl⟩ := intItems_at hP
    obtain ⟨b1, b2⟩ := argBest_gt (numAt #[(i0, t0), (i1, t1), (i2, t2), (i3, t3)]) 3
    have sz : (intItems #[(i0, t0), (i1, t1), (i2, t2), (i3, t3)]).size - 1 = 3 := by simp [intItems]
    rw [sz]
    have all : ∀ j, j ≤ 3 → numAt #[(i0, t0), (i1, t1), (i2, t2), (i3, t3)] j ∈ [i0, i1, i2, i3] := fun j hj => by
      match j, hj with
      | 0, _ => simp [numAt]
      | 1, _ => simp [numAt]
      | 2, _ => simp [numAt]
      | 3, _ => simp [numAt]
    have is : ∀ y, y ∈ [i0, i1, i2, i3] → ∃ j, j ≤ 3 ∧ numAt #[(i0, t0), (i1, t1), (i2, t2), (i3, t3)] j = y := fun y hy => by
      simp only [List.mem_cons, List.not_mem_nil, or_false] at hy
      rcases hy with rfl | rfl | rfl | rfl
      · exact ⟨0, by decide, by simp [numAt]⟩
      · exact ⟨1, by decide, by simp [numAt]⟩
      · exact ⟨2, by decide, by simp [numAt]⟩
      · exact ⟨3, by decide, by simp [numAt]⟩
    refine ⟨.int _, H, I.kept (t' := tk) fun b o e => ?_, ⟨t, rfl⟩, q _ (all _ b1) fun y hy => ?_⟩
    · refine k b o (fun hm => ?_) (Heap.get?_push_of_some _ (Heap.get?_push_of_some _ e))
      have z := Heap.lt_size e
      rw [List.mem_singleton.mp hm, more] at z
      exact absurd (Nat.lt_of_succ_lt z) (Nat.lt_irrefl _)
    · obtain ⟨j, hj, rfl⟩ := is y hy
      exact b2 j hj
theorem cr_minN3 (hc : X.calm = true) : CallR X (.builtin "min") (fun xs H Q => ∃ i0 i1 i2 : Int, xs = [.int i0, .int i1, .int i2] ∧ ∀ m, m ∈ [i0, i1, i2] → (∀ y, y ∈ [i0, i1, i2] → m ≤ y) → Q (.int m) H) := by
  intro pins s σ H vs us Q I r h
  obtain ⟨i0, i1, i2, rfl, q⟩ := h
  obtain ⟨t0, t1, t2, rfl⟩ : ∃ t0 t1 t2 : Tok, us = [.int i0 t0, .int i1 t1, .int i2 t2] := by
    cases r with
    | cons r0 r =>
        cases r with
        | cons r1 r =>
            cases r with
            | cons r2 r =>
                cases r
                obtain ⟨t0, rfl⟩ := r0
                obtain ⟨t1, rfl⟩ := r1
                obtain ⟨t2, rfl⟩ := r2
                exact ⟨t0, t1, t2, rfl⟩
  have tup : (s.heap.push { cls := .type "tuple", data := .seq #[.int i0 t0, .int i1 t1, .int i2 t2] }).IsTuple s.heap.objs.size (intItems #[(i0, t0), (i1, t1), (i2, t2)]) := ⟨_, Heap.get?_push_size _ rfl, rfl, 0, by simp [intItems]⟩
  refine minN3 (wpAny_pyIter_tuple tup ?_)
  have more : (s.heap.push { cls := .type "tuple", data := .seq #[.int i0 t0, .int i1 t1, .int i2 t2] }).objs.size = s.heap.objs.size + 1 := Heap.size_push ..
  have walk := Walks.tuple (prog := X.prog) (w := X.w) (A := X.A.in1) (I.ok.hd hc) (s.heap.push { cls := .type "tuple", data := .seq #[.int i0 t0, .int i1 t1, .int i2 t2] }).objs.size s.heap.objs.size (by rw [more]; exact Nat.ne_of_lt (Nat.lt_succ_self _)) (intItems #[(i0, t0), (i1, t1), (i2, t2)])
  refine ⟨_, _, _, _, _, _, _, rfl, walk, ⟨⟨_, Heap.get?_push_size _ rfl, rfl, rfl⟩, tup.push _⟩, fun b hb => ?_, by simp [intItems], CmpOf.ints_lt (numAt #[(i0, t0), (i1, t1), (i2, t2)]) (fun _ _ => intItems_at), fun v h2 tk hP k => ?_⟩
  · show b < ((s.heap.push _).push _).objs.size
    rw [Heap.size_push, more]
    simp only [List.mem_cons, List.not_mem_nil, or_false] at hb
    rcases hb with rfl | rfl
    · rw [more]; exact Nat.lt_succ_self _
    · exact Nat.lt_succ_of_lt (Nat.lt_succ_self _)
  · obtain ⟨t, rfl⟩ := intItems_at hP
    obtain ⟨b1, b2⟩ := argBest_lt (numAt #[(i0, t0), (i1, t1), (i2, t2)]) 2
    have sz : (intItems #[(i0, t0), (i1, t1), (i2, t2)]).size - 1 = 2 := by simp [intItems]
    rw [sz]
    have all : ∀ j, j ≤ 2 → numAt #[(i0, t0), (i1, t1), (i2, t2)] j ∈ [i0, i1, i2] := fun j hj => by
      match j, hj with
      | 0, _ => simp [numAt]
      | 1, _ => simp [numAt]
      | 2, _ => simp [numAt]
    have is : ∀ y, y ∈ [i0, i1, i2] → ∃ j, j ≤ 2 ∧ numAt #[(i0, t0), (i1, t1), (i2, t2)] j = y := fun y hy => by
      simp only [List.mem_cons, List.not_mem_nil, or_false] at hy
      rcases hy with rfl | rfl | rfl
      · exact ⟨0, by decide, by simp [numAt]⟩
      · exact ⟨1, by decide, by simp [numAt]⟩
      · exact ⟨2, by decide, by simp [numAt]⟩
    refine ⟨.int _, H, I.kept (t' := tk) fun b o e => ?_, ⟨t, rfl⟩, q _ (all _ b1) fun y hy => ?_⟩
    · refine k b o (fun hm => ?_) (Heap.get?_push_of_some _ (Heap.get?_push_of_some _ e))
      have z := Heap.lt_size e
      rw [List.mem_singleton.mp hm, more] at z
      exact absurd (Nat.lt_of_succ_lt z) (Nat.lt_irrefl _)
    · obtain ⟨j, hj, rfl⟩ := is y hy
      exact b2 j hj
theorem cr_minN4 (hc : X.calm = true) : CallR X (.builtin "min") (fun xs H Q => ∃ i0 i1 i2 i3 : Int, xs = [.int i0, .int i1, .int i2, .int i3] ∧ ∀ m, m ∈ [i0, i1, i2, i3] → (∀ y, y ∈ [i0, i1, i2, i3] → m ≤ y) → Q (.int m) H) := by
  intro pins s σ H vs us Q I r h
  obtain ⟨i0, i1, i2, i3, rfl, q⟩ := h
  obtain ⟨t0, t1, t2, t3, rfl⟩ : ∃ t0 t1 t2 t3 : Tok, us = [.int i0 t0, .int i1 t1, .int i2 t2, .int i3 t3] := by
    cases r with
    | cons r0 r =>
        cases r with
        | cons r1 r =>
            cases r with
            | cons r2 r =>
                cases r with
                | cons r3 r =>
                    cases r
                    obtain ⟨t0, rfl⟩ := r0
                    obtain ⟨t1, rfl⟩ := r1
                    obtain ⟨t2, rfl⟩ := r2
                    obtain ⟨t3, rfl⟩ := r3
                    exact ⟨t0, t1, t2, t3, rfl⟩
  have tup : (s.heap.push { cls := .type "tuple", data := .seq #[.int i0 t0, .int i1 t1, .int i2 t2, .int i3 t3] }).IsTuple s.heap.objs.size (intItems #[(i0, t0), (i1, t1), (i2, t2), (i3, t3)]) := ⟨_, Heap.get?_push_size _ rfl, rfl, 0, by simp [intItems]⟩
  refine minN4 (wpAny_pyIter_tuple tup ?_)
  have more : (s.heap.push { cls := .type "tuple", data := .seq #[.int i0 t0, .int i1 t1, .int i2 t2, .int i3 t3] }).objs.size = s.heap.objs.size + 1 := Heap.size_push ..
  have walk := Walks.tuple (prog := X.prog) (w := X.w) (A := X.A.in1) (I.ok.hd hc) (s.heap.push { cls := .type "tuple", data := .seq #[.int i0 t0, .int i1 t1, .int i2 t2, .int i3 t3] }).objs.size s.heap.objs.size (by rw [more]; exact Nat.ne_of_lt (Nat.lt_succ_self _)) (intItems #[(i0, t0), (i1, t1), (i2, t2), (i3, t3)])
  refine ⟨_, _, _, _, _, _, _, rfl, walk, ⟨⟨_, Heap.get?_push_size _ rfl, rfl, rfl⟩, tup.push _⟩, fun b hb => ?_, by simp [intItems], CmpOf.ints_lt (numAt #[(i0, t0), (i1, t1), (i2, t2), (i3, t3)]) (fun _ _ => intItems_at), fun v h2 tk hP k => ?_⟩
  · show b < ((s.heap.push _).push _).objs.size
    rw [Heap.size_push, more]
    simp only [List.mem_cons, List.not_mem_nil, or_false] at hb
    rcases hb with rfl | rfl
    · rw [more]; exact Nat.lt_succ_self _
    · exact Nat.lt_succ_of_lt (Nat.lt_succ_self _)
  · obtain ⟨t, rfl⟩ := intItems_at hP
    obtain ⟨b1, b2⟩ := argBest_lt (numAt #[(i0, t0), (i1, t1), (i2, t2), (i3, t3)]) 3
    have sz : (intItems #[(i0, t0), (i1, t1), (i2, t2), (i3, t3)]).size - 1 = 3 := by simp [intItems]
    rw [sz]
    have all : ∀ j, j ≤ 3 → numAt #[(i0, t0), (i1, t1), (i2, t2), (i3, t3)] j ∈ [i0, i1, i2, i3] := fun j hj => by
      match j, hj with
      | 0, _ => simp [numAt]
      | 1, _ => simp [numAt]
      | 2, _ => simp [numAt]
      | 3, _ => simp [numAt]
    have is : ∀ y, y ∈ [i0, i1, i2, i3] → ∃ j, j ≤ 3 ∧ numAt #[(i0, t0), (i1, t1), (i2, t2), (i3, t3)] j = y := fun y hy => by
      simp only [List.mem_cons, List.not_mem_nil, or_false] at hy
      rcases hy with rfl | rfl | rfl | rfl
      · exact ⟨0, by decide, by simp [numAt]⟩
      · exact ⟨1, by decide, by simp [numAt]⟩
      · exact ⟨2, by decide, by simp [numAt]⟩
      · exact ⟨3, by decide, by simp [numAt]⟩
    refine ⟨.int _, H, I.kept (t' := tk) fun b o e => ?_, ⟨t, rfl⟩, q _ (all _ b1) fun y hy => ?_⟩
    · refine k b o (fun hm => ?_) (Heap.get?_push_of_some _ (Heap.get?_push_of_some _ e))
      have z := Heap.lt_size e
      rw [List.mem_singleton.mp hm, more] at z
      exact absurd (Nat.lt_of_succ_lt z) (Nat.lt_irrefl _)
    · obtain ⟨j, hj, rfl⟩ := is y hy
      exact b2 j hj
end
end Dn
namespace Dn
open PySem PySem.Spec PyProof.Rows L2
open Dn.Enc (enc)
/-! max, min of three, of four ints: told -/
theorem voks3 {Z : Zz} {I : Hp} {vs : List V} {x y z : Vl} (h : VOks Z I vs [x, y, z]) : ∃ u v w, vs = [u, v, w] ∧ VOk Z I u x ∧ VOk Z I v y ∧ VOk Z I w z := by
  cases h with
  | cons a h => cases h with
    | cons b h => cases h with
      | cons c h => cases h; exact ⟨_, _, _, rfl, a, b, c⟩
theorem voks4 {Z : Zz} {I : Hp} {vs : List V} {x y z t : Vl} (h : VOks Z I vs [x, y, z, t]) : ∃ u v w s, vs = [u, v, w, s] ∧ VOk Z I u x ∧ VOk Z I v y ∧ VOk Z I w z ∧ VOk Z I s t := by
  cases h with
  | cons a h =>
    obtain ⟨u, v, w, rfl, h1, h2, h3⟩ := voks3 h
    exact ⟨_, u, v, w, rfl, a, h1, h2, h3⟩
section
variable {Z : Zz} {W : XK}
def gMax3 : List Vl → Int → R Vl
  | [.d (.int i0), .d (.int i1), .d (.int i2)], c => .ok (.d (.int (max (max i0 i1) i2))) c
  | _, _ => .no
theorem rc_max3 : SndC Z W (fun xs H Q => ∃ i0 i1 i2 : Int, xs = [.int i0, .int i1, .int i2] ∧ ∀ m, m ∈ [i0, i1, i2] → (∀ y, y ∈ [i0, i1, i2] → y ≤ m) → Q (.int m) H) gMax3 := by
  intro I H xs vs c k hv Q h
  unfold gMax3 at h
  split at h
  · rename_i i0 i1 i2
    obtain ⟨v0, v1, v2, rfl, h0, h1, h2⟩ := voks3 hv
    cases h0
    cases h1
    cases h2
    refine ⟨i0, i1, i2, rfl, fun m m1 m2 => ?_⟩
    have e : m = (max (max i0 i1) i2) := by
      simp only [List.mem_cons, List.not_mem_nil, or_false, forall_eq_or_imp, forall_eq] at m1 m2
      omega
    rw [e]
    exact Res.ok k h _ (.int _)
  · exact h.elim
theorem k_max3 {i0 i1 i2 : Int} : PV (gMax3 [.d (.int i0), .d (.int i1), .d (.int i2)]) (.d (.int (max (max i0 i1) i2))) := fun _ => rfl
def gMax4 : List Vl → Int → R Vl
  | [.d (.int i0), .d (.int i1), .d (.int i2), .d (.int i3)], c => .ok (.d (.int (max (max (max i0 i1) i2) i3))) c
  | _, _ => .no
theorem rc_max4 : SndC Z W (fun xs H Q => ∃ i0 i1 i2 i3 : Int, xs = [.int i0, .int i1, .int i2, .int i3] ∧ ∀ m, m ∈ [i0, i1, i2, i3] → (∀ y, y ∈ [i0, i1, i2, i3] → y ≤ m) → Q (.int m) H) gMax4 := by
  intro I H xs vs c k hv Q h
  unfold gMax4 at h
  split at h
  · rename_i i0 i1 i2 i3
    obtain ⟨v0, v1, v2, v3, rfl, h0, h1, h2, h3⟩ := voks4 hv
    cases h0
    cases h1
    cases h2
    cases h3
    refine ⟨i0, i1, i2, i3, rfl, fun m m1 m2 => ?_⟩
    have e : m = (max (max (max i0 i1) i2) i3) := by
      simp only [List.mem_cons, List.not_mem_nil, or_false, forall_eq_or_imp, forall_eq] at m1 m2
      omega
    rw [e]
    exact Res.ok k h _ (.int _)
  · exact h.elim
theorem k_max4 {i0 i1 i2 i3 : Int} : PV (gMax4 [.d (.int i0), .d (.int i1), .d (.int i2), .d (.int i3)]) (.d (.int (max (max (max i0 i1) i2) i3))) := fun _ => rfl
def gMin3 : List Vl → Int → R Vl
  | [.d (.int i0), .d (.int i1), .d (.int i2)], c => .ok (.d (.int (min (min i0 i1) i2))) c
  | _, _ => .no
theorem rc_min3 : SndC Z W (fun xs H Q => ∃ i0 i1 i2 : Int, xs = [.int i0, .int i1, .int i2] ∧ ∀ m, m ∈ [i0, i1, i2] → (∀ y, y ∈ [i0, i1, i2] → m ≤ y) → Q (.int m) H) gMin3 := by
  intro I H xs vs c k hv Q h
  unfold gMin3 at h
  split at h
  · rename_i i0 i1 i2
    obtain ⟨v0, v1, v2, rfl, h0, h1, h2⟩ := voks3 hv
    cases h0
    cases h1
    cases h2
    refine ⟨i0, i1, i2, rfl, fun m m1 m2 => ?_⟩
    have e : m = (min (min i0 i1) i2) := by
      simp only [List.mem_cons, List.not_mem_nil, or_false, forall_eq_or_imp, forall_eq] at m1 m2
      omega
    rw [e]
    exact Res.ok k h _ (.int _)
  · exact h.elim
theorem k_min3 {i0 i1 i2 : Int} : PV (gMin3 [.d (.int i0), .d (.int i1), .d (.int i2)]) (.d (.int (min (min i0 i1) i2))) := fun _ => rfl
def gMin4 : List Vl → Int → R Vl
  | [.d (.int i0), .d (.int i1), .d (.int i2), .d (.int i3)], c => .ok (.d (.int (min (min (min i0 i1) i2) i3))) c
  | _, _ => .no
theorem rc_min4 : SndC Z W (fun xs H Q => ∃ i0 i1 i2 i3 : Int, xs = [.int i0, .int i1, .int i2, .int i3] ∧ ∀ m, m ∈ [i0, i1, i2, i3] → (∀ y, y ∈ [i0, i1, i2, i3] → m ≤ y) → Q (.int m) H) gMin4 := by
  intro I H xs vs c k hv Q h
  unfold gMin4 at h
  split at h
  · rename_i i0 i1 i2 i3
    obtain ⟨v0, v1, v2, v3, rfl, h0, h1, h2, h3⟩ := voks4 hv
    cases h0
    cases h1
    cases h2
    cases h3
    refine ⟨i0, i1, i2, i3, rfl, fun m m1 m2 => ?_⟩
    have e : m = (min (min (min i0 i1) i2) i3) := by
      simp only [List.mem_cons, List.not_mem_nil, or_false, forall_eq_or_imp, forall_eq] at m1 m2
      omega
    rw [e]
    exact Res.ok k h _ (.int _)
  · exact h.elim
theorem k_min4 {i0 i1 i2 i3 : Int} : PV (gMin4 [.d (.int i0), .d (.int i1), .d (.int i2), .d (.int i3)]) (.d (.int (min (min (min i0 i1) i2) i3))) := fun _ => rfl
/-! a, b = x, y: stored from the right -/
def parK (i j : Nat) (f : List Sl → Int → R α) (δ : List Sl) : List Vl → Int → R α
  | [x, y], c => f ((δ.set i (.im x)).set j (.im y)) c
  | _, _ => .no
def dPar (i j : Nat) (da : DenA) : DenS := fun δ c => (da δ c).bind (parK i j (fun δ1 c1 => .ok (.nx δ1) c1) δ)
theorem sns_par {i j : Nat} {ta : TA} {da : DenA} (ha : SndA Z W ta da) : SndS Z W (tPar i j ta) (dPar i j da) := by
  intro I0 H0 I H σ δ c g a D h
  refine ha _ _ _ _ _ _ a _ (Res.imp (Res.bindS g h) fun xs c1 I1 H1 g1 k1 q vs hvs => ?_)
  obtain ⟨q1, q2⟩ := q
  unfold parK at q2
  split at q2
  · cases hvs with
    | cons h1 hvs => cases hvs with
      | cons h2 hvs =>
        cases hvs
        obtain ⟨as, s⟩ := (a.go g1 k1).sl
        obtain ⟨bs, s2, _⟩ := s.put h1 i
        obtain ⟨cs, s3, _⟩ := s2.put h2 j
        exact ⟨_, _, rfl, Res.okS q1 k1 q2 _ ⟨cs, s3⟩⟩
  · exact q2.elim
end
section
variable {γ τ : Type} {δ : List Sl} {m : M τ} {o : τ → γ}
theorem b_par {i j : Nat} {da : DenA} {r : DenS} {K : Out → Int → R γ} (h : BK (da δ) (parK i j (fun δ1 c1 => (r δ1 c1).bind K) δ) m o) : BK (dSeq (dPar i j da) r δ) K m o := by
  refine b_seq ?_
  intro c
  show Rf (m c) o ((dPar i j da δ c).bind _)
  unfold dPar
  rw [R.bind_assoc]
  have e : (fun xs c1 => (parK i j (fun δ1 c1 => (R.ok (Out.nx δ1) c1 : R Out)) δ xs c1).bind fun w c => (seqO r w c).bind K) = parK i j (fun δ1 c1 => (r δ1 c1).bind K) δ := by
    funext xs c1
    unfold parK
    split <;> rfl
  rw [e]
  exact h c
end
end Dn
namespace Dn
open PySem PySem.Spec PyProof.Rows L2
open Dn.Enc (enc)
/-- a promise that nothing asks -/
theorem FnG.none {P : Program} {w : World} {K : PySem.W.Frag} {mg : Str → Option Value} {base : Heap} {CX : CXT} {k : Nat} {f : Addr} {fd : FuncData} {ps : List Str} {sp : Sp} (no : ∀ xs H Q E, sp xs H Q E → False) : FnG P w K mg base CX k f fd ps sp :=
  ⟨fun xs H Q E h => (no xs H Q E h).elim, fun _ _ _ H _ _ xs Q E _ _ _ _ _ h => (no xs H Q E h).elim⟩
end Dn
namespace Dn
open PySem PySem.Spec PyProof.Rows L2
open Dn.Enc (enc)
/-! sorted lists of ints, of pairs of ints -/
theorem sorted_one {α : Type} {r : α → α → Prop} (anti : ∀ a b, r a b → r b a → a = b) : ∀ {l m : List α}, l.Perm m → l.Pairwise r → m.Pairwise r → l = m
  | [], m, p, _, _ => by rw [List.nil_perm] at p; exact p.symm
  | a :: l, [], p, _, _ => by have z := p.length_eq; cases z
  | a :: l, b :: m, p, h1, h2 => by
    obtain ⟨a1, a2⟩ := List.pairwise_cons.mp h1
    obtain ⟨b1, b2⟩ := List.pairwise_cons.mp h2
    have e : a = b := by
      rcases List.mem_cons.mp (p.mem_iff.mp List.mem_cons_self) with z | z
      · exact z
      · rcases List.mem_cons.mp (p.mem_iff.mpr List.mem_cons_self) with y | y
        · exact y.symm
        · exact anti a b (a1 b y) (b1 a z)
    subst e
    rw [sorted_one anti (List.Perm.cons_inv p) a2 b2]
def sortI (ns : List Int) : List Int := ns.mergeSort fun a b => decide (a ≤ b)
theorem sortI_perm (ns : List Int) : (sortI ns).Perm ns := List.mergeSort_perm _ _
theorem sortI_le (ns : List Int) : (sortI ns).Pairwise (· ≤ ·) := by
  have h := List.pairwise_mergeSort (le := fun a b : Int => decide (a ≤ b)) (fun a b c h1 h2 => by simp at *; omega) (fun a b => by simp; omega) ns
  exact h.imp fun h => by simpa using h
theorem sortI_is {ns ms : List Int} (p : ms.Perm ns) (h : ms.Pairwise (· ≤ ·)) : ms = sortI ns :=
  sorted_one (fun a b h1 h2 => Int.le_antisymm h1 h2) (p.trans (sortI_perm ns).symm) h (sortI_le ns)
def gSortI : List Vl → Int → R (List PyData)
  | [.d (.list xs)], c => match intsOf xs with
    | some ns => .ok ((sortI ns).map .int) c
    | none => .no
  | _, _ => .no
section
variable {Z : Zz} {W : XK}
theorem rc_sortI : SndCL Z W (rSortedI Z.K) gSortI := by
  intro I H xs vs c k hv Q h
  unfold gSortI at h
  split at h
  · split at h
    · rename_i ns e
      cases hv with
      | cons a b => cases b; cases a with
        | lst s t =>
          rw [intsOf_eq e] at t
          have := dps_ints' _ t
          subst this
          refine ⟨_, ns, rfl, sqL_grows k.ex s, fun ms p pm pw hp => ?_⟩
          rw [sortI_is pm pw]
          exact newL k (dps_ints _) h p hp
    · exact h.elim
  · exact h.elim
end
theorem k_sortI {xs : List Int} : PV (gSortI [.d (enc xs)]) ((sortI xs).map enc) := fun c => by
  show (match intsOf (xs.map enc) with | some ns => R.ok ((sortI ns).map PyData.int) c | none => .no) = _
  rw [intsOf_enc]
  rfl
end Dn
namespace Dn
open PySem PySem.Spec PyProof.Rows L2
open Dn.Enc (enc)
/-! dicts of one's own: a new one, one that is changed -/
theorem Sls.putD {Z : Zz} {H0 I H : Hp} {l : Addr} {o : HO} {dd : Dk} (e1 : H l = some o) (e2 : I l = none) (e3 : H0 l = none) (e4 : Z.sa ≠ some l) (e5 : DkOk Z.K I o dd)
    {σ : L2.St} {δ : List Sl} {as : List Addr} (h : Sls Z H0 I H σ δ as) : ∀ (i : Nat), l ∉ as → ∃ bs, Sls Z H0 I H (σ.set i (some (.ref l))) (δ.set i (.od dd)) bs ∧ ∀ b ∈ bs, b = l ∨ b ∈ as := by
  induction h with
  | nil => intro i _; exact ⟨[], by cases i <;> exact .nil, fun _ m => .inr m⟩
  | no h ih => intro i n; cases i with
    | zero => exact ⟨_, .od e1 e5 e2 e3 e4 n h, fun _ m => by simpa using m⟩
    | succ i => obtain ⟨bs, a, b⟩ := ih i n; exact ⟨bs, .no a, b⟩
  | im q h ih => intro i n; cases i with
    | zero => exact ⟨_, .od e1 e5 e2 e3 e4 n h, fun _ m => by simpa using m⟩
    | succ i => obtain ⟨bs, a, b⟩ := ih i n; exact ⟨bs, .im q a, b⟩
  | ow h1 h2 h3 h4 h5 h6 h ih => intro i n; cases i with
    | zero => exact ⟨_, .od e1 e5 e2 e3 e4 (fun m => n (List.mem_cons_of_mem _ m)) h, fun _ m => by
        cases m with
        | head => exact .inl rfl
        | tail _ m => exact .inr (List.mem_cons_of_mem _ m)⟩
    | succ i =>
      obtain ⟨bs, a, b⟩ := ih i fun m => n (List.mem_cons_of_mem _ m)
      exact ⟨_ :: bs, .ow h1 h2 h3 h4 h5 (fun m => (b _ m).elim (fun e => n (e ▸ List.mem_cons_self)) h6) a, fun c m => by cases m with
        | head => exact .inr List.mem_cons_self
        | tail _ m => exact (b _ m).imp id (List.mem_cons_of_mem _)⟩
  | od h1 h5 h2 h3 h4 h6 h ih => intro i n; cases i with
    | zero => exact ⟨_, .od e1 e5 e2 e3 e4 (fun m => n (List.mem_cons_of_mem _ m)) h, fun _ m => by
        cases m with
        | head => exact .inl rfl
        | tail _ m => exact .inr (List.mem_cons_of_mem _ m)⟩
    | succ i =>
      obtain ⟨bs, a, b⟩ := ih i fun m => n (List.mem_cons_of_mem _ m)
      exact ⟨_ :: bs, .od h1 h5 h2 h3 h4 (fun m => (b _ m).elim (fun e => n (e ▸ List.mem_cons_self)) h6) a, fun c m => by cases m with
        | head => exact .inr List.mem_cons_self
        | tail _ m => exact (b _ m).imp id (List.mem_cons_of_mem _)⟩
  | ow2 h1 h2 h3 h4 h5 h6 h7 h ih => intro i n; cases i with
    | zero => exact ⟨_, .od e1 e5 e2 e3 e4 (fun m => n (List.mem_append_right _ m)) h, fun _ m => by
        cases m with
        | head => exact .inl rfl
        | tail _ m => exact .inr (List.mem_append_right _ m)⟩
    | succ i =>
      obtain ⟨bs, a, b⟩ := ih i fun m => n (List.mem_append_right _ m)
      exact ⟨_ ++ bs, .ow2 h1 h2 h3 h4 h5 h6 (fun x m k => (b _ k).elim (fun e => n (e ▸ List.mem_append_left _ m)) (h7 x m)) a, fun c m => (List.mem_append.mp m).elim (fun m => .inr (List.mem_append_left _ m)) fun m => (b _ m).imp id (List.mem_append_right _)⟩
theorem Sls.changeD {Z : Zz} {H0 I H : Hp} {ob : HO} {dd : Dk} (e5 : DkOk Z.K I ob dd) {σ : L2.St} {δ : List Sl} {as : List Addr} (h : Sls Z H0 I H σ δ as) :
    ∀ {i : Nat} {d0 : Dk} {l : Addr}, δ[i]? = some (.od d0) → σ[i]? = some (some (.ref l)) → Sls Z H0 I (upd H l ob) σ (δ.set i (.od dd)) as := by
  induction h with
  | nil => intro i x l e; simp at e
  | no h ih => intro i x l e f; cases i with
    | zero => simp at e
    | succ i => exact .no (ih (by simpa using e) (by simpa using f))
  | im q h ih => intro i x l e f; cases i with
    | zero => simp at e
    | succ i => exact .im q (ih (by simpa using e) (by simpa using f))
  | ow h1 h2 h3 h4 h5 h6 h ih => intro i x l e f; cases i with
    | zero => simp at e
    | succ i =>
      have e' := (List.getElem?_cons_succ ▸ e)
      have f' := (List.getElem?_cons_succ ▸ f)
      obtain ⟨l2, vs2, f2, m, _⟩ := h.ownD e'
      have : l2 = l := by rw [f2] at f'; cases f'; rfl
      subst this
      exact .ow (by rw [upd_ne (fun e => h6 (by rw [e]; exact m))]; exact h1) h2 h3 h4 h5 h6 (ih e' f')
  | od h1 h5' h2 h3 h4 h6 h ih => intro i x l e f; cases i with
    | zero =>
      simp at f
      subst f
      exact .od upd_same e5 h2 h3 h4 h6 (h.apart h6)
    | succ i =>
      have e' := (List.getElem?_cons_succ ▸ e)
      have f' := (List.getElem?_cons_succ ▸ f)
      obtain ⟨l2, vs2, f2, m, _⟩ := h.ownD e'
      have : l2 = l := by rw [f2] at f'; cases f'; rfl
      subst this
      exact .od (by rw [upd_ne (fun e => h6 (by rw [e]; exact m))]; exact h1) h5' h2 h3 h4 h6 (ih e' f')
  | ow2 h1 h2 h3 h4 h5' h6 h7 h ih => intro i x l e f; cases i with
    | zero => simp at e
    | succ i =>
      have e' := (List.getElem?_cons_succ ▸ e)
      have f' := (List.getElem?_cons_succ ▸ f)
      obtain ⟨l2, vs2, f2, m, _⟩ := h.ownD e'
      have : l2 = l := by rw [f2] at f'; cases f'; rfl
      subst this
      exact .ow2 (by rw [upd_ne (fun e => h7 _ List.mem_cons_self (by rw [e]; exact m))]; exact h1) h2 h3 h4 (h5'.apart fun k => h7 _ (List.mem_cons_of_mem _ k) m) h6 h7 (ih e' f')
/-! kept for good -/
theorem Sls.freezeO {Z : Zz} {H0 I H : Hp} {l : Addr} {ob : HO} (hl : I l = none) {σ : L2.St} {δ : List Sl} {as : List Addr} (h : Sls Z H0 I H σ δ as) : l ∉ as → Sls Z H0 (upd I l ob) H σ δ as := by
  have gi : Grows I (upd I l ob) := fun a o e => by
    rw [upd_ne (fun z => by rw [z, hl] at e; cases e)]
    exact e
  induction h with
  | nil => exact fun _ => .nil
  | no _ ih => exact fun n => .no (ih n)
  | im a _ ih => exact fun n => .im (vok_grows gi a) (ih n)
  | ow h1 h2 h3 h4 h5 h6 _ ih => exact fun n => .ow h1 (by rw [upd_ne (fun e => n (by rw [e]; exact List.mem_cons_self))]; exact h2) h3 h4 (dps_grows gi _ _ h5) h6 (ih fun m => n (List.mem_cons_of_mem _ m))
  | od h1 h5 h2 h3 h4 h6 _ ih => exact fun n => .od h1 (dk_grows gi h5) (by rw [upd_ne (fun e => n (by rw [e]; exact List.mem_cons_self))]; exact h2) h3 h4 h6 (ih fun m => n (List.mem_cons_of_mem _ m))
  | ow2 h1 h2 h3 h4 h5 h6 h7 _ ih => exact fun n => .ow2 h1 (by rw [upd_ne (fun e => n (by rw [e]; exact List.mem_append_left _ List.mem_cons_self))]; exact h2) h3 h4 (h5.freeze hl fun m => n (List.mem_append_left _ (List.mem_cons_of_mem _ m))) h6 h7 (ih fun m => n (List.mem_append_right _ m))
theorem Sls.frzD {Z : Zz} {H0 I H : Hp} {σ : L2.St} {δ : List Sl} {as : List Addr} (h : Sls Z H0 I H σ δ as) : ∀ {i : Nat} {d0 : Dk} {l : Addr} {ob : HO}, δ[i]? = some (.od d0) → σ[i]? = some (some (.ref l)) → H l = some ob →
    ∃ bs, Sls Z H0 (upd I l ob) H σ (δ.set i (.im (.dk d0))) bs ∧ ∀ b ∈ bs, b ∈ as := by
  induction h with
  | nil => intro i x l vs e; simp at e
  | no h ih => intro i x l vs e f g; cases i with
    | zero => simp at e
    | succ i => obtain ⟨bs, a, b⟩ := ih (i := i) (d0 := x) (l := l) (ob := vs) (by simpa using e) (by simpa using f) g; exact ⟨bs, .no a, b⟩
  | im q h ih => intro i x l vs e f g; cases i with
    | zero => simp at e
    | succ i =>
      have e' := (List.getElem?_cons_succ ▸ e)
      have f' := (List.getElem?_cons_succ ▸ f)
      obtain ⟨l2, vs2, f2, m, g2, d⟩ := h.ownD e'
      have : l2 = l := by rw [f2] at f'; cases f'; rfl
      subst this
      obtain ⟨_, _, n, _⟩ := h.at m
      obtain ⟨bs, a, b⟩ := ih (i := i) (d0 := x) (l := l2) (ob := vs) e' f' g
      exact ⟨bs, .im (vok_grows (fun a o e => by rw [upd_ne (fun z => by rw [z, n] at e; cases e)]; exact e) q) a, b⟩
  | ow h1 h2 h3 h4 h5 h6 h ih => intro i x l vs e f g; cases i with
    | zero => simp at e
    | succ i =>
      have e' := (List.getElem?_cons_succ ▸ e)
      have f' := (List.getElem?_cons_succ ▸ f)
      obtain ⟨l2, vs2, f2, m, g2, d⟩ := h.ownD e'
      have : l2 = l := by rw [f2] at f'; cases f'; rfl
      subst this
      obtain ⟨_, _, n, _⟩ := h.at m
      obtain ⟨bs, a, b⟩ := ih (i := i) (d0 := x) (l := l2) (ob := vs) e' f' g
      exact ⟨_ :: bs, .ow h1 (by rw [upd_ne (fun e => h6 (by rw [e]; exact m))]; exact h2) h3 h4 (dps_grows (fun a o e => by rw [upd_ne (fun z => by rw [z, n] at e; cases e)]; exact e) _ _ h5) (fun m => h6 (b _ m)) a, fun c m => by
        cases m with
        | head => exact List.mem_cons_self
        | tail _ m => exact List.mem_cons_of_mem _ (b _ m)⟩
  | od h1 h5 h2 h3 h4 h6 h ih => intro i x l vs e f g; cases i with
    | zero =>
      simp at e f
      subst e f
      rw [h1] at g
      cases g
      refine ⟨_, .im ⟨_, _, rfl, upd_same, dk_grows (fun a o e => by rw [upd_ne (fun z => by rw [z, h2] at e; cases e)]; exact e) h5⟩ (h.freezeO h2 h6), fun b m => List.mem_cons_of_mem _ m⟩
    | succ i =>
      have e' := (List.getElem?_cons_succ ▸ e)
      have f' := (List.getElem?_cons_succ ▸ f)
      obtain ⟨l2, vs2, f2, m, g2, d⟩ := h.ownD e'
      have : l2 = l := by rw [f2] at f'; cases f'; rfl
      subst this
      obtain ⟨_, _, n, _⟩ := h.at m
      obtain ⟨bs, a, b⟩ := ih (i := i) (d0 := x) (l := l2) (ob := vs) e' f' g
      refine ⟨_ :: bs, .od h1 (dk_grows (fun a o e => by rw [upd_ne (fun z => by rw [z, n] at e; cases e)]; exact e) h5) (by rw [upd_ne (fun e => h6 (by rw [e]; exact m))]; exact h2) h3 h4 (fun m => h6 (b _ m)) a, fun c m => ?_⟩
      cases m with
      | head => exact List.mem_cons_self
      | tail _ m => exact List.mem_cons_of_mem _ (b _ m)
  | ow2 h1 h2 h3 h4 h5 h6 h7 h ih => intro i x l vs e f g; cases i with
    | zero => simp at e
    | succ i =>
      have e' := (List.getElem?_cons_succ ▸ e)
      have f' := (List.getElem?_cons_succ ▸ f)
      obtain ⟨l2, vs2, f2, m, g2, d⟩ := h.ownD e'
      have : l2 = l := by rw [f2] at f'; cases f'; rfl
      subst this
      obtain ⟨_, _, n, _⟩ := h.at m
      obtain ⟨bs, a, b⟩ := ih (i := i) (d0 := x) (l := l2) (ob := vs) e' f' g
      exact ⟨_ ++ bs, .ow2 h1 (by rw [upd_ne (fun e => h7 _ List.mem_cons_self (by rw [e]; exact m))]; exact h2) h3 h4 (h5.freeze n fun z => h7 _ (List.mem_cons_of_mem _ z) m) h6 (fun c m n => h7 c m (b _ n)) a, fun c m =>
        (List.mem_append.mp m).elim (fun m => List.mem_append_left _ m) fun m => List.mem_append_right _ (b _ m)⟩
end Dn
namespace Dn
open PySem PySem.Spec PyProof.Rows L2
open Dn.Enc (enc)
/-! dicts whose keys are ints and texts: what they hold -/
def keyOf : PyData → Option L2.Key
  | .int i => some (.inl i)
  | .str x => some (.inr x)
  | _ => none
theorem keyOf_dp {K : PySem.W.Frag} {I : Hp} {v : V} {x : PyData} {k : L2.Key} (e : keyOf x = some k) (h : Dp K I v x) : v = kV k := by
  cases h <;> simp only [keyOf] at e <;> cases e <;> rfl
section
variable {κ β : Type} [DecidableEq κ]
def valG (kvs : List (κ × β)) (k : κ) : Option β := (kvs.find? fun kv => decide (kv.1 = k)).map (·.2)
def putG (kvs : List (κ × β)) (k : κ) (v : β) : List (κ × β) := if (kvs.any fun kv => decide (kv.1 = k)) = true then kvs.map (fun kv => if kv.1 = k then (kv.1, v) else kv) else kvs ++ [(k, v)]
end
theorem any_fst {κ β γ : Type} [DecidableEq κ] {k : κ} : ∀ {us : List (κ × β)} {vs : List (κ × γ)}, us.map (·.1) = vs.map (·.1) → (us.any fun kv => decide (kv.1 = k)) = vs.any fun kv => decide (kv.1 = k)
  | [], [], _ => rfl
  | [], _ :: _, h => by cases h
  | _ :: _, [], h => by cases h
  | u :: us, v :: vs, h => by
    rw [List.map_cons, List.map_cons] at h
    injection h with h1 h2
    rw [List.any_cons, List.any_cons, any_fst h2, h1]
theorem valG_ok {K : PySem.W.Frag} {I : Hp} {κ : Type} [DecidableEq κ] {k : κ} : ∀ {us : List (κ × V)} {vs : List (κ × PyData)}, us.map (·.1) = vs.map (·.1) → DpAll K I (us.map (·.2)) (vs.map (·.2)) →
    (valV us k = none ∧ valG vs k = none) ∨ ∃ u x, valV us k = some u ∧ valG vs k = some x ∧ Dp K I u x
  | [], [], _, _ => .inl ⟨rfl, rfl⟩
  | [], _ :: _, h, _ => by cases h
  | _ :: _, [], h, _ => by cases h
  | u :: us, v :: vs, h, t => by
    rw [List.map_cons, List.map_cons] at h t
    injection h with h1 h2
    cases t with
    | cons a t =>
      by_cases e : u.1 = k
      · refine .inr ⟨u.2, v.2, ?_, ?_, a⟩
        · unfold valV
          rw [List.find?_cons, decide_eq_true e]
          rfl
        · unfold valG
          rw [List.find?_cons, decide_eq_true (h1 ▸ e)]
          rfl
      · have e' : ¬ v.1 = k := fun z => e (h1.trans z)
        have r := valG_ok (k := k) h2 t
        unfold valV valG at r ⊢
        rw [List.find?_cons, List.find?_cons, decide_eq_false e, decide_eq_false e']
        exact r
theorem mapG_ok {K : PySem.W.Frag} {I : Hp} {κ : Type} [DecidableEq κ] {k : κ} {w : V} {y : PyData} (hw : Dp K I w y) : ∀ {us : List (κ × V)} {vs : List (κ × PyData)}, us.map (·.1) = vs.map (·.1) → DpAll K I (us.map (·.2)) (vs.map (·.2)) →
    (us.map fun kv => if kv.1 = k then (kv.1, w) else kv).map (·.1) = (vs.map fun kv => if kv.1 = k then (kv.1, y) else kv).map (·.1) ∧ DpAll K I ((us.map fun kv => if kv.1 = k then (kv.1, w) else kv).map (·.2)) ((vs.map fun kv => if kv.1 = k then (kv.1, y) else kv).map (·.2))
  | [], [], _, _ => ⟨rfl, .nil⟩
  | [], _ :: _, h, _ => by cases h
  | _ :: _, [], h, _ => by cases h
  | u :: us, v :: vs, h, t => by
    rw [List.map_cons, List.map_cons] at h t
    injection h with h1 h2
    cases t with
    | cons a t =>
      obtain ⟨r1, r2⟩ := mapG_ok (k := k) hw h2 t
      by_cases e : u.1 = k
      · have e' : v.1 = k := h1 ▸ e
        simp only [List.map_cons, if_pos e, if_pos e']
        exact ⟨by rw [r1, h1], .cons hw r2⟩
      · have e' : ¬ v.1 = k := fun z => e (h1.trans z)
        simp only [List.map_cons, if_neg e, if_neg e']
        exact ⟨by rw [r1, h1], .cons a r2⟩
theorem putG_ok {K : PySem.W.Frag} {I : Hp} {κ : Type} [DecidableEq κ] {k : κ} {w : V} {y : PyData} (hw : Dp K I w y) {us : List (κ × V)} {vs : List (κ × PyData)} (h : us.map (·.1) = vs.map (·.1)) (t : DpAll K I (us.map (·.2)) (vs.map (·.2))) :
    (putK us k w).map (·.1) = (putG vs k y).map (·.1) ∧ DpAll K I ((putK us k w).map (·.2)) ((putG vs k y).map (·.2)) := by
  unfold putK putG
  rw [any_fst h]
  split
  · exact mapG_ok hw h t
  · rw [List.map_append, List.map_append, List.map_append, List.map_append, h]
    exact ⟨rfl, dps_app t (.cons hw .nil)⟩
/-- the dict that a name holds: one's own, or one that stays -/
def dkAt (δ : List Sl) (i : Nat) : Option Dk := match δ[i]? with
  | some (.od d) => some d
  | some (.im (.dk d)) => some d
  | _ => none
section
variable {Z : Zz} {W : XK}
theorem dkAt_at {H0 I H : Hp} {σ : L2.St} {δ : List Sl} {c : Int} {i : Nat} {d : Dk} (a : At Z H0 I H σ δ c) (e : dkAt δ i = some d) : ∃ l o, σ[i]? = some (some (.ref l)) ∧ H l = some o ∧ DkOk Z.K I o d ∧ Z.sa ≠ some l := by
  obtain ⟨as, s⟩ := a.sl
  unfold dkAt at e
  split at e
  · rename_i d' q
    cases e
    obtain ⟨l, o, h1, m, h2, h3⟩ := s.ownD q
    obtain ⟨_, _, _, _, n⟩ := s.at m
    exact ⟨l, o, h1, h2, h3, n⟩
  · rename_i d' q
    cases e
    obtain ⟨v, h1, l, o, rfl, h2, h3⟩ := s.get q
    refine ⟨l, o, h1, a.k.ex _ _ h2, h3, fun z => ?_⟩
    obtain ⟨n, _⟩ := a.k.st l z
    rw [n] at h2
    cases h2
  · cases e
/-! {} -/
def dNewK (i : Nat) : DenS := fun δ c => .ok (.nx (δ.set i (.od (.k [])))) c
theorem sns_newK {i : Nat} : SndS Z W (tAsg tDNewK (gName i)) (dNewK i) := by
  intro I0 H0 I H σ δ c g a D h
  show ∀ p, H p = none → D.nx (σ.set i (some (.ref p))) (upd H p (.dK []))
  intro p hp
  obtain ⟨g1, k1⟩ := Gr.own (o := .dK []) a.k hp
  obtain ⟨as, s⟩ := a.sl
  have n : p ∉ as := fun m => by
    obtain ⟨o, e, _⟩ := s.at m
    rw [hp] at e
    cases e
  obtain ⟨bs, s2, _⟩ := (s.mono g1).putD (o := .dK []) (dd := .k []) upd_same (freshI a.k hp) (freshB g hp) (freshS a.k hp) ⟨[], rfl, rfl, .nil⟩ i n
  exact Res.okS (g.trans g1) k1 h _ ⟨bs, s2⟩
/-! d[k], k in d -/
def getK : Dk → Vl → Int → R Vl
  | .k kvs, .d y, c => match keyOf y with
    | some k => match valG kvs k with
      | some x => .ok (.d x) c
      | none => .no
    | none => .no
  | _, _, _ => .no
def dGetD (i : Nat) (dk : Den) : Den := fun δ c => match dkAt δ i with
  | some d => (dk δ c).bind (getK d)
  | none => .no
theorem snd_getD {i : Nat} {tk : TE} {dk : Den} (hk : SndE Z W tk dk) : SndE Z W (tDGet (tVar i) tk) (dGetD i dk) := by
  intro H0 I H σ δ c a Q h
  unfold dGetD at h
  split at h
  · rename_i d e
    obtain ⟨l, o, h1, h2, h3, h4⟩ := dkAt_at a e
    refine ⟨.ref l, h1, ?_⟩
    refine hk _ _ _ _ _ _ a _ (Res.imp (Res.bind h) fun y c2 I2 H2 g2 k2 q u hu => ?_)
    unfold getK at q
    split at q
    · rename_i kvs y
      split at q
      · rename_i k e2
        obtain ⟨us, rfl, m1, m2⟩ := h3
        have hv : u = kV k := keyOf_dp e2 hu
        rcases valG_ok (k := k) m1 (dps_grows g2.ii _ _ m2) with ⟨n1, n2⟩ | ⟨v, x, n1, n2, n3⟩
        · rw [n2] at q; exact q.elim
        · rw [n2] at q
          exact ⟨l, v, rfl, .inl ⟨us, k, .inl (g2.hh _ _ h4 h2), hv, n1.symm⟩, Res.ok k2 q _ n3⟩
      · exact q.elim
    · exact q.elim
  · exact h.elim
def inK (neg : Bool) : Dk → Vl → Int → R Vl
  | .k kvs, .d y, c => match keyOf y with
    | some k => .ok (.d (.bool (xor neg (valG kvs k).isSome))) c
    | none => .no
  | _, _, _ => .no
def dInD (neg : Bool) (i : Nat) (dk : Den) : Den := fun δ c => match dkAt δ i with
  | some d => (dk δ c).bind (inK neg d)
  | none => .no
theorem in_core {i : Nat} {neg : Bool} {tk : TE} {dk : Den} (hk : SndE Z W tk dk) : SndE Z W (fun σ H Q => tk σ H fun y H1 => tVar i σ H1 fun x H2 => ∃ a o, x = .ref a ∧ DGet H2 a y o ∧ Q (.bl (xor neg o.isSome)) H2) (dInD neg i dk) := by
  intro H0 I H σ δ c a Q h
  unfold dInD at h
  split at h
  · rename_i d e
    obtain ⟨l, o, h1, h2, h3, h4⟩ := dkAt_at a e
    refine hk _ _ _ _ _ _ a _ (Res.imp (Res.bind h) fun y c2 I2 H2 g2 k2 q u hu => ?_)
    unfold inK at q
    split at q
    · rename_i kvs y
      split at q
      · rename_i k e2
        obtain ⟨us, rfl, m1, m2⟩ := h3
        have hv : u = kV k := keyOf_dp e2 hu
        have same : (valV us k).isSome = (valG kvs k).isSome := by
          rcases valG_ok (k := k) m1 m2 with ⟨n1, n2⟩ | ⟨v, x, n1, n2, _⟩
          · rw [n1, n2]; rfl
          · rw [n1, n2]; rfl
        refine ⟨.ref l, h1, l, valV us k, rfl, .inl ⟨us, k, .inl (g2.hh _ _ h4 h2), hv, rfl⟩, ?_⟩
        rw [same]
        exact Res.ok k2 q _ (.bl _)
      · exact q.elim
    · exact q.elim
  · exact h.elim
theorem snd_inD {i : Nat} {tk : TE} {dk : Den} (hk : SndE Z W tk dk) : SndE Z W (tDIn tk (tVar i)) (dInD false i dk) := by
  intro H0 I H σ δ c a Q h
  have r := in_core (neg := false) hk H0 I H σ δ c a Q h
  simp only [Bool.false_xor] at r
  exact r
theorem snd_ninD {i : Nat} {tk : TE} {dk : Den} (hk : SndE Z W tk dk) : SndE Z W (tDNotIn tk (tVar i)) (dInD true i dk) := by
  intro H0 I H σ δ c a Q h
  have r := in_core (neg := true) hk H0 I H σ δ c a Q h
  simp only [Bool.true_xor] at r
  exact r
/-! d[k] = x -/
def putK1 (i : Nat) (δ : List Sl) (x : PyData) : Vl → Int → R Out
  | .d y, c => match δ[i]?, keyOf y with
    | some (.od (.k kvs)), some k => if kvs.length < 16777216 then .ok (.nx (δ.set i (.od (.k (putG kvs k x))))) c else .no
    | _, _ => .no
  | _, _ => .no
def putK2 (i : Nat) (dk : Den) (δ : List Sl) : Vl → Int → R Out
  | .d x, c => match δ[i]? with
    | some (.od _) => (dk δ c).bind (putK1 i δ x)
    | _ => .no
  | _, _ => .no
def dPutD (i : Nat) (dk dv : Den) : DenS := fun δ c => (dv δ c).bind (putK2 i dk δ)
theorem sns_putD {i : Nat} {tk tv : TE} {dk dv : Den} (hk : SndE Z W tk dk) (hv : SndE Z W tv dv) : SndS Z W (sDPut (tVar i) tk tv) (dPutD i dk dv) := by
  intro I0 H0 I H σ δ c g a D h
  refine hv _ _ _ _ _ _ a _ (Res.imp (Res.bindS g h) fun x c1 I1 H1 g1 k1 q v hx => ?_)
  obtain ⟨q1, q2⟩ := q
  unfold putK2 at q2
  split at q2
  · rename_i x
    split at q2
    · rename_i d e
      have a1 := a.go g1 k1
      obtain ⟨as, s⟩ := a1.sl
      obtain ⟨l, o, h1, m, h2, h3⟩ := s.ownD e
      obtain ⟨_, _, n1, n0, n2⟩ := s.at m
      refine ⟨.ref l, h1, ?_⟩
      refine hk _ _ _ _ _ _ a1 _ (Res.imp (Res.bindS q1 q2) fun y c2 I2 H2 g2 k2 q u hu => ?_)
      obtain ⟨q3, q4⟩ := q
      unfold putK1 at q4
      split at q4
      · split at q4
        · rename_i kvs k e1 e2
          rw [e] at e1
          cases e1
          split at q4
          · rename_i few
            obtain ⟨us, rfl, m1, m2⟩ := h3
            have hn : I2 l = none := g2.fr l (by rw [h2]; exact Option.some_ne_none _) n1
            have hku : u = kV k := keyOf_dp e2 hu
            have hx2 : Dp Z.K I2 v x := dp_grows g2.ii _ _ hx
            obtain ⟨r1, r2⟩ := putG_ok (k := k) hx2 m1 (dps_grows g2.ii _ _ m2)
            obtain ⟨g3, k3⟩ := own_step (o := .dK (putK us k v)) q3 k2 n0 hn n2
            have len : us.length = kvs.length := by
              have z := congrArg List.length m1
              rwa [List.length_map, List.length_map] at z
            refine ⟨l, _, rfl, .inl ⟨us, k, g2.hh _ _ n2 h2, hku, by rw [len, sizeLine_eq]; exact few, rfl⟩, ?_⟩
            exact Res.okS g3 k3 q4 _ ⟨as, (s.mono g2).changeD (ob := .dK (putK us k v)) (dd := .k (putG kvs k x)) ⟨_, rfl, r1, r2⟩ e h1⟩
          · exact q4.elim
        · exact q4.elim
      · exact q4.elim
    · exact q2.elim
  · exact q2.elim
end
end Dn
namespace Dn
open PySem PySem.Spec PyProof.Rows L2
open Dn.Enc (enc)
/-! dict([(k, v), ..]), keys ints and texts -/
def pairsOf : List PyData → Option (List (L2.Key × PyData))
  | [] => some []
  | .tuple [k, v] :: xs => match keyOf k, pairsOf xs with
    | some k, some kvs => some ((k, v) :: kvs)
    | _, _ => none
  | _ :: _ => none
def mergeG {β : Type} (kvs : List (L2.Key × β)) : List (L2.Key × β) := kvs.foldl (fun acc kv => putG acc kv.1 kv.2) []
theorem pairs_dp {K : PySem.W.Frag} {I : Hp} : ∀ {xs : List PyData} {vs : List V} {kvs : List (L2.Key × PyData)}, DpAll K I vs xs → pairsOf xs = some kvs →
    ∃ (ps : List Addr) (us : List (L2.Key × V)), vs = ps.map V.ref ∧ Paired (fun p kv => SqT K I p [kV kv.1, kv.2]) ps us ∧ us.map (·.1) = kvs.map (·.1) ∧ DpAll K I (us.map (·.2)) (kvs.map (·.2))
  | [], vs, kvs, h, e => by
    cases h
    cases e
    exact ⟨[], [], rfl, .nil, rfl, .nil⟩
  | x :: xs, vs, kvs, h, e => by
    cases h with
    | cons hx hxs =>
      unfold pairsOf at e
      split at e
      · rename_i q
        cases q
      · rename_i k v ys q
        cases q
        split at e
        · rename_i kk kvs' e1 e2
          cases e
          obtain ⟨ps, us, r1, r2, r3, r4⟩ := pairs_dp hxs e2
          cases hx with
          | tup s t =>
            cases t with
            | cons a t => cases t with
              | cons b t =>
                cases t
                cases keyOf_dp e1 a
                exact ⟨_ :: ps, (kk, _) :: us, by rw [List.map_cons, r1], .cons s r2, by rw [List.map_cons, List.map_cons, r3], .cons b r4⟩
        · cases e
      · cases e
theorem merge_ok {K : PySem.W.Frag} {I : Hp} : ∀ {us : List (L2.Key × V)} {kvs : List (L2.Key × PyData)} {as : List (L2.Key × V)} {bs : List (L2.Key × PyData)}, us.map (·.1) = kvs.map (·.1) → DpAll K I (us.map (·.2)) (kvs.map (·.2)) →
    as.map (·.1) = bs.map (·.1) → DpAll K I (as.map (·.2)) (bs.map (·.2)) →
    (us.foldl (fun acc kv => putK acc kv.1 kv.2) as).map (·.1) = (kvs.foldl (fun acc kv => putG acc kv.1 kv.2) bs).map (·.1) ∧ DpAll K I ((us.foldl (fun acc kv => putK acc kv.1 kv.2) as).map (·.2)) ((kvs.foldl (fun acc kv => putG acc kv.1 kv.2) bs).map (·.2))
  | [], [], _, _, _, _, h, t => ⟨h, t⟩
  | [], _ :: _, _, _, h, _, _, _ => by cases h
  | _ :: _, [], _, _, h, _, _, _ => by cases h
  | u :: us, v :: kvs, as, bs, h, t, h', t' => by
    rw [List.map_cons, List.map_cons] at h t
    injection h with h1 h2
    cases t with
    | cons a t =>
      rw [List.foldl_cons, List.foldl_cons, h1]
      obtain ⟨r1, r2⟩ := putG_ok (k := v.1) a h' t'
      exact merge_ok h2 t r1 r2
section
variable {Z : Zz} {W : XK}
/-- a new thing kept for good -/
theorem keepO {I H : Hp} {c : Int} (k : Ok Z I H c) {p : Addr} {o : HO} (hp : H p = none) : Gr Z I H (upd I p o) (upd H p o) ∧ Ok Z (upd I p o) (upd H p o) c := by
  have ip := freshI k hp
  have sp := freshS k hp
  obtain ⟨g1, k1⟩ := Gr.own (o := o) k hp
  have gi : Grows I (upd I p o) := fun a u e => by
    rw [upd_ne (fun z => by rw [z, ip] at e; cases e)]
    exact e
  refine ⟨⟨gi, g1.hh, g1.th, fun b e n => ?_⟩, ⟨fun a u e => ?_, fun a e => ?_⟩⟩
  · rw [upd_ne (fun z => e (by rw [z]; exact hp))]
    exact n
  · by_cases z : a = p
    · subst z
      rw [upd_same] at e
      cases e
      exact upd_same
    · rw [upd_ne z] at e
      exact k1.ex a u e
  · obtain ⟨n, q, e1, e2, e3⟩ := k1.st a e
    refine ⟨?_, q, e1, e2, sqL_grows gi e3⟩
    rw [upd_ne (fun z => sp (by rw [← z]; exact e))]
    exact n
def gDictP : List Vl → Int → R Vl
  | [.d (.list xs)], c => match pairsOf xs with
    | some kvs => .ok (.dk (.k (mergeG kvs))) c
    | none => .no
  | _, _ => .no
theorem rc_dictP : SndC Z W (fun xs H Q => ∃ (a : Addr) (ps : List Addr) (kvs : List (L2.Key × V)), xs = [.ref a] ∧ SqL Z.K H a (ps.map V.ref) ∧ Paired (fun p kv => SqT Z.K H p [kV kv.1, kv.2]) ps kvs ∧
    ∀ p, H p = none → Q (.ref p) (upd H p (.dK (mergeK [] kvs)))) gDictP := by
  intro I H xs vs c k hv Q h
  unfold gDictP at h
  split at h
  · split at h
    · rename_i kvs e
      cases hv with
      | cons a b => cases b; cases a with
        | lst s t =>
          obtain ⟨ps, us, rfl, r2, r3, r4⟩ := pairs_dp t e
          refine ⟨_, ps, us, rfl, sqL_grows k.ex s, ?_, fun p hp => ?_⟩
          · clear r3 r4 s t
            induction r2 with
            | nil => exact .nil
            | cons a _ ih => exact .cons (sqT_grows k.ex a) ih
          · obtain ⟨g1, k1⟩ := keepO (o := .dK (mergeK [] us)) k hp
            obtain ⟨m1, m2⟩ := merge_ok (as := []) (bs := []) r3 r4 rfl .nil
            exact h _ _ g1 k1 _ ⟨p, _, rfl, upd_same, _, rfl, m1, dps_grows g1.ii _ _ m2⟩
    · exact h.elim
  · exact h.elim
end
end Dn
namespace Dn
open PySem PySem.Spec PyProof.Rows L2 HT
open Dn.Enc (enc)
/-! t[::-1] of a tuple -/
section
variable {prog : Program} {w : World} {A : Around} {E : Value → Shared → Prop} {s : Shared}
theorem adjust_back (n : Nat) : Builtin.Slice.sliceAdjust none none (-1) (n : Int) = ((n : Int) - 1, -1) := rfl
theorem places_back (n : Nat) : Builtin.Slice.slicePlaces ((n : Int) - 1) (-1) (-1) = n := by
  unfold Builtin.Slice.slicePlaces
  have h1 : ¬ (-1 : Int) > 0 := by decide
  simp only [h1, if_false]
  have e : (-(-1) : Int) = 1 := by decide
  rw [e]
  split <;> omega
theorem applied_back {sl : Addr} {vl vu vs : Value} {n : Nat} {Q : Int × Int × Nat → Shared → Prop} (hs : s.heap.IsSliceOf sl vl vu vs) (pl : IsPart vl none) (pu : IsPart vu none) (ps : IsPart vs (some (-1)))
    (h : Q ((n : Int) - 1, -1, n) s) : wpAny (model prog w) A (Builtin.Slice.sliceApplied (.ref sl) (pure (n : Int))) Q E s := by
  obtain ⟨os, hos, hcs, hds⟩ := id hs
  unfold Builtin.Slice.sliceApplied Builtin.Slice.sliceFields
  refine wpAny_bind (wpAny_bind (wpAny_field hos hds (x := vl) rfl (wpAny_bind (wpAny_field hos hds (x := vu) rfl (wpAny_bind (wpAny_field hos hds (x := vs) rfl (wpAny_pure ?_)))))))
  refine wpAny_bind (slicePart_ ps ?_)
  show wpAny _ _ (if ((-1 : Int) == 0) = true then _ else _) _ _ s
  rw [if_neg (by decide)]
  refine wpAny_bind (slicePart_ pl (wpAny_bind (slicePart_ pu (wpAny_bind (wpAny_pure ?_)))))
  show wpAny _ _ (match Builtin.Slice.sliceAdjust none none (-1) (n : Int) with | (lo, hi) => pure (lo, (-1 : Int), Builtin.Slice.slicePlaces lo hi (-1))) _ _ s
  rw [adjust_back n]
  show wpAny _ _ (pure ((n : Int) - 1, (-1 : Int), Builtin.Slice.slicePlaces ((n : Int) - 1) (-1) (-1))) _ _ s
  rw [places_back]
  exact wpAny_pure h
theorem fmap_congr {α β : Type} {f g : α → Option β} : ∀ (l : List α), (∀ a ∈ l, f a = g a) → l.filterMap f = l.filterMap g
  | [], _ => rfl
  | a :: l, h => by
    rw [List.filterMap_cons, List.filterMap_cons, h a List.mem_cons_self, fmap_congr l fun b m => h b (List.mem_cons_of_mem _ m)]
theorem pick_back (xs : Array Value) : ((List.range xs.size).filterMap fun (k : Nat) => xs[((xs.size : Int) - 1 + (k : Int) * (-1)).toNat]?).toArray = xs.toList.reverse.toArray := by
  have e : (List.range xs.size).filterMap (fun (k : Nat) => xs[((xs.size : Int) - 1 + (k : Int) * (-1)).toNat]?) = ((List.range xs.size).map fun k => xs.size - 1 - k).filterMap (xs[·]?) := by
    rw [List.filterMap_map]
    refine fmap_congr _ fun k hk => ?_
    have := List.mem_range.mp hk
    show xs[((xs.size : Int) - 1 + (k : Int) * (-1)).toNat]? = xs[xs.size - 1 - k]?
    rw [show ((xs.size : Int) - 1 + (k : Int) * (-1)).toNat = xs.size - 1 - k by omega]
  rw [e, PySem.W.krv_range, List.filterMap_reverse, PySem.W.krv_all]
theorem getItem_tuple_back {t sl : Addr} {items : Array Value} {vl vu vs : Value} {Q : Value → Shared → Prop} (ht : IsTup s.heap t items) (hs : s.heap.IsSliceOf sl vl vu vs) (pl : IsPart vl none) (pu : IsPart vu none) (ps : IsPart vs (some (-1)))
    (h : Q (.ref s.heap.objs.size) { s with heap := s.heap.push { cls := .type "tuple", data := .seq items.toList.reverse.toArray } })
    (hsz : items.size ≤ sizeLine) : wpAny (model prog w) A (getItem (.ref t) (.ref sl)) Q E s := by
  have htake : sizeOk (.seq items.toList.reverse.toArray) := by
    show items.toList.reverse.toArray.size ≤ sizeLine
    rw [List.size_toArray, List.length_reverse, Array.length_toList]
    exact hsz
  obtain ⟨os, hos, hcs, hds⟩ := id hs
  have hTs : s.TypeIs (.ref sl) "slice" := ⟨os, hos, hcs⟩
  unfold getItem
  try with_reducible refine wpAny_holding ?_
  first | refine wpAny_bind (wpAny_pure ?_) | skip
  refine wpAny_bind (wpAny_sequenceKey ht.typeIs (by decide) ?_)
  refine wpAny_bind (wpAny_callSpecial?_slot (name := Str.ofString "__getitem__") ht.typeIs PyProof.Rows.slot_tuple_getitem
    (wpAny_call_entry PyProof.Rows.slot_tuple_getitem ht.typeIs entry_tuple_getitem ?_ (args_tuple_getitem _ _)))
  show wpAny _ _ (Builtin.Tuple.tupleItemsOf (.ref t) >>= _) _ _ s
  refine wpAny_bind (tupleItemsOf_ ht ?_)
  refine wpAny_bind (wpAny_typeOf hTs ?_)
  rw [if_pos (by decide)]
  refine wpAny_bind (applied_back hs pl pu ps ?_)
  have hno : ¬ ((((items.size : Int) - 1) == 0 && (-1 : Int) == 1 && items.size == items.size) = true) := by
    intro q
    rw [Bool.and_eq_true, Bool.and_eq_true] at q
    exact absurd (eq_of_beq q.1.2) (by decide)
  show wpAny _ _ (if (((items.size : Int) - 1) == 0 && (-1 : Int) == 1 && items.size == items.size) = true then _ else _) _ _ s
  rw [if_neg hno, pick_back]
  first
    | exact wpAny_bind (m := Builtin.Tuple.tupleExact _) (wpAny_newObj_type (wpAny_pure ⟨_, rfl, wpAny_pure h⟩) htake)
    | exact wpAny_bind (m := Builtin.Tuple.tupleExact _) (wpAny_newObj_type (wpAny_bind (wpAny_pure (wpAny_pure ⟨_, rfl, wpAny_pure h⟩))) htake)
    | exact wpAny_bind (wpAny_bind (m := Builtin.Tuple.tupleExact _) (wpAny_newObj_type (wpAny_pure (wpAny_pure ⟨_, rfl, wpAny_pure h⟩)) htake))
    | exact wpAny_bind (wpAny_bind (m := Builtin.Tuple.tupleExact _) (wpAny_newObj_type (wpAny_pure ⟨_, rfl, wpAny_pure h⟩) htake))
end
def tRevT (K : PySem.W.Frag) (te : TE) : TE := fun σ H Q => te σ H fun x H1 => ∃ a xs, x = .ref a ∧ SqT K H1 a xs ∧ ∀ p, H1 p = none → Q (.ref p) (upd H1 p (.tup xs.reverse))
theorem pe_revT {X : Cx} {K : PySem.W.Frag} {e : Expr} {te : TE} {k : Nat} {p1 p2 p3 pos : Pos} (hK : X.K = K) (he : PE X e te) : PE X (.Subscript e (.Slice none none (some (.UnaryOp .USub (.Constant (.int 1) k p1) p2)) p3) pos) (tRevT K te) := by
  subst hK
  refine ⟨fun pins s σ H Q I h => ?_⟩
  refine Subscript_ (thn (he.run pins s σ H _ I h) fun v s1 ⟨x, H1, I1, r1, q1⟩ => ?_)
  obtain ⟨a, xs, ex, hx, q⟩ := q1
  subst ex
  cases r1
  have hst : PO X (some (.UnaryOp .USub (.Constant (.int 1) k p1) p2)) (tPart (tUn (rU fun i => .int (-i)) (tC (.int 1)))) := po_some (pe_un un_neg pe_int)
  refine wpAny_Slice (thn (po_none.run pins s1 σ H1 (fun o H2 => o = none ∧ H2 = H1) I1 ⟨rfl, rfl⟩) fun vl s2 ⟨l, H2, I2, pl, el, e2⟩ => ?_)
  subst el e2
  refine thn (po_none.run pins s2 σ H2 (fun o H3 => o = none ∧ H3 = H2) I2 ⟨rfl, rfl⟩) fun vu s3 ⟨u, H3, I3, pu, eu, e3⟩ => ?_
  subst eu e3
  refine thn (hst.run pins s3 σ H3 (fun o H4 => o = some (-1) ∧ H4 = H3) I3 ⟨1, rfl, -1, rfl, rfl, rfl⟩) fun vs s4 ⟨o, H4, I4, ps, eo, e4⟩ => ?_
  subst eo e4
  have I5 : Inv X pins σ H4 { s4 with heap := s4.heap.push { cls := .type "slice", data := .fields #[vl, vu, vs] } } := I4.kept (t' := s4.toks) fun b ob q => Heap.get?_push_of_some _ q
  obtain ⟨its, r, ht, hz⟩ := I5.tuple hx
  have hlen := r.length
  show wpAny (model X.prog X.w) X.A (subscriptTail e (.Slice none none (some (.UnaryOp .USub (.Constant (.int 1) k p1) p2)) p3) (.ref a) (.ref s4.heap.objs.size)) (EP X pins σ Q) X.xe { s4 with heap := s4.heap.push { cls := .type "slice", data := .fields #[vl, vu, vs] } }
  refine tail_any (ops := [.ref a, .ref s4.heap.objs.size]) ht.typeIs (PyProof.Rows.slot_tuple_getitem.lookup) ?_ (by with_unfolding_all rfl)
  refine getItem_tuple_back ht (Heap.IsSliceOf.new _ vl vu vs) pl pu ps ?_ (by rw [List.size_toArray]; omega)
  refine ⟨.ref _, _, I5.laid (t' := s4.toks) (o := .tup xs.reverse) (fun b ob q => Heap.get?_push_of_some _ q) (Nat.le_refl _) ?_, rfl, q _ (I5.hok.fresh (Nat.le_refl _))⟩
  exact ⟨by rw [List.length_reverse]; exact hz, _, r.reverse, _, Heap.get?_push_size _ rfl, rfl, 0, by simp⟩
def dRevT (da : Den) : Den := fun δ c => (da δ c).bind fun x c => match x with
  | .d (.tuple xs) => .ok (.d (.tuple xs.reverse)) c
  | _ => .no
section
variable {Z : Zz} {W : XK}
theorem snd_revT {ta : TE} {da : Den} (ha : SndE Z W ta da) : SndE Z W (tRevT Z.K ta) (dRevT da) := by
  intro H0 I H σ δ c a Q h
  refine ha _ _ _ _ _ _ a _ (Res.imp (Res.bind h) fun x c1 I1 H1 g1 k1 h1 v hv => ?_)
  split at h1
  · cases hv with
    | tup s t => exact ⟨_, _, rfl, sqT_grows k1.ex s, newT k1 (dps_rev t) h1⟩
  · exact h1.elim
/-! range with a step -/
def rngc (lo k : Int) (n : Nat) : List Vl := (List.range n).map fun (i : Nat) => Vl.d (.int (lo + (i : Int) * k))
def bR3 (i j k : Int) : Bool := decide (k ≠ 0 ∧ k.natAbs < 1073741824 ∧ Builtin.Range.small i j k = true ∧ 0 ≤ Builtin.Range.rangeSize i j k)
theorem walks_rngc {I : Hp} {lo k : Int} {n : Nat} : Walks Z (Itc lo k n) I (rngc lo k n) := by
  refine ⟨fun i H _ hi => (show i < n by simpa [rngc] using hi), fun H _ => (show n ≤ _ by simp [rngc]), ?_⟩
  rintro i H v H' x Ic c e kk ex ⟨rfl, rfl⟩
  have hi : i < n := by
    have z := (List.getElem?_eq_some_iff.mp ex).1
    simpa [rngc] using z
  unfold rngc at ex
  rw [List.getElem?_map, List.getElem?_range hi] at ex
  cases ex
  exact ⟨Ic, Gr.refl, kk, .int _⟩
def r3K (xs : List Vl) (c : Int) : R (List Vl) := match xs with
  | [.d (.int i), .d (.int j), .d (.int k)] => if bR3 i j k = true then .ok (rngc i k (Builtin.Range.rangeSize i j k).toNat) c else .no
  | _ => .no
def dI3 (da : DenA) : DenI := fun δ c => (da δ c).bind r3K
theorem snd_i3 {ta : TA} {da : DenA} (h : SndA Z W ta da) : SndI Z W (iRng3 ta) (dI3 da) := by
  intro H0 I H σ δ c a Q r
  refine h _ _ _ _ _ _ a _ (Res.imp (Res.bind r) fun x c1 I1 H1 g1 k1 h1 v hv => ?_)
  unfold r3K at h1
  split at h1
  · split at h1
    · rename_i i j k b
      obtain ⟨b1, b2, b3, b4⟩ := of_decide_eq_true b
      cases hv with
      | cons q t => cases t with
        | cons q2 t2 => cases t2 with
          | cons q3 t3 => cases t3; cases q; cases q2; cases q3; exact ⟨i, j, k, _, rfl, ⟨b1, b2, b3, by rw [Int.toNat_of_nonneg b4]⟩, Res.ok k1 h1 _ walks_rngc⟩
    · exact h1.elim
  · exact h1.elim
/-! a walk over whatever is there: a list, a tuple, a text -/
def rSeqI (K : PySem.W.Frag) : V → Hp → (It → Hp → Prop) → Prop := fun v H R => (∃ a, v = .ref a ∧ (∃ xs, SqL K H a xs) ∧ R (Itl K a) H) ∨ (∃ a, v = .ref a ∧ (∃ xs, SqT K H a xs) ∧ R (Itt K a) H) ∨ ∃ x, v = .str x ∧ R (Its x) H
def iSeq (K : PySem.W.Frag) (te : TE) : TI := fun σ H R => te σ H fun v H1 => rSeqI K v H1 R
theorem pi_seq {X : Cx} {K : PySem.W.Frag} {tg e : Expr} {te : TE} (hK : X.K = K) (he : PE X e te) : PI X tg e (iSeq K te) := by
  subst hK
  refine ⟨fun pins s σ H R I h => ?_⟩
  refine thn (he.run pins s σ H _ I h) fun v s1 ⟨y, H1, I1, r1, q1⟩ => ?_
  rcases q1 with ⟨a, e, ⟨xs, hq⟩, q⟩ | ⟨a, e, ⟨xs, hq⟩, q⟩ | ⟨x, e, q⟩
  · subst e
    cases r1
    obtain ⟨its, rv, p, hz⟩ := I1.list hq
    refine wpAny_pyIter_list p.isList ?_
    refine ⟨s1.heap.objs.size, [s1.heap.objs.size], _, _, H1, rfl, I1.kept (t' := s1.toks) fun b o e => Heap.get?_push_of_some _ e, turn_list a _, ⟨_, Heap.get?_push_size _ rfl, rfl, rfl⟩, fun b hb => ?_, q⟩
    have e : b = s1.heap.objs.size := by simpa using hb
    subst e
    exact I1.fpOk (Nat.le_refl _) (I1.hok.fresh (Nat.le_refl _))
  · subst e
    cases r1
    obtain ⟨its, rv, p, hz⟩ := I1.tuple hq
    refine wpAny_pyIter_tuple (show s1.heap.IsTuple a its.toArray from p) ?_
    refine ⟨s1.heap.objs.size, [s1.heap.objs.size], _, _, H1, rfl, I1.kept (t' := s1.toks) fun b o e => Heap.get?_push_of_some _ e, turn_tuple a _, ⟨_, Heap.get?_push_size _ rfl, rfl, rfl⟩, fun b hb => ?_, q⟩
    have e : b = s1.heap.objs.size := by simpa using hb
    subst e
    exact I1.fpOk (Nat.le_refl _) (I1.hok.fresh (Nat.le_refl _))
  · subst e
    obtain ⟨t, rfl⟩ := r1
    cases ha : x.cps.all (· < 128)
    · exact wpAny_pyIter_wide ha (pi_one (tk := s1.toks) I1 _ (turn_str _ x t "str_iterator" (.inr rfl)) ⟨_, Heap.get?_push_size _ rfl, rfl, rfl⟩ q)
    · exact wpAny_pyIter_ascii ha (pi_one (tk := s1.toks) I1 _ (turn_str _ x t "str_ascii_iterator" (.inl rfl)) ⟨_, Heap.get?_push_size _ rfl, rfl, rfl⟩ q)
def signs (x : Str) : List Str := x.cps.toList.map fun c => ⟨#[c]⟩
def seqK : Vl → Int → R (List Vl)
  | .d (.list xs), c => .ok (xs.map Vl.d) c
  | .d (.tuple xs), c => .ok (xs.map Vl.d) c
  | .d (.str x), c => .ok ((signs x).map fun y => Vl.d (.str y)) c
  | _, _ => .no
def dIS (de : Den) : DenI := fun δ c => (de δ c).bind seqK
theorem walks_str {I : Hp} {x : Str} : Walks Z (Its x) I ((signs x).map fun y => Vl.d (.str y)) := by
  refine ⟨fun i H _ hi => (show i < x.cps.size by simpa [signs] using hi), fun H _ => (show x.cps.size ≤ _ by simp [signs]), ?_⟩
  rintro i H v H' y Ic c e kk ex ⟨rfl, cp, e1, rfl⟩
  rw [List.getElem?_map] at ex
  unfold signs at ex
  rw [List.getElem?_map, Array.getElem?_toList, e1] at ex
  cases ex
  exact ⟨Ic, Gr.refl, kk, .str _⟩
theorem snd_iS {te : TE} {de : Den} (h : SndE Z W te de) : SndI Z W (iSeq Z.K te) (dIS de) := by
  intro H0 I H σ δ c a Q r
  refine h _ _ _ _ _ _ a _ (Res.imp (Res.bind r) fun x c1 I1 H1 g1 k1 h1 v hv => ?_)
  unfold seqK at h1
  split at h1
  · cases hv with
    | lst s t => exact .inl ⟨_, rfl, ⟨_, sqL_grows k1.ex s⟩, Res.ok k1 h1 _ (walks_list s t)⟩
  · cases hv with
    | tup s t => exact .inr (.inl ⟨_, rfl, ⟨_, sqT_grows k1.ex s⟩, Res.ok k1 h1 _ (walks_tup s t)⟩)
  · cases hv
    exact .inr (.inr ⟨_, rfl, Res.ok k1 h1 _ walks_str⟩)
  · exact h1.elim
end
/-! typed -/
def M.lift (g : Int → R Vl) : M PyData := fun c => match g c with
  | .ok (.d x) c => .ok x c
  | .ok _ _ => .no
  | .ex k p c => .ex k p c
  | .no => .no
theorem k_lift {g : Int → R Vl} : RK (M.lift g) (fun z => Vl.d (enc z)) g := fun c => by
  unfold M.lift
  cases e : g c with
  | no => trivial
  | ex k p c => exact rfl
  | ok v c =>
    cases v with
    | d x => exact rfl
    | st => trivial
    | op _ => trivial
    | dk _ => trivial
theorem map_id_enc (xs : List PyData) : xs.map enc = xs := by
  show xs.map (fun d => d) = xs
  exact List.map_id _
def M.liftL (g : Int → R (List PyData)) : M (List PyData) := g
theorem k_liftL {g : Int → R (List PyData)} : RK (M.liftL g) (List.map enc) g := fun c => by
  unfold M.liftL
  cases e : g c with
  | no => trivial
  | ex k p c => exact rfl
  | ok v c => show R.ok v c = .ok (v.map enc) c; rw [map_id_enc]
def M.liftT (g : Int → R Bool) : M Bool := g
theorem k_liftT {g : Int → R Bool} : RK (M.liftT g) (fun y => y) g := fun c => by
  unfold M.liftT
  cases e : g c with
  | no => trivial
  | ex k p c => exact rfl
  | ok v c => exact rfl
section
variable {α β γ κ τ σ : Type} {δ : List Sl} {m : M τ} {o : τ → κ}
theorem b_revT {da : Den} {K : Vl → Int → R κ} (h : BK (da δ) (fun x c => (match x with | .d (.tuple xs) => R.ok (Vl.d (.tuple xs.reverse)) c | _ => .no).bind K) m o) : BK (dRevT da δ) K m o := by
  intro c
  show Rf (m c) o ((dRevT da δ c).bind K)
  unfold dRevT
  rw [R.bind_assoc]
  exact h c
theorem k_revT [Enc α] {xs : Tp α} : PV (fun c => match Vl.d (enc xs) with | .d (.tuple xs) => R.ok (Vl.d (.tuple xs.reverse)) c | _ => .no) (.d (enc (Tp.mk xs.l.reverse))) := fun c => by
  show R.ok (Vl.d (.tuple (xs.l.map enc).reverse)) c = R.ok (Vl.d (.tuple (xs.l.reverse.map enc))) c
  rw [List.map_reverse]
def rngcL (lo k : Int) (n : Nat) : List Int := (List.range n).map fun (i : Nat) => lo + (i : Int) * k
def rng3M (i j k : Int) : M (List Int) := if bR3 i j k = true then M.ret (rngcL i k (Builtin.Range.rangeSize i j k).toNat) else M.no
theorem b_r3 {da : DenA} {K : List Vl → Int → R κ} (h : BK (da δ) (fun xs c => (r3K xs c).bind K) m o) : BK (dI3 da δ) K m o := by
  intro c
  show Rf (m c) o ((dI3 da δ c).bind K)
  unfold dI3
  rw [R.bind_assoc]
  exact h c
theorem k_r3 {i j k : Int} : RK (rng3M i j k) vls (r3K [.d (.int i), .d (.int j), .d (.int k)]) := fun c => by
  show Rf (rng3M i j k c) vls (if bR3 i j k = true then R.ok (rngc i k (Builtin.Range.rangeSize i j k).toNat) c else .no)
  unfold rng3M
  by_cases h : bR3 i j k = true
  · rw [if_pos h, if_pos h]
    show R.ok _ c = R.ok _ c
    congr 1
    unfold rngc vls rngcL
    rw [List.map_map]
    rfl
  · rw [if_neg h]; trivial
def seqM (x : PyData) : M (List PyData) := match x with
  | .list xs => M.ret xs
  | .tuple xs => M.ret xs
  | .str x => M.ret ((signs x).map .str)
  | _ => M.no
theorem b_iS {da : Den} {K : List Vl → Int → R κ} (h : BK (da δ) (fun x c => (seqK x c).bind K) m o) : BK (dIS da δ) K m o := by
  intro c
  show Rf (m c) o ((dIS da δ c).bind K)
  unfold dIS
  rw [R.bind_assoc]
  exact h c
theorem k_iS {x : PyData} : RK (seqM x) vls (seqK (.d x)) := fun c => by
  unfold seqM
  cases x with
  | list xs => exact rfl
  | tuple xs => exact rfl
  | str x =>
    show R.ok _ c = R.ok _ c
    congr 1
    unfold vls
    rw [List.map_map]
    rfl
  | none => trivial
  | bool b => trivial
  | int i => trivial
  | dict k => trivial
theorem k_iSS {x : Str} : PV (seqK (.d (.str x))) (vls (signs x)) := fun _ => rfl
theorem k_iSL [Enc α] {xs : List α} : PV (seqK (.d (enc xs))) (vls xs) := fun c => by
  show R.ok ((xs.map enc).map Vl.d) c = _
  rw [List.map_map]; rfl
theorem k_iST [Enc α] {xs : Tp α} : PV (seqK (.d (enc xs))) (vls xs.l) := fun c => by
  show R.ok ((xs.l.map enc).map Vl.d) c = _
  rw [List.map_map]; rfl
end
/-! != of texts -/
def gNeS : Vl → Vl → Int → R Vl
  | .d (.str a), .d (.str b), c => .ok (.d (.bool (!decide (a = b)))) c
  | _, _, _ => .no
theorem rr_neS {Z : Zz} {W : XK} : SndR Z W rNe gNeS := by
  intro I H x y vx vy c k hx hy Q h
  unfold gNeS at h
  split at h
  · cases hx
    cases hy
    rename_i a b
    refine ⟨rfl, ?_⟩
    have e : decide (V.str a = V.str b) = decide (a = b) := by
      by_cases q : a = b
      · rw [decide_eq_true q, decide_eq_true (congrArg V.str q)]
      · rw [decide_eq_false q, decide_eq_false fun z => q (by injection z)]
    rw [e]
    exact Res.ok k h _ (.bl _)
  · exact h.elim
theorem k_neS {x y : Str} : PV (gNeS (.d (.str x)) (.d (.str y))) (.d (.bool (!decide (x = y)))) := fun _ => rfl
/-! decoded -/
section
variable {α β : Type}
theorem r_decP [Enc α] {f : Int → R Vl} {x : PyData} (h : PV f (.d x)) : RK (M.dec x : M α) (fun a => Vl.d (enc a)) f := fun c => by
  unfold M.dec
  rw [h c]
  by_cases q : ∃ a : α, enc a = x
  · rw [dif_pos q]
    show R.ok (Vl.d x) c = R.ok (Vl.d (enc q.choose)) c
    rw [q.choose_spec]
  · rw [dif_neg q]; trivial
noncomputable def M.asE [Enc α] [Enc β] (m : M α) : M β := M.bind m fun a => M.dec (enc a)
theorem r_asE [Enc α] [Enc β] {m : M α} {f : Int → R Vl} (h : RK m (fun a => Vl.d (enc a)) f) : RK (M.asE m : M β) (fun a => Vl.d (enc a)) f := fun c => by
  have h := h c
  show Rf ((m c).bind fun a => (M.dec (enc a) : M β)) _ (f c)
  cases e : m c with
  | no => trivial
  | ex k p c => rw [e] at h; exact h
  | ok a c1 =>
    rw [e] at h
    have r := r_decP (α := β) (f := fun c => .ok (.d (enc a)) c) (x := enc a) (fun _ => rfl) c1
    rw [show f c = _ from h]
    exact r
theorem M.asE_ret [Enc α] [Enc β] [Inj β] {m : M α} {a : α} {b : β} {c c1 : Int} (h : m c = .ok a c1) (e : enc a = enc b) : (M.asE m : M β) c = .ok b c1 := by
  show (m c).bind _ = _
  rw [h]
  show M.dec (enc a) c1 = _
  rw [e, M.dec_enc]
  rfl
end
/-! repr of a list or a tuple -/
def gReprA : List Vl → Int → R Vl
  | [.d (.list xs)], c => gRepr [.d (.list xs)] c
  | [.d (.tuple xs)], c => if PyData.showable (.tuple xs) = true ∧ PyData.depth (.tuple xs) ≤ 60 ∧ (PyData.shown (.tuple xs)).length ≤ 16777216 then .ok (.d (.str (PyData.shown (.tuple xs)))) c else .no
  | _, _ => .no
theorem rc_reprA {Z : Zz} {W : XK} : SndC Z W (rRepr Z.K) gReprA := by
  intro I H xs vs c k hv Q h
  unfold gReprA at h
  split at h
  · exact rc_repr I H _ vs c k hv Q h
  · split at h
    · rename_i xs e
      cases hv with
      | cons a b =>
        cases b
        have a2 := dp_grows k.ex _ _ a
        cases a with
        | tup s t => exact ⟨_, _, rfl, a2, e.1, e.2.1, by rw [sizeLine_eq]; exact e.2.2, Res.ok k h _ (.str _)⟩
    · exact h.elim
  · exact h.elim
theorem Fits.reprT {xs : List PyData} (f : Fits (.tuple xs)) (c : Int) : M.lift (gReprA [.d (.tuple xs)]) c = .ok (.str (PyData.shown (.tuple xs))) c := by
  obtain ⟨a, b, s⟩ := tame_all _ f.t
  have hd : (PyData.tuple xs).depth ≤ 50 := f.p
  have hl : PyData.layable0 (.tuple xs) = true := by
    have hw := f.w
    unfold PyData.layable0
    rw [a, Bool.true_and, Bool.and_eq_true, decide_eq_true_eq, decide_eq_true_eq]
    have e : (2 : Nat) ^ 20 = 1048576 := by decide
    exact ⟨Nat.le_trans hd (by decide), by omega⟩
  have hs := PyData.shown_le_of_layable0 hl b
  have g : gReprA [.d (.tuple xs)] c = .ok (.d (.str (PyData.shown (.tuple xs)))) c := by
    show (if _ then _ else _) = _
    rw [if_pos ⟨s, Nat.le_trans hd (by decide), Nat.le_trans hs (by decide)⟩]
  unfold M.lift
  rw [g]
/-! a list so many times -/
section
variable {α β γ κ τ σ : Type} {δ : List Sl} {m : M τ} {o : τ → κ}
@[irreducible] def repK (xs : List PyData) : Vl → Int → R (List PyData)
  | .d (.int k), c => if bR k = true ∧ xs.length * k.toNat ≤ 16777216 then .ok (List.replicate k.toNat xs).flatten c else .no
  | _, _ => .no
theorem b_repL2 {da : DenL} {db : Den} {K : List PyData → Int → R κ} (h : BK (da δ) (fun xs c => (db δ c).bind fun y c => (repK xs y c).bind K) m o) : BK (dRepL da db δ) K m o := by
  intro c
  have e : dRepL da db δ = fun c => (da δ c).bind fun xs c => (db δ c).bind (repK xs) := by
    funext c
    unfold dRepL
    congr 1
    funext xs c
    congr 1
    funext y c
    unfold repK
    cases y with
    | d x => cases x <;> rfl
    | _ => rfl
  show Rf (m c) o ((dRepL da db δ c).bind K)
  rw [e]
  simp only [R.bind_assoc]
  exact h c
@[irreducible] def repN {α : Type} (xs : List α) (k : Int) : M (List α) := repM xs k
theorem repN_ok {α : Type} {xs : List α} {k : Int} (h0 : -(2 ^ 62) ≤ k) (h1 : k < 2 ^ 62) (h : xs.length * k.toNat ≤ 16777216) : repN xs k = M.ret (List.replicate k.toNat xs).flatten := by
  unfold repN
  exact if_pos ⟨bR_ok h0 h1, h⟩
theorem k_repL2 [Enc α] {xs : List α} {k : Int} : RK (repN xs k) (List.map enc) (repK (xs.map enc) (.d (.int k))) := by
  unfold repK repN
  exact k_repL
end
/-! the handled error told, with the line of a BadForm ahead of the end -/
theorem pe_never {X : Cx} {e : Expr} : PE X e (fun _ _ _ => False) := ⟨fun _ _ _ _ _ _ h => h.elim⟩
theorem err_reads2 {K : PySem.W.Frag} {mg : Str → Option Value} (T : Err5 K mg) (ok : T.Ok) {i : Nat} (hi : i < 4) {a : Addr} {D : Ends} {σ : L2.St} {H : Hp} {dead : TS} (h0 : σ[0]? = some (some (.ref a))) (h1 : 2 < σ.length)
    (want : ∀ l m ys zs, H l = none → (upd H l (.lst ys)) m = none → D.rt (.str (errWord i)) (upd (upd H l (.lst ys)) m (.lst zs))) :
    tSeq (tAsg (tLst (tCons (tIs K (T.at i) a T.a0) (tCons (tIs K (T.at i) a T.a1) (tCons (tIs K (T.at i) a T.a2) (tCons (tIs K (T.at i) a T.a3) (tCons (tIs K (T.at i) a T.a4) tNil)))))) (gName 1))
      (tSeq (tIfS (tTest (tOp rNe (fun σ H Q => tVar 1 σ H fun v H1 => ∃ l ks, v = V.ref l ∧ H1 l = some (HO.lst (List.map V.bl ks)) ∧ Q (V.int (preSum (bitOf ks) ks.length)) H1) (tC (V.int 1)))) (tRet (tC (V.str "odd"))) tNext)
        (tSeq (tAsg (tOp (rIx K) (tLst (tCons (tC (V.str "refused")) (tCons (tC (V.str "large")) (tCons (tC (V.str "missing")) (tCons (tC (V.str "paper")) (tCons (tC (V.str "form")) tNil))))))
          (tBM K "list" (rIndex K) (tVar 1) (tCons (tC (V.bl true)) tNil))) (gName 2))
        (tSeq (tIfS (tTest (tOp rEq (tVar 2) (tC (V.str "form")))) dead tNext) (tRet (tVar 2))))) D σ H := by
  refine isE_reads h0 (ok.it i hi 0 (by decide)) (isE_reads h0 (ok.it i hi 1 (by decide)) (isE_reads h0 (ok.it i hi 2 (by decide)) (isE_reads h0 (ok.it i hi 3 (by decide)) (isE_reads h0 (ok.it i hi 4 (by decide)) ?_))))
  refine ⟨by show 5 ≤ sizeLine; decide, fun l hl => ?_⟩
  have at1 : (σ.set 1 (some (V.ref l)))[1]? = some (some (.ref l)) := List.getElem?_set_self (Nat.lt_of_succ_lt h1)
  have hL : (upd H l (.lst ((errKs i).map V.bl))) l = some (.lst ((errKs i).map V.bl)) := upd_same
  have sum1 : preSum (bitOf (errKs i)) (errKs i).length = 1 := by
    match i, hi with
    | 0, _ => rfl
    | 1, _ => rfl
    | 2, _ => rfl
    | 3, _ => rfl
  refine ⟨.ref l, at1, l, errKs i, rfl, hL, rfl, ?_⟩
  rw [sum1]
  refine ⟨false, rfl, ?_⟩
  refine cast (if_neg Bool.false_ne_true).symm ?_
  refine ⟨by show 5 ≤ sizeLine; decide, fun m hm => ?_⟩
  have nm : m ≠ l := fun z => by
    rw [z] at hm
    cases (show (upd H l (.lst ((errKs i).map V.bl))) l = none from hm).symm.trans upd_same
  have hL2 : (upd (upd H l (.lst ((errKs i).map V.bl))) m (.lst [V.str "refused", V.str "large", V.str "missing", V.str "paper", V.str "form"])) l = some (.lst ((errKs i).map V.bl)) := by
    rw [upd_ne (Ne.symm nm)]
    exact upd_same
  refine ⟨.ref l, at1, .inl ⟨rfl, _, .inl (.inl hL2)⟩, ?_⟩
  refine ⟨l, (errKs i).map V.bl, .bl true, i, .bl true, rfl, rfl, .inl (.inl hL2), rfl, ?_, ?_, rfl, ?_, ?_⟩
  · match i, hi with
    | 0, _ => rfl
    | 1, _ => rfl
    | 2, _ => rfl
    | 3, _ => rfl
  · match i, hi with
    | 0, _ => rfl
    | 1, _ => rfl
    | 2, _ => rfl
    | 3, _ => rfl
  · intro k z lt e
    match i, hi, k, lt with
    | 1, _, 0, _ => cases e; rfl
    | 2, _, 0, _ => cases e; rfl
    | 2, _, 1, _ => cases e; rfl
    | 3, _, 0, _ => cases e; rfl
    | 3, _, 1, _ => cases e; rfl
    | 3, _, 2, _ => cases e; rfl
  · have fin := want l m ((errKs i).map V.bl) [V.str "refused", V.str "large", V.str "missing", V.str "paper", V.str "form"] hl hm
    refine .inl ⟨m, _, (i : Nat), .str (errWord i), rfl, rfl, .inl (.inl upd_same), ?_, ?_⟩
    · match i, hi with
      | 0, _ => rfl
      | 1, _ => rfl
      | 2, _ => rfl
      | 3, _ => rfl
    have at2 : ((σ.set 1 (some (V.ref l))).set 2 (some (V.str (errWord i))))[2]? = some (some (.str (errWord i))) := List.getElem?_set_self (by rw [List.length_set]; exact h1)
    refine ⟨.str (errWord i), at2, ?_⟩
    refine ⟨rfl, ?_⟩
    have eqf : (decide (V.str (errWord i) = V.str "form")) = false := by
      match i, hi with
      | 0, _ => decide
      | 1, _ => decide
      | 2, _ => decide
      | 3, _ => decide
    rw [eqf]
    refine ⟨false, rfl, ?_⟩
    refine cast (if_neg Bool.false_ne_true).symm ?_
    exact ⟨_, at2, fin⟩
end Dn
namespace Dn
open PySem PySem.Spec PyProof.Rows L2
open Dn.Enc (enc)
/-! a text so many times -/
def repS (z : Str) (n : Int) : Str := ⟨(List.replicate n.toNat z.cps.toList).flatten.toArray⟩
theorem foldl_repN (its : List Nat) : ∀ (k : Nat) (acc : List Nat), List.foldl (fun x1 x2 => x1 ++ x2) acc.toArray (List.replicate k its.toArray) = (acc ++ (List.replicate k its).flatten).toArray
  | 0, acc => by simp
  | k + 1, acc => by
    have e : acc.toArray ++ its.toArray = (acc ++ its).toArray := by simp
    have e2 : (acc ++ its) ++ (List.replicate k its).flatten = acc ++ (List.replicate (k + 1) its).flatten := by
      rw [List.replicate_succ, List.flatten_cons, List.append_assoc]
    rw [List.replicate_succ, List.foldl_cons, e, foldl_repN its k (acc ++ its), e2]
theorem repS_fold (z : Str) (n : Int) : (⟨(List.replicate n.toNat z.cps).foldl (· ++ ·) #[]⟩ : Str) = repS z n := by
  unfold repS
  have := foldl_repN z.cps.toList n.toNat []
  rw [List.nil_append, Array.toArray_toList] at this
  rw [← this]
theorem repS_len (z : Str) (n : Int) : (repS z n).length = n.toNat * z.length := by
  show (List.replicate n.toNat z.cps.toList).flatten.toArray.size = _
  rw [List.size_toArray, List.length_flatten, List.map_replicate, List.sum_replicate_nat, Array.length_toList]
  rfl
def rRepS : R2 := fun x y H Q => ∃ z n, x = .str z ∧ y = .int n ∧ -1000000000 ≤ n ∧ n ≤ 1000000000 ∧ n.toNat * z.length ≤ 16777216 ∧ Q (.str (repS z n)) H
theorem op_repS {X : Cx} : OpR X (binaryOp .Mult) rRepS := by
  intro pins s σ H x y v u Q I rx ry h
  obtain ⟨z, n, rfl, rfl, h0, h1, hz, q⟩ := h
  obtain ⟨t, rfl⟩ := rx
  obtain ⟨t', rfl⟩ := ry
  have fin : ∀ (t' : Tok) (tk : Nat), EP X pins σ Q (.str (repS z n) t') { s with toks := tk } := fun t' tk => ⟨.str _, H, I.tok _, ⟨_, rfl⟩, q⟩
  refine PySem.P.mul_str (by rw [decide_eq_false (by omega), decide_eq_false (by omega)]; rfl) (fun hn hc => ?_) (fun hn hc => ?_) ?_
  · have : (z.length : Int) ≤ 16777216 := by
      have : 1 * z.length ≤ n.toNat * z.length := Nat.mul_le_mul_right _ (by omega)
      omega
    have d : 16777216 ≤ ((2 : Int) ^ 63 - 1) / n := (Int.le_ediv_iff_mul_le (by omega)).mpr (by omega)
    omega
  · unfold PySem.Builtin.Str.tooLong
    rw [decide_eq_false_iff_not, Nat.mul_comm, sizeLine_eq]
    omega
  · by_cases hn : n < 1
    · rw [if_pos hn]
      have e : repS z n = Str.empty := by
        unfold repS
        rw [show n.toNat = 0 by omega]
        rfl
      rw [← e]
      exact ⟨by rw [repS_len, show n.toNat = 0 by omega, Nat.zero_mul]; exact Nat.zero_le _, fin _ _⟩
    · rw [if_neg hn]
      by_cases hc : (n == 1 || z.length == 0) = true
      · rw [if_pos hc]
        have e : repS z n = z := by
          unfold repS
          rcases Bool.or_eq_true_iff.mp hc with c | c
          · have c := beq_iff_eq.mp c
            subst c
            show (⟨(List.replicate 1 z.cps.toList).flatten.toArray⟩ : Str) = z
            rw [List.replicate_one, List.flatten_singleton]
          · have c : z.cps.size = 0 := beq_iff_eq.mp c
            have c : z.cps.toList = [] := by rw [← List.length_eq_zero_iff, Array.length_toList]; exact c
            rw [c]
            have : ∀ k : Nat, (List.replicate k ([] : List Nat)).flatten = [] := fun k => by induction k with
              | zero => rfl
              | succ k ih => rw [List.replicate_succ, List.flatten_cons, ih]; rfl
            rw [this]
            cases z with
            | mk a =>
              have : a = #[] := by simpa using c
              subst this
              rfl
        have f := fin t s.toks
        rw [e] at f
        exact f
      · rw [if_neg hc]
        rw [repS_fold]
        exact ⟨by rw [repS_len, sizeLine_eq]; exact hz, fin _ _⟩
section
variable {Z : Zz} {W : XK}
@[irreducible] def gRepS : Vl → Vl → Int → R Vl
  | .d (.str z), .d (.int n), c => if -1000000000 ≤ n ∧ n ≤ 1000000000 ∧ n.toNat * z.length ≤ 16777216 then .ok (.d (.str (repS z n))) c else .no
  | _, _, _ => .no
theorem rr_repS : SndR Z W rRepS gRepS := by
  intro I H x y vx vy c k hx hy Q h
  unfold gRepS at h
  split at h
  · split at h
    · rename_i e
      cases hx
      cases hy
      exact ⟨_, _, rfl, rfl, e.1, e.2.1, e.2.2, Res.ok k h _ (.str _)⟩
    · exact h.elim
  · exact h.elim
def rCatStr : R2 := fun x y H Q => ∃ i j, x = .str i ∧ y = .str j ∧ i.length + j.length ≤ sizeLine ∧ Q (.str (i ++ j)) H
@[irreducible] def gCatS : Vl → Vl → Int → R Vl
  | .d (.str a), .d (.str b), c => if a.length + b.length ≤ 16777216 then .ok (.d (.str (a ++ b))) c else .no
  | _, _, _ => .no
theorem rr_catS : SndR Z W rCatStr gCatS := by
  intro I H x y vx vy c k hx hy Q h
  unfold gCatS at h
  split at h
  · split at h
    · rename_i e
      cases hx
      cases hy
      exact ⟨_, _, rfl, rfl, by rw [sizeLine_eq]; exact e, Res.ok k h _ (.str _)⟩
    · exact h.elim
  · exact h.elim
@[irreducible] def gIxS : Vl → Vl → Int → R Vl
  | .d (.str z), .d (.int i), c => if z.length ≤ 16777216 then match atI z.cps.toList i with
    | some k => .ok (.d (.str ⟨#[k]⟩)) c
    | none => .no else .no
  | _, _, _ => .no
theorem rr_ixS : SndR Z W rIxS gIxS := by
  intro I H x y vx vy c k hx hy Q h
  unfold gIxS at h
  split at h
  · split at h
    · rename_i e
      split at h
      · rename_i kk e2
        cases hx
        cases hy
        exact ⟨_, _, _, rfl, rfl, by rw [sizeLine_eq]; exact e, e2, Res.ok k h _ (.str _)⟩
      · exact h.elim
    · exact h.elim
  · exact h.elim
/-! text slices -/
def slSK (x : Vl) (lo hi : Option Int) (c : Int) : R Vl := match x with
  | .d (.str z) => if z.length ≤ 16777216 then .ok (.d (.str (cutS z lo hi))) c else .no
  | _ => .no
def dSlS (da : Den) (dl dh : DenO) : Den := fun δ c => (da δ c).bind fun x c => (dl δ c).bind fun lo c => (dh δ c).bind fun hi c => slSK x lo hi c
theorem snd_slS {ta : TE} {tl th : TO} {da : Den} {dl dh : DenO} (ha : SndE Z W ta da) (hl : SndO Z W tl dl) (hh : SndO Z W th dh) : SndE Z W (tSl rSlS ta tl th) (dSlS da dl dh) := by
  intro H0 I H σ δ c a Q h
  refine ha _ _ _ _ _ _ a _ (Res.imp (Res.bind h) fun x c1 I1 H1 g1 k1 h1 v hv => ?_)
  refine hl _ _ _ _ _ _ (a.go g1 k1) _ (Res.imp (Res.bind h1) fun lo c2 I2 H2 g2 k2 h2 => ?_)
  refine hh _ _ _ _ _ _ ((a.go g1 k1).go g2 k2) _ (Res.imp (Res.bind h2) fun hi c3 I3 H3 g3 k3 h3 => ?_)
  unfold slSK at h3
  split at h3
  · split at h3
    · rename_i e
      cases hv
      exact ⟨_, rfl, by rw [sizeLine_eq]; exact e, Res.ok k3 h3 _ (.str _)⟩
    · exact h3.elim
  · exact h3.elim
/-! methods of texts with one argument -/
def SndM (Z : Zz) (W : XK) (r : V → List V → Hp → VK → Prop) (g : Str → Vl → Int → R Vl) : Prop := ∀ I H z y vy c, Ok Z I H c → VOk Z I vy y → ∀ Q : VK, Res Z W I H (g z y c) (fun z _ I' H' => ∀ v, VOk Z I' v z → Q v H') → r (.str z) [vy] H Q
def dM1 (g : Str → Vl → Int → R Vl) (da db : Den) : Den := fun δ c => (da δ c).bind fun x c => match x with
  | .d (.str z) => (db δ c).bind (g z)
  | _ => .no
theorem snd_m1 {r : V → List V → Hp → VK → Prop} {g : Str → Vl → Int → R Vl} {to te : TE} {da db : Den} (hr : SndM Z W r g) (ha : SndE Z W to da) (hb : SndE Z W te db) : SndE Z W (tM1 r to te) (dM1 g da db) := by
  intro H0 I H σ δ c a Q h
  refine ha _ _ _ _ _ _ a _ (Res.imp (Res.bind h) fun x c1 I1 H1 g1 k1 h1 v hv => ?_)
  split at h1
  · cases hv
    refine ⟨⟨_, rfl⟩, hb _ _ _ _ _ _ (a.go g1 k1) _ (Res.imp (Res.bind h1) fun y c2 I2 H2 g2 k2 h2 w hw => ?_)⟩
    exact hr I2 H2 _ y w c2 k2 hw Q h2
  · exact h1.elim
def SndML (Z : Zz) (W : XK) (r : V → List V → Hp → VK → Prop) (g : Str → Vl → Int → R (List PyData)) : Prop := ∀ I H z y vy c, Ok Z I H c → VOk Z I vy y → ∀ Q : VK,
  Res Z W I H (g z y c) (fun xs _ I' H' => ∀ l vs, H l = none → I' l = none → H' l = some (.lst vs) → Z.sa ≠ some l → DpAll Z.K I' vs xs → Q (.ref l) H') → r (.str z) [vy] H Q
def dM1L (g : Str → Vl → Int → R (List PyData)) (da db : Den) : DenL := fun δ c => (da δ c).bind fun x c => match x with
  | .d (.str z) => (db δ c).bind (g z)
  | _ => .no
theorem snd_m1L {r : V → List V → Hp → VK → Prop} {g : Str → Vl → Int → R (List PyData)} {to te : TE} {da db : Den} (hr : SndML Z W r g) (ha : SndE Z W to da) (hb : SndE Z W te db) : SndL Z W (tM1 r to te) (dM1L g da db) := by
  intro H0 I H σ δ c a Q h
  refine ha _ _ _ _ _ _ a _ (Res.imp (Res.bind h) fun x c1 I1 H1 g1 k1 h1 v hv => ?_)
  split at h1
  · cases hv
    refine ⟨⟨_, rfl⟩, hb _ _ _ _ _ _ (a.go g1 k1) _ (Res.imp (Res.bind h1) fun y c2 I2 H2 g2 k2 h2 w hw => ?_)⟩
    exact hr I2 H2 _ y w c2 k2 hw Q (Res.imp h2 fun xs c3 I3 H3 g3 k3 q l vs f0 => q l vs (freshB (g1.trans g2) f0))
  · exact h1.elim
/-! join, count, in -/
def strsOf : List PyData → Option (List Str)
  | [] => some []
  | .str b :: xs => (strsOf xs).map (b :: ·)
  | _ => none
theorem strsOf_eq : ∀ {xs : List PyData} {bs : List Str}, strsOf xs = some bs → xs = bs.map .str
  | [], bs, e => by cases e; rfl
  | .str b :: xs, bs, e => by
    unfold strsOf at e
    cases q : strsOf xs with
    | none => rw [q] at e; cases e
    | some cs => rw [q] at e; cases e; rw [strsOf_eq q]; rfl
  | .none :: _, _, e => by cases e
  | .bool _ :: _, _, e => by cases e
  | .int _ :: _, _, e => by cases e
  | .list _ :: _, _, e => by cases e
  | .tuple _ :: _, _, e => by cases e
  | .dict _ :: _, _, e => by cases e
theorem strsOf_enc : ∀ bs : List Str, strsOf (bs.map enc) = some bs
  | [] => rfl
  | b :: bs => by
    show (strsOf (bs.map enc)).map (b :: ·) = _
    rw [strsOf_enc bs]; rfl
theorem dps_strs' {K : PySem.W.Frag} {I : Hp} : ∀ {bs : List Str} {vs : List V}, DpAll K I vs (bs.map PyData.str) → vs = bs.map V.str
  | [], _, h => by cases h; rfl
  | b :: bs, _, h => by
    cases h with
    | cons a t => cases a; rw [dps_strs' t]; rfl
theorem dps_strs {K : PySem.W.Frag} {I : Hp} : ∀ (bs : List Str), DpAll K I (bs.map V.str) (bs.map PyData.str)
  | [] => .nil
  | b :: bs => .cons (.str b) (dps_strs bs)
@[irreducible] def joinG (a : Str) (bs : List Str) (c : Int) : R Vl := if (bs.map (·.length)).sum + bs.length * a.length ≤ 16777216 then .ok (.d (.str (Txt.join a bs))) c else .no
def gJoin (a : Str) : Vl → Int → R Vl
  | .d (.list xs), c => match strsOf xs with
    | some bs => joinG a bs c
    | none => .no
  | .d (.tuple xs), c => match strsOf xs with
    | some bs => joinG a bs c
    | none => .no
  | _, _ => .no
def rJoin (K : PySem.W.Frag) : V → List V → Hp → VK → Prop := fun x xs H Q => ∃ a p, ∃ ys : List Str, x = .str a ∧ xs = [.ref p] ∧ (SqL K H p (ys.map V.str) ∨ SqT K H p (ys.map V.str)) ∧ (ys.map (·.length)).sum + ys.length * a.length ≤ 16777216 ∧ Q (.str (Txt.join a ys)) H
theorem rm_join : SndM Z W (rJoin Z.K) gJoin := by
  intro I H z y vy c k hy Q h
  unfold gJoin at h
  split at h
  · split at h
    · rename_i xs bs e
      have e := strsOf_eq e
      subst e
      unfold joinG at h
      split at h
      · rename_i hl
        cases hy with
        | lst s t =>
          have := dps_strs' t
          subst this
          exact ⟨_, _, bs, rfl, rfl, .inl (sqL_grows k.ex s), hl, Res.ok k h _ (.str _)⟩
      · exact h.elim
    · exact h.elim
  · split at h
    · rename_i xs bs e
      have e := strsOf_eq e
      subst e
      unfold joinG at h
      split at h
      · rename_i hl
        cases hy with
        | tup s t =>
          have := dps_strs' t
          subst this
          exact ⟨_, _, bs, rfl, rfl, .inr (sqT_grows k.ex s), hl, Res.ok k h _ (.str _)⟩
      · exact h.elim
    · exact h.elim
  · exact h.elim
def gCountS (a : Str) : Vl → Int → R Vl
  | .d (.str b), c => .ok (.d (.int (Txt.count a b))) c
  | _, _ => .no
theorem rm_count : SndM Z W (fun x xs H Q => ∃ a b, x = .str a ∧ xs = [.str b] ∧ Q (.int (Txt.count a b)) H) gCountS := by
  intro I H z y vy c k hy Q h
  unfold gCountS at h
  split at h
  · cases hy
    exact ⟨_, _, rfl, rfl, Res.ok k h _ (.int _)⟩
  · exact h.elim
/-- one sign in a text -/
def gInS (neg : Bool) : Vl → Vl → Int → R Vl
  | .d (.str a), .d (.str z), c => match a.cps.toList with
    | [k] => .ok (.d (.bool (xor neg (decide (k ∈ z.cps.toList))))) c
    | _ => .no
  | _, _, _ => .no
theorem one_sign {a : Str} {k : Nat} (e : a.cps.toList = [k]) : a = ⟨#[k]⟩ := by
  cases a with
  | mk x =>
    have : x = #[k] := by
      apply Array.toList_inj.mp
      exact e
    rw [this]
theorem rr_inS : SndR Z W (fun x y H Q => ∃ (c : Nat) (z : Str), x = .str ⟨#[c]⟩ ∧ y = .str z ∧ Q (.bl (decide (c ∈ z.cps.toList))) H) (gInS false) := by
  intro I H x y vx vy c k hx hy Q h
  unfold gInS at h
  split at h
  · split at h
    · rename_i e
      cases hx
      cases hy
      rw [one_sign e]
      simp only [Bool.false_xor] at h
      exact ⟨_, _, rfl, rfl, Res.ok k h _ (.bl _)⟩
    · exact h.elim
  · exact h.elim
theorem rr_ninS : SndR Z W (fun x y H Q => ∃ (c : Nat) (z : Str), x = .str ⟨#[c]⟩ ∧ y = .str z ∧ Q (.bl (!decide (c ∈ z.cps.toList))) H) (gInS true) := by
  intro I H x y vx vy c k hx hy Q h
  unfold gInS at h
  split at h
  · split at h
    · rename_i e
      cases hx
      cases hy
      rw [one_sign e]
      simp only [Bool.true_xor] at h
      exact ⟨_, _, rfl, rfl, Res.ok k h _ (.bl _)⟩
    · exact h.elim
  · exact h.elim
/-! bit operators -/
def bPow (i j : Int) : Bool := decide (0 ≤ j ∧ j ≤ 100000 ∧ i.natAbs < 2 ^ 64)
theorem rr_shl : SndR Z W (rI CPow fun i j => .int (i * 2 ^ j.toNat)) (gI bPow fun i j => .int (i * 2 ^ j.toNat)) := rr_I (fun _ _ _ _ => .int _) fun i j h => by
  obtain ⟨h1, h2, h3⟩ := of_decide_eq_true h
  exact ⟨h1, by omega, h3⟩
theorem rr_shr : SndR Z W (rI (fun _ j => 0 ≤ j) fun i j => .int (i / 2 ^ j.toNat)) (gI (fun _ j => decide (0 ≤ j)) fun i j => .int (i / 2 ^ j.toNat)) := rr_I (fun _ _ _ _ => .int _) fun i j h => of_decide_eq_true h
theorem rr_and : SndR Z W (rI0 fun i j => .int (Builtin.bitAnd i j)) (gI (fun _ _ => true) fun i j => .int (Builtin.bitAnd i j)) := rr_I0 fun _ _ _ _ => .int _
theorem rr_or : SndR Z W (rI0 fun i j => .int (Builtin.bitOr i j)) (gI (fun _ _ => true) fun i j => .int (Builtin.bitOr i j)) := rr_I0 fun _ _ _ _ => .int _
theorem rr_xor : SndR Z W (rI0 fun i j => .int (Builtin.bitXor i j)) (gI (fun _ _ => true) fun i j => .int (Builtin.bitXor i j)) := rr_I0 fun _ _ _ _ => .int _
/-! ranges as lists and tuples, turned round -/
abbrev DenR := List Sl → Int → R (Int × Int)
abbrev TRg := L2.St → Hp → (Int → Int → Hp → Prop) → Prop
def SndRg (Z : Zz) (W : XK) (tr : TRg) (dr : DenR) : Prop := ∀ H0 I H σ δ c, At Z H0 I H σ δ c → ∀ Q : Int → Int → Hp → Prop, Res Z W I H (dr δ c) (fun p _ _ H' => Q p.1 p.2 H') → tr σ H Q
def g1Rg : Vl → Int → R (Int × Int)
  | .d (.int n), c => .ok (0, n) c
  | _, _ => .no
def g2Rg : Vl → Vl → Int → R (Int × Int)
  | .d (.int a), .d (.int b), c => .ok (a, b) c
  | _, _, _ => .no
def dRg1 (da : Den) : DenR := fun δ c => (da δ c).bind g1Rg
def dRg2 (da db : Den) : DenR := fun δ c => (da δ c).bind fun x c => (db δ c).bind (g2Rg x)
theorem snd_rg1 {ta : TE} {da : Den} (ha : SndE Z W ta da) : SndRg Z W (tRg1 ta) (dRg1 da) := by
  intro H0 I H σ δ c a Q h
  refine ha _ _ _ _ _ _ a _ (Res.imp (Res.bind h) fun x c1 I1 H1 g1 k1 h1 v hv => ?_)
  unfold g1Rg at h1
  split at h1
  · cases hv
    exact ⟨_, rfl, Res.ok k1 h1⟩
  · exact h1.elim
theorem snd_rg2 {ta tb : TE} {da db : Den} (ha : SndE Z W ta da) (hb : SndE Z W tb db) : SndRg Z W (tRg2 ta tb) (dRg2 da db) := by
  intro H0 I H σ δ c a Q h
  refine ha _ _ _ _ _ _ a _ (Res.imp (Res.bind h) fun x c1 I1 H1 g1 k1 h1 v hv => ?_)
  refine hb _ _ _ _ _ _ (a.go g1 k1) _ (Res.imp (Res.bind h1) fun y c2 I2 H2 g2 k2 h2 w hw => ?_)
  unfold g2Rg at h2
  split at h2
  · cases hv
    cases hw
    exact ⟨_, _, rfl, rfl, Res.ok k2 h2⟩
  · exact h2.elim
@[irreducible] def rgOk (a b : Int) : Bool := decide (-1000000000 ≤ a ∧ a ≤ 1000000000 ∧ -1000000000 ≤ b ∧ b ≤ 1000000000 ∧ (b - a).toNat ≤ 16777216)
theorem rgOk_of {a b : Int} (h : rgOk a b = true) : -1000000000 ≤ a ∧ a ≤ 1000000000 ∧ -1000000000 ≤ b ∧ b ≤ 1000000000 ∧ (b - a).toNat ≤ 16777216 := by
  unfold rgOk at h
  exact of_decide_eq_true h
def rgD (a b : Int) : List PyData := (List.range (b - a).toNat).map fun i => PyData.int (a + (i : Nat))
theorem dps_rg {K : PySem.W.Frag} {I : Hp} (a b : Int) : DpAll K I (rgV a b) (rgD a b) := by
  unfold rgV rgD
  generalize List.range (b - a).toNat = l
  induction l with
  | nil => exact .nil
  | cons i l ih => exact .cons (.int _) ih
theorem rgOk_lib {a b : Int} (h : rgOk a b = true) : RgOk a b := by
  obtain ⟨h1, h2, h3, h4, h5⟩ := rgOk_of h
  exact ⟨by omega, by omega, by omega, by omega, by omega⟩
def lrK (p : Int × Int) (c : Int) : R (List PyData) := if rgOk p.1 p.2 = true then .ok (rgD p.1 p.2) c else .no
def trK (p : Int × Int) (c : Int) : R Vl := if rgOk p.1 p.2 = true then .ok (.d (.tuple (rgD p.1 p.2))) c else .no
def dLstRg (dr : DenR) : DenL := fun δ c => (dr δ c).bind lrK
def dTupRg (dr : DenR) : Den := fun δ c => (dr δ c).bind trK
theorem snd_lstRg {tr : TRg} {dr : DenR} (hr : SndRg Z W tr dr) : SndL Z W (tLstRg tr) (dLstRg dr) := by
  intro H0 I H σ δ c a Q h
  refine hr _ _ _ _ _ _ a _ (Res.imp (Res.bind h) fun p c1 I1 H1 g1 k1 h1 => ?_)
  unfold lrK at h1
  split at h1
  · rename_i e
    exact ⟨rgOk_lib e, newL k1 (dps_rg _ _) (Res.imp h1 fun xs c2 I2 H2 g2 k2 q l vs f0 => q l vs (freshB g1 f0))⟩
  · exact h1.elim
theorem snd_tupRg {tr : TRg} {dr : DenR} (hr : SndRg Z W tr dr) : SndE Z W (tTupRg tr) (dTupRg dr) := by
  intro H0 I H σ δ c a Q h
  refine hr _ _ _ _ _ _ a _ (Res.imp (Res.bind h) fun p c1 I1 H1 g1 k1 h1 => ?_)
  unfold trK at h1
  split at h1
  · rename_i e
    exact ⟨rgOk_lib e, newT k1 (dps_rg _ _) h1⟩
  · exact h1.elim
def rrK (p : Int × Int) (c : Int) : R (List Vl) := if rgOk p.1 p.2 = true then .ok (rngc (p.1 + (((p.2 - p.1).toNat : Nat) : Int) - 1) (-1) (p.2 - p.1).toNat) c else .no
def dIRev (dr : DenR) : DenI := fun δ c => (dr δ c).bind rrK
theorem snd_iRev {tr : TRg} {dr : DenR} (hr : SndRg Z W tr dr) : SndI Z W (iRevR tr) (dIRev dr) := by
  intro H0 I H σ δ c a Q h
  refine hr _ _ _ _ _ _ a _ (Res.imp (Res.bind h) fun p c1 I1 H1 g1 k1 h1 => ?_)
  unfold rrK at h1
  split at h1
  · rename_i e
    obtain ⟨h1', h2, h3, h4, h5⟩ := rgOk_of e
    exact ⟨by omega, by omega, by omega, by omega, Res.ok k1 h1 _ walks_rngc⟩
  · exact h1.elim
/-- a test by truth within a comprehension: the table is named -/
theorem pt_truthK {X : Cx} {K : PySem.W.Frag} {a : Expr} {ta : TE} (hK : X.K = K) (ha : PE X a ta) (he : ∀ whole, isTrue a X.env whole = (do let v ← whole; standAt a.pos; holding [v] (truthy v))) : PT X a (fun σ H Q => ta σ H fun x H' => ∃ k, TruV K x H' k ∧ Q k H') := by
  subst hK
  exact pt_truth ha he
/-- a range that is told: as PRg, and no arrow -/
structure PRgS (X : Cx) (e : Expr) (t : L2.St → Hp → (Int → Int → Hp → Prop) → Prop) : Prop where
  run : PRg X e t
section
variable {X : Cx} {e : Expr} {te : L2.St → Hp → (Int → Int → Hp → Prop) → Prop}
theorem p_rg1 {a : Expr} {ta : TE} {p pos : Pos} (hg : Gl X "range") (hm : X.mg "range" = none) (ha : PE X a ta) (na : starEach [a] X.env = (false, eval a X.env) :: starEach [] X.env := by rfl) : PRgS X (.Call (.Name "range" p) [a] [] pos) (tRg1 ta) := ⟨prg_1 hg hm ha na⟩
theorem p_rg2 {a b : Expr} {ta tb : TE} {p pos : Pos} (hg : Gl X "range") (hm : X.mg "range" = none) (ha : PE X a ta) (hb : PE X b tb) (na : starEach [a, b] X.env = (false, eval a X.env) :: starEach [b] X.env := by rfl)
    (nb : starEach [b] X.env = (false, eval b X.env) :: starEach [] X.env := by rfl) (hp : (backTo pos (starEach [b] X.env)).any (·.1) = false := by rfl) : PRgS X (.Call (.Name "range" p) [a, b] [] pos) (tRg2 ta tb) := ⟨prg_2 hg hm ha hb na nb hp⟩
theorem pi_rev {tg : Expr} {p pos : Pos} (hg : Gl X "reversed") (hm : X.mg "reversed" = none) (he : PRgS X e te) (hs : starEach [e] X.env = (false, eval e X.env) :: starEach [] X.env := by rfl) : PI X tg (.Call (.Name "reversed" p) [e] [] pos) (iRevR te) := pi_revR hg hm he.run hs
theorem pe_lrg {p pos : Pos} (hc : X.calm = true) (hg : Gl X "list") (hm : X.mg "list" = none) (he : PRgS X e te) (na : starEach [e] X.env = (false, eval e X.env) :: starEach [] X.env := by rfl) : PE X (.Call (.Name "list" p) [e] [] pos) (tLstRg te) := pe_listRg hc hg hm he.run na
theorem pe_trg {p pos : Pos} (hc : X.calm = true) (hg : Gl X "tuple") (hm : X.mg "tuple" = none) (he : PRgS X e te) (na : starEach [e] X.env = (false, eval e X.env) :: starEach [] X.env := by rfl) : PE X (.Call (.Name "tuple" p) [e] [] pos) (tTupRg te) := pe_tupRg hc hg hm he.run na
end
/-! a tuple so many times -/
@[irreducible] def gRepT : Vl → Vl → Int → R Vl
  | .d (.tuple xs), .d (.int n), c => if xs.isEmpty = false ∧ 2 ≤ n ∧ n ≤ 1000 ∧ xs.length ≤ 1000 then .ok (.d (.tuple (List.replicate n.toNat xs).flatten)) c else .no
  | _, _, _ => .no
theorem dps_repT {K : PySem.W.Frag} {I : Hp} {vs : List V} {xs : List PyData} (h : DpAll K I vs xs) : ∀ n : Nat, DpAll K I (List.replicate n vs).flatten (List.replicate n xs).flatten
  | 0 => .nil
  | n + 1 => by
    rw [List.replicate_succ, List.replicate_succ, List.flatten_cons, List.flatten_cons]
    exact dps_app h (dps_repT h n)
theorem rr_repT : SndR Z W (rRepT Z.K) gRepT := by
  intro I H x y vx vy c k hx hy Q h
  unfold gRepT at h
  split at h
  · split at h
    · rename_i xs n e
      cases hx with
      | tup s t =>
        cases hy
        refine ⟨_, _, _, rfl, rfl, sqT_grows k.ex s, fun z => ?_, e.2.1, e.2.2.1, by rw [dps_len t]; exact e.2.2.2, newT k (dps_repT t _) h⟩
        have := (dps_nil t).mp z
        subst this
        cases e.1
    · exact h.elim
  · exact h.elim
/-! where an item stands in a list -/
theorem u65 {k : Nat} {A : Around} (r : Room k A) : A.units + 65 < cLine := by
  have := r.un
  omega
def gIndex (ds : List PyData) : Vl → Int → R Vl
  | .d d, c => if SeqAt.shaped (.list ds) = true ∧ SeqAt.shaped d = true then (match ds.findIdx? (fun z => PyData.eqv z d) with
    | some j => .ok (.d (.int ((j : Nat) : Int))) c
    | none => .no) else .no
  | _, _ => .no
def indexK (f : Int → R Vl) : Vl → Int → R Vl
  | .d (.list ds), c => (f c).bind (gIndex ds)
  | _, _ => .no
def dIndex (da db : Den) : Den := fun δ c => (da δ c).bind (indexK (db δ))
theorem pe_indexK {X : Cx} {K : PySem.W.Frag} (hK : X.K = K) {o e : Expr} {to te : TE} {apos cpos : Pos} (hu : X.A.units + 65 < cLine) (ho : PE X o to) (ha : PE X e te)
    (hbase : attributeBase o "index" X.env (eval o X.env) = eval o X.env := by rfl)
    (hfew : ((backTo cpos (starEach [e] X.env)).all (fun x => !x.1) && (backToKw cpos (keywordEach [] X.env)).all (fun x => x.1.isSome)
      && decide ([e].length + ([] : List Keyword).length + (if ([] : List Keyword).isEmpty then 0 else 1) < 30)) = true := by rfl)
    (hline : (apos.endLine == cpos.line) = true := by rfl) (hs : starEach [e] X.env = (false, eval e X.env) :: starEach [] X.env := by rfl) :
    PE X (.Call (.Attribute o "index" apos) [e] [] cpos) (tBM K "list" (rIndexD K) to (tCons te tNil)) := by
  subst hK
  exact pe_bm PySem.F.plainAttrs_list PySem.F.slot_list_index PySem.F.type_list_index (mt_indexD hu) ho (pa_cons ha pa_nil hs) hbase hfew hline hs rfl
theorem snd_index {to te : TE} {da db : Den} (ha : SndE Z W to da) (hb : SndE Z W te db) : SndE Z W (tBM Z.K "list" (rIndexD Z.K) to (tCons te tNil)) (dIndex da db) := by
  intro H0 I H σ δ c a Q h
  refine ha _ _ _ _ _ _ a _ (Res.imp (Res.bind h) fun x c1 I1 H1 g1 k1 h1 v hv => ?_)
  unfold indexK at h1
  split at h1
  · rename_i ds
    have hd : Dp Z.K I1 v (.list ds) := hv
    cases hd with
    | lst s t =>
      refine ⟨.inl ⟨rfl, _, sqL_grows k1.ex s⟩, hb _ _ _ _ _ _ (a.go g1 k1) _ (Res.imp (Res.bind h1) fun y c2 I2 H2 g2 k2 h2 w hw => ?_)⟩
      unfold gIndex at h2
      split at h2
      · split at h2
        · rename_i e
          split at h2
          · rename_i j ej
            obtain ⟨hj, hz, hm⟩ := List.findIdx?_eq_some_iff_getElem.mp ej
            refine ⟨_, w, _, ds, j, _, rfl, rfl, dp_grows k2.ex _ _ (vok_grows g2.ii hv), dp_grows k2.ex _ _ hw, e.1, e.2, List.getElem?_eq_getElem hj, hz, fun m z' hl hz' => ?_, Res.ok k2 h2 _ (.int _)⟩
            obtain ⟨hl2, ez⟩ := List.getElem?_eq_some_iff.mp hz'
            have := hm m hl
            rw [ez] at this
            exact Bool.eq_false_iff.mpr this
          · exact h2.elim
        · exact h2.elim
      · exact h2.elim
  · exact h1.elim
end
/-! typed -/
section
variable {α β γ κ τ σ : Type} {δ : List Sl} {m : M τ} {o : τ → κ}
def m1K (g : Str → Vl → Int → R Vl) (f : Int → R Vl) : Vl → Int → R Vl
  | .d (.str z), c => (f c).bind (g z)
  | _, _ => .no
theorem b_m1 {g : Str → Vl → Int → R Vl} {da db : Den} {K : Vl → Int → R κ} (h : BK (da δ) (fun x c => (m1K g (db δ) x c).bind K) m o) : BK (dM1 g da db δ) K m o := by
  intro c
  have e : dM1 g da db δ c = (da δ c).bind (m1K g (db δ)) := by
    unfold dM1
    congr 1
    funext x c
    cases x with
    | d x => cases x <;> rfl
    | _ => rfl
  show Rf (m c) o ((dM1 g da db δ c).bind K)
  rw [e, R.bind_assoc]
  exact h c
theorem r_m1 {g : Str → Vl → Int → R Vl} {db : Den} {K : Vl → Int → R κ} {z : Str} (h : BK (db δ) (fun y c => (g z y c).bind K) m o) : RK m o (fun c => (m1K g (db δ) (.d (.str z)) c).bind K) := fun c => by
  show Rf (m c) o (((db δ c).bind (g z)).bind K)
  rw [R.bind_assoc]
  exact h c
@[irreducible] def catSM (a b : Str) : M Str := if a.length + b.length ≤ 16777216 then M.ret (a ++ b) else M.no
theorem catSM_ok {a b : Str} (h : a.length + b.length ≤ 16777216) : catSM a b = M.ret (a ++ b) := by
  unfold catSM
  exact if_pos h
theorem k_catS {a b : Str} : RK (catSM a b) (fun z => Vl.d (enc z)) (gCatS (.d (.str a)) (.d (.str b))) := fun c => by
  unfold catSM gCatS
  by_cases h : a.length + b.length ≤ 16777216
  · rw [if_pos h]
    show Rf _ _ (if _ then _ else _)
    rw [if_pos h]
    exact rfl
  · rw [if_neg h]; trivial
@[irreducible] def repSM (z : Str) (n : Int) : M Str := if -1000000000 ≤ n ∧ n ≤ 1000000000 ∧ n.toNat * z.length ≤ 16777216 then M.ret (repS z n) else M.no
theorem repSM_ok {z : Str} {n : Int} (h0 : -1000000000 ≤ n) (h1 : n ≤ 1000000000) (h : n.toNat * z.length ≤ 16777216) : repSM z n = M.ret (repS z n) := by
  unfold repSM
  exact if_pos ⟨h0, h1, h⟩
theorem k_repS {z : Str} {n : Int} : RK (repSM z n) (fun z => Vl.d (enc z)) (gRepS (.d (.str z)) (.d (.int n))) := fun c => by
  unfold repSM gRepS
  by_cases h : -1000000000 ≤ n ∧ n ≤ 1000000000 ∧ n.toNat * z.length ≤ 16777216
  · rw [if_pos h]
    show Rf _ _ (if _ then _ else _)
    rw [if_pos h]
    exact rfl
  · rw [if_neg h]; trivial
@[irreducible] def ixSM (z : Str) (i : Int) : M Str := if z.length ≤ 16777216 then match atI z.cps.toList i with
  | some k => M.ret ⟨#[k]⟩
  | none => M.no else M.no
theorem ixSM_ok {z : Str} {i : Int} {k : Nat} (h : z.length ≤ 16777216) (e : atI z.cps.toList i = some k) : ixSM z i = M.ret ⟨#[k]⟩ := by
  unfold ixSM
  rw [if_pos h, e]
theorem k_ixS {z : Str} {i : Int} : RK (ixSM z i) (fun z => Vl.d (enc z)) (gIxS (.d (.str z)) (.d (.int i))) := fun c => by
  unfold ixSM gIxS
  by_cases h : z.length ≤ 16777216
  · rw [if_pos h]
    show Rf _ _ (if _ then _ else _)
    rw [if_pos h]
    cases atI z.cps.toList i with
    | none => trivial
    | some k => exact rfl
  · rw [if_neg h]; trivial
@[irreducible] def cutSM (z : Str) (lo hi : Option Int) : M Str := if z.length ≤ 16777216 then M.ret (cutS z lo hi) else M.no
theorem cutSM_ok {z : Str} {lo hi : Option Int} (h : z.length ≤ 16777216) : cutSM z lo hi = M.ret (cutS z lo hi) := by
  unfold cutSM
  exact if_pos h
theorem b_slS {da : Den} {dl dh : DenO} {K : Vl → Int → R κ} (h : BK (da δ) (fun x c => (dl δ c).bind fun lo c => (dh δ c).bind fun hi c => (slSK x lo hi c).bind K) m o) : BK (dSlS da dl dh δ) K m o := by
  intro c
  show Rf (m c) o ((dSlS da dl dh δ c).bind K)
  unfold dSlS
  simp only [R.bind_assoc]
  exact h c
theorem k_slS {z : Str} {lo hi : Option Int} : RK (cutSM z lo hi) (fun z => Vl.d (enc z)) (slSK (.d (.str z)) lo hi) := fun c => by
  unfold cutSM slSK
  by_cases h : z.length ≤ 16777216
  · rw [if_pos h]
    show Rf _ _ (if _ then _ else _)
    rw [if_pos h]
    exact rfl
  · rw [if_neg h]; trivial
@[irreducible] def joinM (a : Str) (bs : List Str) : M Str := if (bs.map (·.length)).sum + bs.length * a.length ≤ 16777216 then M.ret (Txt.join a bs) else M.no
theorem joinM_ok {a : Str} {bs : List Str} (h : (bs.map (·.length)).sum + bs.length * a.length ≤ 16777216) : joinM a bs = M.ret (Txt.join a bs) := by
  unfold joinM
  exact if_pos h
theorem k_joinG {a : Str} {bs : List Str} (c : Int) : Rf (joinM a bs c) (fun z => Vl.d (enc z)) (joinG a bs c) := by
  unfold joinM joinG
  by_cases h : (bs.map (·.length)).sum + bs.length * a.length ≤ 16777216
  · rw [if_pos h, if_pos h]; exact rfl
  · rw [if_neg h]; trivial
theorem k_joinL {a : Str} {bs : List Str} : RK (joinM a bs) (fun z => Vl.d (enc z)) (gJoin a (.d (enc bs))) := fun c => by
  show Rf _ _ (match strsOf (bs.map enc) with | some bs => joinG a bs c | none => .no)
  rw [strsOf_enc]
  exact k_joinG c
theorem k_joinT {a : Str} {bs : Tp Str} : RK (joinM a bs.l) (fun z => Vl.d (enc z)) (gJoin a (.d (enc bs))) := fun c => by
  show Rf _ _ (match strsOf (bs.l.map enc) with | some bs => joinG a bs c | none => .no)
  rw [strsOf_enc]
  exact k_joinG c
theorem k_countS {a b : Str} : PV (gCountS a (.d (.str b))) (.d (.int (Txt.count a b))) := fun _ => rfl
@[irreducible] def inSM (a z : Str) : M Bool := match a.cps.toList with
  | [k] => M.ret (decide (k ∈ z.cps.toList))
  | _ => M.no
theorem inSM_ok {k : Nat} {z : Str} : inSM ⟨#[k]⟩ z = M.ret (decide (k ∈ z.cps.toList)) := by
  unfold inSM
  rfl
theorem k_inS {a z : Str} : RK (inSM a z) (fun y => Vl.d (enc y)) (gInS false (.d (.str a)) (.d (.str z))) := fun c => by
  unfold inSM gInS
  cases e : a.cps.toList with
  | nil => trivial
  | cons k l =>
    cases l with
    | nil =>
      simp only [e, Bool.false_xor]
      exact rfl
    | cons _ _ => trivial
theorem k_ninS {a z : Str} : RK (M.bind (inSM a z) fun b => M.ret (!b)) (fun y => Vl.d (enc y)) (gInS true (.d (.str a)) (.d (.str z))) := fun c => by
  unfold inSM gInS
  cases e : a.cps.toList with
  | nil => trivial
  | cons k l =>
    cases l with
    | nil =>
      simp only [e, Bool.true_xor]
      exact rfl
    | cons _ _ => trivial
theorem k_lenS {z : Str} : RK (M.lift (gLen [.d (.str z)])) (fun y => Vl.d (enc y)) (gLen [.d (.str z)]) := k_lift
@[irreducible] def lenSM (z : Str) : M Int := if z.length ≤ 16777216 then M.ret (z.length : Int) else M.no
theorem lenSM_ok {z : Str} (h : z.length ≤ 16777216) : lenSM z = M.ret (z.length : Int) := by
  unfold lenSM
  exact if_pos h
theorem k_lenSM {z : Str} : RK (lenSM z) (fun y => Vl.d (enc y)) (gLen [.d (.str z)]) := fun c => by
  unfold lenSM
  show Rf _ _ (if _ then _ else _)
  by_cases h : z.length ≤ 16777216
  · rw [if_pos h, if_pos h]; exact rfl
  · rw [if_neg h]; trivial
@[irreducible] def shlM (i j : Int) : M Int := if bPow i j = true then M.ret (i * 2 ^ j.toNat) else M.no
theorem shlM_ok {i j : Int} (h0 : 0 ≤ j) (h1 : j ≤ 100000) (h2 : i.natAbs < 2 ^ 64) : shlM i j = M.ret (i * 2 ^ j.toNat) := by
  unfold shlM
  exact if_pos (decide_eq_true ⟨h0, h1, h2⟩)
theorem k_shl {i j : Int} : RK (shlM i j) (fun y => Vl.d (enc y)) (gI bPow (fun i j => .int (i * 2 ^ j.toNat)) (.d (.int i)) (.d (.int j))) := fun c => by
  unfold shlM
  show Rf _ _ (if _ then _ else _)
  by_cases h : bPow i j = true
  · rw [if_pos h, if_pos h]; exact rfl
  · rw [if_neg h]; trivial
@[irreducible] def shrM (i j : Int) : M Int := if 0 ≤ j then M.ret (i / 2 ^ j.toNat) else M.no
theorem shrM_ok {i j : Int} (h0 : 0 ≤ j) : shrM i j = M.ret (i / 2 ^ j.toNat) := by
  unfold shrM
  exact if_pos h0
theorem k_shr {i j : Int} : RK (shrM i j) (fun y => Vl.d (enc y)) (gI (fun _ j => decide (0 ≤ j)) (fun i j => .int (i / 2 ^ j.toNat)) (.d (.int i)) (.d (.int j))) := fun c => by
  unfold shrM
  show Rf _ _ (if _ then _ else _)
  by_cases h : 0 ≤ j
  · rw [if_pos h, if_pos (decide_eq_true h)]; exact rfl
  · rw [if_neg h]; trivial
theorem k_and {i j : Int} : PV (gI (fun _ _ => true) (fun i j => .int (Builtin.bitAnd i j)) (.d (.int i)) (.d (.int j))) (.d (.int (Builtin.bitAnd i j))) := fun _ => rfl
theorem k_or {i j : Int} : PV (gI (fun _ _ => true) (fun i j => .int (Builtin.bitOr i j)) (.d (.int i)) (.d (.int j))) (.d (.int (Builtin.bitOr i j))) := fun _ => rfl
theorem k_xor {i j : Int} : PV (gI (fun _ _ => true) (fun i j => .int (Builtin.bitXor i j)) (.d (.int i)) (.d (.int j))) (.d (.int (Builtin.bitXor i j))) := fun _ => rfl
/-! ranges -/
theorem b_rg1 {da : Den} {K : Int × Int → Int → R κ} (h : BK (da δ) (fun x c => (g1Rg x c).bind K) m o) : BK (dRg1 da δ) K m o := by
  intro c
  show Rf (m c) o ((dRg1 da δ c).bind K)
  unfold dRg1
  rw [R.bind_assoc]
  exact h c
theorem k_rg1 {n : Int} : PV (g1Rg (.d (.int n))) (0, n) := fun _ => rfl
theorem b_rg2 {da db : Den} {K : Int × Int → Int → R κ} (h : BK (da δ) (fun x c => (db δ c).bind fun y c => (g2Rg x y c).bind K) m o) : BK (dRg2 da db δ) K m o := by
  intro c
  show Rf (m c) o ((dRg2 da db δ c).bind K)
  unfold dRg2
  simp only [R.bind_assoc]
  exact h c
theorem k_rg2 {a b : Int} : PV (g2Rg (.d (.int a)) (.d (.int b))) (a, b) := fun _ => rfl
@[irreducible] def lrM (a b : Int) : M (List Int) := if rgOk a b = true then M.ret (rngL a (b - a).toNat) else M.no
theorem lrM_ok {a b : Int} (h0 : -1000000000 ≤ a) (h1 : a ≤ 1000000000) (h2 : -1000000000 ≤ b) (h3 : b ≤ 1000000000) (h4 : (b - a).toNat ≤ 16777216) : lrM a b = M.ret (rngL a (b - a).toNat) := by
  unfold lrM rgOk
  exact if_pos (decide_eq_true ⟨h0, h1, h2, h3, h4⟩)
theorem rgD_enc (a b : Int) : rgD a b = (rngL a (b - a).toNat).map enc := by
  unfold rgD rngL
  rw [List.map_map]
  rfl
theorem b_lstRg {dr : DenR} {K : List PyData → Int → R κ} (h : BK (dr δ) (fun p c => (lrK p c).bind K) m o) : BK (dLstRg dr δ) K m o := by
  intro c
  show Rf (m c) o ((dLstRg dr δ c).bind K)
  unfold dLstRg
  rw [R.bind_assoc]
  exact h c
theorem k_lstRg {a b : Int} : RK (lrM a b) (List.map enc) (lrK (a, b)) := fun c => by
  unfold lrM lrK
  by_cases h : rgOk a b = true
  · rw [if_pos h, if_pos h, rgD_enc]; exact rfl
  · rw [if_neg h]; trivial
theorem b_tupRg {dr : DenR} {K : Vl → Int → R κ} (h : BK (dr δ) (fun p c => (trK p c).bind K) m o) : BK (dTupRg dr δ) K m o := by
  intro c
  show Rf (m c) o ((dTupRg dr δ c).bind K)
  unfold dTupRg
  rw [R.bind_assoc]
  exact h c
def trM (a b : Int) : M (Tp Int) := M.bind (lrM a b) fun l => M.ret ⟨l⟩
theorem k_tupRg {a b : Int} : RK (trM a b) (fun y => Vl.d (enc y)) (trK (a, b)) := fun c => by
  unfold trM lrM trK
  by_cases h : rgOk a b = true
  · rw [if_pos h, if_pos h, rgD_enc]; exact rfl
  · rw [if_neg h]; trivial
theorem b_iRev {dr : DenR} {K : List Vl → Int → R κ} (h : BK (dr δ) (fun p c => (rrK p c).bind K) m o) : BK (dIRev dr δ) K m o := by
  intro c
  show Rf (m c) o ((dIRev dr δ c).bind K)
  unfold dIRev
  rw [R.bind_assoc]
  exact h c
@[irreducible] def rrM (a b : Int) : M (List Int) := if rgOk a b = true then M.ret (rngcL (a + (((b - a).toNat : Nat) : Int) - 1) (-1) (b - a).toNat) else M.no
theorem rrM_ok {a b : Int} (h0 : -1000000000 ≤ a) (h1 : a ≤ 1000000000) (h2 : -1000000000 ≤ b) (h3 : b ≤ 1000000000) (h4 : (b - a).toNat ≤ 16777216) : rrM a b = M.ret (rngcL (a + (((b - a).toNat : Nat) : Int) - 1) (-1) (b - a).toNat) := by
  unfold rrM rgOk
  exact if_pos (decide_eq_true ⟨h0, h1, h2, h3, h4⟩)
theorem k_iRev {a b : Int} : RK (rrM a b) vls (rrK (a, b)) := fun c => by
  unfold rrM rrK
  by_cases h : rgOk a b = true
  · rw [if_pos h, if_pos h]
    show R.ok _ c = R.ok _ c
    congr 1
    unfold rngc vls rngcL
    rw [List.map_map]
    rfl
  · rw [if_neg h]; trivial
/-! where an item stands in a list -/
@[irreducible] def idxM (ds : List PyData) (d : PyData) : M Int := if SeqAt.shaped (.list ds) = true ∧ SeqAt.shaped d = true then (match ds.findIdx? (fun z => PyData.eqv z d) with
  | some j => M.ret ((j : Nat) : Int)
  | none => M.no) else M.no
theorem idxM_ok {ds : List PyData} {d : PyData} {j : Nat} (h1 : SeqAt.shaped (.list ds) = true) (h2 : SeqAt.shaped d = true) (e : ds.findIdx? (fun z => PyData.eqv z d) = some j) : idxM ds d = M.ret (j : Int) := by
  unfold idxM
  rw [if_pos ⟨h1, h2⟩, e]
theorem b_index {da db : Den} {K : Vl → Int → R κ} (h : BK (da δ) (fun x c => (indexK (db δ) x c).bind K) m o) : BK (dIndex da db δ) K m o := by
  intro c
  show Rf (m c) o (((da δ c).bind (indexK (db δ))).bind K)
  rw [R.bind_assoc]
  exact h c
theorem r_index [Enc α] {db : Den} {K : Vl → Int → R κ} {xs : List α} (h : BK (db δ) (fun y c => (gIndex (xs.map enc) y c).bind K) m o) : RK m o (fun c => (indexK (db δ) (.d (enc xs)) c).bind K) := fun c => by
  show Rf (m c) o (((db δ c).bind (gIndex (xs.map enc))).bind K)
  rw [R.bind_assoc]
  exact h c
theorem k_index {ds : List PyData} {d : PyData} : RK (idxM ds d) (fun z => Vl.d (enc z)) (gIndex ds (.d d)) := fun c => by
  unfold idxM
  show Rf _ _ (if _ then _ else _)
  by_cases h : SeqAt.shaped (.list ds) = true ∧ SeqAt.shaped d = true
  · rw [if_pos h, if_pos h]
    cases ds.findIdx? (fun z => PyData.eqv z d) with
    | none => trivial
    | some j => exact rfl
  · rw [if_neg h]; trivial
/-! a tuple so many times -/
@[irreducible] def repTM (xs : Tp α) (n : Int) : M (Tp α) := if xs.l.isEmpty = false ∧ 2 ≤ n ∧ n ≤ 1000 ∧ xs.l.length ≤ 1000 then M.ret ⟨(List.replicate n.toNat xs.l).flatten⟩ else M.no
theorem repTM_ok {xs : Tp α} {n : Int} (h0 : 0 < xs.l.length) (h1 : 2 ≤ n) (h2 : n ≤ 1000) (h3 : xs.l.length ≤ 1000) : repTM xs n = M.ret ⟨(List.replicate n.toNat xs.l).flatten⟩ := by
  unfold repTM
  exact if_pos ⟨by cases e : xs.l with | nil => rw [e] at h0; cases h0 | cons a l => rfl, h1, h2, h3⟩
theorem k_repT [Enc α] {xs : Tp α} {n : Int} : RK (repTM xs n) (fun y => Vl.d (enc y)) (gRepT (.d (enc xs)) (.d (.int n))) := fun c => by
  unfold repTM gRepT
  show Rf _ _ (if (xs.l.map enc).isEmpty = false ∧ 2 ≤ n ∧ n ≤ 1000 ∧ (xs.l.map enc).length ≤ 1000 then _ else _)
  have e : (xs.l.map enc).isEmpty = xs.l.isEmpty := by cases xs.l <;> rfl
  rw [e, List.length_map]
  by_cases h : xs.l.isEmpty = false ∧ 2 ≤ n ∧ n ≤ 1000 ∧ xs.l.length ≤ 1000
  · rw [if_pos h, if_pos h]
    show R.ok (Vl.d (.tuple (List.replicate n.toNat (xs.l.map enc)).flatten)) c = R.ok (Vl.d (.tuple ((List.replicate n.toNat xs.l).flatten.map enc))) c
    rw [List.map_flatten, List.map_replicate]
  · rw [if_neg h]; trivial
end
end Dn
namespace Dn
open PySem PySem.Spec PyProof.Rows L2
open Dn.Enc (enc)
open AutoSeq1 (wpAny_loadPart')
/-! enumerate of a tuple -/
def ItE (K : PySem.W.Frag) (a : Addr) : It where
  go := fun i H => ∃ (ys : List V) (y : V), SqT K H a ys ∧ ys[i]? = some y
  yld := fun i H v J => ∃ T y, v = .ref T ∧ H T = none ∧ J = upd H T (.tup [.int (i : Nat), y]) ∧ ∀ ys, SqT K H a ys → ys[i]? = some y
  stop := fun i H => ∃ ys : List V, SqT K H a ys ∧ ys.length ≤ i
/-- an enumerate object at e over the tuple iterator at j -/
def StE (a e j : Addr) (i : Nat) (h : Heap) : Prop := (∃ y, IsEnum h e j ((i : Nat) : Int) y) ∧ h.IsTupleIter j a i
theorem turn_enumT {P : Program} {w : World} {K : PySem.W.Frag} {elts : List Expr} {kk : Nat} {tpos : Pos} (a e j : Addr) (hej : e ≠ j) : Turn P w K (.Tuple elts kk tpos) (ItE K a) [e, j] e (StE a e j) where
  mem := List.mem_cons_self
  obj := fun i h z b hb => by
    obtain ⟨⟨y, q1⟩, o, q2, _, q4⟩ := z
    rcases List.mem_cons.mp hb with f | f
    · subst f; exact ⟨_, q1, fun v q => nomatch q⟩
    · obtain rfl : b = j := by simpa using f
      exact ⟨o, q2, fun v q => by rw [q4] at q; cases q⟩
  keep := fun i h h' z k => by
    obtain ⟨⟨y, q1⟩, q2⟩ := z
    exact ⟨⟨y, k e (by simp) _ q1⟩, q2.at fun o q => k j (by simp) o q⟩
  item := by
    intro X e1 e2 e3 hc i pins s σ H E I hf z hg
    subst e1 e2 e3
    obtain ⟨⟨y0, q1⟩, q2⟩ := z
    obtain ⟨ys, y, hq, hy⟩ := hg
    obtain ⟨its, rv, p, _⟩ := I.tuple hq
    obtain ⟨u, hu, ru⟩ := rv.get hy
    have haj : a ≠ j := by
      rintro rfl
      obtain ⟨o1, a1, a2, _⟩ := q2
      obtain ⟨o2, b1, b2, _⟩ := p
      rw [a1] at b1; cases b1
      rw [a2] at b2
      exact absurd b2 (by decide)
    have hae : e ≠ a := by
      rintro rfl
      obtain ⟨o2, b1, b2, _⟩ := p
      rw [q1] at b1; cases b1
      exact absurd (show Value.type "enumerate" = Value.type "tuple" from b2) (by decide)
    have he0 : e < s.heap.objs.size := Heap.lt_size q1
    have hj0 : j < s.heap.objs.size := by obtain ⟨_, q, _⟩ := q2; exact Heap.lt_size q
    have hn : X.A.handled = none := I.ok.hd hc
    have hil : i < its.toArray.size := by
      have := (List.getElem?_eq_some_iff.mp hu).1
      simpa using this
    refine wpAny_pyNext_enum_itemD (Draws.tuple (A := X.A.in1) (by simp [hn]) j a haj its.toArray) q1 ⟨q2, p⟩ hil hej (by simp [hej, hae]) fun b h1 tk hb ho hst hT hsz hk => ?_
    obtain rfl : b = u := by
      have : its.toArray[i]? = some u := by simpa using hu
      rw [this] at hb; exact (Option.some.inj hb).symm
    refine ⟨_, rfl, wpAny_letOwnedTupleGo_enum (s := { s with heap := h1, toks := tk + 1 }) ho fun h2 he2 sb => ?_⟩
    have hT2 : h2.get? s.heap.objs.size = some { cls := .type "tuple", data := .seq #[.int i tk, b] } := (sb.2 _ (Nat.ne_of_gt he0)).trans hT
    have I1 : L2.Inv X pins σ (upd H s.heap.objs.size (.tup [.int (i : Nat), y])) { s with heap := h2, toks := tk + 1 } :=
      I.turnedNew (t' := tk + 1) (ch := [e, j]) (fun c ob hb q => (sb.2 c fun z => hb (by simp [z])).trans (hk c ob (fun z => hb (by simp [z])) (fun z => hb (by simp [z])) q)) hf (Nat.le_refl _)
        ⟨by show 2 ≤ sizeLine; decide, [.int i tk, b], .cons ⟨_, rfl⟩ (.cons ru .nil), ⟨_, hT2, rfl, _, rfl⟩⟩
    refine ⟨.ref s.heap.objs.size, _, I1, rfl, ⟨_, y, rfl, I.hok.fresh (Nat.le_refl _), rfl, fun zs hz => by rw [I.tuple_inj hz hq]; exact hy⟩, ⟨⟨b, ?_⟩, hst.1.at fun o q => (sb.2 j (Ne.symm hej)).trans q⟩, fun c hcm => ?_⟩
    · rw [show ((i + 1 : Nat) : Int) = (i : Int) + 1 by omega]; exact he2
    · have hlt : c < s.heap.objs.size := by
        rcases List.mem_cons.mp hcm with f | f
        · rw [f]; exact he0
        · obtain rfl : c = j := by simpa using f
          exact hj0
      rw [upd_ne (Nat.ne_of_lt hlt)]
      exact (hf c hcm).1
  done := by
    intro X e1 e2 e3 hc i pins s σ H E I hf z hg
    subst e1 e2 e3
    obtain ⟨⟨y0, q1⟩, q2⟩ := z
    obtain ⟨ys, hq, hy⟩ := hg
    obtain ⟨its, rv, p, _⟩ := I.tuple hq
    have haj : a ≠ j := by
      rintro rfl
      obtain ⟨o1, a1, a2, _⟩ := q2
      obtain ⟨o2, b1, b2, _⟩ := p
      rw [a1] at b1; cases b1
      rw [a2] at b2
      exact absurd b2 (by decide)
    have hn : X.A.handled = none := I.ok.hd hc
    have hno : its.toArray[i]? = none := by
      have := rv.length
      simp; omega
    have D0 : Draws X.prog X.w X.A.in1 j [j, a] 0 (fun _ _ => True) (fun _ h => h.IsTupleIter j a i ∧ h.IsTuple a its.toArray) :=
      ⟨fun _ _ st => let ⟨o, ho, _⟩ := st.1; ⟨o, ho⟩, fun _ _ _ st hk => ⟨st.1.at fun o e => hk j (by simp) o e, st.2.at fun o e => hk a (by simp) o e⟩,
        fun k _ _ _ hk => absurd hk (Nat.not_lt_zero k), fun s Q E st h => wpAny_nextOf_tuple_end (by simp [hn]) st.1 st.2 hno h⟩
    obtain ⟨f0, f1, f2, f3, f4, f5⟩ := hf j (by simp)
    exact wpAny_pyNext_enum_endD D0 q1 ⟨q2, p⟩ fun h' eb => ⟨rfl, I.turned (t' := s.toks) (fun b o hb q => eb b o hb q) f0 f1 f3 f4 f5⟩
  self := fun A i s Q E z h => by
    obtain ⟨⟨_, q⟩, _⟩ := z
    exact wpAny_pyIter_enum q h
set_option maxHeartbeats 1000000 in
theorem meets_enum1 {v : Value} {o : Obj} {N : Heap → Prop} (B : Begins v o N) : Meets (Builtin.«enumerate.__new__» ⟨[.type "enumerate", v], []⟩) (fun _ R s => N s.heap ∧
    R (.ok (.ret (.ref (s.heap.push o).objs.size))) { s with heap := (s.heap.push o).push { cls := .type "enumerate", data := .fields #[.none, .bool false, .ref s.heap.objs.size, rawInt 0, .none, .none] } }) := by
  refine .of_wp fun prog w A R s z => ?_
  obtain ⟨h0, g0, d0, k0, os0⟩ := s
  obtain ⟨z1, z2⟩ := z
  have sb := sub_enumerate
  have it1 : ∀ {A' : Around} {E' Q' : Value → Shared → Prop}, Q' (.ref h0.objs.size) ⟨h0.push o, g0, d0, k0, os0⟩ → wpAny (model prog w) A' (pyIter v) Q' E' ⟨h0, g0, d0, k0, os0⟩ :=
    fun q => B.iter prog w _ _ ⟨h0, g0, d0, k0, os0⟩ _ z1 q
  wp_walk using it1
  refine wpAny_stack_any fun st => wpAny_pure ?_
  split
  · rename_i cl _ _ _ _ _
    cases (cl == Value.type "enumerate")
    · wp_walk using it1
      exact ⟨_, rfl, z2⟩
    · wp_walk using it1
      exact ⟨_, rfl, z2⟩
  · wp_walk using it1
    exact ⟨_, rfl, z2⟩
/-- enumerate(t): two new things -/
theorem call_enumT {P : Program} {w : World} {A : Around} {E : Value → Shared → Prop} {s : Shared} {a : Addr} {its : Array Value} {Q : Value → Shared → Prop} (ht : s.heap.IsTuple a its)
    (k : ∀ h', StE a (s.heap.objs.size + 1) s.heap.objs.size 0 h' → (∀ b o, s.heap.get? b = some o → h'.get? b = some o) → Q (.ref (s.heap.objs.size + 1)) { s with heap := h' }) :
    wpAny (model P w) A (call (.type "enumerate") [.ref a]) Q E s := by
  refine callType_new F.called_enumerate (by decide) (F.typeCall_enumerate_1 _) (F.newCall_enumerate_1 _) (fun ob => F.args_object_init_2 ob _) F.entry_enumerate_new (meets_enum1 (begins_tuple a its)) ⟨ht, ?_⟩
  have z1 : (s.heap.push { cls := .type "tuple_iterator", data := .fields #[.ref a, .int 0 0] }).objs.size = s.heap.objs.size + 1 := by rw [Heap.size_push]
  have z2 := Heap.get?_push_size (s.heap.push { cls := .type "tuple_iterator", data := .fields #[.ref a, .int 0 0] }) (o := { cls := .type "enumerate", data := .fields #[.none, .bool false, .ref s.heap.objs.size, rawInt 0, .none, .none] }) rfl
  show _ ∧ _
  rw [z1]
  rw [z1] at z2
  exact ⟨⟨_, z2, rfl⟩, k _ ⟨⟨.none, z2⟩, _, Heap.get?_push_of_some _ (Heap.get?_push_size _ rfl), rfl, rfl⟩ fun b o e => Heap.get?_push_of_some _ (Heap.get?_push_of_some _ e)⟩
def iEnumT (K : PySem.W.Frag) (ta : TA) : TI := fun σ H R => ta σ H fun vs J => ∃ a ys, vs = [.ref a] ∧ SqT K J a ys ∧ R (ItE K a) J
theorem pi_enumT {X : Cx} {K : PySem.W.Frag} {e : Expr} {ta : TA} {p pos tpos : Pos} {elts : List Expr} {kk : Nat} (hK : X.K = K) (hg : Gl X "enumerate") (hm : X.mg "enumerate" = none) (ha : PA X [e] ta) (hs : starEach [e] X.env = [(false, eval e X.env)] := by rfl) :
    PI X (.Tuple elts kk tpos) (.Call (.Name "enumerate" p) [e] [] pos) (iEnumT K ta) := by
  subst hK
  refine ⟨fun pins s σ H R I h => Call_ (ld_blt I hg hm boot_enumerate (PyProof.Rows.callWith_type1 (thn (ha.run pos pins s σ H _ I h) fun us s1 ⟨vs, J, I1, r1, q1⟩ => ?_) hs rfl))⟩
  obtain ⟨a, ys, rfl, hq, q⟩ := q1
  obtain ⟨u, rfl, ru⟩ := r1.one
  cases ru
  obtain ⟨its, rv, p', _⟩ := I1.tuple hq
  refine call_enumT p' fun h' hst hk => ?_
  obtain ⟨⟨y, q1⟩, q2⟩ := hst
  refine wpAny_pyIter_enum q1 ?_
  refine ⟨s1.heap.objs.size + 1, [s1.heap.objs.size + 1, s1.heap.objs.size], _, _, J, rfl, I1.kept (t' := s1.toks) hk, turn_enumT a (s1.heap.objs.size + 1) s1.heap.objs.size (Nat.succ_ne_self _), ⟨⟨y, q1⟩, q2⟩, fun b hb => ?_, q⟩
  have hle : s1.heap.objs.size ≤ b := by
    rcases List.mem_cons.mp hb with z | z
    · rw [z]; exact Nat.le_succ _
    · obtain rfl : b = s1.heap.objs.size := by simpa using z
      exact Nat.le_refl _
  exact I1.fpOk hle (I1.hok.fresh hle)
section
variable {Z : Zz} {W : XK}
theorem walks_enumT {a : Addr} {I : Hp} {vs : List V} {xs : List PyData} (s1 : SqT Z.K I a vs) (h1 : DpAll Z.K I vs xs) : Walks Z (ItE Z.K a) I (enumD xs) := by
  have hl : (enumD xs).length = vs.length := by unfold enumD; rw [List.length_map, List.length_zipIdx, dps_len h1]
  refine ⟨fun i H e hi => ⟨vs, vs[i]'(by omega), sqT_grows e s1, by simp⟩, fun H e => ⟨vs, sqT_grows e s1, by omega⟩, ?_⟩
  rintro i H v H' x Ic c e k ex ⟨T, u, rfl, nT, rfl, y1⟩
  have gr : Grows I H := fun b o z => k.ex b o (e b o z)
  obtain ⟨p, e1, d1⟩ := dps_get' h1 (y1 vs (sqT_grows gr s1))
  have ex : x = .d (.tuple [.int (i : Nat), p]) := by
    unfold enumD at ex
    rw [List.getElem?_map, List.getElem?_zipIdx, e1] at ex
    simpa using ex.symm
  subst ex
  obtain ⟨g2, k2⟩ := Gr.new (o := .tup [.int (i : Nat), u]) k nT
  exact ⟨_, g2, k2, .tup (.inl (.inl upd_same)) (dps_grows g2.ii _ _ (.cons (.int _) (.cons (dp_grows e _ _ d1) .nil)))⟩
def dIET (da : DenA) : DenI := fun δ c => (da δ c).bind fun xs c => match xs with
  | [.d (.tuple xs)] => .ok (enumD xs) c
  | _ => .no
theorem snd_iET {ta : TA} {da : DenA} (h : SndA Z W ta da) : SndI Z W (iEnumT Z.K ta) (dIET da) := by
  intro H0 I H σ δ c a Q r
  refine h _ _ _ _ _ _ a _ (Res.imp (Res.bind r) fun x c1 I1 H1 g1 k1 h1 v hv => ?_)
  split at h1
  · cases hv with
    | cons q t =>
      cases t
      cases q with
      | tup s u => exact ⟨_, _, rfl, sqT_grows k1.ex s, Res.ok k1 h1 _ (walks_enumT s u)⟩
  · exact h1.elim
end
theorem k_ieT [Enc α] {xs : Tp α} : PV (fun c => match [Vl.d (enc xs)] with
  | [.d (.tuple xs)] => R.ok (enumD xs) c
  | _ => .no) (vls (enumL xs.l)) := fun c => by
  show R.ok (enumD (xs.l.map enc)) c = _
  rw [enumD_enc]
theorem b_iET {da : DenA} {K : List Vl → Int → R κ} (h : BK (da δ) (fun xs c => (match xs with
  | [.d (.tuple xs)] => R.ok (enumD xs) c
  | _ => .no).bind K) m o) : BK (dIET da δ) K m o := by
  intro c
  show Rf (m c) o ((dIET da δ c).bind K)
  unfold dIET
  rw [R.bind_assoc]
  exact h c
end Dn
namespace Dn
open PySem PySem.Spec PyProof.Rows L2
open Dn.Enc (enc)
/-! set(list of ints) -/
abbrev set0 (w : World) : Obj := { cls := .type "set", dict := none, data := .set #[] 0 (.fresh 0 0 (!w.params.followText "set-order")) }
section
variable {P : Program} {w : World} {A : Around} {E : Value → Shared → Prop} {t0 : Shared}
theorem call_setL {l : Addr} {its : Array Value} (zs : List Int) {Q : Value → Shared → Prop} (hn : A.handled = none) (il : t0.heap.IsList l its) (iz : IntsAre its.toList zs) (few : zs.length + 1 < scanBound)
    (k : ∀ (h1 : Heap) (tk c : Nat), SetR w h1 t0.heap.objs.size (fun j => decide (j ∈ zs)) c → c ≤ zs.length → (∀ b o, t0.heap.get? b = some o → h1.get? b = some o) → Q (.ref t0.heap.objs.size) { t0 with heap := h1, toks := tk }) :
    wpAny (model P w) A (call (.type "set") [.ref l]) Q E t0 := by
  have hsz : its.size = zs.length := by rw [← Array.length_toList]; exact IntsAre.length iz
  obtain ⟨c1, tl1, m1⟩ := F.called_set.mro
  have m2 := F.called_set.made
  have m3 := F.called_set.sub
  refine wpAny_call (codeAny_of_tree ?_)
  show wpAny _ _ (callAny (.type "set") _) _ _ _
  refine wpAny_pure ⟨Code.quiet_builtin _ (by decide +kernel), codeAny_builtin F.entry_type_call ?_⟩
  rw [Around.under_plain (weight_type_call_type "set" [.ref l] []) rfl]
  have m4 := F.called_set.notType; have m5 := F.called_set.canCreate; have m6 := F.typeCall_set_1 (.ref l)
  repeat (any_goals (first | assumption | wp_step))
  refine codeAny_mono (code_set_led1 (.ref l) (E := E) (Q₁ := fun ob t1 => ob = .ref t0.heap.objs.size ∧ t1 = { t0 with heap := t0.heap.push (set0 w) }) ⟨rfl, rfl⟩) fun r t1 hr => ?_
  match r, hr with
  | .error e, hr => exact hr
  | .ok (.ret ob), hr =>
    obtain ⟨e1, e2⟩ := hr
    subst e1 e2
    have gS : (t0.heap.push (set0 w)).get? t0.heap.objs.size = some (set0 w) := Heap.get?_push_size _ rfl
    have tS : Shared.TypeIs { t0 with heap := t0.heap.push (set0 w) } (.ref t0.heap.objs.size) "set" := ⟨_, gS, rfl⟩
    have m7 := F.called_set.init.lookup; have m8 := F.called_set.init.bind (.ref t0.heap.objs.size)
    repeat (any_goals (first | assumption | wp_step))
    refine codeAny_mono (codeAny_call_builtin (R := wants (fun r t2 => r = .none ∧ ∃ h1 tk c, t2 = { t0 with heap := h1, toks := tk } ∧ SetR w h1 t0.heap.objs.size (fun j => decide (j ∈ zs)) c ∧ c ≤ zs.length ∧
      (∀ b o, t0.heap.get? b = some o → h1.get? b = some o)) E) F.called_set.init.plain F.entry_set_init (check_set_init_1 tS ?_)) fun r2 t2 hr2 => ?_
    · obtain ⟨⟨oc, od, oda, osl⟩, gl, hc, n, hd⟩ := il
      simp only at hc hd
      subst hc hd
      have gl1 : (t0.heap.push (set0 w)).get? l = some { cls := .type "list", dict := od, data := .seq its n, slots := osl } := Heap.get?_push_of_some _ gl
      have il1 : (t0.heap.push (set0 w)).IsList l its := ⟨_, gl1, rfl, n, rfl⟩
      have u1 := F.sub_list_set; have u2 := F.sub_list_frozenset
      have u3 : (Value.type "list" == Value.type "dict") = false := by decide
      unfold Builtin.«set.__init__» noKeywords Builtin.Frozenset.updateFrom
      generalize hPI : pyIter = PI
      wp_walk
      subst hPI
      refine wpAny_pyIter_list il1 (wpAny_bind (wpAny_runValue ?_))
      have lS : l < t0.heap.objs.size := Heap.lt_size gl
      have zS : (t0.heap.push (set0 w)).objs.size = t0.heap.objs.size + 1 := Heap.size_push ..
      have lI : l ≠ (t0.heap.push (set0 w)).objs.size := by rw [zS]; exact Nat.ne_of_lt (Nat.lt_succ_of_lt lS)
      have vz : ∀ (i : Nat) (v : Value), its[i]? = some v → ∃ z t, zs[i]? = some z ∧ v = .int z t := fun i v hv => by
        have hi : i < zs.length := by rw [← hsz]; exact (Array.getElem?_eq_some_iff.mp hv).1
        obtain ⟨t, e⟩ := PyProof.Rows.IntsAre.int_at iz i v (by rw [Array.getElem?_toList]; exact hv)
        exact ⟨zs[i], t, List.getElem?_eq_getElem hi, by rw [e, List.getD_eq_getElem?_getD, List.getElem?_eq_getElem hi]; rfl⟩
      have hn3 : A.in1.in1.in1.handled = none := by simp [hn]
      refine set_update_ints ((Walks.list hn3 _ l lI its).toS) t0.heap.objs.size (by rw [zS]; exact fun q => (List.mem_cons.mp q).elim (fun e => Nat.ne_of_lt (Nat.lt_succ_self _) e) fun q => Nat.ne_of_gt lS (List.mem_singleton.mp q)) zs hsz few vz (its.size - 0) 0 _ (by omega) (Nat.zero_le _) ⟨⟨_, Heap.get?_push_size _ rfl, rfl, rfl⟩, il1.push _⟩
        ⟨0, Nat.le_refl 0, setR_new_at (Heap.get?_push_of_some _ gS)⟩ fun t3 c mv hc3 R3 => ?_
      obtain ⟨h3, g3, d3, k3, os3⟩ := t3
      obtain rfl : g3 = t0.gens := mv.gens
      obtain rfl : d3 = t0.drawn := mv.drawn
      obtain rfl : os3 = t0.os := mv.os
      show wpAny _ _ _ _ _ _
      refine wpAny_pure ?_
      show wpAny _ _ (ret Value.none) _ _ _
      refine wpAny_pure ⟨rfl, h3, k3, c, rfl, R3, by rw [← hsz]; exact hc3, fun b o e => ?_⟩
      have hb := Heap.lt_size e
      exact mv.heap b o (by rw [zS]; exact fun q => (List.mem_cons.mp q).elim (fun e => Nat.ne_of_lt hb e) fun q => Nat.ne_of_lt (Nat.lt_succ_of_lt hb) (List.mem_singleton.mp q)) (Heap.get?_push_of_some _ (Heap.get?_push_of_some _ e))
    · match r2, hr2 with
      | .error e, hr2 => exact hr2
      | .ok (.ret ob), hr2 =>
        obtain ⟨rfl, h1, tk, c, rfl, R3, hc3, kp⟩ := hr2
        repeat (any_goals (first | assumption | wp_step))
        exact k _ _ _ R3 hc3 kp
end
/-! sorted(set(xs)) of ints -/
def tSortSet (K : PySem.W.Frag) (ta : TE) : TE := fun σ H Q => ta σ H fun x J => ∃ (l : Addr) (zs : List Int), x = V.ref l ∧ SqL K J l (zs.map V.int) ∧ zs.length < 64 ∧
  ∀ (ms : List Int) (p : Addr), ms.Pairwise (· < ·) → (∀ k : Int, k ∈ ms ↔ k ∈ zs) → J p = none → Q (.ref p) (upd J p (.lst (ms.map V.int)))
theorem sorted_inv {X : Cx} {pins : List (Addr × Obj)} {σ : L2.St} {J : Hp} {t1 : Shared} {S : Int → Bool} {n : Nat} {b : Addr} {Q : VK} (I : L2.Inv X pins σ J t1) (hc : X.calm = true) (R : SetR X.w t1.heap b S n) (few : n < 64)
    (k : ∀ (ms : List Int) (p : Addr), ms.Pairwise (· < ·) → (∀ z : Int, z ∈ ms ↔ S z = true) → J p = none → Q (.ref p) (upd J p (.lst (ms.map V.int)))) :
    wpAny (model X.prog X.w) X.A (call (.builtin "sorted") [.ref b]) (EP X pins σ Q) X.xe t1 := by
  refine sorted_set R (I.ok.hd hc) few fun t2 p out c2 ns kk g o hp hg' hi hs hmm hl => ?_
  have hlen : (ns.map V.int).length ≤ sizeLine := by rw [List.length_map, hl, sizeLine_eq]; omega
  have hn : J p = none := I.hok.fresh hp
  have I3 : L2.Inv X pins σ (upd J p (.lst (ns.map V.int))) { t1 with heap := t2.heap, gens := t2.gens, drawn := t2.drawn, toks := t2.toks } :=
    I.call (ch := []) (Un.laid kk hp hn) (I.hok.laid kk hp ⟨hlen, out.toList, c2, vals_of_ints hi, hg'⟩) (by rw [g]; exact I.bare) (fun _ z => nomatch z)
  have e : t2 = { t1 with heap := t2.heap, gens := t2.gens, drawn := t2.drawn, toks := t2.toks } := by
    cases t2; cases t1; cases o; rfl
  rw [e]
  exact ⟨.ref p, _, I3, rfl, k ns p hs hmm hn⟩
theorem pe_sortSet {X : Cx} {K : PySem.W.Frag} {e : Expr} {ta : TE} {p1 p2 q1 q2 : Pos} (hK : X.K = K) (hc : X.calm = true) (hg : Gl X "sorted") (hm : X.mg "sorted" = none) (hg2 : Gl X "set") (hm2 : X.mg "set" = none) (ha : PE X e ta)
    (na : starEach [e] X.env = (false, eval e X.env) :: starEach [] X.env := by rfl) : PE X (.Call (.Name "sorted" p1) [.Call (.Name "set" p2) [e] [] q1] [] q2) (tSortSet K ta) := by
  subst hK
  refine ⟨fun pins s σ H Q I h => Call_ (ld_blt I hg hm PyProof.Rows.boot_sorted (PyProof.Rows.callWith_builtin1 (PyProof.Rows.args_cons ?_ rfl) rfl rfl))⟩
  refine Call_ (ld_blt I hg2 hm2 PyProof.Rows.boot_set (PyProof.Rows.callWith_type1 (PyProof.Rows.args_cons (thn (ha.run pins s σ H _ I h) fun v s1 ⟨x, J, I1, r1, z⟩ => PyProof.Rows.args_nil ?_) na) na rfl))
  obtain ⟨l, zs, rfl, hq, hz, k⟩ := z
  cases r1
  obtain ⟨its, rv, pl, _⟩ := I1.list hq
  refine call_setL zs (I1.ok.hd hc) pl.isList (by simpa using rv.ints) (by unfold scanBound; omega) fun h1 tk c R hcz kp => PyProof.Rows.args_nil ?_
  have I2 : L2.Inv X pins σ J { s1 with heap := h1, toks := tk } := I1.kept kp
  exact sorted_inv I2 hc R (by omega) fun ms p pw pm hp => k ms p pw (fun j => by rw [pm]; simp) hp
def sortSet (zs : List Int) : List Int := sortI (zs.eraseDups)
theorem sortSet_mem {zs : List Int} {k : Int} : k ∈ sortSet zs ↔ k ∈ zs := by
  unfold sortSet
  rw [(sortI_perm _).mem_iff, List.mem_eraseDups]
theorem eraseDups_nd : ∀ (n : Nat) (zs : List Int), zs.length ≤ n → zs.eraseDups.Nodup
  | 0, [], _ => by simp
  | 0, _ :: _, h => by simp at h
  | n + 1, [], _ => by simp
  | n + 1, z :: zs, h => by
    rw [List.eraseDups_cons]
    refine List.nodup_cons.mpr ⟨?_, eraseDups_nd n _ (Nat.le_trans (List.length_filter_le _ _) (by simpa using h))⟩
    rw [List.mem_eraseDups]
    simp
theorem sortSet_lt (zs : List Int) : (sortSet zs).Pairwise (· < ·) := by
  have h1 := sortI_le zs.eraseDups
  have h2 : (sortI zs.eraseDups).Nodup := (sortI_perm _).nodup_iff.mpr (eraseDups_nd _ _ (Nat.le_refl _))
  exact (h1.and h2).imp fun ⟨a, b⟩ => by omega
theorem lt_one : ∀ {as bs : List Int}, as.Pairwise (· < ·) → bs.Pairwise (· < ·) → (∀ k, k ∈ as ↔ k ∈ bs) → as = bs := fun {as bs} h1 h2 e => by
  have p : as.Perm bs := (List.perm_ext_iff_of_nodup (h1.imp fun h => by omega) (h2.imp fun h => by omega)).mpr e
  exact sorted_one (fun a b h1 h2 => Int.le_antisymm h1 h2) p (h1.imp fun h => by omega) (h2.imp fun h => by omega)
def gSortSet : Vl → Int → R (List PyData)
  | .d (.list xs), c => match intsOf xs with
    | some zs => if zs.length < 64 then .ok ((sortSet zs).map .int) c else .no
    | none => .no
  | _, _ => .no
def dSortSet (da : Den) : DenL := fun δ c => (da δ c).bind gSortSet
theorem snd_sortSet {Z : Zz} {W : XK} {ta : TE} {da : Den} (h : SndE Z W ta da) : SndL Z W (tSortSet Z.K ta) (dSortSet da) := by
  intro H0 I H σ δ c a Q r
  refine h _ _ _ _ _ _ a _ (Res.imp (Res.bind r) fun x c1 I1 H1 g1 k1 h1 v hv => ?_)
  unfold gSortSet at h1
  split at h1
  · split at h1
    · split at h1
      · rename_i zs e hl
        have hv : Dp Z.K I1 v (.list _) := hv
        cases hv with
        | lst s t =>
          rw [intsOf_eq e] at t
          have := dps_ints' _ t
          subst this
          refine ⟨_, zs, rfl, sqL_grows k1.ex s, hl, fun ms p pw pm hp => ?_⟩
          rw [lt_one pw (sortSet_lt zs) fun k => (pm k).trans sortSet_mem.symm]
          exact newL k1 (dps_ints _) (Res.imp h1 fun xs c3 I3 H3 g3 k3 q l vs f0 => q l vs (freshB g1 f0)) p hp
      · exact h1.elim
    · exact h1.elim
  · exact h1.elim
@[irreducible] def sortSetM (zs : List Int) : M (List Int) := if zs.length < 64 then M.ret (sortSet zs) else M.no
theorem sortSetM_ok {zs : List Int} (h : zs.length < 64) : sortSetM zs = M.ret (sortSet zs) := by
  unfold sortSetM
  rw [if_pos h]
theorem k_sortSet {zs : List Int} : RK (sortSetM zs) (List.map enc) (gSortSet (.d (enc zs))) := fun c => by
  show Rf (sortSetM zs c) _ (match intsOf (zs.map enc) with
    | some zs => if zs.length < 64 then R.ok ((sortSet zs).map PyData.int) c else .no
    | none => .no)
  rw [intsOf_enc]
  unfold sortSetM
  by_cases h : zs.length < 64
  · rw [if_pos h]; show Rf _ _ (if zs.length < 64 then _ else _); rw [if_pos h]; exact rfl
  · rw [if_neg h]; trivial
theorem b_sortSet {da : Den} {K : List PyData → Int → R κ} (h : BK (da δ) (fun x c => (gSortSet x c).bind K) m o) : BK (dSortSet da δ) K m o := by
  intro c
  show Rf (m c) o (((da δ c).bind gSortSet).bind K)
  rw [R.bind_assoc]
  exact h c
end Dn
namespace Dn
open PySem PySem.Spec PyProof.Rows L2
open Dn.Enc (enc)
section
variable {Z : Zz} {W : XK}
/-! lists in a list of one's own: all kept for good -/
def addH (I H : Hp) (as : List Addr) : Hp := fun a => if a ∈ as then H a else I a
theorem addH_grows {I H : Hp} {as : List Addr} (h : ∀ a ∈ as, I a = none) : Grows I (addH I H as) := fun a o e => by
  unfold addH
  rw [if_neg (fun m => by rw [h a m] at e; cases e)]
  exact e
theorem Rws.freezeA {H0 I H : Hp} {as : List Addr} (hn : ∀ a ∈ as, I a = none) {rs : List Addr} {xss : List (List PyData)} (h : Rws Z H0 I H rs xss) : (∀ a ∈ as, a ∉ rs) → Rws Z H0 (addH I H as) H rs xss := by
  have gi := addH_grows (H := H) hn
  induction h with
  | nil => exact fun _ => .nil
  | cons h1 h2 h3 h4 h5 h6 _ ih => exact fun n => .cons h1 (by unfold addH; rw [if_neg (fun m => n _ m List.mem_cons_self)]; exact h2) h3 h4 (dps_grows gi _ _ h5) h6 (ih fun a m k => n a m (List.mem_cons_of_mem _ k))
theorem Sls.freezeA {H0 I H : Hp} {as : List Addr} (hn : ∀ a ∈ as, I a = none) {σ : L2.St} {δ : List Sl} {bs : List Addr} (h : Sls Z H0 I H σ δ bs) : (∀ a ∈ as, a ∉ bs) → Sls Z H0 (addH I H as) H σ δ bs := by
  have gi := addH_grows (H := H) hn
  induction h with
  | nil => exact fun _ => .nil
  | no _ ih => exact fun n => .no (ih n)
  | im a _ ih => exact fun n => .im (vok_grows gi a) (ih n)
  | ow h1 h2 h3 h4 h5 h6 _ ih => exact fun n => .ow h1 (by unfold addH; rw [if_neg (fun m => n _ m List.mem_cons_self)]; exact h2) h3 h4 (dps_grows gi _ _ h5) h6 (ih fun a m k => n a m (List.mem_cons_of_mem _ k))
  | od h1 h5 h2 h3 h4 h6 _ ih => exact fun n => .od h1 (dk_grows gi h5) (by unfold addH; rw [if_neg (fun m => n _ m List.mem_cons_self)]; exact h2) h3 h4 h6 (ih fun a m k => n a m (List.mem_cons_of_mem _ k))
  | ow2 h1 h2 h3 h4 h5 h6 h7 _ ih => exact fun n => .ow2 h1 (by unfold addH; rw [if_neg (fun m => n _ m (List.mem_append_left _ List.mem_cons_self))]; exact h2) h3 h4 (h5.freezeA hn fun a m k => n a m (List.mem_append_left _ (List.mem_cons_of_mem _ k))) h6 h7 (ih fun a m k => n a m (List.mem_append_right _ k))
theorem Rws.vals {H0 I H I' : Hp} (gi : Grows I I') {rs : List Addr} {xss : List (List PyData)} (h : Rws Z H0 I H rs xss) : (∀ r ∈ rs, I' r = H r) → DpAll Z.K I' (rs.map V.ref) (xss.map PyData.list) := by
  induction h with
  | nil => exact fun _ => .nil
  | cons h1 h2 h3 h4 h5 h6 _ ih => exact fun e => .cons (.lst (.inl (.inl ((e _ List.mem_cons_self).trans h1))) (dps_grows gi _ _ h5)) (ih fun r m => e r (List.mem_cons_of_mem _ m))
theorem Sls.frz2 {H0 I H : Hp} {σ : L2.St} {δ : List Sl} {as : List Addr} (h : Sls Z H0 I H σ δ as) : ∀ {i : Nat} {xss : List (List PyData)} {l : Addr} {rs : List Addr}, δ[i]? = some (.ow2 xss) → σ[i]? = some (some (.ref l)) → H l = some (.lst (rs.map V.ref)) →
    ∃ bs, Sls Z H0 (addH I H (l :: rs)) H σ (δ.set i (.im (.d (.list (xss.map PyData.list))))) bs ∧ ∀ b ∈ bs, b ∈ as := by
  have inj : ∀ {as bs : List Addr}, as.map V.ref = bs.map V.ref → as = bs := fun {as bs} e => (List.map_inj_right (fun _ _ z => V.ref.inj z)).mp e
  induction h with
  | nil => intro i x l rs e; simp at e
  | no h ih => intro i x l rs e f g; cases i with
    | zero => simp at e
    | succ i => obtain ⟨bs, a, b⟩ := ih (i := i) (xss := x) (l := l) (rs := rs) (by simpa using e) (by simpa using f) g; exact ⟨bs, .no a, b⟩
  | im q h ih => intro i x l rs e f g; cases i with
    | zero => simp at e
    | succ i =>
      have e' := (List.getElem?_cons_succ ▸ e)
      have f' := (List.getElem?_cons_succ ▸ f)
      obtain ⟨l2, rs2, f2, m, m2, g2, _⟩ := h.own2 e'
      have : l2 = l := by rw [f2] at f'; cases f'; rfl
      subst this
      have : rs2 = rs := inj (HO.lst.inj (Option.some.inj (g2.symm.trans g)))
      subst this
      have hn : ∀ a ∈ l2 :: rs2, _ = none := fun a k => by
        rcases List.mem_cons.mp k with z | z
        · subst z; exact (h.at m).choose_spec.2.1
        · exact (h.at (m2 a z)).choose_spec.2.1
      obtain ⟨bs, a, b⟩ := ih (i := i) e' f' g
      exact ⟨bs, .im (vok_grows (addH_grows hn) q) a, b⟩
  | ow h1 h2 h3 h4 h5 h6 h ih => intro i x l rs e f g; cases i with
    | zero => simp at e
    | succ i =>
      have e' := (List.getElem?_cons_succ ▸ e)
      have f' := (List.getElem?_cons_succ ▸ f)
      obtain ⟨l2, rs2, f2, m, m2, g2, _⟩ := h.own2 e'
      have : l2 = l := by rw [f2] at f'; cases f'; rfl
      subst this
      have : rs2 = rs := inj (HO.lst.inj (Option.some.inj (g2.symm.trans g)))
      subst this
      have hn : ∀ a ∈ l2 :: rs2, _ = none := fun a k => by
        rcases List.mem_cons.mp k with z | z
        · subst z; exact (h.at m).choose_spec.2.1
        · exact (h.at (m2 a z)).choose_spec.2.1
      obtain ⟨bs, a, b⟩ := ih (i := i) e' f' g
      refine ⟨_ :: bs, .ow h1 ?_ h3 h4 (dps_grows (addH_grows hn) _ _ h5) (fun m => h6 (b _ m)) a, fun c k => ?_⟩
      · unfold addH
        rw [if_neg (fun k => h6 ((List.mem_cons.mp k).elim (fun z => by rw [z]; exact m) (m2 _)))]
        exact h2
      · cases k with
        | head => exact List.mem_cons_self
        | tail _ k => exact List.mem_cons_of_mem _ (b _ k)
  | od h1 h5 h2 h3 h4 h6 h ih => intro i x l rs e f g; cases i with
    | zero => simp at e
    | succ i =>
      have e' := (List.getElem?_cons_succ ▸ e)
      have f' := (List.getElem?_cons_succ ▸ f)
      obtain ⟨l2, rs2, f2, m, m2, g2, _⟩ := h.own2 e'
      have : l2 = l := by rw [f2] at f'; cases f'; rfl
      subst this
      have : rs2 = rs := inj (HO.lst.inj (Option.some.inj (g2.symm.trans g)))
      subst this
      have hn : ∀ a ∈ l2 :: rs2, _ = none := fun a k => by
        rcases List.mem_cons.mp k with z | z
        · subst z; exact (h.at m).choose_spec.2.1
        · exact (h.at (m2 a z)).choose_spec.2.1
      obtain ⟨bs, a, b⟩ := ih (i := i) e' f' g
      refine ⟨_ :: bs, .od h1 (dk_grows (addH_grows hn) h5) ?_ h3 h4 (fun m => h6 (b _ m)) a, fun c k => ?_⟩
      · unfold addH
        rw [if_neg (fun k => h6 ((List.mem_cons.mp k).elim (fun z => by rw [z]; exact m) (m2 _)))]
        exact h2
      · cases k with
        | head => exact List.mem_cons_self
        | tail _ k => exact List.mem_cons_of_mem _ (b _ k)
  | @ow2 l0 rs0 xss0 σ0 δ0 as0 h1 h2 h3 h4 h5 h6 h7 h ih => intro i x l rs e f g; cases i with
    | zero =>
      simp at e f
      subst e f
      have := inj (HO.lst.inj (Option.some.inj (h1.symm.trans g)))
      subst this
      have hn : ∀ a ∈ l0 :: rs0, I a = none := fun a k => by
        rcases List.mem_cons.mp k with z | z
        · subst z; exact h2
        · exact (h5.at z).choose_spec.2.1
      have gi := addH_grows (H := H) hn
      refine ⟨_, .im (.lst (.inl (.inl ?_)) (h5.vals gi fun r m => ?_)) (h.freezeA hn fun a m k => h7 a m k), fun b m => List.mem_append_right _ m⟩
      · unfold addH; rw [if_pos List.mem_cons_self]; exact h1
      · unfold addH; rw [if_pos (List.mem_cons_of_mem _ m)]
    | succ i =>
      have e' := (List.getElem?_cons_succ ▸ e)
      have f' := (List.getElem?_cons_succ ▸ f)
      obtain ⟨l2, rs2, f2, m, m2, g2, _⟩ := h.own2 e'
      have : l2 = l := by rw [f2] at f'; cases f'; rfl
      subst this
      have : rs2 = rs := inj (HO.lst.inj (Option.some.inj (g2.symm.trans g)))
      subst this
      have hn : ∀ a ∈ l2 :: rs2, _ = none := fun a k => by
        rcases List.mem_cons.mp k with z | z
        · subst z; exact (h.at m).choose_spec.2.1
        · exact (h.at (m2 a z)).choose_spec.2.1
      obtain ⟨bs, a, b⟩ := ih (i := i) e' f' g
      have ap : ∀ c ∈ l2 :: rs2, c ∈ _ := fun c k => (List.mem_cons.mp k).elim (fun z => by rw [z]; exact m) (m2 _)
      refine ⟨_ ++ bs, .ow2 h1 ?_ h3 h4 (h5.freezeA hn fun c k z => h7 c (List.mem_cons_of_mem _ z) (ap c k)) h6 (fun c m n => h7 c m (b _ n)) a, fun c m => (List.mem_append.mp m).elim (fun m => List.mem_append_left _ m) fun m => List.mem_append_right _ (b _ m)⟩
      unfold addH
      rw [if_neg (fun k => h7 _ List.mem_cons_self (ap _ k))]
      exact h2
def frz2 (δ : List Sl) (i : Nat) : List Sl := match δ[i]? with
  | some (.ow2 xss) => δ.set i (.im (.d (.list (xss.map PyData.list))))
  | _ => δ
def dFrz2 (i : Nat) (ds : DenS) : DenS := fun δ c => ds (frz2 δ i) c
theorem sns_frz2 {i : Nat} {ts : TS} {ds : DenS} (h : SndS Z W ts ds) : SndS Z W ts (dFrz2 i ds) := by
  intro I0 H0 I H σ δ c g a D r
  unfold dFrz2 frz2 at r
  split at r
  · rename_i xss e
    obtain ⟨as, s⟩ := a.sl
    obtain ⟨l, rs, h1, m, m2, h2, h3, h4⟩ := s.own2 e
    have al : ∀ b ∈ l :: rs, ∃ o, H b = some o ∧ I b = none ∧ H0 b = none ∧ Z.sa ≠ some b := fun b k => by
      rcases List.mem_cons.mp k with z | z
      · subst z; exact s.at m
      · exact s.at (m2 b z)
    have hn : ∀ b ∈ l :: rs, I b = none := fun b k => by obtain ⟨_, _, z, _⟩ := al b k; exact z
    have gi := addH_grows (H := H) hn
    obtain ⟨bs, s2, _⟩ := s.frz2 e h1 h2
    refine h I0 H0 (addH I H (l :: rs)) H σ _ c ⟨fun b o z => gi b o (g.ii b o z), g.hh, g.th, fun b z n => ?_⟩ ⟨⟨bs, s2⟩, ⟨fun b o z => ?_, fun b z => ?_⟩⟩ D r
    · unfold addH
      rw [if_neg (fun k => by obtain ⟨_, _, _, y, _⟩ := al b k; exact z y)]
      exact g.fr b z n
    · unfold addH at z
      split at z
      · exact z
      · exact a.k.ex b o z
    · obtain ⟨n, p, e1, e2⟩ := a.k.st b z
      refine ⟨?_, p, e1, e2.1, sqL_grows gi e2.2⟩
      unfold addH
      rw [if_neg (fun k => by obtain ⟨_, _, _, _, y⟩ := al b k; exact y z)]
      exact n
  · exact h I0 H0 I H σ δ c g a D r
end
end Dn
namespace Dn
open PySem PySem.Spec PyProof.Rows L2
open Dn.Enc (enc)
section
variable {Z : Zz} {W : XK}
/-! x[i][j], where x has lists of one's own -/
def row2 (xss : List (List PyData)) : Vl → Option (Nat × List PyData)
  | .d (.int n) => (ixN xss.length n).bind fun j => (xss[j]?).map fun xs => (j, xs)
  | _ => none
def dIxO2 (i : Nat) (da db : Den) : Den := fun δ c => match δ[i]? with
  | some (.ow2 xss) => (da δ c).bind fun y c => match row2 xss y with
    | some p => (db δ c).bind (gIxL p.2)
    | none => .no
  | _ => .no
theorem row2_of {H0 I H : Hp} {rs : List Addr} {xss : List (List PyData)} (h : Rws Z H0 I H rs xss) {y : Vl} {p : Nat × List PyData} (e : row2 xss y = some p) :
    ∃ n r vs, y = .d (.int n) ∧ ixN xss.length n = some p.1 ∧ xss[p.1]? = some p.2 ∧ rs[p.1]? = some r ∧ H r = some (.lst vs) ∧ DpAll Z.K I vs p.2 ∧ atI (rs.map V.ref) n = some (.ref r) := by
  unfold row2 at e
  split at e
  · rename_i n
    cases q : ixN xss.length n with
    | none => rw [q] at e; cases e
    | some j =>
      rw [q] at e
      cases q2 : xss[j]? with
      | none => simp [q2] at e
      | some xs =>
        simp [q2] at e
        subst e
        obtain ⟨r, vs, a, b, c⟩ := h.get q2
        refine ⟨n, r, vs, rfl, q, q2, a, b, c, ?_⟩
        unfold atI
        rw [List.length_map, h.len, q]
        simp [a]
  · cases e
theorem snd_ixO2 {i : Nat} {ta tb : TE} {da db : Den} (ha : SndE Z W ta da) (hb : SndE Z W tb db) : SndE Z W (tOp (rIx Z.K) (tOp (rIx Z.K) (tVar i) ta) tb) (dIxO2 i da db) := by
  intro H0 I H σ δ c a Q h
  unfold dIxO2 at h
  split at h
  · rename_i xss e
    obtain ⟨as, s⟩ := a.sl
    obtain ⟨l, rs, h1, m, m2, h2, h3, h4⟩ := s.own2 e
    obtain ⟨_, _, _, _, n2⟩ := s.at m
    refine ⟨.ref l, h1, ?_⟩
    refine ha _ _ _ _ _ _ a _ (Res.imp (Res.bind h) fun y c1 I1 H1 g1 k1 hh w hw => ?_)
    split at hh
    · rename_i p ep
      obtain ⟨n, r, vs, rfl, q1, q2, q3, q4, q5, q6⟩ := row2_of (h3.mono g1) ep
      cases hw
      refine .inl ⟨_, _, _, _, rfl, rfl, .inl (.inl (g1.hh _ _ n2 h2)), q6, ?_⟩
      obtain ⟨_, _, _, _, n3⟩ := s.at (m2 r (List.mem_of_getElem? q3))
      refine hb _ _ _ _ _ _ (a.go g1 k1) _ (Res.imp (Res.bind hh) fun z c2 I2 H2 g2 k2 hh2 w2 hw2 => ?_)
      unfold gIxL at hh2
      split at hh2
      · split at hh2
        · rename_i d e4
          cases hw2
          obtain ⟨v, h5, h6⟩ := atI_of (dps_grows g2.ii _ _ q5) e4
          exact .inl ⟨_, _, _, v, rfl, rfl, .inl (.inl (g2.hh _ _ n3 q4)), h5, Res.ok k2 hh2 v h6⟩
        · exact hh2.elim
      · exact hh2.elim
    · exact hh.elim
  · exact h.elim
/-! x[i][j] = e -/
def dSet2 (i : Nat) (da db de : Den) : DenS := fun δ c => (de δ c).bind fun v c => match δ[i]? with
  | some (.ow2 xss) => (da δ c).bind fun y c => match row2 xss y with
    | some p => (db δ c).bind fun k c => match v, k with
      | .d v, .d (.int n) => match ixN p.2.length n with
        | some m => .ok (.nx (δ.set i (.ow2 (xss.set p.1 (p.2.set m v))))) c
        | none => .no
      | _, _ => .no
    | none => .no
  | _ => .no
theorem sns_set2 {i : Nat} {ta tb te : TE} {da db de : Den} (ha : SndE Z W ta da) (hb : SndE Z W tb db) (he : SndE Z W te de) : SndS Z W (tAsg te (gSub (tOp (rIx Z.K) (tVar i) ta) tb rSetL)) (dSet2 i da db de) := by
  intro I0 H0 I H σ δ c g a D h
  refine he _ _ _ _ _ _ a _ (Res.imp (Res.bindS g h) fun v c1 I1 H1 g1 k1 q u hu => ?_)
  obtain ⟨q1, q2⟩ := q
  split at q2
  · rename_i xss e
    have a1 := a.go g1 k1
    obtain ⟨as, s⟩ := a1.sl
    obtain ⟨l, rs, h1, m, m2, h2, h3, h4⟩ := s.own2 e
    obtain ⟨_, _, _, _, n2⟩ := s.at m
    refine ⟨.ref l, h1, ?_⟩
    refine ha _ _ _ _ _ _ a1 _ (Res.imp (Res.bindS q1 q2) fun y c2 I2 H2 g2 k2 q w hw => ?_)
    obtain ⟨q3, q4⟩ := q
    split at q4
    · rename_i p ep
      have s2 := s.mono g2
      obtain ⟨n, r, vs, rfl, z1, z2, z3, z4, z5, z6⟩ := row2_of (h3.mono g2) ep
      cases hw
      refine .inl ⟨_, _, _, _, rfl, rfl, .inl (.inl (g2.hh _ _ n2 h2)), z6, ?_⟩
      obtain ⟨_, _, nI, nH, n3⟩ := s2.at (m2 r (List.mem_of_getElem? z3))
      refine hb _ _ _ _ _ _ (a1.go g2 k2) _ (Res.imp (Res.bindS q3 q4) fun k c3 I3 H3 g3 k3 q w2 hw2 => ?_)
      obtain ⟨q5, q6⟩ := q
      split at q6
      · split at q6
        · rename_i n' _ j hj
          cases hw2
          have hn : I3 r = none := g3.fr r (by rw [z4]; exact Option.some_ne_none _) nI
          have hd := dps_grows g3.ii _ _ z5
          refine ⟨r, vs, n', j, rfl, rfl, g3.hh _ _ n3 z4, by rw [dps_len hd]; exact hj, ?_⟩
          obtain ⟨g4, k4⟩ := own_step (o := .lst (vs.set j u)) q5 k3 nH hn n3
          exact Res.okS g4 k4 q6 _ ⟨as, (s2.mono g3).change2 (dps_set (vok_grows (fun b o z => g3.ii b o (g2.ii b o z)) hu) j hd) e h1 (g3.hh _ _ n2 (g2.hh _ _ n2 h2)) z3⟩
        · exact q6.elim
      · exact q6.elim
    · exact q4.elim
  · exact q2.elim
/-! [[..] for ..]: new lists of one's own in a new one -/
abbrev Den2 := List Sl → Int → R (List (List PyData))
def Snd2 (Z : Zz) (W : XK) (te : TE) (de : Den2) : Prop := ∀ H0 I H σ δ c, At Z H0 I H σ δ c → ∀ Q : VK,
  Res Z W I H (de δ c) (fun xss _ I' H' => ∀ l rs, H l = none → I' l = none → H' l = some (.lst (rs.map V.ref)) → Z.sa ≠ some l → Rws Z H I' H' rs xss → l ∉ rs → Q (.ref l) H') → te σ H Q
def compD2 (dg : DenG) (de : DenL) (δ : List Sl) : List Vl → Int → R (List (List PyData))
  | [], c => .ok [] c
  | x :: xs, c => match dg x δ with
    | none => .no
    | some δ1 => (de δ1 c).calm.bind fun y c => (compD2 dg de δ xs c).bind fun ys c => .ok (y :: ys) c
def dLc2o (vs : List Nat) (di : DenI) (dg : DenG) (de : DenL) : Den2 := fun δ c => (di δ c).bind fun xs c => if xs.length ≤ 16777216 then compD2 dg de (dwipe δ vs) xs c else .no
theorem Rws.base {H0 H1 I H : Hp} (e : ∀ a, H0 a = none → H1 a = none) {rs : List Addr} {xss : List (List PyData)} (h : Rws Z H0 I H rs xss) : Rws Z H1 I H rs xss := by
  induction h with
  | nil => exact .nil
  | cons h1 h2 h3 h4 h5 h6 _ ih => exact .cons h1 h2 (e _ h3) h4 h5 h6 ih
theorem Rws.app {H0 I H : Hp} {r : Addr} {vs : List V} {ys : List PyData} (h1 : H r = some (.lst vs)) (h2 : I r = none) (h3 : H0 r = none) (h4 : Z.sa ≠ some r) (h5 : DpAll Z.K I vs ys) {rs : List Addr} {xss : List (List PyData)} (h : Rws Z H0 I H rs xss) : r ∉ rs → Rws Z H0 I H (rs ++ [r]) (xss ++ [ys]) := by
  induction h with
  | nil => exact fun _ => .cons h1 h2 h3 h4 h5 (fun m => by cases m) .nil
  | cons a1 a2 a3 a4 a5 a6 _ ih => exact fun n => .cons a1 a2 a3 a4 a5 (fun m => (List.mem_append.mp m).elim a6 fun m => n (by rw [List.mem_singleton.mp m]; exact List.mem_cons_self)) (ih fun m => n (List.mem_cons_of_mem _ m))
theorem snd_lc2o {wi : TI} {g : TG} {te : TE} {di : DenI} {dg : DenG} {de : DenL} {js vs : List Nat} (hj : ∀ j ∈ js, j ∈ vs) (hi : SndI Z W wi di) (hg : SndG Z js g dg) (he : SndL Z E0 te de) :
    Snd2 Z W (tLc wi g tYes te vs) (dLc2o vs di dg de) := by
  intro H0 I H σ δ c a Q h
  refine hi _ _ _ _ _ _ a _ (Res.imp (Res.bind h) fun xs c1 I1 H1 g1 k1 h1 J w => ?_)
  split at h1
  · rename_i hlen
    intro D hD
    obtain ⟨gD, kD⟩ := Gr.own (o := .lst []) k1 hD
    have sD := freshS k1 hD
    refine ⟨fun i m Hc => m = xs.length - i ∧ i ≤ xs.length ∧ ∃ Ic c rs dss, Gr Z I1 H1 Ic Hc ∧ Ok Z Ic Hc c ∧ Hc D = some (.lst (rs.map V.ref)) ∧ Ic D = none ∧ Rws Z H1 Ic Hc rs dss ∧ D ∉ rs ∧ dss.length ≤ i ∧
      Res Z W I1 H1 ((compD2 dg de (dwipe δ vs) (xs.drop i) c).map (dss ++ ·)) (fun xss _ I' H' => ∀ l rs, H l = none → I' l = none → H' l = some (.lst (rs.map V.ref)) → Z.sa ≠ some l → Rws Z H I' H' rs xss → l ∉ rs → Q (.ref l) H'),
      ⟨xs.length, by simp, Nat.zero_le _, I1, c1, [], [], gD, kD, upd_same, freshI k1 hD, .nil, (fun m => by cases m), Nat.le_refl _, ?_⟩, ?_⟩
    · have e : (compD2 dg de (dwipe δ vs) (xs.drop 0) c1).map (([] : List (List PyData)) ++ ·) = compD2 dg de (dwipe δ vs) xs c1 := by
        rw [List.drop_zero]; cases compD2 dg de (dwipe δ vs) xs c1 <;> rfl
      rw [e]
      exact h1
    · rintro i m Hc ⟨rfl, hle, Ic, c, rs, dss, g2, k2, hD2, nD, hr, nDr, hn, r⟩
      by_cases hlt : i < xs.length
      · refine .inr ⟨w.go i Hc (fun b o e => k2.ex b o (g2.ii b o e)) hlt, fun Hn => ∃ Ic c rs dss, Gr Z I1 H1 Ic Hn ∧ Ok Z Ic Hn c ∧ Hn D = some (.lst (rs.map V.ref)) ∧ Ic D = none ∧ Rws Z H1 Ic Hn rs dss ∧ D ∉ rs ∧ dss.length ≤ i + 1 ∧
          Res Z W I1 H1 ((compD2 dg de (dwipe δ vs) (xs.drop (i + 1)) c).map (dss ++ ·)) (fun xss _ I' H' => ∀ l rs, H l = none → I' l = none → H' l = some (.lst (rs.map V.ref)) → Z.sa ≠ some l → Rws Z H I' H' rs xss → l ∉ rs → Q (.ref l) H'),
          fun Hn n => ⟨xs.length - (i + 1), by omega, rfl, hlt, n⟩, fun v Hy y => ?_⟩
        obtain ⟨I2, g3, k3, hv⟩ := w.yld i Hc v Hy xs[i] Ic c g2.ii k2 (by simp) y
        rw [List.drop_eq_getElem_cons hlt] at r
        unfold compD2 at r
        have a2 : At Z H0 I2 Hy (wipe σ vs) (dwipe δ vs) c := ⟨sls_wipe vs (a.sl.imp fun _ s => s.mono (g1.trans (g2.trans g3))), k3⟩
        split at r
        · exact r.elim
        · rename_i δ1 e1
          refine hg _ _ _ _ _ _ _ _ c a2 hv e1 _ fun σ1 s1 w1 => ⟨by rw [w1 vs hj, wipe_wipe], ?_⟩
          refine snd_yes (Z := Z) (W := E0) _ _ _ _ _ _ ⟨s1, k3⟩ _ ?_
          intro I3 H3 g4 k4
          refine iteT ?_
          refine he _ _ _ _ _ _ ⟨s1.imp fun _ s => s.mono g4, k4⟩ _ ?_
          cases q2 : de δ1 c with
          | no => rw [q2] at r; exact r.elim
          | ex k p c => rw [q2] at r; exact r.elim
          | ok y c3 =>
            rw [q2] at r
            intro I4 H4 g5 k5 r4 vs4 f0 f1 f2 f3 f4
            have gg := g3.trans (g4.trans g5)
            have g34 := g3.trans g4
            have g6 := g2.trans gg
            have z1 : H4 D = some (.lst (rs.map V.ref)) := gg.hh D _ sD hD2
            have z2 : I4 D = none := gg.fr D (by rw [hD2]; exact Option.some_ne_none _) nD
            have nr : r4 ∉ rs := fun m => by
              obtain ⟨o, e, _, _, n⟩ := hr.at m
              have := g34.hh _ _ n e
              rw [f0] at this; cases this
            have ne : D ≠ r4 := fun z => by
              have := g34.hh _ _ sD hD2
              rw [z, f0] at this; cases this
            have f5 : H1 r4 = none := by
              cases q : H1 r4 with
              | none => rfl
              | some o => exact absurd f0 ((g2.trans g34).th r4 (by rw [q]; exact Option.some_ne_none _))
            refine ⟨rs.map V.ref, z1, ?_, ?_⟩
            · rw [List.length_map, hr.len, sizeLine_eq]; omega
            · have e7 : (rs.map V.ref) ++ [V.ref r4] = (rs ++ [r4]).map V.ref := by simp
              have nI : ∀ {d : Addr} {o : HO}, I4 d = some o → d ≠ D := fun h z => by rw [z, z2] at h; cases h
              refine ⟨I4, c3, rs ++ [r4], dss ++ [y], ?_, ?_, by rw [← e7]; exact upd_same, z2, ((hr.mono gg).app f2 f1 f5 f3 f4 nr).apart (fun m => (List.mem_append.mp m).elim nDr fun m => ne (List.mem_singleton.mp m)), fun m => (List.mem_append.mp m).elim nDr fun m => ne (List.mem_singleton.mp m), by simp; omega, ?_⟩
              · refine ⟨g6.ii, fun d o n e => ?_, fun d e => ?_, g6.fr⟩
                · rw [upd_ne (fun z => by rw [z, hD] at e; cases e)]; exact g6.hh d o n e
                · rw [upd_ne (fun z => e (by rw [z]; exact hD))]; exact g6.th d e
              · refine ⟨fun d o e => by rw [upd_ne (nI e)]; exact k5.ex d o e, fun d e => ?_⟩
                obtain ⟨n1, p, e2, e3⟩ := k5.st d e
                exact ⟨n1, p, by rw [upd_ne (fun z => sD (by rw [← z]; exact e))]; exact e2, e3⟩
              · have e4 : ((compD2 dg de (dwipe δ vs) (xs.drop (i + 1)) c3).bind fun ys c => R.ok (y :: ys) c).map (dss ++ ·) = (compD2 dg de (dwipe δ vs) (xs.drop (i + 1)) c3).map ((dss ++ [y]) ++ ·) := by
                  cases compD2 dg de (dwipe δ vs) (xs.drop (i + 1)) c3 with
                  | no => rfl
                  | ex k p c => rfl
                  | ok ys c => show R.ok (dss ++ y :: ys) c = R.ok (dss ++ [y] ++ ys) c; rw [List.append_assoc]; rfl
                rw [← e4]
                exact r
      · have e : i = xs.length := by omega
        subst e
        refine .inl ⟨w.stop Hc fun b o e => k2.ex b o (g2.ii b o e), ?_⟩
        rw [List.drop_length] at r
        have r : Res Z W I1 H1 (R.ok (dss ++ []) c) _ := r
        rw [List.append_nil] at r
        exact r Ic Hc g2 k2 D rs (freshB g1 hD) nD hD2 sD (hr.base fun b e => freshB g1 e) nDr
  · exact h1.elim
def dNew2 (i : Nat) (de : Den2) : DenS := fun δ c => (de δ c).bind fun xss c => .ok (.nx (δ.set i (.ow2 xss))) c
theorem sns_new2 {i : Nat} {te : TE} {de : Den2} (he : Snd2 Z W te de) : SndS Z W (tAsg te (gName i)) (dNew2 i de) := by
  intro I0 H0 I H σ δ c g a D h
  refine he _ _ _ _ _ _ a _ (Res.imp (Res.bindS g h) fun xss c1 I1 H1 g1 k1 q l rs f0 f1 f2 f3 f4 f5 => ?_)
  obtain ⟨as, s0⟩ := a.sl
  have n : ∀ b ∈ l :: rs, b ∉ as := fun b k m => by
    obtain ⟨ws, e, _⟩ := s0.at m
    have : H b = none := (List.mem_cons.mp k).elim (fun z => by rw [z]; exact f0) fun z => (f4.at z).choose_spec.2.2.1
    rw [this] at e
    cases e
  obtain ⟨bs, s2, _⟩ := (s0.mono g1).putOwn2 f2 f1 (freshB g f0) f3 (f4.base fun b e => freshB g e) f5 i n
  exact Res.okS q.1 k1 q.2 _ ⟨bs, s2⟩
end
end Dn
namespace Dn
open PySem PySem.Spec PyProof.Rows L2
open Dn.Enc (enc)
/-! x[i] += e on one's own list -/
def rIxN (K : PySem.W.Frag) : V → V → Hp → VK → Prop := fun o i H Q => ∃ p xs n v, o = V.ref p ∧ i = V.int n ∧ SqL K H p xs ∧ 0 ≤ n ∧ xs[n.toNat]? = some v ∧ Q v H
theorem get_list {X : Cx} : PGet X (rIxN X.K) := by
  intro pins s σ H o i ov iv Q I ro ri h
  obtain ⟨p, xs, n, v, rfl, rfl, hq, h0, hx, q⟩ := h
  cases ro
  obtain ⟨t, rfl⟩ := ri
  obtain ⟨its, r, pl, hz⟩ := I.list hq
  obtain ⟨w, ew, rw'⟩ := r.get hx
  have hl := r.length
  have hb := (List.getElem?_eq_some_iff.mp hx).1
  have hn := line63
  refine PySem.wpAny_getItem_list pl.isList h0 (by omega) (by simpa using ew) ⟨v, H, I, rw', q⟩
section
variable {Z : Zz} {W : XK}
def augK (xs : List PyData) : Vl → Option (Nat × Int)
  | .d (.int n) => if 0 ≤ n then match ixN xs.length n, xs[n.toNat]? with
    | some j, some (.int a) => some (j, a)
    | _, _ => none else none
  | _ => none
theorem augK_of {xs : List PyData} {k : Vl} {p : Nat × Int} (e : augK xs k = some p) : ∃ n, k = .d (.int n) ∧ 0 ≤ n ∧ ixN xs.length n = some p.1 ∧ xs[n.toNat]? = some (.int p.2) := by
  unfold augK at e
  split at e
  · rename_i n
    split at e
    · rename_i h0
      split at e
      · rename_i j a e1 e2
        cases e
        exact ⟨n, rfl, h0, e1, e2⟩
      · cases e
    · cases e
  · cases e
def augV (i : Nat) (f : Int → Int → Int) (δ : List Sl) (xs : List PyData) (p : Nat × Int) : Vl → Int → R Out
  | .d (.int b), c => .ok (.nx (δ.set i (.ow (xs.set p.1 (.int (f p.2 b)))))) c
  | _, _ => .no
def dAugO (i : Nat) (f : Int → Int → Int) (dk de : Den) : DenS := fun δ c => match δ[i]? with
  | some (.ow xs) => (dk δ c).bind fun k c => match augK xs k with
    | some p => (de δ c).bind (augV i f δ xs p)
    | none => .no
  | _ => .no
theorem sns_augO {i : Nat} {f : Int → Int → Int} {tk te : TE} {dk de : Den} (hk : SndE Z W tk dk) (he : SndE Z W te de) : SndS Z W (tAugS (tVar i) tk te (rIxN Z.K) (ipI f) rSetL) (dAugO i f dk de) := by
  intro I0 H0 I H σ δ c g a D h
  unfold dAugO at h
  split at h
  · rename_i xs e
    obtain ⟨as, s⟩ := a.sl
    obtain ⟨l, vs, h1, m, h2, h3⟩ := s.own e
    obtain ⟨_, _, n1, n0, n2⟩ := s.at m
    refine ⟨.ref l, h1, ?_⟩
    refine hk _ _ _ _ _ _ a _ (Res.imp (Res.bindS g h) fun k c1 I1 H1 g1 k1 q w hw => ?_)
    obtain ⟨q1, q2⟩ := q
    split at q2
    · rename_i p ep
      obtain ⟨n, rfl, h0, ej, ea⟩ := augK_of ep
      cases hw
      have hd1 := dps_grows g1.ii _ _ h3
      obtain ⟨v, ev, dv⟩ := dps_get hd1 ea
      cases dv
      refine ⟨l, vs, n, .int p.2, rfl, rfl, .inl (.inl (g1.hh _ _ n2 h2)), h0, ev, ?_⟩
      refine he _ _ _ _ _ _ (a.go g1 k1) _ (Res.imp (Res.bindS q1 q2) fun y c2 I2 H2 g2 k2 q w2 hw2 => ?_)
      obtain ⟨q3, q4⟩ := q
      unfold augV at q4
      split at q4
      · rename_i b
        cases hw2
        refine ⟨p.2, b, rfl, rfl, ?_⟩
        have hn : I2 l = none := g2.fr l (by rw [g1.hh _ _ n2 h2]; exact Option.some_ne_none _) (g1.fr l (by rw [h2]; exact Option.some_ne_none _) n1)
        have hd := dps_grows g2.ii _ _ hd1
        refine ⟨l, vs, n, p.1, rfl, rfl, g2.hh _ _ n2 (g1.hh _ _ n2 h2), by rw [dps_len h3]; exact ej, ?_⟩
        obtain ⟨g3, k3⟩ := own_step (o := .lst (vs.set p.1 (.int (f p.2 b)))) q3 k2 n0 hn n2
        exact Res.okS g3 k3 q4 _ ⟨as, ((s.mono g1).mono g2).change (dps_set (.int _) p.1 hd) e h1⟩
      · exact q4.elim
    · exact q2.elim
  · exact h.elim
/-! x[i] = x[j] = e on one's own list -/
def setK (i : Nat) (dk : Den) (y : PyData) : DenS := fun δ c => match δ[i]? with
  | some (.ow xs) => (dk δ c).bind fun k c => match k with
    | .d (.int n) => match ixN xs.length n with
      | some j => .ok (.nx (δ.set i (.ow (xs.set j y)))) c
      | none => .no
    | _ => .no
  | _ => .no
theorem sg_setK {i : Nat} {tk : TE} {dk : Den} (hk : SndE Z W tk dk) {I0 H0 I H : Hp} {σ : L2.St} {δ : List Sl} {c : Int} {v : V} {y : PyData} {P : Out → Int → Hp → Hp → Prop} (g : Gr Z I0 H0 I H) (a : At Z H0 I H σ δ c) (hv : Dp Z.K I v y) (h : Res Z W I0 H0 (setK i dk y δ c) P)
    {Q : L2.St → Hp → Prop} (k : ∀ δ1 c1 I1 H1, Gr Z I0 H0 I1 H1 → Grows I I1 → At Z H0 I1 H1 σ δ1 c1 → P (.nx δ1) c1 I1 H1 → Q σ H1) : gSub (tVar i) tk rSetL v σ H Q := by
  unfold setK at h
  split at h
  · rename_i xs e
    obtain ⟨as, s⟩ := a.sl
    obtain ⟨l, vs, h1, m, h2, h3⟩ := s.own e
    obtain ⟨_, _, n1, n0, n2⟩ := s.at m
    refine ⟨.ref l, h1, ?_⟩
    refine hk _ _ _ _ _ _ a _ (Res.imp (Res.bindS g h) fun k' c1 I1 H1 g1 k1 q w hw => ?_)
    obtain ⟨q1, q2⟩ := q
    split at q2
    · split at q2
      · rename_i n _ j hj
        cases hw
        have hn : I1 l = none := g1.fr l (by rw [h2]; exact Option.some_ne_none _) n1
        have hd := dps_grows g1.ii _ _ h3
        refine ⟨l, vs, n, j, rfl, rfl, g1.hh _ _ n2 h2, by rw [dps_len h3]; exact hj, ?_⟩
        obtain ⟨g3, k3⟩ := own_step (o := .lst (vs.set j v)) q1 k1 n0 hn n2
        exact k _ _ _ _ g3 g1.ii ⟨⟨as, (s.mono g1).change (dps_set (dp_grows g1.ii _ _ hv) j hd) e h1⟩, k3⟩ (Res.okS g3 k3 q2)
      · exact q2.elim
    · exact q2.elim
  · exact h.elim
def dSetC (i : Nat) (d1 d2 de : Den) : DenS := fun δ c => (de δ c).bind fun y c => match y with
  | .d y => (setK i d1 y δ c).bind fun w c => match w with
    | .nx δ1 => setK i d2 y δ1 c
    | _ => .no
  | _ => .no
theorem sns_setC {i : Nat} {t1 t2 te : TE} {d1 d2 de : Den} (h1 : SndE Z W t1 d1) (h2 : SndE Z W t2 d2) (he : SndE Z W te de) : SndS Z W (tAsg2 te (gSub (tVar i) t1 rSetL) (gSub (tVar i) t2 rSetL)) (dSetC i d1 d2 de) := by
  intro I0 H0 I H σ δ c g a D h
  refine he _ _ _ _ _ _ a _ (Res.imp (Res.bindS g h) fun y c1 I1 H1 g1 k1 q w hw => ?_)
  obtain ⟨q1, q2⟩ := q
  split at q2
  · rename_i y
    refine sg_setK h1 (P := fun w c I' H' => Res Z W I0 H0 (match w with
      | .nx δ1 => setK i d2 y δ1 c
      | _ => .no) (FinO Z H0 D)) q1 (a.go g1 k1) hw ?_ fun δ1 c2 I2 H2 g2 gi a2 q3 => ?_
    · have := Res.bindS Gr.refl q2
      exact Res.imp this fun _ _ _ _ _ _ q => q.2
    · refine sg_setK h2 g2 a2 (dp_grows gi _ _ hw) q3 fun δ2 c3 I3 H3 g3 _ a3 q4 => ?_
      exact q4 σ a3.sl
  · exact q2.elim
/-! a, b = c, [..]: one's own list goes to another name -/
theorem Sls.wipeO {H0 I H : Hp} {σ : L2.St} {δ : List Sl} {as : List Addr} (h : Sls Z H0 I H σ δ as) : ∀ {k : Nat} {xs : List PyData} {l : Addr}, δ[k]? = some (.ow xs) → σ[k]? = some (some (.ref l)) → ∃ bs, Sls Z H0 I H σ (δ.set k .no) bs ∧ (∀ b ∈ bs, b ∈ as) ∧ l ∉ bs := by
  induction h with
  | nil => intro k x l e; simp at e
  | no h ih => intro k x l e f; cases k with
    | zero => simp at e
    | succ k => obtain ⟨bs, a, b, c⟩ := ih (k := k) (xs := x) (l := l) (by simpa using e) (by simpa using f); exact ⟨bs, .no a, b, c⟩
  | im q h ih => intro k x l e f; cases k with
    | zero => simp at e
    | succ k => obtain ⟨bs, a, b, c⟩ := ih (k := k) (xs := x) (l := l) (by simpa using e) (by simpa using f); exact ⟨bs, .im q a, b, c⟩
  | ow h1 h2 h3 h4 h5 h6 h ih => intro k x l e f; cases k with
    | zero =>
      simp at f
      subst f
      exact ⟨_, .no h, fun b m => List.mem_cons_of_mem _ m, h6⟩
    | succ k =>
      have e' := (List.getElem?_cons_succ ▸ e)
      have f' := (List.getElem?_cons_succ ▸ f)
      obtain ⟨l2, vs2, f2, m, _⟩ := h.own e'
      have : l2 = l := by rw [f2] at f'; cases f'; rfl
      subst this
      obtain ⟨bs, a, b, c⟩ := ih e' f'
      refine ⟨_ :: bs, .ow h1 h2 h3 h4 h5 (fun m => h6 (b _ m)) a, fun c m => ?_, fun m2 => ?_⟩
      · cases m with
        | head => exact List.mem_cons_self
        | tail _ m => exact List.mem_cons_of_mem _ (b _ m)
      · cases m2 with
        | head => exact h6 m
        | tail _ m2 => exact c m2
  | od h1 h5 h2 h3 h4 h6 h ih => intro k x l e f; cases k with
    | zero => simp at e
    | succ k =>
      have e' := (List.getElem?_cons_succ ▸ e)
      have f' := (List.getElem?_cons_succ ▸ f)
      obtain ⟨l2, vs2, f2, m, _⟩ := h.own e'
      have : l2 = l := by rw [f2] at f'; cases f'; rfl
      subst this
      obtain ⟨bs, a, b, c⟩ := ih e' f'
      refine ⟨_ :: bs, .od h1 h5 h2 h3 h4 (fun m => h6 (b _ m)) a, fun c m => ?_, fun m2 => ?_⟩
      · cases m with
        | head => exact List.mem_cons_self
        | tail _ m => exact List.mem_cons_of_mem _ (b _ m)
      · cases m2 with
        | head => exact h6 m
        | tail _ m2 => exact c m2
  | ow2 h1 h2 h3 h4 h5 h6 h7 h ih => intro k x l e f; cases k with
    | zero => simp at e
    | succ k =>
      have e' := (List.getElem?_cons_succ ▸ e)
      have f' := (List.getElem?_cons_succ ▸ f)
      obtain ⟨l2, vs2, f2, m, _⟩ := h.own e'
      have : l2 = l := by rw [f2] at f'; cases f'; rfl
      subst this
      obtain ⟨bs, a, b, c⟩ := ih e' f'
      refine ⟨_ ++ bs, .ow2 h1 h2 h3 h4 h5 h6 (fun c m n => h7 c m (b _ n)) a, fun c m => (List.mem_append.mp m).elim (fun m => List.mem_append_left _ m) fun m => List.mem_append_right _ (b _ m), fun m2 => (List.mem_append.mp m2).elim (fun m2 => h7 _ m2 m) c⟩
def dParO (i j k : Nat) (de : DenL) : DenS := fun δ c => match δ[k]? with
  | some (.ow xs) => (de δ c).bind fun ys c => .ok (.nx (((δ.set k .no).set i (.ow xs)).set j (.ow ys))) c
  | _ => .no
theorem sns_parO {i j k : Nat} {te : TE} {de : DenL} (he : SndL Z W te de) : SndS Z W (tPar i j (tCons (tVar k) (tCons te tNil))) (dParO i j k de) := by
  intro I0 H0 I H σ δ c g a D h
  unfold dParO at h
  split at h
  · rename_i xs e
    obtain ⟨as, s⟩ := a.sl
    obtain ⟨l, vs, h1, m, h2, h3⟩ := s.own e
    obtain ⟨_, _, n1, n0, n2⟩ := s.at m
    refine ⟨.ref l, h1, ?_⟩
    refine he _ _ _ _ _ _ a _ (Res.imp (Res.bindS g h) fun ys c1 I1 H1 g1 k1 q l2 ws f0 f1 f2 f3 f4 => ?_)
    obtain ⟨bs, s2, sub, nl⟩ := (s.mono g1).wipeO e h1
    obtain ⟨cs, s3, sub2⟩ := s2.putOwn (g1.hh _ _ n2 h2) (g1.fr l (by rw [h2]; exact Option.some_ne_none _) n1) n0 n2 (dps_grows g1.ii _ _ h3) i nl
    have nl2 : l2 ∉ cs := fun z => by
      have : ∃ o, H l2 = some o := by
        rcases sub2 _ z with z | z
        · rw [z]; exact ⟨_, h2⟩
        · obtain ⟨o, e, _⟩ := s.at (sub _ z); exact ⟨o, e⟩
      obtain ⟨o, e⟩ := this
      rw [f0] at e
      cases e
    obtain ⟨ds, s4, _⟩ := s3.putOwn f2 f1 (freshB g f0) f3 f4 j nl2
    exact ⟨.ref l, .ref l2, rfl, Res.okS q.1 k1 q.2 _ ⟨ds, s4⟩⟩
  · exact h.elim
/-! a, b, c = x, y, z -/
def par3K (i j l : Nat) (f : List Sl → Int → R α) (δ : List Sl) : List Vl → Int → R α
  | [x, y, z], c => f (((δ.set i (.im x)).set j (.im y)).set l (.im z)) c
  | _, _ => .no
def dPar3 (i j l : Nat) (da : DenA) : DenS := fun δ c => (da δ c).bind (par3K i j l (fun δ1 c1 => .ok (.nx δ1) c1) δ)
theorem sns_par3 {i j l : Nat} {ta : TA} {da : DenA} (ha : SndA Z W ta da) : SndS Z W (tPar3 i j l ta) (dPar3 i j l da) := by
  intro I0 H0 I H σ δ c g a D h
  refine ha _ _ _ _ _ _ a _ (Res.imp (Res.bindS g h) fun xs c1 I1 H1 g1 k1 q vs hvs => ?_)
  obtain ⟨q1, q2⟩ := q
  unfold par3K at q2
  split at q2
  · cases hvs with
    | cons h1 hvs => cases hvs with
      | cons h2 hvs => cases hvs with
        | cons h3 hvs =>
          cases hvs
          obtain ⟨as, s⟩ := (a.go g1 k1).sl
          obtain ⟨bs, s2, _⟩ := s.put h1 i
          obtain ⟨cs, s3, _⟩ := s2.put h2 j
          obtain ⟨ds, s4, _⟩ := s3.put h3 l
          exact ⟨_, _, _, rfl, Res.okS q1 k1 q2 _ ⟨ds, s4⟩⟩
  · exact q2.elim
end
end Dn
namespace Dn
open PySem PySem.Spec PyProof.Rows L2
open Dn.Enc (enc)
section
variable {α β γ τ κ : Type} {δ : List Sl} {m : M τ} {o : τ → γ}
theorem bindC {α β : Type} {r : R α} {f g : α → Int → R β} (e : ∀ a c, f a c = g a c) : r.bind f = r.bind g := by
  cases r with
  | no => rfl
  | ok a c => exact e a c
  | ex k p c => rfl
theorem RfC {α β γ : Type} {r : R α} {f g : α → Int → R γ} {q : R β} {o : β → γ} (e : ∀ a c, f a c = g a c) (h : Rf q o (r.bind g)) : Rf q o (r.bind f) := by
  rw [bindC e]
  exact h
/-! x[k] = v on one's own list -/
def setVK (i : Nat) (δ : List Sl) (xs : List PyData) (r : DenS) (K : Out → Int → R γ) : Vl → Vl → Int → R γ
  | .d y, .d (.int n), c => match ixN xs.length n with
    | some j => (r (δ.set i (.ow (xs.set j y))) c).bind K
    | none => .no
  | _, _, _ => .no
theorem b_setO1 [Enc α] {i : Nat} {dk de : Den} {r : DenS} {K : Out → Int → R γ} {xs : List α} (hi : δ[i]? = some (.ow (xs.map enc))) (h : BK (de δ) (fun y c => (dk δ c).bind (setVK i δ (xs.map enc) r K y)) m o) : BK (dSeq (dSetO i dk de) r δ) K m o := by
  refine b_seq fun c => ?_
  show Rf (m c) o ((dSetO i dk de δ c).bind _)
  unfold dSetO
  rw [R.bind_assoc, hi]
  refine RfC (fun y c => ?_) (h c)
  show ((dk δ c).bind _).bind _ = _
  rw [R.bind_assoc]
  refine bindC fun k c => ?_
  unfold setVK
  cases y with
  | d y => cases k with
    | d k => cases k with
      | int n => dsimp only; cases ixN (xs.map enc).length n <;> rfl
      | _ => rfl
    | _ => rfl
  | _ => rfl
theorem r_setO1 [Enc α] {i : Nat} {r : DenS} {K : Out → Int → R γ} {xs : List α} {n : Int} {v : α} {k : List α → M τ} (h : ∀ zs : List α, BK (r (δ.set i (.ow (zs.map enc)))) K (k zs) o) :
    RK (M.bind (setM xs n v) k) o (setVK i δ (xs.map enc) r K (.d (enc v)) (.d (.int n))) := fun c => by
  unfold setVK setM
  dsimp only
  rw [List.length_map]
  cases ixN xs.length n with
  | none => trivial
  | some j =>
    have := h (xs.set j v) c
    rw [List.map_set] at this
    exact this
/-! x[i][j], lists of one's own -/
def rows2 [Enc α] (xss : List (List α)) : List (List PyData) := xss.map fun xs => xs.map enc
def rowM (xss : List (List α)) (n : Int) : M (Nat × List α) := match ixN xss.length n with
  | some j => match xss[j]? with
    | some xs => M.ret (j, xs)
    | none => M.no
  | none => M.no
def row2K (xss : List (List PyData)) (f : Nat × List PyData → Int → R κ) : Vl → Int → R κ := fun y c => match row2 xss y with
  | some p => f p c
  | none => .no
theorem r_row2 [Enc α] {xss : List (List α)} {n : Int} {f : Nat × List PyData → Int → R γ} {k : Nat × List α → M τ} (h : ∀ p : Nat × List α, RK (k p) o (f (p.1, p.2.map enc))) :
    RK (M.bind (rowM xss n) k) o (row2K (rows2 xss) f (.d (.int n))) := fun c => by
  unfold row2K row2 rowM rows2
  dsimp only
  rw [List.length_map]
  cases ixN xss.length n with
  | none => trivial
  | some j =>
    simp only [Option.bind_some, List.getElem?_map]
    cases xss[j]? with
    | none => trivial
    | some xs => exact h (j, xs) c
theorem b_ixO2 [Enc α] {i : Nat} {da db : Den} {K : Vl → Int → R γ} {xss : List (List α)} (hi : δ[i]? = some (.ow2 (rows2 xss))) (h : BK (da δ) (row2K (rows2 xss) fun p c => (db δ c).bind fun z c => (gIxL p.2 z c).bind K) m o) : BK (dIxO2 i da db δ) K m o := by
  intro c
  show Rf (m c) o ((dIxO2 i da db δ c).bind K)
  unfold dIxO2
  rw [hi]
  show Rf (m c) o (((da δ c).bind _).bind K)
  rw [R.bind_assoc]
  refine RfC (fun y c => ?_) (h c)
  unfold row2K
  cases row2 (rows2 xss) y with
  | none => rfl
  | some p => exact R.bind_assoc ..
/-! x[i][j] = v -/
def put2 (i : Nat) (δ : List Sl) (xss : List (List PyData)) (r : DenS) (K : Out → Int → R γ) (p : Nat × List PyData) : Vl → Vl → Int → R γ
  | .d v, .d (.int n), c => match ixN p.2.length n with
    | some m => (r (δ.set i (.ow2 (xss.set p.1 (p.2.set m v)))) c).bind K
    | none => .no
  | _, _, _ => .no
theorem b_set2 [Enc α] {i : Nat} {da db de : Den} {r : DenS} {K : Out → Int → R γ} {xss : List (List α)} (hi : δ[i]? = some (.ow2 (rows2 xss)))
    (h : BK (de δ) (fun v c => (da δ c).bind (row2K (rows2 xss) fun p c => (db δ c).bind (put2 i δ (rows2 xss) r K p v))) m o) : BK (dSeq (dSet2 i da db de) r δ) K m o := by
  refine b_seq fun c => ?_
  show Rf (m c) o ((dSet2 i da db de δ c).bind _)
  unfold dSet2
  rw [R.bind_assoc, hi]
  refine RfC (fun v c => ?_) (h c)
  show ((da δ c).bind _).bind _ = _
  rw [R.bind_assoc]
  refine bindC fun y c => ?_
  unfold row2K
  cases row2 (rows2 xss) y with
  | none => rfl
  | some p =>
    show ((db δ c).bind _).bind _ = _
    rw [R.bind_assoc]
    refine bindC fun k c => ?_
    unfold put2
    cases v with
    | d v => cases k with
      | d k => cases k with
        | int n => dsimp only; cases ixN p.2.length n <;> rfl
        | _ => rfl
      | _ => rfl
    | _ => rfl
def set2M (xss : List (List α)) (p : Nat × List α) (n : Int) (v : α) : M (List (List α)) := match ixN p.2.length n with
  | some m => M.ret (xss.set p.1 (p.2.set m v))
  | none => M.no
theorem r_put2 [Enc α] {i : Nat} {r : DenS} {K : Out → Int → R γ} {xss : List (List α)} {p : Nat × List α} {n : Int} {v : α} {k : List (List α) → M τ} (h : ∀ zss : List (List α), BK (r (δ.set i (.ow2 (rows2 zss)))) K (k zss) o) :
    RK (M.bind (set2M xss p n v) k) o (put2 i δ (rows2 xss) r K (p.1, p.2.map enc) (.d (enc v)) (.d (.int n))) := fun c => by
  unfold put2 set2M
  dsimp only
  rw [List.length_map]
  cases ixN p.2.length n with
  | none => trivial
  | some j =>
    have := h (xss.set p.1 (p.2.set j v)) c
    unfold rows2 at this
    rw [List.map_set, List.map_set] at this
    exact this
/-! lists made in a list -/
theorem b_new2 {i : Nat} {de : Den2} {r : DenS} {K : Out → Int → R γ} (h : BK (de δ) (fun x c => (r (δ.set i (.ow2 x)) c).bind K) m o) : BK (dSeq (dNew2 i de) r δ) K m o := by
  refine b_seq fun c => ?_
  show Rf (m c) o ((dNew2 i de δ c).bind _)
  unfold dNew2
  rw [R.bind_assoc]
  exact h c
theorem b_lc2o {vs : List Nat} {di : DenI} {dg : DenG} {de : DenL} {K : List (List PyData) → Int → R γ} (h : BK (di δ) (fun xs c => (if xs.length ≤ 16777216 then compD2 dg de (dwipe δ vs) xs c else .no).bind K) m o) : BK (dLc2o vs di dg de δ) K m o := by
  intro c
  show Rf (m c) o ((dLc2o vs di dg de δ c).bind K)
  unfold dLc2o
  rw [R.bind_assoc]
  exact h c
theorem r_compO [Enc α] [Enc β] {dg : DenG} {de : DenL} {f : α → M (List β)} (hb : ∀ x, ∃ δ1, dg (.d (enc x)) δ = some δ1 ∧ RK (f x) (List.map enc) (de δ1)) :
    ∀ xs : List α, RK (compM xs (fun _ => M.ret true) f) rows2 (fun c => compD2 dg de δ (vls xs) c)
  | [] => fun _ => rfl
  | x :: xs => by
    obtain ⟨δ1, e, h2⟩ := hb x
    have ih := r_compO hb xs
    have z : ∀ c, compD2 dg de δ (vls (x :: xs)) c = (de δ1 c).calm.bind fun y c => (compD2 dg de δ (vls xs) c).bind fun ys c => .ok (y :: ys) c := fun c => by
      show (match dg (Vl.d (enc x)) δ with | none => R.no | some δ1 => _) = _
      rw [e]
      rfl
    refine RK.of z ?_
    show RK (M.bind (M.calm (f x)) fun y => M.bind (compM xs _ f) fun ys => M.ret (y :: ys)) _ _
    refine RK.bind (RK.calm h2) fun y => ?_
    exact RK.bind ih fun ys => fun c => rfl
theorem k_lc2o [Enc α] [Enc β] {dg : DenG} {de : DenL} {f : α → M (List β)} {xs : List α} (hb : ∀ x, ∃ δ1, dg (.d (enc x)) δ = some δ1 ∧ RK (f x) (List.map enc) (de δ1)) :
    RK (mapM1 xs f) rows2 (fun c => if (vls xs).length ≤ 16777216 then compD2 dg de δ (vls xs) c else .no) := fun c => by
  show Rf (mapM1 xs f c) _ (if (vls xs).length ≤ 16777216 then compD2 dg de δ (vls xs) c else .no)
  unfold mapM1 lcM
  rw [vls_len]
  by_cases h : xs.length ≤ 16777216
  · rw [if_pos h, if_pos h]; exact r_compO hb xs c
  · rw [if_neg h]; exact trivial
theorem rows2_list [Enc α] (xss : List (List α)) : (rows2 xss).map PyData.list = xss.map enc := by
  unfold rows2
  rw [List.map_map]
  rfl
theorem b_frz2 [Enc α] {i : Nat} {a r : DenS} {K : Out → Int → R γ} {xss : List (List α)} (hi : δ[i]? = some (.ow2 (rows2 xss))) (h : BK (dSeq a r (δ.set i (.im (.d (enc xss))))) K m o) : BK (dSeq (dFrz2 i a) r δ) K m o := by
  have e : frz2 δ i = δ.set i (.im (.d (enc xss))) := by
    unfold frz2
    rw [hi]
    show δ.set i (.im (.d (.list ((rows2 xss).map PyData.list)))) = _
    rw [rows2_list]
    rfl
  show RK m o fun c => ((dSeq (dFrz2 i a) r) δ c).bind K
  have e2 : ∀ c, (dSeq (dFrz2 i a) r) δ c = dSeq a r (frz2 δ i) c := fun c => rfl
  rw [e] at e2
  exact RK.of (fun c => by rw [e2 c]) h
/-! x[i] += e -/
def augM (xs : List Int) (n : Int) : M (Nat × Int) := if 0 ≤ n then match ixN xs.length n, xs[n.toNat]? with
  | some j, some a => M.ret (j, a)
  | _, _ => M.no else M.no
def augKK (xs : List PyData) (f : Nat × Int → Int → R κ) : Vl → Int → R κ := fun k c => match augK xs k with
  | some p => f p c
  | none => .no
def augVK (i : Nat) (f : Int → Int → Int) (δ : List Sl) (xs : List PyData) (r : DenS) (K : Out → Int → R γ) (p : Nat × Int) : Vl → Int → R γ
  | .d (.int b), c => (r (δ.set i (.ow (xs.set p.1 (.int (f p.2 b))))) c).bind K
  | _, _ => .no
theorem b_augO {i : Nat} {f : Int → Int → Int} {dk de : Den} {r : DenS} {K : Out → Int → R γ} {xs : List Int} (hi : δ[i]? = some (.ow (xs.map enc))) (h : BK (dk δ) (augKK (xs.map enc) fun p c => (de δ c).bind (augVK i f δ (xs.map enc) r K p)) m o) : BK (dSeq (dAugO i f dk de) r δ) K m o := by
  refine b_seq fun c => ?_
  show Rf (m c) o ((dAugO i f dk de δ c).bind _)
  unfold dAugO
  rw [hi]
  show Rf (m c) o (((dk δ c).bind _).bind _)
  rw [R.bind_assoc]
  refine RfC (fun k c => ?_) (h c)
  unfold augKK
  cases augK (xs.map enc) k with
  | none => rfl
  | some p =>
    show ((de δ c).bind _).bind _ = _
    rw [R.bind_assoc]
    refine bindC fun y c => ?_
    unfold augV augVK
    cases y with
    | d y => cases y <;> rfl
    | _ => rfl
theorem r_augK {xs : List Int} {n : Int} {f : Nat × Int → Int → R γ} {k : Nat × Int → M τ} (h : ∀ p, RK (k p) o (f p)) : RK (M.bind (augM xs n) k) o (augKK (xs.map enc) f (.d (.int n))) := fun c => by
  unfold augKK augK augM
  dsimp only
  by_cases h0 : 0 ≤ n
  · rw [if_pos h0, if_pos h0, List.length_map, List.getElem?_map]
    cases ixN xs.length n with
    | none => trivial
    | some j => cases xs[n.toNat]? with
      | none => trivial
      | some a => exact h (j, a) c
  · rw [if_neg h0, if_neg h0]; trivial
theorem r_augV {i : Nat} {f : Int → Int → Int} {r : DenS} {K : Out → Int → R γ} {xs : List Int} {p : Nat × Int} {b : Int} {k : List Int → M τ} (h : ∀ zs : List Int, BK (r (δ.set i (.ow (zs.map enc)))) K (k zs) o) :
    RK (Let (xs.set p.1 (f p.2 b)) k) o (augVK i f δ (xs.map enc) r K p (.d (.int b))) := fun c => by
  have := h (xs.set p.1 (f p.2 b)) c
  rw [List.map_set] at this
  exact this
/-! x[i] = x[j] = e, all told at once -/
theorem b_setC [Enc α] {i : Nat} {d1 d2 de : Den} {r : DenS} {K : Out → Int → R γ} {xs : List α} {v : α} {n1 n2 : Int} {k : List α → M τ} (hi : δ[i]? = some (.ow (xs.map enc))) (hlt : i < δ.length) (he : PV (de δ) (.d (enc v))) (h1 : PV (d1 δ) (.d (.int n1)))
    (h2 : ∀ zs : List α, PV (d2 (δ.set i (.ow (zs.map enc)))) (.d (.int n2))) (h : ∀ zs : List α, BK (r (δ.set i (.ow (zs.map enc)))) K (k zs) o) :
    BK (dSeq (dSetC i d1 d2 de) r δ) K (M.bind (setM xs n1 v) fun ys => M.bind (setM ys n2 v) k) o := by
  refine b_seq fun c => ?_
  show Rf _ o ((dSetC i d1 d2 de δ c).bind _)
  unfold dSetC
  rw [he c]
  show Rf _ o (((setK i d1 (enc v) δ c).bind _).bind _)
  have s1 : ∀ (δ' : List Sl) (zs : List α) (dd : Den) (n : Int) (c : Int), δ'[i]? = some (.ow (zs.map enc)) → PV (dd δ') (.d (.int n)) → setK i dd (enc v) δ' c = (match ixN zs.length n with
      | some j => R.ok (.nx (δ'.set i (.ow ((zs.set j v).map enc)))) c
      | none => .no) := fun δ' zs dd n c e1 e2 => by
    unfold setK
    rw [e1]
    show (dd δ' c).bind _ = _
    rw [e2 c]
    show (match ixN (zs.map enc).length n with | some j => _ | none => _) = _
    rw [List.length_map]
    cases ixN zs.length n with
    | none => rfl
    | some j => exact congrArg (fun z => R.ok (Out.nx (δ'.set i (Sl.ow z))) c) (List.map_set (f := enc) (l := zs) (i := j) (a := v)).symm
  rw [s1 δ xs d1 n1 c hi h1]
  unfold setM
  cases ixN xs.length n1 with
  | none => trivial
  | some j =>
    show Rf _ o ((setK i d2 (enc v) (δ.set i (.ow ((xs.set j v).map enc))) c).bind _)
    rw [s1 _ (xs.set j v) d2 n2 c (by rw [List.getElem?_set_self hlt]) (h2 _)]
    show Rf (M.bind (match ixN (xs.set j v).length n2 with | some j2 => M.ret ((xs.set j v).set j2 v) | none => M.no) k c) o _
    cases ixN (xs.set j v).length n2 with
    | none => trivial
    | some j2 =>
      have := h ((xs.set j v).set j2 v) c
      show Rf _ o ((r ((δ.set i _).set i _) c).bind K)
      rw [List.set_set]
      exact this
/-! a, b = c, [..] -/
theorem b_parO {i j k : Nat} {de : DenL} {r : DenS} {K : Out → Int → R γ} {xs : List PyData} (hi : δ[k]? = some (.ow xs)) (h : BK (de δ) (fun ys c => (r (((δ.set k .no).set i (.ow xs)).set j (.ow ys)) c).bind K) m o) : BK (dSeq (dParO i j k de) r δ) K m o := by
  refine b_seq fun c => ?_
  show Rf (m c) o ((dParO i j k de δ c).bind _)
  unfold dParO
  rw [hi]
  show Rf (m c) o (((de δ c).bind _).bind _)
  rw [R.bind_assoc]
  exact h c
theorem b_par3 {i j l : Nat} {da : DenA} {r : DenS} {K : Out → Int → R γ} (h : BK (da δ) (par3K i j l (fun δ1 c1 => (r δ1 c1).bind K) δ) m o) : BK (dSeq (dPar3 i j l da) r δ) K m o := by
  refine b_seq fun c => ?_
  show Rf (m c) o ((dPar3 i j l da δ c).bind _)
  unfold dPar3
  rw [R.bind_assoc]
  refine RfC (fun xs c1 => ?_) (h c)
  unfold par3K
  split <;> rfl
end
end Dn
namespace Dn
open PySem PySem.Spec PyProof.Rows L2
open Dn.Enc (enc)
/-! sum of a list or a tuple of ints -/
def rSumA (K : PySem.W.Frag) : List V → Hp → VK → Prop := fun vs H Q => ∃ (a : Addr) (ns : List Int), vs = [V.ref a] ∧ (SqL K H a (ns.map V.int) ∨ SqT K H a (ns.map V.int)) ∧ Q (.int ns.sum) H
section
variable {X : Cx}
theorem cr_sumA (hc : X.calm = true) : CallR X (.builtin "sum") (rSumA X.K) := by
  intro pins s σ H vs us Q I r h
  obtain ⟨a, ns, rfl, hs, q⟩ := h
  rcases hs with hs | hs
  · exact L2.cr_sum hc _ _ _ _ _ _ _ I r ⟨a, ns, rfl, hs, q⟩
  · obtain ⟨its, rv, hl, _⟩ := I.tuple hs
    rw [Vals.ref1 r]
    have hi := rv.ints
    obtain ⟨xs, e⟩ := hi.allInts.items
    have hn : numsOf (intItems xs).toList = ns := by rw [← e]; exact hi.numsOf
    rw [nums_intItems] at hn
    rw [e] at hl
    refine PySem.W.ktm_sumG (I.ok.hd hc) hl fun h' tk t' hk => ?_
    rw [preSum_eq, List.take_of_length_le (by simp), hn]
    exact ⟨.int _, H, I.kept hk, ⟨_, rfl⟩, q⟩
end
section
variable {Z : Zz} {W : XK}
def gSumA : List Vl → Int → R Vl
  | [.d (.list xs)], c => match intsOf xs with
    | some ns => .ok (.d (.int ns.sum)) c
    | none => .no
  | [.d (.tuple xs)], c => match intsOf xs with
    | some ns => .ok (.d (.int ns.sum)) c
    | none => .no
  | _, _ => .no
theorem rc_sumA : SndC Z W (rSumA Z.K) gSumA := by
  intro I H xs vs c k hv Q h
  unfold gSumA at h
  split at h
  · split at h
    · rename_i bs e
      cases hv with
      | cons a b => cases b; cases a with
        | lst s t =>
          rw [intsOf_eq e] at t
          have := dps_ints' bs t
          subst this
          exact ⟨_, bs, rfl, .inl (sqL_grows k.ex s), Res.ok k h _ (.int _)⟩
    · exact h.elim
  · split at h
    · rename_i bs e
      cases hv with
      | cons a b => cases b; cases a with
        | tup s t =>
          rw [intsOf_eq e] at t
          have := dps_ints' bs t
          subst this
          exact ⟨_, bs, rfl, .inr (sqT_grows k.ex s), Res.ok k h _ (.int _)⟩
    · exact h.elim
  · exact h.elim
theorem k_sumA {xs : List Int} : PV (gSumA [.d (enc xs)]) (.d (.int xs.sum)) := fun c => by
  show (match intsOf (xs.map enc) with | some bs => R.ok (Vl.d (.int bs.sum)) c | none => .no) = _
  rw [intsOf_enc]
theorem k_sumAT {xs : Tp Int} : PV (gSumA [.d (enc xs)]) (.d (.int xs.l.sum)) := fun c => by
  show (match intsOf (xs.l.map enc) with | some bs => R.ok (Vl.d (.int bs.sum)) c | none => .no) = _
  rw [intsOf_enc]
end
end Dn
namespace Dn
open PySem PySem.Spec PyProof.Rows L2
open Dn.Enc (enc)
/-! tuple(x), x a list of one's own: a copy -/
def dTupO (i : Nat) : Den := fun δ c => match δ[i]? with
  | some (.ow xs) => .ok (.d (.tuple xs)) c
  | _ => .no
theorem snd_tupO {Z : Zz} {W : XK} {i : Nat} : SndE Z W (tCB (rTupA Z.K) (tCons (tVar i) tNil)) (dTupO i) := by
  intro H0 I H σ δ c a Q h
  unfold dTupO at h
  split at h
  · rename_i xs e
    obtain ⟨as, s⟩ := a.sl
    obtain ⟨l, vs, h1, m, h2, h3⟩ := s.own e
    exact ⟨.ref l, h1, l, vs, rfl, .inl ⟨.inl (.inl h2), newT a.k h3 h⟩⟩
  · exact h.elim
section
variable {α β γ τ κ : Type} {δ : List Sl} {m : M τ} {o : τ → γ}
theorem k_tupO [Enc α] {i : Nat} {xs : List α} (hi : δ[i]? = some (.ow (xs.map enc))) : PV (dTupO i δ) (.d (enc (Tp.mk xs))) := fun c => by
  unfold dTupO
  rw [hi]
  rfl
/-! dicts of one's own with int keys, typed -/
def kvI [Enc α] (kvs : List (Int × α)) : List (L2.Key × PyData) := kvs.map fun p => (.inl p.1, enc p.2)
theorem valG_kvI [Enc α] (n : Int) : ∀ kvs : List (Int × α), valG (kvI kvs) (.inl n) = (valG kvs n).map enc
  | [] => rfl
  | p :: kvs => by
    have ih := valG_kvI n kvs
    unfold valG kvI at ih ⊢
    rw [List.map_cons, List.find?_cons, List.find?_cons]
    by_cases e : p.1 = n
    · rw [decide_eq_true e, decide_eq_true (show (Sum.inl p.1 : L2.Key) = .inl n by rw [e])]; rfl
    · rw [decide_eq_false e, decide_eq_false (fun q : (Sum.inl p.1 : L2.Key) = .inl n => e (Sum.inl.inj q))]
      exact ih
theorem any_kvI [Enc α] (n : Int) (kvs : List (Int × α)) : ((kvI kvs).any fun kv => decide (kv.1 = .inl n)) = kvs.any fun kv => decide (kv.1 = n) := by
  unfold kvI
  rw [List.any_map]
  congr 1
  funext p
  by_cases e : p.1 = n
  · show decide ((Sum.inl p.1 : L2.Key) = .inl n) = _
    rw [decide_eq_true e, decide_eq_true (show (Sum.inl p.1 : L2.Key) = .inl n by rw [e])]
  · show decide ((Sum.inl p.1 : L2.Key) = .inl n) = _
    rw [decide_eq_false e, decide_eq_false (fun q : (Sum.inl p.1 : L2.Key) = .inl n => e (Sum.inl.inj q))]
theorem putG_kvI [Enc α] (kvs : List (Int × α)) (n : Int) (v : α) : putG (kvI kvs) (.inl n) (enc v) = kvI (putG kvs n v) := by
  unfold putG
  rw [any_kvI]
  split
  · unfold kvI
    rw [List.map_map, List.map_map]
    apply List.map_congr_left
    intro p _
    show (if (Sum.inl p.1 : L2.Key) = .inl n then ((Sum.inl p.1 : L2.Key), enc v) else (.inl p.1, enc p.2)) = (fun p : Int × α => ((Sum.inl p.1 : L2.Key), enc p.2)) (if p.1 = n then (p.1, v) else p)
    by_cases e : p.1 = n
    · rw [if_pos e, if_pos (by rw [e])]
    · rw [if_neg e, if_neg (fun q => e (Sum.inl.inj q))]
  · unfold kvI
    rw [List.map_append]; rfl
def dgetM (kvs : List (Int × α)) (n : Int) : M α := match valG kvs n with
  | some x => M.ret x
  | none => M.no
def dputM (kvs : List (Int × α)) (n : Int) (v : α) : M (List (Int × α)) := if kvs.length < 16777216 then M.ret (putG kvs n v) else M.no
theorem b_newK [Enc α] {i : Nat} {r : DenS} {K : Out → Int → R γ} {f : List (Int × α) → M τ} (h : ∀ kvs : List (Int × α), BK (r (δ.set i (.od (.k (kvI kvs))))) K (f kvs) o) : BK (dSeq (dNewK i) r δ) K (Let ([] : List (Int × α)) f) o := by
  refine b_seq ?_
  intro c
  exact h [] c
theorem b_getD [Enc α] {i : Nat} {dk : Den} {K : Vl → Int → R κ} {o : τ → κ} {kvs : List (Int × α)} (hi : δ[i]? = some (.od (.k (kvI kvs)))) (h : BK (dk δ) (fun y c => (getK (.k (kvI kvs)) y c).bind K) m o) : BK (dGetD i dk δ) K m o := by
  intro c
  show Rf (m c) o ((dGetD i dk δ c).bind K)
  unfold dGetD dkAt
  rw [hi]
  show Rf (m c) o (((dk δ c).bind (getK (.k (kvI kvs)))).bind K)
  rw [R.bind_assoc]
  exact h c
theorem k_getK [Enc α] {kvs : List (Int × α)} {n : Int} : RK (dgetM kvs n) (fun z => Vl.d (enc z)) (getK (.k (kvI kvs)) (.d (.int n))) := fun c => by
  unfold dgetM
  show Rf _ _ (match valG (kvI kvs) (.inl n) with | some x => R.ok (Vl.d x) c | none => .no)
  rw [valG_kvI]
  cases valG kvs n with
  | none => trivial
  | some x => exact rfl
theorem b_inD [Enc α] {i : Nat} {neg : Bool} {dk : Den} {K : Vl → Int → R κ} {o : τ → κ} {kvs : List (Int × α)} (hi : δ[i]? = some (.od (.k (kvI kvs)))) (h : BK (dk δ) (fun y c => (inK neg (.k (kvI kvs)) y c).bind K) m o) : BK (dInD neg i dk δ) K m o := by
  intro c
  show Rf (m c) o ((dInD neg i dk δ c).bind K)
  unfold dInD dkAt
  rw [hi]
  show Rf (m c) o (((dk δ c).bind (inK neg (.k (kvI kvs)))).bind K)
  rw [R.bind_assoc]
  exact h c
theorem k_inK [Enc α] {kvs : List (Int × α)} {n : Int} {neg : Bool} : PV (inK neg (.k (kvI kvs)) (.d (.int n))) (.d (.bool (xor neg (valG kvs n).isSome))) := fun c => by
  show R.ok (Vl.d (.bool (xor neg (valG (kvI kvs) (.inl n)).isSome))) c = _
  rw [valG_kvI]
  cases valG kvs n <;> rfl
theorem pv_inD [Enc α] {i : Nat} {neg : Bool} {dk : Den} {kvs : List (Int × α)} {n : Int} (hi : δ[i]? = some (.od (.k (kvI kvs)))) (h : PV (dk δ) (.d (.int n))) : PV (dInD neg i dk δ) (.d (.bool (xor neg (valG kvs n).isSome))) := fun c => by
  unfold dInD dkAt
  rw [hi]
  show (dk δ c).bind (inK neg (.k (kvI kvs))) = _
  rw [h c]
  exact k_inK c
def putVK (i : Nat) (δ : List Sl) (kvs : List (L2.Key × PyData)) (r : DenS) (K : Out → Int → R γ) (x : PyData) : Vl → Int → R γ
  | .d y, c => match keyOf y with
    | some k => if kvs.length < 16777216 then (r (δ.set i (.od (.k (putG kvs k x)))) c).bind K else .no
    | none => .no
  | _, _ => .no
def putXK (i : Nat) (δ : List Sl) (kvs : List (L2.Key × PyData)) (dk : Den) (r : DenS) (K : Out → Int → R γ) : Vl → Int → R γ
  | .d x, c => (dk δ c).bind (putVK i δ kvs r K x)
  | _, _ => .no
theorem b_putD [Enc α] {i : Nat} {dk dv : Den} {r : DenS} {K : Out → Int → R γ} {kvs : List (Int × α)} (hi : δ[i]? = some (.od (.k (kvI kvs)))) (h : BK (dv δ) (putXK i δ (kvI kvs) dk r K) m o) : BK (dSeq (dPutD i dk dv) r δ) K m o := by
  refine b_seq fun c => ?_
  show Rf (m c) o ((dPutD i dk dv δ c).bind _)
  unfold dPutD
  rw [R.bind_assoc]
  refine RfC (fun x c => ?_) (h c)
  unfold putXK putK2
  cases x with
  | d x =>
    dsimp only
    rw [hi]
    show ((dk δ c).bind (putK1 i δ x)).bind _ = _
    rw [R.bind_assoc]
    refine bindC fun y c => ?_
    unfold putVK putK1
    cases y with
    | d y =>
      dsimp only
      rw [hi]
      cases keyOf y with
      | none => rfl
      | some k =>
        dsimp only
        split <;> rfl
    | _ => rfl
  | _ => rfl
theorem r_putI [Enc α] {i : Nat} {r : DenS} {K : Out → Int → R γ} {kvs : List (Int × α)} {n : Int} {v : α} {k : List (Int × α) → M τ} (h : ∀ zs : List (Int × α), BK (r (δ.set i (.od (.k (kvI zs))))) K (k zs) o) :
    RK (M.bind (dputM kvs n v) k) o (putVK i δ (kvI kvs) r K (enc v) (.d (.int n))) := fun c => by
  have hl : (kvI kvs).length = kvs.length := List.length_map _
  show Rf _ _ (if (kvI kvs).length < 16777216 then (r (δ.set i (.od (.k (putG (kvI kvs) (.inl n) (enc v))))) c).bind K else .no)
  unfold dputM
  rw [hl, putG_kvI]
  by_cases z : kvs.length < 16777216
  · rw [if_pos z, if_pos z]; exact h _ c
  · rw [if_neg z, if_neg z]; trivial
end
end Dn
namespace Dn
open PySem PySem.Spec PyProof.Rows L2
open Dn.Enc (enc)
/-! {k: v for .. in ..}: a dict of one's own, keys ints and texts -/
abbrev DenK := List Sl → Int → R (List (L2.Key × PyData))
def SndK (Z : Zz) (W : XK) (te : TE) (de : DenK) : Prop := ∀ H0 I H σ δ c, At Z H0 I H σ δ c → ∀ Q : VK,
  Res Z W I H (de δ c) (fun kvs _ I' H' => ∀ l us, H l = none → I' l = none → H' l = some (.dK us) → Z.sa ≠ some l → us.map (·.1) = kvs.map (·.1) → DpAll Z.K I' (us.map (·.2)) (kvs.map (·.2)) → Q (.ref l) H') → te σ H Q
def dcPut (f : List (L2.Key × PyData) → Int → R (List (L2.Key × PyData))) (kvs : List (L2.Key × PyData)) : Vl → Vl → Int → R (List (L2.Key × PyData))
  | .d y, .d z, c => match keyOf y with
    | some k => if kvs.length < 16777216 then f (putG kvs k z) c else .no
    | none => .no
  | _, _, _ => .no
def dcD (dg : DenG) (dt : DenT) (dk dv : Den) (δ : List Sl) : List Vl → List (L2.Key × PyData) → Int → R (List (L2.Key × PyData))
  | [], kvs, c => .ok kvs c
  | x :: xs, kvs, c => match dg x δ with
    | none => .no
    | some δ1 => (dt δ1 c).calm.bind fun b c => if b = true then (dk δ1 c).calm.bind fun y c => (dv δ1 c).calm.bind fun z c => dcPut (dcD dg dt dk dv δ xs) kvs y z c else dcD dg dt dk dv δ xs kvs c
def dDc (vs : List Nat) (di : DenI) (dg : DenG) (dt : DenT) (dk dv : Den) : DenK := fun δ c => (di δ c).bind fun xs c => dcD dg dt dk dv (dwipe δ vs) xs [] c
section
variable {Z : Zz} {W : XK}
theorem snd_dc {wi : TI} {g : TG} {tt : TT} {tk tv : TE} {di : DenI} {dg : DenG} {dt : DenT} {dk dv : Den} {js vs : List Nat} (hj : ∀ j ∈ js, j ∈ vs) (hi : SndI Z W wi di) (hg : SndG Z js g dg) (ht : SndT Z E0 tt dt) (hk : SndE Z E0 tk dk) (hv : SndE Z E0 tv dv) :
    SndK Z W (tDc wi g tt tk tv vs) (dDc vs di dg dt dk dv) := by
  intro H0 I H σ δ c a Q h
  refine hi _ _ _ _ _ _ a _ (Res.imp (Res.bind h) fun xs c1 I1 H1 g1 k1 h1 J w => ?_)
  intro D hD
  obtain ⟨gD, kD⟩ := Gr.own (o := .dK []) k1 hD
  have sD := freshS k1 hD
  refine ⟨fun i m Hc => m = xs.length - i ∧ i ≤ xs.length ∧ ∃ Ic c acc ds, Gr Z I1 H1 Ic Hc ∧ Ok Z Ic Hc c ∧ Hc D = some (.dK acc) ∧ Ic D = none ∧ acc.map (·.1) = ds.map (·.1) ∧ DpAll Z.K Ic (acc.map (·.2)) (ds.map (·.2)) ∧
    Res Z W I1 H1 (dcD dg dt dk dv (dwipe δ vs) (xs.drop i) ds c) (fun kvs _ I' H' => ∀ l us, H l = none → I' l = none → H' l = some (.dK us) → Z.sa ≠ some l → us.map (·.1) = kvs.map (·.1) → DpAll Z.K I' (us.map (·.2)) (kvs.map (·.2)) → Q (.ref l) H'),
    ⟨xs.length, by simp, Nat.zero_le _, I1, c1, [], [], gD, kD, upd_same, freshI k1 hD, rfl, .nil, ?_⟩, ?_⟩
  · rw [List.drop_zero]; exact h1
  · rintro i m Hc ⟨rfl, hle, Ic, c, acc, ds, g2, k2, hD2, nD, hm, hd, r⟩
    have back : Grows Ic Hc := k2.ex
    by_cases hlt : i < xs.length
    · refine .inr ⟨w.go i Hc (fun b o e => back b o (g2.ii b o e)) hlt, fun Hn => ∃ Ic c acc ds, Gr Z I1 H1 Ic Hn ∧ Ok Z Ic Hn c ∧ Hn D = some (.dK acc) ∧ Ic D = none ∧ acc.map (·.1) = ds.map (·.1) ∧ DpAll Z.K Ic (acc.map (·.2)) (ds.map (·.2)) ∧
        Res Z W I1 H1 (dcD dg dt dk dv (dwipe δ vs) (xs.drop (i + 1)) ds c) (fun kvs _ I' H' => ∀ l us, H l = none → I' l = none → H' l = some (.dK us) → Z.sa ≠ some l → us.map (·.1) = kvs.map (·.1) → DpAll Z.K I' (us.map (·.2)) (kvs.map (·.2)) → Q (.ref l) H'),
        fun Hn n => ⟨xs.length - (i + 1), by omega, rfl, hlt, n⟩, fun v Hy y => ?_⟩
      obtain ⟨I2, g3, k3, hv1⟩ := w.yld i Hc v Hy xs[i] Ic c g2.ii k2 (by simp) y
      rw [List.drop_eq_getElem_cons hlt] at r
      unfold dcD at r
      have stay : ∀ {Ia Ha : Hp}, Gr Z Ic Hc Ia Ha → Ha D = some (.dK acc) ∧ Ia D = none := fun g => ⟨g.hh D _ sD hD2, g.fr D (by rw [hD2]; exact Option.some_ne_none _) nD⟩
      have a2 : At Z H0 I2 Hy (wipe σ vs) (dwipe δ vs) c := ⟨sls_wipe vs (a.sl.imp fun _ s => s.mono (g1.trans (g2.trans g3))), k3⟩
      split at r
      · exact r.elim
      · rename_i δ1 e1
        refine hg _ _ _ _ _ _ _ _ c a2 hv1 e1 _ fun σ1 s1 w1 => ⟨by rw [w1 vs hj, wipe_wipe], ?_⟩
        refine ht _ _ _ _ _ _ ⟨s1, k3⟩ _ ?_
        cases q1 : dt δ1 c with
        | no => rw [q1] at r; exact r.elim
        | ex k p c => rw [q1] at r; exact r.elim
        | ok b c2 =>
          rw [q1] at r
          intro I3 H3 g4 k4
          cases b with
          | false => exact iteF ⟨I3, c2, acc, ds, g2.trans (g3.trans g4), k4, (stay (g3.trans g4)).1, (stay (g3.trans g4)).2, hm, dps_grows (fun b o e => g4.ii b o (g3.ii b o e)) _ _ hd, r⟩
          | true =>
            refine iteT ?_
            refine hk _ _ _ _ _ _ ⟨s1.imp fun _ s => s.mono g4, k4⟩ _ ?_
            have r : Res Z W I1 H1 ((dk δ1 c2).calm.bind fun y c => (dv δ1 c).calm.bind fun z c => dcPut (dcD dg dt dk dv (dwipe δ vs) (xs.drop (i + 1))) ds y z c) _ := r
            cases q2 : dk δ1 c2 with
            | no => rw [q2] at r; exact r.elim
            | ex k p c => rw [q2] at r; exact r.elim
            | ok y c3 =>
              rw [q2] at r
              intro I4 H4 g5 k5 u hu
              refine hv _ _ _ _ _ _ ⟨s1.imp fun _ s => s.mono (g4.trans g5), k5⟩ _ ?_
              have r : Res Z W I1 H1 ((dv δ1 c3).calm.bind fun z c => dcPut (dcD dg dt dk dv (dwipe δ vs) (xs.drop (i + 1))) ds y z c) _ := r
              cases q3 : dv δ1 c3 with
              | no => rw [q3] at r; exact r.elim
              | ex k p c => rw [q3] at r; exact r.elim
              | ok z c4 =>
                rw [q3] at r
                intro I5 H5 g6 k6 v2 hv2
                have r : Res Z W I1 H1 (dcPut (dcD dg dt dk dv (dwipe δ vs) (xs.drop (i + 1))) ds y z c4) _ := r
                unfold dcPut at r
                split at r
                · rename_i y z
                  split at r
                  · rename_i k e2
                    split at r
                    · rename_i few
                      have hku : u = kV k := keyOf_dp e2 hu
                      have gg := g3.trans (g4.trans (g5.trans g6))
                      obtain ⟨z1, z2⟩ := stay gg
                      obtain ⟨r1, r2⟩ := putG_ok (k := k) hv2 hm (dps_grows gg.ii _ _ hd)
                      have len : acc.length = ds.length := by
                        have z := congrArg List.length hm
                        rwa [List.length_map, List.length_map] at z
                      refine ⟨acc, k, hku, z1, by rw [len, sizeLine_eq]; exact few, ?_⟩
                      have nI : ∀ {d : Addr} {o : HO}, I5 d = some o → d ≠ D := fun h z => by rw [z, z2] at h; cases h
                      refine ⟨I5, c4, putK acc k v2, _, ?_, ?_, upd_same, z2, r1, r2, r⟩
                      · have g7 := g2.trans gg
                        refine ⟨g7.ii, fun d o n e => ?_, fun d e => ?_, g7.fr⟩
                        · rw [upd_ne (fun z => by rw [z, hD] at e; cases e)]; exact g7.hh d o n e
                        · rw [upd_ne (fun z => e (by rw [z]; exact hD))]; exact g7.th d e
                      · refine ⟨fun d o e => by rw [upd_ne (nI e)]; exact k6.ex d o e, fun d e => ?_⟩
                        obtain ⟨n1, p, e2, e3⟩ := k6.st d e
                        exact ⟨n1, p, by rw [upd_ne (fun z => sD (by rw [← z]; exact e))]; exact e2, e3⟩
                    · exact r.elim
                  · exact r.elim
                · exact r.elim
    · have e : i = xs.length := by omega
      subst e
      refine .inl ⟨w.stop Hc fun b o e => back b o (g2.ii b o e), ?_⟩
      rw [List.drop_length] at r
      have r : Res Z W I1 H1 (R.ok ds c) _ := r
      exact r Ic Hc g2 k2 D acc (freshB g1 hD) nD hD2 sD hm hd
def dNewDk (i : Nat) (de : DenK) : DenS := fun δ c => (de δ c).bind fun kvs c => .ok (.nx (δ.set i (.od (.k kvs)))) c
theorem sns_newDk {i : Nat} {te : TE} {de : DenK} (he : SndK Z W te de) : SndS Z W (tAsg te (gName i)) (dNewDk i de) := by
  intro I0 H0 I H σ δ c g a D h
  refine he _ _ _ _ _ _ a _ (Res.imp (Res.bindS g h) fun kvs c1 I1 H1 g1 k1 q l us f0 f1 f2 f3 f4 f5 => ?_)
  obtain ⟨as, s0⟩ := a.sl
  have n : l ∉ as := fun m => by
    obtain ⟨ws, e, _⟩ := s0.at m
    rw [f0] at e
    cases e
  obtain ⟨bs, s2, _⟩ := (s0.mono g1).putD (o := .dK us) (dd := .k kvs) f2 f1 (freshB g f0) f3 ⟨us, rfl, f4, f5⟩ i n
  exact Res.okS q.1 k1 q.2 _ ⟨bs, s2⟩
end
end Dn
namespace Dn
open PySem PySem.Spec PyProof.Rows L2
open Dn.Enc (enc)
section
variable {α β γ τ κ : Type} {δ : List Sl} {m : M τ} {o : τ → γ}
/-! dict comprehensions, typed: keys ints -/
def dcM (t : α → Bool) (kf : α → Int) (vf : α → β) : List α → List (Int × β) → M (List (Int × β))
  | [], kvs => M.ret kvs
  | x :: xs, kvs => if t x = true then (if kvs.length < 16777216 then dcM t kf vf xs (putG kvs (kf x) (vf x)) else M.no) else dcM t kf vf xs kvs
theorem r_dc [Enc α] [Enc β] {dg : DenG} {dt : DenT} {dk dv : Den} {t : α → Bool} {kf : α → Int} {vf : α → β} (hb : ∀ x, ∃ δ1, dg (.d (enc x)) δ = some δ1 ∧ PV (dt δ1) (t x) ∧ PV (dk δ1) (.d (enc (kf x))) ∧ PV (dv δ1) (.d (enc (vf x)))) :
    ∀ (xs : List α) (kvs : List (Int × β)), RK (dcM t kf vf xs kvs) kvI (fun c => dcD dg dt dk dv δ (vls xs) (kvI kvs) c)
  | [], kvs => fun _ => rfl
  | x :: xs, kvs => fun c => by
    obtain ⟨δ1, e, h1, h2, h3⟩ := hb x
    have z : dcD dg dt dk dv δ (vls (x :: xs)) (kvI kvs) c = (dt δ1 c).calm.bind fun b c => if b = true then (dk δ1 c).calm.bind fun y c => (dv δ1 c).calm.bind fun z c => dcPut (dcD dg dt dk dv δ (vls xs)) (kvI kvs) y z c else dcD dg dt dk dv δ (vls xs) (kvI kvs) c := by
      show (match dg (.d (enc x)) δ with
        | none => R.no
        | some δ1 => (dt δ1 c).calm.bind fun b c => if b = true then (dk δ1 c).calm.bind fun y c => (dv δ1 c).calm.bind fun z c => dcPut (dcD dg dt dk dv δ (vls xs)) (kvI kvs) y z c else dcD dg dt dk dv δ (vls xs) (kvI kvs) c) = _
      rw [e]
    have l : (kvI kvs).length = kvs.length := List.length_map _
    show Rf (dcM t kf vf (x :: xs) kvs c) kvI (dcD dg dt dk dv δ (vls (x :: xs)) (kvI kvs) c)
    rw [z, h1 c]
    show Rf (dcM t kf vf (x :: xs) kvs c) kvI (if t x = true then (dk δ1 c).calm.bind fun y c => (dv δ1 c).calm.bind fun z c => dcPut (dcD dg dt dk dv δ (vls xs)) (kvI kvs) y z c else dcD dg dt dk dv δ (vls xs) (kvI kvs) c)
    unfold dcM
    by_cases q : t x = true
    · rw [if_pos q, if_pos q, h2 c]
      show Rf _ kvI ((dv δ1 c).calm.bind fun z c => dcPut (dcD dg dt dk dv δ (vls xs)) (kvI kvs) (.d (enc (kf x))) z c)
      rw [h3 c]
      show Rf _ kvI (if (kvI kvs).length < 16777216 then dcD dg dt dk dv δ (vls xs) (putG (kvI kvs) (.inl (kf x)) (enc (vf x))) c else .no)
      rw [l, putG_kvI]
      by_cases w : kvs.length < 16777216
      · rw [if_pos w, if_pos w]; exact r_dc hb xs _ c
      · rw [if_neg w, if_neg w]; trivial
    · rw [if_neg q, if_neg q]; exact r_dc hb xs kvs c
theorem k_dc [Enc α] [Enc β] {dg : DenG} {dt : DenT} {dk dv : Den} {t : α → Bool} {kf : α → Int} {vf : α → β} {xs : List α} (hb : ∀ x, ∃ δ1, dg (.d (enc x)) δ = some δ1 ∧ PV (dt δ1) (t x) ∧ PV (dk δ1) (.d (enc (kf x))) ∧ PV (dv δ1) (.d (enc (vf x)))) :
    RK (dcM t kf vf xs []) kvI (fun c => dcD dg dt dk dv δ (vls xs) [] c) := r_dc hb xs []
theorem b_dc {vs : List Nat} {di : DenI} {dg : DenG} {dt : DenT} {dk dv : Den} {K : List (L2.Key × PyData) → Int → R κ} {o : τ → κ} (h : BK (di δ) (fun xs c => (dcD dg dt dk dv (dwipe δ vs) xs [] c).bind K) m o) : BK (dDc vs di dg dt dk dv δ) K m o := by
  intro c
  show Rf (m c) o ((dDc vs di dg dt dk dv δ c).bind K)
  unfold dDc
  rw [R.bind_assoc]
  exact h c
theorem b_newDk {i : Nat} {de : DenK} {r : DenS} {K : Out → Int → R γ} (h : BK (de δ) (fun kvs c => (r (δ.set i (.od (.k kvs))) c).bind K) m o) : BK (dSeq (dNewDk i de) r δ) K m o := by
  refine b_seq ?_
  intro c
  show Rf (m c) o ((dNewDk i de δ c).bind _)
  unfold dNewDk
  rw [R.bind_assoc]
  exact h c
end
/-! sorted lists of pairs of ints, told -/
def pairI : PyData → Option (Int × Int)
  | .tuple [.int a, .int b] => some (a, b)
  | _ => none
theorem pairI_eq {d : PyData} {p : Int × Int} (e : pairI d = some p) : d = .tuple [.int p.1, .int p.2] := by
  unfold pairI at e
  split at e
  · cases e; rfl
  · cases e
def prsI : List PyData → Option (List (Int × Int))
  | [] => some []
  | d :: ds => match pairI d, prsI ds with
    | some p, some ps => some (p :: ps)
    | _, _ => none
def prD (p : Int × Int) : PyData := .tuple [.int p.1, .int p.2]
theorem prsI_eq : ∀ {ds : List PyData} {ps : List (Int × Int)}, prsI ds = some ps → ds = ps.map prD
  | [], ps, e => by cases e; rfl
  | d :: ds, ps, e => by
    unfold prsI at e
    split at e
    · rename_i p qs e1 e2
      cases e
      rw [pairI_eq e1, prsI_eq e2]; rfl
    · cases e
theorem prsI_map : ∀ ps : List (Int × Int), prsI (ps.map prD) = some ps
  | [] => rfl
  | p :: ps => by
    show (match some p, prsI (ps.map prD) with | some p, some ps => some (p :: ps) | _, _ => none) = _
    rw [prsI_map ps]
def pLe (p q : Int × Int) : Bool := decide (p.1 < q.1 ∨ (p.1 = q.1 ∧ p.2 ≤ q.2))
def sortP (ps : List (Int × Int)) : List (Int × Int) := ps.mergeSort pLe
theorem sortP_perm (ps : List (Int × Int)) : (sortP ps).Perm ps := List.mergeSort_perm _ _
theorem sortP_le (ps : List (Int × Int)) : (sortP ps).Pairwise (fun p q => pLe p q = true) :=
  List.pairwise_mergeSort (le := pLe) (fun a b c h1 h2 => by simp only [pLe, decide_eq_true_eq] at *; omega) (fun a b => by simp only [pLe, Bool.or_eq_true, decide_eq_true_eq]; omega) ps
def pBd (p : Int × Int) : Bool := decide (0 ≤ p.1 ∧ p.1 < 16777216 ∧ 0 ≤ p.2 ∧ p.2 < 16777216)
def gSortP : List Vl → Int → R (List PyData)
  | [.d (.list xs)], c => match prsI xs with
    | some ps => if ps.length < 64 ∧ ps.all pBd = true then .ok ((sortP ps).map prD) c else .no
    | none => .no
  | _, _ => .no
theorem dps_perm {K : PySem.W.Frag} {H : Hp} {xs ys : List V} (p : ys.Perm xs) : ∀ {ds : List PyData}, DpAll K H xs ds → ∃ es, DpAll K H ys es ∧ es.Perm ds := by
  induction p with
  | nil => intro ds h; cases h; exact ⟨[], .nil, .refl _⟩
  | cons x _ ih =>
    intro ds h
    cases h with
    | cons a b =>
      obtain ⟨es, h1, h2⟩ := ih b
      exact ⟨_ :: es, .cons a h1, h2.cons _⟩
  | swap x y l =>
    intro ds h
    cases h with
    | cons a b => cases b with
      | cons b c => exact ⟨_ :: _ :: _, .cons b (.cons a c), .swap _ _ _⟩
  | trans _ _ h1 h2 =>
    intro ds h
    obtain ⟨es, a1, a2⟩ := h2 h
    obtain ⟨fs, b1, b2⟩ := h1 a1
    exact ⟨fs, b1, b2.trans a2⟩
theorem dps_pair {K : PySem.W.Frag} {H : Hp} {R : V → V → Prop} {S : PyData → PyData → Prop} (h : ∀ x y d e, Dp K H x d → Dp K H y e → R x y → S d e) : ∀ {xs : List V} {ds : List PyData}, DpAll K H xs ds → xs.Pairwise R → ds.Pairwise S
  | _, _, .nil, _ => .nil
  | x :: xs, d :: ds, .cons a t, p => by
    obtain ⟨p1, p2⟩ := List.pairwise_cons.mp p
    refine List.pairwise_cons.mpr ⟨fun e he => ?_, dps_pair h t p2⟩
    obtain ⟨i, hi, rfl⟩ := List.mem_iff_getElem.mp he
    have l := dps_len t
    have q : ∃ v, xs[i]? = some v ∧ Dp K H v ds[i] := dps_get t (List.getElem?_eq_getElem hi)
    obtain ⟨v, hv, hd⟩ := q
    exact h _ _ _ _ a hd (p1 v (List.mem_of_getElem? hv))
theorem prD_tup {K : PySem.W.Frag} {H : Hp} {v : V} {p : Int × Int} (h : Dp K H v (prD p)) : TupI K H v [p.1, p.2] := by
  unfold prD at h
  cases h with
  | tup s t =>
    cases t with
    | cons a t => cases t with
      | cons b t => cases t; cases a; cases b; exact ⟨_, rfl, s⟩
theorem code2 (B x y : Int) : TS.code B [x, y] = x * B + y := by
  show x * B ^ 1 + (y * B ^ 0 + 0) = x * B + y
  rw [Int.pow_one, Int.pow_zero, Int.mul_one, Int.add_zero]
section
variable {Z : Zz} {W : XK}
theorem rc_sortP : SndCL Z W (rSortU Z.K 2 16777216) gSortP := by
  intro I H xs vs c k hv Q h
  unfold gSortP at h
  split at h
  · split at h
    · split at h
      · rename_i ps e hb
        obtain ⟨h64, hb⟩ := hb
        have hb : ∀ p ∈ ps, 0 ≤ p.1 ∧ p.1 < 16777216 ∧ 0 ≤ p.2 ∧ p.2 < 16777216 := fun p hp => of_decide_eq_true (List.all_eq_true.mp hb p hp)
        cases hv with
        | cons a b => cases b; cases a with
          | lst s t =>
            rename_i as vs
            rw [prsI_eq e] at t
            have len : vs.length = ps.length := by rw [dps_len t, List.length_map]
            have each : ∀ v ∈ vs, ∃ p ∈ ps, Dp Z.K I v (prD p) := fun v hv => by
              obtain ⟨i, hi, rfl⟩ := List.mem_iff_getElem.mp hv
              obtain ⟨d, h1, h2⟩ := dps_get' t (List.getElem?_eq_getElem hi)
              rw [List.getElem?_map] at h1
              cases q : ps[i]? with
              | none => rw [q] at h1; cases h1
              | some p => rw [q] at h1; cases h1; exact ⟨p, List.mem_of_getElem? q, h2⟩
            refine ⟨_, vs, rfl, sqL_grows k.ex s, by omega, fun v hv => ?_, fun ys l hp hw hl => ?_⟩
            · obtain ⟨p, m, d⟩ := each v hv
              obtain ⟨q, e1, e2⟩ := prD_tup d
              obtain ⟨b1, b2, b3, b4⟩ := hb p m
              refine ⟨[p.1, p.2], ⟨q, e1, sqT_grows k.ex e2⟩, rfl, ?_⟩
              intro n hn
              simp only [List.mem_cons, List.mem_nil_iff, or_false] at hn
              rcases hn with rfl | rfl <;> exact ⟨by omega, by omega⟩
            · obtain ⟨es, d1, p1⟩ := dps_perm hp t
              obtain ⟨qs, rfl⟩ : ∃ qs : List (Int × Int), es = qs.map prD := ⟨es.filterMap pairI, by
                have : ∀ e ∈ es, ∃ p, e = prD p := fun e he => by
                  obtain ⟨p, _, z⟩ := List.mem_map.mp (p1.mem_iff.mp he)
                  exact ⟨p, z.symm⟩
                clear d1 p1 hp hw
                induction es with
                | nil => rfl
                | cons e es ih =>
                  obtain ⟨p, rfl⟩ := this e List.mem_cons_self
                  rw [List.filterMap_cons_some (show pairI (prD p) = some p from rfl), List.map_cons, ← ih fun e he => this e (List.mem_cons_of_mem _ he)]⟩
              have pq : qs.Perm ps := by
                have z := p1.filterMap pairI
                have f : ∀ l : List (Int × Int), (l.map prD).filterMap pairI = l := fun l => by
                  induction l with
                  | nil => rfl
                  | cons p l ih => rw [List.map_cons, List.filterMap_cons_some (show pairI (prD p) = some p from rfl), ih]
                rwa [f, f] at z
              have bq : ∀ p ∈ qs, 0 ≤ p.1 ∧ p.1 < 16777216 ∧ 0 ≤ p.2 ∧ p.2 < 16777216 := fun p hp => hb p (pq.mem_iff.mp hp)
              have ord : (qs.map prD).Pairwise (fun d e => ∀ p q, p ∈ qs → q ∈ qs → d = prD p → e = prD q → pLe p q = true) := by
                refine dps_pair (fun x y d e hx hy r p q mp mq e1 e2 => ?_) d1 hw
                subst e1 e2
                obtain ⟨a, a1, a2⟩ := prD_tup hx
                obtain ⟨b, b1, b2⟩ := prD_tup hy
                have z := r _ _ ⟨a, a1, sqT_grows k.ex a2⟩ ⟨b, b1, sqT_grows k.ex b2⟩
                rw [code2, code2] at z
                obtain ⟨u1, u2, u3, u4⟩ := bq p mp
                obtain ⟨w1, w2, w3, w4⟩ := bq q mq
                exact decide_eq_true (by omega)
              have ord2 : qs.Pairwise (fun p q => pLe p q = true) := by
                rw [List.pairwise_map] at ord
                exact ord.imp_of_mem fun mp mq z => z _ _ mp mq rfl rfl
              have eq : qs = sortP ps := sorted_one (r := fun p q => pLe p q = true) (fun a b h1 h2 => by
                simp only [pLe, decide_eq_true_eq] at h1 h2
                exact Prod.ext (by omega) (by omega)) (pq.trans (sortP_perm ps).symm) ord2 (sortP_le ps)
              rw [eq] at d1
              exact newL k d1 h l hl
      · exact h.elim
    · exact h.elim
  · exact h.elim
end
end Dn
namespace Dn
open PySem PySem.Spec PyProof.Rows L2
open Dn.Enc (enc)
/-! d.setdefault(k, v), told by a call -/
section
variable {X : Cx} {pins : List (Addr × Obj)} {σ : L2.St} {H : Hp} {s : Shared} {a : Addr} {u r : Value} {A : Around} {E : Value → Shared → Prop}
theorem d_setd {kvs : List (L2.Key × V)} {k : L2.Key} {v : V} {Q : Value → Shared → Prop} (I : L2.Inv X pins σ H s) (e : H a = some (.dK kvs)) (few : valV kvs k = none → kvs.length < sizeLine) (ry : RelV (kV k) u) (rv : RelV v r)
    (h1 : ∀ x, valV kvs k = some x → ∀ w' s', L2.Inv X pins σ H s' → RelV x w' → Q w' s') (h2 : valV kvs k = none → ∀ s', L2.Inv X pins σ (upd H a (.dK (putK kvs k v))) s' → Q r s') :
    wpAny (model X.prog X.w) A (call (.builtin "dict.setdefault") [.ref a, u, r]) Q E s := by
  obtain ⟨z, hd, vs0, rel, dd⟩ := dk_of I.hok e
  have hz : vs0.length ≤ sizeLine := by rw [← rel.length]; exact z
  refine call_meetsIn PySem.F.slot_dict_setdefault dd.typeIs PySem.F.entry_dict_setdefault (PySem.F.args_dict_setdefault_3 _ _ _) (kt_meets_setdefault (mixKind X.prog X.w) a (kV_is ry) hd r) ⟨vs0, dd, hz, fun w hw => ?_, fun hn h' dd' hs => ?_⟩
  · have rr := rel.val k
    rw [hw] at rr
    cases hv : valV kvs k with
    | none => rw [hv] at rr; exact False.elim rr
    | some x => rw [hv] at rr; exact h1 x hv _ _ (I.tok _) rr
  · have rr := rel.val k
    rw [hn] at rr
    cases hv : valV kvs k with
    | some x => rw [hv] at rr; exact False.elim rr
    | none =>
      have hl2 : (putK kvs k v).length ≤ sizeLine := by have := length_putK kvs k v; have := few hv; omega
      exact h2 hv _ (d_write (t' := s.toks + 1) I (by rw [e]; exact True.intro) hs (let ⟨q, _, _, hq, _⟩ := dd'; ⟨q, hq⟩) (dk_new hl2 hd (rel.put k rv) dd'))
end
/-- e.setdefault(k, v), e a dict of one's own -/
def tDSetd (td ty tx : TE) : TE := fun σ H Q => td σ H fun x H1 => ∃ a, x = .ref a ∧ IsD H1 a ∧ ty σ H1 fun y H2 => tx σ H2 fun z H3 => ∃ kvs k, H3 a = some (.dK kvs) ∧ y = kV k ∧ (valV kvs k = none → kvs.length < sizeLine) ∧
  (∀ v, valV kvs k = some v → Q v H3) ∧ (valV kvs k = none → Q z (upd H3 a (.dK (putK kvs k z))))
theorem pe_dsetd {X : Cx} {o e f : Expr} {td ty tx : TE} {apos cpos : Pos} (ho : PE X o td) (he : PE X e ty) (hf : PE X f tx) (m : M2 X o "setdefault" apos e f cpos) : PE X (.Call (.Attribute o "setdefault" apos) [e, f] [] cpos) (tDSetd td ty tx) := by
  refine ⟨fun pins s σ H Q I h => ?_⟩
  refine wpAny_Call_method m.base m.few m.line PySem.F.plainAttrs_dict PySem.F.slot_dict_setdefault PySem.F.type_dict_setdefault (thn (ho.run pins s σ H _ I h) fun u s1 ⟨x, H1, I1, rx, a, ex, d, q1⟩ => ?_)
  subst ex
  obtain rfl : u = Value.ref a := rx
  obtain ⟨t1, t2, _⟩ := isD_at I1 d
  refine ⟨t1, t2, ?_⟩
  rw [m.trees]
  refine Calls.callWith_builtin rfl (Calls.evalArgs_plain (Calls.spliced_cons (thn (he.run pins s1 σ H1 _ I1 q1) fun iv s2 ⟨y, H2, I2, ry, q2⟩ =>
    Calls.spliced_cons (thn (hf.run pins s2 σ H2 _ I2 q2) fun fv s3 ⟨z, H3, I3, rz, kvs, k, ea, ey, few, q3, q4⟩ => Calls.spliced_nil ?_))))
  subst ey
  exact d_setd I3 ea few ry rz (fun x l w' s4 I4 rw' => ⟨x, _, I4, rw', q3 x l⟩) fun l s4 I4 => ⟨z, _, I4, rz, q4 l⟩
/-! if t or d.setdefault(k, v) != e: .. -/
def setdEnd (de : Den) (d e : DenS) (δ : List Sl) (w : Int) : Vl → Int → R Out
  | .d (.int x), c => if w = x then e δ c else d δ c
  | _, _ => .no
def setdNe (i : Nat) (δ : List Sl) (kvs : List (L2.Key × PyData)) (de : Den) (d e : DenS) : Vl → Vl → Int → R Out
  | .d (.int y), .d (.int z), c => match valG kvs (.inl y) with
    | some (.int w) => (de δ c).bind (setdEnd de d e δ w)
    | some _ => .no
    | none => if kvs.length < 16777216 then (de (δ.set i (.od (.k (putG kvs (.inl y) (.int z))))) c).bind (setdEnd de d e (δ.set i (.od (.k (putG kvs (.inl y) (.int z))))) z) else .no
  | _, _, _ => .no
def dIfSetd (dt : DenT) (i : Nat) (dk dv de : Den) (d e : DenS) : DenS := fun δ c => (dt δ c).bind fun b c => if b = true then d δ c else match δ[i]? with
  | some (.od (.k kvs)) => (dk δ c).bind fun y c => (dv δ c).bind fun z c => setdNe i δ kvs de d e y z c
  | _ => .no
section
variable {Z : Zz} {W : XK}
theorem sns_ifSetd {i : Nat} {tt : TT} {tk tv te : TE} {t u : TS} {dt : DenT} {dk dv de : Den} {d e : DenS} (ht : SndT Z W tt dt) (hk : SndE Z W tk dk) (hv : SndE Z W tv dv) (he : SndE Z W te de) (h1 : SndS Z W t d) (h2 : SndS Z W u e) :
    SndS Z W (tIfS (tOr tt (tTest (tOp rNe (tDSetd (tVar i) tk tv) te))) t u) (dIfSetd dt i dk dv de d e) := by
  intro I0 H0 I H σ δ c g a D h
  refine ht _ _ _ _ _ _ a _ (Res.imp (Res.bindS g h) fun b c1 I1 H1 g1 k1 q => ?_)
  obtain ⟨q1, q2⟩ := q
  cases b with
  | true => exact iteT (iteT (h1 _ _ _ _ _ _ _ q1 (a.go g1 k1) D q2))
  | false =>
    refine iteF ?_
    rw [if_neg Bool.false_ne_true] at q2
    split at q2
    · rename_i kvs e0
      have a1 := a.go g1 k1
      obtain ⟨as, s⟩ := a1.sl
      obtain ⟨l, o, e1, m, e2, e3⟩ := s.ownD e0
      obtain ⟨_, _, n1, n0, n2⟩ := s.at m
      obtain ⟨us, rfl, m1, m2⟩ := e3
      refine ⟨.ref l, e1, l, rfl, .inl ⟨us, .inl e2⟩, ?_⟩
      refine hk _ _ _ _ _ _ a1 _ (Res.imp (Res.bindS q1 q2) fun y c2 I2 H2 g2 k2 q v2 hy => ?_)
      obtain ⟨q3, q4⟩ := q
      have a2 := a1.go g2 k2
      refine hv _ _ _ _ _ _ a2 _ (Res.imp (Res.bindS q3 q4) fun z c3 I3 H3 g3 k3 q v3 hz => ?_)
      obtain ⟨q5, q6⟩ := q
      have gg := g2.trans g3
      have a3 := a2.go g3 k3
      have hl : H3 l = some (.dK us) := gg.hh _ _ n2 e2
      have hn : I3 l = none := gg.fr l (by rw [e2]; exact Option.some_ne_none _) n1
      have len : us.length = kvs.length := by
        have z := congrArg List.length m1
        rwa [List.length_map, List.length_map] at z
      unfold setdNe at q6
      split at q6
      · rename_i y z
        have hyk : v2 = kV (.inl y) := by cases hy; rfl
        rcases valG_ok (k := (.inl y : L2.Key)) m1 (dps_grows gg.ii _ _ m2) with ⟨w1, w2⟩ | ⟨v, x, w1, w2, w3⟩
        · rw [w2] at q6
          dsimp only at q6
          split at q6
          · rename_i few
            refine ⟨us, .inl y, hl, hyk, fun _ => (by rw [len, sizeLine_eq]; exact few), fun v hv => absurd (w1.symm.trans hv) (by simp), fun _ => ?_⟩
            have hz3 : Dp Z.K I3 v3 (.int z) := hz
            obtain ⟨r1, r2⟩ := putG_ok (k := (.inl y : L2.Key)) hz3 m1 (dps_grows gg.ii _ _ m2)
            obtain ⟨g4, k4⟩ := own_step (o := .dK (putK us (.inl y) v3)) q5 k3 n0 hn n2
            have a4 : At Z H0 I3 (upd H3 l (.dK (putK us (.inl y) v3))) σ (δ.set i (.od (.k (putG kvs (.inl y) (.int z))))) c3 := ⟨⟨as, (s.mono gg).changeD (ob := .dK (putK us (.inl y) v3)) (dd := .k (putG kvs (.inl y) (.int z))) ⟨_, rfl, r1, r2⟩ e0 e1⟩, k4⟩
            refine he _ _ _ _ _ _ a4 _ (Res.imp (Res.bindS g4 q6) fun x c5 I5 H5 g5 k5 q v5 hx => ?_)
            obtain ⟨q7, q8⟩ := q
            unfold setdEnd at q8
            split at q8
            · rename_i x
              cases hz3
              cases hx
              refine ⟨rfl, _, rfl, ?_⟩
              have a5 := a4.go g5 k5
              by_cases w : z = x
              · rw [if_pos w] at q8
                rw [w, decide_eq_true rfl]
                exact iteF (h2 _ _ _ _ _ _ _ q7 a5 D q8)
              · rw [if_neg w] at q8
                rw [decide_eq_false (fun q => w (V.int.inj q))]
                exact iteT (h1 _ _ _ _ _ _ _ q7 a5 D q8)
            · exact q8.elim
          · exact q6.elim
        · rw [w2] at q6
          split at q6
          · rename_i w e7
            cases e7
            refine ⟨us, .inl y, hl, hyk, fun n => absurd (w1.symm.trans n) (by simp), fun v' hv' => ?_, fun n => absurd (w1.symm.trans n) (by simp)⟩
            · rw [w1] at hv'
              cases hv'
              refine he _ _ _ _ _ _ a3 _ (Res.imp (Res.bindS q5 q6) fun x c5 I5 H5 g5 k5 q v5 hx => ?_)
              obtain ⟨q7, q8⟩ := q
              unfold setdEnd at q8
              split at q8
              · rename_i x
                cases w3
                cases hx
                refine ⟨rfl, _, rfl, ?_⟩
                have a5 := a3.go g5 k5
                by_cases w' : w = x
                · rw [if_pos w'] at q8
                  rw [w', decide_eq_true rfl]
                  exact iteF (h2 _ _ _ _ _ _ _ q7 a5 D q8)
                · rw [if_neg w'] at q8
                  rw [decide_eq_false (fun q => w' (V.int.inj q))]
                  exact iteT (h1 _ _ _ _ _ _ _ q7 a5 D q8)
              · exact q8.elim
          · exact q6.elim
          · rename_i e7; cases e7
      · exact q6.elim
    · exact q2.elim
end
end Dn
namespace Dn
open PySem PySem.Spec PyProof.Rows L2
open Dn.Enc (enc)
section
variable {α β γ τ κ : Type} {δ : List Sl} {m : M τ} {o : τ → γ}
theorem r_putX {i : Nat} {dk : Den} {r : DenS} {K : Out → Int → R γ} {kvs : List (L2.Key × PyData)} {x : PyData} (h : BK (dk δ) (putVK i δ kvs r K x) m o) : RK m o (putXK i δ kvs dk r K (.d x)) := fun c => h c
theorem set_self {i : Nat} {x : Sl} : ∀ {δ : List Sl}, δ[i]? = some x → δ.set i x = δ := fun {δ} h => by
  obtain ⟨hi, e⟩ := List.getElem?_eq_some_iff.mp h
  rw [← e, List.set_getElem_self]
def setdM (kvs : List (Int × Int)) (y z : Int) : M (List (Int × Int) × Int) := match valG kvs y with
  | some w => M.ret (kvs, w)
  | none => if kvs.length < 16777216 then M.ret (putG kvs y z, z) else M.no
theorem b_ifSetd {i : Nat} {dt : DenT} {dk dv de : Den} {d e r : DenS} {K : Out → Int → R γ} {kvs : List (Int × Int)} {b0 : Bool} {y z : Int} {x : List (Int × Int) → Int} {F G : List (Int × Int) → M τ} (hi : δ[i]? = some (.od (.k (kvI kvs))))
    (hb : PV (dt δ) b0) (hy : PV (dk δ) (.d (.int y))) (hz : PV (dv δ) (.d (.int z))) (hx : ∀ zs : List (Int × Int), PV (de (δ.set i (.od (.k (kvI zs))))) (.d (.int (x zs))))
    (hd : ∀ zs : List (Int × Int), BK (dSeq d r (δ.set i (.od (.k (kvI zs))))) K (F zs) o) (hr : ∀ zs : List (Int × Int), BK (dSeq e r (δ.set i (.od (.k (kvI zs))))) K (G zs) o) :
    BK (dSeq (dIfSetd dt i dk dv de d e) r δ) K (if b0 = true then F kvs else M.bind (setdM kvs y z) fun p => if (p.2 == x p.1) = true then G p.1 else F p.1) o := by
  have hl : (kvI kvs).length = kvs.length := List.length_map _
  have end_ : ∀ (zs : List (Int × Int)) (w : Int) (c : Int), Rf ((if (w == x zs) = true then G zs else F zs) c) o ((((de (δ.set i (.od (.k (kvI zs)))) c).bind (setdEnd de d e (δ.set i (.od (.k (kvI zs)))) w)).bind (seqO r)).bind K) := fun zs w c => by
    rw [hx zs c]
    show Rf _ o (((if w = x zs then e (δ.set i (.od (.k (kvI zs)))) c else d (δ.set i (.od (.k (kvI zs)))) c).bind (seqO r)).bind K)
    by_cases q : w = x zs
    · rw [if_pos q, if_pos (beq_iff_eq.mpr q)]; exact hr zs c
    · rw [if_neg q, if_neg (fun z => q (beq_iff_eq.mp z))]; exact hd zs c
  intro c
  show Rf _ o (((dIfSetd dt i dk dv de d e δ c).bind (seqO r)).bind K)
  unfold dIfSetd
  rw [hb c]
  show Rf _ o (((if b0 = true then d δ c else match δ[i]? with
    | some (.od (.k kvs)) => (dk δ c).bind fun y c => (dv δ c).bind fun z c => setdNe i δ kvs de d e y z c
    | _ => R.no).bind (seqO r)).bind K)
  cases b0 with
  | true =>
    have := hd kvs c
    rw [set_self hi] at this
    exact this
  | false =>
    rw [if_neg Bool.false_ne_true, if_neg Bool.false_ne_true, hi]
    dsimp only
    rw [hy c]
    show Rf _ o ((((dv δ c).bind fun z c => setdNe i δ (kvI kvs) de d e (.d (.int y)) z c).bind (seqO r)).bind K)
    rw [hz c]
    show Rf _ o (((setdNe i δ (kvI kvs) de d e (.d (.int y)) (.d (.int z)) c).bind (seqO r)).bind K)
    unfold setdNe setdM
    dsimp only
    rw [valG_kvI]
    cases q : valG kvs y with
    | some w =>
      have := end_ kvs w c
      rw [set_self hi] at this
      exact this
    | none =>
      dsimp only [Option.map]
      rw [hl]
      by_cases f : kvs.length < 16777216
      · rw [if_pos f, if_pos f]
        have e := putG_kvI kvs y z
        have e : putG (kvI kvs) (.inl y) (PyData.int z) = kvI (putG kvs y z) := e
        rw [e]
        exact end_ (putG kvs y z) z c
      · rw [if_neg f, if_neg f]; trivial
/-! sorted(pairs), typed -/
def pr2 (p : P2 Int Int) : Int × Int := (p.a, p.b)
def p2r (p : Int × Int) : P2 Int Int := ⟨p.1, p.2⟩
def sortPM (xs : List (P2 Int Int)) : M (List (P2 Int Int)) := if (xs.map pr2).length < 64 ∧ (xs.map pr2).all pBd = true then M.ret ((sortP (xs.map pr2)).map p2r) else M.no
theorem k_sortP {xs : List (P2 Int Int)} : RK (sortPM xs) (List.map enc) (gSortP [.d (enc xs)]) := fun c => by
  have e : xs.map enc = (xs.map pr2).map prD := by rw [List.map_map]; rfl
  show Rf (sortPM xs c) _ (match prsI (xs.map enc) with
    | some ps => if ps.length < 64 ∧ ps.all pBd = true then R.ok ((sortP ps).map prD) c else .no
    | none => .no)
  rw [e, prsI_map]
  unfold sortPM
  dsimp only
  split
  · show R.ok _ c = R.ok _ c
    rw [List.map_map]; rfl
  · trivial
end
end Dn
namespace Dn
open PySem PySem.Spec PyProof.Rows L2
open Dn.Enc (enc)
theorem u1 {k : Nat} {A : Around} (r : Room k A) : A.units + 1 < cLine := by
  have := r.un
  omega
section
variable {X : Cx}
/-! x = {k: v for ..}: the comprehension laid straight into a local name -/
theorem ps_setDc {i : Nat} {y : Str} {py : Pos} {kx vx tg iter : Expr} {ifs : List Expr} {scope : Scope} {own : List (Str × Nat)} {pos spos : Pos} {wi : TI} {g : TG} {tt : TT} {tk tv : TE} (hc : X.calm = true) (hN : X.N.Nodup) (hy : X.N[i]? = some y) (hyl : X.env.scope.names.lookup y = some .local)
    (hsw : swapsWith (.DictComp kx vx [⟨tg, iter, ifs, 0⟩] scope pos) (some (.Name y py)) spos.line X.env = pure true) (hi : PI X tg iter wi) (ok : BlkOk X.N X.env.scope scope own)
    (hg : ∀ (s : Shared) (H : Hp) (C : Addr) (cl : List (Str × Addr)) (fp : List Addr), PG (X.blk s H scope (compEnvC scope cl C X.env) fp) tg g) (ht : ∀ (s : Shared) (H : Hp) (C : Addr) (cl : List (Str × Addr)) (fp : List Addr), PTs (X.blk s H scope (compEnvC scope cl C X.env) fp) ifs tt)
    (hk : ∀ (s : Shared) (H : Hp) (C : Addr) (cl : List (Str × Addr)) (fp : List Addr), PE (X.blk s H scope (compEnvC scope cl C X.env) fp) kx tk)
    (he : ∀ (s : Shared) (H : Hp) (C : Addr) (cl : List (Str × Addr)) (fp : List Addr), PE (X.blk s H scope (compEnvC scope cl C X.env) fp) vx tv) (hs : ∀ x, foldedSetIterable iter X.env x = pure x := by intro _; rfl) :
    PS X (.Assign [.Name y py] (.DictComp kx vx [⟨tg, iter, ifs, 0⟩] scope pos) spos) (tAsg (tDc wi g tt tk tv (own.map (·.2))) (gName i)) := by
  refine ⟨fun pins s σ H D I h => ?_⟩
  rw [exec_Assign_Name_used _ _ _ _ hsw]
  refine wpAny_bind (wpAny_standAt (wpAny_bind ?_))
  show wpAny _ X.A (do let _ ← comprehension (.DictComp kx vx [⟨tg, iter, ifs, 0⟩] scope pos) scope X.env (firstIterPos [⟨tg, iter, ifs, 0⟩] pos) newDict false (eval iter X.env) (some (assign (.Name y py) X.env))) _ _ s
  have h : tDc wi g tt tk tv (own.map (·.2)) σ H (fun x H1 => gName i x σ H1 D.nx) := h
  refine wpAny_bind (thn (dc_core (Qf := fun _ s' => SP X pins D .next s') hc hN I hi ok hg ht hk he hs h fun L C s' m H' I' q hn f => ?_) fun _ s' hq => wpAny_pure (wpAny_pure hq))
  show wpAny _ _ (assign (.Name y py) X.env (.ref L)) _ _ _
  refine wpAny_assign_Name (store_ok2 (v := V.ref L) I' hN hy (.inl hyl) rfl (fun s2 I2 ⟨a, sb, ha⟩ => ?_) (.inr hyl))
  obtain ⟨f0, f1, f2, f3, f4, f5⟩ := f
  have haC : C ≠ a := by
    rcases ha with z | z
    · rw [z]; exact f1
    · exact fun e => f4 y a z e.symm
  refine ⟨m, hn.sameBut sb haC, fun h3 sb3 => ?_⟩
  exact ⟨_, H', I2.turned (t' := s2.toks) (fun b o hb e => (sb3.2 b hb).trans e) f0 f1 f3 f4 f5, q⟩
end
theorem sw_trueD {kx vx : Expr} {gs : List Comprehension} {scope : Scope} {pos py : Pos} {y : Str} {l : Nat} {env : Env} (hk : env.scope.kind = .function) (hy : env.scope.names.lookup y = some .local) (hl : (py.line == pos.line) = true)
    (ha : (scope.names.any fun (n, k) => n == y && (k == .local || k == .cell)) = false) : swapsWith (.DictComp kx vx gs scope pos) (some (.Name y py)) l env = pure true := by
  have ky : env.kindOf y = some .local := hy
  have hb : env.blockKind = .function := by unfold Env.blockKind; rw [hk]; rfl
  unfold swapsWith
  simp only [hb, ky, ha, Expr.pos, hl]
  rfl
end Dn
namespace Dn
open PySem PySem.Spec PyProof.Rows L2
open Dn.Enc (enc)
/-! a tuple once, or no time -/
theorem mul_one_tup (l : Addr) (items : Array Value) (n : Nat) (dd : Option Addr) (sl : Array (Option Value)) (x : Int) (u : Tok) (c0 : (decide (x < -(2 ^ 63)) || decide (x ≥ 2 ^ 63)) = false) (c1 : (items.isEmpty || x == 1) = true) :
    Meets (Builtin.«tuple.__mul__» ⟨[.ref l, .int x u], []⟩) (fun _ R s => s.heap.get? l = some { cls := .type "tuple", dict := dd, data := .seq items n, slots := sl } ∧ R (.ok (.ret (Value.ref l))) s) :=
  .of_wp fun prog w A R s h => by
    obtain ⟨hp, g, d, tk, os⟩ := s
    obtain ⟨hl, h⟩ := h
    have f1 := AutoSeq1.idx_int
    wp_walk using wpAny_loadPart' hl
    refine wpAny_ite_false (decide_eq_false (by rw [c0]; exact Bool.false_ne_true)) ?_
    wp_walk using wpAny_loadPart' hl
    exact ⟨_, rfl, h⟩
theorem mul_nil_tup (l : Addr) (items : Array Value) (n : Nat) (dd : Option Addr) (sl : Array (Option Value)) (x : Int) (u : Tok) (c0 : (decide (x < -(2 ^ 63)) || decide (x ≥ 2 ^ 63)) = false) (c1 : (items.isEmpty || x == 1) = false) (c2 : (decide (x ≤ 0) || items.isEmpty) = true) :
    Meets (Builtin.«tuple.__mul__» ⟨[.ref l, .int x u], []⟩) (fun _ R s => s.heap.get? l = some { cls := .type "tuple", dict := dd, data := .seq items n, slots := sl } ∧
      R (.ok (.ret (Value.ref s.heap.objs.size))) { s with heap := s.heap.push { cls := Value.type "tuple", data := Data.seq #[] }, toks := s.toks }) :=
  .of_wp fun prog w A R s h => by
    obtain ⟨hp, g, d, tk, os⟩ := s
    obtain ⟨hl, h⟩ := h
    have f1 := AutoSeq1.idx_int
    wp_walk using wpAny_loadPart' hl
    repeat (first
      | (refine wpAny_ite_false (decide_eq_false (by rw [c0]; exact Bool.false_ne_true)) ?_; wp_walk using wpAny_loadPart' hl)
      | (refine wpAny_ite_false (decide_eq_false (by rw [c1]; exact Bool.false_ne_true)) ?_; wp_walk using wpAny_loadPart' hl)
      | (refine wpAny_ite_true (decide_eq_true c2) ?_; wp_walk using wpAny_loadPart' hl))
    exact ⟨_, rfl, h⟩
def rRepA (K : PySem.W.Frag) : R2 := fun x y H Q => ∃ l k xs, x = .ref l ∧ y = .int k ∧ SqT K H l xs ∧ xs ≠ [] ∧ -1000 ≤ k ∧ k ≤ 1000 ∧ xs.length ≤ 1000 ∧ (k = 1 → Q (.ref l) H) ∧ (k ≤ 0 → ∀ p, H p = none → Q (.ref p) (upd H p (.tup []))) ∧
  (2 ≤ k → ∀ p, H p = none → Q (.ref p) (upd H p (.tup (List.replicate k.toNat xs).flatten)))
section
variable {X : Cx}
theorem op_repA : OpR X (binaryOp .Mult) (rRepA X.K) := by
  intro pins s σ H x y v u Q I rx ry h
  obtain ⟨l, k, xs, rfl, rfl, hT, hne, h1, h2, hz, q1, q0, q2⟩ := h
  by_cases k2 : 2 ≤ k
  · exact op_repT pins s σ H _ _ v u Q I rx ry ⟨l, k, xs, rfl, rfl, hT, hne, k2, h2, hz, q2 k2⟩
  cases rx
  obtain ⟨t, rfl⟩ := ry
  obtain ⟨its, r, ⟨⟨cls, dd, data, sl⟩, ho, hc, n, hd⟩, hs⟩ := I.tuple hT
  simp only at hc hd
  subst hc hd
  have hle : its.length = xs.length := r.length.symm
  have hn : its ≠ [] := fun e => hne (by
    rw [e] at hle
    exact List.eq_nil_of_length_eq_zero hle.symm)
  have hi : its.toArray.isEmpty = false := by
    cases its with
    | nil => exact absurd rfl hn
    | cons a b => rfl
  have c0 : (decide (k < -(2 ^ 63)) || decide (k ≥ 2 ^ 63)) = false := by
    rw [decide_eq_false (by omega), decide_eq_false (by omega)] <;> rfl
  by_cases k1 : k = 1
  · have c1 : (its.toArray.isEmpty || k == 1) = true := by
      rw [hi, Bool.false_or]
      exact beq_iff_eq.mpr k1
    refine wpAny_binaryOp_repeat_ref (T := "tuple") (U := "int") (by decide) ⟨_, ho, rfl⟩ (fun s' => typeIs_int s' k t) noFill_tuple_mul F.fills_int_mul F.slot_int_rmul repeat_tuple F.slot_int_index.lookup
      (call_meets F.slot_int_rmul (typeIs_int s k t) F.entry_int_rmul (F.args_int_rmul_2 _ _) (int_rmul_tuple k t l its.toArray n dd sl)
        ⟨ho, rfl, ⟨_, ho, rfl⟩, call_meets F.slot_tuple_mul ⟨_, ho, rfl⟩ F.entry_tuple_mul (F.args_tuple_mul_2 _ _) (mul_one_tup l its.toArray n dd sl k t c0 c1) ⟨ho, ?_⟩⟩)
    exact ⟨.ref l, H, I, rfl, q1 k1⟩
  · have c1 : (its.toArray.isEmpty || k == 1) = false := by
      rw [hi, Bool.false_or]
      exact beq_eq_false_iff_ne.mpr k1
    have c2 : (decide (k ≤ 0) || its.toArray.isEmpty) = true := by
      rw [decide_eq_true (by omega)]; rfl
    refine wpAny_binaryOp_repeat_ref (T := "tuple") (U := "int") (by decide) ⟨_, ho, rfl⟩ (fun s' => typeIs_int s' k t) noFill_tuple_mul F.fills_int_mul F.slot_int_rmul repeat_tuple F.slot_int_index.lookup
      (call_meets F.slot_int_rmul (typeIs_int s k t) F.entry_int_rmul (F.args_int_rmul_2 _ _) (int_rmul_tuple k t l its.toArray n dd sl)
        ⟨ho, rfl, ⟨_, ho, rfl⟩, call_meets F.slot_tuple_mul ⟨_, ho, rfl⟩ F.entry_tuple_mul (F.args_tuple_mul_2 _ _) (mul_nil_tup l its.toArray n dd sl k t c0 c1 c2) ⟨ho, ?_⟩⟩)
    refine ⟨.ref s.heap.objs.size, _, I.laid (t' := s.toks) (o := .tup []) (fun b ob q => Heap.get?_push_of_some _ q) (Nat.le_refl _) ?_, rfl, q0 (by omega) _ (I.hok.fresh (Nat.le_refl _))⟩
    exact ⟨Nat.zero_le _, [], .nil, IsTup.new _ _⟩
end
@[irreducible] def gRepA : Vl → Vl → Int → R Vl
  | .d (.tuple xs), .d (.int n), c => if xs.isEmpty = false ∧ -1000 ≤ n ∧ n ≤ 1000 ∧ xs.length ≤ 1000 then .ok (.d (.tuple (List.replicate n.toNat xs).flatten)) c else .no
  | _, _, _ => .no
theorem rr_repA {Z : Zz} {W : XK} : SndR Z W (rRepA Z.K) gRepA := by
  intro I H x y vx vy c k hx hy Q h
  unfold gRepA at h
  split at h
  · split at h
    · rename_i xs n e
      cases hx with
      | tup s t =>
        cases hy
        refine ⟨_, _, _, rfl, rfl, sqT_grows k.ex s, fun z => ?_, e.2.1, e.2.2.1, by rw [dps_len t]; exact e.2.2.2, fun n1 => ?_, fun n0 => ?_, fun _ => newT k (dps_repT t _) h⟩
        · have := (dps_nil t).mp z
          subst this
          cases e.1
        · subst n1
          have z : (List.replicate (1 : Int).toNat xs).flatten = xs := by
            show (List.replicate 1 xs).flatten = xs
            rw [List.replicate_succ, List.flatten_cons]; simp
          rw [z] at h
          exact Res.ok k h _ (.tup s t)
        · have z : n.toNat = 0 := by omega
          rw [z] at h
          exact newT k .nil h
    · exact h.elim
  · exact h.elim
@[irreducible] def repAM {α : Type} (xs : Tp α) (n : Int) : M (Tp α) := if xs.l.isEmpty = false ∧ -1000 ≤ n ∧ n ≤ 1000 ∧ xs.l.length ≤ 1000 then M.ret ⟨(List.replicate n.toNat xs.l).flatten⟩ else M.no
theorem repAM_ok {α : Type} {xs : Tp α} {n : Int} (h0 : 0 < xs.l.length) (h1 : -1000 ≤ n) (h2 : n ≤ 1000) (h3 : xs.l.length ≤ 1000) : repAM xs n = M.ret ⟨(List.replicate n.toNat xs.l).flatten⟩ := by
  unfold repAM
  exact if_pos ⟨by cases e : xs.l with | nil => rw [e] at h0; cases h0 | cons a l => rfl, h1, h2, h3⟩
theorem k_repA {α : Type} [Enc α] {xs : Tp α} {n : Int} : RK (repAM xs n) (fun y => Vl.d (enc y)) (gRepA (.d (enc xs)) (.d (.int n))) := fun c => by
  unfold repAM gRepA
  show Rf _ _ (if (xs.l.map enc).isEmpty = false ∧ -1000 ≤ n ∧ n ≤ 1000 ∧ (xs.l.map enc).length ≤ 1000 then _ else _)
  have e : (xs.l.map enc).isEmpty = xs.l.isEmpty := by cases xs.l <;> rfl
  rw [e, List.length_map]
  by_cases h : xs.l.isEmpty = false ∧ -1000 ≤ n ∧ n ≤ 1000 ∧ xs.l.length ≤ 1000
  · rw [if_pos h, if_pos h]
    show R.ok (Vl.d (.tuple (List.replicate n.toNat (xs.l.map enc)).flatten)) c = R.ok (Vl.d (.tuple ((List.replicate n.toNat xs.l).flatten.map enc))) c
    rw [List.map_flatten, List.map_replicate]
  · rw [if_neg h]; trivial
end Dn
namespace Dn
open PySem PySem.Spec PyProof.Rows L2
open Dn.Enc (enc)
/-! rewriting that leaves the kernel no guesses: these are no rows by rfl -/
theorem M.rb {α β : Type} (a : α) (f : α → M β) : M.bind (M.ret a) f = f a := funext fun _ => Eq.refl _
theorem M.cb {α : Type} (a : α) : M.calm (M.ret a) = M.ret a := funext fun _ => Eq.refl _
theorem M.lb {α : Type} {β : Type} (a : α) (f : α → M β) : Let a f = f a := funext fun _ => Eq.refl _
theorem M.eb {α β : Type} (k : Str) (f : α → M β) : M.bind (M.err k : M α) f = M.err k := funext fun _ => Eq.refl _
/-! small data -/
structure Fz (w p : Nat) (d : PyData) : Prop where
  t : tame d = true
  p : d.depth ≤ p
  w : d.weight ≤ w
theorem Fz.up {w p w' p' : Nat} {d : PyData} (f : Fz w p d) (h1 : w ≤ w') (h2 : p ≤ p') : Fz w' p' d := ⟨f.t, Nat.le_trans f.p h2, Nat.le_trans f.w h1⟩
theorem Fz.fits {w p : Nat} {d : PyData} (f : Fz w p d) (h1 : w ≤ 1000000) (h2 : p ≤ 50) : Fits d := ⟨f.t, Nat.le_trans f.p h2, Nat.le_trans f.w h1⟩
theorem fz_int {i : Int} (h : i.natAbs < 10 ^ 12) : Fz 40 0 (.int i) := by
  refine ⟨decide_eq_true h, Nat.le_of_eq (by simp only [PyData.depth]), ?_⟩
  simp only [PyData.weight]
  split
  · exact Nat.zero_le _
  · have := log2_le (k := 40) (Nat.lt_trans h (by decide)) (by decide)
    omega
theorem fz_bool {b : Bool} : Fz 0 0 (.bool b) := ⟨rfl, Nat.le_of_eq (by simp only [PyData.depth]), Nat.le_of_eq (by simp only [PyData.weight])⟩
theorem fz_none : Fz 0 0 .none := ⟨rfl, Nat.le_of_eq (by simp only [PyData.depth]), Nat.le_of_eq (by simp only [PyData.weight])⟩
theorem fz_str {x : Str} {n : Nat} (h : PyData.strOk x = true) (hn : x.cps.size ≤ n) : Fz n 0 (.str x) := ⟨by simp only [tame]; exact h, Nat.le_of_eq (by simp only [PyData.depth]), by simp only [PyData.weight]; exact hn⟩
theorem fz_all {w p : Nat} : ∀ {xs : List PyData}, (∀ x ∈ xs, Fz w p x) → tames xs = true ∧ PyData.depthAll xs ≤ p ∧ PyData.weightAll xs ≤ xs.length * (w + 1)
  | [], _ => ⟨rfl, by simp only [PyData.depthAll]; exact Nat.zero_le _, by simp only [PyData.weightAll]; exact Nat.zero_le _⟩
  | x :: xs, h => by
    obtain ⟨a, b, c⟩ := fz_all (xs := xs) fun y hy => h y (List.mem_cons_of_mem _ hy)
    have f := h x List.mem_cons_self
    refine ⟨by simp only [tames, f.t, a, Bool.and_self], by simp only [PyData.depthAll]; exact Nat.max_le.mpr ⟨f.p, b⟩, ?_⟩
    simp only [PyData.weightAll, List.length_cons, Nat.add_mul, Nat.one_mul]
    have := f.w
    omega
theorem fz_list {w p n : Nat} {xs : List PyData} (h : ∀ x ∈ xs, Fz w p x) (hn : xs.length ≤ n) : Fz (n * (w + 1)) (p + 1) (.list xs) := by
  obtain ⟨a, b, c⟩ := fz_all h
  exact ⟨by simp only [tame]; exact a, by simp only [PyData.depth]; exact Nat.succ_le_succ b, by simp only [PyData.weight]; exact Nat.le_trans c (Nat.mul_le_mul_right _ hn)⟩
theorem fz_tup {w p n : Nat} {xs : List PyData} (h : ∀ x ∈ xs, Fz w p x) (hn : xs.length ≤ n) : Fz (n * (w + 1)) (p + 1) (.tuple xs) := by
  obtain ⟨a, b, c⟩ := fz_all h
  exact ⟨by simp only [tame]; exact a, by simp only [PyData.depth]; exact Nat.succ_le_succ b, by simp only [PyData.weight]; exact Nat.le_trans c (Nat.mul_le_mul_right _ hn)⟩
theorem mem_map_enc {α : Type} [Enc α] {P : PyData → Prop} {l : List α} (h : ∀ a ∈ l, P (enc a)) : ∀ x ∈ l.map enc, P x := fun x hx => by
  obtain ⟨a, ha, rfl⟩ := List.mem_map.mp hx
  exact h a ha
theorem fz_encL {α : Type} [Enc α] {w p n : Nat} {l : List α} (h : ∀ a ∈ l, Fz w p (enc a)) (hn : l.length ≤ n) : Fz (n * (w + 1)) (p + 1) (enc l) := fz_list (mem_map_enc h) (by rw [List.length_map]; exact hn)
theorem fz_encT {α : Type} [Enc α] {w p n : Nat} {l : Tp α} (h : ∀ a ∈ l.l, Fz w p (enc a)) (hn : l.l.length ≤ n) : Fz (n * (w + 1)) (p + 1) (enc l) := fz_tup (mem_map_enc h) (by rw [List.length_map]; exact hn)
theorem reprM_ok {d : PyData} (f : Fits d) : reprM (.list [d]) = M.ret (PyData.shown (.list [d])) := by
  funext c
  have g := f.repr c
  have k := k_repr (xs := [d]) c
  unfold reprM at k ⊢
  split at k
  · rename_i h; rw [if_pos h]
  · rename_i h
    simp only [gRepr] at g
    split at g
    · rename_i q; exact absurd q h
    · cases g
theorem same_enc {a b : PyData} (f : Fits a) (e : a = b) : (M.bind (reprM (.list [a])) fun t1 => M.bind (reprM (.list [b])) fun t2 => M.ret (decide (t1 = t2))) = M.ret true := by
  subst e
  rw [reprM_ok f, M.ret_bind, M.ret_bind, decide_eq_true rfl]
section
variable {α β γ σ ρ τ : Type}
/-! draws: at most k numbers are drawn, and a thing with P comes out -/
def Dr (m : M α) (k : Int) (P : α → Prop) : Prop := ∀ c, 0 ≤ c → c + k ≤ 100000000 → Gives (m c) fun a c' => c ≤ c' ∧ c' ≤ c + k ∧ P a
theorem Dr.ret {a : α} {P : α → Prop} (h : P a) : Dr (M.ret a) 0 P := fun c _ _ => .ret ⟨Int.le_refl _, by omega, h⟩
theorem Dr.of {m : M α} {a : α} {P : α → Prop} (e : m = M.ret a) (h : P a) : Dr m 0 P := e ▸ Dr.ret h
theorem Dr.mono {m : M α} {k l : Int} {P Q : α → Prop} (h : Dr m k P) (hk : k ≤ l) (q : ∀ a, P a → Q a) : Dr m l Q := fun c h0 h1 =>
  (h c h0 (by omega)).imp fun a c' ⟨x, y, z⟩ => ⟨x, by omega, q a z⟩
theorem Dr.bind {m : M α} {f : α → M β} {k l : Int} {P : α → Prop} {Q : β → Prop} (h : Dr m k P) (hf : ∀ a, P a → Dr (f a) l Q) (hl : 0 ≤ l) : Dr (M.bind m f) (k + l) Q := fun c h0 h1 =>
  .bind (h c h0 (by omega)) fun a c' ⟨x, y, z⟩ => (hf a z c' (by omega) (by omega)).imp fun b c2 ⟨x2, y2, z2⟩ => ⟨by omega, by omega, z2⟩
theorem Dr.calm {m : M α} {k : Int} {P : α → Prop} (h : Dr m k P) : Dr (M.calm m) k P := fun c h0 h1 => .calm (h c h0 h1)
theorem Dr.ite {b : Bool} {m n : M α} {k : Int} {P : α → Prop} (h : b = true → Dr m k P) (h' : b = false → Dr n k P) : Dr (if b = true then m else n) k P := by
  cases b with
  | true => rw [if_pos rfl]; exact h rfl
  | false => rw [if_neg Bool.false_ne_true]; exact h' rfl
theorem Dr.map {xs : List α} {f : α → M β} {k : Int} {P : β → Prop} (hl : xs.length ≤ 16777216) (hk : 0 ≤ k) (h : ∀ x ∈ xs, Dr (f x) k P) : Dr (mapM1 xs f) (xs.length * k) fun ys => ys.length = xs.length ∧ ∀ y ∈ ys, P y := fun c h0 h1 => by
  refine (Gives.mapM1 (fun i acc c' => c ≤ c' ∧ c' ≤ c + i * k ∧ acc.length = i ∧ ∀ y ∈ acc, P y) hl ⟨Int.le_refl _, by simp, rfl, by simp⟩ ?_).imp fun a c' h => h
  rintro i x acc c' hx ⟨a1, a2, a3, a4⟩
  have hi : i < xs.length := (List.getElem?_eq_some_iff.mp hx).1
  have hm : x ∈ xs := List.mem_of_getElem? hx
  have e : ((i + 1 : Nat) : Int) * k = i * k + k := by rw [Int.natCast_add, Int.add_mul]; simp
  have le : ((i + 1 : Nat) : Int) * k ≤ xs.length * k := Int.mul_le_mul_of_nonneg_right (by omega) hk
  refine (h x hm c' (by omega) (by omega)).imp fun y c2 ⟨b1, b2, b3⟩ => ⟨by omega, by omega, by simp [a3], fun z hz => ?_⟩
  rcases List.mem_append.mp hz with q | q
  · exact a4 z q
  · rw [List.mem_singleton.mp q]; exact b3
theorem Dr.forS {xs : List α} {s : σ} {f : σ → α → M σ} {k : Int} (I : Nat → σ → Prop) (hk : 0 ≤ k) (h0 : I 0 s) (h : ∀ i s x, xs[i]? = some x → I i s → Dr (f s x) k (I (i + 1))) : Dr (Dn.forS xs s f) (xs.length * k) (I xs.length) := fun c c0 c1 => by
  refine (Gives.forS (fun i s c' => c ≤ c' ∧ c' ≤ c + i * k ∧ I i s) ⟨Int.le_refl _, by simp, h0⟩ ?_).imp fun a c' h => h
  rintro i x s c' hx ⟨a1, a2, a3⟩
  have hi : i < xs.length := (List.getElem?_eq_some_iff.mp hx).1
  have e : ((i + 1 : Nat) : Int) * k = i * k + k := by rw [Int.natCast_add, Int.add_mul]; simp
  have le : ((i + 1 : Nat) : Int) * k ≤ xs.length * k := Int.mul_le_mul_of_nonneg_right (by omega) hk
  exact (h i s x hx a3 c' (by omega) (by omega)).imp fun y c2 ⟨b1, b2, b3⟩ => ⟨by omega, by omega, b3⟩
/-- a loop that never goes out -/
theorem Dr.forF {xs : List α} {s : σ} {f : σ → α → M (Fl σ ρ)} {k : Int} (I : Nat → σ → Prop) (hk : 0 ≤ k) (h0 : I 0 s) (h : ∀ i s x, xs[i]? = some x → I i s → Dr (f s x) k fun w => ∃ s', w = .nx s' ∧ I (i + 1) s') :
    Dr (Dn.forF xs s f) (xs.length * k) fun w => ∃ s', w = .nx s' ∧ I xs.length s' := fun c c0 c1 => by
  refine Gives.forF (fun i s c' => c ≤ c' ∧ c' ≤ c + i * k ∧ I i s) _ ⟨Int.le_refl _, by simp, h0⟩ ?_ ?_
  · rintro i x s c' hx ⟨a1, a2, a3⟩
    have hi : i < xs.length := (List.getElem?_eq_some_iff.mp hx).1
    have e : ((i + 1 : Nat) : Int) * k = i * k + k := by rw [Int.natCast_add, Int.add_mul]; simp
    have le : ((i + 1 : Nat) : Int) * k ≤ xs.length * k := Int.mul_le_mul_of_nonneg_right (by omega) hk
    refine (h i s x hx a3 c' (by omega) (by omega)).imp fun w c2 ⟨b1, b2, s', e', b3⟩ => ?_
    subst e'
    exact ⟨by omega, by omega, b3⟩
  · rintro s c' ⟨a1, a2, a3⟩
    exact ⟨a1, a2, s, rfl, a3⟩
theorem Dr.thenF {m : M (Fl σ ρ)} {h : ρ → M τ} {f : σ → M τ} {k l : Int} {P : σ → Prop} {Q : τ → Prop} (hm : Dr m k fun w => ∃ s', w = .nx s' ∧ P s') (hf : ∀ s, P s → Dr (f s) l Q) (hl : 0 ≤ l) : Dr (Dn.thenF m h f) (k + l) Q :=
  Dr.bind hm (fun w ⟨s', e, p⟩ => by subst e; exact hf s' p) hl
theorem Dr.run {m : M α} {k : Int} {P : α → Prop} (h : Dr m k P) (hk : k ≤ 100000000) : ∃ a c, m 0 = .ok a c ∧ P a := by
  obtain ⟨a, c, e, _, _, p⟩ := h 0 (Int.le_refl _) (by omega)
  exact ⟨a, c, e, p⟩
theorem Dr.ix {xs : List α} {i : Int} {P : α → Prop} (h0 : 0 ≤ i) (h1 : i < xs.length) (h : ∀ x ∈ xs, P x) : Dr (ixM xs i) 0 P := Dr.of (ixM_ok h0 h1) (h _ (List.getElem_mem _))
theorem Dr.step {m : M α} {f : α → M β} {k K : Int} {P : α → Prop} {Q : β → Prop} (h : Dr m k P) (hk : k ≤ K) (hf : ∀ a, P a → Dr (f a) (K - k) Q) : Dr (M.bind m f) K Q :=
  Dr.mono (Dr.bind h hf (by omega)) (by omega) fun _ q => q
theorem Dr.stepc {m : M α} {f : α → M β} {k K : Int} {P : α → Prop} {Q : β → Prop} (h : Dr m k P) (hk : k ≤ K) (hf : ∀ a, P a → Dr (f a) (K - k) Q) : Dr (M.bind (M.calm m) f) K Q := Dr.step h.calm hk hf
theorem Dr.done {a : α} {K : Int} {P : α → Prop} (h : P a) (hK : 0 ≤ K) : Dr (M.ret a) K P := (Dr.ret h).mono hK fun _ q => q
theorem Dr.eq {m : M α} {f : α → M β} {K : Int} {a : α} {Q : β → Prop} (e : m = M.ret a) (h : Dr (f a) K Q) : Dr (M.bind m f) K Q := by rw [e]; exact h
theorem Dr.eqc {m : M α} {f : α → M β} {K : Int} {a : α} {Q : β → Prop} (e : m = M.ret a) (h : Dr (f a) K Q) : Dr (M.bind (M.calm m) f) K Q := by rw [e]; exact h
theorem Dr.thn {m : M (Fl σ ρ)} {h : ρ → M τ} {f : σ → M τ} {k K : Int} {P : σ → Prop} {Q : τ → Prop} (hm : Dr m k fun w => ∃ s', w = .nx s' ∧ P s') (hk : k ≤ K) (hf : ∀ s, P s → Dr (f s) (K - k) Q) : Dr (Dn.thenF m h f) K Q :=
  Dr.mono (Dr.thenF hm hf (by omega)) (by omega) fun _ q => q
/-! what only reckons -/
theorem calm_eq {m : M α} {a : α} (e : m = M.ret a) : M.calm m = M.ret a := by rw [e]; rfl
theorem map_ret {xs : List α} {g : α → β} (hl : xs.length ≤ 16777216) : mapM1 xs (fun x => M.ret (g x)) = M.ret (xs.map g) := mapM1_pure hl fun _ _ => rfl
theorem forS_app {xs : List α} {f : List β → α → M (List β)} {g : α → β} : ∀ {s : List β}, s.length + xs.length ≤ 16777216 → (∀ s x, x ∈ xs → s.length < 16777216 → f s x = M.ret (s ++ [g x])) → Dn.forS xs s f = M.ret (s ++ xs.map g) := by
  induction xs with
  | nil => intro s _ _; rw [List.map_nil, List.append_nil]; rfl
  | cons x xs ih =>
    intro s hl h
    rw [List.length_cons] at hl
    show M.bind (f s x) (fun s => Dn.forS xs s f) = _
    rw [h s x List.mem_cons_self (by omega), M.ret_bind, ih (by rw [List.length_append, List.length_singleton]; omega) fun s y hy => h s y (List.mem_cons_of_mem _ hy), List.map_cons, List.append_assoc]
    rfl
theorem forS_ext {xs : List α} {f : List β → α → M (List β)} {g : α → List β} : ∀ {s : List β}, (∀ s x, x ∈ xs → f s x = M.ret (s ++ g x)) → Dn.forS xs s f = M.ret (s ++ (xs.map g).flatten) := by
  induction xs with
  | nil => intro s _; rw [List.map_nil, List.flatten_nil, List.append_nil]; rfl
  | cons x xs ih =>
    intro s h
    show M.bind (f s x) (fun s => Dn.forS xs s f) = _
    rw [h s x List.mem_cons_self, M.ret_bind, ih fun s y hy => h s y (List.mem_cons_of_mem _ hy), List.map_cons, List.flatten_cons, List.append_assoc]
/-- the same with a bound on what has been put together -/
theorem forS_extB {xs : List α} {f : List β → α → M (List β)} {g : α → List β} {B : Nat} (hg : ∀ x ∈ xs, (g x).length ≤ B) : ∀ {s : List β}, s.length + xs.length * B ≤ 16777216 → (∀ s x, x ∈ xs → s.length + B ≤ 16777216 → f s x = M.ret (s ++ g x)) → Dn.forS xs s f = M.ret (s ++ (xs.map g).flatten) := by
  induction xs with
  | nil => intro s _ _; rw [List.map_nil, List.flatten_nil, List.append_nil]; rfl
  | cons x xs ih =>
    intro s hl h
    rw [List.length_cons, Nat.add_mul, Nat.one_mul] at hl
    have hx := hg x List.mem_cons_self
    show M.bind (f s x) (fun s => Dn.forS xs s f) = _
    rw [h s x List.mem_cons_self (by omega), M.ret_bind, ih (fun y hy => hg y (List.mem_cons_of_mem _ hy)) (by rw [List.length_append]; omega) fun s y hy => h s y (List.mem_cons_of_mem _ hy), List.map_cons, List.flatten_cons, List.append_assoc]
theorem lc2_flat {xs : List α} {t : α → M Bool} {ys : α → M (List β)} {u : α → β → M Bool} {f : α → β → M γ} {g : α → List γ} {B : Nat} (hx : ∀ x ∈ xs, t x = M.ret true ∧ ∃ l, ys x = M.ret l ∧ l.length ≤ B ∧ compM l (u x) (f x) = M.ret (g x)) (hl : xs.length * B ≤ 16777216) :
    lc2M xs t ys u f = M.ret (xs.map g).flatten := by
  unfold lc2M
  have main : ∀ (xs : List α) (n : Nat), (∀ x ∈ xs, t x = M.ret true ∧ ∃ l, ys x = M.ret l ∧ l.length ≤ B ∧ compM l (u x) (f x) = M.ret (g x)) → n + xs.length * B ≤ 16777216 → comp2M t ys u f xs n = M.ret (xs.map g).flatten := by
    intro xs
    induction xs with
    | nil => intro n _ _; rfl
    | cons x xs ih =>
      intro n hx hl
      rw [List.length_cons, Nat.add_mul, Nat.one_mul] at hl
      obtain ⟨e1, l, e2, b, e3⟩ := hx x List.mem_cons_self
      show M.bind (M.calm (t x)) _ = _
      rw [e1]
      show M.bind (M.calm (ys x)) _ = _
      rw [e2]
      show (if n + l.length ≤ 16777216 then M.bind (compM l (u x) (f x)) (fun zs => M.bind (comp2M t ys u f xs (n + l.length)) fun ws => M.ret (zs ++ ws)) else M.no) = _
      rw [if_pos (by omega), e3, M.ret_bind, ih _ (fun y hy => hx y (List.mem_cons_of_mem _ hy)) (by omega), M.ret_bind, List.map_cons, List.flatten_cons]
  exact main xs 0 hx (by omega)
theorem comp_ret {xs : List α} {g : α → β} : compM xs (fun _ => M.ret true) (fun x => M.ret (g x)) = M.ret (xs.map g) := by
  induction xs with
  | nil => rfl
  | cons x xs ih =>
    show M.bind (M.ret (g x)) (fun y => M.bind (compM xs _ _) fun ys => M.ret (y :: ys)) = _
    rw [ih]
    rfl
theorem cut_nn {xs : List α} {a b : Int} (ha : 0 ≤ a) (hb : a ≤ b) : cut xs (some a) (some b) = (xs.drop a.toNat).take (b - a).toNat := by
  unfold cut
  show (xs.drop (if a < 0 then (a + (xs.length : Int)).toNat else min a.toNat xs.length)).take ((if b < 0 then (b + (xs.length : Int)).toNat else min b.toNat xs.length) - (if a < 0 then (a + (xs.length : Int)).toNat else min a.toNat xs.length)) = _
  rw [if_neg (by omega), if_neg (by omega)]
  apply List.ext_getElem?
  intro i
  by_cases h : i < (b - a).toNat ∧ a.toNat + i < xs.length
  · rw [List.getElem?_take_of_lt (by omega), List.getElem?_take_of_lt (by omega), List.getElem?_drop, List.getElem?_drop, Nat.min_eq_left (by omega)]
  · rw [List.getElem?_eq_none (by rw [List.length_take, List.length_drop]; omega), List.getElem?_eq_none (by rw [List.length_take, List.length_drop]; omega)]
theorem cut_to {xs : List α} {b : Int} (hb : 0 ≤ b) : cut xs none (some b) = xs.take b.toNat := by
  unfold cut
  show (xs.drop 0).take ((if b < 0 then (b + (xs.length : Int)).toNat else min b.toNat xs.length) - 0) = _
  rw [if_neg (by omega), List.drop_zero, Nat.sub_zero, Nat.min_comm, List.take_eq_take_iff]
  omega
theorem cut_from {xs : List α} {a : Int} (ha : 0 ≤ a) : cut xs (some a) none = xs.drop a.toNat := by
  unfold cut
  show (xs.drop (if a < 0 then (a + (xs.length : Int)).toNat else min a.toNat xs.length)).take (xs.length - (if a < 0 then (a + (xs.length : Int)).toNat else min a.toNat xs.length)) = _
  rw [if_neg (by omega)]
  apply List.ext_getElem?
  intro i
  by_cases h : a.toNat + i < xs.length
  · rw [List.getElem?_take_of_lt (by omega), List.getElem?_drop, List.getElem?_drop, Nat.min_eq_left (by omega)]
  · rw [List.getElem?_eq_none (by rw [List.length_take, List.length_drop]; omega), List.getElem?_eq_none (by rw [List.length_drop]; omega)]
/-- [xs[i] for i in range(a, b)] -/
theorem map_ix {xs : List α} {a : Int} {k : Nat} (ha : 0 ≤ a) (hk : a.toNat + k ≤ xs.length) (hl : k ≤ 16777216) : mapM1 (rngL a k) (fun i => ixM xs i) = M.ret ((xs.drop a.toNat).take k) := by
  cases k with
  | zero => rw [List.take_zero]; unfold rngL; rfl
  | succ k =>
    have ne : 0 < xs.length := by omega
    rw [mapM1_pure (g := fun i : Int => (xs[i.toNat]?).getD xs[0]) (by rw [rngL_len]; exact hl) fun i hi => ?_]
    · congr 1
      apply List.ext_getElem?
      intro j
      by_cases hj : j < k + 1
      · rw [List.getElem?_take_of_lt hj, List.getElem?_drop]
        unfold rngL
        rw [List.map_map, List.getElem?_map, List.getElem?_range hj]
        show some ((xs[(a + (j : Int)).toNat]?).getD xs[0]) = _
        rw [show (a + (j : Int)).toNat = a.toNat + j by omega, List.getElem?_eq_getElem (by omega)]
        rfl
      · rw [List.getElem?_eq_none (by rw [List.length_map, rngL_len]; omega), List.getElem?_eq_none (by rw [List.length_take]; omega)]
    · obtain ⟨h1, h2⟩ := rngL_mem.mp hi
      rw [ixM_ok (by omega) (by omega), List.getElem?_eq_getElem (by omega)]
      rfl
theorem rngL_zero {n : Nat} : rngL 0 n = (List.range n).map fun (i : Nat) => (i : Int) := by
  unfold rngL
  exact List.map_congr_left fun i _ => by omega
theorem rng1_ok {n : Int} (h0 : 0 ≤ n) (h1 : n ≤ 1000000000) : rng1M n = M.ret (rngL 0 n.toNat) := rng1M_ok (by omega) (by omega)
theorem rng2_ok {a n : Int} (h0 : -1000000000 ≤ a) (h1 : a ≤ 1000000000) (h2 : -1000000000 ≤ n) (h3 : n ≤ 1000000000) : rng2M a n = M.ret (rngL a (n - a).toNat) := rng2M_ok (by omega) (by omega) (by omega) (by omega)
theorem ceil_le {h n : Int} (h0 : 0 ≤ h) (n0 : 1 ≤ n) : (h + n - 1) / n ≤ h := by
  by_cases z : h = 0
  · subst z
    rw [Int.ediv_eq_zero_of_lt (by omega) (by omega)]
    exact Int.le_refl _
  · have e : h + n - 1 = (h - 1) + 1 * n := by omega
    rw [e, Int.add_mul_ediv_right _ _ (by omega)]
    have := Int.ediv_le_self n (show 0 ≤ h - 1 by omega)
    omega
theorem size_up {h n : Int} (h0 : 0 ≤ h) (n0 : 1 ≤ n) : Builtin.Range.rangeSize 0 h n = (h + n - 1) / n := by
  unfold Builtin.Range.rangeSize
  rw [if_pos (by omega)]
  by_cases z : 0 < h
  · rw [if_pos z]
    have : h + n - 1 = (h - 0 - 1) + 1 * n := by omega
    rw [this, Int.add_mul_ediv_right _ _ (by omega)]
  · rw [if_neg z]
    have : h = 0 := by omega
    subst this
    rw [Int.ediv_eq_zero_of_lt (by omega) (by omega)]
theorem small_up {j k : Int} (h0 : 0 ≤ j) (h1 : j ≤ 1000000000) (hk : 1 ≤ k) (hk2 : k ≤ 1000000) : Builtin.Range.small 0 j k = true := by
  have c := ceil_le h0 hk
  have c0 : 0 ≤ (j + k - 1) / k := Int.ediv_nonneg (by omega) (by omega)
  have c1 : (j + k - 1) / k * k ≤ j + k - 1 := Int.ediv_mul_le _ (by omega)
  have c2 : 0 ≤ (j + k - 1) / k * k := Int.mul_nonneg c0 (by omega)
  unfold Builtin.Range.small
  rw [size_up h0 hk]
  simp only [Builtin.Range.rangeFitsLong, Bool.and_eq_true, Bool.or_eq_true, decide_eq_true_eq, beq_iff_eq, show (k : Int) > 0 by omega, if_true]
  generalize (j + k - 1) / k * k = q at *
  generalize (j + k - 1) / k = r at *
  first
    | (split <;> omega)
    | omega
theorem rng3_ok {h n : Int} (h0 : 0 ≤ h) (h1 : h ≤ 1000000000) (n0 : 1 ≤ n) (n1 : n ≤ 1000000) : rng3M 0 h n = M.ret ((rngL 0 ((h + n - 1) / n).toNat).map fun i => i * n) := by
  have e := size_up h0 n0
  unfold rng3M
  have b : bR3 0 h n = true := decide_eq_true ⟨by omega, by omega, small_up h0 h1 n0 n1, by rw [e]; exact Int.ediv_nonneg (by omega) (by omega)⟩
  rw [if_pos b, e]
  unfold rngcL rngL
  rw [List.map_map]
  congr 1
  exact List.map_congr_left fun i _ => by show (0 : Int) + (i : Int) * n = (0 + (i : Int)) * n; rw [Int.zero_add, Int.zero_add]
theorem bti_lt (b : Bool) : 0 ≤ bti b ∧ bti b < 2 := by cases b <;> exact ⟨by decide, by decide⟩
/-! sums -/
theorem perm_sum {l m : List Int} (h : l.Perm m) : l.sum = m.sum := by
  induction h with
  | nil => rfl
  | cons x _ ih => rw [List.sum_cons, List.sum_cons, ih]
  | swap x y l => rw [List.sum_cons, List.sum_cons, List.sum_cons, List.sum_cons]; omega
  | trans _ _ a b => exact a.trans b
theorem sum_rep {n : Nat} {x : Int} : (List.replicate n x).sum = n * x := by
  induction n with
  | zero => simp
  | succ n ih => rw [List.replicate_succ, List.sum_cons, ih, Int.natCast_add, Int.add_mul]; simp; omega
theorem sum_le {l : List Int} {b : Int} (h : ∀ x ∈ l, 0 ≤ x ∧ x ≤ b) : 0 ≤ l.sum ∧ l.sum ≤ l.length * b := by
  induction l with
  | nil => simp
  | cons x l ih =>
    obtain ⟨a1, a2⟩ := ih fun y hy => h y (List.mem_cons_of_mem _ hy)
    obtain ⟨b1, b2⟩ := h x List.mem_cons_self
    rw [List.sum_cons, List.length_cons, Int.natCast_add, Int.add_mul]
    have e : ((1 : Nat) : Int) * b = b := by simp
    omega
theorem perm_flat {α β : Type} {l : List α} {f g : α → List β} (h : ∀ a ∈ l, (f a).Perm (g a)) : (l.map f).flatten.Perm (l.map g).flatten := by
  induction l with
  | nil => exact .refl _
  | cons a l ih =>
    rw [List.map_cons, List.map_cons, List.flatten_cons, List.flatten_cons]
    exact (h a List.mem_cons_self).append (ih fun b hb => h b (List.mem_cons_of_mem _ hb))
theorem mapM1_nil {α β : Type} {f : α → M β} : mapM1 [] f = M.ret [] := by
  unfold mapM1 lcM
  rw [if_pos (show ([] : List α).length ≤ 16777216 from Nat.zero_le _)]
  rfl
theorem range_cast {α : Type} {n : Nat} {f : Int → α} {g : Nat → α} (h : ∀ i < n, f (i : Int) = g i) : (rngL 0 n).map f = (List.range n).map g := by
  rw [rngL_zero, List.map_map]
  exact List.map_congr_left fun i hi => h i (List.mem_range.mp hi)
end
end Dn
namespace My
open PySem PySem.Spec PyProof.Rows L2 Dn
open Dn.Enc (enc)
def D__law_stream (ns : List Int) : DenS := dSeq (dNew 1 (dLst (dNil))) (dSeq (dFor (dIL (dL (dSlL (dVar 0) (dNoO) (dSoO (dC (.d (.int 63))))))) (dName 2) (dSeq (dSet 3 (dCB gAbs (dCons (dCB gInt1 (dCons (dVar 2) (dNil))) (dNil)))) (dSeq (dIfS (dTe (dOp (aGe) (dVar 3) (dOp aPow (dC (.d (.int 10))) (dC (.d (.int 18)))))) (dSeq (dFgt [2] (dFor (dI1 (dCons (dC (.d (.int 60))) (dNil))) (dName 4) (dSeq (dApp 1 (dOp aMod (dCB gInt1 (dCons (dVar 3) (dNil))) (dC (.d (.int 1009))))) (dSeq (dSet 3 (dOp aDiv (dVar 3) (dC (.d (.int 1009))))) (dSeq (dIfS (dTe (dOp (gEq false) (dVar 3) (dC (.d (.int 0))))) (dSeq (dFgt [4] dBreak) (dNext)) (dNext)) (dSeq (dWipe [4]) (dNext))))))) (dSeq (dWipe [3]) (dNext))) (dSeq (dSet 5 (dOp aMod (dCB gInt1 (dCons (dVar 3) (dNil))) (dC (.d (.int 2147483647))))) (dSeq (dFgt [2, 3] (dFor (dI1 (dCons (dC (.d (.int 10))) (dNil))) (dName 4) (dSeq (dSet 5 (dOp aMod (dCB gInt1 (dCons (dOp aAdd (dOp aAdd (dOp aMul (dVar 5) (dC (.d (.int 48271)))) (dOp aMul (dC (.d (.int 7))) (dVar 4))) (dC (.d (.int 11)))) (dNil))) (dC (.d (.int 2147483647))))) (dSeq (dApp 1 (dOp aMod (dOp aMod (dCB gInt1 (dCons (dOp aAdd (dOp aMul (dVar 5) (dC (.d (.int 69621)))) (dVar 4)) (dNil))) (dC (.d (.int 2147483629)))) (dC (.d (.int 1009))))) (dSeq (dWipe [4]) (dNext)))))) (dSeq (dWipe [5]) (dNext))))) (dNext)))) (dSeq (dIfS (dTe (dOp (gEq false) (dLenO 1) (dC (.d (.int 0))))) (dSeq (dApp 1 (dC (.d (.int 0)))) (dNext)) (dNext)) (dSeq (dRetO 1) (dNext))))
def V__law_stream (ns : List Int) : List Vl → Int → R Vl := dDef 5 (D__law_stream ns)
noncomputable def F__law_stream (script : (List Int)) : M (List Int) := Let (([] : (List Int)) : (List Int)) fun numbers => M.bind (forS (cut script none (some (63 : Int))) numbers fun (s1 : (List Int)) (cell : Int) => Let ((absI cell) : Int) fun rest => if (decide ((1000000000000000000 : Int) ≤ rest)) = true then thenF (ρ := Empty) (forF (rngL 0 60) (s1, rest) fun (s2 : ((List Int) × Int)) (k : Int) => M.bind (appM s2.1 (s2.2 % (1009 : Int))) fun numbers => Let ((s2.2 / (1009 : Int)) : Int) fun rest => if (rest == (0 : Int)) = true then M.ret (.bk (numbers, rest)) else M.ret (.nx (numbers, rest))) (fun r => Empty.elim r) fun s2 : ((List Int) × Int) => M.ret s2.1 else Let ((rest % (2147483647 : Int)) : Int) fun stirred => M.bind (forS (rngL 0 10) (s1, stirred) fun (s3 : ((List Int) × Int)) (k : Int) => M.bind (mulM s3.2 (48271 : Int)) fun t4 => M.bind (mulM (7 : Int) k) fun t5 => M.bind (mulM (((t4 + t5) + (11 : Int)) % (2147483647 : Int)) (69621 : Int)) fun t6 => M.bind (appM s3.1 (((t6 + k) % (2147483629 : Int)) % (1009 : Int))) fun numbers => M.ret (numbers, (((t4 + t5) + (11 : Int)) % (2147483647 : Int)))) fun s3 : ((List Int) × Int) => M.ret s3.1) fun s1 : (List Int) => M.bind (if ((s1.length : Int) == (0 : Int)) = true then M.bind (appM s1 (0 : Int)) fun numbers => M.ret numbers else M.ret s1) fun s7 : (List Int) => M.ret s7
theorem f__law_stream (ns : List Int) (script : (List Int)) : RK (F__law_stream script) (fun r => Vl.d (enc r)) (V__law_stream ns [.d (enc script)]) :=
  (show BK (D__law_stream ns [.im (.d (enc (script : (List Int)))), .no, .no, .no, .no, .no]) finO _ _ from b_letL (α := Int) (pv_lst (pv_nil) rfl lenok) (fun numbers => b_at [.im (.d (enc (script : (List Int)))), .ow ((numbers : (List Int)).map enc), .no, .no, .no, .no] rfl (b_at [.im (.d (enc (script : (List Int)))), .ow ((numbers : (List Int)).map enc), .no, .no, .no, .no] rfl (b_for (b_iL (BK.ok (pv_L (pv_slL (α := Int) (pv_var rfl) (pv_noO) (pv_soO (pv_c)))) (BK.ok (k_iL (α := Int) (xs := (cut script none (some (63 : Int))))) (r_forS (α := Int) (σ := (List Int)) (fun s1 => [.im (.d (enc (script : (List Int)))), .ow ((s1 : (List Int)).map enc), .no, .no, .no, .no]) rfl (fun s1 cell => g_some rfl (b_at [.im (.d (enc (script : (List Int)))), .ow ((s1 : (List Int)).map enc), .im (.d (enc (cell : Int))), .no, .no, .no] rfl (b_let (α := Int) (pv_cb (pv_cons (pv_cb (pv_cons (pv_var rfl) (pv_nil)) k_int) (pv_nil)) k_abs) (fun rest => b_at [.im (.d (enc (script : (List Int)))), .ow ((s1 : (List Int)).map enc), .im (.d (enc (cell : Int))), .im (.d (enc (rest : Int))), .no, .no] rfl (b_ifS (BK.ok (pv_te (pv_op (pv_var rfl) (pv_op pv_c pv_c (k_powL (by decide) (by rfl))) k_ge)) (BK.ite (b_assoc (b_fgt (b_at [.im (.d (enc (script : (List Int)))), .ow ((s1 : (List Int)).map enc), .no, .im (.d (enc (rest : Int))), .no, .no] rfl (b_for (BK.ok (pv_r1 (pv_cons (pv_c) pv_nil) (by decide +kernel)) (r_forF (α := Int) (σ := ((List Int) × Int)) (ρ := Empty) (fun s2 => [.im (.d (enc (script : (List Int)))), .ow ((s2.1 : (List Int)).map enc), .no, .im (.d (enc (s2.2 : Int))), .no, .no]) rfl (fun s2 k => g_some rfl (b_at [.im (.d (enc (script : (List Int)))), .ow ((s2.1 : (List Int)).map enc), .no, .im (.d (enc (s2.2 : Int))), .im (.d (enc (k : Int))), .no] rfl (b_app (α := Int) rfl (BK.ok (pv_op (pv_cb (pv_cons (pv_var rfl) (pv_nil)) k_int) (pv_c) (k_modL rfl)) (r_app (α := Int) fun numbers => b_at [.im (.d (enc (script : (List Int)))), .ow ((numbers : (List Int)).map enc), .no, .im (.d (enc (s2.2 : Int))), .im (.d (enc (k : Int))), .no] rfl (b_let (α := Int) (pv_op (pv_var rfl) (pv_c) (k_divL rfl)) (fun rest => b_at [.im (.d (enc (script : (List Int)))), .ow ((numbers : (List Int)).map enc), .no, .im (.d (enc (rest : Int))), .im (.d (enc (k : Int))), .no] rfl (b_ifS (BK.ok (pv_te (pv_op (pv_var rfl) (pv_c) k_eqI)) (BK.ite (b_assoc (b_fgt (b_at [.im (.d (enc (script : (List Int)))), .ow ((numbers : (List Int)).map enc), .no, .im (.d (enc (rest : Int))), .no, .no] rfl (b_break (RK.ret))))) (b_next (b_at [.im (.d (enc (script : (List Int)))), .ow ((numbers : (List Int)).map enc), .no, .im (.d (enc (rest : Int))), .im (.d (enc (k : Int))), .no] rfl (b_wipe (b_at [.im (.d (enc (script : (List Int)))), .ow ((numbers : (List Int)).map enc), .no, .im (.d (enc (rest : Int))), .no, .no] rfl (b_end (RK.ret)))))))))))))))) (fun r => r.elim) fun s2 => b_assoc (b_wipe (b_next (b_at [.im (.d (enc (script : (List Int)))), .ow ((s2.1 : (List Int)).map enc), .no, .no, .no, .no] rfl (b_at [.im (.d (enc (script : (List Int)))), .ow ((s2.1 : (List Int)).map enc), .no, .no, .no, .no] rfl (b_end (RK.ret)))))))))))) (b_assoc (b_let (α := Int) (pv_op (pv_cb (pv_cons (pv_var rfl) (pv_nil)) k_int) (pv_c) (k_modL rfl)) (fun stirred => b_at [.im (.d (enc (script : (List Int)))), .ow ((s1 : (List Int)).map enc), .im (.d (enc (cell : Int))), .im (.d (enc (rest : Int))), .no, .im (.d (enc (stirred : Int)))] rfl (b_assoc (b_fgt (b_at [.im (.d (enc (script : (List Int)))), .ow ((s1 : (List Int)).map enc), .no, .no, .no, .im (.d (enc (stirred : Int)))] rfl (b_for (BK.ok (pv_r1 (pv_cons (pv_c) pv_nil) (by decide +kernel)) (r_forS (α := Int) (σ := ((List Int) × Int)) (fun s3 => [.im (.d (enc (script : (List Int)))), .ow ((s3.1 : (List Int)).map enc), .no, .no, .no, .im (.d (enc (s3.2 : Int)))]) rfl (fun s3 k => g_some rfl (b_at [.im (.d (enc (script : (List Int)))), .ow ((s3.1 : (List Int)).map enc), .no, .no, .im (.d (enc (k : Int))), .im (.d (enc (s3.2 : Int)))] rfl (b_set (b_op (b_cb (b_cons (b_op (b_op (b_op (BK.ok (pv_var rfl) (BK.ok (pv_c) (RK.bind k_mul fun t4 => b_op (BK.ok (pv_c) (BK.ok (pv_var rfl) (RK.bind k_mul fun t5 => BK.ok k_add (BK.ok (pv_c) (BK.ok k_add (b_nil (BK.ok k_int (BK.ok (pv_c) (BK.ok (k_modL rfl) (b_at [.im (.d (enc (script : (List Int)))), .ow ((s3.1 : (List Int)).map enc), .no, .no, .im (.d (enc (k : Int))), .im (.d (enc ((((t4 + t5) + (11 : Int)) % (2147483647 : Int)) : Int)))] rfl (b_app (α := Int) rfl (b_op (b_op (b_cb (b_cons (b_op (b_op (BK.ok (pv_var rfl) (BK.ok (pv_c) (RK.bind k_mul fun t6 => BK.ok (pv_var rfl) (BK.ok k_add (b_nil (BK.ok k_int (BK.ok (pv_c) (BK.ok (k_modL rfl) (BK.ok (pv_c) (BK.ok (k_modL rfl) (r_app (α := Int) fun numbers => b_at [.im (.d (enc (script : (List Int)))), .ow ((numbers : (List Int)).map enc), .no, .no, .im (.d (enc (k : Int))), .im (.d (enc ((((t4 + t5) + (11 : Int)) % (2147483647 : Int)) : Int)))] rfl (b_wipe (b_at [.im (.d (enc (script : (List Int)))), .ow ((numbers : (List Int)).map enc), .no, .no, .no, .im (.d (enc ((((t4 + t5) + (11 : Int)) % (2147483647 : Int)) : Int)))] rfl (b_end (RK.ret)))))))))))))))))))))))))))))))))))))))))))) fun s3 => b_assoc (b_wipe (b_next (b_at [.im (.d (enc (script : (List Int)))), .ow ((s3.1 : (List Int)).map enc), .no, .no, .no, .no] rfl (b_at [.im (.d (enc (script : (List Int)))), .ow ((s3.1 : (List Int)).map enc), .no, .no, .no, .no] rfl (b_end (RK.ret)))))))))))))))))))))) fun s1 => b_ifj (σ := (List Int)) (fun s7 => [.im (.d (enc (script : (List Int)))), .ow ((s7 : (List Int)).map enc), .no, .no, .no, .no]) (pv_te (pv_op (k_lenO (α := Int) rfl) (pv_c) k_eqI)) (b_app (α := Int) rfl (BK.ok (pv_c) (r_app (α := Int) fun numbers => b_at [.im (.d (enc (script : (List Int)))), .ow ((numbers : (List Int)).map enc), .no, .no, .no, .no] rfl (b_at [.im (.d (enc (script : (List Int)))), .ow ((numbers : (List Int)).map enc), .no, .no, .no, .no] rfl (b_end (RK.ret)))))) (b_at [.im (.d (enc (script : (List Int)))), .ow ((s1 : (List Int)).map enc), .no, .no, .no, .no] rfl (b_end (RK.ret))) fun s7 => b_retO rfl (RK.ret)))))))))
def D__law_next (ns : List Int) : DenS := dSeq (dStSet 0 (dOp aAdd (dSt1 0) (dC (.d (.int 1))))) (dSeq (dSet 2 (dOp aDiv (dSt1 0) (dCB gLen (dCons (dSt0 ns 0) (dNil))))) (dSeq (dRet (dOp aMod (dCB gInt1 (dCons (dOp aAdd (dOp aAdd (dOp gIx (dSt0 ns 0) (dOp aMod (dSt1 0) (dCB gLen (dCons (dSt0 ns 0) (dNil))))) (dOp aMul (dVar 2) (dC (.d (.int 389))))) (dOp aMul (dOp aMul (dSt1 0) (dVar 2)) (dC (.d (.int 17))))) (dNil))) (dVar 1))) (dNext)))
def V__law_next (ns : List Int) : List Vl → Int → R Vl := dDef 1 (D__law_next ns)
noncomputable def F__law_next (ns : List Int) (many : Int) : M Int := M.bind M.get fun c1 => M.bind (M.put (c1 + (1 : Int))) fun _ => M.bind M.get fun c2 => M.bind (divM c2 (ns.length : Int)) fun t3 => M.bind M.get fun c4 => M.bind (modM c4 (ns.length : Int)) fun t5 => M.bind (ixM ns t5) fun t6 => M.bind (mulM t3 (389 : Int)) fun t7 => M.bind M.get fun c8 => M.bind (mulM c8 t3) fun t9 => M.bind (mulM t9 (17 : Int)) fun t10 => M.bind (modM ((t6 + t7) + t10) many) fun t11 => M.ret t11
theorem f__law_next (ns : List Int) (many : Int) : RK (F__law_next ns many) (fun r => Vl.d (enc r)) (V__law_next ns [.st, .d (enc many)]) :=
  (show BK (D__law_next ns [.im .st, .im (.d (enc (many : Int))), .no]) finO _ _ from b_stSet rfl (b_op (b_st1 rfl fun c1 => BK.ok (pv_c) (BK.ok k_add (r_stSet (b_at [.im .st, .im (.d (enc (many : Int))), .no] rfl (b_set (b_op (b_st1 rfl fun c2 => BK.ok (pv_cb (pv_cons (pv_st0 rfl) pv_nil) (k_lenL (α := Int))) (RK.bind k_div fun t3 => b_at [.im .st, .im (.d (enc (many : Int))), .im (.d (enc (t3 : Int)))] rfl (b_ret (b_op (b_cb (b_cons (b_op (b_op (b_op (BK.ok (pv_st0 rfl) (b_op (b_st1 rfl fun c4 => BK.ok (pv_cb (pv_cons (pv_st0 rfl) pv_nil) (k_lenL (α := Int))) (RK.bind k_mod fun t5 => RK.bind (k_ixL (α := Int)) fun t6 => b_op (BK.ok (pv_var rfl) (BK.ok (pv_c) (RK.bind k_mul fun t7 => BK.ok k_add (b_op (b_op (b_st1 rfl fun c8 => BK.ok (pv_var rfl) (RK.bind k_mul fun t9 => BK.ok (pv_c) (RK.bind k_mul fun t10 => BK.ok k_add (b_nil (BK.ok k_int (BK.ok (pv_var rfl) (RK.bind k_mod fun t11 => RK.ret)))))))))))))))))))))))))))))))))
def D__law_asks (ns : List Int) : DenS := dSeq (dSet 2 (dCall0 2 (V__law_next ns) (dCons (dVar 0) (dCons (dOp aAdd (dVar 1) (dC (.d (.int 1)))) (dNil))))) (dSeq (dSet 3 (dOp aAdd (dC (.d (.int 1))) (dCall0 2 (V__law_next ns) (dCons (dVar 0) (dCons (dC (.d (.int 6))) (dNil)))))) (dSeq (dSet 4 (dL (dLc [7] (dI1 (dCons (dVar 3) (dNil))) (dName 7) (dYes) (dOp gIx (dL (dLst (dCons (dOp aAdd (dC (.d (.int 1))) (dCall0 2 (V__law_next ns) (dCons (dVar 0) (dCons (dC (.d (.int 9))) (dNil))))) (dCons (dCall0 2 (V__law_next ns) (dCons (dVar 0) (dCons (dC (.d (.int 10))) (dNil)))) (dCons (dC (.d (.int 9999))) (dNil)))))) (dOp gIx (dL (dLst (dCons (dC (.d (.int 0))) (dCons (dC (.d (.int 0))) (dCons (dC (.d (.int 1))) (dCons (dC (.d (.int 1))) (dCons (dC (.d (.int 2))) (dNil)))))))) (dCall0 2 (V__law_next ns) (dCons (dVar 0) (dCons (dC (.d (.int 5))) (dNil))))))))) (dSeq (dSet 5 (dL (dLc [7] (dI1 (dCons (dVar 2) (dNil))) (dName 7) (dYes) (dCall0 2 (V__law_next ns) (dCons (dVar 0) (dCons (dVar 3) (dNil))))))) (dSeq (dIfS (dTe (dOp (gEq false) (dCall0 2 (V__law_next ns) (dCons (dVar 0) (dCons (dC (.d (.int 3))) (dNil)))) (dC (.d (.int 0))))) (dSeq (dSet 5 (dL (dLc [7] (dI1 (dCons (dVar 2) (dNil))) (dName 7) (dYes) (dOp aMod (dCB gInt1 (dCons (dVar 7) (dNil))) (dVar 3))))) (dNext)) (dNext)) (dSeq (dSet 6 (dOp aMul (dCall0 2 (V__law_next ns) (dCons (dVar 0) (dCons (dC (.d (.int 2))) (dNil)))) (dC (.d (.int 90))))) (dSeq (dRet (dTup (dCons (dCB gTuple (dCons (dL (dLc [8] (dIL (dVar 5)) (dName 8) (dYes) (dOp aAdd (dVar 8) (dVar 6)))) (dNil))) (dCons (dCB gTuple (dCons (dL (dLc [8] (dIL (dVar 5)) (dName 8) (dYes) (dOp gIx (dVar 4) (dVar 8)))) (dNil))) (dNil))))) (dNext)))))))
def V__law_asks (ns : List Int) : List Vl → Int → R Vl := dDef 7 (D__law_asks ns)
noncomputable def F__law_asks (ns : List Int) (most : Int) : M (P2 (Tp Int) (Tp Int)) := M.bind (M.calm (F__law_next ns (most + (1 : Int)))) fun t1 => M.bind (M.calm (F__law_next ns (6 : Int))) fun t2 => M.bind (rng1M ((1 : Int) + t2)) fun t3 => M.bind (mapM1 t3 (fun k : Int => M.bind (M.calm (F__law_next ns (9 : Int))) fun t4 => M.bind (M.calm (F__law_next ns (10 : Int))) fun t5 => M.bind (M.calm (F__law_next ns (5 : Int))) fun t6 => M.bind (ixM ([(0 : Int), (0 : Int), (1 : Int), (1 : Int), (2 : Int)] : (List Int)) t6) fun t7 => M.bind (ixM ([((1 : Int) + t4), t5, (9999 : Int)] : (List Int)) t7) fun t8 => M.ret t8)) fun t9 => M.bind (rng1M t1) fun t10 => M.bind (mapM1 t10 (fun k : Int => M.bind (M.calm (F__law_next ns ((1 : Int) + t2))) fun t11 => M.ret t11)) fun t12 => M.bind (M.bind (M.calm (F__law_next ns (3 : Int))) fun t22 => M.ret (t22 == (0 : Int))) fun b23 => M.bind (if b23 = true then M.bind (rng1M t1) fun t14 => M.bind (mapM1 t14 (fun k : Int => M.bind (modM k ((1 : Int) + t2)) fun t15 => M.ret t15)) fun t16 => M.ret t16 else M.ret t12) fun s13 : (List Int) => M.bind (M.calm (F__law_next ns (2 : Int))) fun t17 => M.bind (mulM t17 (90 : Int)) fun t18 => M.bind (mapP s13 (fun ask : Int => ((ask + t18) : Int))) fun t19 => M.bind (mapM1 s13 (fun ask : Int => M.bind (ixM t9 ask) fun t20 => M.ret t20)) fun t21 => M.ret (P2.mk (Tp.mk t19) (Tp.mk t21) : (P2 (Tp Int) (Tp Int)))
theorem f__law_asks (ns : List Int) (most : Int) : RK (F__law_asks ns most) (fun r => Vl.d (enc r)) (V__law_asks ns [.st, .d (enc most)]) :=
  (show BK (D__law_asks ns [.im .st, .im (.d (enc (most : Int))), .no, .no, .no, .no, .no, .no, .no]) finO _ _ from b_set (b_call0 (b_cons (BK.ok (pv_var rfl) (b_cons (BK.ok (pv_op (pv_var rfl) (pv_c) k_add) (b_nil (RK.bind (r_call0 rfl (f__law_next ns (most + (1 : Int)))) fun t1 => b_at [.im .st, .im (.d (enc (most : Int))), .im (.d (enc (t1 : Int))), .no, .no, .no, .no, .no, .no] rfl (b_set (b_op (BK.ok (pv_c) (b_call0 (b_cons (BK.ok (pv_var rfl) (b_cons (BK.ok (pv_c) (b_nil (RK.bind (r_call0 rfl (f__law_next ns (6 : Int))) fun t2 => BK.ok k_add (b_at [.im .st, .im (.d (enc (most : Int))), .im (.d (enc (t1 : Int))), .im (.d (enc (((1 : Int) + t2) : Int))), .no, .no, .no, .no, .no] rfl (b_set (b_L (b_lc (b_r1 (b_cons (BK.ok (pv_var rfl) (b_nil (RK.bind k_r1 fun t3 => RK.bind (k_mapM (δ := [.im .st, .im (.d (enc (most : Int))), .im (.d (enc (t1 : Int))), .im (.d (enc (((1 : Int) + t2) : Int))), .no, .no, .no, .no, .no]) (α := Int) (β := Int) (f := fun k : Int => M.bind (M.calm (F__law_next ns (9 : Int))) fun t4 => M.bind (M.calm (F__law_next ns (10 : Int))) fun t5 => M.bind (M.calm (F__law_next ns (5 : Int))) fun t6 => M.bind (ixM ([(0 : Int), (0 : Int), (1 : Int), (1 : Int), (2 : Int)] : (List Int)) t6) fun t7 => M.bind (ixM ([((1 : Int) + t4), t5, (9999 : Int)] : (List Int)) t7) fun t8 => M.ret t8) fun k : Int => ⟨[.im .st, .im (.d (enc (most : Int))), .im (.d (enc (t1 : Int))), .im (.d (enc (((1 : Int) + t2) : Int))), .no, .no, .no, .im (.d (enc (k : Int))), .no], rfl, (RK.close (b_op (b_L (b_lst (b_cons (b_op (BK.ok (pv_c) (b_call0 (b_cons (BK.ok (pv_var rfl) (b_cons (BK.ok (pv_c) (b_nil (RK.bind (r_call0 rfl (f__law_next ns (9 : Int))) fun t4 => BK.ok k_add (b_cons (b_call0 (b_cons (BK.ok (pv_var rfl) (b_cons (BK.ok (pv_c) (b_nil (RK.bind (r_call0 rfl (f__law_next ns (10 : Int))) fun t5 => b_cons (BK.ok (pv_c) (b_nil (BK.ok (k_lst rfl lenok) (b_op (BK.ok (pv_L (pv_lst (pv_cons (pv_c) (pv_cons (pv_c) (pv_cons (pv_c) (pv_cons (pv_c) (pv_cons (pv_c) (pv_nil)))))) rfl lenok)) (b_call0 (b_cons (BK.ok (pv_var rfl) (b_cons (BK.ok (pv_c) (b_nil (RK.bind (r_call0 rfl (f__law_next ns (5 : Int))) fun t6 => RK.bind (k_ixL (α := Int)) fun t7 => RK.bind (k_ixL (α := Int)) fun t8 => RK.ret))))))))))))))))))))))))))))))))))⟩) fun t9 => b_at [.im .st, .im (.d (enc (most : Int))), .im (.d (enc (t1 : Int))), .im (.d (enc (((1 : Int) + t2) : Int))), .im (.d (enc (t9 : (List Int)))), .no, .no, .no, .no] rfl (b_set (b_L (b_lc (b_r1 (b_cons (BK.ok (pv_var rfl) (b_nil (RK.bind k_r1 fun t10 => RK.bind (k_mapM (δ := [.im .st, .im (.d (enc (most : Int))), .im (.d (enc (t1 : Int))), .im (.d (enc (((1 : Int) + t2) : Int))), .im (.d (enc (t9 : (List Int)))), .no, .no, .no, .no]) (α := Int) (β := Int) (f := fun k : Int => M.bind (M.calm (F__law_next ns ((1 : Int) + t2))) fun t11 => M.ret t11) fun k : Int => ⟨[.im .st, .im (.d (enc (most : Int))), .im (.d (enc (t1 : Int))), .im (.d (enc (((1 : Int) + t2) : Int))), .im (.d (enc (t9 : (List Int)))), .no, .no, .im (.d (enc (k : Int))), .no], rfl, (RK.close (b_call0 (b_cons (BK.ok (pv_var rfl) (b_cons (BK.ok (pv_var rfl) (b_nil (RK.bind (r_call0 rfl (f__law_next ns ((1 : Int) + t2))) fun t11 => RK.ret))))))))⟩) fun t12 => b_at [.im .st, .im (.d (enc (most : Int))), .im (.d (enc (t1 : Int))), .im (.d (enc (((1 : Int) + t2) : Int))), .im (.d (enc (t9 : (List Int)))), .im (.d (enc (t12 : (List Int)))), .no, .no, .no] rfl (b_ifjM (σ := (List Int)) (fun s13 => [.im .st, .im (.d (enc (most : Int))), .im (.d (enc (t1 : Int))), .im (.d (enc (((1 : Int) + t2) : Int))), .im (.d (enc (t9 : (List Int)))), .im (.d (enc (s13 : (List Int)))), .no, .no, .no]) (RK.close (b_te (b_op (b_call0 (b_cons (BK.ok (pv_var rfl) (b_cons (BK.ok (pv_c) (b_nil (RK.bind (r_call0 rfl (f__law_next ns (3 : Int))) fun t22 => BK.ok (pv_c) (BK.ok k_eqI (BK.ok (fun _ => rfl) (RK.ret))))))))))))) (b_set (b_L (b_lc (b_r1 (b_cons (BK.ok (pv_var rfl) (b_nil (RK.bind k_r1 fun t14 => RK.bind (k_mapM (δ := [.im .st, .im (.d (enc (most : Int))), .im (.d (enc (t1 : Int))), .im (.d (enc (((1 : Int) + t2) : Int))), .im (.d (enc (t9 : (List Int)))), .im (.d (enc (t12 : (List Int)))), .no, .no, .no]) (α := Int) (β := Int) (f := fun k : Int => M.bind (modM k ((1 : Int) + t2)) fun t15 => M.ret t15) fun k : Int => ⟨[.im .st, .im (.d (enc (most : Int))), .im (.d (enc (t1 : Int))), .im (.d (enc (((1 : Int) + t2) : Int))), .im (.d (enc (t9 : (List Int)))), .im (.d (enc (t12 : (List Int)))), .no, .im (.d (enc (k : Int))), .no], rfl, (RK.close (b_op (BK.ok (pv_cb (pv_cons (pv_var rfl) (pv_nil)) k_int) (BK.ok (pv_var rfl) (RK.bind k_mod fun t15 => RK.ret)))))⟩) fun t16 => b_at [.im .st, .im (.d (enc (most : Int))), .im (.d (enc (t1 : Int))), .im (.d (enc (((1 : Int) + t2) : Int))), .im (.d (enc (t9 : (List Int)))), .im (.d (enc (t16 : (List Int)))), .no, .no, .no] rfl (b_at [.im .st, .im (.d (enc (most : Int))), .im (.d (enc (t1 : Int))), .im (.d (enc (((1 : Int) + t2) : Int))), .im (.d (enc (t9 : (List Int)))), .im (.d (enc (t16 : (List Int)))), .no, .no, .no] rfl (b_end (RK.ret))))))))))) (b_at [.im .st, .im (.d (enc (most : Int))), .im (.d (enc (t1 : Int))), .im (.d (enc (((1 : Int) + t2) : Int))), .im (.d (enc (t9 : (List Int)))), .im (.d (enc (t12 : (List Int)))), .no, .no, .no] rfl (b_end (RK.ret))) fun s13 => b_set (b_op (b_call0 (b_cons (BK.ok (pv_var rfl) (b_cons (BK.ok (pv_c) (b_nil (RK.bind (r_call0 rfl (f__law_next ns (2 : Int))) fun t17 => BK.ok (pv_c) (RK.bind k_mul fun t18 => b_at [.im .st, .im (.d (enc (most : Int))), .im (.d (enc (t1 : Int))), .im (.d (enc (((1 : Int) + t2) : Int))), .im (.d (enc (t9 : (List Int)))), .im (.d (enc (s13 : (List Int)))), .im (.d (enc (t18 : Int))), .no, .no] rfl (b_ret (b_tup (b_cons (b_cb (b_cons (b_L (b_lc (b_iL (BK.ok (pv_var rfl) (BK.ok (k_iL (α := Int) (xs := s13)) (RK.bind (k_mapP (δ := [.im .st, .im (.d (enc (most : Int))), .im (.d (enc (t1 : Int))), .im (.d (enc (((1 : Int) + t2) : Int))), .im (.d (enc (t9 : (List Int)))), .im (.d (enc (s13 : (List Int)))), .im (.d (enc (t18 : Int))), .no, .no]) (α := Int) (β := Int) (f := fun ask : Int => ((ask + t18) : Int)) fun ask : Int => ⟨[.im .st, .im (.d (enc (most : Int))), .im (.d (enc (t1 : Int))), .im (.d (enc (((1 : Int) + t2) : Int))), .im (.d (enc (t9 : (List Int)))), .im (.d (enc (s13 : (List Int)))), .im (.d (enc (t18 : Int))), .no, .im (.d (enc (ask : Int)))], rfl, (pv_op (pv_var rfl) (pv_var rfl) k_add)⟩) fun t19 => b_nil (BK.ok (k_tuple (α := Int)) (b_cons (b_cb (b_cons (b_L (b_lc (b_iL (BK.ok (pv_var rfl) (BK.ok (k_iL (α := Int) (xs := s13)) (RK.bind (k_mapM (δ := [.im .st, .im (.d (enc (most : Int))), .im (.d (enc (t1 : Int))), .im (.d (enc (((1 : Int) + t2) : Int))), .im (.d (enc (t9 : (List Int)))), .im (.d (enc (s13 : (List Int)))), .im (.d (enc (t18 : Int))), .no, .no]) (α := Int) (β := Int) (f := fun ask : Int => M.bind (ixM t9 ask) fun t20 => M.ret t20) fun ask : Int => ⟨[.im .st, .im (.d (enc (most : Int))), .im (.d (enc (t1 : Int))), .im (.d (enc (((1 : Int) + t2) : Int))), .im (.d (enc (t9 : (List Int)))), .im (.d (enc (s13 : (List Int)))), .im (.d (enc (t18 : Int))), .no, .im (.d (enc (ask : Int)))], rfl, (RK.close (b_op (BK.ok (pv_var rfl) (BK.ok (pv_var rfl) (RK.bind (k_ixL (α := Int)) fun t20 => RK.ret)))))⟩) fun t21 => b_nil (BK.ok (k_tuple (α := Int)) (b_nil (BK.ok (k_tup rfl lenok) (RK.ret))))))))))))))))))))))))))))))))))))))))))))))))))))))))))))))))))))))
def D__law_later (ns : List Int) : DenS := dSeq (dSet 2 (dL (dLc [3] (dI2 (dCons (dOp aAdd (dVar 1) (dC (.d (.int 1)))) (dCons (dCB gLen (dCons (dVar 0) (dNil))) (dNil)))) (dName 3) (dTe (dOp (gEq false) (dOp gIx (dVar 0) (dVar 3)) (dOp gIx (dVar 0) (dVar 1)))) (dVar 3)))) (dSeq (dRet (dOp gIx (dL (dCatV (dVar 2) (dL (dLst (dCons (dUn gNeg (dC (.d (.int 1)))) (dNil)))))) (dC (.d (.int 0))))) (dNext))
def V__law_later (ns : List Int) : List Vl → Int → R Vl := dDef 2 (D__law_later ns)
noncomputable def F__law_later (asks : (Tp Int)) (at_ : Int) : M Int := M.bind (rng2M (at_ + (1 : Int)) (asks.l.length : Int)) fun t1 => M.bind (lcM t1 (fun k : Int => M.bind (ixM asks.l k) fun t2 => M.bind (ixM asks.l at_) fun t3 => M.ret (t2 == t3)) (fun k : Int => M.ret k)) fun t4 => M.bind (catM t4 ([(-(1 : Int))] : (List Int))) fun t5 => M.bind (ixM t5 (0 : Int)) fun t6 => M.ret t6
theorem f__law_later (ns : List Int) (asks : (Tp Int)) (at_ : Int) : RK (F__law_later asks at_) (fun r => Vl.d (enc r)) (V__law_later ns [.d (enc asks), .d (enc at_)]) :=
  (show BK (D__law_later ns [.im (.d (enc (asks : (Tp Int)))), .im (.d (enc (at_ : Int))), .no, .no]) finO _ _ from b_set (b_L (b_lc (b_r2 (b_cons (BK.ok (pv_op (pv_var rfl) (pv_c) k_add) (b_cons (BK.ok (pv_cb (pv_cons (pv_var rfl) pv_nil) (k_lenT (α := Int))) (b_nil (RK.bind k_r2 fun t1 => RK.bind (k_lcM (δ := [.im (.d (enc (asks : (Tp Int)))), .im (.d (enc (at_ : Int))), .no, .no]) (α := Int) (β := Int) (t := fun k : Int => M.bind (ixM asks.l k) fun t2 => M.bind (ixM asks.l at_) fun t3 => M.ret (t2 == t3)) (f := fun k : Int => M.ret k) fun k : Int => ⟨[.im (.d (enc (asks : (Tp Int)))), .im (.d (enc (at_ : Int))), .no, .im (.d (enc (k : Int)))], rfl, (RK.close (b_te (b_op (b_op (BK.ok (pv_var rfl) (BK.ok (pv_var rfl) (RK.bind (k_ixT (α := Int)) fun t2 => b_op (BK.ok (pv_var rfl) (BK.ok (pv_var rfl) (RK.bind (k_ixT (α := Int)) fun t3 => BK.ok k_eqI (BK.ok (fun _ => rfl) (RK.ret)))))))))))), (RK.pv (pv_var rfl))⟩) fun t4 => b_at [.im (.d (enc (asks : (Tp Int)))), .im (.d (enc (at_ : Int))), .im (.d (enc (t4 : (List Int)))), .no] rfl (b_ret (b_op (b_L (b_catV (BK.ok (pv_var rfl) (BK.ok (pv_L (pv_lst (pv_cons (pv_un (pv_c) k_neg) (pv_nil)) rfl lenok)) (RK.bind (k_catV (α := Int)) fun t5 => BK.ok (pv_c) (RK.bind (k_ixL (α := Int)) fun t6 => RK.ret))))))))))))))))))
def D__law_plan_right (ns : List Int) : DenS := dSeq (dIfS (dOr (dTe (dOp (gEq true) (dCB gLen (dCons (dVar 2) (dNil))) (dCB gLen (dCons (dVar 0) (dNil))))) (dNot (dTe (dCB gAll (dCons (dL (dLc [7] (dIT (dVar 2)) (dName 7) (dYes) (dOp (gIn false) (dVar 7) (dTup (dCons (dC (.d (.int 0))) (dCons (dC (.d (.int 1))) (dNil))))))) (dNil)))))) (dSeq (dRet (dC (.d (.bool false)))) (dNext)) (dNext)) (dSeq (dSet 3 (dL (dLc [4] (dI1 (dCons (dCB gLen (dCons (dVar 0) (dNil))) (dNil))) (dName 4) (dTe (dOp (gEq false) (dOp gIx (dVar 2) (dVar 4)) (dC (.d (.int 1))))) (dTup (dCons (dVar 4) (dCons (dCall0 2 (V__law_later ns) (dCons (dVar 0) (dCons (dVar 4) (dNil)))) (dNil))))))) (dSeq (dIfS (dTe (dCB gAny (dCons (dL (dLc [5, 6] (dIL (dVar 3)) (dGT 2 (dGC (dName 5) (dGC (dName 6) (dGN)))) (dYes) (dOp (aLt) (dVar 6) (dC (.d (.int 0)))))) (dNil)))) (dSeq (dRet (dC (.d (.bool false)))) (dNext)) (dNext)) (dSeq (dRet (dCB gAll (dCons (dL (dLc [4] (dI1 (dCons (dCB gLen (dCons (dVar 0) (dNil))) (dNil))) (dName 4) (dYes) (dOp (aLt) (dCB gLen (dCons (dL (dLc [5, 6] (dIL (dVar 3)) (dGT 2 (dGC (dName 5) (dGC (dName 6) (dGN)))) (dTe (dChain (aLt) (aLt) (dVar 5) (dVar 4) (dVar 6))) (dVar 5))) (dNil))) (dVar 1)))) (dNil)))) (dNext))))
def V__law_plan_right (ns : List Int) : List Vl → Int → R Vl := dDef 5 (D__law_plan_right ns)
noncomputable def F__law_plan_right (asks : (Tp Int)) (places : Int) (plan : (Tp Int)) : M Bool := M.bind (if ((plan.l.length : Int) != (asks.l.length : Int)) = true then M.ret true else M.bind (mapP plan.l (fun one : Int => ((decide (one ∈ (Tp.mk [(0 : Int), (1 : Int)] : (Tp Int)).l)) : Bool))) fun t1 => M.ret (!(t1.all id))) fun b2 => if b2 = true then M.ret false else M.bind (rng1M (asks.l.length : Int)) fun t3 => M.bind (lcM t3 (fun k : Int => M.bind (ixM plan.l k) fun t4 => M.ret (t4 == (1 : Int))) (fun k : Int => M.bind (M.calm (F__law_later asks k)) fun t5 => M.ret (P2.mk k t5 : (P2 Int Int)))) fun t6 => M.bind (mapP t6 (fun x7 : (P2 Int Int) => ((decide (x7.b < (0 : Int))) : Bool))) fun t8 => if (t8.any id) = true then M.ret false else M.bind (rng1M (asks.l.length : Int)) fun t9 => M.bind (mapM1 t9 (fun k : Int => M.bind (lcP t6 (fun x10 : (P2 Int Int) => ((decide (x10.a < k)) && (decide (k < x10.b)))) (fun x10 : (P2 Int Int) => (x10.a : Int))) fun t11 => M.ret (decide ((t11.length : Int) < places)))) fun t12 => M.ret (t12.all id)
theorem f__law_plan_right (ns : List Int) (asks : (Tp Int)) (places : Int) (plan : (Tp Int)) : RK (F__law_plan_right asks places plan) (fun r => Vl.d (enc r)) (V__law_plan_right ns [.d (enc asks), .d (enc places), .d (enc plan)]) :=
  (show BK (D__law_plan_right ns [.im (.d (enc (asks : (Tp Int)))), .im (.d (enc (places : Int))), .im (.d (enc (plan : (Tp Int)))), .no, .no, .no, .no, .no]) finO _ _ from b_ifS (b_or (BK.ok (pv_te (pv_op (pv_cb (pv_cons (pv_var rfl) pv_nil) (k_lenT (α := Int))) (pv_cb (pv_cons (pv_var rfl) pv_nil) (k_lenT (α := Int))) k_neI)) (RK.bind (RK.ite (o := fun y => y) RK.ret (RK.close (b_not (b_te (b_cb (b_cons (b_L (b_lc (b_iT (BK.ok (pv_var rfl) (BK.ok (k_iT (α := Int) (xs := plan)) (RK.bind (k_mapP (δ := [.im (.d (enc (asks : (Tp Int)))), .im (.d (enc (places : Int))), .im (.d (enc (plan : (Tp Int)))), .no, .no, .no, .no, .no]) (α := Int) (β := Bool) (f := fun one : Int => ((decide (one ∈ (Tp.mk [(0 : Int), (1 : Int)] : (Tp Int)).l)) : Bool)) fun one : Int => ⟨[.im (.d (enc (asks : (Tp Int)))), .im (.d (enc (places : Int))), .im (.d (enc (plan : (Tp Int)))), .no, .no, .no, .no, .im (.d (enc (one : Int)))], rfl, (pv_op (pv_var rfl) (pv_tup (pv_cons (pv_c) (pv_cons (pv_c) (pv_nil))) rfl lenok) (k_inT (α := Int) (l := (Tp.mk [(0 : Int), (1 : Int)] : (Tp Int)).l)))⟩) fun t1 => b_nil (BK.ok k_all (BK.ok (fun _ => rfl) (RK.ret))))))))))))))) fun b2 => BK.ite (b_assoc (b_ret (BK.ok (pv_c) (RK.ret)))) (b_next (b_at [.im (.d (enc (asks : (Tp Int)))), .im (.d (enc (places : Int))), .im (.d (enc (plan : (Tp Int)))), .no, .no, .no, .no, .no] rfl (b_set (b_L (b_lc (b_r1 (b_cons (BK.ok (pv_cb (pv_cons (pv_var rfl) pv_nil) (k_lenT (α := Int))) (b_nil (RK.bind k_r1 fun t3 => RK.bind (k_lcM (δ := [.im (.d (enc (asks : (Tp Int)))), .im (.d (enc (places : Int))), .im (.d (enc (plan : (Tp Int)))), .no, .no, .no, .no, .no]) (α := Int) (β := (P2 Int Int)) (t := fun k : Int => M.bind (ixM plan.l k) fun t4 => M.ret (t4 == (1 : Int))) (f := fun k : Int => M.bind (M.calm (F__law_later asks k)) fun t5 => M.ret (P2.mk k t5 : (P2 Int Int))) fun k : Int => ⟨[.im (.d (enc (asks : (Tp Int)))), .im (.d (enc (places : Int))), .im (.d (enc (plan : (Tp Int)))), .no, .im (.d (enc (k : Int))), .no, .no, .no], rfl, (RK.close (b_te (b_op (b_op (BK.ok (pv_var rfl) (BK.ok (pv_var rfl) (RK.bind (k_ixT (α := Int)) fun t4 => BK.ok (pv_c) (BK.ok k_eqI (BK.ok (fun _ => rfl) (RK.ret)))))))))), (RK.close (b_tup (b_cons (BK.ok (pv_var rfl) (b_cons (b_call0 (b_cons (BK.ok (pv_var rfl) (b_cons (BK.ok (pv_var rfl) (b_nil (RK.bind (r_call0 rfl (f__law_later ns asks k)) fun t5 => b_nil (BK.ok (k_tup rfl lenok) (RK.ret))))))))))))))⟩) fun t6 => b_at [.im (.d (enc (asks : (Tp Int)))), .im (.d (enc (places : Int))), .im (.d (enc (plan : (Tp Int)))), .im (.d (enc (t6 : (List (P2 Int Int))))), .no, .no, .no, .no] rfl (b_ifS (b_te (b_cb (b_cons (b_L (b_lc (b_iL (BK.ok (pv_var rfl) (BK.ok (k_iL (α := (P2 Int Int)) (xs := t6)) (RK.bind (k_mapP (δ := [.im (.d (enc (asks : (Tp Int)))), .im (.d (enc (places : Int))), .im (.d (enc (plan : (Tp Int)))), .im (.d (enc (t6 : (List (P2 Int Int))))), .no, .no, .no, .no]) (α := (P2 Int Int)) (β := Bool) (f := fun x7 : (P2 Int Int) => ((decide (x7.b < (0 : Int))) : Bool)) fun x7 : (P2 Int Int) => ⟨[.im (.d (enc (asks : (Tp Int)))), .im (.d (enc (places : Int))), .im (.d (enc (plan : (Tp Int)))), .im (.d (enc (t6 : (List (P2 Int Int))))), .no, .im (.d (enc (x7.a : Int))), .im (.d (enc (x7.b : Int))), .no], rfl, (pv_op (pv_var rfl) (pv_c) k_lt)⟩) fun t8 => b_nil (BK.ok k_any (BK.ok (fun _ => rfl) (BK.ite (b_assoc (b_ret (BK.ok (pv_c) (RK.ret)))) (b_next (b_at [.im (.d (enc (asks : (Tp Int)))), .im (.d (enc (places : Int))), .im (.d (enc (plan : (Tp Int)))), .im (.d (enc (t6 : (List (P2 Int Int))))), .no, .no, .no, .no] rfl (b_ret (b_cb (b_cons (b_L (b_lc (b_r1 (b_cons (BK.ok (pv_cb (pv_cons (pv_var rfl) pv_nil) (k_lenT (α := Int))) (b_nil (RK.bind k_r1 fun t9 => RK.bind (k_mapM (δ := [.im (.d (enc (asks : (Tp Int)))), .im (.d (enc (places : Int))), .im (.d (enc (plan : (Tp Int)))), .im (.d (enc (t6 : (List (P2 Int Int))))), .no, .no, .no, .no]) (α := Int) (β := Bool) (f := fun k : Int => M.bind (lcP t6 (fun x10 : (P2 Int Int) => ((decide (x10.a < k)) && (decide (k < x10.b)))) (fun x10 : (P2 Int Int) => (x10.a : Int))) fun t11 => M.ret (decide ((t11.length : Int) < places))) fun k : Int => ⟨[.im (.d (enc (asks : (Tp Int)))), .im (.d (enc (places : Int))), .im (.d (enc (plan : (Tp Int)))), .im (.d (enc (t6 : (List (P2 Int Int))))), .im (.d (enc (k : Int))), .no, .no, .no], rfl, (RK.close (b_op (b_cb (b_cons (b_L (b_lc (b_iL (BK.ok (pv_var rfl) (BK.ok (k_iL (α := (P2 Int Int)) (xs := t6)) (RK.bind (k_lcP (δ := [.im (.d (enc (asks : (Tp Int)))), .im (.d (enc (places : Int))), .im (.d (enc (plan : (Tp Int)))), .im (.d (enc (t6 : (List (P2 Int Int))))), .im (.d (enc (k : Int))), .no, .no, .no]) (α := (P2 Int Int)) (β := Int) (t := fun x10 : (P2 Int Int) => ((decide (x10.a < k)) && (decide (k < x10.b)))) (f := fun x10 : (P2 Int Int) => (x10.a : Int)) fun x10 : (P2 Int Int) => ⟨[.im (.d (enc (asks : (Tp Int)))), .im (.d (enc (places : Int))), .im (.d (enc (plan : (Tp Int)))), .im (.d (enc (t6 : (List (P2 Int Int))))), .im (.d (enc (k : Int))), .im (.d (enc (x10.a : Int))), .im (.d (enc (x10.b : Int))), .no], rfl, (pv_te (pv_chain (pv_var rfl) (pv_var rfl) (pv_var rfl) k_lt k_lt)), (pv_var rfl)⟩) fun t11 => b_nil (BK.ok (k_lenL (α := Int)) (BK.ok (pv_var rfl) (BK.ok k_lt (RK.ret))))))))))))))⟩) fun t12 => b_nil (BK.ok k_all (RK.ret)))))))))))))))))))))))))))))))))))))))))
def D__law_greedy (ns : List Int) : DenS := dSeq (dNew 3 (dRepL (dLst (dCons (dC (.d (.int 0))) (dNil))) (dCB gLen (dCons (dVar 1) (dNil))))) (dSeq (dFor (dI1 (dCons (dOp aMul (dC (.d (.int 2))) (dCB gLen (dCons (dVar 1) (dNil)))) (dNil))) (dName 4) (dSeq (dSet 5 (dCall0 2 (V__law_next ns) (dCons (dVar 0) (dCons (dCB gLen (dCons (dVar 1) (dNil))) (dNil))))) (dSeq (dSetO 3 (dVar 5) (dC (.d (.int 1)))) (dSeq (dIfS (dNot (dTe (dCall0 3 (V__law_plan_right ns) (dCons (dVar 1) (dCons (dVar 2) (dCons (dTupO 3) (dNil))))))) (dSeq (dSetO 3 (dVar 5) (dC (.d (.int 0)))) (dNext)) (dNext)) (dSeq (dWipe [5, 4]) (dNext)))))) (dSeq (dFrz 3 (dRet (dCB gTuple (dCons (dVar 3) (dNil))))) (dNext)))
def V__law_greedy (ns : List Int) : List Vl → Int → R Vl := dDef 3 (D__law_greedy ns)
noncomputable def F__law_greedy (ns : List Int) (asks : (Tp Int)) (places : Int) : M (Tp Int) := M.bind (repN ([(0 : Int)] : (List Int)) (asks.l.length : Int)) fun t1 => M.bind (mulM (2 : Int) (asks.l.length : Int)) fun t2 => M.bind (rng1M t2) fun t3 => M.bind (forS t3 t1 fun (s4 : (List Int)) (turn : Int) => M.bind (M.calm (F__law_next ns (asks.l.length : Int))) fun t5 => M.bind (setM s4 t5 (1 : Int)) fun y6 => M.bind (M.bind (M.calm (F__law_plan_right asks places (Tp.mk y6))) fun t9 => M.ret (!t9)) fun b10 => M.bind (if b10 = true then M.bind (setM y6 t5 (0 : Int)) fun y8 => M.ret y8 else M.ret y6) fun s7 : (List Int) => M.ret s7) fun s4 : (List Int) => M.ret (Tp.mk s4)
theorem f__law_greedy (ns : List Int) (asks : (Tp Int)) (places : Int) : RK (F__law_greedy ns asks places) (fun r => Vl.d (enc r)) (V__law_greedy ns [.st, .d (enc asks), .d (enc places)]) :=
  (show BK (D__law_greedy ns [.im .st, .im (.d (enc (asks : (Tp Int)))), .im (.d (enc (places : Int))), .no, .no, .no]) finO _ _ from b_new (b_repL2 (BK.ok (pv_lst (pv_cons (pv_c) (pv_nil)) rfl lenok) (BK.ok (pv_cb (pv_cons (pv_var rfl) pv_nil) (k_lenT (α := Int))) (RK.bind (k_repL2 (α := Int)) fun t1 => b_at [.im .st, .im (.d (enc (asks : (Tp Int)))), .im (.d (enc (places : Int))), .ow ((t1 : (List Int)).map enc), .no, .no] rfl (b_at [.im .st, .im (.d (enc (asks : (Tp Int)))), .im (.d (enc (places : Int))), .ow ((t1 : (List Int)).map enc), .no, .no] rfl (b_for (b_r1 (b_cons (b_op (BK.ok (pv_c) (BK.ok (pv_cb (pv_cons (pv_var rfl) pv_nil) (k_lenT (α := Int))) (RK.bind k_mul fun t2 => b_nil (RK.bind k_r1 fun t3 => r_forS (α := Int) (σ := (List Int)) (fun s4 => [.im .st, .im (.d (enc (asks : (Tp Int)))), .im (.d (enc (places : Int))), .ow ((s4 : (List Int)).map enc), .no, .no]) rfl (fun s4 turn => g_some rfl (b_at [.im .st, .im (.d (enc (asks : (Tp Int)))), .im (.d (enc (places : Int))), .ow ((s4 : (List Int)).map enc), .im (.d (enc (turn : Int))), .no] rfl (b_set (b_call0 (b_cons (BK.ok (pv_var rfl) (b_cons (BK.ok (pv_cb (pv_cons (pv_var rfl) pv_nil) (k_lenT (α := Int))) (b_nil (RK.bind (r_call0 rfl (f__law_next ns (asks.l.length : Int))) fun t5 => b_at [.im .st, .im (.d (enc (asks : (Tp Int)))), .im (.d (enc (places : Int))), .ow ((s4 : (List Int)).map enc), .im (.d (enc (turn : Int))), .im (.d (enc (t5 : Int)))] rfl (b_setO1 (α := Int) rfl (BK.ok (pv_c) (BK.ok (pv_var rfl) (r_setO1 (α := Int) fun y6 => b_at [.im .st, .im (.d (enc (asks : (Tp Int)))), .im (.d (enc (places : Int))), .ow ((y6 : (List Int)).map enc), .im (.d (enc (turn : Int))), .im (.d (enc (t5 : Int)))] rfl (b_ifjM (σ := (List Int)) (fun s7 => [.im .st, .im (.d (enc (asks : (Tp Int)))), .im (.d (enc (places : Int))), .ow ((s7 : (List Int)).map enc), .im (.d (enc (turn : Int))), .im (.d (enc (t5 : Int)))]) (RK.close (b_not (b_te (b_call0 (b_cons (BK.ok (pv_var rfl) (b_cons (BK.ok (pv_var rfl) (b_cons (BK.ok (k_tupO (α := Int) rfl) (b_nil (RK.bind (r_call0 rfl (f__law_plan_right ns asks places (Tp.mk y6))) fun t9 => BK.ok (fun _ => rfl) (RK.ret))))))))))))) (b_setO1 (α := Int) rfl (BK.ok (pv_c) (BK.ok (pv_var rfl) (r_setO1 (α := Int) fun y8 => b_at [.im .st, .im (.d (enc (asks : (Tp Int)))), .im (.d (enc (places : Int))), .ow ((y8 : (List Int)).map enc), .im (.d (enc (turn : Int))), .im (.d (enc (t5 : Int)))] rfl (b_at [.im .st, .im (.d (enc (asks : (Tp Int)))), .im (.d (enc (places : Int))), .ow ((y8 : (List Int)).map enc), .im (.d (enc (turn : Int))), .im (.d (enc (t5 : Int)))] rfl (b_end (RK.ret))))))) (b_at [.im .st, .im (.d (enc (asks : (Tp Int)))), .im (.d (enc (places : Int))), .ow ((y6 : (List Int)).map enc), .im (.d (enc (turn : Int))), .im (.d (enc (t5 : Int)))] rfl (b_end (RK.ret))) fun s7 => b_wipe (b_at [.im .st, .im (.d (enc (asks : (Tp Int)))), .im (.d (enc (places : Int))), .ow ((s7 : (List Int)).map enc), .no, .no] rfl (b_end (RK.ret)))))))))))))))))) fun s4 => b_frz (b_at [.im .st, .im (.d (enc (asks : (Tp Int)))), .im (.d (enc (places : Int))), .im (.d (enc (s4 : (List Int)))), .no, .no] rfl (b_ret (BK.ok (pv_cb (pv_cons (pv_var rfl) (pv_nil)) (k_tuple (α := Int))) (RK.ret))))))))))))))))))
def D__law_plans (ns : List Int) : DenS := dSeq (dSet 3 (dCB gLen (dCons (dVar 1) (dNil)))) (dSeq (dSet 4 (dL (dLst (dCons (dOp (gRepA) (dTup (dCons (dC (.d (.int 0))) (dNil))) (dVar 3)) (dCons (dOp (gRepA) (dTup (dCons (dC (.d (.int 1))) (dNil))) (dVar 3)) (dCons (dCB gTuple (dCons (dL (dLc [5] (dI1 (dCons (dVar 3) (dNil))) (dName 5) (dYes) (dCB gInt1 (dCons (dOp (aGe) (dCall0 2 (V__law_later ns) (dCons (dVar 1) (dCons (dVar 5) (dNil)))) (dC (.d (.int 0)))) (dNil))))) (dNil))) (dCons (dCB gTuple (dCons (dL (dLc [5] (dI1 (dCons (dVar 3) (dNil))) (dName 5) (dYes) (dCall0 2 (V__law_next ns) (dCons (dVar 0) (dCons (dC (.d (.int 2))) (dNil)))))) (dNil))) (dNil)))))))) (dSeq (dSet 4 (dL (dCatV (dVar 4) (dL (dLst (dCons (dCB gTuple (dCons (dL (dLc [5] (dI1 (dCons (dVar 3) (dNil))) (dName 5) (dYes) (dOp aMul (dCB gInt1 (dCons (dOp (aGe) (dCall0 2 (V__law_later ns) (dCons (dVar 1) (dCons (dVar 5) (dNil)))) (dC (.d (.int 0)))) (dNil))) (dCall0 2 (V__law_next ns) (dCons (dVar 0) (dCons (dC (.d (.int 2))) (dNil))))))) (dNil))) (dCons (dOp (gRepA) (dTup (dCons (dC (.d (.int 0))) (dNil))) (dOp aAdd (dVar 3) (dC (.d (.int 1))))) (dCons (dOp aCatT (dTup (dCons (dC (.d (.int 2))) (dNil))) (dOp (gRepA) (dTup (dCons (dC (.d (.int 0))) (dNil))) (dOp aSub (dVar 3) (dC (.d (.int 1)))))) (dNil))))))))) (dSeq (dIfS (dTe (dOp (aGt) (dVar 3) (dC (.d (.int 0))))) (dSeq (dSet 4 (dL (dCatV (dVar 4) (dL (dLc [5] (dI1 (dCons (dC (.d (.int 3))) (dNil))) (dName 5) (dYes) (dCall0 3 (V__law_greedy ns) (dCons (dVar 0) (dCons (dVar 1) (dCons (dVar 2) (dNil)))))))))) (dNext)) (dNext)) (dSeq (dRet (dVar 4)) (dNext)))))
def V__law_plans (ns : List Int) : List Vl → Int → R Vl := dDef 3 (D__law_plans ns)
noncomputable def F__law_plans (ns : List Int) (asks : (Tp Int)) (places : Int) : M (List (Tp Int)) := Let ((asks.l.length : Int) : Int) fun many => M.bind (repAM (Tp.mk [(0 : Int)] : (Tp Int)) many) fun t1 => M.bind (repAM (Tp.mk [(1 : Int)] : (Tp Int)) many) fun t2 => M.bind (rng1M many) fun t3 => M.bind (mapM1 t3 (fun k : Int => M.bind (M.calm (F__law_later asks k)) fun t4 => M.ret (bti (decide ((0 : Int) ≤ t4))))) fun t5 => M.bind (rng1M many) fun t6 => M.bind (mapM1 t6 (fun k : Int => M.bind (M.calm (F__law_next ns (2 : Int))) fun t7 => M.ret t7)) fun t8 => M.bind (rng1M many) fun t9 => M.bind (mapM1 t9 (fun k : Int => M.bind (M.calm (F__law_later asks k)) fun t10 => M.bind (M.calm (F__law_next ns (2 : Int))) fun t11 => M.bind (mulM (bti (decide ((0 : Int) ≤ t10))) t11) fun t12 => M.ret t12)) fun t13 => M.bind (repAM (Tp.mk [(0 : Int)] : (Tp Int)) (many + (1 : Int))) fun t14 => M.bind (repAM (Tp.mk [(0 : Int)] : (Tp Int)) (many - (1 : Int))) fun t15 => M.bind (catTM (Tp.mk [(2 : Int)] : (Tp Int)) t15) fun t16 => M.bind (catM ([t1, t2, (Tp.mk t5), (Tp.mk t8)] : (List (Tp Int))) ([(Tp.mk t13), t14, t16] : (List (Tp Int)))) fun t17 => M.bind (if (decide ((0 : Int) < many)) = true then M.bind (mapM1 (rngL 0 3) (fun k : Int => M.bind (M.calm (F__law_greedy ns asks places)) fun t19 => M.ret t19)) fun t20 => M.bind (catM t17 t20) fun t21 => M.ret t21 else M.ret t17) fun s18 : (List (Tp Int)) => M.ret s18
theorem f__law_plans (ns : List Int) (asks : (Tp Int)) (places : Int) : RK (F__law_plans ns asks places) (fun r => Vl.d (enc r)) (V__law_plans ns [.st, .d (enc asks), .d (enc places)]) :=
  (show BK (D__law_plans ns [.im .st, .im (.d (enc (asks : (Tp Int)))), .im (.d (enc (places : Int))), .no, .no, .no]) finO _ _ from b_let (α := Int) (pv_cb (pv_cons (pv_var rfl) pv_nil) (k_lenT (α := Int))) (fun many => b_at [.im .st, .im (.d (enc (asks : (Tp Int)))), .im (.d (enc (places : Int))), .im (.d (enc (many : Int))), .no, .no] rfl (b_set (b_L (b_lst (b_cons (b_op (BK.ok (pv_tup (pv_cons (pv_c) (pv_nil)) rfl lenok) (BK.ok (pv_var rfl) (RK.bind (k_repA (α := Int)) fun t1 => b_cons (b_op (BK.ok (pv_tup (pv_cons (pv_c) (pv_nil)) rfl lenok) (BK.ok (pv_var rfl) (RK.bind (k_repA (α := Int)) fun t2 => b_cons (b_cb (b_cons (b_L (b_lc (b_r1 (b_cons (BK.ok (pv_var rfl) (b_nil (RK.bind k_r1 fun t3 => RK.bind (k_mapM (δ := [.im .st, .im (.d (enc (asks : (Tp Int)))), .im (.d (enc (places : Int))), .im (.d (enc (many : Int))), .no, .no]) (α := Int) (β := Int) (f := fun k : Int => M.bind (M.calm (F__law_later asks k)) fun t4 => M.ret (bti (decide ((0 : Int) ≤ t4)))) fun k : Int => ⟨[.im .st, .im (.d (enc (asks : (Tp Int)))), .im (.d (enc (places : Int))), .im (.d (enc (many : Int))), .no, .im (.d (enc (k : Int)))], rfl, (RK.close (b_cb (b_cons (b_op (b_call0 (b_cons (BK.ok (pv_var rfl) (b_cons (BK.ok (pv_var rfl) (b_nil (RK.bind (r_call0 rfl (f__law_later ns asks k)) fun t4 => BK.ok (pv_c) (BK.ok k_ge (b_nil (BK.ok k_intB (RK.ret)))))))))))))))⟩) fun t5 => b_nil (BK.ok (k_tuple (α := Int)) (b_cons (b_cb (b_cons (b_L (b_lc (b_r1 (b_cons (BK.ok (pv_var rfl) (b_nil (RK.bind k_r1 fun t6 => RK.bind (k_mapM (δ := [.im .st, .im (.d (enc (asks : (Tp Int)))), .im (.d (enc (places : Int))), .im (.d (enc (many : Int))), .no, .no]) (α := Int) (β := Int) (f := fun k : Int => M.bind (M.calm (F__law_next ns (2 : Int))) fun t7 => M.ret t7) fun k : Int => ⟨[.im .st, .im (.d (enc (asks : (Tp Int)))), .im (.d (enc (places : Int))), .im (.d (enc (many : Int))), .no, .im (.d (enc (k : Int)))], rfl, (RK.close (b_call0 (b_cons (BK.ok (pv_var rfl) (b_cons (BK.ok (pv_c) (b_nil (RK.bind (r_call0 rfl (f__law_next ns (2 : Int))) fun t7 => RK.ret))))))))⟩) fun t8 => b_nil (BK.ok (k_tuple (α := Int)) (b_nil (BK.ok (k_lst rfl lenok) (b_at [.im .st, .im (.d (enc (asks : (Tp Int)))), .im (.d (enc (places : Int))), .im (.d (enc (many : Int))), .im (.d (enc (([t1, t2, (Tp.mk t5), (Tp.mk t8)] : (List (Tp Int))) : (List (Tp Int))))), .no] rfl (b_set (b_L (b_catV (BK.ok (pv_var rfl) (b_L (b_lst (b_cons (b_cb (b_cons (b_L (b_lc (b_r1 (b_cons (BK.ok (pv_var rfl) (b_nil (RK.bind k_r1 fun t9 => RK.bind (k_mapM (δ := [.im .st, .im (.d (enc (asks : (Tp Int)))), .im (.d (enc (places : Int))), .im (.d (enc (many : Int))), .im (.d (enc (([t1, t2, (Tp.mk t5), (Tp.mk t8)] : (List (Tp Int))) : (List (Tp Int))))), .no]) (α := Int) (β := Int) (f := fun k : Int => M.bind (M.calm (F__law_later asks k)) fun t10 => M.bind (M.calm (F__law_next ns (2 : Int))) fun t11 => M.bind (mulM (bti (decide ((0 : Int) ≤ t10))) t11) fun t12 => M.ret t12) fun k : Int => ⟨[.im .st, .im (.d (enc (asks : (Tp Int)))), .im (.d (enc (places : Int))), .im (.d (enc (many : Int))), .im (.d (enc (([t1, t2, (Tp.mk t5), (Tp.mk t8)] : (List (Tp Int))) : (List (Tp Int))))), .im (.d (enc (k : Int)))], rfl, (RK.close (b_op (b_cb (b_cons (b_op (b_call0 (b_cons (BK.ok (pv_var rfl) (b_cons (BK.ok (pv_var rfl) (b_nil (RK.bind (r_call0 rfl (f__law_later ns asks k)) fun t10 => BK.ok (pv_c) (BK.ok k_ge (b_nil (BK.ok k_intB (b_call0 (b_cons (BK.ok (pv_var rfl) (b_cons (BK.ok (pv_c) (b_nil (RK.bind (r_call0 rfl (f__law_next ns (2 : Int))) fun t11 => RK.bind k_mul fun t12 => RK.ret))))))))))))))))))))))⟩) fun t13 => b_nil (BK.ok (k_tuple (α := Int)) (b_cons (b_op (BK.ok (pv_tup (pv_cons (pv_c) (pv_nil)) rfl lenok) (BK.ok (pv_op (pv_var rfl) (pv_c) k_add) (RK.bind (k_repA (α := Int)) fun t14 => b_cons (b_op (BK.ok (pv_tup (pv_cons (pv_c) (pv_nil)) rfl lenok) (b_op (BK.ok (pv_tup (pv_cons (pv_c) (pv_nil)) rfl lenok) (BK.ok (pv_op (pv_var rfl) (pv_c) k_sub) (RK.bind (k_repA (α := Int)) fun t15 => RK.bind (k_catT (α := Int)) fun t16 => b_nil (BK.ok (k_lst rfl lenok) (RK.bind (k_catV (α := (Tp Int))) fun t17 => b_at [.im .st, .im (.d (enc (asks : (Tp Int)))), .im (.d (enc (places : Int))), .im (.d (enc (many : Int))), .im (.d (enc (t17 : (List (Tp Int))))), .no] rfl (b_ifj (σ := (List (Tp Int))) (fun s18 => [.im .st, .im (.d (enc (asks : (Tp Int)))), .im (.d (enc (places : Int))), .im (.d (enc (many : Int))), .im (.d (enc (s18 : (List (Tp Int))))), .no]) (pv_te (pv_op (pv_var rfl) (pv_c) k_gt)) (b_set (b_L (b_catV (BK.ok (pv_var rfl) (b_L (b_lc (BK.ok (pv_r1 (pv_cons (pv_c) pv_nil) (by decide +kernel)) (RK.bind (k_mapM (δ := [.im .st, .im (.d (enc (asks : (Tp Int)))), .im (.d (enc (places : Int))), .im (.d (enc (many : Int))), .im (.d (enc (t17 : (List (Tp Int))))), .no]) (α := Int) (β := (Tp Int)) (f := fun k : Int => M.bind (M.calm (F__law_greedy ns asks places)) fun t19 => M.ret t19) fun k : Int => ⟨[.im .st, .im (.d (enc (asks : (Tp Int)))), .im (.d (enc (places : Int))), .im (.d (enc (many : Int))), .im (.d (enc (t17 : (List (Tp Int))))), .im (.d (enc (k : Int)))], rfl, (RK.close (b_call0 (b_cons (BK.ok (pv_var rfl) (b_cons (BK.ok (pv_var rfl) (b_cons (BK.ok (pv_var rfl) (b_nil (RK.bind (r_call0 rfl (f__law_greedy ns asks places)) fun t19 => RK.ret))))))))))⟩) fun t20 => RK.bind (k_catV (α := (Tp Int))) fun t21 => b_at [.im .st, .im (.d (enc (asks : (Tp Int)))), .im (.d (enc (places : Int))), .im (.d (enc (many : Int))), .im (.d (enc (t21 : (List (Tp Int))))), .no] rfl (b_at [.im .st, .im (.d (enc (asks : (Tp Int)))), .im (.d (enc (places : Int))), .im (.d (enc (many : Int))), .im (.d (enc (t21 : (List (Tp Int))))), .no] rfl (b_end (RK.ret))))))))))) (b_at [.im .st, .im (.d (enc (asks : (Tp Int)))), .im (.d (enc (places : Int))), .im (.d (enc (many : Int))), .im (.d (enc (t17 : (List (Tp Int))))), .no] rfl (b_end (RK.ret))) fun s18 => b_ret (BK.ok (pv_var rfl) (RK.ret)))))))))))))))))))))))))))))))))))))))))))))))))))))))))))))))))))))))
def D__law_bound (ns : List Int) : DenS := dSeq (dSet 4 (dOp aSub (dCB gSumA (dCons (dVar 1) (dNil))) (dOp aMul (dOp aSub (dVar 2) (dC (.d (.int 1)))) (dCB gSumA (dCons (dVar 3) (dNil)))))) (dSeq (dFgt [2] (dFor (dI1 (dCons (dCB gLen (dCons (dVar 0) (dNil))) (dNil))) (dName 5) (dSeq (dSet 6 (dCall0 2 (V__law_later ns) (dCons (dVar 0) (dCons (dVar 5) (dNil))))) (dSeq (dIfS (dTe (dOp (aGe) (dVar 6) (dC (.d (.int 0))))) (dSeq (dSet 4 (dOp aSub (dVar 4) (dCB gMax2 (dCons (dC (.d (.int 0))) (dCons (dOp aSub (dOp gIx (dVar 1) (dVar 5)) (dCB gSumA (dCons (dSlT (dVar 3) (dSoO (dOp aAdd (dVar 5) (dC (.d (.int 1))))) (dSoO (dVar 6))) (dNil)))) (dNil)))))) (dNext)) (dNext)) (dSeq (dWipe [6, 5]) (dNext)))))) (dSeq (dRet (dVar 4)) (dNext)))
def V__law_bound (ns : List Int) : List Vl → Int → R Vl := dDef 3 (D__law_bound ns)
noncomputable def F__law_bound (asks : (Tp Int)) (costs : (Tp Int)) (places : Int) (prices : (Tp Int)) : M Int := M.bind (mulM (places - (1 : Int)) prices.l.sum) fun t1 => M.bind (rng1M (asks.l.length : Int)) fun t2 => M.bind (forS t2 (costs.l.sum - t1) fun (s3 : Int) (k : Int) => M.bind (M.calm (F__law_later asks k)) fun t4 => M.bind (if (decide ((0 : Int) ≤ t4)) = true then M.bind (ixM costs.l k) fun t6 => M.ret (s3 - (maxI (0 : Int) (t6 - (Tp.mk (cut prices.l (some (k + (1 : Int))) (some t4))).l.sum))) else M.ret s3) fun s5 : Int => M.ret s5) fun s3 : Int => M.ret s3
theorem f__law_bound (ns : List Int) (asks : (Tp Int)) (costs : (Tp Int)) (places : Int) (prices : (Tp Int)) : RK (F__law_bound asks costs places prices) (fun r => Vl.d (enc r)) (V__law_bound ns [.d (enc asks), .d (enc costs), .d (enc places), .d (enc prices)]) :=
  (show BK (D__law_bound ns [.im (.d (enc (asks : (Tp Int)))), .im (.d (enc (costs : (Tp Int)))), .im (.d (enc (places : Int))), .im (.d (enc (prices : (Tp Int)))), .no, .no, .no]) finO _ _ from b_set (b_op (BK.ok (pv_cb (pv_cons (pv_var rfl) (pv_nil)) k_sumAT) (b_op (BK.ok (pv_op (pv_var rfl) (pv_c) k_sub) (BK.ok (pv_cb (pv_cons (pv_var rfl) (pv_nil)) k_sumAT) (RK.bind k_mul fun t1 => BK.ok k_sub (b_at [.im (.d (enc (asks : (Tp Int)))), .im (.d (enc (costs : (Tp Int)))), .im (.d (enc (places : Int))), .im (.d (enc (prices : (Tp Int)))), .im (.d (enc ((costs.l.sum - t1) : Int))), .no, .no] rfl (b_fgt (b_at [.im (.d (enc (asks : (Tp Int)))), .im (.d (enc (costs : (Tp Int)))), .no, .im (.d (enc (prices : (Tp Int)))), .im (.d (enc ((costs.l.sum - t1) : Int))), .no, .no] rfl (b_for (b_r1 (b_cons (BK.ok (pv_cb (pv_cons (pv_var rfl) pv_nil) (k_lenT (α := Int))) (b_nil (RK.bind k_r1 fun t2 => r_forS (α := Int) (σ := Int) (fun s3 => [.im (.d (enc (asks : (Tp Int)))), .im (.d (enc (costs : (Tp Int)))), .no, .im (.d (enc (prices : (Tp Int)))), .im (.d (enc (s3 : Int))), .no, .no]) rfl (fun s3 k => g_some rfl (b_at [.im (.d (enc (asks : (Tp Int)))), .im (.d (enc (costs : (Tp Int)))), .no, .im (.d (enc (prices : (Tp Int)))), .im (.d (enc (s3 : Int))), .im (.d (enc (k : Int))), .no] rfl (b_set (b_call0 (b_cons (BK.ok (pv_var rfl) (b_cons (BK.ok (pv_var rfl) (b_nil (RK.bind (r_call0 rfl (f__law_later ns asks k)) fun t4 => b_at [.im (.d (enc (asks : (Tp Int)))), .im (.d (enc (costs : (Tp Int)))), .no, .im (.d (enc (prices : (Tp Int)))), .im (.d (enc (s3 : Int))), .im (.d (enc (k : Int))), .im (.d (enc (t4 : Int)))] rfl (b_ifj (σ := Int) (fun s5 => [.im (.d (enc (asks : (Tp Int)))), .im (.d (enc (costs : (Tp Int)))), .no, .im (.d (enc (prices : (Tp Int)))), .im (.d (enc (s5 : Int))), .im (.d (enc (k : Int))), .im (.d (enc (t4 : Int)))]) (pv_te (pv_op (pv_var rfl) (pv_c) k_ge)) (b_set (b_op (BK.ok (pv_var rfl) (b_cb (b_cons (BK.ok (pv_c) (b_cons (b_op (b_op (BK.ok (pv_var rfl) (BK.ok (pv_var rfl) (RK.bind (k_ixT (α := Int)) fun t6 => BK.ok (pv_cb (pv_cons (pv_slT (α := Int) (pv_var rfl) (pv_soO (pv_op (pv_var rfl) (pv_c) k_add)) (pv_soO (pv_var rfl))) (pv_nil)) k_sumAT) (BK.ok k_sub (b_nil (BK.ok k_max2 (BK.ok k_sub (b_at [.im (.d (enc (asks : (Tp Int)))), .im (.d (enc (costs : (Tp Int)))), .no, .im (.d (enc (prices : (Tp Int)))), .im (.d (enc ((s3 - (maxI (0 : Int) (t6 - (Tp.mk (cut prices.l (some (k + (1 : Int))) (some t4))).l.sum))) : Int))), .im (.d (enc (k : Int))), .im (.d (enc (t4 : Int)))] rfl (b_at [.im (.d (enc (asks : (Tp Int)))), .im (.d (enc (costs : (Tp Int)))), .no, .im (.d (enc (prices : (Tp Int)))), .im (.d (enc ((s3 - (maxI (0 : Int) (t6 - (Tp.mk (cut prices.l (some (k + (1 : Int))) (some t4))).l.sum))) : Int))), .im (.d (enc (k : Int))), .im (.d (enc (t4 : Int)))] rfl (b_end (RK.ret)))))))))))))))))))) (b_at [.im (.d (enc (asks : (Tp Int)))), .im (.d (enc (costs : (Tp Int)))), .no, .im (.d (enc (prices : (Tp Int)))), .im (.d (enc (s3 : Int))), .im (.d (enc (k : Int))), .im (.d (enc (t4 : Int)))] rfl (b_end (RK.ret))) fun s5 => b_wipe (b_at [.im (.d (enc (asks : (Tp Int)))), .im (.d (enc (costs : (Tp Int)))), .no, .im (.d (enc (prices : (Tp Int)))), .im (.d (enc (s5 : Int))), .no, .no] rfl (b_end (RK.ret)))))))))))))) fun s3 => b_ret (BK.ok (pv_var rfl) (RK.ret))))))))))))))))))
-- _law_error: by the layer
def D__check_shelf (ns : List Int) : DenS := dSeq (dIfS (dTe (dOp (aGt) (dCB gLen (dCons (dVar 0) (dNil))) (dC (.d (.int 60))))) (dSeq (dRaise "NotAllowed") (dNext)) (dNext)) (dSeq (dFor (dIT (dVar 0)) (dName 3) (dSeq (dIfS (dNot (dTe (dChain (aLe) (aLe) (dC (.d (.int 0))) (dVar 3) (dC (.d (.int 99)))))) (dSeq (dRaise "NotAllowed") (dNext)) (dNext)) (dSeq (dWipe [3]) (dNext)))) (dSeq (dIfS (dTe (dOp (gEq true) (dCB gLen (dCons (dVar 1) (dNil))) (dCB gLen (dCons (dVar 0) (dNil))))) (dSeq (dRaise "NotAllowed") (dNext)) (dNext)) (dSeq (dNewK 4) (dSeq (dFor (dIZ (dCons (dVar 0) (dCons (dVar 1) (dNil)))) (dGT 2 (dGC (dName 3) (dGC (dName 5) (dGN)))) (dSeq (dIfSetd (dNot (dTe (dChain (aLe) (aLe) (dC (.d (.int 0))) (dVar 5) (dC (.d (.int 9999)))))) 4 (dVar 3) (dVar 5) (dVar 5) (dSeq (dRaise "NotAllowed") (dNext)) (dNext)) (dSeq (dWipe [5, 3]) (dNext)))) (dSeq (dIfS (dNot (dTe (dChain (aLe) (aLe) (dC (.d (.int 1))) (dVar 2) (dC (.d (.int 8)))))) (dSeq (dRaise "NotAllowed") (dNext)) (dNext)) (dNext))))))
def V__check_shelf (ns : List Int) : List Vl → Int → R Vl := dDef 3 (D__check_shelf ns)
noncomputable def F__check_shelf (asks : (Tp Int)) (costs : (Tp Int)) (places : Int) : M Unit := if (decide ((60 : Int) < (asks.l.length : Int))) = true then M.err "NotAllowed" else M.bind (forS asks.l () fun (s1 : Unit) (piece : Int) => if (!((decide ((0 : Int) ≤ piece)) && (decide (piece ≤ (99 : Int))))) = true then M.err "NotAllowed" else M.ret ()) fun s1 : Unit => if ((costs.l.length : Int) != (asks.l.length : Int)) = true then M.err "NotAllowed" else Let ([] : (List (Int × Int))) fun known => M.bind (forS (zipL asks.l costs.l) known fun (s2 : (List (Int × Int))) (x3 : (P2 Int Int)) => if (!((decide ((0 : Int) ≤ x3.b)) && (decide (x3.b ≤ (9999 : Int))))) = true then (fun zs4 : (List (Int × Int)) => M.err "NotAllowed") s2 else M.bind (setdM s2 x3.a x3.b) fun p => if (p.2 == (fun zs4 : (List (Int × Int)) => x3.b) p.1) = true then (fun zs4 : (List (Int × Int)) => M.ret zs4) p.1 else (fun zs4 : (List (Int × Int)) => M.err "NotAllowed") p.1) fun s2 : (List (Int × Int)) => if (!((decide ((1 : Int) ≤ places)) && (decide (places ≤ (8 : Int))))) = true then M.err "NotAllowed" else M.ret ()
theorem f__check_shelf (ns : List Int) (asks : (Tp Int)) (costs : (Tp Int)) (places : Int) : RK (F__check_shelf asks costs places) (fun r => Vl.d (enc r)) (V__check_shelf ns [.d (enc asks), .d (enc costs), .d (enc places)]) :=
  (show BK (D__check_shelf ns [.im (.d (enc (asks : (Tp Int)))), .im (.d (enc (costs : (Tp Int)))), .im (.d (enc (places : Int))), .no, .no, .no]) finO _ _ from b_ifS (BK.ok (pv_te (pv_op (pv_cb (pv_cons (pv_var rfl) pv_nil) (k_lenT (α := Int))) (pv_c) k_gt)) (BK.ite (b_assoc (b_raise)) (b_next (b_at [.im (.d (enc (asks : (Tp Int)))), .im (.d (enc (costs : (Tp Int)))), .im (.d (enc (places : Int))), .no, .no, .no] rfl (b_at [.im (.d (enc (asks : (Tp Int)))), .im (.d (enc (costs : (Tp Int)))), .im (.d (enc (places : Int))), .no, .no, .no] rfl (b_for (b_iT (BK.ok (pv_var rfl) (BK.ok (k_iT (α := Int) (xs := asks)) (r_forS (α := Int) (σ := Unit) (fun s1 => [.im (.d (enc (asks : (Tp Int)))), .im (.d (enc (costs : (Tp Int)))), .im (.d (enc (places : Int))), .no, .no, .no]) rfl (fun s1 piece => g_some rfl (b_at [.im (.d (enc (asks : (Tp Int)))), .im (.d (enc (costs : (Tp Int)))), .im (.d (enc (places : Int))), .im (.d (enc (piece : Int))), .no, .no] rfl (b_ifS (BK.ok (pv_not (pv_te (pv_chain (pv_c) (pv_var rfl) (pv_c) k_le k_le))) (BK.ite (b_assoc (b_raise)) (b_next (b_at [.im (.d (enc (asks : (Tp Int)))), .im (.d (enc (costs : (Tp Int)))), .im (.d (enc (places : Int))), .im (.d (enc (piece : Int))), .no, .no] rfl (b_wipe (b_at [.im (.d (enc (asks : (Tp Int)))), .im (.d (enc (costs : (Tp Int)))), .im (.d (enc (places : Int))), .no, .no, .no] rfl (b_end (RK.ret))))))))))) fun s1 => b_ifS (BK.ok (pv_te (pv_op (pv_cb (pv_cons (pv_var rfl) pv_nil) (k_lenT (α := Int))) (pv_cb (pv_cons (pv_var rfl) pv_nil) (k_lenT (α := Int))) k_neI)) (BK.ite (b_assoc (b_raise)) (b_next (b_at [.im (.d (enc (asks : (Tp Int)))), .im (.d (enc (costs : (Tp Int)))), .im (.d (enc (places : Int))), .no, .no, .no] rfl (b_newK (α := Int) (fun known => b_at [.im (.d (enc (asks : (Tp Int)))), .im (.d (enc (costs : (Tp Int)))), .im (.d (enc (places : Int))), .no, .od (.k (kvI (known : (List (Int × Int))))), .no] rfl (b_at [.im (.d (enc (asks : (Tp Int)))), .im (.d (enc (costs : (Tp Int)))), .im (.d (enc (places : Int))), .no, .od (.k (kvI (known : (List (Int × Int))))), .no] rfl (b_for (b_iZ (b_cons (BK.ok (pv_var rfl) (b_cons (BK.ok (pv_var rfl) (b_nil (BK.ok (k_izT (α := Int) (β := Int) (xs := asks) (ys := costs)) (r_forS (α := (P2 Int Int)) (σ := (List (Int × Int))) (fun s2 => [.im (.d (enc (asks : (Tp Int)))), .im (.d (enc (costs : (Tp Int)))), .im (.d (enc (places : Int))), .no, .od (.k (kvI (s2 : (List (Int × Int))))), .no]) rfl (fun s2 x3 => g_some rfl (b_at [.im (.d (enc (asks : (Tp Int)))), .im (.d (enc (costs : (Tp Int)))), .im (.d (enc (places : Int))), .im (.d (enc (x3.a : Int))), .od (.k (kvI (s2 : (List (Int × Int))))), .im (.d (enc (x3.b : Int)))] rfl (b_ifSetd (F := (fun zs4 : (List (Int × Int)) => M.err "NotAllowed")) (G := (fun zs4 : (List (Int × Int)) => M.ret zs4)) (x := (fun zs4 : (List (Int × Int)) => x3.b)) rfl (pv_not (pv_te (pv_chain (pv_c) (pv_var rfl) (pv_c) k_le k_le))) (pv_var rfl) (pv_var rfl) (fun zs4 => pv_var rfl) (fun zs4 => b_at [.im (.d (enc (asks : (Tp Int)))), .im (.d (enc (costs : (Tp Int)))), .im (.d (enc (places : Int))), .im (.d (enc (x3.a : Int))), .od (.k (kvI (zs4 : (List (Int × Int))))), .im (.d (enc (x3.b : Int)))] rfl (b_assoc (b_raise))) (fun zs4 => b_at [.im (.d (enc (asks : (Tp Int)))), .im (.d (enc (costs : (Tp Int)))), .im (.d (enc (places : Int))), .im (.d (enc (x3.a : Int))), .od (.k (kvI (zs4 : (List (Int × Int))))), .im (.d (enc (x3.b : Int)))] rfl (b_next (b_at [.im (.d (enc (asks : (Tp Int)))), .im (.d (enc (costs : (Tp Int)))), .im (.d (enc (places : Int))), .im (.d (enc (x3.a : Int))), .od (.k (kvI (zs4 : (List (Int × Int))))), .im (.d (enc (x3.b : Int)))] rfl (b_wipe (b_at [.im (.d (enc (asks : (Tp Int)))), .im (.d (enc (costs : (Tp Int)))), .im (.d (enc (places : Int))), .no, .od (.k (kvI (zs4 : (List (Int × Int))))), .no] rfl (b_end (RK.ret)))))))))) fun s2 => b_ifS (BK.ok (pv_not (pv_te (pv_chain (pv_c) (pv_var rfl) (pv_c) k_le k_le))) (BK.ite (b_assoc (b_raise)) (b_next (b_at [.im (.d (enc (asks : (Tp Int)))), .im (.d (enc (costs : (Tp Int)))), .im (.d (enc (places : Int))), .no, .od (.k (kvI (s2 : (List (Int × Int))))), .no] rfl (b_at [.im (.d (enc (asks : (Tp Int)))), .im (.d (enc (costs : (Tp Int)))), .im (.d (enc (places : Int))), .no, .od (.k (kvI (s2 : (List (Int × Int))))), .no] rfl (b_end (RK.ret))))))))))))))))))))))))))))))))))
def D__stays (ns : List Int) : DenS := dSeq (dNewK 1) (dSeq (dNew 2 (dLst (dNil))) (dSeq (dFor (dIET (dCons (dVar 0) (dNil))) (dGT 2 (dGC (dName 3) (dGC (dName 4) (dGN)))) (dSeq (dIfS (dTe (dInD false 1 (dVar 4))) (dSeq (dApp 2 (dTup (dCons (dGetD 1 (dVar 4)) (dCons (dVar 3) (dNil))))) (dNext)) (dNext)) (dSeq (dPutD 1 (dVar 4) (dVar 3)) (dSeq (dWipe [3, 4]) (dNext))))) (dSeq (dFrz 2 (dRet (dL (dCBL gSortP (dCons (dVar 2) (dNil)))))) (dNext))))
def V__stays (ns : List Int) : List Vl → Int → R Vl := dDef 4 (D__stays ns)
noncomputable def F__stays (asks : (Tp Int)) : M (List (P2 Int Int)) := Let ([] : (List (Int × Int))) fun last => Let (([] : (List (P2 Int Int))) : (List (P2 Int Int))) fun found => M.bind (forS (enumL asks.l) (last, found) fun (s1 : ((List (Int × Int)) × (List (P2 Int Int)))) (x2 : (P2 Int Int)) => M.bind (if (xor false (valG s1.1 x2.b).isSome) = true then M.bind (dgetM s1.1 x2.b) fun t4 => M.bind (appM s1.2 (P2.mk t4 x2.a : (P2 Int Int))) fun found => M.ret found else M.ret s1.2) fun s3 : (List (P2 Int Int)) => M.bind (dputM s1.1 x2.b x2.a) fun y5 => M.ret (y5, s3)) fun s1 : ((List (Int × Int)) × (List (P2 Int Int))) => M.bind (sortPM s1.2) fun t6 => M.ret t6
theorem f__stays (ns : List Int) (asks : (Tp Int)) : RK (F__stays asks) (fun r => Vl.d (enc r)) (V__stays ns [.d (enc asks)]) :=
  (show BK (D__stays ns [.im (.d (enc (asks : (Tp Int)))), .no, .no, .no, .no]) finO _ _ from b_newK (α := Int) (fun last => b_at [.im (.d (enc (asks : (Tp Int)))), .od (.k (kvI (last : (List (Int × Int))))), .no, .no, .no] rfl (b_letL (α := (P2 Int Int)) (pv_lst (pv_nil) rfl lenok) (fun found => b_at [.im (.d (enc (asks : (Tp Int)))), .od (.k (kvI (last : (List (Int × Int))))), .ow ((found : (List (P2 Int Int))).map enc), .no, .no] rfl (b_at [.im (.d (enc (asks : (Tp Int)))), .od (.k (kvI (last : (List (Int × Int))))), .ow ((found : (List (P2 Int Int))).map enc), .no, .no] rfl (b_for (b_iET (b_cons (BK.ok (pv_var rfl) (b_nil (BK.ok (k_ieT (α := Int)) (r_forS (α := (P2 Int Int)) (σ := ((List (Int × Int)) × (List (P2 Int Int)))) (fun s1 => [.im (.d (enc (asks : (Tp Int)))), .od (.k (kvI (s1.1 : (List (Int × Int))))), .ow ((s1.2 : (List (P2 Int Int))).map enc), .no, .no]) rfl (fun s1 x2 => g_some rfl (b_at [.im (.d (enc (asks : (Tp Int)))), .od (.k (kvI (s1.1 : (List (Int × Int))))), .ow ((s1.2 : (List (P2 Int Int))).map enc), .im (.d (enc (x2.a : Int))), .im (.d (enc (x2.b : Int)))] rfl (b_ifj (σ := (List (P2 Int Int))) (fun s3 => [.im (.d (enc (asks : (Tp Int)))), .od (.k (kvI (s1.1 : (List (Int × Int))))), .ow ((s3 : (List (P2 Int Int))).map enc), .im (.d (enc (x2.a : Int))), .im (.d (enc (x2.b : Int)))]) (pv_te (pv_inD (α := Int) rfl (pv_var rfl))) (b_app (α := (P2 Int Int)) rfl (b_tup (b_cons (b_getD (α := Int) rfl (BK.ok (pv_var rfl) (RK.bind (k_getK (α := Int)) fun t4 => b_cons (BK.ok (pv_var rfl) (b_nil (BK.ok (k_tup rfl lenok) (r_app (α := (P2 Int Int)) fun found => b_at [.im (.d (enc (asks : (Tp Int)))), .od (.k (kvI (s1.1 : (List (Int × Int))))), .ow ((found : (List (P2 Int Int))).map enc), .im (.d (enc (x2.a : Int))), .im (.d (enc (x2.b : Int)))] rfl (b_at [.im (.d (enc (asks : (Tp Int)))), .od (.k (kvI (s1.1 : (List (Int × Int))))), .ow ((found : (List (P2 Int Int))).map enc), .im (.d (enc (x2.a : Int))), .im (.d (enc (x2.b : Int)))] rfl (b_end (RK.ret))))))))))))) (b_at [.im (.d (enc (asks : (Tp Int)))), .od (.k (kvI (s1.1 : (List (Int × Int))))), .ow ((s1.2 : (List (P2 Int Int))).map enc), .im (.d (enc (x2.a : Int))), .im (.d (enc (x2.b : Int)))] rfl (b_end (RK.ret))) fun s3 => b_putD (α := Int) rfl (BK.ok (pv_var rfl) (r_putX (BK.ok (pv_var rfl) (r_putI (α := Int) fun y5 => b_at [.im (.d (enc (asks : (Tp Int)))), .od (.k (kvI (y5 : (List (Int × Int))))), .ow ((s3 : (List (P2 Int Int))).map enc), .im (.d (enc (x2.a : Int))), .im (.d (enc (x2.b : Int)))] rfl (b_wipe (b_at [.im (.d (enc (asks : (Tp Int)))), .od (.k (kvI (y5 : (List (Int × Int))))), .ow ((s3 : (List (P2 Int Int))).map enc), .no, .no] rfl (b_end (RK.ret))))))))))) fun s1 => b_frz (b_at [.im (.d (enc (asks : (Tp Int)))), .od (.k (kvI (s1.1 : (List (Int × Int))))), .im (.d (enc (s1.2 : (List (P2 Int Int))))), .no, .no] rfl (b_ret (b_L (b_cbl (b_cons (BK.ok (pv_var rfl) (b_nil (RK.bind k_sortP fun t6 => RK.ret))))))))))))))))))))
def D__check_plan (ns : List Int) : DenS := dSeq (dIfS (dTe (dOp (gEq true) (dCB gLen (dCons (dVar 2) (dNil))) (dCB gLen (dCons (dVar 0) (dNil))))) (dSeq (dRaise "NotAllowed") (dNext)) (dNext)) (dSeq (dNew 3 (dRepL (dLst (dCons (dC (.d (.int 0))) (dNil))) (dCB gLen (dCons (dVar 0) (dNil))))) (dSeq (dNewDk 4 (dDc [8, 9] (dIL (dCall0 1 (V__stays ns) (dCons (dVar 0) (dNil)))) (dGT 2 (dGC (dName 8) (dGC (dName 9) (dGN)))) (dYes) (dVar 8) (dVar 9))) (dSeq (dFgt [0] (dFor (dIET (dCons (dVar 2) (dNil))) (dGT 2 (dGC (dName 5) (dGC (dName 6) (dGN)))) (dSeq (dIfS (dTe (dOp (gEq false) (dVar 6) (dC (.d (.int 0))))) (dSeq (dFgt [5, 6] dCont) (dNext)) (dNext)) (dSeq (dIfS (dOr (dTe (dOp (gEq true) (dVar 6) (dC (.d (.int 1))))) (dTe (dInD true 4 (dVar 5)))) (dSeq (dRaise "NotAllowed") (dNext)) (dNext)) (dSeq (dFgt [6] (dFor (dI2 (dCons (dOp aAdd (dVar 5) (dC (.d (.int 1)))) (dCons (dGetD 4 (dVar 5)) (dNil)))) (dName 7) (dSeq (dAugO 3 (fun i j => i + j) (dVar 7) (dC (.d (.int 1)))) (dSeq (dIfS (dTe (dOp (aGt) (dIxO 3 (dVar 7)) (dOp aSub (dVar 1) (dC (.d (.int 1)))))) (dSeq (dRaise "NotAllowed") (dNext)) (dNext)) (dSeq (dWipe [7]) (dNext)))))) (dSeq (dWipe [5]) (dNext))))))) (dNext))))
def V__check_plan (ns : List Int) : List Vl → Int → R Vl := dDef 7 (D__check_plan ns)
noncomputable def F__check_plan (asks : (Tp Int)) (places : Int) (plan : (Tp Int)) : M Unit := if ((plan.l.length : Int) != (asks.l.length : Int)) = true then M.err "NotAllowed" else M.bind (repN ([(0 : Int)] : (List Int)) (asks.l.length : Int)) fun t1 => M.bind (M.calm (F__stays asks)) fun t2 => M.bind (dcM (fun x3 : (P2 Int Int) => (true : Bool)) (fun x3 : (P2 Int Int) => (x3.a : Int)) (fun x3 : (P2 Int Int) => (x3.b : Int)) t2 []) fun t4 => M.bind (forS (enumL plan.l) t1 fun (s5 : (List Int)) (x6 : (P2 Int Int)) => if (x6.b == (0 : Int)) = true then M.ret s5 else if ((x6.b != (1 : Int)) || (xor true (valG t4 x6.a).isSome)) = true then M.err "NotAllowed" else M.bind (dgetM t4 x6.a) fun t7 => M.bind (rng2M (x6.a + (1 : Int)) t7) fun t8 => M.bind (forS t8 s5 fun (s9 : (List Int)) (between : Int) => M.bind (augM s9 between) fun p10 => Let (s9.set p10.1 (p10.2 + (1 : Int))) fun y11 => M.bind (ixM y11 between) fun t12 => if (decide ((places - (1 : Int)) < t12)) = true then M.err "NotAllowed" else M.ret y11) fun s9 : (List Int) => M.ret s9) fun s5 : (List Int) => M.ret ()
theorem f__check_plan (ns : List Int) (asks : (Tp Int)) (places : Int) (plan : (Tp Int)) : RK (F__check_plan asks places plan) (fun r => Vl.d (enc r)) (V__check_plan ns [.d (enc asks), .d (enc places), .d (enc plan)]) :=
  (show BK (D__check_plan ns [.im (.d (enc (asks : (Tp Int)))), .im (.d (enc (places : Int))), .im (.d (enc (plan : (Tp Int)))), .no, .no, .no, .no, .no, .no, .no]) finO _ _ from b_ifS (BK.ok (pv_te (pv_op (pv_cb (pv_cons (pv_var rfl) pv_nil) (k_lenT (α := Int))) (pv_cb (pv_cons (pv_var rfl) pv_nil) (k_lenT (α := Int))) k_neI)) (BK.ite (b_assoc (b_raise)) (b_next (b_at [.im (.d (enc (asks : (Tp Int)))), .im (.d (enc (places : Int))), .im (.d (enc (plan : (Tp Int)))), .no, .no, .no, .no, .no, .no, .no] rfl (b_new (b_repL2 (BK.ok (pv_lst (pv_cons (pv_c) (pv_nil)) rfl lenok) (BK.ok (pv_cb (pv_cons (pv_var rfl) pv_nil) (k_lenT (α := Int))) (RK.bind (k_repL2 (α := Int)) fun t1 => b_at [.im (.d (enc (asks : (Tp Int)))), .im (.d (enc (places : Int))), .im (.d (enc (plan : (Tp Int)))), .ow ((t1 : (List Int)).map enc), .no, .no, .no, .no, .no, .no] rfl (b_newDk (b_dc (b_iL (b_call0 (b_cons (BK.ok (pv_var rfl) (b_nil (RK.bind (r_call0 rfl (f__stays ns asks)) fun t2 => BK.ok (k_iL (α := (P2 Int Int)) (xs := t2)) (RK.bind (k_dc (δ := [.im (.d (enc (asks : (Tp Int)))), .im (.d (enc (places : Int))), .im (.d (enc (plan : (Tp Int)))), .ow ((t1 : (List Int)).map enc), .no, .no, .no, .no, .no, .no]) (α := (P2 Int Int)) (β := Int) (t := (fun x3 : (P2 Int Int) => (true : Bool))) (kf := (fun x3 : (P2 Int Int) => (x3.a : Int))) (vf := (fun x3 : (P2 Int Int) => (x3.b : Int))) (xs := t2) fun x3 : (P2 Int Int) => ⟨[.im (.d (enc (asks : (Tp Int)))), .im (.d (enc (places : Int))), .im (.d (enc (plan : (Tp Int)))), .ow ((t1 : (List Int)).map enc), .no, .no, .no, .no, .im (.d (enc (x3.a : Int))), .im (.d (enc (x3.b : Int)))], rfl, (fun _ => rfl), (pv_var rfl), (pv_var rfl)⟩) fun t4 => b_at [.im (.d (enc (asks : (Tp Int)))), .im (.d (enc (places : Int))), .im (.d (enc (plan : (Tp Int)))), .ow ((t1 : (List Int)).map enc), .od (.k (kvI (t4 : (List (Int × Int))))), .no, .no, .no, .no, .no] rfl (b_fgt (b_at [.no, .im (.d (enc (places : Int))), .im (.d (enc (plan : (Tp Int)))), .ow ((t1 : (List Int)).map enc), .od (.k (kvI (t4 : (List (Int × Int))))), .no, .no, .no, .no, .no] rfl (b_for (b_iET (b_cons (BK.ok (pv_var rfl) (b_nil (BK.ok (k_ieT (α := Int)) (r_forS (α := (P2 Int Int)) (σ := (List Int)) (fun s5 => [.no, .im (.d (enc (places : Int))), .im (.d (enc (plan : (Tp Int)))), .ow ((s5 : (List Int)).map enc), .od (.k (kvI (t4 : (List (Int × Int))))), .no, .no, .no, .no, .no]) rfl (fun s5 x6 => g_some rfl (b_at [.no, .im (.d (enc (places : Int))), .im (.d (enc (plan : (Tp Int)))), .ow ((s5 : (List Int)).map enc), .od (.k (kvI (t4 : (List (Int × Int))))), .im (.d (enc (x6.a : Int))), .im (.d (enc (x6.b : Int))), .no, .no, .no] rfl (b_ifS (BK.ok (pv_te (pv_op (pv_var rfl) (pv_c) k_eqI)) (BK.ite (b_assoc (b_fgt (b_at [.no, .im (.d (enc (places : Int))), .im (.d (enc (plan : (Tp Int)))), .ow ((s5 : (List Int)).map enc), .od (.k (kvI (t4 : (List (Int × Int))))), .no, .no, .no, .no, .no] rfl (b_cont (RK.ret))))) (b_next (b_at [.no, .im (.d (enc (places : Int))), .im (.d (enc (plan : (Tp Int)))), .ow ((s5 : (List Int)).map enc), .od (.k (kvI (t4 : (List (Int × Int))))), .im (.d (enc (x6.a : Int))), .im (.d (enc (x6.b : Int))), .no, .no, .no] rfl (b_ifS (BK.ok (pv_or (pv_te (pv_op (pv_var rfl) (pv_c) k_neI)) (pv_te (pv_inD (α := Int) rfl (pv_var rfl)))) (BK.ite (b_assoc (b_raise)) (b_next (b_at [.no, .im (.d (enc (places : Int))), .im (.d (enc (plan : (Tp Int)))), .ow ((s5 : (List Int)).map enc), .od (.k (kvI (t4 : (List (Int × Int))))), .im (.d (enc (x6.a : Int))), .im (.d (enc (x6.b : Int))), .no, .no, .no] rfl (b_fgt (b_at [.no, .im (.d (enc (places : Int))), .im (.d (enc (plan : (Tp Int)))), .ow ((s5 : (List Int)).map enc), .od (.k (kvI (t4 : (List (Int × Int))))), .im (.d (enc (x6.a : Int))), .no, .no, .no, .no] rfl (b_for (b_r2 (b_cons (BK.ok (pv_op (pv_var rfl) (pv_c) k_add) (b_cons (b_getD (α := Int) rfl (BK.ok (pv_var rfl) (RK.bind (k_getK (α := Int)) fun t7 => b_nil (RK.bind k_r2 fun t8 => r_forS (α := Int) (σ := (List Int)) (fun s9 => [.no, .im (.d (enc (places : Int))), .im (.d (enc (plan : (Tp Int)))), .ow ((s9 : (List Int)).map enc), .od (.k (kvI (t4 : (List (Int × Int))))), .im (.d (enc (x6.a : Int))), .no, .no, .no, .no]) rfl (fun s9 between => g_some rfl (b_at [.no, .im (.d (enc (places : Int))), .im (.d (enc (plan : (Tp Int)))), .ow ((s9 : (List Int)).map enc), .od (.k (kvI (t4 : (List (Int × Int))))), .im (.d (enc (x6.a : Int))), .no, .im (.d (enc (between : Int))), .no, .no] rfl (b_augO (xs := s9) rfl (BK.ok (pv_var rfl) (r_augK fun p10 => BK.ok (pv_c) (r_augV fun y11 => b_at [.no, .im (.d (enc (places : Int))), .im (.d (enc (plan : (Tp Int)))), .ow ((y11 : (List Int)).map enc), .od (.k (kvI (t4 : (List (Int × Int))))), .im (.d (enc (x6.a : Int))), .no, .im (.d (enc (between : Int))), .no, .no] rfl (b_ifS (b_te (b_op (b_ixO (α := Int) rfl (BK.ok (pv_var rfl) (RK.bind (k_ixO (α := Int)) fun t12 => BK.ok (pv_op (pv_var rfl) (pv_c) k_sub) (BK.ok k_gt (BK.ok (fun _ => rfl) (BK.ite (b_assoc (b_raise)) (b_next (b_at [.no, .im (.d (enc (places : Int))), .im (.d (enc (plan : (Tp Int)))), .ow ((y11 : (List Int)).map enc), .od (.k (kvI (t4 : (List (Int × Int))))), .im (.d (enc (x6.a : Int))), .no, .im (.d (enc (between : Int))), .no, .no] rfl (b_wipe (b_at [.no, .im (.d (enc (places : Int))), .im (.d (enc (plan : (Tp Int)))), .ow ((y11 : (List Int)).map enc), .od (.k (kvI (t4 : (List (Int × Int))))), .im (.d (enc (x6.a : Int))), .no, .no, .no, .no] rfl (b_end (RK.ret))))))))))))))))))))) fun s9 => b_wipe (b_at [.no, .im (.d (enc (places : Int))), .im (.d (enc (plan : (Tp Int)))), .ow ((s9 : (List Int)).map enc), .od (.k (kvI (t4 : (List (Int × Int))))), .no, .no, .no, .no, .no] rfl (b_end (RK.ret)))))))))))))))))))))))))) fun s5 => b_at [.no, .im (.d (enc (places : Int))), .im (.d (enc (plan : (Tp Int)))), .ow ((s5 : (List Int)).map enc), .od (.k (kvI (t4 : (List (Int × Int))))), .no, .no, .no, .no, .no] rfl (b_end (RK.ret))))))))))))))))))))))))))))))
def D_plan_work (ns : List Int) : DenS := dSeq (dDrop (dCall 3 (V__check_shelf ns) (dCons (dVar 0) (dCons (dVar 1) (dCons (dVar 2) (dNil)))))) (dSeq (dDrop (dCall 3 (V__check_plan ns) (dCons (dVar 0) (dCons (dVar 2) (dCons (dVar 3) (dNil)))))) (dSeq (dRet (dOp aSub (dCB gSumA (dCons (dVar 1) (dNil))) (dCB gSumA (dCons (dL (dLc [4, 5] (dIZ (dCons (dVar 1) (dCons (dVar 3) (dNil)))) (dGT 2 (dGC (dName 4) (dGC (dName 5) (dGN)))) (dTe (dOp (gEq false) (dVar 5) (dC (.d (.int 1))))) (dVar 4))) (dNil))))) (dNext)))
def V_plan_work (ns : List Int) : List Vl → Int → R Vl := dDef 2 (D_plan_work ns)
noncomputable def F_plan_work (asks : (Tp Int)) (costs : (Tp Int)) (places : Int) (plan : (Tp Int)) : M Int := M.bind (F__check_shelf asks costs places) fun t1 => M.bind (F__check_plan asks places plan) fun t2 => M.bind (lcP (zipL costs.l plan.l) (fun x3 : (P2 Int Int) => (x3.b == (1 : Int))) (fun x3 : (P2 Int Int) => (x3.a : Int))) fun t4 => M.ret (costs.l.sum - t4.sum)
theorem f_plan_work (ns : List Int) (asks : (Tp Int)) (costs : (Tp Int)) (places : Int) (plan : (Tp Int)) : RK (F_plan_work asks costs places plan) (fun r => Vl.d (enc r)) (V_plan_work ns [.d (enc asks), .d (enc costs), .d (enc places), .d (enc plan)]) :=
  (show BK (D_plan_work ns [.im (.d (enc (asks : (Tp Int)))), .im (.d (enc (costs : (Tp Int)))), .im (.d (enc (places : Int))), .im (.d (enc (plan : (Tp Int)))), .no, .no]) finO _ _ from b_drop (b_call (b_cons (BK.ok (pv_var rfl) (b_cons (BK.ok (pv_var rfl) (b_cons (BK.ok (pv_var rfl) (b_nil (RK.bind (r_call rfl (f__check_shelf ns asks costs places)) fun t1 => b_at [.im (.d (enc (asks : (Tp Int)))), .im (.d (enc (costs : (Tp Int)))), .im (.d (enc (places : Int))), .im (.d (enc (plan : (Tp Int)))), .no, .no] rfl (b_drop (b_call (b_cons (BK.ok (pv_var rfl) (b_cons (BK.ok (pv_var rfl) (b_cons (BK.ok (pv_var rfl) (b_nil (RK.bind (r_call rfl (f__check_plan ns asks places plan)) fun t2 => b_at [.im (.d (enc (asks : (Tp Int)))), .im (.d (enc (costs : (Tp Int)))), .im (.d (enc (places : Int))), .im (.d (enc (plan : (Tp Int)))), .no, .no] rfl (b_ret (b_op (BK.ok (pv_cb (pv_cons (pv_var rfl) (pv_nil)) k_sumAT) (b_cb (b_cons (b_L (b_lc (b_iZ (b_cons (BK.ok (pv_var rfl) (b_cons (BK.ok (pv_var rfl) (b_nil (BK.ok (k_izT (α := Int) (β := Int) (xs := costs) (ys := plan)) (RK.bind (k_lcP (δ := [.im (.d (enc (asks : (Tp Int)))), .im (.d (enc (costs : (Tp Int)))), .im (.d (enc (places : Int))), .im (.d (enc (plan : (Tp Int)))), .no, .no]) (α := (P2 Int Int)) (β := Int) (t := fun x3 : (P2 Int Int) => (x3.b == (1 : Int))) (f := fun x3 : (P2 Int Int) => (x3.a : Int)) fun x3 : (P2 Int Int) => ⟨[.im (.d (enc (asks : (Tp Int)))), .im (.d (enc (costs : (Tp Int)))), .im (.d (enc (places : Int))), .im (.d (enc (plan : (Tp Int)))), .im (.d (enc (x3.a : Int))), .im (.d (enc (x3.b : Int)))], rfl, (pv_te (pv_op (pv_var rfl) (pv_c) k_eqI)), (pv_var rfl)⟩) fun t4 => b_nil (BK.ok k_sumA (BK.ok k_sub (RK.ret))))))))))))))))))))))))))))))))))))))
def D_bound_of (ns : List Int) : DenS := dSeq (dDrop (dCall 3 (V__check_shelf ns) (dCons (dVar 0) (dCons (dVar 1) (dCons (dVar 2) (dNil)))))) (dSeq (dIfS (dTe (dOp (gEq true) (dCB gLen (dCons (dVar 3) (dNil))) (dCB gLen (dCons (dVar 0) (dNil))))) (dSeq (dRaise "NotAllowed") (dNext)) (dNext)) (dSeq (dFor (dIT (dVar 3)) (dName 4) (dSeq (dIfS (dTe (dOp (aLt) (dVar 4) (dC (.d (.int 0))))) (dSeq (dRaise "NotAllowed") (dNext)) (dNext)) (dSeq (dWipe [4]) (dNext)))) (dSeq (dSet 5 (dL (dLc [6, 7] (dIL (dCall0 1 (V__stays ns) (dCons (dVar 0) (dNil)))) (dGT 2 (dGC (dName 6) (dGC (dName 7) (dGN)))) (dYes) (dCB gMax2 (dCons (dC (.d (.int 0))) (dCons (dOp aSub (dOp gIx (dVar 1) (dVar 6)) (dCB gSumA (dCons (dSlT (dVar 3) (dSoO (dOp aAdd (dVar 6) (dC (.d (.int 1))))) (dSoO (dVar 7))) (dNil)))) (dNil))))))) (dSeq (dRet (dOp aSub (dOp aSub (dCB gSumA (dCons (dVar 1) (dNil))) (dCB gSumA (dCons (dVar 5) (dNil)))) (dOp aMul (dOp aSub (dVar 2) (dC (.d (.int 1)))) (dCB gSumA (dCons (dVar 3) (dNil)))))) (dNext)))))
def V_bound_of (ns : List Int) : List Vl → Int → R Vl := dDef 4 (D_bound_of ns)
noncomputable def F_bound_of (asks : (Tp Int)) (costs : (Tp Int)) (places : Int) (prices : (Tp Int)) : M Int := M.bind (F__check_shelf asks costs places) fun t1 => if ((prices.l.length : Int) != (asks.l.length : Int)) = true then M.err "NotAllowed" else M.bind (forS prices.l () fun (s2 : Unit) (price : Int) => if (decide (price < (0 : Int))) = true then M.err "NotAllowed" else M.ret ()) fun s2 : Unit => M.bind (M.calm (F__stays asks)) fun t3 => M.bind (mapM1 t3 (fun x4 : (P2 Int Int) => M.bind (ixM costs.l x4.a) fun t5 => M.ret (maxI (0 : Int) (t5 - (Tp.mk (cut prices.l (some (x4.a + (1 : Int))) (some x4.b))).l.sum)))) fun t6 => M.bind (mulM (places - (1 : Int)) prices.l.sum) fun t7 => M.ret ((costs.l.sum - t6.sum) - t7)
theorem f_bound_of (ns : List Int) (asks : (Tp Int)) (costs : (Tp Int)) (places : Int) (prices : (Tp Int)) : RK (F_bound_of asks costs places prices) (fun r => Vl.d (enc r)) (V_bound_of ns [.d (enc asks), .d (enc costs), .d (enc places), .d (enc prices)]) :=
  (show BK (D_bound_of ns [.im (.d (enc (asks : (Tp Int)))), .im (.d (enc (costs : (Tp Int)))), .im (.d (enc (places : Int))), .im (.d (enc (prices : (Tp Int)))), .no, .no, .no, .no]) finO _ _ from b_drop (b_call (b_cons (BK.ok (pv_var rfl) (b_cons (BK.ok (pv_var rfl) (b_cons (BK.ok (pv_var rfl) (b_nil (RK.bind (r_call rfl (f__check_shelf ns asks costs places)) fun t1 => b_at [.im (.d (enc (asks : (Tp Int)))), .im (.d (enc (costs : (Tp Int)))), .im (.d (enc (places : Int))), .im (.d (enc (prices : (Tp Int)))), .no, .no, .no, .no] rfl (b_ifS (BK.ok (pv_te (pv_op (pv_cb (pv_cons (pv_var rfl) pv_nil) (k_lenT (α := Int))) (pv_cb (pv_cons (pv_var rfl) pv_nil) (k_lenT (α := Int))) k_neI)) (BK.ite (b_assoc (b_raise)) (b_next (b_at [.im (.d (enc (asks : (Tp Int)))), .im (.d (enc (costs : (Tp Int)))), .im (.d (enc (places : Int))), .im (.d (enc (prices : (Tp Int)))), .no, .no, .no, .no] rfl (b_at [.im (.d (enc (asks : (Tp Int)))), .im (.d (enc (costs : (Tp Int)))), .im (.d (enc (places : Int))), .im (.d (enc (prices : (Tp Int)))), .no, .no, .no, .no] rfl (b_for (b_iT (BK.ok (pv_var rfl) (BK.ok (k_iT (α := Int) (xs := prices)) (r_forS (α := Int) (σ := Unit) (fun s2 => [.im (.d (enc (asks : (Tp Int)))), .im (.d (enc (costs : (Tp Int)))), .im (.d (enc (places : Int))), .im (.d (enc (prices : (Tp Int)))), .no, .no, .no, .no]) rfl (fun s2 price => g_some rfl (b_at [.im (.d (enc (asks : (Tp Int)))), .im (.d (enc (costs : (Tp Int)))), .im (.d (enc (places : Int))), .im (.d (enc (prices : (Tp Int)))), .im (.d (enc (price : Int))), .no, .no, .no] rfl (b_ifS (BK.ok (pv_te (pv_op (pv_var rfl) (pv_c) k_lt)) (BK.ite (b_assoc (b_raise)) (b_next (b_at [.im (.d (enc (asks : (Tp Int)))), .im (.d (enc (costs : (Tp Int)))), .im (.d (enc (places : Int))), .im (.d (enc (prices : (Tp Int)))), .im (.d (enc (price : Int))), .no, .no, .no] rfl (b_wipe (b_at [.im (.d (enc (asks : (Tp Int)))), .im (.d (enc (costs : (Tp Int)))), .im (.d (enc (places : Int))), .im (.d (enc (prices : (Tp Int)))), .no, .no, .no, .no] rfl (b_end (RK.ret))))))))))) fun s2 => b_set (b_L (b_lc (b_iL (b_call0 (b_cons (BK.ok (pv_var rfl) (b_nil (RK.bind (r_call0 rfl (f__stays ns asks)) fun t3 => BK.ok (k_iL (α := (P2 Int Int)) (xs := t3)) (RK.bind (k_mapM (δ := [.im (.d (enc (asks : (Tp Int)))), .im (.d (enc (costs : (Tp Int)))), .im (.d (enc (places : Int))), .im (.d (enc (prices : (Tp Int)))), .no, .no, .no, .no]) (α := (P2 Int Int)) (β := Int) (f := fun x4 : (P2 Int Int) => M.bind (ixM costs.l x4.a) fun t5 => M.ret (maxI (0 : Int) (t5 - (Tp.mk (cut prices.l (some (x4.a + (1 : Int))) (some x4.b))).l.sum))) fun x4 : (P2 Int Int) => ⟨[.im (.d (enc (asks : (Tp Int)))), .im (.d (enc (costs : (Tp Int)))), .im (.d (enc (places : Int))), .im (.d (enc (prices : (Tp Int)))), .no, .no, .im (.d (enc (x4.a : Int))), .im (.d (enc (x4.b : Int)))], rfl, (RK.close (b_cb (b_cons (BK.ok (pv_c) (b_cons (b_op (b_op (BK.ok (pv_var rfl) (BK.ok (pv_var rfl) (RK.bind (k_ixT (α := Int)) fun t5 => BK.ok (pv_cb (pv_cons (pv_slT (α := Int) (pv_var rfl) (pv_soO (pv_op (pv_var rfl) (pv_c) k_add)) (pv_soO (pv_var rfl))) (pv_nil)) k_sumAT) (BK.ok k_sub (b_nil (BK.ok k_max2 (RK.ret))))))))))))))⟩) fun t6 => b_at [.im (.d (enc (asks : (Tp Int)))), .im (.d (enc (costs : (Tp Int)))), .im (.d (enc (places : Int))), .im (.d (enc (prices : (Tp Int)))), .no, .im (.d (enc (t6 : (List Int)))), .no, .no] rfl (b_ret (b_op (BK.ok (pv_op (pv_cb (pv_cons (pv_var rfl) (pv_nil)) k_sumAT) (pv_cb (pv_cons (pv_var rfl) (pv_nil)) k_sumA) k_sub) (b_op (BK.ok (pv_op (pv_var rfl) (pv_c) k_sub) (BK.ok (pv_cb (pv_cons (pv_var rfl) (pv_nil)) k_sumAT) (RK.bind k_mul fun t7 => BK.ok k_sub (RK.ret))))))))))))))))))))))))))))))))))))))
def D__law_told (ns : List Int) : DenS := dSeq (dTryE (dSeq (dRet (dTup (dCons (dC (.d (.str "told"))) (dCons (dTab 4 [V_plan_work ns, V_bound_of ns] (dVar 0) (dCons (dVar 1) (dCons (dVar 2) (dCons (dVar 3) (dCons (dVar 4) (dNil)))))) (dNil))))) (dNext))) (dNext)
def V__law_told (ns : List Int) : List Vl → Int → R Vl := dDef 1 (D__law_told ns)
noncomputable def F__law_told (way : Int) (asks : (Tp Int)) (costs : (Tp Int)) (places : Int) (thing : (Tp Int)) : M PyData := M.tryE (M.bind (tabM way [M.bind (F_plan_work asks costs places thing) fun t1 => M.ret t1, M.bind (F_bound_of asks costs places thing) fun t2 => M.ret t2]) fun t3 => M.ret (enc (P2.mk ("told" : Str) t3 : (P2 Str Int))))
theorem f__law_told (ns : List Int) (way : Int) (asks : (Tp Int)) (costs : (Tp Int)) (places : Int) (thing : (Tp Int)) : RK (F__law_told way asks costs places thing) (fun r => Vl.d (enc r)) (V__law_told ns [.d (enc way), .d (enc asks), .d (enc costs), .d (enc places), .d (enc thing)]) :=
  (show BK (D__law_told ns [.im (.d (enc (way : Int))), .im (.d (enc (asks : (Tp Int)))), .im (.d (enc (costs : (Tp Int)))), .im (.d (enc (places : Int))), .im (.d (enc (thing : (Tp Int)))), .no]) finO _ _ from b_tryE (b_ret (b_tup (b_cons (BK.ok (pv_c) (b_cons (b_tab (BK.ok (pv_var rfl) (RK.bind (r_tab (.cons (RK.close (b_call (b_cons (BK.ok (pv_var rfl) (b_cons (BK.ok (pv_var rfl) (b_cons (BK.ok (pv_var rfl) (b_cons (BK.ok (pv_var rfl) (b_nil (RK.bind (r_call rfl (f_plan_work ns asks costs places thing)) fun t1 => RK.ret)))))))))))) (.cons (RK.close (b_call (b_cons (BK.ok (pv_var rfl) (b_cons (BK.ok (pv_var rfl) (b_cons (BK.ok (pv_var rfl) (b_cons (BK.ok (pv_var rfl) (b_nil (RK.bind (r_call rfl (f_bound_of ns asks costs places thing)) fun t2 => RK.ret)))))))))))) (.nil)))) fun t3 => b_nil (BK.ok (k_tup rfl lenok) (RK.ret)))))))))))
def D__law_same (ns : List Int) : DenS := dSeq (dRet (dOp (gEqS) (dCB gRepr (dCons (dL (dLst (dCons (dVar 0) (dNil)))) (dNil))) (dCB gRepr (dCons (dL (dLst (dCons (dVar 1) (dNil)))) (dNil))))) (dNext)
def V__law_same (ns : List Int) : List Vl → Int → R Vl := dDef 0 (D__law_same ns)
noncomputable def F__law_same (told : PyData) (due : PyData) : M Bool := M.bind (reprM (enc ([told] : (List PyData)))) fun t1 => M.bind (reprM (enc ([due] : (List PyData)))) fun t2 => M.ret (decide (t1 = t2))
theorem f__law_same (ns : List Int) (told : PyData) (due : PyData) : RK (F__law_same told due) (fun r => Vl.d (enc r)) (V__law_same ns [.d (enc told), .d (enc due)]) :=
  (show BK (D__law_same ns [.im (.d (enc (told : PyData))), .im (.d (enc (due : PyData)))]) finO _ _ from b_ret (b_op (b_cb (b_cons (BK.ok (pv_L (pv_lst (pv_cons (pv_var rfl) (pv_nil)) rfl lenok)) (b_nil (RK.bind k_repr fun t1 => b_cb (b_cons (BK.ok (pv_L (pv_lst (pv_cons (pv_var rfl) (pv_nil)) rfl lenok)) (b_nil (RK.bind k_repr fun t2 => BK.ok k_eqS (RK.ret))))))))))))
def D__law_plan_work (ns : List Int) : DenS := dSeq (dRet (dCB gSumA (dCons (dL (dLc [2] (dI1 (dCons (dCB gLen (dCons (dVar 0) (dNil))) (dNil))) (dName 2) (dTe (dOp (gEq false) (dOp gIx (dVar 1) (dVar 2)) (dC (.d (.int 0))))) (dOp gIx (dVar 0) (dVar 2)))) (dNil)))) (dNext)
def V__law_plan_work (ns : List Int) : List Vl → Int → R Vl := dDef 1 (D__law_plan_work ns)
noncomputable def F__law_plan_work (costs : (Tp Int)) (plan : (Tp Int)) : M Int := M.bind (rng1M (costs.l.length : Int)) fun t1 => M.bind (lcM t1 (fun k : Int => M.bind (ixM plan.l k) fun t2 => M.ret (t2 == (0 : Int))) (fun k : Int => M.bind (ixM costs.l k) fun t3 => M.ret t3)) fun t4 => M.ret t4.sum
theorem f__law_plan_work (ns : List Int) (costs : (Tp Int)) (plan : (Tp Int)) : RK (F__law_plan_work costs plan) (fun r => Vl.d (enc r)) (V__law_plan_work ns [.d (enc costs), .d (enc plan)]) :=
  (show BK (D__law_plan_work ns [.im (.d (enc (costs : (Tp Int)))), .im (.d (enc (plan : (Tp Int)))), .no]) finO _ _ from b_ret (b_cb (b_cons (b_L (b_lc (b_r1 (b_cons (BK.ok (pv_cb (pv_cons (pv_var rfl) pv_nil) (k_lenT (α := Int))) (b_nil (RK.bind k_r1 fun t1 => RK.bind (k_lcM (δ := [.im (.d (enc (costs : (Tp Int)))), .im (.d (enc (plan : (Tp Int)))), .no]) (α := Int) (β := Int) (t := fun k : Int => M.bind (ixM plan.l k) fun t2 => M.ret (t2 == (0 : Int))) (f := fun k : Int => M.bind (ixM costs.l k) fun t3 => M.ret t3) fun k : Int => ⟨[.im (.d (enc (costs : (Tp Int)))), .im (.d (enc (plan : (Tp Int)))), .im (.d (enc (k : Int)))], rfl, (RK.close (b_te (b_op (b_op (BK.ok (pv_var rfl) (BK.ok (pv_var rfl) (RK.bind (k_ixT (α := Int)) fun t2 => BK.ok (pv_c) (BK.ok k_eqI (BK.ok (fun _ => rfl) (RK.ret)))))))))), (RK.close (b_op (BK.ok (pv_var rfl) (BK.ok (pv_var rfl) (RK.bind (k_ixT (α := Int)) fun t3 => RK.ret)))))⟩) fun t4 => b_nil (BK.ok k_sumA (RK.ret))))))))))))
def D_law (ns : List Int) : DenS := dSeq (dFgt [0] (dFor (dI1 (dCons (dC (.d (.int 4))) (dNil))) (dName 2) (dSeq (dUnp (dCall0 2 (V__law_asks ns) (dCons (dVar 1) (dCons (dC (.d (.int 30))) (dNil)))) (dGT 2 (dGC (dName 3) (dGC (dName 4) (dGN))))) (dSeq (dSet 5 (dOp aAdd (dC (.d (.int 1))) (dCall0 2 (V__law_next ns) (dCons (dVar 1) (dCons (dC (.d (.int 5))) (dNil)))))) (dSeq (dSet 6 (dCB gReprA (dCons (dTup (dCons (dVar 3) (dCons (dVar 4) (dNil)))) (dNil)))) (dSeq (dNew 7 (dLst (dNil))) (dSeq (dFgt [2] (dFor (dIL (dCall0 3 (V__law_plans ns) (dCons (dVar 1) (dCons (dVar 3) (dCons (dVar 5) (dNil)))))) (dName 8) (dSeq (dSet 9 (dCall0 3 (V__law_plan_right ns) (dCons (dVar 3) (dCons (dVar 5) (dCons (dVar 8) (dNil)))))) (dSeq (dIfS (dNot (dTe (dCall0 2 (V__law_same ns) (dCons (dCall0 5 (V__law_told ns) (dCons (dC (.d (.int 0))) (dCons (dVar 3) (dCons (dVar 4) (dCons (dVar 5) (dCons (dVar 8) (dNil))))))) (dCons (dOp gIx (dL (dLst (dCons (dC (.d (.str "refused"))) (dCons (dTup (dCons (dC (.d (.str "told"))) (dCons (dCall0 2 (V__law_plan_work ns) (dCons (dVar 4) (dCons (dSlT (dVar 8) (dNoO) (dSoO (dCB gLen (dCons (dVar 4) (dNil))))) (dNil)))) (dNil)))) (dNil))))) (dCB gInt1 (dCons (dVar 9) (dNil)))) (dNil)))))) (dSeq (dRet (dC (.d (.bool false)))) (dNext)) (dNext)) (dSeq (dIfS (dTe (dVar 9)) (dSeq (dApp 7 (dCall0 2 (V__law_plan_work ns) (dCons (dVar 4) (dCons (dVar 8) (dNil))))) (dNext)) (dNext)) (dSeq (dWipe [8, 9]) (dNext))))))) (dSeq (dSet 10 (dCB gLen (dCons (dVar 3) (dNil)))) (dSeq (dSet 11 (dL (dCatL (dLst (dCons (dOp (gRepA) (dTup (dCons (dC (.d (.int 0))) (dNil))) (dVar 10)) (dCons (dOp (gRepA) (dTup (dCons (dC (.d (.int 10000))) (dNil))) (dVar 10)) (dNil)))) (dLc [15] (dI1 (dCons (dC (.d (.int 4))) (dNil))) (dName 15) (dYes) (dCB gTuple (dCons (dL (dLc [16] (dI1 (dCons (dVar 10) (dNil))) (dName 16) (dYes) (dCall0 2 (V__law_next ns) (dCons (dVar 1) (dCons (dOp gIx (dL (dLst (dCons (dC (.d (.int 3))) (dCons (dC (.d (.int 12))) (dNil))))) (dCall0 2 (V__law_next ns) (dCons (dVar 1) (dCons (dC (.d (.int 2))) (dNil))))) (dNil)))))) (dNil))))))) (dSeq (dFrz 7 (dFor (dIL (dVar 11)) (dName 12) (dSeq (dSet 13 (dCall0 4 (V__law_bound ns) (dCons (dVar 3) (dCons (dVar 4) (dCons (dVar 5) (dCons (dVar 12) (dNil))))))) (dSeq (dIfS (dOr (dNot (dTe (dCall0 2 (V__law_same ns) (dCons (dCall0 5 (V__law_told ns) (dCons (dC (.d (.int 1))) (dCons (dVar 3) (dCons (dVar 4) (dCons (dVar 5) (dCons (dVar 12) (dNil))))))) (dCons (dTup (dCons (dC (.d (.str "told"))) (dCons (dVar 13) (dNil)))) (dNil)))))) (dTe (dOp (aGt) (dVar 13) (dCB gMinL (dCons (dVar 7) (dNil)))))) (dSeq (dRet (dC (.d (.bool false)))) (dNext)) (dNext)) (dSeq (dWipe [13, 12]) (dNext)))))) (dSeq (dSet 14 (dL (dLst (dCons (dCall0 5 (V__law_told ns) (dCons (dC (.d (.int 1))) (dCons (dVar 3) (dCons (dVar 4) (dCons (dVar 5) (dCons (dOp (gRepA) (dTup (dCons (dC (.d (.int 0))) (dNil))) (dOp aAdd (dVar 10) (dC (.d (.int 1))))) (dNil))))))) (dCons (dCall0 5 (V__law_told ns) (dCons (dC (.d (.int 1))) (dCons (dVar 3) (dCons (dVar 4) (dCons (dVar 5) (dCons (dOp (gRepA) (dTup (dCons (dUn gNeg (dC (.d (.int 1)))) (dNil))) (dCB gMax2 (dCons (dC (.d (.int 1))) (dCons (dVar 10) (dNil))))) (dNil))))))) (dNil)))))) (dSeq (dSet 14 (dL (dCatV (dVar 14) (dL (dLst (dCons (dCall0 5 (V__law_told ns) (dCons (dC (.d (.int 0))) (dCons (dVar 3) (dCons (dVar 4) (dCons (dC (.d (.int 9))) (dCons (dOp (gRepA) (dTup (dCons (dC (.d (.int 0))) (dNil))) (dVar 10)) (dNil))))))) (dCons (dCall0 5 (V__law_told ns) (dCons (dC (.d (.int 1))) (dCons (dVar 3) (dCons (dOp aCatT (dVar 4) (dTup (dCons (dC (.d (.int 1))) (dNil)))) (dCons (dVar 5) (dCons (dOp (gRepA) (dTup (dCons (dC (.d (.int 0))) (dNil))) (dVar 10)) (dNil))))))) (dNil)))))))) (dSeq (dIfS (dOr (dTe (dOp (gEq true) (dVar 14) (dL (dRepL (dLst (dCons (dC (.d (.str "refused"))) (dNil))) (dC (.d (.int 4))))))) (dTe (dOp (gNeS) (dCB gReprA (dCons (dTup (dCons (dVar 3) (dCons (dVar 4) (dNil)))) (dNil))) (dVar 6)))) (dSeq (dRet (dC (.d (.bool false)))) (dNext)) (dNext)) (dSeq (dWipe [3, 4, 6, 10, 14, 5, 11, 7]) (dNext))))))))))))))) (dSeq (dRet (dC (.d (.bool true)))) (dNext))
def LawOk : Prop := ∀ nums : List Int, nums.length ≤ 63 → ∃ ns c1 c2, (dCall0 1 (V__law_stream []) (dCons (dVar 0) (dNil)) : Den) (args [.d (.list (nums.map .int))] 16) 0 = .ok (.d (.list (ns.map .int))) c1 ∧ D_law ns (args [.d (.list (nums.map .int)), .st] 15) 0 = .ok (.rt (.d (.bool true))) c2
noncomputable def F_law (ns : List Int) (script : List Int) : M Bool := thenF (ρ := Bool) (forF (rngL 0 4) () fun (s1 : Unit) (turn : Int) => M.bind (M.calm (F__law_asks ns (30 : Int))) fun t2 => M.bind (M.calm (F__law_next ns (5 : Int))) fun t3 => M.bind ((M.asE (M.lift (gReprA [.d (enc (P2.mk t2.a t2.b : (P2 (Tp Int) (Tp Int))))])) : M Str)) fun t4 => Let (([] : (List Int)) : (List Int)) fun works => M.bind (M.calm (F__law_plans ns t2.a ((1 : Int) + t3))) fun t5 => thenF (ρ := Bool) (forF t5 works fun (s6 : (List Int)) (plan : (Tp Int)) => M.bind (M.calm (F__law_plan_right t2.a ((1 : Int) + t3) plan)) fun t7 => M.bind (M.calm (F__law_told (0 : Int) t2.a t2.b ((1 : Int) + t3) plan)) fun t8 => M.bind (M.calm (F__law_plan_work t2.b (Tp.mk (cut plan.l none (some (t2.b.l.length : Int)))))) fun t9 => M.bind (ixM ([(enc ("refused" : Str)), (enc (P2.mk ("told" : Str) t9 : (P2 Str Int)))] : (List PyData)) (bti t7)) fun t10 => M.bind (M.calm (F__law_same t8 t10)) fun t11 => if (!t11) = true then M.ret (.rt false) else M.bind (if t7 = true then M.bind (M.calm (F__law_plan_work t2.b plan)) fun t13 => M.bind (appM s6 t13) fun works => M.ret works else M.ret s6) fun s12 : (List Int) => M.ret (.nx s12)) (fun r => M.ret (.rt r)) fun s6 : (List Int) => Let ((t2.a.l.length : Int) : Int) fun many => M.bind (repAM (Tp.mk [(0 : Int)] : (Tp Int)) many) fun t14 => M.bind (repAM (Tp.mk [(10000 : Int)] : (Tp Int)) many) fun t15 => M.bind (mapM1 (rngL 0 4) (fun j : Int => M.bind (rng1M many) fun t16 => M.bind (mapM1 t16 (fun k : Int => M.bind (M.calm (F__law_next ns (2 : Int))) fun t17 => M.bind (ixM ([(3 : Int), (12 : Int)] : (List Int)) t17) fun t18 => M.bind (M.calm (F__law_next ns t18)) fun t19 => M.ret t19)) fun t20 => M.ret (Tp.mk t20))) fun t21 => M.bind (catM ([t14, t15] : (List (Tp Int))) t21) fun t22 => thenF (ρ := Bool) (forF t22 () fun (s23 : Unit) (prices : (Tp Int)) => M.bind (M.calm (F__law_bound t2.a t2.b ((1 : Int) + t3) prices)) fun t24 => M.bind (M.calm (F__law_told (1 : Int) t2.a t2.b ((1 : Int) + t3) prices)) fun t25 => M.bind (M.calm (F__law_same t25 (enc (P2.mk ("told" : Str) t24 : (P2 Str Int))))) fun t26 => M.bind (if (!t26) = true then M.ret true else M.bind (minM s6) fun t27 => M.ret (decide (t27 < t24))) fun b28 => if b28 = true then M.ret (.rt false) else M.ret (.nx ())) (fun r => M.ret (.rt r)) fun s23 : Unit => M.bind (repAM (Tp.mk [(0 : Int)] : (Tp Int)) (many + (1 : Int))) fun t29 => M.bind (M.calm (F__law_told (1 : Int) t2.a t2.b ((1 : Int) + t3) t29)) fun t30 => M.bind (repAM (Tp.mk [(-(1 : Int))] : (Tp Int)) (maxI (1 : Int) many)) fun t31 => M.bind (M.calm (F__law_told (1 : Int) t2.a t2.b ((1 : Int) + t3) t31)) fun t32 => M.bind (repAM (Tp.mk [(0 : Int)] : (Tp Int)) many) fun t33 => M.bind (M.calm (F__law_told (0 : Int) t2.a t2.b (9 : Int) t33)) fun t34 => M.bind (catTM t2.b (Tp.mk [(1 : Int)] : (Tp Int))) fun t35 => M.bind (repAM (Tp.mk [(0 : Int)] : (Tp Int)) many) fun t36 => M.bind (M.calm (F__law_told (1 : Int) t2.a t35 ((1 : Int) + t3) t36)) fun t37 => M.bind (catM ([t30, t32] : (List PyData)) ([t34, t37] : (List PyData))) fun t38 => M.bind (repN ([(enc ("refused" : Str))] : (List PyData)) (4 : Int)) fun t39 => M.bind (M.bind (eqM (enc t38) (enc t39)) fun b => M.ret (!b)) fun b40 => M.bind (if b40 = true then M.ret true else M.bind ((M.asE (M.lift (gReprA [.d (enc (P2.mk t2.a t2.b : (P2 (Tp Int) (Tp Int))))])) : M Str)) fun t41 => M.ret (!decide (t41 = t4))) fun b42 => if b42 = true then M.ret (.rt false) else M.ret (.nx ())) (fun r => M.ret r) fun s1 : Unit => M.ret true
theorem f_law (ns : List Int) (script : List Int) : BK (D_law ns [.im (.d (enc (script : (List Int)))), .im .st, .no, .no, .no, .no, .no, .no, .no, .no, .no, .no, .no, .no, .no, .no, .no]) finO (F_law ns script) (fun r => Vl.d (enc r)) :=
  (b_fgt (b_at [.no, .im .st, .no, .no, .no, .no, .no, .no, .no, .no, .no, .no, .no, .no, .no, .no, .no] rfl (b_for (BK.ok (pv_r1 (pv_cons (pv_c) pv_nil) (by decide +kernel)) (r_forF (α := Int) (σ := Unit) (ρ := Bool) (fun s1 => [.no, .im .st, .no, .no, .no, .no, .no, .no, .no, .no, .no, .no, .no, .no, .no, .no, .no]) rfl (fun s1 turn => g_some rfl (b_at [.no, .im .st, .im (.d (enc (turn : Int))), .no, .no, .no, .no, .no, .no, .no, .no, .no, .no, .no, .no, .no, .no] rfl (b_unp (b_call0 (b_cons (BK.ok (pv_var rfl) (b_cons (BK.ok (pv_c) (b_nil (RK.bind (r_call0 rfl (f__law_asks ns (30 : Int))) fun t2 => g_some rfl (b_at [.no, .im .st, .im (.d (enc (turn : Int))), .im (.d (enc (t2.a : (Tp Int)))), .im (.d (enc (t2.b : (Tp Int)))), .no, .no, .no, .no, .no, .no, .no, .no, .no, .no, .no, .no] rfl (b_set (b_op (BK.ok (pv_c) (b_call0 (b_cons (BK.ok (pv_var rfl) (b_cons (BK.ok (pv_c) (b_nil (RK.bind (r_call0 rfl (f__law_next ns (5 : Int))) fun t3 => BK.ok k_add (b_at [.no, .im .st, .im (.d (enc (turn : Int))), .im (.d (enc (t2.a : (Tp Int)))), .im (.d (enc (t2.b : (Tp Int)))), .im (.d (enc (((1 : Int) + t3) : Int))), .no, .no, .no, .no, .no, .no, .no, .no, .no, .no, .no] rfl (b_set (b_cb (b_cons (BK.ok (pv_tup (pv_cons (pv_var rfl) (pv_cons (pv_var rfl) (pv_nil))) rfl lenok) (b_nil (RK.bind (r_asE (β := Str) k_lift) fun t4 => b_at [.no, .im .st, .im (.d (enc (turn : Int))), .im (.d (enc (t2.a : (Tp Int)))), .im (.d (enc (t2.b : (Tp Int)))), .im (.d (enc (((1 : Int) + t3) : Int))), .im (.d (enc (t4 : Str))), .no, .no, .no, .no, .no, .no, .no, .no, .no, .no] rfl (b_letL (α := Int) (pv_lst (pv_nil) rfl lenok) (fun works => b_at [.no, .im .st, .im (.d (enc (turn : Int))), .im (.d (enc (t2.a : (Tp Int)))), .im (.d (enc (t2.b : (Tp Int)))), .im (.d (enc (((1 : Int) + t3) : Int))), .im (.d (enc (t4 : Str))), .ow ((works : (List Int)).map enc), .no, .no, .no, .no, .no, .no, .no, .no, .no] rfl (b_fgt (b_at [.no, .im .st, .no, .im (.d (enc (t2.a : (Tp Int)))), .im (.d (enc (t2.b : (Tp Int)))), .im (.d (enc (((1 : Int) + t3) : Int))), .im (.d (enc (t4 : Str))), .ow ((works : (List Int)).map enc), .no, .no, .no, .no, .no, .no, .no, .no, .no] rfl (b_for (b_iL (b_call0 (b_cons (BK.ok (pv_var rfl) (b_cons (BK.ok (pv_var rfl) (b_cons (BK.ok (pv_var rfl) (b_nil (RK.bind (r_call0 rfl (f__law_plans ns t2.a ((1 : Int) + t3))) fun t5 => BK.ok (k_iL (α := (Tp Int)) (xs := t5)) (r_forF (α := (Tp Int)) (σ := (List Int)) (ρ := Bool) (fun s6 => [.no, .im .st, .no, .im (.d (enc (t2.a : (Tp Int)))), .im (.d (enc (t2.b : (Tp Int)))), .im (.d (enc (((1 : Int) + t3) : Int))), .im (.d (enc (t4 : Str))), .ow ((s6 : (List Int)).map enc), .no, .no, .no, .no, .no, .no, .no, .no, .no]) rfl (fun s6 plan => g_some rfl (b_at [.no, .im .st, .no, .im (.d (enc (t2.a : (Tp Int)))), .im (.d (enc (t2.b : (Tp Int)))), .im (.d (enc (((1 : Int) + t3) : Int))), .im (.d (enc (t4 : Str))), .ow ((s6 : (List Int)).map enc), .im (.d (enc (plan : (Tp Int)))), .no, .no, .no, .no, .no, .no, .no, .no] rfl (b_set (b_call0 (b_cons (BK.ok (pv_var rfl) (b_cons (BK.ok (pv_var rfl) (b_cons (BK.ok (pv_var rfl) (b_nil (RK.bind (r_call0 rfl (f__law_plan_right ns t2.a ((1 : Int) + t3) plan)) fun t7 => b_at [.no, .im .st, .no, .im (.d (enc (t2.a : (Tp Int)))), .im (.d (enc (t2.b : (Tp Int)))), .im (.d (enc (((1 : Int) + t3) : Int))), .im (.d (enc (t4 : Str))), .ow ((s6 : (List Int)).map enc), .im (.d (enc (plan : (Tp Int)))), .im (.d (enc (t7 : Bool))), .no, .no, .no, .no, .no, .no, .no] rfl (b_ifS (b_not (b_te (b_call0 (b_cons (b_call0 (b_cons (BK.ok (pv_c) (b_cons (BK.ok (pv_var rfl) (b_cons (BK.ok (pv_var rfl) (b_cons (BK.ok (pv_var rfl) (b_cons (BK.ok (pv_var rfl) (b_nil (RK.bind (r_call0 rfl (f__law_told ns (0 : Int) t2.a t2.b ((1 : Int) + t3) plan)) fun t8 => b_cons (b_op (b_L (b_lst (b_cons (BK.ok (pv_c) (b_cons (b_tup (b_cons (BK.ok (pv_c) (b_cons (b_call0 (b_cons (BK.ok (pv_var rfl) (b_cons (BK.ok (pv_slT (α := Int) (pv_var rfl) (pv_noO) (pv_soO (pv_cb (pv_cons (pv_var rfl) pv_nil) (k_lenT (α := Int))))) (b_nil (RK.bind (r_call0 rfl (f__law_plan_work ns t2.b (Tp.mk (cut plan.l none (some (t2.b.l.length : Int)))))) fun t9 => b_nil (BK.ok (k_tup rfl lenok) (b_nil (BK.ok (k_lst rfl lenok) (BK.ok (pv_cb (pv_cons (pv_var rfl) (pv_nil)) k_intB) (RK.bind (k_ixL (α := PyData)) fun t10 => b_nil (RK.bind (r_call0 rfl (f__law_same ns t8 t10)) fun t11 => BK.ok (fun _ => rfl) (BK.ite (b_assoc (b_ret (BK.ok (pv_c) (RK.ret)))) (b_next (b_at [.no, .im .st, .no, .im (.d (enc (t2.a : (Tp Int)))), .im (.d (enc (t2.b : (Tp Int)))), .im (.d (enc (((1 : Int) + t3) : Int))), .im (.d (enc (t4 : Str))), .ow ((s6 : (List Int)).map enc), .im (.d (enc (plan : (Tp Int)))), .im (.d (enc (t7 : Bool))), .no, .no, .no, .no, .no, .no, .no] rfl (b_ifj (σ := (List Int)) (fun s12 => [.no, .im .st, .no, .im (.d (enc (t2.a : (Tp Int)))), .im (.d (enc (t2.b : (Tp Int)))), .im (.d (enc (((1 : Int) + t3) : Int))), .im (.d (enc (t4 : Str))), .ow ((s12 : (List Int)).map enc), .im (.d (enc (plan : (Tp Int)))), .im (.d (enc (t7 : Bool))), .no, .no, .no, .no, .no, .no, .no]) (pv_te (pv_var rfl)) (b_app (α := Int) rfl (b_call0 (b_cons (BK.ok (pv_var rfl) (b_cons (BK.ok (pv_var rfl) (b_nil (RK.bind (r_call0 rfl (f__law_plan_work ns t2.b plan)) fun t13 => r_app (α := Int) fun works => b_at [.no, .im .st, .no, .im (.d (enc (t2.a : (Tp Int)))), .im (.d (enc (t2.b : (Tp Int)))), .im (.d (enc (((1 : Int) + t3) : Int))), .im (.d (enc (t4 : Str))), .ow ((works : (List Int)).map enc), .im (.d (enc (plan : (Tp Int)))), .im (.d (enc (t7 : Bool))), .no, .no, .no, .no, .no, .no, .no] rfl (b_at [.no, .im .st, .no, .im (.d (enc (t2.a : (Tp Int)))), .im (.d (enc (t2.b : (Tp Int)))), .im (.d (enc (((1 : Int) + t3) : Int))), .im (.d (enc (t4 : Str))), .ow ((works : (List Int)).map enc), .im (.d (enc (plan : (Tp Int)))), .im (.d (enc (t7 : Bool))), .no, .no, .no, .no, .no, .no, .no] rfl (b_end (RK.ret))))))))))) (b_at [.no, .im .st, .no, .im (.d (enc (t2.a : (Tp Int)))), .im (.d (enc (t2.b : (Tp Int)))), .im (.d (enc (((1 : Int) + t3) : Int))), .im (.d (enc (t4 : Str))), .ow ((s6 : (List Int)).map enc), .im (.d (enc (plan : (Tp Int)))), .im (.d (enc (t7 : Bool))), .no, .no, .no, .no, .no, .no, .no] rfl (b_end (RK.ret))) fun s12 => b_wipe (b_at [.no, .im .st, .no, .im (.d (enc (t2.a : (Tp Int)))), .im (.d (enc (t2.b : (Tp Int)))), .im (.d (enc (((1 : Int) + t3) : Int))), .im (.d (enc (t4 : Str))), .ow ((s12 : (List Int)).map enc), .no, .no, .no, .no, .no, .no, .no, .no, .no] rfl (b_end (RK.ret)))))))))))))))))))))))))))))))))))))))))))))))))))))))))))) (fun r => RK.ret) fun s6 => b_let (α := Int) (pv_cb (pv_cons (pv_var rfl) pv_nil) (k_lenT (α := Int))) (fun many => b_at [.no, .im .st, .no, .im (.d (enc (t2.a : (Tp Int)))), .im (.d (enc (t2.b : (Tp Int)))), .im (.d (enc (((1 : Int) + t3) : Int))), .im (.d (enc (t4 : Str))), .ow ((s6 : (List Int)).map enc), .no, .no, .im (.d (enc (many : Int))), .no, .no, .no, .no, .no, .no] rfl (b_set (b_L (b_catL (b_lst (b_cons (b_op (BK.ok (pv_tup (pv_cons (pv_c) (pv_nil)) rfl lenok) (BK.ok (pv_var rfl) (RK.bind (k_repA (α := Int)) fun t14 => b_cons (b_op (BK.ok (pv_tup (pv_cons (pv_c) (pv_nil)) rfl lenok) (BK.ok (pv_var rfl) (RK.bind (k_repA (α := Int)) fun t15 => b_nil (BK.ok (k_lst rfl lenok) (b_lc (BK.ok (pv_r1 (pv_cons (pv_c) pv_nil) (by decide +kernel)) (RK.bind (k_mapM (δ := [.no, .im .st, .no, .im (.d (enc (t2.a : (Tp Int)))), .im (.d (enc (t2.b : (Tp Int)))), .im (.d (enc (((1 : Int) + t3) : Int))), .im (.d (enc (t4 : Str))), .ow ((s6 : (List Int)).map enc), .no, .no, .im (.d (enc (many : Int))), .no, .no, .no, .no, .no, .no]) (α := Int) (β := (Tp Int)) (f := fun j : Int => M.bind (rng1M many) fun t16 => M.bind (mapM1 t16 (fun k : Int => M.bind (M.calm (F__law_next ns (2 : Int))) fun t17 => M.bind (ixM ([(3 : Int), (12 : Int)] : (List Int)) t17) fun t18 => M.bind (M.calm (F__law_next ns t18)) fun t19 => M.ret t19)) fun t20 => M.ret (Tp.mk t20)) fun j : Int => ⟨[.no, .im .st, .no, .im (.d (enc (t2.a : (Tp Int)))), .im (.d (enc (t2.b : (Tp Int)))), .im (.d (enc (((1 : Int) + t3) : Int))), .im (.d (enc (t4 : Str))), .ow ((s6 : (List Int)).map enc), .no, .no, .im (.d (enc (many : Int))), .no, .no, .no, .no, .im (.d (enc (j : Int))), .no], rfl, (RK.close (b_cb (b_cons (b_L (b_lc (b_r1 (b_cons (BK.ok (pv_var rfl) (b_nil (RK.bind k_r1 fun t16 => RK.bind (k_mapM (δ := [.no, .im .st, .no, .im (.d (enc (t2.a : (Tp Int)))), .im (.d (enc (t2.b : (Tp Int)))), .im (.d (enc (((1 : Int) + t3) : Int))), .im (.d (enc (t4 : Str))), .ow ((s6 : (List Int)).map enc), .no, .no, .im (.d (enc (many : Int))), .no, .no, .no, .no, .im (.d (enc (j : Int))), .no]) (α := Int) (β := Int) (f := fun k : Int => M.bind (M.calm (F__law_next ns (2 : Int))) fun t17 => M.bind (ixM ([(3 : Int), (12 : Int)] : (List Int)) t17) fun t18 => M.bind (M.calm (F__law_next ns t18)) fun t19 => M.ret t19) fun k : Int => ⟨[.no, .im .st, .no, .im (.d (enc (t2.a : (Tp Int)))), .im (.d (enc (t2.b : (Tp Int)))), .im (.d (enc (((1 : Int) + t3) : Int))), .im (.d (enc (t4 : Str))), .ow ((s6 : (List Int)).map enc), .no, .no, .im (.d (enc (many : Int))), .no, .no, .no, .no, .im (.d (enc (j : Int))), .im (.d (enc (k : Int)))], rfl, (RK.close (b_call0 (b_cons (BK.ok (pv_var rfl) (b_cons (b_op (BK.ok (pv_L (pv_lst (pv_cons (pv_c) (pv_cons (pv_c) (pv_nil))) rfl lenok)) (b_call0 (b_cons (BK.ok (pv_var rfl) (b_cons (BK.ok (pv_c) (b_nil (RK.bind (r_call0 rfl (f__law_next ns (2 : Int))) fun t17 => RK.bind (k_ixL (α := Int)) fun t18 => b_nil (RK.bind (r_call0 rfl (f__law_next ns t18)) fun t19 => RK.ret)))))))))))))))⟩) fun t20 => b_nil (BK.ok (k_tuple (α := Int)) (RK.ret))))))))))))⟩) fun t21 => RK.bind (k_catL (α := (Tp Int))) fun t22 => b_at [.no, .im .st, .no, .im (.d (enc (t2.a : (Tp Int)))), .im (.d (enc (t2.b : (Tp Int)))), .im (.d (enc (((1 : Int) + t3) : Int))), .im (.d (enc (t4 : Str))), .ow ((s6 : (List Int)).map enc), .no, .no, .im (.d (enc (many : Int))), .im (.d (enc (t22 : (List (Tp Int))))), .no, .no, .no, .no, .no] rfl (b_frz (b_at [.no, .im .st, .no, .im (.d (enc (t2.a : (Tp Int)))), .im (.d (enc (t2.b : (Tp Int)))), .im (.d (enc (((1 : Int) + t3) : Int))), .im (.d (enc (t4 : Str))), .im (.d (enc (s6 : (List Int)))), .no, .no, .im (.d (enc (many : Int))), .im (.d (enc (t22 : (List (Tp Int))))), .no, .no, .no, .no, .no] rfl (b_at [.no, .im .st, .no, .im (.d (enc (t2.a : (Tp Int)))), .im (.d (enc (t2.b : (Tp Int)))), .im (.d (enc (((1 : Int) + t3) : Int))), .im (.d (enc (t4 : Str))), .im (.d (enc (s6 : (List Int)))), .no, .no, .im (.d (enc (many : Int))), .im (.d (enc (t22 : (List (Tp Int))))), .no, .no, .no, .no, .no] rfl (b_for (b_iL (BK.ok (pv_var rfl) (BK.ok (k_iL (α := (Tp Int)) (xs := t22)) (r_forF (α := (Tp Int)) (σ := Unit) (ρ := Bool) (fun s23 => [.no, .im .st, .no, .im (.d (enc (t2.a : (Tp Int)))), .im (.d (enc (t2.b : (Tp Int)))), .im (.d (enc (((1 : Int) + t3) : Int))), .im (.d (enc (t4 : Str))), .im (.d (enc (s6 : (List Int)))), .no, .no, .im (.d (enc (many : Int))), .im (.d (enc (t22 : (List (Tp Int))))), .no, .no, .no, .no, .no]) rfl (fun s23 prices => g_some rfl (b_at [.no, .im .st, .no, .im (.d (enc (t2.a : (Tp Int)))), .im (.d (enc (t2.b : (Tp Int)))), .im (.d (enc (((1 : Int) + t3) : Int))), .im (.d (enc (t4 : Str))), .im (.d (enc (s6 : (List Int)))), .no, .no, .im (.d (enc (many : Int))), .im (.d (enc (t22 : (List (Tp Int))))), .im (.d (enc (prices : (Tp Int)))), .no, .no, .no, .no] rfl (b_set (b_call0 (b_cons (BK.ok (pv_var rfl) (b_cons (BK.ok (pv_var rfl) (b_cons (BK.ok (pv_var rfl) (b_cons (BK.ok (pv_var rfl) (b_nil (RK.bind (r_call0 rfl (f__law_bound ns t2.a t2.b ((1 : Int) + t3) prices)) fun t24 => b_at [.no, .im .st, .no, .im (.d (enc (t2.a : (Tp Int)))), .im (.d (enc (t2.b : (Tp Int)))), .im (.d (enc (((1 : Int) + t3) : Int))), .im (.d (enc (t4 : Str))), .im (.d (enc (s6 : (List Int)))), .no, .no, .im (.d (enc (many : Int))), .im (.d (enc (t22 : (List (Tp Int))))), .im (.d (enc (prices : (Tp Int)))), .im (.d (enc (t24 : Int))), .no, .no, .no] rfl (b_ifS (b_or (b_not (b_te (b_call0 (b_cons (b_call0 (b_cons (BK.ok (pv_c) (b_cons (BK.ok (pv_var rfl) (b_cons (BK.ok (pv_var rfl) (b_cons (BK.ok (pv_var rfl) (b_cons (BK.ok (pv_var rfl) (b_nil (RK.bind (r_call0 rfl (f__law_told ns (1 : Int) t2.a t2.b ((1 : Int) + t3) prices)) fun t25 => b_cons (BK.ok (pv_tup (pv_cons (pv_c) (pv_cons (pv_var rfl) (pv_nil))) rfl lenok) (b_nil (RK.bind (r_call0 rfl (f__law_same ns t25 (enc (P2.mk ("told" : Str) t24 : (P2 Str Int))))) fun t26 => BK.ok (fun _ => rfl) (RK.bind (RK.ite (o := fun y => y) RK.ret (RK.close (b_te (b_op (BK.ok (pv_var rfl) (b_cb (b_cons (BK.ok (pv_var rfl) (b_nil (RK.bind k_minL fun t27 => BK.ok k_gt (BK.ok (fun _ => rfl) (RK.ret)))))))))))) fun b28 => BK.ite (b_assoc (b_ret (BK.ok (pv_c) (RK.ret)))) (b_next (b_at [.no, .im .st, .no, .im (.d (enc (t2.a : (Tp Int)))), .im (.d (enc (t2.b : (Tp Int)))), .im (.d (enc (((1 : Int) + t3) : Int))), .im (.d (enc (t4 : Str))), .im (.d (enc (s6 : (List Int)))), .no, .no, .im (.d (enc (many : Int))), .im (.d (enc (t22 : (List (Tp Int))))), .im (.d (enc (prices : (Tp Int)))), .im (.d (enc (t24 : Int))), .no, .no, .no] rfl (b_wipe (b_at [.no, .im .st, .no, .im (.d (enc (t2.a : (Tp Int)))), .im (.d (enc (t2.b : (Tp Int)))), .im (.d (enc (((1 : Int) + t3) : Int))), .im (.d (enc (t4 : Str))), .im (.d (enc (s6 : (List Int)))), .no, .no, .im (.d (enc (many : Int))), .im (.d (enc (t22 : (List (Tp Int))))), .no, .no, .no, .no, .no] rfl (b_end (RK.ret))))))))))))))))))))))))))))))))))))))))))) (fun r => RK.ret) fun s23 => b_set (b_L (b_lst (b_cons (b_call0 (b_cons (BK.ok (pv_c) (b_cons (BK.ok (pv_var rfl) (b_cons (BK.ok (pv_var rfl) (b_cons (BK.ok (pv_var rfl) (b_cons (b_op (BK.ok (pv_tup (pv_cons (pv_c) (pv_nil)) rfl lenok) (BK.ok (pv_op (pv_var rfl) (pv_c) k_add) (RK.bind (k_repA (α := Int)) fun t29 => b_nil (RK.bind (r_call0 rfl (f__law_told ns (1 : Int) t2.a t2.b ((1 : Int) + t3) t29)) fun t30 => b_cons (b_call0 (b_cons (BK.ok (pv_c) (b_cons (BK.ok (pv_var rfl) (b_cons (BK.ok (pv_var rfl) (b_cons (BK.ok (pv_var rfl) (b_cons (b_op (BK.ok (pv_tup (pv_cons (pv_un (pv_c) k_neg) (pv_nil)) rfl lenok) (BK.ok (pv_cb (pv_cons (pv_c) (pv_cons (pv_var rfl) (pv_nil))) k_max2) (RK.bind (k_repA (α := Int)) fun t31 => b_nil (RK.bind (r_call0 rfl (f__law_told ns (1 : Int) t2.a t2.b ((1 : Int) + t3) t31)) fun t32 => b_nil (BK.ok (k_lst rfl lenok) (b_at [.no, .im .st, .no, .im (.d (enc (t2.a : (Tp Int)))), .im (.d (enc (t2.b : (Tp Int)))), .im (.d (enc (((1 : Int) + t3) : Int))), .im (.d (enc (t4 : Str))), .im (.d (enc (s6 : (List Int)))), .no, .no, .im (.d (enc (many : Int))), .im (.d (enc (t22 : (List (Tp Int))))), .no, .no, .im (.d (enc (([t30, t32] : (List PyData)) : (List PyData)))), .no, .no] rfl (b_set (b_L (b_catV (BK.ok (pv_var rfl) (b_L (b_lst (b_cons (b_call0 (b_cons (BK.ok (pv_c) (b_cons (BK.ok (pv_var rfl) (b_cons (BK.ok (pv_var rfl) (b_cons (BK.ok (pv_c) (b_cons (b_op (BK.ok (pv_tup (pv_cons (pv_c) (pv_nil)) rfl lenok) (BK.ok (pv_var rfl) (RK.bind (k_repA (α := Int)) fun t33 => b_nil (RK.bind (r_call0 rfl (f__law_told ns (0 : Int) t2.a t2.b (9 : Int) t33)) fun t34 => b_cons (b_call0 (b_cons (BK.ok (pv_c) (b_cons (BK.ok (pv_var rfl) (b_cons (b_op (BK.ok (pv_var rfl) (BK.ok (pv_tup (pv_cons (pv_c) (pv_nil)) rfl lenok) (RK.bind (k_catT (α := Int)) fun t35 => b_cons (BK.ok (pv_var rfl) (b_cons (b_op (BK.ok (pv_tup (pv_cons (pv_c) (pv_nil)) rfl lenok) (BK.ok (pv_var rfl) (RK.bind (k_repA (α := Int)) fun t36 => b_nil (RK.bind (r_call0 rfl (f__law_told ns (1 : Int) t2.a t35 ((1 : Int) + t3) t36)) fun t37 => b_nil (BK.ok (k_lst rfl lenok) (RK.bind (k_catV (α := PyData)) fun t38 => b_at [.no, .im .st, .no, .im (.d (enc (t2.a : (Tp Int)))), .im (.d (enc (t2.b : (Tp Int)))), .im (.d (enc (((1 : Int) + t3) : Int))), .im (.d (enc (t4 : Str))), .im (.d (enc (s6 : (List Int)))), .no, .no, .im (.d (enc (many : Int))), .im (.d (enc (t22 : (List (Tp Int))))), .no, .no, .im (.d (enc (t38 : (List PyData)))), .no, .no] rfl (b_ifS (b_or (b_te (b_op (BK.ok (pv_var rfl) (b_L (b_repL2 (BK.ok (pv_lst (pv_cons (pv_c) (pv_nil)) rfl lenok) (BK.ok (pv_c) (RK.bind (k_repL2 (α := PyData)) fun t39 => RK.bind k_neD fun b40 => BK.ok (fun _ => rfl) (RK.bind (RK.ite (o := fun y => y) RK.ret (RK.close (b_te (b_op (b_cb (b_cons (BK.ok (pv_tup (pv_cons (pv_var rfl) (pv_cons (pv_var rfl) (pv_nil))) rfl lenok) (b_nil (RK.bind (r_asE (β := Str) k_lift) fun t41 => BK.ok (pv_var rfl) (BK.ok k_neS (BK.ok (fun _ => rfl) (RK.ret)))))))))))) fun b42 => BK.ite (b_assoc (b_ret (BK.ok (pv_c) (RK.ret)))) (b_next (b_at [.no, .im .st, .no, .im (.d (enc (t2.a : (Tp Int)))), .im (.d (enc (t2.b : (Tp Int)))), .im (.d (enc (((1 : Int) + t3) : Int))), .im (.d (enc (t4 : Str))), .im (.d (enc (s6 : (List Int)))), .no, .no, .im (.d (enc (many : Int))), .im (.d (enc (t22 : (List (Tp Int))))), .no, .no, .im (.d (enc (t38 : (List PyData)))), .no, .no] rfl (b_wipe (b_at [.no, .im .st, .no, .no, .no, .no, .no, .no, .no, .no, .no, .no, .no, .no, .no, .no, .no] rfl (b_end (RK.ret))))))))))))))))))))))))))))))))))))))))))))))))))))))))))))))))))))))))))))))))))))))))))))))))))))))))))))))))))))))))))))))))))))))))))))))))))))))))))))))))))) (fun r => RK.ret) fun s1 => b_ret (BK.ok (pv_c) (RK.ret)))))))
/-- what is left to be shown -/
theorem lawOk_of (h : ∀ nums : List Int, nums.length ≤ 63 → ∃ ns c, F__law_stream nums 0 = .ok ns 0 ∧ F_law ns nums 0 = .ok true c) : LawOk := by
  intro nums hn
  obtain ⟨ns, c, e1, e2⟩ := h nums hn
  refine ⟨ns, 0, c, ?_, ?_⟩
  · have f := f__law_stream [] nums 0
    rw [e1] at f
    show ((V__law_stream [] [.d (.list (nums.map .int))] 0)).calm = _
    rw [show V__law_stream [] [.d (.list (nums.map .int))] 0 = _ from f]; rfl
  · have f := f_law ns nums 0
    rw [e2] at f
    have f : ((D_law ns (args [.d (.list (nums.map .int)), .st] 15) 0).bind finO) = .ok (.d (.bool true)) c := f
    exact fin_true f
def topS (i : Nat) : Stmt := PySem.Challenge.pw_paintershouse_k59_plans_and_prices_judge.main.body.getD i (.Pass ⟨0, 0, 0, 0⟩)
abbrev s__law_stream : Stmt := topS 19
abbrev N__law_stream : List Str := ["script", "numbers", "cell", "rest", "k", "stirred"]
theorem sc__law_stream : FnScope N__law_stream ["script"] (defScope s__law_stream) := ⟨rfl, rfl, rfl, by decide +kernel, rfl, by decide +kernel, by decide +kernel⟩
abbrev s__law_next : Stmt := topS 20
abbrev N__law_next : List Str := ["state", "many", "turn"]
theorem sc__law_next : FnScope N__law_next ["state", "many"] (defScope s__law_next) := ⟨rfl, rfl, rfl, by decide +kernel, rfl, by decide +kernel, by decide +kernel⟩
abbrev s__law_asks : Stmt := topS 22
abbrev N__law_asks : List Str := ["state", "most", "many", "pieces", "prices", "asks", "shift", "k", "ask"]
theorem sc__law_asks : FnScope N__law_asks ["state", "most"] (defScope s__law_asks) := ⟨rfl, rfl, rfl, by decide +kernel, rfl, by decide +kernel, by decide +kernel⟩
abbrev s__law_later : Stmt := topS 23
abbrev N__law_later : List Str := ["asks", "at", "found", "k"]
theorem sc__law_later : FnScope N__law_later ["asks", "at"] (defScope s__law_later) := ⟨rfl, rfl, rfl, by decide +kernel, rfl, by decide +kernel, by decide +kernel⟩
abbrev s__law_plan_right : Stmt := topS 24
abbrev N__law_plan_right : List Str := ["asks", "places", "plan", "stays", "k", "start", "end", "one"]
theorem sc__law_plan_right : FnScope N__law_plan_right ["asks", "places", "plan"] (defScope s__law_plan_right) := ⟨rfl, rfl, rfl, by decide +kernel, rfl, by decide +kernel, by decide +kernel⟩
abbrev s__law_greedy : Stmt := topS 28
abbrev N__law_greedy : List Str := ["state", "asks", "places", "plan", "turn", "at"]
theorem sc__law_greedy : FnScope N__law_greedy ["state", "asks", "places"] (defScope s__law_greedy) := ⟨rfl, rfl, rfl, by decide +kernel, rfl, by decide +kernel, by decide +kernel⟩
abbrev s__law_plans : Stmt := topS 29
abbrev N__law_plans : List Str := ["state", "asks", "places", "many", "plans", "k"]
theorem sc__law_plans : FnScope N__law_plans ["state", "asks", "places"] (defScope s__law_plans) := ⟨rfl, rfl, rfl, by decide +kernel, rfl, by decide +kernel, by decide +kernel⟩
abbrev s__law_bound : Stmt := topS 26
abbrev N__law_bound : List Str := ["asks", "costs", "places", "prices", "total", "k", "end"]
theorem sc__law_bound : FnScope N__law_bound ["asks", "costs", "places", "prices"] (defScope s__law_bound) := ⟨rfl, rfl, rfl, by decide +kernel, rfl, by decide +kernel, by decide +kernel⟩
abbrev s__law_error : Stmt := topS 21
abbrev N__law_error : List Str := ["e", "names", "word", "one"]
theorem sc__law_error : FnScope N__law_error ["e"] (defScope s__law_error) := ⟨rfl, rfl, rfl, by decide +kernel, rfl, by decide +kernel, by decide +kernel⟩
abbrev s__check_shelf : Stmt := topS 12
abbrev N__check_shelf : List Str := ["asks", "costs", "places", "piece", "known", "cost"]
theorem sc__check_shelf : FnScope N__check_shelf ["asks", "costs", "places"] (defScope s__check_shelf) := ⟨rfl, rfl, rfl, by decide +kernel, rfl, by decide +kernel, by decide +kernel⟩
abbrev s__stays : Stmt := topS 13
abbrev N__stays : List Str := ["asks", "last", "found", "at", "piece"]
theorem sc__stays : FnScope N__stays ["asks"] (defScope s__stays) := ⟨rfl, rfl, rfl, by decide +kernel, rfl, by decide +kernel, by decide +kernel⟩
abbrev s__check_plan : Stmt := topS 14
abbrev N__check_plan : List Str := ["asks", "places", "plan", "running", "ends", "at", "choice", "between", "first", "second"]
theorem sc__check_plan : FnScope N__check_plan ["asks", "places", "plan"] (defScope s__check_plan) := ⟨rfl, rfl, rfl, by decide +kernel, rfl, by decide +kernel, by decide +kernel⟩
abbrev s_plan_work : Stmt := topS 15
abbrev N_plan_work : List Str := ["asks", "costs", "places", "plan", "cost", "choice"]
theorem sc_plan_work : FnScope N_plan_work ["asks", "costs", "places", "plan"] (defScope s_plan_work) := ⟨rfl, rfl, rfl, by decide +kernel, rfl, by decide +kernel, by decide +kernel⟩
abbrev s_bound_of : Stmt := topS 16
abbrev N_bound_of : List Str := ["asks", "costs", "places", "prices", "price", "rests", "first", "second"]
theorem sc_bound_of : FnScope N_bound_of ["asks", "costs", "places", "prices"] (defScope s_bound_of) := ⟨rfl, rfl, rfl, by decide +kernel, rfl, by decide +kernel, by decide +kernel⟩
abbrev s__law_told : Stmt := topS 27
abbrev N__law_told : List Str := ["way", "asks", "costs", "places", "thing", "e"]
theorem sc__law_told : FnScope N__law_told ["way", "asks", "costs", "places", "thing"] (defScope s__law_told) := ⟨rfl, rfl, rfl, by decide +kernel, rfl, by decide +kernel, by decide +kernel⟩
abbrev s__law_same : Stmt := topS 18
abbrev N__law_same : List Str := ["told", "due"]
theorem sc__law_same : FnScope N__law_same ["told", "due"] (defScope s__law_same) := ⟨rfl, rfl, rfl, by decide +kernel, rfl, by decide +kernel, by decide +kernel⟩
abbrev s__law_plan_work : Stmt := topS 25
abbrev N__law_plan_work : List Str := ["costs", "plan", "k"]
theorem sc__law_plan_work : FnScope N__law_plan_work ["costs", "plan"] (defScope s__law_plan_work) := ⟨rfl, rfl, rfl, by decide +kernel, rfl, by decide +kernel, by decide +kernel⟩
abbrev s_law : Stmt := topS 30
abbrev N_law : List Str := ["script", "state", "turn", "asks", "costs", "places", "kept", "works", "plan", "right", "many", "rows", "prices", "due", "odd", "j", "k"]
theorem sc_law : FnScope N_law ["script"] (defScope s_law) := ⟨rfl, rfl, rfl, by decide +kernel, rfl, by decide +kernel, by decide +kernel⟩
structure Txt (K : PySem.W.Frag) (mg : Str → Option Value) where
  a__law_stream : Addr
  fd__law_stream : FuncData
  F__law_stream : Fun K "_law_stream" "_law_stream" s__law_stream a__law_stream fd__law_stream
  g__law_stream : mg "_law_stream" = some (.ref a__law_stream)
  b__law_stream : Binds K fd__law_stream ["script"] []
  a__law_next : Addr
  fd__law_next : FuncData
  F__law_next : Fun K "_law_next" "_law_next" s__law_next a__law_next fd__law_next
  g__law_next : mg "_law_next" = some (.ref a__law_next)
  b__law_next : Binds K fd__law_next ["state", "many"] []
  a__law_asks : Addr
  fd__law_asks : FuncData
  F__law_asks : Fun K "_law_asks" "_law_asks" s__law_asks a__law_asks fd__law_asks
  g__law_asks : mg "_law_asks" = some (.ref a__law_asks)
  b__law_asks : Binds K fd__law_asks ["state", "most"] []
  a__law_later : Addr
  fd__law_later : FuncData
  F__law_later : Fun K "_law_later" "_law_later" s__law_later a__law_later fd__law_later
  g__law_later : mg "_law_later" = some (.ref a__law_later)
  b__law_later : Binds K fd__law_later ["asks", "at"] []
  a__law_plan_right : Addr
  fd__law_plan_right : FuncData
  F__law_plan_right : Fun K "_law_plan_right" "_law_plan_right" s__law_plan_right a__law_plan_right fd__law_plan_right
  g__law_plan_right : mg "_law_plan_right" = some (.ref a__law_plan_right)
  b__law_plan_right : Binds K fd__law_plan_right ["asks", "places", "plan"] []
  a__law_greedy : Addr
  fd__law_greedy : FuncData
  F__law_greedy : Fun K "_law_greedy" "_law_greedy" s__law_greedy a__law_greedy fd__law_greedy
  g__law_greedy : mg "_law_greedy" = some (.ref a__law_greedy)
  b__law_greedy : Binds K fd__law_greedy ["state", "asks", "places"] []
  a__law_plans : Addr
  fd__law_plans : FuncData
  F__law_plans : Fun K "_law_plans" "_law_plans" s__law_plans a__law_plans fd__law_plans
  g__law_plans : mg "_law_plans" = some (.ref a__law_plans)
  b__law_plans : Binds K fd__law_plans ["state", "asks", "places"] []
  a__law_bound : Addr
  fd__law_bound : FuncData
  F__law_bound : Fun K "_law_bound" "_law_bound" s__law_bound a__law_bound fd__law_bound
  g__law_bound : mg "_law_bound" = some (.ref a__law_bound)
  b__law_bound : Binds K fd__law_bound ["asks", "costs", "places", "prices"] []
  a__law_error : Addr
  fd__law_error : FuncData
  F__law_error : Fun K "_law_error" "_law_error" s__law_error a__law_error fd__law_error
  g__law_error : mg "_law_error" = some (.ref a__law_error)
  b__law_error : Binds K fd__law_error ["e"] []
  a__check_shelf : Addr
  fd__check_shelf : FuncData
  F__check_shelf : Fun K "_check_shelf" "_check_shelf" s__check_shelf a__check_shelf fd__check_shelf
  g__check_shelf : mg "_check_shelf" = some (.ref a__check_shelf)
  b__check_shelf : Binds K fd__check_shelf ["asks", "costs", "places"] []
  a__stays : Addr
  fd__stays : FuncData
  F__stays : Fun K "_stays" "_stays" s__stays a__stays fd__stays
  g__stays : mg "_stays" = some (.ref a__stays)
  b__stays : Binds K fd__stays ["asks"] []
  a__check_plan : Addr
  fd__check_plan : FuncData
  F__check_plan : Fun K "_check_plan" "_check_plan" s__check_plan a__check_plan fd__check_plan
  g__check_plan : mg "_check_plan" = some (.ref a__check_plan)
  b__check_plan : Binds K fd__check_plan ["asks", "places", "plan"] []
  a_plan_work : Addr
  fd_plan_work : FuncData
  F_plan_work : Fun K "plan_work" "plan_work" s_plan_work a_plan_work fd_plan_work
  g_plan_work : mg "plan_work" = some (.ref a_plan_work)
  b_plan_work : Binds K fd_plan_work ["asks", "costs", "places", "plan"] []
  a_bound_of : Addr
  fd_bound_of : FuncData
  F_bound_of : Fun K "bound_of" "bound_of" s_bound_of a_bound_of fd_bound_of
  g_bound_of : mg "bound_of" = some (.ref a_bound_of)
  b_bound_of : Binds K fd_bound_of ["asks", "costs", "places", "prices"] []
  a__law_told : Addr
  fd__law_told : FuncData
  F__law_told : Fun K "_law_told" "_law_told" s__law_told a__law_told fd__law_told
  g__law_told : mg "_law_told" = some (.ref a__law_told)
  b__law_told : Binds K fd__law_told ["way", "asks", "costs", "places", "thing"] []
  a__law_same : Addr
  fd__law_same : FuncData
  F__law_same : Fun K "_law_same" "_law_same" s__law_same a__law_same fd__law_same
  g__law_same : mg "_law_same" = some (.ref a__law_same)
  b__law_same : Binds K fd__law_same ["told", "due"] []
  a__law_plan_work : Addr
  fd__law_plan_work : FuncData
  F__law_plan_work : Fun K "_law_plan_work" "_law_plan_work" s__law_plan_work a__law_plan_work fd__law_plan_work
  g__law_plan_work : mg "_law_plan_work" = some (.ref a__law_plan_work)
  b__law_plan_work : Binds K fd__law_plan_work ["costs", "plan"] []
  z_abs : mg "abs" = none
  z_all : mg "all" = none
  z_any : mg "any" = none
  z_enumerate : mg "enumerate" = none
  z_int : mg "int" = none
  z_isinstance : mg "isinstance" = none
  z_len : mg "len" = none
  z_max : mg "max" = none
  z_min : mg "min" = none
  z_range : mg "range" = none
  z_repr : mg "repr" = none
  z_sorted : mg "sorted" = none
  z_sum : mg "sum" = none
  z_tuple : mg "tuple" = none
  z_zip : mg "zip" = none
  g_MAX_ASKS : ∃ t, mg "MAX_ASKS" = some (Value.int 60 t)
  g_MAX_COST : ∃ t, mg "MAX_COST" = some (Value.int 9999 t)
  g_MAX_PIECE : ∃ t, mg "MAX_PIECE" = some (Value.int 99 t)
  g_MAX_PLACES : ∃ t, mg "MAX_PLACES" = some (Value.int 8 t)
  e_NotAllowed : Exc1 K mg "NotAllowed"
  err : Err5 K mg
  errOk : err.Ok
section
variable {P : Program} {w : World} {K : PySem.W.Frag} {mg : Str → Option Value} {base : Heap}
theorem ok__law_stream (T : Txt K mg) : FnG P w K mg base CX0 1 T.a__law_stream T.fd__law_stream ["script"] (spD 1 K mg V__law_stream) := by
  refine fnD 1 5 D__law_stream T.F__law_stream sc__law_stream rfl rfl fun cdv A outer s H E hg hr => ⟨_, PSs.nox (pss_cons (ps_set (i := 1) sc__law_stream.nd rfl (Or.inl rfl) (pe_lst (pa_nil))) (pss_cons (ps_for PassesOwn.never rfl (pi_listK (K := K) rfl (pe_slice (r := rSlL K) sl_list (pv 0) (po_none) (po_some (pe_int)))) (pg_name (i := 2) sc__law_stream.nd rfl (Or.inl rfl)) (pss_cons (ps_set (i := 3) sc__law_stream.nd rfl (Or.inl rfl) (pe_callB call_abs (by rfl) T.z_abs (by decide +kernel) (pa_cons (pe_callTy call_int1 (by rfl) T.z_int (by decide +kernel) (pa_cons (pv 2) (pa_nil))) (pa_nil)))) (pss_one (ps_if (pt_cmpR op_ge (pv 3) (pe_op op_pow (pe_int) (pe_int)) (by first | exact nomark _ | rfl)) (pss_one (ps_for PassesOwn.never rfl (pi_range1 (by rfl) T.z_range (pa_cons (pe_int) (pa_nil))) (pg_name (i := 4) sc__law_stream.nd rfl (Or.inl rfl)) (pss_cons (ps_expr (pe_bm PySem.F.plainAttrs_list PySem.F.slot_list_append PySem.F.type_list_append mt_append (pv 1) (pa_cons (pe_op op_mod (pe_callTy call_int1 (by rfl) T.z_int (by decide +kernel) (pa_cons (pv 3) (pa_nil))) (pe_int)) pa_nil))) (pss_cons (ps_set (i := 3) sc__law_stream.nd rfl (Or.inl rfl) (pe_op op_fdivW (pv 3) (pe_int))) (pss_one (ps_if (pt_cmpR (r := rEqD K) (op_eqD hr.units) (pv 3) (pe_int) (by first | exact nomark _ | rfl)) (pss_one (ps_break)) (pss_nil))))))) (pss_cons (ps_set (i := 5) sc__law_stream.nd rfl (Or.inl rfl) (pe_op op_mod (pe_callTy call_int1 (by rfl) T.z_int (by decide +kernel) (pa_cons (pv 3) (pa_nil))) (pe_int))) (pss_one (ps_for PassesOwn.never rfl (pi_range1 (by rfl) T.z_range (pa_cons (pe_int) (pa_nil))) (pg_name (i := 4) sc__law_stream.nd rfl (Or.inl rfl)) (pss_cons (ps_set (i := 5) sc__law_stream.nd rfl (Or.inl rfl) (pe_op op_mod (pe_callTy call_int1 (by rfl) T.z_int (by decide +kernel) (pa_cons (pe_op op_add (pe_op op_add (pe_op op_mulW (pv 5) (pe_int)) (pe_op op_mulW (pe_int) (pv 4))) (pe_int)) (pa_nil))) (pe_int))) (pss_one (ps_expr (pe_bm PySem.F.plainAttrs_list PySem.F.slot_list_append PySem.F.type_list_append mt_append (pv 1) (pa_cons (pe_op op_mod (pe_op op_mod (pe_callTy call_int1 (by rfl) T.z_int (by decide +kernel) (pa_cons (pe_op op_add (pe_op op_mulW (pv 5) (pe_int)) (pv 4)) (pa_nil))) (pe_int)) (pe_int)) pa_nil)))))))))))) (pss_cons (ps_if (pt_cmpR (r := rEqD K) (op_eqD hr.units) (pe_callB (r := rLenA K) call_len (by rfl) T.z_len (by decide +kernel) (pa_cons (pv 1) pa_nil)) (pe_int) (by first | exact nomark _ | rfl)) (pss_one (ps_expr (pe_bm PySem.F.plainAttrs_list PySem.F.slot_list_append PySem.F.type_list_append mt_append (pv 1) (pa_cons (pe_int) pa_nil)))) (pss_nil)) (pss_one (ps_ret (pv 1)))))), fun Z hK hC => ?_⟩
  obtain ⟨K2, sa, ns, cl, sp⟩ := Z
  cases hK
  cases hC
  exact sns_seq (sns_new (snd_lst (snd_nil))) (sns_seq (sns_for (snd_iL (snd_ofL (snd_slL (snd_var) (snd_noO) (snd_soO (snd_int))))) (sng_name) (sns_seq (sns_set (snd_callB rc_abs (snd_cons (snd_callB rc_int1 (snd_cons (snd_var) (snd_nil))) (snd_nil)))) (sns_seq1 (sns_if (snd_test (snd_op rr_ge (snd_var) (snd_op rr_pow (snd_int) (snd_int)))) (sns_seq1 (sns_fgt (sns_for (snd_i1 (snd_cons (snd_int) (snd_nil))) (sng_name) (sns_seq (sns_app (snd_op rr_mod (snd_callB rc_int1 (snd_cons (snd_var) (snd_nil))) (snd_int))) (sns_seq (sns_set (snd_op rr_fdiv (snd_var) (snd_int))) (sns_seq1 (sns_if (snd_test (snd_op rr_eq (snd_var) (snd_int))) (sns_seq1 (sns_fgt sns_break) (sns_next)) (sns_next)) (sns_seq1 sns_wipe (sns_next))))))) (sns_seq1 sns_wipe (sns_next))) (sns_seq (sns_set (snd_op rr_mod (snd_callB rc_int1 (snd_cons (snd_var) (snd_nil))) (snd_int))) (sns_seq1 (sns_fgt (sns_for (snd_i1 (snd_cons (snd_int) (snd_nil))) (sng_name) (sns_seq (sns_set (snd_op rr_mod (snd_callB rc_int1 (snd_cons (snd_op rr_add (snd_op rr_add (snd_op rr_mul (snd_var) (snd_int)) (snd_op rr_mul (snd_int) (snd_var))) (snd_int)) (snd_nil))) (snd_int))) (sns_seq1 (sns_app (snd_op rr_mod (snd_op rr_mod (snd_callB rc_int1 (snd_cons (snd_op rr_add (snd_op rr_mul (snd_var) (snd_int)) (snd_var)) (snd_nil))) (snd_int)) (snd_int))) (sns_seq1 sns_wipe (sns_next)))))) (sns_seq1 sns_wipe (sns_next))))) (sns_next)))) (sns_seq (sns_if (snd_test (snd_op rr_eq (snd_lenO) (snd_int))) (sns_seq1 (sns_app (snd_int)) (sns_next)) (sns_next)) (sns_seq1 (sns_retO) (sns_next))))
theorem ok__law_next (T : Txt K mg) : FnG P w K mg base CX0 1 T.a__law_next T.fd__law_next ["state", "many"] (spD 2 K mg V__law_next) := by
  refine fnD 2 1 D__law_next T.F__law_next sc__law_next rfl rfl fun cdv A outer s H E hg hr => ⟨_, PSs.nox (pss_cons (ps_asg (pe_op op_add (pe_ix (r := rIx K) ix_seq (pv 0) pe_int (fun _ _ => rfl)) (pe_int)) (pg_sub (pv 0) pe_int set_list)) (pss_cons (ps_set (i := 2) sc__law_next.nd rfl (Or.inl rfl) (pe_op op_fdivW (pe_ix (r := rIx K) ix_seq (pv 0) pe_int (fun _ _ => rfl)) (pe_callB (r := rLenA K) call_len (by rfl) T.z_len (by decide +kernel) (pa_cons (pe_ix (r := rIx K) ix_seq (pv 0) pe_int (fun _ _ => rfl)) (pa_nil))))) (pss_one (ps_ret (pe_op op_mod (pe_callTy call_int1 (by rfl) T.z_int (by decide +kernel) (pa_cons (pe_op op_add (pe_op op_add (pe_ix (r := rIx K) ix_seq (pe_ix (r := rIx K) ix_seq (pv 0) pe_int (fun _ _ => rfl)) (pe_op op_mod (pe_ix (r := rIx K) ix_seq (pv 0) pe_int (fun _ _ => rfl)) (pe_callB (r := rLenA K) call_len (by rfl) T.z_len (by decide +kernel) (pa_cons (pe_ix (r := rIx K) ix_seq (pv 0) pe_int (fun _ _ => rfl)) (pa_nil)))) (fun _ _ => rfl)) (pe_op op_mulW (pv 2) (pe_int))) (pe_op op_mulW (pe_op op_mulW (pe_ix (r := rIx K) ix_seq (pv 0) pe_int (fun _ _ => rfl)) (pv 2)) (pe_int))) (pa_nil))) (pv 1)))))), fun Z hK hC => ?_⟩
  obtain ⟨K2, sa, ns, cl, sp⟩ := Z
  cases hK
  cases hC
  exact sns_seq (sns_stSet (snd_op rr_add (snd_st1) (snd_int))) (sns_seq (sns_set (snd_op rr_fdiv (snd_st1) (snd_callB rc_len (snd_cons (snd_st0) (snd_nil))))) (sns_seq1 (sns_ret (snd_op rr_mod (snd_callB rc_int1 (snd_cons (snd_op rr_add (snd_op rr_add (snd_op rr_ix (snd_st0) (snd_op rr_mod (snd_st1) (snd_callB rc_len (snd_cons (snd_st0) (snd_nil))))) (snd_op rr_mul (snd_var) (snd_int))) (snd_op rr_mul (snd_op rr_mul (snd_st1) (snd_var)) (snd_int))) (snd_nil))) (snd_var))) (sns_next)))
theorem ok__law_asks (T : Txt K mg) : FnG P w K mg base CX0 2 T.a__law_asks T.fd__law_asks ["state", "most"] (spD 2 K mg V__law_asks) := by
  refine fnD 2 7 D__law_asks T.F__law_asks sc__law_asks rfl rfl fun cdv A outer s H E hg hr => ⟨_, PSs.nox (pss_cons (ps_set (i := 2) sc__law_asks.nd rfl (Or.inl rfl) (pe_callG (ok__law_next T) hg (hr.mono (by decide)) (by rfl) T.g__law_next T.F__law_next.kp T.b__law_next pass0 (pa_cons (pv 0) (pa_cons (pe_op op_add (pv 1) (pe_int)) (pa_nil))))) (pss_cons (ps_set (i := 3) sc__law_asks.nd rfl (Or.inr rfl) (pe_op op_add (pe_int) (pe_callG (ok__law_next T) hg (hr.mono (by decide)) (by rfl) T.g__law_next T.F__law_next.kp T.b__law_next pass0 (pa_cons (pv 0) (pa_cons (pe_int) (pa_nil)))))) (pss_cons (ps_set (i := 4) sc__law_asks.nd rfl (Or.inr rfl) (pe_lc (own := [("k", 7)]) rfl sc__law_asks.nd (pi_range1 (by rfl) T.z_range (pa_cons (pv 3) (pa_nil))) (blkOk_by (own := [("k", 7)]) (N := N__law_asks) (sc := defScope s__law_asks) (by decide +kernel)) (fun _ _ _ _ _ => pg_name (i := 7) sc__law_asks.nd rfl (Or.inl rfl)) (fun _ _ _ _ _ => pts_nil) (fun _ _ _ _ _ => pe_ix (r := rIx K) ix_seq (pe_lst (pa_cons (pe_op op_add (pe_int) (pe_callG (ok__law_next T) hg (hr.mono (by decide)) (by rfl) T.g__law_next T.F__law_next.kp T.b__law_next pass0 (pa_cons (pv 0) (pa_cons (pe_int) (pa_nil))))) (pa_cons (pe_callG (ok__law_next T) hg (hr.mono (by decide)) (by rfl) T.g__law_next T.F__law_next.kp T.b__law_next pass0 (pa_cons (pv 0) (pa_cons (pe_int) (pa_nil)))) (pa_cons (pe_int) (pa_nil))))) (pe_ix (r := rIx K) ix_seq (pe_lst (pa_cons (pe_int) (pa_cons (pe_int) (pa_cons (pe_int) (pa_cons (pe_int) (pa_cons (pe_int) (pa_nil))))))) (pe_callG (ok__law_next T) hg (hr.mono (by decide)) (by rfl) T.g__law_next T.F__law_next.kp T.b__law_next pass0 (pa_cons (pv 0) (pa_cons (pe_int) (pa_nil)))) (fun _ _ => rfl)) (fun _ _ => rfl)))) (pss_cons (ps_setLc (i := 5) (own := [("k", 7)]) rfl sc__law_asks.nd rfl rfl (sw_true rfl rfl rfl (by decide +kernel)) (pi_range1 (by rfl) T.z_range (pa_cons (pv 2) (pa_nil))) (blkOk_by (own := [("k", 7)]) (N := N__law_asks) (sc := defScope s__law_asks) (by decide +kernel)) (fun _ _ _ _ _ => pg_name (i := 7) sc__law_asks.nd rfl (Or.inl rfl)) (fun _ _ _ _ _ => pts_nil) (fun _ _ _ _ _ => pe_callG (ok__law_next T) hg (hr.mono (by decide)) (by rfl) T.g__law_next T.F__law_next.kp T.b__law_next pass0 (pa_cons (pv 0) (pa_cons (pv 3) (pa_nil))))) (pss_cons (ps_if (pt_cmpR (r := rEqD K) (op_eqD hr.units) (pe_callG (ok__law_next T) hg (hr.mono (by decide)) (by rfl) T.g__law_next T.F__law_next.kp T.b__law_next pass0 (pa_cons (pv 0) (pa_cons (pe_int) (pa_nil)))) (pe_int) (by first | exact nomark _ | rfl)) (pss_one (ps_setLc (i := 5) (own := [("k", 7)]) rfl sc__law_asks.nd rfl rfl (sw_true rfl rfl rfl (by decide +kernel)) (pi_range1 (by rfl) T.z_range (pa_cons (pv 2) (pa_nil))) (blkOk_by (own := [("k", 7)]) (N := N__law_asks) (sc := defScope s__law_asks) (by decide +kernel)) (fun _ _ _ _ _ => pg_name (i := 7) sc__law_asks.nd rfl (Or.inl rfl)) (fun _ _ _ _ _ => pts_nil) (fun _ _ _ _ _ => pe_op op_mod (pe_callTy call_int1 (by rfl) T.z_int (by decide +kernel) (pa_cons (pv 7) (pa_nil))) (pv 3)))) (pss_nil)) (pss_cons (ps_set (i := 6) sc__law_asks.nd rfl (Or.inr rfl) (pe_op op_mulW (pe_callG (ok__law_next T) hg (hr.mono (by decide)) (by rfl) T.g__law_next T.F__law_next.kp T.b__law_next pass0 (pa_cons (pv 0) (pa_cons (pe_int) (pa_nil)))) (pe_int))) (pss_one (ps_ret (pe_tup (pa_cons (pe_callTy (r := rTupA K) call_tuple_of (by rfl) T.z_tuple (by decide +kernel) (pa_cons (pe_lc (own := [("ask", 8)]) rfl sc__law_asks.nd (pi_listK (K := K) rfl (pv 5)) (blkOk_by (own := [("ask", 8)]) (N := N__law_asks) (sc := defScope s__law_asks) (by decide +kernel)) (fun _ _ _ _ _ => pg_name (i := 8) sc__law_asks.nd rfl (Or.inl rfl)) (fun _ _ _ _ _ => pts_nil) (fun _ _ _ _ _ => pe_op op_add (pv 8) (pv 6))) (pa_nil))) (pa_cons (pe_callTy (r := rTupA K) call_tuple_of (by rfl) T.z_tuple (by decide +kernel) (pa_cons (pe_lc (own := [("ask", 8)]) rfl sc__law_asks.nd (pi_listK (K := K) rfl (pv 5)) (blkOk_by (own := [("ask", 8)]) (N := N__law_asks) (sc := defScope s__law_asks) (by decide +kernel)) (fun _ _ _ _ _ => pg_name (i := 8) sc__law_asks.nd rfl (Or.inl rfl)) (fun _ _ _ _ _ => pts_nil) (fun _ _ _ _ _ => pe_ix (r := rIx K) ix_seq (pv 4) (pv 8) (fun _ _ => rfl))) (pa_nil))) (pa_nil)))))))))))), fun Z hK hC => ?_⟩
  obtain ⟨K2, sa, ns, cl, sp⟩ := Z
  cases hK
  cases hC
  exact sns_seq (sns_set (snd_call0 (snd_cons (snd_var) (snd_cons (snd_op rr_add (snd_var) (snd_int)) (snd_nil))))) (sns_seq (sns_set (snd_op rr_add (snd_int) (snd_call0 (snd_cons (snd_var) (snd_cons (snd_int) (snd_nil)))))) (sns_seq (sns_set (snd_ofL (snd_lc (vs := [7]) (by decide) (snd_i1 (snd_cons (snd_var) (snd_nil))) (sng_name) (snd_yes) (snd_op rr_ix (snd_ofL (snd_lst (snd_cons (snd_op rr_add (snd_int) (snd_call0 (snd_cons (snd_var) (snd_cons (snd_int) (snd_nil))))) (snd_cons (snd_call0 (snd_cons (snd_var) (snd_cons (snd_int) (snd_nil)))) (snd_cons (snd_int) (snd_nil)))))) (snd_op rr_ix (snd_ofL (snd_lst (snd_cons (snd_int) (snd_cons (snd_int) (snd_cons (snd_int) (snd_cons (snd_int) (snd_cons (snd_int) (snd_nil)))))))) (snd_call0 (snd_cons (snd_var) (snd_cons (snd_int) (snd_nil))))))))) (sns_seq (sns_set (snd_ofL (snd_lc (vs := [7]) (by decide) (snd_i1 (snd_cons (snd_var) (snd_nil))) (sng_name) (snd_yes) (snd_call0 (snd_cons (snd_var) (snd_cons (snd_var) (snd_nil))))))) (sns_seq (sns_if (snd_test (snd_op rr_eq (snd_call0 (snd_cons (snd_var) (snd_cons (snd_int) (snd_nil)))) (snd_int))) (sns_seq1 (sns_set (snd_ofL (snd_lc (vs := [7]) (by decide) (snd_i1 (snd_cons (snd_var) (snd_nil))) (sng_name) (snd_yes) (snd_op rr_mod (snd_callB rc_int1 (snd_cons (snd_var) (snd_nil))) (snd_var))))) (sns_next)) (sns_next)) (sns_seq (sns_set (snd_op rr_mul (snd_call0 (snd_cons (snd_var) (snd_cons (snd_int) (snd_nil)))) (snd_int))) (sns_seq1 (sns_ret (snd_tup (snd_cons (snd_callB rc_tuple (snd_cons (snd_ofL (snd_lc (vs := [8]) (by decide) (snd_iL (snd_var)) (sng_name) (snd_yes) (snd_op rr_add (snd_var) (snd_var)))) (snd_nil))) (snd_cons (snd_callB rc_tuple (snd_cons (snd_ofL (snd_lc (vs := [8]) (by decide) (snd_iL (snd_var)) (sng_name) (snd_yes) (snd_op rr_ix (snd_var) (snd_var)))) (snd_nil))) (snd_nil))))) (sns_next)))))))
theorem ok__law_later (T : Txt K mg) : FnG P w K mg base CX0 1 T.a__law_later T.fd__law_later ["asks", "at"] (spD 2 K mg V__law_later) := by
  refine fnD 2 2 D__law_later T.F__law_later sc__law_later rfl rfl fun cdv A outer s H E hg hr => ⟨_, PSs.nox (pss_cons (ps_setLc (i := 2) (own := [("k", 3)]) rfl sc__law_later.nd rfl rfl (sw_true rfl rfl rfl (by decide +kernel)) (pi_range2 (by rfl) T.z_range (pa_cons (pe_op op_add (pv 1) (pe_int)) (pa_cons (pe_callB (r := rLenA K) call_len (by rfl) T.z_len (by decide +kernel) (pa_cons (pv 0) (pa_nil))) (pa_nil)))) (blkOk_by (own := [("k", 3)]) (N := N__law_later) (sc := defScope s__law_later) (by decide +kernel)) (fun _ _ _ _ _ => pg_name (i := 3) sc__law_later.nd rfl (Or.inl rfl)) (fun _ _ _ _ _ => pts_one (pt_cmpR (r := rEqD K) (op_eqD hr.units) (pe_ix (r := rIx K) ix_seq (pv 0) (pv 3) (fun _ _ => rfl)) (pe_ix (r := rIx K) ix_seq (pv 0) (pv 1) (fun _ _ => rfl)) (by first | exact nomark _ | rfl))) (fun _ _ _ _ _ => pv 3)) (pss_one (ps_ret (pe_ix (r := rIx K) ix_seq (pe_op (r := rCatS K) op_catS (pv 2) (pe_lst (pa_cons (pe_un un_neg (pe_int)) (pa_nil)))) (pe_int) (fun _ _ => rfl))))), fun Z hK hC => ?_⟩
  obtain ⟨K2, sa, ns, cl, sp⟩ := Z
  cases hK
  cases hC
  exact sns_seq (sns_set (snd_ofL (snd_lc (vs := [3]) (by decide) (snd_i2 (snd_cons (snd_op rr_add (snd_var) (snd_int)) (snd_cons (snd_callB rc_len (snd_cons (snd_var) (snd_nil))) (snd_nil)))) (sng_name) (snd_test (snd_op rr_eq (snd_op rr_ix (snd_var) (snd_var)) (snd_op rr_ix (snd_var) (snd_var)))) (snd_var)))) (sns_seq1 (sns_ret (snd_op rr_ix (snd_ofL (snd_catV (snd_var) (snd_ofL (snd_lst (snd_cons (snd_un ru_neg (snd_int)) (snd_nil)))))) (snd_int))) (sns_next))
theorem ok__law_plan_right (T : Txt K mg) : FnG P w K mg base CX0 2 T.a__law_plan_right T.fd__law_plan_right ["asks", "places", "plan"] (spD 3 K mg V__law_plan_right) := by
  refine fnD 3 5 D__law_plan_right T.F__law_plan_right sc__law_plan_right rfl rfl fun cdv A outer s H E hg hr => ⟨_, PSs.nox (pss_cons (ps_if (PW.pt (pw_or (pt_cmpR (r := rNeD K) (op_neD hr.units) (pe_callB (r := rLenA K) call_len (by rfl) T.z_len (by decide +kernel) (pa_cons (pv 2) (pa_nil))) (pe_callB (r := rLenA K) call_len (by rfl) T.z_len (by decide +kernel) (pa_cons (pv 0) (pa_nil))) (by first | exact nomark _ | rfl)) (pw_or1 (pt_not (pt_val (pe_callB (r := L2.rAll K) (cr_all rfl) (by rfl) T.z_all (by decide +kernel) (pa_cons (pe_lc (own := [("one", 7)]) rfl sc__law_plan_right.nd (pi_tupK (K := K) rfl (pv 2)) (blkOk_by (own := [("one", 7)]) (N := N__law_plan_right) (sc := defScope s__law_plan_right) (by decide +kernel)) (fun _ _ _ _ _ => pg_name (i := 7) sc__law_plan_right.nd rfl (Or.inl rfl)) (fun _ _ _ _ _ => pts_nil) (fun _ _ _ _ _ => pe_cmpR (r := rIn K false) op_in_seq (pv 7) (pe_tup (pa_cons (pe_int) (pa_cons (pe_int) (pa_nil)))) (by first | exact nomark _ | rfl))) (pa_nil)))))))) (pss_one (ps_ret (pe_bl))) (pss_nil)) (pss_cons (ps_set (i := 3) sc__law_plan_right.nd rfl (Or.inr rfl) (pe_lc (own := [("k", 4)]) rfl sc__law_plan_right.nd (pi_range1 (by rfl) T.z_range (pa_cons (pe_callB (r := rLenA K) call_len (by rfl) T.z_len (by decide +kernel) (pa_cons (pv 0) (pa_nil))) (pa_nil))) (blkOk_by (own := [("k", 4)]) (N := N__law_plan_right) (sc := defScope s__law_plan_right) (by decide +kernel)) (fun _ _ _ _ _ => pg_name (i := 4) sc__law_plan_right.nd rfl (Or.inl rfl)) (fun _ _ _ _ _ => pts_one (pt_cmpR (r := rEqD K) (op_eqD hr.units) (pe_ix (r := rIx K) ix_seq (pv 2) (pv 4) (fun _ _ => rfl)) (pe_int) (by first | exact nomark _ | rfl))) (fun _ _ _ _ _ => pe_tup (pa_cons (pv 4) (pa_cons (pe_callG (ok__law_later T) hg (hr.mono (by decide)) (by rfl) T.g__law_later T.F__law_later.kp T.b__law_later pass0 (pa_cons (pv 0) (pa_cons (pv 4) (pa_nil)))) (pa_nil)))))) (pss_cons (ps_if (pt_val (pe_callB (r := L2.rAny K) (cr_any rfl) (by rfl) T.z_any (by decide +kernel) (pa_cons (pe_lc (own := [("start", 5), ("end", 6)]) rfl sc__law_plan_right.nd (pi_listK (K := K) rfl (pv 3)) (blkOk_by (own := [("start", 5), ("end", 6)]) (N := N__law_plan_right) (sc := defScope s__law_plan_right) (by decide +kernel)) (fun _ _ _ _ _ => pg_tupK (K := K) 2 rfl rfl (pgs_cons (pg_name (i := 5) sc__law_plan_right.nd rfl (Or.inl rfl)) (pgs_cons (pg_name (i := 6) sc__law_plan_right.nd rfl (Or.inl rfl)) (pgs_nil)))) (fun _ _ _ _ _ => pts_nil) (fun _ _ _ _ _ => pe_cmpR op_lt (pv 6) (pe_int) (by first | exact nomark _ | rfl))) (pa_nil)))) (pss_one (ps_ret (pe_bl))) (pss_nil)) (pss_one (ps_ret (pe_callB (r := L2.rAll K) (cr_all rfl) (by rfl) T.z_all (by decide +kernel) (pa_cons (pe_lc (own := [("k", 4)]) rfl sc__law_plan_right.nd (pi_range1 (by rfl) T.z_range (pa_cons (pe_callB (r := rLenA K) call_len (by rfl) T.z_len (by decide +kernel) (pa_cons (pv 0) (pa_nil))) (pa_nil))) (blkOk_by (own := [("k", 4)]) (N := N__law_plan_right) (sc := defScope s__law_plan_right) (by decide +kernel)) (fun _ _ _ _ _ => pg_name (i := 4) sc__law_plan_right.nd rfl (Or.inr rfl)) (fun _ _ _ _ _ => pts_nil) (fun _ _ _ _ _ => pe_cmpR op_lt (pe_callB (r := rLenA K) call_len (by rfl) T.z_len (by decide +kernel) (pa_cons (pe_lc (own := [("start", 5), ("end", 6)]) rfl sc__law_plan_right.nd (pi_listK (K := K) rfl (pv 3)) (blkOk_by (own := [("start", 5), ("end", 6)]) (N := N__law_plan_right) (sc := ({ kind := .function, names := [(".0", .local), ("k", .cell), ("len", .globalImplicit), ("places", .cell), ("stays", .cell)], isGenerator := false, isCoroutine := false } : Scope)) (by decide +kernel)) (fun _ _ _ _ _ => pg_tupK (K := K) 2 rfl rfl (pgs_cons (pg_name (i := 5) sc__law_plan_right.nd rfl (Or.inl rfl)) (pgs_cons (pg_name (i := 6) sc__law_plan_right.nd rfl (Or.inl rfl)) (pgs_nil)))) (fun _ _ _ _ _ => pts_one (pt_chain op_lt op_lt (pv 5) (pv 4) (pv 6))) (fun _ _ _ _ _ => pv 5)) (pa_nil))) (pv 1) (by first | exact nomark _ | rfl))) (pa_nil)))))))), fun Z hK hC => ?_⟩
  obtain ⟨K2, sa, ns, cl, sp⟩ := Z
  cases hK
  cases hC
  exact sns_seq (sns_if (snd_or (snd_test (snd_op rr_ne (snd_callB rc_len (snd_cons (snd_var) (snd_nil))) (snd_callB rc_len (snd_cons (snd_var) (snd_nil))))) (snd_not (snd_tB (snd_callB rc_all (snd_cons (snd_ofL (snd_lc (vs := [7]) (by decide) (snd_iT (snd_var)) (sng_name) (snd_yes) (snd_op rr_in (snd_var) (snd_tup (snd_cons (snd_int) (snd_cons (snd_int) (snd_nil))))))) (snd_nil)))))) (sns_seq1 (sns_ret (snd_bl)) (sns_next)) (sns_next)) (sns_seq (sns_set (snd_ofL (snd_lc (vs := [4]) (by decide) (snd_i1 (snd_cons (snd_callB rc_len (snd_cons (snd_var) (snd_nil))) (snd_nil))) (sng_name) (snd_test (snd_op rr_eq (snd_op rr_ix (snd_var) (snd_var)) (snd_int))) (snd_tup (snd_cons (snd_var) (snd_cons (snd_call0 (snd_cons (snd_var) (snd_cons (snd_var) (snd_nil)))) (snd_nil))))))) (sns_seq (sns_if (snd_tB (snd_callB rc_any (snd_cons (snd_ofL (snd_lc (vs := [5, 6]) (by decide) (snd_iL (snd_var)) (sng_tup (sng_cons (sng_name) (sng_cons (sng_name) (sng_nil)))) (snd_yes) (snd_op rr_lt (snd_var) (snd_int)))) (snd_nil)))) (sns_seq1 (sns_ret (snd_bl)) (sns_next)) (sns_next)) (sns_seq1 (sns_ret (snd_callB rc_all (snd_cons (snd_ofL (snd_lc (vs := [4]) (by decide) (snd_i1 (snd_cons (snd_callB rc_len (snd_cons (snd_var) (snd_nil))) (snd_nil))) (sng_name) (snd_yes) (snd_op rr_lt (snd_callB rc_len (snd_cons (snd_ofL (snd_lc (vs := [5, 6]) (by decide) (snd_iL (snd_var)) (sng_tup (sng_cons (sng_name) (sng_cons (sng_name) (sng_nil)))) (snd_test (snd_chain rr_lt rr_lt (snd_var) (snd_var) (snd_var))) (snd_var))) (snd_nil))) (snd_var)))) (snd_nil)))) (sns_next))))
theorem ok__law_greedy (T : Txt K mg) : FnG P w K mg base CX0 3 T.a__law_greedy T.fd__law_greedy ["state", "asks", "places"] (spD 3 K mg V__law_greedy) := by
  refine fnD 3 3 D__law_greedy T.F__law_greedy sc__law_greedy rfl rfl fun cdv A outer s H E hg hr => ⟨_, PSs.nox (pss_cons (ps_set (i := 3) sc__law_greedy.nd rfl (Or.inl rfl) (pe_op op_rep (pe_lst (pa_cons (pe_int) (pa_nil))) (pe_callB (r := rLenA K) call_len (by rfl) T.z_len (by decide +kernel) (pa_cons (pv 1) (pa_nil))))) (pss_cons (ps_for PassesOwn.never rfl (pi_range1 (by rfl) T.z_range (pa_cons (pe_op op_mulW (pe_int) (pe_callB (r := rLenA K) call_len (by rfl) T.z_len (by decide +kernel) (pa_cons (pv 1) (pa_nil)))) (pa_nil))) (pg_name (i := 4) sc__law_greedy.nd rfl (Or.inl rfl)) (pss_cons (ps_set (i := 5) sc__law_greedy.nd rfl (Or.inl rfl) (pe_callG (ok__law_next T) hg (hr.mono (by decide)) (by rfl) T.g__law_next T.F__law_next.kp T.b__law_next pass0 (pa_cons (pv 0) (pa_cons (pe_callB (r := rLenA K) call_len (by rfl) T.z_len (by decide +kernel) (pa_cons (pv 1) (pa_nil))) (pa_nil))))) (pss_cons (ps_asg (pe_int) (pg_sub (pv 3) (pv 5) set_list)) (pss_one (ps_if (pt_not (pt_val (pe_callG (ok__law_plan_right T) hg (hr.mono (by decide)) (by rfl) T.g__law_plan_right T.F__law_plan_right.kp T.b__law_plan_right pass0 (pa_cons (pv 1) (pa_cons (pv 2) (pa_cons (pe_callTy (r := rTupA K) call_tuple_of (by rfl) T.z_tuple (by decide +kernel) (pa_cons (pv 3) pa_nil)) (pa_nil))))))) (pss_one (ps_asg (pe_int) (pg_sub (pv 3) (pv 5) set_list))) (pss_nil)))))) (pss_one (ps_ret (pe_callTy (r := rTupA K) call_tuple_of (by rfl) T.z_tuple (by decide +kernel) (pa_cons (pv 3) (pa_nil))))))), fun Z hK hC => ?_⟩
  obtain ⟨K2, sa, ns, cl, sp⟩ := Z
  cases hK
  cases hC
  exact sns_seq (sns_new (snd_repL (snd_lst (snd_cons (snd_int) (snd_nil))) (snd_callB rc_len (snd_cons (snd_var) (snd_nil))))) (sns_seq (sns_for (snd_i1 (snd_cons (snd_op rr_mul (snd_int) (snd_callB rc_len (snd_cons (snd_var) (snd_nil)))) (snd_nil))) (sng_name) (sns_seq (sns_set (snd_call0 (snd_cons (snd_var) (snd_cons (snd_callB rc_len (snd_cons (snd_var) (snd_nil))) (snd_nil))))) (sns_seq (sns_setO (snd_var) (snd_int)) (sns_seq1 (sns_if (snd_not (snd_tB (snd_call0 (snd_cons (snd_var) (snd_cons (snd_var) (snd_cons (snd_tupO) (snd_nil))))))) (sns_seq1 (sns_setO (snd_var) (snd_int)) (sns_next)) (sns_next)) (sns_seq1 sns_wipe (sns_next)))))) (sns_seq1 (sns_frz (sns_ret (snd_callB rc_tuple (snd_cons (snd_var) (snd_nil))))) (sns_next)))
theorem ok__law_plans (T : Txt K mg) : FnG P w K mg base CX0 4 T.a__law_plans T.fd__law_plans ["state", "asks", "places"] (spD 3 K mg V__law_plans) := by
  refine fnD 3 3 D__law_plans T.F__law_plans sc__law_plans rfl rfl fun cdv A outer s H E hg hr => ⟨_, PSs.nox (pss_cons (ps_set (i := 3) sc__law_plans.nd rfl (Or.inl rfl) (pe_callB (r := rLenA K) call_len (by rfl) T.z_len (by decide +kernel) (pa_cons (pv 1) (pa_nil)))) (pss_cons (ps_set (i := 4) sc__law_plans.nd rfl (Or.inl rfl) (pe_lst (pa_cons (pe_op (r := rRepA K) op_repA (pe_tup (pa_cons (pe_int) (pa_nil))) (pv 3)) (pa_cons (pe_op (r := rRepA K) op_repA (pe_tup (pa_cons (pe_int) (pa_nil))) (pv 3)) (pa_cons (pe_callTy (r := rTupA K) call_tuple_of (by rfl) T.z_tuple (by decide +kernel) (pa_cons (pe_lc (own := [("k", 5)]) rfl sc__law_plans.nd (pi_range1 (by rfl) T.z_range (pa_cons (pv 3) (pa_nil))) (blkOk_by (own := [("k", 5)]) (N := N__law_plans) (sc := defScope s__law_plans) (by decide +kernel)) (fun _ _ _ _ _ => pg_name (i := 5) sc__law_plans.nd rfl (Or.inl rfl)) (fun _ _ _ _ _ => pts_nil) (fun _ _ _ _ _ => pe_callTy call_int1 (by rfl) T.z_int (by decide +kernel) (pa_cons (pe_cmpR op_ge (pe_callG (ok__law_later T) hg (hr.mono (by decide)) (by rfl) T.g__law_later T.F__law_later.kp T.b__law_later pass0 (pa_cons (pv 1) (pa_cons (pv 5) (pa_nil)))) (pe_int) (by first | exact nomark _ | rfl)) (pa_nil)))) (pa_nil))) (pa_cons (pe_callTy (r := rTupA K) call_tuple_of (by rfl) T.z_tuple (by decide +kernel) (pa_cons (pe_lc (own := [("k", 5)]) rfl sc__law_plans.nd (pi_range1 (by rfl) T.z_range (pa_cons (pv 3) (pa_nil))) (blkOk_by (own := [("k", 5)]) (N := N__law_plans) (sc := defScope s__law_plans) (by decide +kernel)) (fun _ _ _ _ _ => pg_name (i := 5) sc__law_plans.nd rfl (Or.inl rfl)) (fun _ _ _ _ _ => pts_nil) (fun _ _ _ _ _ => pe_callG (ok__law_next T) hg (hr.mono (by decide)) (by rfl) T.g__law_next T.F__law_next.kp T.b__law_next pass0 (pa_cons (pv 0) (pa_cons (pe_int) (pa_nil))))) (pa_nil))) (pa_nil))))))) (pss_cons (ps_set (i := 4) sc__law_plans.nd rfl (Or.inl rfl) (pe_op (r := rCatS K) op_catS (pv 4) (pe_lst (pa_cons (pe_callTy (r := rTupA K) call_tuple_of (by rfl) T.z_tuple (by decide +kernel) (pa_cons (pe_lc (own := [("k", 5)]) rfl sc__law_plans.nd (pi_range1 (by rfl) T.z_range (pa_cons (pv 3) (pa_nil))) (blkOk_by (own := [("k", 5)]) (N := N__law_plans) (sc := defScope s__law_plans) (by decide +kernel)) (fun _ _ _ _ _ => pg_name (i := 5) sc__law_plans.nd rfl (Or.inl rfl)) (fun _ _ _ _ _ => pts_nil) (fun _ _ _ _ _ => pe_op op_mulW (pe_callTy call_int1 (by rfl) T.z_int (by decide +kernel) (pa_cons (pe_cmpR op_ge (pe_callG (ok__law_later T) hg (hr.mono (by decide)) (by rfl) T.g__law_later T.F__law_later.kp T.b__law_later pass0 (pa_cons (pv 1) (pa_cons (pv 5) (pa_nil)))) (pe_int) (by first | exact nomark _ | rfl)) (pa_nil))) (pe_callG (ok__law_next T) hg (hr.mono (by decide)) (by rfl) T.g__law_next T.F__law_next.kp T.b__law_next pass0 (pa_cons (pv 0) (pa_cons (pe_int) (pa_nil)))))) (pa_nil))) (pa_cons (pe_op (r := rRepA K) op_repA (pe_tup (pa_cons (pe_int) (pa_nil))) (pe_op op_add (pv 3) (pe_int))) (pa_cons (pe_op (r := rCatA K) op_catA (pe_tup (pa_cons (pe_int) (pa_nil))) (pe_op (r := rRepA K) op_repA (pe_tup (pa_cons (pe_int) (pa_nil))) (pe_op op_sub (pv 3) (pe_int)))) (pa_nil))))))) (pss_cons (ps_if (pt_cmpR op_gt (pv 3) (pe_int) (by first | exact nomark _ | rfl)) (pss_one (ps_set (i := 4) sc__law_plans.nd rfl (Or.inl rfl) (pe_op (r := rCatS K) op_catS (pv 4) (pe_lc (own := [("k", 5)]) rfl sc__law_plans.nd (pi_range1 (by rfl) T.z_range (pa_cons (pe_int) (pa_nil))) (blkOk_by (own := [("k", 5)]) (N := N__law_plans) (sc := defScope s__law_plans) (by decide +kernel)) (fun _ _ _ _ _ => pg_name (i := 5) sc__law_plans.nd rfl (Or.inl rfl)) (fun _ _ _ _ _ => pts_nil) (fun _ _ _ _ _ => pe_callG (ok__law_greedy T) hg (hr.mono (by decide)) (by rfl) T.g__law_greedy T.F__law_greedy.kp T.b__law_greedy pass0 (pa_cons (pv 0) (pa_cons (pv 1) (pa_cons (pv 2) (pa_nil))))))))) (pss_nil)) (pss_one (ps_ret (pv 4))))))), fun Z hK hC => ?_⟩
  obtain ⟨K2, sa, ns, cl, sp⟩ := Z
  cases hK
  cases hC
  exact sns_seq (sns_set (snd_callB rc_len (snd_cons (snd_var) (snd_nil)))) (sns_seq (sns_set (snd_ofL (snd_lst (snd_cons (snd_op rr_repA (snd_tup (snd_cons (snd_int) (snd_nil))) (snd_var)) (snd_cons (snd_op rr_repA (snd_tup (snd_cons (snd_int) (snd_nil))) (snd_var)) (snd_cons (snd_callB rc_tuple (snd_cons (snd_ofL (snd_lc (vs := [5]) (by decide) (snd_i1 (snd_cons (snd_var) (snd_nil))) (sng_name) (snd_yes) (snd_callB rc_int1 (snd_cons (snd_op rr_ge (snd_call0 (snd_cons (snd_var) (snd_cons (snd_var) (snd_nil)))) (snd_int)) (snd_nil))))) (snd_nil))) (snd_cons (snd_callB rc_tuple (snd_cons (snd_ofL (snd_lc (vs := [5]) (by decide) (snd_i1 (snd_cons (snd_var) (snd_nil))) (sng_name) (snd_yes) (snd_call0 (snd_cons (snd_var) (snd_cons (snd_int) (snd_nil)))))) (snd_nil))) (snd_nil)))))))) (sns_seq (sns_set (snd_ofL (snd_catV (snd_var) (snd_ofL (snd_lst (snd_cons (snd_callB rc_tuple (snd_cons (snd_ofL (snd_lc (vs := [5]) (by decide) (snd_i1 (snd_cons (snd_var) (snd_nil))) (sng_name) (snd_yes) (snd_op rr_mul (snd_callB rc_int1 (snd_cons (snd_op rr_ge (snd_call0 (snd_cons (snd_var) (snd_cons (snd_var) (snd_nil)))) (snd_int)) (snd_nil))) (snd_call0 (snd_cons (snd_var) (snd_cons (snd_int) (snd_nil))))))) (snd_nil))) (snd_cons (snd_op rr_repA (snd_tup (snd_cons (snd_int) (snd_nil))) (snd_op rr_add (snd_var) (snd_int))) (snd_cons (snd_op rr_catT (snd_tup (snd_cons (snd_int) (snd_nil))) (snd_op rr_repA (snd_tup (snd_cons (snd_int) (snd_nil))) (snd_op rr_sub (snd_var) (snd_int)))) (snd_nil))))))))) (sns_seq (sns_if (snd_test (snd_op rr_gt (snd_var) (snd_int))) (sns_seq1 (sns_set (snd_ofL (snd_catV (snd_var) (snd_ofL (snd_lc (vs := [5]) (by decide) (snd_i1 (snd_cons (snd_int) (snd_nil))) (sng_name) (snd_yes) (snd_call0 (snd_cons (snd_var) (snd_cons (snd_var) (snd_cons (snd_var) (snd_nil)))))))))) (sns_next)) (sns_next)) (sns_seq1 (sns_ret (snd_var)) (sns_next)))))
theorem ok__law_bound (T : Txt K mg) : FnG P w K mg base CX0 2 T.a__law_bound T.fd__law_bound ["asks", "costs", "places", "prices"] (spD 4 K mg V__law_bound) := by
  refine fnD 4 3 D__law_bound T.F__law_bound sc__law_bound rfl rfl fun cdv A outer s H E hg hr => ⟨_, PSs.nox (pss_cons (ps_set (i := 4) sc__law_bound.nd rfl (Or.inl rfl) (pe_op op_sub (pe_callB (r := rSumA K) (cr_sumA rfl) (by rfl) T.z_sum (by decide +kernel) (pa_cons (pv 1) (pa_nil))) (pe_op op_mulW (pe_op op_sub (pv 2) (pe_int)) (pe_callB (r := rSumA K) (cr_sumA rfl) (by rfl) T.z_sum (by decide +kernel) (pa_cons (pv 3) (pa_nil)))))) (pss_cons (ps_for PassesOwn.never rfl (pi_range1 (by rfl) T.z_range (pa_cons (pe_callB (r := rLenA K) call_len (by rfl) T.z_len (by decide +kernel) (pa_cons (pv 0) (pa_nil))) (pa_nil))) (pg_name (i := 5) sc__law_bound.nd rfl (Or.inl rfl)) (pss_cons (ps_set (i := 6) sc__law_bound.nd rfl (Or.inl rfl) (pe_callG (ok__law_later T) hg (hr.mono (by decide)) (by rfl) T.g__law_later T.F__law_later.kp T.b__law_later pass0 (pa_cons (pv 0) (pa_cons (pv 5) (pa_nil))))) (pss_one (ps_if (pt_cmpR op_ge (pv 6) (pe_int) (by first | exact nomark _ | rfl)) (pss_one (ps_set (i := 4) sc__law_bound.nd rfl (Or.inl rfl) (pe_op op_sub (pv 4) (pe_callB (call_max2 rfl) (by rfl) T.z_max (by decide +kernel) (pa_cons (pe_int) (pa_cons (pe_op op_sub (pe_ix (r := rIx K) ix_seq (pv 1) (pv 5) (fun _ _ => rfl)) (pe_callB (r := rSumA K) (cr_sumA rfl) (by rfl) T.z_sum (by decide +kernel) (pa_cons (pe_slice (r := rSlA K) sl_tupA (pv 3) (po_some (pe_op op_add (pv 5) (pe_int))) (po_some (pv 6))) (pa_nil)))) (pa_nil))))))) (pss_nil))))) (pss_one (ps_ret (pv 4))))), fun Z hK hC => ?_⟩
  obtain ⟨K2, sa, ns, cl, sp⟩ := Z
  cases hK
  cases hC
  exact sns_seq (sns_set (snd_op rr_sub (snd_callB rc_sumA (snd_cons (snd_var) (snd_nil))) (snd_op rr_mul (snd_op rr_sub (snd_var) (snd_int)) (snd_callB rc_sumA (snd_cons (snd_var) (snd_nil)))))) (sns_seq (sns_fgt (sns_for (snd_i1 (snd_cons (snd_callB rc_len (snd_cons (snd_var) (snd_nil))) (snd_nil))) (sng_name) (sns_seq (sns_set (snd_call0 (snd_cons (snd_var) (snd_cons (snd_var) (snd_nil))))) (sns_seq1 (sns_if (snd_test (snd_op rr_ge (snd_var) (snd_int))) (sns_seq1 (sns_set (snd_op rr_sub (snd_var) (snd_callB rc_max2 (snd_cons (snd_int) (snd_cons (snd_op rr_sub (snd_op rr_ix (snd_var) (snd_var)) (snd_callB rc_sumA (snd_cons (snd_slT (snd_var) (snd_soO (snd_op rr_add (snd_var) (snd_int))) (snd_soO (snd_var))) (snd_nil)))) (snd_nil)))))) (sns_next)) (sns_next)) (sns_seq1 sns_wipe (sns_next)))))) (sns_seq1 (sns_ret (snd_var)) (sns_next)))
theorem ok__law_error (T : Txt K mg) : FnE P w K mg base CX0 1 T.a__law_error T.fd__law_error ["e"] (spErr T.err) := by
  refine FnE.body T.F__law_error sc__law_error (fun p xs H Q E h => ?_) (fun cdv A outer s H xs Q E p hot room h => ?_)
  · obtain ⟨rfl, _⟩ := h
    rfl
  obtain ⟨rfl, i, hi, hz, hf, h⟩ := h
  have C := T.errOk.ec i hi
  have hp : p ∈ [p] := List.mem_singleton.mpr rfl
  refine ⟨_, PSs.nox (pss_cons (ps_set (i := 1) sc__law_error.nd rfl (Or.inl rfl) (pe_lst
      (pa_cons (pe_callB (call_isH C hz hf hp) (by rfl) T.z_isinstance (by decide +kernel) (pa_cons (pv 0) (pa_cons (pe_glob (v := .ref T.err.a0) (by rfl) T.err.g0 rfl) pa_nil)))
      (pa_cons (pe_callB (call_isH C hz hf hp) (by rfl) T.z_isinstance (by decide +kernel) (pa_cons (pv 0) (pa_cons (pe_glob (v := .ref T.err.a1) (by rfl) T.err.g1 rfl) pa_nil)))
      (pa_cons (pe_callB (call_isH C hz hf hp) (by rfl) T.z_isinstance (by decide +kernel) (pa_cons (pv 0) (pa_cons (pe_glob (v := .ref T.err.a2) (by rfl) T.err.g2 rfl) pa_nil)))
      (pa_cons (pe_callB (call_isH C hz hf hp) (by rfl) T.z_isinstance (by decide +kernel) (pa_cons (pv 0) (pa_cons (pe_glob (v := .ref T.err.a3) (by rfl) T.err.g3 rfl) pa_nil)))
      (pa_cons (pe_callB (call_isH C hz hf hp) (by rfl) T.z_isinstance (by decide +kernel) (pa_cons (pv 0) (pa_cons (pe_glob (v := .ref T.err.a4) (by rfl) T.err.g4 rfl) pa_nil))) pa_nil)))))))
    (pss_cons (ps_if (pt_cmpR op_ne (pe_sumHot ⟨p, hot, hp⟩ (pv 1) (by rfl) T.z_sum T.z_int [] (by rfl) (by decide +kernel) (by rfl) (by decide +kernel) (by decide +kernel) (fun _ => by rfl) (fun _ => by rfl) (fun _ => by rfl) (by decide)) pe_int (by first | exact nomark _ | rfl)) (pss_one (ps_ret pe_str)) pss_nil)
    (pss_cons (ps_set (i := 2) sc__law_error.nd rfl (Or.inl rfl) (pe_ix (r := rIx K) ix_seq (pe_lst (pa_cons pe_str (pa_cons pe_str (pa_cons pe_str (pa_cons pe_str (pa_cons pe_str pa_nil))))))
      (pe_bm PySem.F.plainAttrs_list PySem.F.slot_list_index PySem.F.type_list_index mt_index (pv 1) (pa_cons pe_bl pa_nil)) (fun _ _ => rfl)))
    (pss_cons (ps_if (pt_cmpR op_eq (pv 2) pe_str (by first | exact nomark _ | rfl)) (pss_one (ps_ret pe_never)) pss_nil)
    (pss_one (ps_ret (pv 2))))))), ?_⟩
  exact err_reads2 T.err T.errOk hi rfl (by show 2 < 4; decide) h
theorem ok__check_shelf (T : Txt K mg) : FnG P w K mg base (L2N.CX P w) 1 T.a__check_shelf T.fd__check_shelf ["asks", "costs", "places"] (spD 3 K mg V__check_shelf) := by
  refine fnD 3 3 D__check_shelf T.F__check_shelf sc__check_shelf rfl rfl fun cdv A outer s H E hg hr => ⟨_, (pss_cons (ps_if (pt_cmpR op_gt (pe_callB (r := rLenA K) call_len (by rfl) T.z_len (by decide +kernel) (pa_cons (pv 0) (pa_nil))) (pe_glob (v := V.int 60) (by rfl) T.g_MAX_ASKS.choose_spec ⟨_, rfl⟩) (by first | exact nomark _ | rfl)) (pss_one (L2N.ps_raise rfl (L2N.takes_of rfl rfl rfl rfl) (L2N.pmk_own PySem.F.excBase_ValueError T.e_NotAllowed.x1 T.e_NotAllowed.g T.e_NotAllowed.k (raises_own T.e_NotAllowed.bs T.e_NotAllowed.ty) (by rfl)))) (pss_nil)) (pss_cons (ps_for (passes_of rfl) rfl (pi_tupK (K := K) rfl (pv 0)) (pg_name (i := 3) sc__check_shelf.nd rfl (Or.inl rfl)) (pss_one (ps_if (pt_not (pt_chain op_le op_le (pe_int) (pv 3) (pe_glob (v := V.int 99) (by rfl) T.g_MAX_PIECE.choose_spec ⟨_, rfl⟩))) (pss_one (L2N.ps_raise rfl (L2N.takes_of rfl rfl rfl rfl) (L2N.pmk_own PySem.F.excBase_ValueError T.e_NotAllowed.x1 T.e_NotAllowed.g T.e_NotAllowed.k (raises_own T.e_NotAllowed.bs T.e_NotAllowed.ty) (by rfl)))) (pss_nil)))) (pss_cons (ps_if (pt_cmpR (r := rNeD K) (op_neD hr.units) (pe_callB (r := rLenA K) call_len (by rfl) T.z_len (by decide +kernel) (pa_cons (pv 1) (pa_nil))) (pe_callB (r := rLenA K) call_len (by rfl) T.z_len (by decide +kernel) (pa_cons (pv 0) (pa_nil))) (by first | exact nomark _ | rfl)) (pss_one (L2N.ps_raise rfl (L2N.takes_of rfl rfl rfl rfl) (L2N.pmk_own PySem.F.excBase_ValueError T.e_NotAllowed.x1 T.e_NotAllowed.g T.e_NotAllowed.k (raises_own T.e_NotAllowed.bs T.e_NotAllowed.ty) (by rfl)))) (pss_nil)) (pss_cons (ps_set (i := 4) sc__check_shelf.nd rfl (.inl rfl) pe_dnewK (by rfl)) (pss_cons (ps_for (passes_of rfl) rfl (pi_zipK (K := K) rfl (by rfl) T.z_zip (pa_cons (pv 0) (pa_cons (pv 1) (pa_nil)))) (pg_tup rfl (pgs_cons (pg_name (i := 3) sc__check_shelf.nd rfl (Or.inl rfl)) (pgs_cons (pg_name (i := 5) sc__check_shelf.nd rfl (Or.inl rfl)) (pgs_nil)))) (pss_one (ps_if (PW.pt (pw_or (pt_not (pt_chain op_le op_le (pe_int) (pv 5) (pe_glob (v := V.int 9999) (by rfl) T.g_MAX_COST.choose_spec ⟨_, rfl⟩))) (pw_or1 (pt_cmpR op_ne (pe_dsetd (pv 4) (pv 3) (pv 5) ⟨by rfl, by rfl, by rfl, by rfl⟩) (pv 5) (by first | exact nomark _ | rfl))))) (pss_one (L2N.ps_raise rfl (L2N.takes_of rfl rfl rfl rfl) (L2N.pmk_own PySem.F.excBase_ValueError T.e_NotAllowed.x1 T.e_NotAllowed.g T.e_NotAllowed.k (raises_own T.e_NotAllowed.bs T.e_NotAllowed.ty) (by rfl)))) (pss_nil)))) (pss_one (ps_if (pt_not (pt_chain op_le op_le (pe_int) (pv 2) (pe_glob (v := V.int 8) (by rfl) T.g_MAX_PLACES.choose_spec ⟨_, rfl⟩))) (pss_one (L2N.ps_raise rfl (L2N.takes_of rfl rfl rfl rfl) (L2N.pmk_own PySem.F.excBase_ValueError T.e_NotAllowed.x1 T.e_NotAllowed.g T.e_NotAllowed.k (raises_own T.e_NotAllowed.bs T.e_NotAllowed.ty) (by rfl)))) (pss_nil)))))))), fun Z hK hC => ?_⟩
  obtain ⟨K2, sa, ns, cl, sp⟩ := Z
  cases hK
  cases hC
  exact sns_seq (sns_if (snd_test (snd_op rr_gt (snd_callB rc_len (snd_cons (snd_var) (snd_nil))) (snd_int))) (sns_seq1 (sns_raise T.e_NotAllowed.g) (sns_next)) (sns_next)) (sns_seq (sns_for (snd_iT (snd_var)) (sng_name) (sns_seq1 (sns_if (snd_not (snd_test (snd_chain rr_le rr_le (snd_int) (snd_var) (snd_int)))) (sns_seq1 (sns_raise T.e_NotAllowed.g) (sns_next)) (sns_next)) (sns_seq1 sns_wipe (sns_next)))) (sns_seq (sns_if (snd_test (snd_op rr_ne (snd_callB rc_len (snd_cons (snd_var) (snd_nil))) (snd_callB rc_len (snd_cons (snd_var) (snd_nil))))) (sns_seq1 (sns_raise T.e_NotAllowed.g) (sns_next)) (sns_next)) (sns_seq (sns_newK) (sns_seq (sns_for (snd_iZ (snd_cons (snd_var) (snd_cons (snd_var) (snd_nil)))) (sng_tup (sng_cons (sng_name) (sng_cons (sng_name) (sng_nil)))) (sns_seq1 (sns_ifSetd (snd_not (snd_test (snd_chain rr_le rr_le (snd_int) (snd_var) (snd_int)))) (snd_var) (snd_var) (snd_var) (sns_seq1 (sns_raise T.e_NotAllowed.g) (sns_next)) (sns_next)) (sns_seq1 sns_wipe (sns_next)))) (sns_seq1 (sns_if (snd_not (snd_test (snd_chain rr_le rr_le (snd_int) (snd_var) (snd_int)))) (sns_seq1 (sns_raise T.e_NotAllowed.g) (sns_next)) (sns_next)) (sns_next))))))
theorem ok__stays (T : Txt K mg) : FnG P w K mg base CX0 1 T.a__stays T.fd__stays ["asks"] (spD 1 K mg V__stays) := by
  refine fnD 1 4 D__stays T.F__stays sc__stays rfl rfl fun cdv A outer s H E hg hr => ⟨_, PSs.nox (pss_cons (ps_set (i := 1) sc__stays.nd rfl (.inl rfl) pe_dnewK (by rfl)) (pss_cons (ps_set (i := 2) sc__stays.nd rfl (Or.inl rfl) (pe_lst (pa_nil))) (pss_cons (ps_for PassesOwn.never rfl (pi_enumT (K := K) rfl (by rfl) T.z_enumerate (pa_cons (pv 0) (pa_nil))) (pg_tup rfl (pgs_cons (pg_name (i := 3) sc__stays.nd rfl (Or.inl rfl)) (pgs_cons (pg_name (i := 4) sc__stays.nd rfl (Or.inl rfl)) (pgs_nil)))) (pss_cons (ps_if (pt_cmp (pc_din (u1 hr) (pv 4) (pv 1))) (pss_one (ps_expr (pe_bm PySem.F.plainAttrs_list PySem.F.slot_list_append PySem.F.type_list_append mt_append (pv 2) (pa_cons (pe_tup (pa_cons (pe_dget (u1 hr) (pv 1) (pv 4) (fun _ _ => rfl)) (pa_cons (pv 3) (pa_nil)))) pa_nil)))) (pss_nil)) (pss_one (ps_dput (u1 hr) (pv 1) (pv 4) (pv 3) (by rfl))))) (pss_one (ps_ret (pe_callB (r := rSortU K 2 16777216) (cr_sortT (by decide)) (by rfl) T.z_sorted (by decide +kernel) (pa_cons (pv 2) (pa_nil)))))))), fun Z hK hC => ?_⟩
  obtain ⟨K2, sa, ns, cl, sp⟩ := Z
  cases hK
  cases hC
  exact sns_seq (sns_newK) (sns_seq (sns_new (snd_lst (snd_nil))) (sns_seq (sns_for (snd_iET (snd_cons (snd_var) (snd_nil))) (sng_tup (sng_cons (sng_name) (sng_cons (sng_name) (sng_nil)))) (sns_seq (sns_if (snd_tB (snd_inD (snd_var))) (sns_seq1 (sns_app (snd_tup (snd_cons (snd_getD (snd_var)) (snd_cons (snd_var) (snd_nil))))) (sns_next)) (sns_next)) (sns_seq1 (sns_putD (snd_var) (snd_var)) (sns_seq1 sns_wipe (sns_next))))) (sns_seq1 (sns_frz (sns_ret (snd_ofL (snd_callBL rc_sortP (snd_cons (snd_var) (snd_nil)))))) (sns_next))))
theorem ok__check_plan (T : Txt K mg) : FnG P w K mg base (L2N.CX P w) 2 T.a__check_plan T.fd__check_plan ["asks", "places", "plan"] (spD 3 K mg V__check_plan) := by
  refine fnD 3 7 D__check_plan T.F__check_plan sc__check_plan rfl rfl fun cdv A outer s H E hg hr => ⟨_, (pss_cons (ps_if (pt_cmpR (r := rNeD K) (op_neD hr.units) (pe_callB (r := rLenA K) call_len (by rfl) T.z_len (by decide +kernel) (pa_cons (pv 2) (pa_nil))) (pe_callB (r := rLenA K) call_len (by rfl) T.z_len (by decide +kernel) (pa_cons (pv 0) (pa_nil))) (by first | exact nomark _ | rfl)) (pss_one (L2N.ps_raise rfl (L2N.takes_of rfl rfl rfl rfl) (L2N.pmk_own PySem.F.excBase_ValueError T.e_NotAllowed.x1 T.e_NotAllowed.g T.e_NotAllowed.k (raises_own T.e_NotAllowed.bs T.e_NotAllowed.ty) (by rfl)))) (pss_nil)) (pss_cons (ps_set (i := 3) sc__check_plan.nd rfl (Or.inl rfl) (pe_op op_rep (pe_lst (pa_cons (pe_int) (pa_nil))) (pe_callB (r := rLenA K) call_len (by rfl) T.z_len (by decide +kernel) (pa_cons (pv 0) (pa_nil))))) (pss_cons (ps_setDc (i := 4) (own := [("first", 8), ("second", 9)]) rfl sc__check_plan.nd rfl rfl (sw_trueD rfl rfl rfl (by decide +kernel)) (pi_listK (K := K) rfl (pe_callG (ok__stays T) hg (hr.mono (by decide)) (by rfl) T.g__stays T.F__stays.kp T.b__stays pass0 (pa_cons (pv 0) (pa_nil)))) (blkOk_by (own := [("first", 8), ("second", 9)]) (N := N__check_plan) (sc := defScope s__check_plan) (by decide +kernel)) (fun _ _ _ _ _ => pg_tupK (K := K) 2 rfl rfl (pgs_cons (pg_name (i := 8) sc__check_plan.nd rfl (Or.inl rfl)) (pgs_cons (pg_name (i := 9) sc__check_plan.nd rfl (Or.inl rfl)) (pgs_nil)))) (fun _ _ _ _ _ => pts_nil) (fun _ _ _ _ _ => pv 8) (fun _ _ _ _ _ => pv 9)) (pss_one (ps_for (passes_of rfl) rfl (pi_enumT (K := K) rfl (by rfl) T.z_enumerate (pa_cons (pv 2) (pa_nil))) (pg_tup rfl (pgs_cons (pg_name (i := 5) sc__check_plan.nd rfl (Or.inl rfl)) (pgs_cons (pg_name (i := 6) sc__check_plan.nd rfl (Or.inl rfl)) (pgs_nil)))) (pss_cons (ps_if (pt_cmpR (r := rEqD K) (op_eqD hr.units) (pv 6) (pe_int) (by first | exact nomark _ | rfl)) (pss_one (ps_continue)) (pss_nil)) (pss_cons (ps_if (PW.pt (pw_or (pt_cmpR (r := rNeD K) (op_neD hr.units) (pv 6) (pe_int) (by first | exact nomark _ | rfl)) (pw_or1 (pt_cmp (pc_dnotin (u1 hr) (pv 5) (pv 4)))))) (pss_one (L2N.ps_raise rfl (L2N.takes_of rfl rfl rfl rfl) (L2N.pmk_own PySem.F.excBase_ValueError T.e_NotAllowed.x1 T.e_NotAllowed.g T.e_NotAllowed.k (raises_own T.e_NotAllowed.bs T.e_NotAllowed.ty) (by rfl)))) (pss_nil)) (pss_one (ps_for (passes_of rfl) rfl (pi_range2 (by rfl) T.z_range (pa_cons (pe_op op_add (pv 5) (pe_int)) (pa_cons (pe_dget (u1 hr) (pv 4) (pv 5) (fun _ _ => rfl)) (pa_nil)))) (pg_name (i := 7) sc__check_plan.nd rfl (Or.inl rfl)) (pss_cons (ps_augS (pv 3) (pv 7) get_list (pe_int) ip_add set_list) (pss_one (ps_if (pt_cmpR op_gt (pe_ix (r := rIx K) ix_seq (pv 3) (pv 7) (fun _ _ => rfl)) (pe_op op_sub (pv 1) (pe_int)) (by first | exact nomark _ | rfl)) (pss_one (L2N.ps_raise rfl (L2N.takes_of rfl rfl rfl rfl) (L2N.pmk_own PySem.F.excBase_ValueError T.e_NotAllowed.x1 T.e_NotAllowed.g T.e_NotAllowed.k (raises_own T.e_NotAllowed.bs T.e_NotAllowed.ty) (by rfl)))) (pss_nil))))))))))))), fun Z hK hC => ?_⟩
  obtain ⟨K2, sa, ns, cl, sp⟩ := Z
  cases hK
  cases hC
  exact sns_seq (sns_if (snd_test (snd_op rr_ne (snd_callB rc_len (snd_cons (snd_var) (snd_nil))) (snd_callB rc_len (snd_cons (snd_var) (snd_nil))))) (sns_seq1 (sns_raise T.e_NotAllowed.g) (sns_next)) (sns_next)) (sns_seq (sns_new (snd_repL (snd_lst (snd_cons (snd_int) (snd_nil))) (snd_callB rc_len (snd_cons (snd_var) (snd_nil))))) (sns_seq (sns_newDk (snd_dc (vs := [8, 9]) (by decide) (snd_iL (snd_call0 (snd_cons (snd_var) (snd_nil)))) (sng_tup (sng_cons (sng_name) (sng_cons (sng_name) (sng_nil)))) (snd_yes) (snd_var) (snd_var))) (sns_seq1 (sns_fgt (sns_for (snd_iET (snd_cons (snd_var) (snd_nil))) (sng_tup (sng_cons (sng_name) (sng_cons (sng_name) (sng_nil)))) (sns_seq (sns_if (snd_test (snd_op rr_eq (snd_var) (snd_int))) (sns_seq1 (sns_fgt sns_cont) (sns_next)) (sns_next)) (sns_seq (sns_if (snd_or (snd_test (snd_op rr_ne (snd_var) (snd_int))) (snd_tB (snd_ninD (snd_var)))) (sns_seq1 (sns_raise T.e_NotAllowed.g) (sns_next)) (sns_next)) (sns_seq1 (sns_fgt (sns_for (snd_i2 (snd_cons (snd_op rr_add (snd_var) (snd_int)) (snd_cons (snd_getD (snd_var)) (snd_nil)))) (sng_name) (sns_seq (sns_augO (snd_var) (snd_int)) (sns_seq1 (sns_if (snd_test (snd_op rr_gt (snd_ixO (snd_var)) (snd_op rr_sub (snd_var) (snd_int)))) (sns_seq1 (sns_raise T.e_NotAllowed.g) (sns_next)) (sns_next)) (sns_seq1 sns_wipe (sns_next)))))) (sns_seq1 sns_wipe (sns_next))))))) (sns_next))))
theorem ok_plan_work (T : Txt K mg) : FnG P w K mg base (L2N.CX P w) 3 T.a_plan_work T.fd_plan_work ["asks", "costs", "places", "plan"] (spD 4 K mg V_plan_work) := by
  refine fnD 4 2 D_plan_work T.F_plan_work sc_plan_work rfl rfl fun cdv A outer s H E hg hr => ⟨_, (pss_cons (ps_expr (pe_callG (ok__check_shelf T) hg (hr.mono (by decide)) (by rfl) T.g__check_shelf T.F__check_shelf.kp T.b__check_shelf (L2N.passes_call (L2N.takes_of rfl rfl rfl rfl) fun _ _ _ _ h => h) (pa_cons (pv 0) (pa_cons (pv 1) (pa_cons (pv 2) (pa_nil)))))) (pss_cons (ps_expr (pe_callG (ok__check_plan T) hg (hr.mono (by decide)) (by rfl) T.g__check_plan T.F__check_plan.kp T.b__check_plan (L2N.passes_call (L2N.takes_of rfl rfl rfl rfl) fun _ _ _ _ h => h) (pa_cons (pv 0) (pa_cons (pv 2) (pa_cons (pv 3) (pa_nil)))))) (pss_one (ps_ret (pe_op op_sub (pe_callB (r := rSumA K) (cr_sumA rfl) (by rfl) T.z_sum (by decide +kernel) (pa_cons (pv 1) (pa_nil))) (pe_callB (r := rSumA K) (cr_sumA rfl) (by rfl) T.z_sum (by decide +kernel) (pa_cons (pe_lc (own := [("cost", 4), ("choice", 5)]) rfl sc_plan_work.nd (pi_zipK (K := K) rfl (by rfl) T.z_zip (pa_cons (pv 1) (pa_cons (pv 3) (pa_nil)))) (blkOk_by (own := [("cost", 4), ("choice", 5)]) (N := N_plan_work) (sc := defScope s_plan_work) (by decide +kernel)) (fun _ _ _ _ _ => pg_tupK (K := K) 2 rfl rfl (pgs_cons (pg_name (i := 4) sc_plan_work.nd rfl (Or.inl rfl)) (pgs_cons (pg_name (i := 5) sc_plan_work.nd rfl (Or.inl rfl)) (pgs_nil)))) (fun _ _ _ _ _ => pts_one (pt_cmpR (r := rEqD K) (op_eqD hr.units) (pv 5) (pe_int) (by first | exact nomark _ | rfl))) (fun _ _ _ _ _ => pv 4)) (pa_nil)))))))), fun Z hK hC => ?_⟩
  obtain ⟨K2, sa, ns, cl, sp⟩ := Z
  cases hK
  cases hC
  exact sns_seq (sns_drop (snd_call (snd_cons (snd_var) (snd_cons (snd_var) (snd_cons (snd_var) (snd_nil)))))) (sns_seq (sns_drop (snd_call (snd_cons (snd_var) (snd_cons (snd_var) (snd_cons (snd_var) (snd_nil)))))) (sns_seq1 (sns_ret (snd_op rr_sub (snd_callB rc_sumA (snd_cons (snd_var) (snd_nil))) (snd_callB rc_sumA (snd_cons (snd_ofL (snd_lc (vs := [4, 5]) (by decide) (snd_iZ (snd_cons (snd_var) (snd_cons (snd_var) (snd_nil)))) (sng_tup (sng_cons (sng_name) (sng_cons (sng_name) (sng_nil)))) (snd_test (snd_op rr_eq (snd_var) (snd_int))) (snd_var))) (snd_nil))))) (sns_next)))
theorem ok_bound_of (T : Txt K mg) : FnG P w K mg base (L2N.CX P w) 2 T.a_bound_of T.fd_bound_of ["asks", "costs", "places", "prices"] (spD 4 K mg V_bound_of) := by
  refine fnD 4 4 D_bound_of T.F_bound_of sc_bound_of rfl rfl fun cdv A outer s H E hg hr => ⟨_, (pss_cons (ps_expr (pe_callG (ok__check_shelf T) hg (hr.mono (by decide)) (by rfl) T.g__check_shelf T.F__check_shelf.kp T.b__check_shelf (L2N.passes_call (L2N.takes_of rfl rfl rfl rfl) fun _ _ _ _ h => h) (pa_cons (pv 0) (pa_cons (pv 1) (pa_cons (pv 2) (pa_nil)))))) (pss_cons (ps_if (pt_cmpR (r := rNeD K) (op_neD hr.units) (pe_callB (r := rLenA K) call_len (by rfl) T.z_len (by decide +kernel) (pa_cons (pv 3) (pa_nil))) (pe_callB (r := rLenA K) call_len (by rfl) T.z_len (by decide +kernel) (pa_cons (pv 0) (pa_nil))) (by first | exact nomark _ | rfl)) (pss_one (L2N.ps_raise rfl (L2N.takes_of rfl rfl rfl rfl) (L2N.pmk_own PySem.F.excBase_ValueError T.e_NotAllowed.x1 T.e_NotAllowed.g T.e_NotAllowed.k (raises_own T.e_NotAllowed.bs T.e_NotAllowed.ty) (by rfl)))) (pss_nil)) (pss_cons (ps_for (passes_of rfl) rfl (pi_tupK (K := K) rfl (pv 3)) (pg_name (i := 4) sc_bound_of.nd rfl (Or.inl rfl)) (pss_one (ps_if (pt_cmpR op_lt (pv 4) (pe_int) (by first | exact nomark _ | rfl)) (pss_one (L2N.ps_raise rfl (L2N.takes_of rfl rfl rfl rfl) (L2N.pmk_own PySem.F.excBase_ValueError T.e_NotAllowed.x1 T.e_NotAllowed.g T.e_NotAllowed.k (raises_own T.e_NotAllowed.bs T.e_NotAllowed.ty) (by rfl)))) (pss_nil)))) (pss_cons (ps_setLc (i := 5) (own := [("first", 6), ("second", 7)]) rfl sc_bound_of.nd rfl rfl (sw_true rfl rfl rfl (by decide +kernel)) (pi_listK (K := K) rfl (pe_callG (ok__stays T) hg (hr.mono (by decide)) (by rfl) T.g__stays T.F__stays.kp T.b__stays pass0 (pa_cons (pv 0) (pa_nil)))) (blkOk_by (own := [("first", 6), ("second", 7)]) (N := N_bound_of) (sc := defScope s_bound_of) (by decide +kernel)) (fun _ _ _ _ _ => pg_tupK (K := K) 2 rfl rfl (pgs_cons (pg_name (i := 6) sc_bound_of.nd rfl (Or.inl rfl)) (pgs_cons (pg_name (i := 7) sc_bound_of.nd rfl (Or.inl rfl)) (pgs_nil)))) (fun _ _ _ _ _ => pts_nil) (fun _ _ _ _ _ => pe_callB (call_max2 rfl) (by rfl) T.z_max (by decide +kernel) (pa_cons (pe_int) (pa_cons (pe_op op_sub (pe_ix (r := rIx K) ix_seq (pv 1) (pv 6) (fun _ _ => rfl)) (pe_callB (r := rSumA K) (cr_sumA rfl) (by rfl) T.z_sum (by decide +kernel) (pa_cons (pe_slice (r := rSlA K) sl_tupA (pv 3) (po_some (pe_op op_add (pv 6) (pe_int))) (po_some (pv 7))) (pa_nil)))) (pa_nil))))) (pss_one (ps_ret (pe_op op_sub (pe_op op_sub (pe_callB (r := rSumA K) (cr_sumA rfl) (by rfl) T.z_sum (by decide +kernel) (pa_cons (pv 1) (pa_nil))) (pe_callB (r := rSumA K) (cr_sumA rfl) (by rfl) T.z_sum (by decide +kernel) (pa_cons (pv 5) (pa_nil)))) (pe_op op_mulW (pe_op op_sub (pv 2) (pe_int)) (pe_callB (r := rSumA K) (cr_sumA rfl) (by rfl) T.z_sum (by decide +kernel) (pa_cons (pv 3) (pa_nil))))))))))), fun Z hK hC => ?_⟩
  obtain ⟨K2, sa, ns, cl, sp⟩ := Z
  cases hK
  cases hC
  exact sns_seq (sns_drop (snd_call (snd_cons (snd_var) (snd_cons (snd_var) (snd_cons (snd_var) (snd_nil)))))) (sns_seq (sns_if (snd_test (snd_op rr_ne (snd_callB rc_len (snd_cons (snd_var) (snd_nil))) (snd_callB rc_len (snd_cons (snd_var) (snd_nil))))) (sns_seq1 (sns_raise T.e_NotAllowed.g) (sns_next)) (sns_next)) (sns_seq (sns_for (snd_iT (snd_var)) (sng_name) (sns_seq1 (sns_if (snd_test (snd_op rr_lt (snd_var) (snd_int))) (sns_seq1 (sns_raise T.e_NotAllowed.g) (sns_next)) (sns_next)) (sns_seq1 sns_wipe (sns_next)))) (sns_seq (sns_set (snd_ofL (snd_lc (vs := [6, 7]) (by decide) (snd_iL (snd_call0 (snd_cons (snd_var) (snd_nil)))) (sng_tup (sng_cons (sng_name) (sng_cons (sng_name) (sng_nil)))) (snd_yes) (snd_callB rc_max2 (snd_cons (snd_int) (snd_cons (snd_op rr_sub (snd_op rr_ix (snd_var) (snd_var)) (snd_callB rc_sumA (snd_cons (snd_slT (snd_var) (snd_soO (snd_op rr_add (snd_var) (snd_int))) (snd_soO (snd_var))) (snd_nil)))) (snd_nil))))))) (sns_seq1 (sns_ret (snd_op rr_sub (snd_op rr_sub (snd_callB rc_sumA (snd_cons (snd_var) (snd_nil))) (snd_callB rc_sumA (snd_cons (snd_var) (snd_nil)))) (snd_op rr_mul (snd_op rr_sub (snd_var) (snd_int)) (snd_callB rc_sumA (snd_cons (snd_var) (snd_nil)))))) (sns_next)))))
theorem ok__law_told (T : Txt K mg) : FnG P w K mg base CX0 4 T.a__law_told T.fd__law_told ["way", "asks", "costs", "places", "thing"] (spD 5 K mg V__law_told) := by
  refine fnD 5 1 D__law_told T.F__law_told sc__law_told rfl rfl fun cdv A outer s H E hg hr => ⟨_, PSs.nox (pss_one (ps_tryE (i := 5) rfl rfl sc__law_told.nd rfl rfl ⟨by rfl, by decide, .inl T.err.gp⟩ (fun W1 pn1 xe1 tk1 ow1 => pss_one (ps_ret (pe_tup (pa_cons (pe_str) (pa_cons (pe_table (L := [(T.a_plan_work, V_plan_work), (T.a_bound_of, V_bound_of)]) hg (can_cons (ok_plan_work T) (hr.mono (by decide)) T.F_plan_work.kp T.b_plan_work (L2N.passes_call tk1 fun _ _ _ _ h => h) (can_cons (ok_bound_of T) (hr.mono (by decide)) T.F_bound_of.kp T.b_bound_of (L2N.passes_call tk1 fun _ _ _ _ h => h) (can_nil))) (pe_ix (r := rIx K) ix_seq (pe_lst (pa_cons (pe_glob (v := .ref T.a_plan_work) (by rfl) T.g_plan_work rfl) (pa_cons (pe_glob (v := .ref T.a_bound_of) (by rfl) T.g_bound_of rfl) (pa_nil)))) (pv 0) (fun _ _ => rfl)) (pa_cons (pv 1) (pa_cons (pv 2) (pa_cons (pv 3) (pa_cons (pv 4) (pa_nil)))))) (pa_nil)))))) (fun a1 oe1 cls1 d1 pn1 hz1 hf1 => pss_err (i := 5) (ok__law_error T) ((L2H.roomH_of hr).mono (by decide)) hz1 hf1 (by rfl) T.g__law_error T.F__law_error.kp T.b__law_error rfl (Or.inl rfl) (by decide) (by decide) (by decide)))), fun Z hK hC => ?_⟩
  obtain ⟨K2, sa, ns, cl, sp⟩ := Z
  cases hK
  cases hC
  exact sns_seq1 (sns_tryE (fun W1 => sns_seq1 (sns_ret (snd_tup (snd_cons (snd_str) (snd_cons (snd_tab (L := [(T.a_plan_work, V_plan_work), (T.a_bound_of, V_bound_of)]) (snd_var) (snd_cons (snd_var) (snd_cons (snd_var) (snd_cons (snd_var) (snd_cons (snd_var) (snd_nil)))))) (snd_nil))))) (sns_next)) T.err T.errOk) (sns_next)
theorem ok__law_same (T : Txt K mg) : FnG P w K mg base CX0 1 T.a__law_same T.fd__law_same ["told", "due"] (spD 2 K mg V__law_same) := by
  refine fnD 2 0 D__law_same T.F__law_same sc__law_same rfl rfl fun cdv A outer s H E hg hr => ⟨_, PSs.nox (pss_one (ps_ret (pe_cmpR op_eq (pe_callB (r := rRepr K) (call_reprD hg (guard_room hr)) (by rfl) T.z_repr (by decide +kernel) (pa_cons (pe_lst (pa_cons (pv 0) (pa_nil))) (pa_nil))) (pe_callB (r := rRepr K) (call_reprD hg (guard_room hr)) (by rfl) T.z_repr (by decide +kernel) (pa_cons (pe_lst (pa_cons (pv 1) (pa_nil))) (pa_nil))) (by first | exact nomark _ | rfl)))), fun Z hK hC => ?_⟩
  obtain ⟨K2, sa, ns, cl, sp⟩ := Z
  cases hK
  cases hC
  exact sns_seq1 (sns_ret (snd_op rr_eqS (snd_callB rc_repr (snd_cons (snd_ofL (snd_lst (snd_cons (snd_var) (snd_nil)))) (snd_nil))) (snd_callB rc_repr (snd_cons (snd_ofL (snd_lst (snd_cons (snd_var) (snd_nil)))) (snd_nil))))) (sns_next)
theorem ok__law_plan_work (T : Txt K mg) : FnG P w K mg base CX0 1 T.a__law_plan_work T.fd__law_plan_work ["costs", "plan"] (spD 2 K mg V__law_plan_work) := by
  refine fnD 2 1 D__law_plan_work T.F__law_plan_work sc__law_plan_work rfl rfl fun cdv A outer s H E hg hr => ⟨_, PSs.nox (pss_one (ps_ret (pe_callB (r := rSumA K) (cr_sumA rfl) (by rfl) T.z_sum (by decide +kernel) (pa_cons (pe_lc (own := [("k", 2)]) rfl sc__law_plan_work.nd (pi_range1 (by rfl) T.z_range (pa_cons (pe_callB (r := rLenA K) call_len (by rfl) T.z_len (by decide +kernel) (pa_cons (pv 0) (pa_nil))) (pa_nil))) (blkOk_by (own := [("k", 2)]) (N := N__law_plan_work) (sc := defScope s__law_plan_work) (by decide +kernel)) (fun _ _ _ _ _ => pg_name (i := 2) sc__law_plan_work.nd rfl (Or.inl rfl)) (fun _ _ _ _ _ => pts_one (pt_cmpR (r := rEqD K) (op_eqD hr.units) (pe_ix (r := rIx K) ix_seq (pv 1) (pv 2) (fun _ _ => rfl)) (pe_int) (by first | exact nomark _ | rfl))) (fun _ _ _ _ _ => pe_ix (r := rIx K) ix_seq (pv 0) (pv 2) (fun _ _ => rfl))) (pa_nil))))), fun Z hK hC => ?_⟩
  obtain ⟨K2, sa, ns, cl, sp⟩ := Z
  cases hK
  cases hC
  exact sns_seq1 (sns_ret (snd_callB rc_sumA (snd_cons (snd_ofL (snd_lc (vs := [2]) (by decide) (snd_i1 (snd_cons (snd_callB rc_len (snd_cons (snd_var) (snd_nil))) (snd_nil))) (sng_name) (snd_test (snd_op rr_eq (snd_op rr_ix (snd_var) (snd_var)) (snd_int))) (snd_op rr_ix (snd_var) (snd_var)))) (snd_nil)))) (sns_next)
def spLaw (K : PySem.W.Frag) : Sp := fun vs H Q _ => ∃ (a : Addr) (nums : List Int), vs = [.ref a] ∧ SqL K H a (nums.map V.int) ∧ nums.length ≤ 63 ∧ ∀ H', Q (.bl true) H'
theorem ok_law {f : Addr} {fd : FuncData} (hyp : LawOk) (T : Txt K mg) (F : Fun K "law" "law" s_law f fd) : FnG P w K mg base CX0 5 f fd ["script"] (spLaw K) := by
  refine FnG.body F sc_law (fun vs H Q E h => ?_) (fun cdv A outer s H vs Q E hg hr h => ?_)
  · obtain ⟨a, nums, rfl, _⟩ := h
    rfl
  obtain ⟨a, nums, rfl, hS, hl, q⟩ := h
  obtain ⟨ns, c1, c2, e1, e2⟩ := hyp nums hl
  refine ⟨_, PSs.nox (pss_cons (ps_set (i := 1) sc_law.nd rfl (Or.inr rfl) (pe_lst (pa_cons (pe_callG (ok__law_stream T) hg (hr.mono (by decide)) (by rfl) T.g__law_stream T.F__law_stream.kp T.b__law_stream pass0 (pa_cons (pv 0) (pa_nil))) (pa_cons pe_int pa_nil)))) (pss_cons (ps_for PassesOwn.never rfl (pi_range1 (by rfl) T.z_range (pa_cons (pe_int) (pa_nil))) (pg_name (i := 2) sc_law.nd rfl (Or.inl rfl)) (pss_cons (ps_asg (pe_callG (ok__law_asks T) hg (hr.mono (by decide)) (by rfl) T.g__law_asks T.F__law_asks.kp T.b__law_asks pass0 (pa_cons (pv 1) (pa_cons (pe_int) (pa_nil)))) (pg_tup rfl (pgs_cons (pg_name (i := 3) sc_law.nd rfl (Or.inl rfl)) (pgs_cons (pg_name (i := 4) sc_law.nd rfl (Or.inl rfl)) (pgs_nil))))) (pss_cons (ps_set (i := 5) sc_law.nd rfl (Or.inl rfl) (pe_op op_add (pe_int) (pe_callG (ok__law_next T) hg (hr.mono (by decide)) (by rfl) T.g__law_next T.F__law_next.kp T.b__law_next pass0 (pa_cons (pv 1) (pa_cons (pe_int) (pa_nil)))))) (pss_cons (ps_set (i := 6) sc_law.nd rfl (Or.inl rfl) (pe_callB (r := rRepr K) (call_reprD hg (guard_room hr)) (by rfl) T.z_repr (by decide +kernel) (pa_cons (pe_tup (pa_cons (pv 3) (pa_cons (pv 4) (pa_nil)))) (pa_nil)))) (pss_cons (ps_set (i := 7) sc_law.nd rfl (Or.inl rfl) (pe_lst (pa_nil))) (pss_cons (ps_for PassesOwn.never rfl (pi_listK (K := K) rfl (pe_callG (ok__law_plans T) hg (hr.mono (by decide)) (by rfl) T.g__law_plans T.F__law_plans.kp T.b__law_plans pass0 (pa_cons (pv 1) (pa_cons (pv 3) (pa_cons (pv 5) (pa_nil)))))) (pg_name (i := 8) sc_law.nd rfl (Or.inl rfl)) (pss_cons (ps_set (i := 9) sc_law.nd rfl (Or.inl rfl) (pe_callG (ok__law_plan_right T) hg (hr.mono (by decide)) (by rfl) T.g__law_plan_right T.F__law_plan_right.kp T.b__law_plan_right pass0 (pa_cons (pv 3) (pa_cons (pv 5) (pa_cons (pv 8) (pa_nil)))))) (pss_cons (ps_if (pt_not (pt_val (pe_callG (ok__law_same T) hg (hr.mono (by decide)) (by rfl) T.g__law_same T.F__law_same.kp T.b__law_same pass0 (pa_cons (pe_callG (ok__law_told T) hg (hr.mono (by decide)) (by rfl) T.g__law_told T.F__law_told.kp T.b__law_told pass0 (pa_cons (pe_int) (pa_cons (pv 3) (pa_cons (pv 4) (pa_cons (pv 5) (pa_cons (pv 8) (pa_nil))))))) (pa_cons (pe_ix (r := rIx K) ix_seq (pe_lst (pa_cons (pe_str) (pa_cons (pe_tup (pa_cons (pe_str) (pa_cons (pe_callG (ok__law_plan_work T) hg (hr.mono (by decide)) (by rfl) T.g__law_plan_work T.F__law_plan_work.kp T.b__law_plan_work pass0 (pa_cons (pv 4) (pa_cons (pe_slice (r := rSlA K) sl_tupA (pv 8) (po_none) (po_some (pe_callB (r := rLenA K) call_len (by rfl) T.z_len (by decide +kernel) (pa_cons (pv 4) (pa_nil))))) (pa_nil)))) (pa_nil)))) (pa_nil)))) (pe_callTy call_int1 (by rfl) T.z_int (by decide +kernel) (pa_cons (pv 9) (pa_nil))) (fun _ _ => rfl)) (pa_nil)))))) (pss_one (ps_ret (pe_bl))) (pss_nil)) (pss_one (ps_if (pt_val (pv 9)) (pss_one (ps_expr (pe_bm PySem.F.plainAttrs_list PySem.F.slot_list_append PySem.F.type_list_append mt_append (pv 7) (pa_cons (pe_callG (ok__law_plan_work T) hg (hr.mono (by decide)) (by rfl) T.g__law_plan_work T.F__law_plan_work.kp T.b__law_plan_work pass0 (pa_cons (pv 4) (pa_cons (pv 8) (pa_nil)))) pa_nil)))) (pss_nil)))))) (pss_cons (ps_set (i := 10) sc_law.nd rfl (Or.inr rfl) (pe_callB (r := rLenA K) call_len (by rfl) T.z_len (by decide +kernel) (pa_cons (pv 3) (pa_nil)))) (pss_cons (ps_set (i := 11) sc_law.nd rfl (Or.inl rfl) (pe_op op_cat (pe_lst (pa_cons (pe_op (r := rRepA K) op_repA (pe_tup (pa_cons (pe_int) (pa_nil))) (pv 10)) (pa_cons (pe_op (r := rRepA K) op_repA (pe_tup (pa_cons (pe_int) (pa_nil))) (pv 10)) (pa_nil)))) (pe_lc (own := [("j", 15)]) rfl sc_law.nd (pi_range1 (by rfl) T.z_range (pa_cons (pe_int) (pa_nil))) (blkOk_by (own := [("j", 15)]) (N := N_law) (sc := defScope s_law) (by decide +kernel)) (fun _ _ _ _ _ => pg_name (i := 15) sc_law.nd rfl (Or.inl rfl)) (fun _ _ _ _ _ => pts_nil) (fun _ _ _ _ _ => pe_callTy (r := rTupA K) call_tuple_of (by rfl) T.z_tuple (by decide +kernel) (pa_cons (pe_lc (own := [("k", 16)]) rfl sc_law.nd (pi_range1 (by rfl) T.z_range (pa_cons (pv 10) (pa_nil))) (blkOk_by (own := [("k", 16)]) (N := N_law) (sc := ({ kind := .function, names := [(".0", .local), ("j", .local), ("tuple", .globalImplicit), ("range", .globalImplicit), ("many", .cell), ("state", .cell)], isGenerator := false, isCoroutine := false } : Scope)) (by decide +kernel)) (fun _ _ _ _ _ => pg_name (i := 16) sc_law.nd rfl (Or.inl rfl)) (fun _ _ _ _ _ => pts_nil) (fun _ _ _ _ _ => pe_callG (ok__law_next T) hg (hr.mono (by decide)) (by rfl) T.g__law_next T.F__law_next.kp T.b__law_next pass0 (pa_cons (pv 1) (pa_cons (pe_ix (r := rIx K) ix_seq (pe_lst (pa_cons (pe_int) (pa_cons (pe_int) (pa_nil)))) (pe_callG (ok__law_next T) hg (hr.mono (by decide)) (by rfl) T.g__law_next T.F__law_next.kp T.b__law_next pass0 (pa_cons (pv 1) (pa_cons (pe_int) (pa_nil)))) (fun _ _ => rfl)) (pa_nil))))) (pa_nil)))))) (pss_cons (ps_for PassesOwn.never rfl (pi_listK (K := K) rfl (pv 11)) (pg_name (i := 12) sc_law.nd rfl (Or.inl rfl)) (pss_cons (ps_set (i := 13) sc_law.nd rfl (Or.inl rfl) (pe_callG (ok__law_bound T) hg (hr.mono (by decide)) (by rfl) T.g__law_bound T.F__law_bound.kp T.b__law_bound pass0 (pa_cons (pv 3) (pa_cons (pv 4) (pa_cons (pv 5) (pa_cons (pv 12) (pa_nil))))))) (pss_one (ps_if (PW.pt (pw_or (pt_not (pt_val (pe_callG (ok__law_same T) hg (hr.mono (by decide)) (by rfl) T.g__law_same T.F__law_same.kp T.b__law_same pass0 (pa_cons (pe_callG (ok__law_told T) hg (hr.mono (by decide)) (by rfl) T.g__law_told T.F__law_told.kp T.b__law_told pass0 (pa_cons (pe_int) (pa_cons (pv 3) (pa_cons (pv 4) (pa_cons (pv 5) (pa_cons (pv 12) (pa_nil))))))) (pa_cons (pe_tup (pa_cons (pe_str) (pa_cons (pv 13) (pa_nil)))) (pa_nil)))))) (pw_or1 (pt_cmpR op_gt (pv 13) (pe_callB (r := L2.rMin K) (L2.cr_min rfl) (by rfl) T.z_min (by decide +kernel) (pa_cons (pv 7) (pa_nil))) (by first | exact nomark _ | rfl))))) (pss_one (ps_ret (pe_bl))) (pss_nil))))) (pss_cons (ps_set (i := 14) sc_law.nd rfl (Or.inl rfl) (pe_lst (pa_cons (pe_callG (ok__law_told T) hg (hr.mono (by decide)) (by rfl) T.g__law_told T.F__law_told.kp T.b__law_told pass0 (pa_cons (pe_int) (pa_cons (pv 3) (pa_cons (pv 4) (pa_cons (pv 5) (pa_cons (pe_op (r := rRepA K) op_repA (pe_tup (pa_cons (pe_int) (pa_nil))) (pe_op op_add (pv 10) (pe_int))) (pa_nil))))))) (pa_cons (pe_callG (ok__law_told T) hg (hr.mono (by decide)) (by rfl) T.g__law_told T.F__law_told.kp T.b__law_told pass0 (pa_cons (pe_int) (pa_cons (pv 3) (pa_cons (pv 4) (pa_cons (pv 5) (pa_cons (pe_op (r := rRepA K) op_repA (pe_tup (pa_cons (pe_un un_neg (pe_int)) (pa_nil))) (pe_callB (call_max2 rfl) (by rfl) T.z_max (by decide +kernel) (pa_cons (pe_int) (pa_cons (pv 10) (pa_nil))))) (pa_nil))))))) (pa_nil))))) (pss_cons (ps_set (i := 14) sc_law.nd rfl (Or.inl rfl) (pe_op (r := rCatS K) op_catS (pv 14) (pe_lst (pa_cons (pe_callG (ok__law_told T) hg (hr.mono (by decide)) (by rfl) T.g__law_told T.F__law_told.kp T.b__law_told pass0 (pa_cons (pe_int) (pa_cons (pv 3) (pa_cons (pv 4) (pa_cons (pe_int) (pa_cons (pe_op (r := rRepA K) op_repA (pe_tup (pa_cons (pe_int) (pa_nil))) (pv 10)) (pa_nil))))))) (pa_cons (pe_callG (ok__law_told T) hg (hr.mono (by decide)) (by rfl) T.g__law_told T.F__law_told.kp T.b__law_told pass0 (pa_cons (pe_int) (pa_cons (pv 3) (pa_cons (pe_op (r := rCatA K) op_catA (pv 4) (pe_tup (pa_cons (pe_int) (pa_nil)))) (pa_cons (pv 5) (pa_cons (pe_op (r := rRepA K) op_repA (pe_tup (pa_cons (pe_int) (pa_nil))) (pv 10)) (pa_nil))))))) (pa_nil)))))) (pss_one (ps_if (PW.pt (pw_or (pt_cmpR (r := rNeD K) (op_neD hr.units) (pv 14) (pe_op op_rep (pe_lst (pa_cons (pe_str) (pa_nil))) (pe_int)) (by first | exact nomark _ | rfl)) (pw_or1 (pt_cmpR op_ne (pe_callB (r := rRepr K) (call_reprD hg (guard_room hr)) (by rfl) T.z_repr (by decide +kernel) (pa_cons (pe_tup (pa_cons (pv 3) (pa_cons (pv 4) (pa_nil)))) (pa_nil))) (pv 6) (by first | exact nomark _ | rfl))))) (pss_one (ps_ret (pe_bl))) (pss_nil)))))))))))))) (pss_one (ps_ret (pe_bl))))), ?_⟩
  exact law_run (a0 := a) (E := E0) (dr := D_law) rfl (snd_call0 (snd_cons (snd_var) (snd_nil))) (fun l ns p => sns_seq (sns_fgt (sns_for (snd_i1 (snd_cons (snd_int) (snd_nil))) (sng_name) (sns_seq (sns_unp (snd_call0 (snd_cons (snd_var) (snd_cons (snd_int) (snd_nil)))) (sng_tup (sng_cons (sng_name) (sng_cons (sng_name) (sng_nil))))) (sns_seq (sns_set (snd_op rr_add (snd_int) (snd_call0 (snd_cons (snd_var) (snd_cons (snd_int) (snd_nil)))))) (sns_seq (sns_set (snd_callB rc_reprA (snd_cons (snd_tup (snd_cons (snd_var) (snd_cons (snd_var) (snd_nil)))) (snd_nil)))) (sns_seq (sns_new (snd_lst (snd_nil))) (sns_seq (sns_fgt (sns_for (snd_iL (snd_call0 (snd_cons (snd_var) (snd_cons (snd_var) (snd_cons (snd_var) (snd_nil)))))) (sng_name) (sns_seq (sns_set (snd_call0 (snd_cons (snd_var) (snd_cons (snd_var) (snd_cons (snd_var) (snd_nil)))))) (sns_seq (sns_if (snd_not (snd_tB (snd_call0 (snd_cons (snd_call0 (snd_cons (snd_int) (snd_cons (snd_var) (snd_cons (snd_var) (snd_cons (snd_var) (snd_cons (snd_var) (snd_nil))))))) (snd_cons (snd_op rr_ix (snd_ofL (snd_lst (snd_cons (snd_str) (snd_cons (snd_tup (snd_cons (snd_str) (snd_cons (snd_call0 (snd_cons (snd_var) (snd_cons (snd_slT (snd_var) (snd_noO) (snd_soO (snd_callB rc_len (snd_cons (snd_var) (snd_nil))))) (snd_nil)))) (snd_nil)))) (snd_nil))))) (snd_callB rc_int1 (snd_cons (snd_var) (snd_nil)))) (snd_nil)))))) (sns_seq1 (sns_ret (snd_bl)) (sns_next)) (sns_next)) (sns_seq1 (sns_if (snd_tB (snd_var)) (sns_seq1 (sns_app (snd_call0 (snd_cons (snd_var) (snd_cons (snd_var) (snd_nil))))) (sns_next)) (sns_next)) (sns_seq1 sns_wipe (sns_next))))))) (sns_seq (sns_set (snd_callB rc_len (snd_cons (snd_var) (snd_nil)))) (sns_seq (sns_set (snd_ofL (snd_catL (snd_lst (snd_cons (snd_op rr_repA (snd_tup (snd_cons (snd_int) (snd_nil))) (snd_var)) (snd_cons (snd_op rr_repA (snd_tup (snd_cons (snd_int) (snd_nil))) (snd_var)) (snd_nil)))) (snd_lc (vs := [15]) (by decide) (snd_i1 (snd_cons (snd_int) (snd_nil))) (sng_name) (snd_yes) (snd_callB rc_tuple (snd_cons (snd_ofL (snd_lc (vs := [16]) (by decide) (snd_i1 (snd_cons (snd_var) (snd_nil))) (sng_name) (snd_yes) (snd_call0 (snd_cons (snd_var) (snd_cons (snd_op rr_ix (snd_ofL (snd_lst (snd_cons (snd_int) (snd_cons (snd_int) (snd_nil))))) (snd_call0 (snd_cons (snd_var) (snd_cons (snd_int) (snd_nil))))) (snd_nil)))))) (snd_nil))))))) (sns_seq (sns_frz (sns_for (snd_iL (snd_var)) (sng_name) (sns_seq (sns_set (snd_call0 (snd_cons (snd_var) (snd_cons (snd_var) (snd_cons (snd_var) (snd_cons (snd_var) (snd_nil))))))) (sns_seq1 (sns_if (snd_or (snd_not (snd_tB (snd_call0 (snd_cons (snd_call0 (snd_cons (snd_int) (snd_cons (snd_var) (snd_cons (snd_var) (snd_cons (snd_var) (snd_cons (snd_var) (snd_nil))))))) (snd_cons (snd_tup (snd_cons (snd_str) (snd_cons (snd_var) (snd_nil)))) (snd_nil)))))) (snd_test (snd_op rr_gt (snd_var) (snd_callB rc_minL (snd_cons (snd_var) (snd_nil)))))) (sns_seq1 (sns_ret (snd_bl)) (sns_next)) (sns_next)) (sns_seq1 sns_wipe (sns_next)))))) (sns_seq (sns_set (snd_ofL (snd_lst (snd_cons (snd_call0 (snd_cons (snd_int) (snd_cons (snd_var) (snd_cons (snd_var) (snd_cons (snd_var) (snd_cons (snd_op rr_repA (snd_tup (snd_cons (snd_int) (snd_nil))) (snd_op rr_add (snd_var) (snd_int))) (snd_nil))))))) (snd_cons (snd_call0 (snd_cons (snd_int) (snd_cons (snd_var) (snd_cons (snd_var) (snd_cons (snd_var) (snd_cons (snd_op rr_repA (snd_tup (snd_cons (snd_un ru_neg (snd_int)) (snd_nil))) (snd_callB rc_max2 (snd_cons (snd_int) (snd_cons (snd_var) (snd_nil))))) (snd_nil))))))) (snd_nil)))))) (sns_seq (sns_set (snd_ofL (snd_catV (snd_var) (snd_ofL (snd_lst (snd_cons (snd_call0 (snd_cons (snd_int) (snd_cons (snd_var) (snd_cons (snd_var) (snd_cons (snd_int) (snd_cons (snd_op rr_repA (snd_tup (snd_cons (snd_int) (snd_nil))) (snd_var)) (snd_nil))))))) (snd_cons (snd_call0 (snd_cons (snd_int) (snd_cons (snd_var) (snd_cons (snd_op rr_catT (snd_var) (snd_tup (snd_cons (snd_int) (snd_nil)))) (snd_cons (snd_var) (snd_cons (snd_op rr_repA (snd_tup (snd_cons (snd_int) (snd_nil))) (snd_var)) (snd_nil))))))) (snd_nil)))))))) (sns_seq1 (sns_if (snd_or (snd_test (snd_op rr_ne (snd_var) (snd_ofL (snd_repL (snd_lst (snd_cons (snd_str) (snd_nil))) (snd_int))))) (snd_test (snd_op rr_neS (snd_callB rc_reprA (snd_cons (snd_tup (snd_cons (snd_var) (snd_cons (snd_var) (snd_nil)))) (snd_nil))) (snd_var)))) (sns_seq1 (sns_ret (snd_bl)) (sns_next)) (sns_next)) (sns_seq1 sns_wipe (sns_next))))))))))))))) (sns_seq1 (sns_ret (snd_bl)) (sns_next))) hS e1 e2 Q q
end
/-! draws -/
structure Good (ns : List Int) : Prop where
  pos : 0 < ns.length
  len : ns.length ≤ 4000
  sm : ∀ n ∈ ns, 0 ≤ n ∧ n < 1009
theorem Good.at {ns : List Int} (g : Good ns) {i : Int} (h0 : 0 ≤ i) (h1 : i < ns.length) : ∃ r, ixM ns i = M.ret r ∧ 0 ≤ r ∧ r < 1009 :=
  ⟨_, ixM_ok h0 h1, g.sm _ (List.getElem_mem _)⟩
theorem next_ok {ns : List Int} (g : Good ns) {m c : Int} (hm : 0 < m) (h0 : 0 ≤ c) (h1 : c ≤ 100000000) : Gives (F__law_next ns m c) (fun r c' => c' = c + 1 ∧ 0 ≤ r ∧ r < m) := by
  have hl := g.len
  have hp := g.pos
  unfold F__law_next
  simp only [M.bind_get, M.bind_put]
  have d0 : 0 ≤ (c + 1) / (ns.length : Int) := Int.ediv_nonneg (by omega) (by omega)
  have d1 : (c + 1) / (ns.length : Int) ≤ c + 1 := Int.ediv_le_self _ (by omega)
  have m0 := Int.emod_nonneg (c + 1) (b := (ns.length : Int)) (by omega)
  have m1 := Int.emod_lt_of_pos (c + 1) (b := (ns.length : Int)) (by omega)
  rw [divM_ok (by omega) (by omega)]
  simp only [M.ret_bind, M.bind_get]
  rw [modM_ok (by omega)]
  obtain ⟨r, er, r0, r1⟩ := g.at m0 m1
  simp only [M.ret_bind, er]
  generalize (c + 1) / (ns.length : Int) = q at d0 d1
  rw [mulM_ok (by omega) (by omega) (by omega) (by omega)]
  simp only [M.ret_bind, M.bind_get]
  rw [mulM_ok (by omega) (by omega) (by omega) (by omega)]
  have b1 : (c + 1) * q ≤ 100000001 * 100000001 := Int.mul_le_mul (by omega) (by omega) (by omega) (by omega)
  have b0 : 0 ≤ (c + 1) * q := Int.mul_nonneg (by omega) (by omega)
  generalize (c + 1) * q = z at b0 b1
  simp only [M.ret_bind]
  rw [mulM_ok (by omega) (by omega) (by omega) (by omega)]
  simp only [M.ret_bind]
  rw [modM_ok hm]
  exact .ret ⟨rfl, Int.emod_nonneg _ (by omega), Int.emod_lt_of_pos _ hm⟩
theorem app_sm {s : List Int} {y : Int} (hs : ∀ n ∈ s, 0 ≤ n ∧ n < 1009) (h0 : 0 ≤ y) (h1 : y < 1009) : ∀ n ∈ s ++ [y], 0 ≤ n ∧ n < 1009 := fun n hn => by
  rcases List.mem_append.mp hn with h | h
  · exact hs n h
  · rw [List.mem_singleton.mp h]; exact ⟨h0, h1⟩
theorem stream_ok (nums : List Int) (hn : nums.length ≤ 63) : Gives (F__law_stream nums 0) (fun ns c => c = 0 ∧ Good ns) := by
  unfold F__law_stream
  simp only [Let]
  have hc : (cut nums none (some 63)).length ≤ 63 := by unfold cut; simp; omega
  generalize cut nums none (some 63) = xs at hc
  refine .bind (.forS (fun n (s : List Int) c => c = 0 ∧ (∀ n ∈ s, 0 ≤ n ∧ n < 1009) ∧ s.length ≤ 60 * n) ⟨rfl, by simp, by simp⟩ ?_) ?_
  · rintro i cell s c hx ⟨rfl, hs, hl⟩
    have hi : i < xs.length := (List.getElem?_eq_some_iff.mp hx).1
    have a0 : 0 ≤ absI cell := by unfold absI; split <;> omega
    generalize absI cell = rest at a0
    by_cases hb : decide ((1000000000000000000 : Int) ≤ rest) = true
    · rw [if_pos hb]
      refine .bind (.forF (fun n (t : List Int × Int) c => c = 0 ∧ (∀ n ∈ t.1, 0 ≤ n ∧ n < 1009) ∧ t.1.length ≤ s.length + n ∧ 0 ≤ t.2)
        (fun w c => c = 0 ∧ ∃ t : List Int × Int, w = .nx t ∧ (∀ n ∈ t.1, 0 ≤ n ∧ n < 1009) ∧ t.1.length ≤ s.length + 60) ⟨rfl, hs, by simp, a0⟩ ?_ ?_) ?_
      · rintro j k ⟨t1, t2⟩ c hx ⟨rfl, h1, h2, h3⟩
        have hj : j < 60 := by have := (List.getElem?_eq_some_iff.mp hx).1; rwa [rngL_len] at this
        have m0 := Int.emod_nonneg t2 (b := 1009) (by omega)
        have m1 := Int.emod_lt_of_pos t2 (b := 1009) (by omega)
        have d0 : 0 ≤ t2 / 1009 := Int.ediv_nonneg h3 (by omega)
        simp only at h1 h2 h3 ⊢
        rw [appM_ok (by omega)]
        simp only [M.ret_bind]
        by_cases z : (t2 / 1009 == 0) = true
        · rw [if_pos z]
          exact .ret ⟨rfl, _, rfl, app_sm h1 m0 m1, by simp; omega⟩
        · rw [if_neg z]
          exact .ret ⟨rfl, app_sm h1 m0 m1, by simp; omega, d0⟩
      · rintro t c ⟨rfl, h1, h2, h3⟩
        rw [rngL_len] at h2
        exact ⟨rfl, t, rfl, h1, h2⟩
      · rintro w c ⟨rfl, t, rfl, h1, h2⟩
        exact .ret ⟨rfl, h1, by omega⟩
    · rw [if_neg hb]
      have r0 := Int.emod_nonneg rest (b := 2147483647) (by omega)
      have r1 := Int.emod_lt_of_pos rest (b := 2147483647) (by omega)
      generalize rest % 2147483647 = st at r0 r1
      refine .bind (.forS (fun n (t : List Int × Int) c => c = 0 ∧ (∀ n ∈ t.1, 0 ≤ n ∧ n < 1009) ∧ t.1.length ≤ s.length + n ∧ 0 ≤ t.2 ∧ t.2 < 2147483647) ⟨rfl, hs, by simp, r0, r1⟩ ?_) ?_
      · rintro j k ⟨t1, t2⟩ c hx ⟨rfl, h1, h2, h3, h4⟩
        obtain ⟨rfl, hj⟩ := rngL_get hx
        simp only at h1 h2 h3 h4 ⊢
        rw [mulM_ok (by omega) (by omega) (by omega) (by omega)]
        simp only [M.ret_bind]
        rw [mulM_ok (by omega) (by omega) (by omega) (by omega)]
        simp only [M.ret_bind]
        have b0 := Int.emod_nonneg (t2 * 48271 + 7 * (0 + (j : Int)) + 11) (b := 2147483647) (by omega)
        have b1 := Int.emod_lt_of_pos (t2 * 48271 + 7 * (0 + (j : Int)) + 11) (b := 2147483647) (by omega)
        generalize (t2 * 48271 + 7 * (0 + (j : Int)) + 11) % 2147483647 = q at b0 b1
        rw [mulM_ok (by omega) (by omega) (by omega) (by omega)]
        simp only [M.ret_bind]
        rw [appM_ok (by omega)]
        simp only [M.ret_bind]
        have e0 := Int.emod_nonneg ((q * 69621 + (0 + (j : Int))) % 2147483629) (b := 1009) (by omega)
        have e1 := Int.emod_lt_of_pos ((q * 69621 + (0 + (j : Int))) % 2147483629) (b := 1009) (by omega)
        exact .ret ⟨rfl, app_sm h1 e0 e1, by simp; omega, b0, b1⟩
      · rintro t c ⟨rfl, h1, h2, h3⟩
        rw [rngL_len] at h2
        exact .ret ⟨rfl, h1, by omega⟩
  · rintro s c ⟨rfl, hs, hl⟩
    by_cases z : ((s.length : Int) == 0) = true
    · rw [if_pos z]
      have z : s.length = 0 := by have := beq_iff_eq.mp z; omega
      have : s = [] := List.eq_nil_of_length_eq_zero z
      subst this
      rw [appM_ok (by simp)]
      exact .ret ⟨rfl, by simp, by simp, by simp⟩
    · rw [if_neg z]
      have z : s.length ≠ 0 := fun q => z (by rw [q]; rfl)
      exact .ret ⟨rfl, by omega, by omega, hs⟩
theorem next_dr {ns : List Int} (g : Good ns) {m : Int} (hm : 0 < m) : Dr (F__law_next ns m) 1 (fun r => 0 ≤ r ∧ r < m) := fun c h0 h1 => (next_ok g hm h0 (by omega)).imp fun r c' ⟨a, b, d⟩ => ⟨by omega, by omega, b, d⟩
/-! numbers in places -/
theorem atI_nat {α : Type} {xs : List α} {j : Nat} {a : α} (h : xs[j]? = some a) : atI xs (j : Int) = some a := by
  obtain ⟨hj, e⟩ := List.getElem?_eq_some_iff.mp h
  rw [atI_get hj, e]
def at0 (l : List Int) (i : Nat) : Int := (l[i]?).getD 0
def addAt (l : List Int) (i : Nat) (d : Int) : List Int := l.set i (at0 l i + d)
theorem addAt_len (l : List Int) (i : Nat) (d : Int) : (addAt l i d).length = l.length := List.length_set
theorem at0_set {l : List Int} {i j : Nat} {v : Int} (h : i < l.length) : at0 (l.set i v) j = if i = j then v else at0 l j := by
  unfold at0
  rw [List.getElem?_set]
  by_cases e : i = j
  · rw [if_pos e, if_pos e, if_pos h]; rfl
  · rw [if_neg e, if_neg e]
theorem at0_add {l : List Int} {i j : Nat} {d : Int} (h : i < l.length) : at0 (addAt l i d) j = if i = j then at0 l j + d else at0 l j := by
  unfold addAt
  rw [at0_set h]
  by_cases e : i = j
  · rw [if_pos e, if_pos e, e]
  · rw [if_neg e, if_neg e]
theorem at0_get {l : List Int} {i : Nat} (h : i < l.length) : l[i]? = some (at0 l i) := by
  unfold at0
  rw [List.getElem?_eq_getElem h]; rfl
theorem at0_ext {l m : List Int} (hl : l.length = m.length) (h : ∀ i, at0 l i = at0 m i) : l = m := by
  apply List.ext_getElem?
  intro i
  by_cases hi : i < l.length
  · rw [at0_get hi, at0_get (by omega), h]
  · rw [List.getElem?_eq_none (by omega), List.getElem?_eq_none (by omega)]
theorem ixN_nat {n i : Nat} (h : i < n) : ixN n (i : Int) = some i := by
  unfold ixN
  rw [if_pos (by omega), if_pos (by omega), Int.toNat_natCast]
theorem ix0 {l : List Int} {i : Nat} {k : Int} (h : i < l.length) (e : k = (i : Int)) : ixM l k = M.ret (at0 l i) := by
  subst e; exact ixM_some (atI_nat (at0_get h))
theorem aug0 {l : List Int} {i : Nat} {k : Int} (h : i < l.length) (e : k = (i : Int)) : augM l k = M.ret (i, at0 l i) := by
  subst e
  unfold augM
  rw [if_pos (by omega), ixN_nat h, Int.toNat_natCast, at0_get h]
theorem set0 {l : List Int} {i : Nat} {k v : Int} (h : i < l.length) (e : k = (i : Int)) : setM l k v = M.ret (l.set i v) := by
  subst e
  unfold setM
  rw [ixN_nat h]
theorem rngL_cons (x n : Nat) : rngL (x : Int) (n + 1) = (x : Int) :: rngL ((x + 1 : Nat) : Int) n := by
  unfold rngL
  rw [List.range_succ_eq_map, List.map_cons, List.map_map]
  congr 1
  exact List.map_congr_left fun i _ => by show (x : Int) + ((i + 1 : Nat) : Int) = ((x + 1 : Nat) : Int) + (i : Int); omega
theorem rngL_nil (x : Int) : rngL x 0 = [] := rfl
/-! loops, comprehensions -/
theorem lcM_ok {α β : Type} {t : α → M Bool} {f : α → M β} {g : α → Bool} {h : α → β} {xs : List α} (hl : xs.length ≤ 16777216) (ht : ∀ x ∈ xs, t x = M.ret (g x)) (hf : ∀ x ∈ xs, g x = true → f x = M.ret (h x)) : lcM xs t f = M.ret ((xs.filter g).map h) := by
  unfold lcM
  rw [if_pos hl]
  clear hl
  induction xs with
  | nil => rfl
  | cons x xs ih =>
    show M.bind (M.calm (t x)) (fun b => if b = true then M.bind (M.calm (f x)) fun y => M.bind (compM xs t f) fun ys => M.ret (y :: ys) else compM xs t f) = _
    rw [ht x List.mem_cons_self, M.cb, M.rb, ih (fun y hy => ht y (List.mem_cons_of_mem _ hy)) fun y hy => hf y (List.mem_cons_of_mem _ hy), List.filter_cons]
    cases q : g x with
    | true => rw [if_pos rfl, if_pos rfl, hf x List.mem_cons_self q, M.cb, M.rb, M.rb]; rfl
    | false => rw [if_neg Bool.false_ne_true, if_neg Bool.false_ne_true]
/-- a loop that goes on with P, or is refused where N holds -/
theorem forS_or {α σ : Type} {f : σ → α → M σ} {k : Str} {N : Prop} (P : Nat → σ → Prop) : ∀ (xs : List α) (n : Nat) (s : σ), P n s → (∀ i x s, xs[i]? = some x → P (n + i) s → (∃ s', f s x = M.ret s' ∧ P (n + i + 1) s') ∨ (f s x = M.err k ∧ N)) →
    (∃ s', Dn.forS xs s f = M.ret s' ∧ P (n + xs.length) s') ∨ (Dn.forS xs s f = M.err k ∧ N)
  | [], n, s, h0, _ => .inl ⟨s, rfl, h0⟩
  | x :: xs, n, s, h0, hs => by
    have z : Dn.forS (x :: xs) s f = M.bind (f s x) (fun s => Dn.forS xs s f) := rfl
    rcases hs 0 x s rfl h0 with ⟨s1, e1, p1⟩ | ⟨e1, hn⟩
    · have r := forS_or P xs (n + 1) s1 p1 fun i y s hi hp => by
        have := hs (i + 1) y s (by simpa using hi) (by rw [show n + (i + 1) = n + 1 + i by omega]; exact hp)
        rw [show n + (i + 1) + 1 = n + 1 + i + 1 by omega] at this
        exact this
      rw [z, e1, M.rb, List.length_cons, show n + (xs.length + 1) = n + 1 + xs.length by omega]
      exact r
    · exact .inr ⟨by rw [z, e1, M.eb], hn⟩
theorem forS_ex {α σ : Type} {f : σ → α → M σ} (P : Nat → σ → Prop) {xs : List α} {s : σ} (h0 : P 0 s) (hs : ∀ i x s, xs[i]? = some x → P i s → ∃ s', f s x = M.ret s' ∧ P (i + 1) s') : ∃ s', Dn.forS xs s f = M.ret s' ∧ P xs.length s' := by
  rcases forS_or (k := "") (N := False) P xs 0 s h0 fun i x s hi hp => by
    rw [Nat.zero_add] at hp ⊢
    exact .inl (hs i x s hi hp) with ⟨s', e, p⟩ | ⟨_, n⟩
  · rw [Nat.zero_add] at p; exact ⟨s', e, p⟩
  · exact n.elim
theorem enum_get {α : Type} {xs : List α} {i : Nat} {x : P2 Int α} (h : (enumL xs)[i]? = some x) : ∃ a, xs[i]? = some a ∧ x = ⟨(i : Nat), a⟩ := by
  unfold enumL at h
  rw [List.getElem?_map, List.getElem?_zipIdx] at h
  cases q : xs[i]? with
  | none => rw [q] at h; cases h
  | some a =>
    rw [q] at h
    refine ⟨a, rfl, ?_⟩
    have := Option.some.inj h
    simp at this
    exact this.symm
theorem enum_len {α : Type} (xs : List α) : (enumL xs).length = xs.length := by unfold enumL; simp
/-! dicts -/
theorem valG_cons {β : Type} (p : Int × β) (l : List (Int × β)) (q : Int) : valG (p :: l) q = if p.1 = q then some p.2 else valG l q := by
  unfold valG
  rw [List.find?_cons]
  by_cases e : p.1 = q
  · rw [if_pos e, decide_eq_true e]; rfl
  · rw [if_neg e, decide_eq_false e]
theorem valG_any {β : Type} (q : Int) : ∀ l : List (Int × β), (l.any fun kv => decide (kv.1 = q)) = (valG l q).isSome
  | [] => rfl
  | p :: l => by
    rw [valG_cons, List.any_cons, valG_any q l]
    by_cases e : p.1 = q
    · rw [if_pos e, decide_eq_true e]; rfl
    · rw [if_neg e, decide_eq_false e]; rfl
theorem valG_snoc {β : Type} (k q : Int) (v : β) : ∀ l : List (Int × β), valG l k = none → valG (l ++ [(k, v)]) q = if q = k then some v else valG l q
  | [], _ => by
    rw [List.nil_append, valG_cons]
    by_cases e : q = k
    · rw [if_pos e, if_pos e.symm]
    · rw [if_neg e, if_neg fun z => e z.symm]
  | p :: l, h => by
    rw [valG_cons] at h
    by_cases e : p.1 = k
    · rw [if_pos e] at h; cases h
    · rw [if_neg e] at h
      rw [List.cons_append, valG_cons, valG_cons, valG_snoc k q v l h]
      by_cases e2 : p.1 = q
      · rw [if_pos e2, if_pos e2, if_neg (fun z => e (e2.trans z))]
      · rw [if_neg e2, if_neg e2]
theorem valG_map {β : Type} (k q : Int) (v : β) : ∀ l : List (Int × β), valG (l.map fun kv => if kv.1 = k then (kv.1, v) else kv) q = if q = k ∧ (valG l k).isSome = true then some v else valG l q
  | [] => by rw [List.map_nil]; simp [valG]
  | p :: l => by
    rw [List.map_cons, valG_cons, valG_cons, valG_cons, valG_map k q v l]
    by_cases e : p.1 = k
    · rw [if_pos e, if_pos e]
      by_cases e2 : q = k
      · rw [if_pos (show p.1 = q by omega), if_pos ⟨e2, rfl⟩]
      · rw [if_neg (show ¬ p.1 = q by omega), if_neg (fun z => e2 z.1), if_neg (fun z => e2 z.1), if_neg (show ¬ p.1 = q by omega)]
    · rw [if_neg e, if_neg e]
      by_cases e2 : p.1 = q
      · rw [if_pos e2, if_pos e2, if_neg (fun z => e (e2.trans z.1))]
      · rw [if_neg e2, if_neg e2]
theorem valG_put {β : Type} (l : List (Int × β)) (k q : Int) (v : β) : valG (putG l k v) q = if q = k then some v else valG l q := by
  unfold putG
  rw [valG_any]
  by_cases h : (valG l k).isSome = true
  · rw [if_pos h, valG_map]
    by_cases e : q = k
    · rw [if_pos ⟨e, h⟩, if_pos e]
    · rw [if_neg (fun z => e z.1), if_neg e]
  · rw [if_neg h, valG_snoc]
    cases z : valG l k with
    | none => rfl
    | some x => rw [z] at h; exact absurd rfl h
theorem putG_len {β : Type} (l : List (Int × β)) (k : Int) (v : β) : (putG l k v).length ≤ l.length + 1 := by
  unfold putG
  split
  · rw [List.length_map]; omega
  · rw [List.length_append]; simp
/-! sums over a range -/
def sm (n : Nat) (f : Nat → Int) : Int := ((List.range n).map f).sum
theorem sm_zero (f : Nat → Int) : sm 0 f = 0 := rfl
theorem sm_succ (n : Nat) (f : Nat → Int) : sm (n + 1) f = sm n f + f n := by unfold sm; rw [List.range_succ, List.map_append, List.sum_append]; simp
theorem sm_front (n : Nat) (f : Nat → Int) : sm (n + 1) f = f 0 + sm n fun i => f (i + 1) := by
  unfold sm
  rw [List.range_succ_eq_map, List.map_cons, List.sum_cons, List.map_map]
  rfl
theorem sm_congr {n : Nat} {f g : Nat → Int} (h : ∀ i < n, f i = g i) : sm n f = sm n g := by
  unfold sm
  rw [List.map_congr_left fun i hi => h i (List.mem_range.mp hi)]
theorem sm_add (n : Nat) (f g : Nat → Int) : sm n (fun i => f i + g i) = sm n f + sm n g := by
  induction n with
  | zero => rfl
  | succ n ih => rw [sm_succ, sm_succ, sm_succ, ih]; omega
theorem sm_mul (n : Nat) (f : Nat → Int) (c : Int) : sm n (fun i => c * f i) = c * sm n f := by
  induction n with
  | zero => rw [sm_zero, sm_zero, Int.mul_zero]
  | succ n ih => rw [sm_succ, sm_succ, ih, Int.mul_add]
theorem sm_le {n : Nat} {f g : Nat → Int} (h : ∀ i < n, f i ≤ g i) : sm n f ≤ sm n g := by
  induction n with
  | zero => exact Int.le_refl _
  | succ n ih =>
    rw [sm_succ, sm_succ]
    have := ih fun i hi => h i (by omega)
    have := h n (by omega)
    omega
theorem sm_swap (n m : Nat) (f : Nat → Nat → Int) : sm n (fun i => sm m fun j => f i j) = sm m fun j => sm n fun i => f i j := by
  induction n with
  | zero => 
    have : sm m (fun j => sm 0 fun i => f i j) = sm m fun j => 0 * 0 := sm_congr fun j _ => rfl
    rw [this, sm_mul, Int.zero_mul]; rfl
  | succ n ih =>
    rw [sm_succ, ih, ← sm_add]
    exact sm_congr fun j _ => (sm_succ n fun i => f i j).symm
theorem sm_list (xs : List Int) : xs.sum = sm xs.length (at0 xs) := by
  induction xs with
  | nil => rfl
  | cons x xs ih => rw [List.sum_cons, List.length_cons, sm_front, ih]; rfl
theorem sum_filter {α : Type} (q : α → Bool) (f : α → Int) (xs : List α) : ((xs.filter q).map f).sum = (xs.map fun x => if q x = true then f x else 0).sum := by
  induction xs with
  | nil => rfl
  | cons x xs ih =>
    rw [List.filter_cons, List.map_cons, List.sum_cons, ← ih]
    cases q x with
    | true => rw [if_pos rfl, if_pos rfl, List.map_cons, List.sum_cons]
    | false => rw [if_neg Bool.false_ne_true, if_neg Bool.false_ne_true]; omega
theorem len_filter {α : Type} (q : α → Bool) (xs : List α) : (((xs.filter q).length : Nat) : Int) = (xs.map fun x => if q x = true then (1 : Int) else 0).sum := by
  induction xs with
  | nil => rfl
  | cons x xs ih =>
    rw [List.filter_cons, List.map_cons, List.sum_cons, ← ih]
    cases q x with
    | true => rw [if_pos rfl, if_pos rfl, List.length_cons]; omega
    | false => rw [if_neg Bool.false_ne_true, if_neg Bool.false_ne_true]; omega
/-- a piece of a list, as a sum over its places -/
theorem seg_sum : ∀ (xs : List Int) (a m : Nat), a + m ≤ xs.length → ((xs.drop a).take m).sum = sm xs.length fun b => if a ≤ b ∧ b < a + m then at0 xs b else 0
  | [], a, m, h => by simp at h; obtain ⟨rfl, rfl⟩ := h; rfl
  | x :: xs, 0, 0, _ => by
    rw [List.take_zero]
    have : sm (x :: xs).length (fun b => if 0 ≤ b ∧ b < 0 + 0 then at0 (x :: xs) b else 0) = sm (x :: xs).length fun b => 0 * 0 := sm_congr fun b _ => by rw [if_neg (by omega)]; rfl
    rw [this, sm_mul, Int.zero_mul]; rfl
  | x :: xs, 0, m + 1, h => by
    rw [List.length_cons] at h
    rw [List.drop_zero, List.take_succ_cons, List.sum_cons, List.length_cons, sm_front, if_pos (by omega)]
    have := seg_sum xs 0 m (by omega)
    rw [List.drop_zero] at this
    rw [this]
    congr 1
    exact sm_congr fun b _ => by
      by_cases z : b < m
      · rw [if_pos (by omega), if_pos (by omega)]; rfl
      · rw [if_neg (by omega), if_neg (by omega)]
  | x :: xs, a + 1, m, h => by
    rw [List.length_cons] at h
    rw [List.drop_succ_cons, List.length_cons, sm_front, if_neg (by omega), seg_sum xs a m (by omega)]
    rw [Int.zero_add]
    exact sm_congr fun b _ => by
      by_cases z : a ≤ b ∧ b < a + m
      · rw [if_pos z, if_pos (by omega)]; rfl
      · rw [if_neg z, if_neg (by omega)]
/-! the next ask for the same piece -/
def fst (p : Nat → Bool) : Nat → Nat → Int
  | _, 0 => -1
  | lo, m + 1 => if p lo = true then (lo : Int) else fst p (lo + 1) m
theorem fst_is (p : Nat → Bool) : ∀ (m lo : Nat), (fst p lo m = -1 ∧ ∀ j, lo ≤ j → j < lo + m → p j = false) ∨ ∃ j : Nat, fst p lo m = (j : Int) ∧ lo ≤ j ∧ j < lo + m ∧ p j = true ∧ ∀ i, lo ≤ i → i < j → p i = false
  | 0, lo => .inl ⟨rfl, fun j h1 h2 => by omega⟩
  | m + 1, lo => by
    unfold fst
    by_cases h : p lo = true
    · rw [if_pos h]
      exact .inr ⟨lo, rfl, Nat.le_refl _, by omega, h, fun i h1 h2 => by omega⟩
    · rw [if_neg h]
      have hf : p lo = false := by cases q : p lo with
        | true => exact absurd q h
        | false => rfl
      rcases fst_is p m (lo + 1) with ⟨e, n⟩ | ⟨j, e, h1, h2, h3, h4⟩
      · refine .inl ⟨e, fun j h1 h2 => ?_⟩
        by_cases z : j = lo
        · rw [z]; exact hf
        · exact n j (by omega) (by omega)
      · refine .inr ⟨j, e, by omega, by omega, h3, fun i h5 h6 => ?_⟩
        by_cases z : i = lo
        · rw [z]; exact hf
        · exact h4 i (by omega) h6
theorem fst_list (p : Nat → Bool) (g : Int → Bool) : ∀ (m lo : Nat), (∀ j, lo ≤ j → j < lo + m → g (j : Int) = p j) → ∃ t, ((rngL (lo : Int) m).filter g).map (fun k : Int => k) ++ [(-(1 : Int))] = fst p lo m :: t
  | 0, lo, _ => ⟨[], rfl⟩
  | m + 1, lo, h => by
    rw [rngL_cons, List.filter_cons, h lo (Nat.le_refl _) (by omega)]
    unfold fst
    cases q : p lo with
    | true => rw [if_pos rfl, if_pos rfl]; exact ⟨_, rfl⟩
    | false =>
      rw [if_neg Bool.false_ne_true, if_neg Bool.false_ne_true]
      exact fst_list p g m (lo + 1) fun j h1 h2 => h j (by omega) (by omega)
def lat (a : List Int) (k : Nat) : Int := fst (fun j => at0 a j == at0 a k) (k + 1) (a.length - (k + 1))
def Nx (a : List Int) (k j : Nat) : Prop := k < j ∧ j < a.length ∧ at0 a j = at0 a k ∧ ∀ m, k < m → m < j → at0 a m ≠ at0 a k
theorem lat_is {a : List Int} {k : Nat} (hk : k < a.length) : (lat a k = -1 ∧ ∀ j, ¬ Nx a k j) ∨ ∃ j : Nat, lat a k = (j : Int) ∧ Nx a k j := by
  rcases fst_is (fun j => at0 a j == at0 a k) (a.length - (k + 1)) (k + 1) with ⟨e, n⟩ | ⟨j, e, h1, h2, h3, h4⟩
  · refine .inl ⟨e, fun j ⟨h1, h2, h3, _⟩ => ?_⟩
    have := n j (by omega) (by omega)
    rw [beq_eq_false_iff_ne] at this
    exact this h3
  · refine .inr ⟨j, e, by omega, by omega, beq_iff_eq.mp h3, fun m h5 h6 => ?_⟩
    have := h4 m (by omega) h6
    rw [beq_eq_false_iff_ne] at this
    exact this
theorem Nx.one {a : List Int} {k j i : Nat} (h : Nx a k j) (h' : Nx a k i) : j = i := by
  rcases Nat.lt_trichotomy j i with z | z | z
  · exact absurd h.2.2.1 (h'.2.2.2 j h.1 z)
  · exact z
  · exact absurd h'.2.2.1 (h.2.2.2 i h'.1 z)
theorem lat_of {a : List Int} {k j : Nat} (h : Nx a k j) : lat a k = (j : Int) := by
  rcases lat_is (a := a) (k := k) (by have := h.1; have := h.2.1; omega) with ⟨_, n⟩ | ⟨i, e, h'⟩
  · exact absurd h (n j)
  · rw [e, h'.one h]
theorem later_ok {a : List Int} {k : Nat} (hl : a.length ≤ 1000) (hk : k < a.length) : F__law_later (Tp.mk a) (k : Int) = M.ret (lat a k) := by
  unfold F__law_later
  dsimp only
  rw [rng2_ok (by omega) (by omega) (by omega) (by omega), M.rb]
  rw [show ((a.length : Int) - ((k : Int) + 1)).toNat = a.length - (k + 1) by omega]
  rw [lcM_ok (g := fun j : Int => at0 a j.toNat == at0 a k) (h := fun k : Int => k) (by rw [rngL_len]; omega) (fun j hj => by
    obtain ⟨h1, h2⟩ := rngL_mem.mp hj
    rw [ix0 (i := j.toNat) (by omega) (by omega), M.rb, ix0 hk rfl, M.rb]) fun _ _ _ => rfl, M.rb]
  obtain ⟨t, e⟩ := fst_list (fun j => at0 a j == at0 a k) (fun j : Int => at0 a j.toNat == at0 a k) (a.length - (k + 1)) (k + 1) fun j _ _ => by rw [Int.toNat_natCast]
  rw [catM_ok (by
    have := congrArg List.length e
    have f := List.length_filter_le (fun j : Int => at0 a j.toNat == at0 a k) (rngL ((k : Int) + 1) (a.length - (k + 1)))
    rw [rngL_len] at f
    rw [List.length_map]
    simp only [List.length_cons, List.length_nil]
    omega), M.rb]
  have e' : ((rngL ((k : Int) + 1) (a.length - (k + 1))).filter fun j : Int => at0 a j.toNat == at0 a k).map (fun k : Int => k) ++ [(-(1 : Int))] = lat a k :: t := e
  rw [e', ixM_some (i := 0) (atI_nat (j := 0) (show (lat a k :: t)[0]? = some (lat a k) from rfl)), M.rb]
/-! the stays -/
def stS (a : List Int) : List (P2 Int Int) := ((List.range a.length).filter fun k => decide (0 ≤ lat a k)).map fun k => ⟨(k : Nat), lat a k⟩
theorem stS_mem {a : List Int} {x : P2 Int Int} : x ∈ stS a ↔ ∃ k j : Nat, x = ⟨(k : Nat), (j : Nat)⟩ ∧ Nx a k j := by
  unfold stS
  rw [List.mem_map]
  constructor
  · rintro ⟨k, hk, rfl⟩
    obtain ⟨h1, h2⟩ := List.mem_filter.mp hk
    have h1 := List.mem_range.mp h1
    have h2 := of_decide_eq_true h2
    rcases lat_is h1 with ⟨e, _⟩ | ⟨j, e, h⟩
    · omega
    · exact ⟨k, j, by rw [e], h⟩
  · rintro ⟨k, j, rfl, h⟩
    refine ⟨k, List.mem_filter.mpr ⟨List.mem_range.mpr (by have := h.1; have := h.2.1; omega), ?_⟩, by rw [lat_of h]⟩
    rw [lat_of h]
    exact decide_eq_true (by omega)
theorem stS_lt (a : List Int) : (stS a).Pairwise (fun x y => x.a < y.a) := by
  unfold stS
  rw [List.pairwise_map]
  exact (List.pairwise_lt_range.filter _).imp fun h => by dsimp only; omega
structure StI (a : List Int) (i : Nat) (s : List (Int × Int) × List (P2 Int Int)) : Prop where
  ll : s.1.length ≤ i
  fl : s.2.length ≤ i
  nn : ∀ p, valG s.1 p = none → ∀ m, m < i → at0 a m ≠ p
  ss : ∀ p v, valG s.1 p = some v → ∃ l : Nat, v = (l : Int) ∧ l < i ∧ at0 a l = p ∧ ∀ m, l < m → m < i → at0 a m ≠ p
  nd : s.2.Nodup
  me : ∀ x, x ∈ s.2 ↔ ∃ k j : Nat, x = ⟨(k : Nat), (j : Nat)⟩ ∧ j < i ∧ Nx a k j
theorem stays_step {a : List Int} (hl : a.length ≤ 60) : ∀ (i : Nat) (x : P2 Int Int) (s : List (Int × Int) × List (P2 Int Int)), (enumL a)[i]? = some x → StI a i s → ∃ s', (fun (s1 : ((List (Int × Int)) × (List (P2 Int Int)))) (x2 : (P2 Int Int)) => M.bind (if (xor false (valG s1.1 x2.b).isSome) = true then M.bind (dgetM s1.1 x2.b) fun t4 => M.bind (appM s1.2 (P2.mk t4 x2.a : (P2 Int Int))) fun found => M.ret found else M.ret s1.2) fun s3 : (List (P2 Int Int)) => M.bind (dputM s1.1 x2.b x2.a) fun y5 => M.ret (y5, s3)) s x = M.ret s' ∧ StI a (i + 1) s' := by
  rintro i x ⟨last, found⟩ hx o
  obtain ⟨y, hy, rfl⟩ := enum_get hx
  have hi : i < a.length := (List.getElem?_eq_some_iff.mp hy).1
  have ey : at0 a i = y := by unfold at0; rw [hy]; rfl
  obtain ⟨ll, fl, nn, ss, nd, me⟩ := o
  dsimp only at ll fl nn ss nd me ⊢
  have put : ∀ f, f.length ≤ i + 1 → f.Nodup → (∀ x, x ∈ f ↔ ∃ k j : Nat, x = (⟨(k : Nat), (j : Nat)⟩ : P2 Int Int) ∧ j < i + 1 ∧ Nx a k j) → ∃ s', (M.bind (M.ret f) fun s3 : (List (P2 Int Int)) => M.bind (dputM last y ((i : Nat) : Int)) fun y5 => M.ret (y5, s3)) = M.ret s' ∧ StI a (i + 1) s' := fun f h1 h2 h3 => by
    refine ⟨(putG last y (i : Nat), f), ?_, ?_⟩
    · unfold dputM
      rw [M.rb, if_pos (by omega), M.rb]
    · refine ⟨Nat.le_trans (putG_len _ _ _) (by omega), h1, fun p hp m hm => ?_, fun p v hp => ?_, h2, h3⟩
      · have hp : valG (putG last y ((i : Nat) : Int)) p = none := hp
        rw [valG_put] at hp
        by_cases z : p = y
        · rw [if_pos z] at hp; cases hp
        · rw [if_neg z] at hp
          by_cases zm : m = i
          · rw [zm, ey]; exact fun q => z q.symm
          · exact nn p hp m (by omega)
      · have hp : valG (putG last y ((i : Nat) : Int)) p = some v := hp
        rw [valG_put] at hp
        by_cases z : p = y
        · rw [if_pos z] at hp
          cases hp
          exact ⟨i, rfl, by omega, by rw [ey, z], fun m h1 h2 => by omega⟩
        · rw [if_neg z] at hp
          obtain ⟨l, e1, e2, e3, e4⟩ := ss p v hp
          refine ⟨l, e1, by omega, e3, fun m h1 h2 => ?_⟩
          by_cases zm : m = i
          · rw [zm, ey]; exact fun q => z q.symm
          · exact e4 m h1 (by omega)
  cases q : valG last y with
  | none =>
    rw [if_neg (by simp)]
    refine put found (by omega) nd fun x => ?_
    rw [me]
    constructor
    · rintro ⟨k, j, e, h1, h2⟩; exact ⟨k, j, e, by omega, h2⟩
    · rintro ⟨k, j, e, h1, h2⟩
      refine ⟨k, j, e, ?_, h2⟩
      by_cases z : j = i
      · subst z
        exact absurd (h2.2.2.1.symm.trans ey) (nn y q k h2.1)
      · omega
  | some v =>
    rw [if_pos (by simp)]
    obtain ⟨l, rfl, h1, h2, h3⟩ := ss y v q
    have hN : Nx a l i := ⟨h1, hi, by rw [ey, h2], fun m m1 m2 => by rw [h2]; exact h3 m m1 m2⟩
    have dg : dgetM last y = M.ret ((l : Nat) : Int) := by unfold dgetM; rw [q]
    rw [dg, M.rb, appM_ok (by omega), M.rb]
    refine put _ (by rw [List.length_append]; simp; omega) ?_ fun x => ?_
    · refine List.nodup_append.mpr ⟨nd, by simp, fun x hx y hy e => ?_⟩
      rw [List.mem_singleton.mp hy] at e
      obtain ⟨k, j, e1, e2, _⟩ := (me x).mp hx
      rw [e1] at e
      have := congrArg P2.b e
      have : ((j : Nat) : Int) = ((i : Nat) : Int) := this
      omega
    · rw [List.mem_append, me, List.mem_singleton]
      constructor
      · rintro (⟨k, j, e, e1, e2⟩ | rfl)
        · exact ⟨k, j, e, by omega, e2⟩
        · exact ⟨l, i, rfl, by omega, hN⟩
      · rintro ⟨k, j, e, e1, e2⟩
        by_cases z : j = i
        · subst z
          right
          have : k = l := by
            rcases Nat.lt_trichotomy k l with w | w | w
            · exact absurd (h2.trans (ey.symm.trans e2.2.2.1)) (e2.2.2.2 l w h1)
            · exact w
            · exact absurd (e2.2.2.1.symm.trans ey) (h3 k w e2.1)
          rw [e, this]
        · exact .inl ⟨k, j, e, by omega, e2⟩
theorem stays_ok {a : List Int} (hl : a.length ≤ 60) : F__stays (Tp.mk a) = M.ret (stS a) := by
  unfold F__stays
  rw [M.lb, M.lb]
  dsimp only
  obtain ⟨s, e, o⟩ := forS_ex (xs := enumL a) (s := (([] : List (Int × Int)), ([] : List (P2 Int Int)))) (f := fun (s1 : ((List (Int × Int)) × (List (P2 Int Int)))) (x2 : (P2 Int Int)) => M.bind (if (xor false (valG s1.1 x2.b).isSome) = true then M.bind (dgetM s1.1 x2.b) fun t4 => M.bind (appM s1.2 (P2.mk t4 x2.a : (P2 Int Int))) fun found => M.ret found else M.ret s1.2) fun s3 : (List (P2 Int Int)) => M.bind (dputM s1.1 x2.b x2.a) fun y5 => M.ret (y5, s3)) (StI a)
    ⟨Nat.le_refl _, Nat.le_refl _, fun _ _ m h => absurd h (Nat.not_lt_zero _), fun _ _ h => (by cases h), List.nodup_nil, fun x => ⟨fun h => (by cases h), fun ⟨_, _, _, h, _⟩ => absurd h (Nat.not_lt_zero _)⟩⟩ (stays_step hl)
  rw [e, M.rb]
  rw [enum_len] at o
  have bd : ∀ p ∈ s.2.map pr2, pBd p = true := fun p hp => by
    obtain ⟨x, hx, rfl⟩ := List.mem_map.mp hp
    obtain ⟨k, j, rfl, h1, h2⟩ := (o.me x).mp hx
    have := h2.1
    exact decide_eq_true ⟨by show (0 : Int) ≤ (k : Nat); omega, by show ((k : Nat) : Int) < _; omega, by show (0 : Int) ≤ (j : Nat); omega, by show ((j : Nat) : Int) < _; omega⟩
  unfold sortPM
  rw [if_pos ⟨by rw [List.length_map]; have := o.fl; omega, List.all_eq_true.mpr bd⟩, M.rb]
  congr 1
  have inj : ∀ l m : List (P2 Int Int), l.map pr2 = m.map pr2 → l = m := fun l m h => by
    have := congrArg (List.map p2r) h
    rw [List.map_map, List.map_map] at this
    have id : (p2r ∘ pr2) = id := funext fun x => rfl
    rwa [id, List.map_id, List.map_id] at this
  have pm : s.2.Perm (stS a) := (List.perm_ext_iff_of_nodup o.nd ((stS_lt a).imp fun h e => by rw [e] at h; omega)).mpr fun x => by
    rw [o.me, stS_mem]
    constructor
    · rintro ⟨k, j, e, _, h⟩; exact ⟨k, j, e, h⟩
    · rintro ⟨k, j, e, h⟩; exact ⟨k, j, e, h.2.1, h⟩
  have le : ((stS a).map pr2).Pairwise (fun p q => pLe p q = true) := by
    rw [List.pairwise_map]
    exact (stS_lt a).imp fun h => decide_eq_true (.inl h)
  have eq : sortP (s.2.map pr2) = (stS a).map pr2 := sorted_one (r := fun p q => pLe p q = true) (fun a b h1 h2 => by
    simp only [pLe, decide_eq_true_eq] at h1 h2
    exact Prod.ext (by omega) (by omega)) ((sortP_perm _).trans (pm.map _)) (sortP_le _) le
  rw [eq, List.map_map]
  have id : (p2r ∘ pr2) = id := funext fun x => rfl
  rw [id, List.map_id]
/-! right plans -/
def covI (a p : List Int) (b s : Nat) : Int := if at0 p s = 1 ∧ s < b ∧ (b : Int) < lat a s then 1 else 0
def cov (a p : List Int) (i b : Nat) : Int := sm i (covI a p b)
theorem covI_nn (a p : List Int) (b s : Nat) : 0 ≤ covI a p b s := by unfold covI; split <;> decide
theorem cov_mono {a p : List Int} {b i : Nat} : ∀ {j : Nat}, i ≤ j → cov a p i b ≤ cov a p j b
  | 0, h => by rw [Nat.le_zero.mp h]; exact Int.le_refl _
  | j + 1, h => by
    by_cases z : i = j + 1
    · rw [z]; exact Int.le_refl _
    · have := cov_mono (a := a) (p := p) (b := b) (i := i) (j := j) (by omega)
      have e : cov a p (j + 1) b = cov a p j b + covI a p b j := sm_succ _ _
      have := covI_nn a p b j
      omega
structure Right (a : List Int) (pl : Int) (p : List Int) : Prop where
  l : p.length = a.length
  v : ∀ k, k < a.length → at0 p k = 0 ∨ at0 p k = 1
  e : ∀ k, k < a.length → at0 p k = 1 → 0 ≤ lat a k
  c : ∀ b, b < a.length → cov a p a.length b < pl
def chosen (a p : List Int) : List (P2 Int Int) := ((List.range a.length).filter fun s => at0 p s == 1).map fun s => ⟨(s : Nat), lat a s⟩
theorem chosen_ok {a p : List Int} (hl : a.length ≤ 1000) (h : p.length = a.length) :
    lcM (rngL 0 a.length) (fun k : Int => M.bind (ixM p k) fun t4 => M.ret (t4 == (1 : Int))) (fun k : Int => M.bind (M.calm (F__law_later (Tp.mk a) k)) fun t5 => M.ret (P2.mk k t5 : (P2 Int Int))) = M.ret (chosen a p) := by
  rw [lcM_ok (g := fun k : Int => at0 p k.toNat == 1) (h := fun k : Int => P2.mk k (lat a k.toNat)) (by rw [rngL_len]; omega) (fun k hk => by
    obtain ⟨h1, h2⟩ := rngL_mem.mp hk
    rw [ix0 (i := k.toNat) (by omega) (by omega), M.rb]) fun k hk _ => by
    obtain ⟨h1, h2⟩ := rngL_mem.mp hk
    have := later_ok (a := a) (k := k.toNat) hl (by omega)
    rw [show ((k.toNat : Nat) : Int) = k by omega] at this
    rw [this, M.cb, M.rb]]
  unfold chosen
  rw [rngL_zero, List.filter_map, List.map_map]
  congr 1
theorem chosen_len (a p : List Int) : (chosen a p).length ≤ a.length := by
  unfold chosen
  rw [List.length_map]
  exact Nat.le_trans (List.length_filter_le _ _) (by rw [List.length_range]; exact Nat.le_refl _)
theorem chosen_cov (a p : List Int) (b : Nat) : ((((chosen a p).filter fun x : P2 Int Int => (decide (x.a < (b : Int))) && (decide ((b : Int) < x.b))).map fun x : P2 Int Int => (x.a : Int)).length : Int) = cov a p a.length b := by
  unfold chosen
  rw [List.length_map, List.filter_map, List.length_map, List.filter_filter, len_filter]
  show sm a.length _ = _
  refine sm_congr fun s _ => ?_
  unfold covI
  by_cases z : at0 p s = 1 ∧ s < b ∧ (b : Int) < lat a s
  · rw [if_pos z, if_pos]
    simp only [Function.comp, Bool.and_eq_true, decide_eq_true_eq, beq_iff_eq]
    exact ⟨⟨by omega, z.2.2⟩, z.1⟩
  · rw [if_neg z, if_neg]
    simp only [Function.comp, Bool.and_eq_true, decide_eq_true_eq, beq_iff_eq]
    exact fun q => z ⟨q.2, by omega, q.1.2⟩
open Classical in
theorem right_ok {a p : List Int} {pl : Int} (hl : a.length ≤ 1000) (hp : p.length ≤ 1000) : F__law_plan_right (Tp.mk a) pl (Tp.mk p) = M.ret (decide (Right a pl p)) := by
  unfold F__law_plan_right
  dsimp only
  by_cases h : p.length = a.length
  · rw [if_neg (by rw [h]; simp), mapP_ok (by omega), M.rb, M.rb]
    by_cases hv : ∀ k, k < a.length → at0 p k = 0 ∨ at0 p k = 1
    · have e : (!((p.map fun one : Int => ((decide (one ∈ ([(0 : Int), (1 : Int)] : List Int))) : Bool)).all id)) = false := by
        rw [Bool.not_eq_false', List.all_map, List.all_eq_true]
        intro x hx
        obtain ⟨i, hi, rfl⟩ := List.mem_iff_getElem.mp hx
        have := hv i (by omega)
        unfold at0 at this
        rw [List.getElem?_eq_getElem hi] at this
        show decide (p[i] ∈ ([(0 : Int), (1 : Int)] : List Int)) = true
        refine decide_eq_true ?_
        rcases this with q | q
        · rw [show p[i] = 0 from q]; simp
        · rw [show p[i] = 1 from q]; simp
      rw [e, if_neg Bool.false_ne_true, rng1_ok (by omega) (by omega), M.rb, Int.toNat_natCast, chosen_ok hl h, M.rb, mapP_ok (by have := chosen_len a p; omega), M.rb]
      by_cases he : ∀ k, k < a.length → at0 p k = 1 → 0 ≤ lat a k
      · have e : (((chosen a p).map fun x7 : (P2 Int Int) => ((decide (x7.b < (0 : Int))) : Bool)).any id) = false := by
          rw [List.any_map, List.any_eq_false]
          intro x hx
          unfold chosen at hx
          obtain ⟨s, hs, rfl⟩ := List.mem_map.mp hx
          obtain ⟨h1, h2⟩ := List.mem_filter.mp hs
          have := he s (List.mem_range.mp h1) (beq_iff_eq.mp h2)
          show ¬ decide (lat a s < 0) = true
          rw [decide_eq_true_eq]; omega
        rw [e, if_neg Bool.false_ne_true, M.rb]
        rw [mapM1_pure (g := fun k : Int => decide (cov a p a.length k.toNat < pl)) (by rw [rngL_len]; omega) fun k hk => by
          obtain ⟨h1, h2⟩ := rngL_mem.mp hk
          rw [lcP_ok (by have := chosen_len a p; omega), M.rb]
          have := chosen_cov a p k.toNat
          rw [show ((k.toNat : Nat) : Int) = k by omega] at this
          rw [this], M.rb]
        congr 1
        rw [Bool.eq_iff_iff, List.all_map, List.all_eq_true, decide_eq_true_eq]
        constructor
        · intro q
          refine ⟨h, hv, he, fun b hb => ?_⟩
          have := q (b : Int) (rngL_mem.mpr ⟨by omega, by omega⟩)
          have := of_decide_eq_true this
          rwa [Int.toNat_natCast] at this
        · intro q k hk
          obtain ⟨h1, h2⟩ := rngL_mem.mp hk
          exact decide_eq_true (q.c k.toNat (by omega))
      · have e : (((chosen a p).map fun x7 : (P2 Int Int) => ((decide (x7.b < (0 : Int))) : Bool)).any id) = true := by
          rw [List.any_map, List.any_eq_true]
          rw [not_forall] at he
          obtain ⟨k, he⟩ := he
          have ⟨h1, h2, h3⟩ : k < a.length ∧ at0 p k = 1 ∧ ¬ 0 ≤ lat a k := by
            refine ⟨?_, ?_, ?_⟩
            · exact Classical.byContradiction fun n => he fun z => absurd z n
            · exact Classical.byContradiction fun n => he fun _ z => absurd z n
            · exact fun n => he fun _ _ => n
          refine ⟨⟨(k : Nat), lat a k⟩, ?_, ?_⟩
          · exact List.mem_map.mpr ⟨k, List.mem_filter.mpr ⟨List.mem_range.mpr h1, beq_iff_eq.mpr h2⟩, rfl⟩
          · show decide (lat a k < 0) = true
            exact decide_eq_true (by omega)
        rw [e, if_pos rfl, decide_eq_false fun q : Right a pl p => he q.e]
    · have e : (!((p.map fun one : Int => ((decide (one ∈ ([(0 : Int), (1 : Int)] : List Int))) : Bool)).all id)) = true := by
        rw [Bool.not_eq_true', Bool.eq_false_iff]
        intro q
        rw [List.all_map, List.all_eq_true] at q
        refine hv fun k hk => ?_
        have m : at0 p k ∈ p := List.mem_of_getElem? (at0_get (by omega))
        have := of_decide_eq_true (q _ m)
        simpa using this
      rw [e, if_pos rfl, decide_eq_false fun q : Right a pl p => hv q.v]
  · rw [if_pos (by simp; omega), M.rb, if_pos rfl, decide_eq_false fun q : Right a pl p => h q.l]
/-! the program's own check -/
theorem dc_ok : ∀ (xs : List (P2 Int Int)) (kvs : List (Int × Int)), kvs.length + xs.length ≤ 1000 → xs.Pairwise (fun x y => x.a < y.a) → ∃ d, dcM (fun _ : (P2 Int Int) => (true : Bool)) (fun x : (P2 Int Int) => (x.a : Int)) (fun x : (P2 Int Int) => (x.b : Int)) xs kvs = M.ret d ∧
    (∀ x ∈ xs, valG d x.a = some x.b) ∧ ∀ q, (∀ x ∈ xs, x.a ≠ q) → valG d q = valG kvs q
  | [], kvs, _, _ => ⟨kvs, rfl, fun x h => (by cases h), fun q _ => rfl⟩
  | x :: xs, kvs, hl, hp => by
    rw [List.length_cons] at hl
    obtain ⟨p1, p2⟩ := List.pairwise_cons.mp hp
    obtain ⟨d, e, h1, h2⟩ := dc_ok xs (putG kvs x.a x.b) (by have := putG_len kvs x.a x.b; omega) p2
    refine ⟨d, ?_, fun y hy => ?_, fun q hq => ?_⟩
    · unfold dcM
      rw [if_pos rfl, if_pos (by omega)]
      exact e
    · rcases List.mem_cons.mp hy with rfl | hy
      · rw [h2 y.a fun z hz => by have := p1 z hz; omega, valG_put, if_pos rfl]
      · exact h1 y hy
    · rw [h2 q fun z hz => hq z (List.mem_cons_of_mem _ hz), valG_put, if_neg fun z => hq x List.mem_cons_self z.symm]
theorem ends_ok {a : List Int} (hl : a.length ≤ 60) : ∃ d, dcM (fun _ : (P2 Int Int) => (true : Bool)) (fun x : (P2 Int Int) => (x.a : Int)) (fun x : (P2 Int Int) => (x.b : Int)) (stS a) [] = M.ret d ∧ ∀ k, k < a.length → valG d (k : Int) = if 0 ≤ lat a k then some (lat a k) else none := by
  have l : (stS a).length ≤ a.length := by
    unfold stS
    rw [List.length_map]
    exact Nat.le_trans (List.length_filter_le _ _) (by rw [List.length_range]; exact Nat.le_refl _)
  obtain ⟨d, e, h1, h2⟩ := dc_ok (stS a) [] (by simp; omega) (stS_lt a)
  refine ⟨d, e, fun k hk => ?_⟩
  rcases lat_is hk with ⟨el, n⟩ | ⟨j, el, h⟩
  · rw [if_neg (by omega), h2 _ fun x hx z => ?_]
    · rfl
    · obtain ⟨k', j, rfl, h⟩ := stS_mem.mp hx
      have : k' = k := by have : ((k' : Nat) : Int) = (k : Int) := z; omega
      exact n j (this ▸ h)
  · rw [if_pos (by omega)]
    have := h1 _ (stS_mem.mpr ⟨k, j, rfl, h⟩)
    rw [el]
    exact this
structure PlI (a p : List Int) (pl : Int) (i : Nat) (s : List Int) : Prop where
  l : s.length = a.length
  c : ∀ b, b < a.length → at0 s b = cov a p i b
  v : ∀ k, k < i → at0 p k = 0 ∨ (at0 p k = 1 ∧ 0 ≤ lat a k)
  m : ∀ b, b < a.length → cov a p i b < pl
structure InI (a p : List Int) (pl : Int) (i t : Nat) (s : List Int) : Prop where
  l : s.length = a.length
  c : ∀ b, b < a.length → at0 s b = cov a p i b + if i + 1 ≤ b ∧ b < i + 1 + t then 1 else 0
  m : ∀ b, i + 1 ≤ b → b < i + 1 + t → cov a p i b + 1 < pl
theorem cov_next {a p : List Int} {i b : Nat} : cov a p (i + 1) b = cov a p i b + covI a p b i := sm_succ _ _
theorem inner_ok {a p : List Int} {pl : Int} {i j : Nat} {s : List Int} (hi : i < a.length) (hp : at0 p i = 1) (hj : Nx a i j) (o : PlI a p pl i s) :
    (∃ s', Dn.forS (rngL ((i : Nat) + 1 : Int) (j - (i + 1))) s (fun (s9 : (List Int)) (between : Int) => M.bind (augM s9 between) fun p10 => Let (s9.set p10.1 (p10.2 + (1 : Int))) fun y11 => M.bind (ixM y11 between) fun t12 => if (decide ((pl - (1 : Int)) < t12)) = true then M.err "NotAllowed" else M.ret y11) = M.ret s' ∧ PlI a p pl (i + 1) s') ∨
    (Dn.forS (rngL ((i : Nat) + 1 : Int) (j - (i + 1))) s (fun (s9 : (List Int)) (between : Int) => M.bind (augM s9 between) fun p10 => Let (s9.set p10.1 (p10.2 + (1 : Int))) fun y11 => M.bind (ixM y11 between) fun t12 => if (decide ((pl - (1 : Int)) < t12)) = true then M.err "NotAllowed" else M.ret y11) = M.err "NotAllowed" ∧ ¬ Right a pl p) := by
  have lj : lat a i = (j : Int) := lat_of hj
  have j1 := hj.1
  have j2 := hj.2.1
  rcases forS_or (k := "NotAllowed") (N := ¬ Right a pl p) (InI a p pl i) (rngL ((i : Nat) + 1 : Int) (j - (i + 1))) 0 s ⟨o.l, fun b hb => by rw [o.c b hb, if_neg (by omega)]; omega, fun b h1 h2 => absurd h2 (by omega)⟩ (f := fun (s9 : (List Int)) (between : Int) => M.bind (augM s9 between) fun p10 => Let (s9.set p10.1 (p10.2 + (1 : Int))) fun y11 => M.bind (ixM y11 between) fun t12 => if (decide ((pl - (1 : Int)) < t12)) = true then M.err "NotAllowed" else M.ret y11) fun t x s hx q => by
    rw [Nat.zero_add] at q ⊢
    obtain ⟨rfl, ht⟩ := rngL_get hx
    have hb : i + 1 + t < a.length := by omega
    have e1 := q.c (i + 1 + t) hb
    rw [if_neg (by omega)] at e1
    rw [aug0 (i := i + 1 + t) (by rw [q.l]; exact hb) (by omega), M.rb, M.lb]
    show (∃ s', (M.bind (ixM (addAt s (i + 1 + t) 1) _) _) = _ ∧ _) ∨ ((M.bind (ixM (addAt s (i + 1 + t) 1) _) _) = _ ∧ _)
    rw [ix0 (i := i + 1 + t) (by rw [addAt_len, q.l]; exact hb) (by omega), M.rb, at0_add (by rw [q.l]; exact hb), if_pos rfl, e1]
    by_cases z : pl - 1 < cov a p i (i + 1 + t) + 0 + 1
    · rw [if_pos (decide_eq_true z)]
      refine .inr ⟨rfl, fun r => ?_⟩
      have c1 := r.c (i + 1 + t) hb
      have c2 := cov_mono (a := a) (p := p) (b := i + 1 + t) (i := i + 1) (j := a.length) (by omega)
      have c3 : cov a p (i + 1) (i + 1 + t) = cov a p i (i + 1 + t) + 1 := by
        rw [cov_next]
        unfold covI
        rw [if_pos ⟨hp, by omega, by rw [lj]; omega⟩]
      omega
    · rw [if_neg (by rw [decide_eq_true_eq]; exact z)]
      refine .inl ⟨addAt s (i + 1 + t) 1, (by unfold addAt; rw [e1]), by rw [addAt_len]; exact q.l, fun b hb' => ?_, fun b h1 h2 => ?_⟩
      · rw [at0_add (by rw [q.l]; exact hb), q.c b hb']
        by_cases w : i + 1 + t = b
        · rw [if_pos w, if_neg (by omega), if_pos (by omega)]; omega
        · rw [if_neg w]
          by_cases w2 : i + 1 ≤ b ∧ b < i + 1 + t
          · rw [if_pos w2, if_pos (by omega)]
          · rw [if_neg w2, if_neg (by omega)]
      · by_cases w : b = i + 1 + t
        · subst w; omega
        · exact q.m b h1 (by omega)
    with ⟨s', e, q⟩ | r
  · refine .inl ⟨s', e, ?_⟩
    rw [Nat.zero_add, rngL_len] at q
    have cn : ∀ b, cov a p (i + 1) b = cov a p i b + if i + 1 ≤ b ∧ b < i + 1 + (j - (i + 1)) then 1 else 0 := fun b => by
      rw [cov_next]
      unfold covI
      rw [lj]
      by_cases w : i + 1 ≤ b ∧ b < i + 1 + (j - (i + 1))
      · rw [if_pos w, if_pos ⟨hp, by omega, by omega⟩]
      · rw [if_neg w, if_neg (by omega)]
    refine ⟨q.l, fun b hb => by rw [q.c b hb, cn], fun k hk => ?_, fun b hb => ?_⟩
    · by_cases w : k = i
      · rw [w]; exact .inr ⟨hp, by omega⟩
      · exact o.v k (by omega)
    · rw [cn]
      have := o.m b hb
      split
      · rename_i w
        have := q.m b w.1 w.2
        omega
      · omega
  · exact .inr r
theorem check_plan_ok {a p : List Int} {pl : Int} (hl : a.length ≤ 60) (hpl : 1 ≤ pl) : (Right a pl p → F__check_plan (Tp.mk a) pl (Tp.mk p) = M.ret ()) ∧ (¬ Right a pl p → F__check_plan (Tp.mk a) pl (Tp.mk p) = M.err "NotAllowed") := by
  have main : (F__check_plan (Tp.mk a) pl (Tp.mk p) = M.ret () ∧ Right a pl p) ∨ (F__check_plan (Tp.mk a) pl (Tp.mk p) = M.err "NotAllowed" ∧ ¬ Right a pl p) := by
    unfold F__check_plan
    dsimp only
    by_cases h : p.length = a.length
    · rw [if_neg (by rw [h]; simp)]
      have r0 : repN ([(0 : Int)] : List Int) (a.length : Int) = M.ret (List.replicate a.length 0) := by
        rw [repN_ok (by omega) (by omega) (by simp; omega)]
        congr 1
        rw [Int.toNat_natCast]
        generalize a.length = n
        induction n with
        | zero => rfl
        | succ n ih => rw [List.replicate_succ, List.flatten_cons, ih, List.replicate_succ]; rfl
      obtain ⟨d, ed, hd⟩ := ends_ok hl
      rw [r0, M.rb, stays_ok hl, M.cb, M.rb, ed, M.rb]
      rcases forS_or (k := "NotAllowed") (N := ¬ Right a pl p) (PlI a p pl) (enumL p) 0 (List.replicate a.length 0) ⟨List.length_replicate, fun b hb => by unfold at0; rw [List.getElem?_replicate, if_pos hb]; rfl, fun k hk => absurd hk (Nat.not_lt_zero _), fun b _ => by show (0 : Int) < pl; omega⟩ (f := fun (s5 : (List Int)) (x6 : (P2 Int Int)) => if (x6.b == (0 : Int)) = true then M.ret s5 else if ((x6.b != (1 : Int)) || (xor true (valG d x6.a).isSome)) = true then M.err "NotAllowed" else M.bind (dgetM d x6.a) fun t7 => M.bind (rng2M (x6.a + (1 : Int)) t7) fun t8 => M.bind (forS t8 s5 fun (s9 : (List Int)) (between : Int) => M.bind (augM s9 between) fun p10 => Let (s9.set p10.1 (p10.2 + (1 : Int))) fun y11 => M.bind (ixM y11 between) fun t12 => if (decide ((pl - (1 : Int)) < t12)) = true then M.err "NotAllowed" else M.ret y11) fun s9 : (List Int) => M.ret s9) fun i x s hx q => by
        rw [Nat.zero_add] at q ⊢
        obtain ⟨y, hy, rfl⟩ := enum_get hx
        have hi : i < a.length := by have := (List.getElem?_eq_some_iff.mp hy).1; omega
        have ey : at0 p i = y := by unfold at0; rw [hy]; rfl
        dsimp only
        by_cases z0 : y = 0
        · rw [if_pos (beq_iff_eq.mpr z0)]
          have cn : ∀ b, cov a p (i + 1) b = cov a p i b := fun b => by
            rw [cov_next]
            unfold covI
            rw [if_neg (by omega)]; omega
          refine .inl ⟨s, rfl, q.l, fun b hb => by rw [cn]; exact q.c b hb, fun k hk => ?_, fun b hb => by rw [cn]; exact q.m b hb⟩
          by_cases w : k = i
          · rw [w]; exact .inl (by omega)
          · exact q.v k (by omega)
        · rw [if_neg (fun w => z0 (beq_iff_eq.mp w)), hd i hi]
          by_cases z1 : y = 1
          · rcases lat_is hi with ⟨el, _⟩ | ⟨j, el, hj⟩
            · rw [if_neg (show ¬ 0 ≤ lat a i by omega), if_pos (by simp)]
              refine .inr ⟨rfl, fun r => ?_⟩
              have := r.e i hi (by omega)
              omega
            · rw [if_pos (show 0 ≤ lat a i by omega), if_neg (by rw [z1]; simp)]
              have dg : dgetM d ((i : Nat) : Int) = M.ret (lat a i) := by unfold dgetM; rw [hd i hi, if_pos (by omega)]
              have j2 := hj.2.1
              rw [dg, M.rb, el, rng2_ok (by omega) (by omega) (by omega) (by omega), M.rb, show ((j : Int) - ((i : Int) + 1)).toNat = j - (i + 1) by omega]
              rcases inner_ok (pl := pl) hi (by omega) hj q with ⟨s', e, o⟩ | ⟨e, o⟩
              · exact .inl ⟨s', by rw [e, M.rb], o⟩
              · exact .inr ⟨by rw [e, M.eb], o⟩
          · rw [if_pos (by rw [Bool.or_eq_true]; exact .inl (bne_iff_ne.mpr z1))]
            refine .inr ⟨rfl, fun r => ?_⟩
            have := r.v i hi
            omega
        with ⟨s', e, q⟩ | ⟨e, q⟩
      · rw [Nat.zero_add, enum_len, h] at q
        refine .inl ⟨by rw [e, M.rb], h, fun k hk => ?_, fun k hk z => ?_, q.m⟩
        · rcases q.v k hk with w | w
          · exact .inl w
          · exact .inr w.1
        · rcases q.v k hk with w | w
          · omega
          · exact w.2
      · exact .inr ⟨by rw [e, M.eb], q⟩
    · rw [if_pos (by simp; omega)]
      exact .inr ⟨rfl, fun r => h r.l⟩
  rcases main with ⟨e, r⟩ | ⟨e, r⟩
  · exact ⟨fun _ => e, fun n => absurd r n⟩
  · exact ⟨fun n => absurd n r, fun _ => e⟩
theorem forS_unit {α : Type} {f : Unit → α → M Unit} : ∀ {xs : List α}, (∀ x ∈ xs, f () x = M.ret ()) → Dn.forS xs () f = M.ret ()
  | [], _ => rfl
  | x :: xs, h => by
    show M.bind (f () x) (fun s => Dn.forS xs s f) = _
    rw [h x List.mem_cons_self, M.rb]
    exact forS_unit fun y hy => h y (List.mem_cons_of_mem _ hy)
/-! works -/
theorem zip_get {xs ys : List Int} {i : Nat} {x : P2 Int Int} (h : (zipL xs ys)[i]? = some x) : i < xs.length ∧ i < ys.length ∧ x = ⟨at0 xs i, at0 ys i⟩ := by
  unfold zipL at h
  rw [List.getElem?_map] at h
  cases q : (xs.zip ys)[i]? with
  | none => rw [q] at h; cases h
  | some p =>
    rw [q] at h
    obtain ⟨a, b⟩ := p
    rw [List.getElem?_zip_eq_some] at q
    obtain ⟨h1, h2⟩ := q
    refine ⟨(List.getElem?_eq_some_iff.mp h1).1, (List.getElem?_eq_some_iff.mp h2).1, ?_⟩
    unfold at0
    rw [h1, h2]
    exact (Option.some.inj h).symm
theorem zip_sum (F : P2 Int Int → Int) : ∀ (xs ys : List Int), xs.length = ys.length → ((zipL xs ys).map F).sum = sm xs.length fun k => F ⟨at0 xs k, at0 ys k⟩
  | [], [], _ => rfl
  | [], _ :: _, h => by simp at h
  | _ :: _, [], h => by simp at h
  | x :: xs, y :: ys, h => by
    rw [List.length_cons, sm_front]
    have := zip_sum F xs ys (by simpa using h)
    show F ⟨x, y⟩ + ((zipL xs ys).map F).sum = _
    rw [this]; rfl
theorem zip_len (xs ys : List Int) : (zipL xs ys).length ≤ xs.length := by unfold zipL; rw [List.length_map, List.length_zip]; omega
def workS (c p : List Int) : Int := sm c.length fun k => if at0 p k = 0 then at0 c k else 0
theorem lwork_ok {c p : List Int} (hl : c.length ≤ 1000) (hp : c.length ≤ p.length) : F__law_plan_work (Tp.mk c) (Tp.mk p) = M.ret (workS c p) := by
  unfold F__law_plan_work
  dsimp only
  rw [rng1_ok (by omega) (by omega), M.rb, Int.toNat_natCast]
  rw [lcM_ok (g := fun k : Int => at0 p k.toNat == 0) (h := fun k : Int => at0 c k.toNat) (by rw [rngL_len]; omega) (fun k hk => by
    obtain ⟨h1, h2⟩ := rngL_mem.mp hk
    rw [ix0 (i := k.toNat) (by omega) (by omega), M.rb]) fun k hk _ => by
    obtain ⟨h1, h2⟩ := rngL_mem.mp hk
    rw [ix0 (i := k.toNat) (by omega) (by omega), M.rb], M.rb]
  congr 1
  rw [sum_filter, rngL_zero, List.map_map]
  refine sm_congr fun k _ => ?_
  show (if (at0 p ((k : Int)).toNat == 0) = true then at0 c ((k : Int)).toNat else 0) = _
  rw [Int.toNat_natCast]
  by_cases z : at0 p k = 0
  · rw [if_pos z, if_pos (beq_iff_eq.mpr z)]
  · rw [if_neg z, if_neg fun q => z (beq_iff_eq.mp q)]
theorem work_cut {c p : List Int} (hp : c.length ≤ p.length) (hl : c.length ≤ 1000) : F__law_plan_work (Tp.mk c) (Tp.mk (cut p none (some (c.length : Int)))) = M.ret (workS c p) := by
  rw [cut_to (by omega), Int.toNat_natCast, lwork_ok hl (by rw [List.length_take]; omega)]
  congr 1
  refine sm_congr fun k hk => ?_
  have : at0 (p.take c.length) k = at0 p k := by unfold at0; rw [List.getElem?_take_of_lt hk]
  rw [this]
theorem work_eq {a c p : List Int} {pl : Int} (h : c.length = a.length) (r : Right a pl p) : c.sum - (((zipL c p).filter fun x3 : (P2 Int Int) => (x3.b == (1 : Int))).map fun x3 : (P2 Int Int) => (x3.a : Int)).sum = workS c p := by
  rw [sum_filter, zip_sum _ _ _ (h.trans r.l.symm), sm_list c]
  have e : sm c.length (at0 c) = workS c p + sm c.length fun k => if (at0 p k == 1) = true then at0 c k else 0 := by
    unfold workS
    rw [← sm_add]
    refine sm_congr fun k hk => ?_
    rcases r.v k (by omega) with z | z
    · rw [z, if_pos rfl, if_neg (by decide)]; omega
    · rw [z, if_neg (by decide), if_pos (by decide)]; omega
  rw [e]
  show workS c p + sm c.length (fun k => if (at0 p k == 1) = true then at0 c k else 0) - sm c.length (fun k => if (at0 p k == 1) = true then at0 c k else 0) = _
  omega
/-! the shelf -/
structure ShelfOk (a c : List Int) (f : Int → Int) : Prop where
  n : a.length ≤ 60
  ga : ∀ x ∈ a, 0 ≤ x ∧ x ≤ 99
  l : c.length = a.length
  gc : ∀ k, k < a.length → at0 c k = f (at0 a k)
  b : ∀ x ∈ c, 0 ≤ x ∧ x ≤ 9999
theorem shelf_ok {a c : List Int} {f : Int → Int} {pl : Int} (o : ShelfOk a c f) : F__check_shelf (Tp.mk a) (Tp.mk c) pl = if 1 ≤ pl ∧ pl ≤ 8 then M.ret () else M.err "NotAllowed" := by
  unfold F__check_shelf
  dsimp only
  rw [if_neg (by rw [decide_eq_true_eq]; have := o.n; omega), forS_unit fun x hx => by
    have := o.ga x hx
    rw [decide_eq_true this.1, decide_eq_true this.2, if_neg (by decide)], M.rb, if_neg (by rw [o.l]; simp), M.lb]
  obtain ⟨s, e, _⟩ := forS_ex (xs := zipL a c) (s := ([] : List (Int × Int))) (f := fun (s2 : (List (Int × Int))) (x3 : (P2 Int Int)) => if (!((decide ((0 : Int) ≤ x3.b)) && (decide (x3.b ≤ (9999 : Int))))) = true then (fun zs4 : (List (Int × Int)) => M.err "NotAllowed") s2 else M.bind (setdM s2 x3.a x3.b) fun p => if (p.2 == (fun zs4 : (List (Int × Int)) => x3.b) p.1) = true then (fun zs4 : (List (Int × Int)) => M.ret zs4) p.1 else (fun zs4 : (List (Int × Int)) => M.err "NotAllowed") p.1)
    (fun i s => s.length ≤ i ∧ ∀ q v, valG s q = some v → v = f q) ⟨Nat.le_refl _, fun _ _ h => (by cases h)⟩ fun i x s hx ⟨q1, q2⟩ => by
      obtain ⟨h1, h2, rfl⟩ := zip_get hx
      have hb := o.b (at0 c i) (List.mem_of_getElem? (at0_get h2))
      have hc := o.gc i h1
      have := o.n
      dsimp only
      rw [decide_eq_true hb.1, decide_eq_true hb.2, if_neg (by decide)]
      unfold setdM
      cases z : valG s (at0 a i) with
      | some w =>
        have := q2 _ _ z
        dsimp only
        rw [M.rb, if_pos (by rw [beq_iff_eq]; show w = _; rw [this, hc])]
        exact ⟨s, rfl, by omega, q2⟩
      | none =>
        dsimp only
        rw [if_pos (by omega), M.rb, if_pos (by rw [beq_iff_eq])]
        refine ⟨_, rfl, Nat.le_trans (putG_len _ _ _) (by omega), fun q v hq => ?_⟩
        have hq : valG (putG s (at0 a i) (at0 c i)) q = some v := hq
        rw [valG_put] at hq
        by_cases w : q = at0 a i
        · rw [if_pos w] at hq; cases hq; rw [w, hc]
        · rw [if_neg w] at hq; exact q2 q v hq
  rw [e, M.rb]
  by_cases z : 1 ≤ pl ∧ pl ≤ 8
  · rw [if_pos z, decide_eq_true z.1, decide_eq_true z.2, if_neg (by decide)]
  · rw [if_neg z, if_pos]
    rw [Bool.not_eq_true', Bool.and_eq_false_iff, decide_eq_false_iff_not, decide_eq_false_iff_not]
    omega
theorem shelf_no {a c : List Int} {f : Int → Int} {pl : Int} {d : List Int} (o : ShelfOk a c f) (h : d.length ≠ a.length) : F__check_shelf (Tp.mk a) (Tp.mk d) pl = M.err "NotAllowed" := by
  unfold F__check_shelf
  dsimp only
  rw [if_neg (by rw [decide_eq_true_eq]; have := o.n; omega), forS_unit fun x hx => by
    have := o.ga x hx
    rw [decide_eq_true this.1, decide_eq_true this.2, if_neg (by decide)], M.rb, if_pos (by rw [bne_iff_ne]; omega)]
theorem pwork_ok {a c p : List Int} {f : Int → Int} {pl : Int} (o : ShelfOk a c f) (h1 : 1 ≤ pl) (h8 : pl ≤ 8) (r : Right a pl p) : F_plan_work (Tp.mk a) (Tp.mk c) pl (Tp.mk p) = M.ret (workS c p) := by
  unfold F_plan_work
  rw [shelf_ok o, if_pos ⟨h1, h8⟩, M.rb, (check_plan_ok o.n h1).1 r, M.rb]
  dsimp only
  rw [lcP_ok (by have := zip_len c p; have := o.l; have := o.n; omega), M.rb, work_eq o.l r]
theorem pwork_no {a c p : List Int} {f : Int → Int} {pl : Int} (o : ShelfOk a c f) (h1 : 1 ≤ pl) (h8 : pl ≤ 8) (r : ¬ Right a pl p) : F_plan_work (Tp.mk a) (Tp.mk c) pl (Tp.mk p) = M.err "NotAllowed" := by
  unfold F_plan_work
  rw [shelf_ok o, if_pos ⟨h1, h8⟩, M.rb, (check_plan_ok o.n h1).2 r, M.eb]
/-! bounds -/
def segS (a pr : List Int) (k : Nat) : Int := (cut pr (some ((k : Int) + 1)) (some (lat a k))).sum
def restS (a c pr : List Int) (k : Nat) : Int := if 0 ≤ lat a k then maxI 0 (at0 c k - segS a pr k) else 0
def boundS (a c : List Int) (pl : Int) (pr : List Int) : Int := c.sum - (pl - 1) * pr.sum - sm a.length (restS a c pr)
theorem lbound_ok {a c pr : List Int} {f : Int → Int} {pl : Int} (o : ShelfOk a c f) (h1 : 1 ≤ pl) (h8 : pl ≤ 8) (hp : 0 ≤ pr.sum ∧ pr.sum ≤ 1000000) : F__law_bound (Tp.mk a) (Tp.mk c) pl (Tp.mk pr) = M.ret (boundS a c pl pr) := by
  have hn := o.n
  unfold F__law_bound
  dsimp only
  rw [mulM_ok (by omega) (by omega) (by omega) (by omega), M.rb, rng1_ok (by omega) (by omega), M.rb, Int.toNat_natCast]
  obtain ⟨s, e, q⟩ := forS_ex (xs := rngL 0 a.length) (s := c.sum - (pl - 1) * pr.sum) (f := fun (s3 : Int) (k : Int) => M.bind (M.calm (F__law_later (Tp.mk a) k)) fun t4 => M.bind (if (decide ((0 : Int) ≤ t4)) = true then M.bind (ixM c k) fun t6 => M.ret (s3 - (maxI (0 : Int) (t6 - (cut pr (some (k + (1 : Int))) (some t4)).sum))) else M.ret s3) fun s5 : Int => M.ret s5)
    (fun i s => s = c.sum - (pl - 1) * pr.sum - sm i (restS a c pr)) (by rw [sm_zero]; omega) fun i x s hx q => by
      obtain ⟨rfl, hi⟩ := rngL_get hx
      rw [Int.zero_add, later_ok (by omega) hi, M.cb, M.rb]
      have t : ∃ s', (M.bind (if (decide ((0 : Int) ≤ lat a i)) = true then M.bind (ixM c ((i : Nat) : Int)) fun t6 => M.ret (s - (maxI (0 : Int) (t6 - (cut pr (some (((i : Nat) : Int) + (1 : Int))) (some (lat a i))).sum))) else M.ret s) fun s5 : Int => M.ret s5) = M.ret s' ∧ s' = s - restS a c pr i := by
        by_cases z : 0 ≤ lat a i
        · rw [if_pos (decide_eq_true z), ix0 (i := i) (by rw [o.l]; exact hi) rfl, M.rb, M.rb]
          refine ⟨_, rfl, ?_⟩
          unfold restS segS
          rw [if_pos z]
        · rw [if_neg (by rw [decide_eq_true_eq]; exact z), M.rb]
          refine ⟨_, rfl, ?_⟩
          unfold restS
          rw [if_neg z]; omega
      obtain ⟨s', e', q'⟩ := t
      refine ⟨s', e', ?_⟩
      rw [q', q, sm_succ]
      omega
  rw [rngL_len] at q
  rw [e, M.rb, q]
  rfl
theorem pbound_ok {a c pr : List Int} {f : Int → Int} {pl : Int} (o : ShelfOk a c f) (h1 : 1 ≤ pl) (h8 : pl ≤ 8) (hl : pr.length = a.length) (h0 : ∀ x ∈ pr, 0 ≤ x) (hp : 0 ≤ pr.sum ∧ pr.sum ≤ 1000000) : F_bound_of (Tp.mk a) (Tp.mk c) pl (Tp.mk pr) = M.ret (boundS a c pl pr) := by
  have hn := o.n
  unfold F_bound_of
  rw [shelf_ok o, if_pos ⟨h1, h8⟩, M.rb]
  dsimp only
  rw [if_neg (by rw [hl]; simp), forS_unit fun x hx => by rw [if_neg (by rw [decide_eq_true_eq]; have := h0 x hx; omega)], M.rb, stays_ok hn, M.cb, M.rb]
  have l : (stS a).length ≤ a.length := by
    unfold stS
    rw [List.length_map]
    exact Nat.le_trans (List.length_filter_le _ _) (by rw [List.length_range]; exact Nat.le_refl _)
  rw [mapM1_pure (g := fun x : P2 Int Int => restS a c pr x.a.toNat) (by omega) fun x hx => by
    obtain ⟨k, j, rfl, h⟩ := stS_mem.mp hx
    have := h.1
    have := h.2.1
    rw [ix0 (i := k) (by rw [o.l]; omega) rfl, M.rb]
    unfold restS segS
    dsimp only
    rw [Int.toNat_natCast, lat_of h, if_pos (by omega)], M.rb, mulM_ok (by omega) (by omega) (by omega) (by omega), M.rb]
  congr 1
  have e : ((stS a).map fun x : P2 Int Int => restS a c pr x.a.toNat).sum = sm a.length (restS a c pr) := by
    unfold stS
    rw [List.map_map]
    show (((List.range a.length).filter fun k => decide (0 ≤ lat a k)).map fun k => restS a c pr (((k : Nat) : Int).toNat)).sum = _
    rw [sum_filter]
    refine sm_congr fun k _ => ?_
    rw [Int.toNat_natCast]
    by_cases z : 0 ≤ lat a k
    · rw [if_pos (decide_eq_true z)]
    · rw [if_neg (by rw [decide_eq_true_eq]; exact z)]
      unfold restS
      rw [if_neg z]
  rw [e]
  unfold boundS
  omega
theorem seg_eq {a pr p : List Int} {k : Nat} (hl : pr.length = a.length) (hk : k < a.length) (he : at0 p k = 1 → 0 ≤ lat a k) : (if at0 p k = 1 then segS a pr k else 0) = sm a.length fun b => at0 pr b * covI a p b k := by
  by_cases z : at0 p k = 1
  · rw [if_pos z]
    rcases lat_is hk with ⟨e, _⟩ | ⟨j, e, h⟩
    · have := he z; omega
    · have h1 := h.1
      have h2 := h.2.1
      unfold segS
      rw [e, cut_nn (by omega) (by omega), show ((k : Int) + 1).toNat = k + 1 by omega, show ((j : Int) - ((k : Int) + 1)).toNat = j - (k + 1) by omega, seg_sum _ _ _ (by omega), hl]
      refine sm_congr fun b _ => ?_
      unfold covI
      rw [e]
      by_cases w : k + 1 ≤ b ∧ b < k + 1 + (j - (k + 1))
      · rw [if_pos w, if_pos ⟨z, by omega, by omega⟩, Int.mul_one]
      · rw [if_neg w, if_neg (by omega), Int.mul_zero]
  · rw [if_neg z]
    have : sm a.length (fun b => at0 pr b * covI a p b k) = sm a.length fun b => 0 * 0 := sm_congr fun b _ => by
      unfold covI
      rw [if_neg (fun q => z q.1), Int.mul_zero]; rfl
    rw [this, sm_mul, Int.zero_mul]
theorem dual {a c pr p : List Int} {pl : Int} (hc : c.length = a.length) (hl : pr.length = a.length) (h0 : ∀ x ∈ pr, 0 ≤ x) (r : Right a pl p) : boundS a c pl pr ≤ workS c p := by
  have s1 : sm a.length (at0 c) = workS c p + sm a.length fun k => if at0 p k = 1 then at0 c k else 0 := by
    unfold workS
    rw [hc, ← sm_add]
    refine sm_congr fun k hk => ?_
    rcases r.v k hk with z | z
    · rw [z, if_pos rfl, if_neg (by decide)]; omega
    · rw [z, if_neg (by decide), if_pos rfl]; omega
  have s2 : (sm a.length fun k => if at0 p k = 1 then at0 c k else 0) ≤ sm a.length fun k => restS a c pr k + if at0 p k = 1 then segS a pr k else 0 := sm_le fun k hk => by
    have nn : 0 ≤ restS a c pr k := by
      unfold restS maxI
      split
      · split <;> omega
      · omega
    by_cases z : at0 p k = 1
    · rw [if_pos z, if_pos z]
      have := r.e k hk z
      unfold restS maxI
      rw [if_pos this]
      split <;> omega
    · rw [if_neg z, if_neg z]; omega
  rw [sm_add] at s2
  have s3 : (sm a.length fun k => if at0 p k = 1 then segS a pr k else 0) = sm a.length fun b => at0 pr b * cov a p a.length b := by
    rw [sm_congr fun k hk => seg_eq hl hk (r.e k hk), sm_swap]
    exact sm_congr fun b _ => sm_mul _ _ _
  have s4 : (sm a.length fun b => at0 pr b * cov a p a.length b) ≤ sm a.length fun b => (pl - 1) * at0 pr b := sm_le fun b hb => by
    have p0 := h0 (at0 pr b) (List.mem_of_getElem? (at0_get (by omega)))
    have := r.c b hb
    rw [Int.mul_comm]
    exact Int.mul_le_mul_of_nonneg_right (by omega) p0
  rw [sm_mul] at s4
  have s5 : c.sum = sm a.length (at0 c) := by rw [sm_list c, hc]
  have s6 : pr.sum = sm a.length (at0 pr) := by rw [sm_list pr, hl]
  unfold boundS
  rw [s5, s6]
  rw [s3] at s2
  have s7 : sm a.length (restS a c pr) = sm a.length fun k => restS a c pr k := rfl
  rw [s7]
  generalize (sm a.length fun k => restS a c pr k) = A at *
  generalize (pl - 1) * sm a.length (at0 pr) = B at *
  omega
/-! what is told -/
theorem told0 {a c p : List Int} {f : Int → Int} {pl : Int} (o : ShelfOk a c f) (h1 : 1 ≤ pl) (h8 : pl ≤ 8) (r : Right a pl p) : F__law_told 0 (Tp.mk a) (Tp.mk c) pl (Tp.mk p) = M.ret (enc (P2.mk ("told" : Str) (workS c p) : P2 Str Int)) := by
  unfold F__law_told
  show M.tryE (M.bind (M.bind (F_plan_work (Tp.mk a) (Tp.mk c) pl (Tp.mk p)) fun t1 => M.ret t1) _) = _
  rw [pwork_ok o h1 h8 r, M.rb, M.rb]
  rfl
theorem told0_no {a c p : List Int} {pl : Int} (h : F_plan_work (Tp.mk a) (Tp.mk c) pl (Tp.mk p) = M.err "NotAllowed") : F__law_told 0 (Tp.mk a) (Tp.mk c) pl (Tp.mk p) = M.ret (.str "refused") := by
  unfold F__law_told
  show M.tryE (M.bind (M.bind (F_plan_work (Tp.mk a) (Tp.mk c) pl (Tp.mk p)) fun t1 => M.ret t1) _) = _
  rw [h, M.eb, M.eb]
  rfl
theorem told1 {a c p : List Int} {pl b : Int} (h : F_bound_of (Tp.mk a) (Tp.mk c) pl (Tp.mk p) = M.ret b) : F__law_told 1 (Tp.mk a) (Tp.mk c) pl (Tp.mk p) = M.ret (enc (P2.mk ("told" : Str) b : P2 Str Int)) := by
  unfold F__law_told
  show M.tryE (M.bind (M.bind (F_bound_of (Tp.mk a) (Tp.mk c) pl (Tp.mk p)) fun t1 => M.ret t1) _) = _
  rw [h, M.rb, M.rb]
  rfl
theorem told1_no {a c p : List Int} {pl : Int} (h : F_bound_of (Tp.mk a) (Tp.mk c) pl (Tp.mk p) = M.err "NotAllowed") : F__law_told 1 (Tp.mk a) (Tp.mk c) pl (Tp.mk p) = M.ret (.str "refused") := by
  unfold F__law_told
  show M.tryE (M.bind (M.bind (F_bound_of (Tp.mk a) (Tp.mk c) pl (Tp.mk p)) fun t1 => M.ret t1) _) = _
  rw [h, M.eb, M.eb]
  rfl
theorem bound_len {a c pr : List Int} {f : Int → Int} {pl : Int} (o : ShelfOk a c f) (h1 : 1 ≤ pl) (h8 : pl ≤ 8) (h : pr.length ≠ a.length) : F_bound_of (Tp.mk a) (Tp.mk c) pl (Tp.mk pr) = M.err "NotAllowed" := by
  unfold F_bound_of
  rw [shelf_ok o, if_pos ⟨h1, h8⟩, M.rb]
  dsimp only
  rw [if_pos (by rw [bne_iff_ne]; omega)]
theorem bound_neg {a c pr : List Int} {f : Int → Int} {pl x : Int} {t : List Int} (o : ShelfOk a c f) (h1 : 1 ≤ pl) (h8 : pl ≤ 8) (e : pr = x :: t) (hx : x < 0) : F_bound_of (Tp.mk a) (Tp.mk c) pl (Tp.mk pr) = M.err "NotAllowed" := by
  by_cases h : pr.length = a.length
  · unfold F_bound_of
    rw [shelf_ok o, if_pos ⟨h1, h8⟩, M.rb]
    dsimp only
    rw [if_neg (by rw [h]; simp), e]
    show M.bind (M.bind (if (decide (x < (0 : Int))) = true then M.err "NotAllowed" else M.ret ()) _) _ = _
    rw [if_pos (decide_eq_true hx), M.eb, M.eb]
  · exact bound_len o h1 h8 h
theorem bound_shelf {a c pr d : List Int} {f : Int → Int} {pl : Int} (o : ShelfOk a c f) (h : d.length ≠ a.length) : F_bound_of (Tp.mk a) (Tp.mk d) pl (Tp.mk pr) = M.err "NotAllowed" := by
  unfold F_bound_of
  rw [shelf_no o h, M.eb]
theorem work_nine {a c p : List Int} {f : Int → Int} (o : ShelfOk a c f) : F_plan_work (Tp.mk a) (Tp.mk c) 9 (Tp.mk p) = M.err "NotAllowed" := by
  unfold F_plan_work
  rw [shelf_ok o, if_neg (by decide), M.eb]
theorem refused4 : eqM (enc ([.str "refused", .str "refused", .str "refused", .str "refused"] : List PyData)) (enc ([.str "refused", .str "refused", .str "refused", .str "refused"] : List PyData)) = M.ret true := by
  show eqM (.list [.str "refused", .str "refused", .str "refused", .str "refused"]) (.list [.str "refused", .str "refused", .str "refused", .str "refused"]) = M.ret true
  have s : SeqAt.shaped (.list [.str "refused", .str "refused", .str "refused", .str "refused"]) = true := by decide +kernel
  have v : PyData.eqv (.list [.str "refused", .str "refused", .str "refused", .str "refused"]) (.list [.str "refused", .str "refused", .str "refused", .str "refused"]) = true := by decide +kernel
  unfold eqM
  rw [if_pos ⟨s, s⟩, v]
theorem same_ok {a b : PyData} (f : Fits a) (e : a = b) : F__law_same a b = M.ret true := same_enc f e
theorem two {α : Type} {P : α → Prop} {a b : α} (ha : P a) (hb : P b) : ∀ x ∈ [a, b], P x := fun x hx => by
  simp only [List.mem_cons, List.mem_nil_iff, or_false] at hx
  rcases hx with rfl | rfl <;> assumption
theorem told_fits {b : Int} (h : b.natAbs < 10 ^ 12) : Fits (enc (P2.mk ("told" : Str) b : P2 Str Int)) := by
  have a : Fz (2 * (40 + 1)) 1 (.tuple [.str "told", .int b]) := fz_tup (w := 40) (p := 0) (two ((fz_str (n := 4) (by decide +kernel) (by decide +kernel)).up (by decide) (by decide)) (fz_int h)) (Nat.le_refl 2)
  exact a.fits (by decide) (by decide)
theorem ref_fits : Fits (.str "refused") := (fz_str (n := 7) (by decide +kernel) (by decide +kernel)).fits (by decide) (by decide)
theorem list_fz {l : List Int} (h : ∀ x ∈ l, 0 ≤ x ∧ x ≤ 9999) (hl : l.length ≤ 60) : Fz (60 * (40 + 1)) 1 (enc (Tp.mk l)) := fz_encT (fun x hx => fz_int (by have := h x hx; omega)) hl
theorem repr_ok {a c : List Int} {f : Int → Int} (o : ShelfOk a c f) :
    (M.asE (M.lift (gReprA [.d (enc (P2.mk (Tp.mk a) (Tp.mk c) : (P2 (Tp Int) (Tp Int))))])) : M Str) = M.ret (PyData.shown (enc (P2.mk (Tp.mk a) (Tp.mk c) : (P2 (Tp Int) (Tp Int))))) := by
  have t : Fz (2 * (60 * (40 + 1) + 1)) 2 (.tuple [enc (Tp.mk a), enc (Tp.mk c)]) := fz_tup (w := 60 * (40 + 1)) (p := 1) (two (list_fz (fun x hx => by have := o.ga x hx; omega) o.n) (list_fz o.b (by have := o.l; have := o.n; omega))) (Nat.le_refl 2)
  funext k
  exact M.asE_ret (a := .str (PyData.shown (enc (P2.mk (Tp.mk a) (Tp.mk c) : (P2 (Tp Int) (Tp Int)))))) (Fits.reprT (t.fits (by decide) (by decide)) k) rfl
theorem sm_bd {n : Nat} {g : Nat → Int} {b : Int} (h : ∀ i < n, 0 ≤ g i ∧ g i ≤ b) : 0 ≤ sm n g ∧ sm n g ≤ n * b := by
  induction n with
  | zero => rw [sm_zero]; simp
  | succ n ih =>
    have := ih fun i hi => h i (by omega)
    have := h n (by omega)
    rw [sm_succ, Int.natCast_add, Int.add_mul]
    have e : ((1 : Nat) : Int) * b = b := by simp
    omega
theorem work_bd {a c p : List Int} {f : Int → Int} (o : ShelfOk a c f) : 0 ≤ workS c p ∧ workS c p ≤ 600000 := by
  have := sm_bd (n := c.length) (g := fun k => if at0 p k = 0 then at0 c k else 0) (b := 9999) fun i hi => by
    have := o.b (at0 c i) (List.mem_of_getElem? (at0_get hi))
    show 0 ≤ (if at0 p i = 0 then at0 c i else 0) ∧ (if at0 p i = 0 then at0 c i else 0) ≤ 9999
    split <;> omega
  have := o.l
  have := o.n
  unfold workS
  omega
theorem mem_cut {xs : List Int} {i j : Option Int} {x : Int} (h : x ∈ cut xs i j) : x ∈ xs := List.mem_of_mem_drop (List.mem_of_mem_take h)
theorem bound_bd {a c pr : List Int} {f : Int → Int} {pl : Int} (o : ShelfOk a c f) (h1 : 1 ≤ pl) (h8 : pl ≤ 8) (h0 : ∀ x ∈ pr, 0 ≤ x ∧ x ≤ 10000) (hl : pr.length = a.length) : (boundS a c pl pr).natAbs < 10 ^ 12 ∧ 0 ≤ pr.sum ∧ pr.sum ≤ 1000000 := by
  have hn := o.n
  have s1 := sum_le o.b
  have s2 := sum_le h0
  have s3 := sm_bd (n := a.length) (g := restS a c pr) (b := 9999) fun i hi => by
    have := o.b (at0 c i) (List.mem_of_getElem? (at0_get (by rw [o.l]; exact hi)))
    have s : 0 ≤ segS a pr i := (sum_le (l := cut pr (some ((i : Int) + 1)) (some (lat a i))) (b := 10000) fun x hx => h0 x (mem_cut hx)).1
    unfold restS maxI
    split
    · split <;> omega
    · omega
  have m1 : 0 ≤ (pl - 1) * pr.sum := Int.mul_nonneg (by omega) (by omega)
  have m2 : (pl - 1) * pr.sum ≤ 8 * pr.sum := Int.mul_le_mul_of_nonneg_right (by omega) (by omega)
  have := o.l
  unfold boundS
  omega
theorem rep1 {x : Int} (n : Nat) : (List.replicate n [x]).flatten = List.replicate n x := by
  induction n with
  | zero => rfl
  | succ n ih => rw [List.replicate_succ, List.flatten_cons, ih, List.replicate_succ]; rfl
theorem rep_ok {x n : Int} (h1 : -1000 ≤ n) (h2 : n ≤ 1000) : repAM (Tp.mk [x] : Tp Int) n = M.ret (Tp.mk (List.replicate n.toNat x)) := by
  rw [repAM_ok (by simp) h1 h2 (by simp)]
  dsimp only
  rw [rep1]
/-! draws -/
def AskOk (t : P2 (Tp Int) (Tp Int)) : Prop := (∃ f, ShelfOk t.a.l t.b.l f) ∧ t.a.l.length ≤ 30
theorem asks_dr {ns : List Int} (g : Good ns) : Dr (F__law_asks ns 30) 200 AskOk := by
  unfold F__law_asks
  refine Dr.stepc (next_dr g (m := 30 + 1) (by decide)) (by decide) fun t1 h1 => ?_
  refine Dr.stepc (next_dr g (m := 6) (by decide)) (by decide) fun t2 h2 => ?_
  refine Dr.eq (rng1_ok (by omega) (by omega)) ?_
  refine Dr.step (k := 18) (P := fun ps : List Int => ps.length = (1 + t2).toNat ∧ ∀ x ∈ ps, 0 ≤ x ∧ x ≤ 9999) ?_ (by decide) fun ps hps => ?_
  · refine Dr.mono (Dr.map (k := 3) (P := fun x : Int => 0 ≤ x ∧ x ≤ 9999) (by rw [rngL_len]; omega) (by decide) fun k _ => ?_) (by rw [rngL_len]; omega) fun ys q => by rw [rngL_len] at q; exact q
    refine Dr.stepc (next_dr g (m := 9) (by decide)) (by decide) fun t4 h4 => ?_
    refine Dr.stepc (next_dr g (m := 10) (by decide)) (by decide) fun t5 h5 => ?_
    refine Dr.stepc (next_dr g (m := 5) (by decide)) (by decide) fun t6 h6 => ?_
    refine Dr.step (k := 0) (P := fun x : Int => 0 ≤ x ∧ x ≤ 2) (Dr.ix h6.1 (by simpa using h6.2) fun x hx => ?_) (by decide) fun t7 h7 => ?_
    · simp only [List.mem_cons, List.mem_nil_iff, or_false] at hx
      rcases hx with rfl | rfl | rfl | rfl | rfl <;> decide
    refine Dr.step (k := 0) (P := fun x : Int => 0 ≤ x ∧ x ≤ 9999) (Dr.ix h7.1 (by simp; omega) fun x hx => ?_) (by decide) fun t8 h8 => Dr.done h8 (by decide)
    simp only [List.mem_cons, List.mem_nil_iff, or_false] at hx
    rcases hx with rfl | rfl | rfl <;> omega
  refine Dr.eq (rng1_ok (by omega) (by omega)) ?_
  have range_ok : ∀ l : List Int, (l.length = t1.toNat ∧ ∀ x ∈ l, 0 ≤ x ∧ x < 1 + t2) → Dr (M.bind (M.calm (F__law_next ns (2 : Int))) fun t17 => M.bind (mulM t17 (90 : Int)) fun t18 => M.bind (mapP l (fun ask : Int => ((ask + t18) : Int))) fun t19 => M.bind (mapM1 l (fun ask : Int => M.bind (ixM ps ask) fun t20 => M.ret t20)) fun t21 => M.ret (P2.mk (Tp.mk t19) (Tp.mk t21) : (P2 (Tp Int) (Tp Int)))) 10 AskOk := fun l hl => by
    obtain ⟨l1, l2⟩ := hl
    refine Dr.stepc (next_dr g (m := 2) (by decide)) (by decide) fun t17 h17 => ?_
    refine Dr.eq (mulM_ok (by omega) (by omega) (by omega) (by omega)) ?_
    refine Dr.eq (mapP_ok (by omega)) ?_
    refine Dr.eq (mapM1_pure (g := fun ask : Int => at0 ps ask.toNat) (by omega) fun x hx => by
      have := l2 x hx
      rw [ix0 (i := x.toNat) (by omega) (by omega), M.rb]) ?_
    have at_l : ∀ k (hk : k < l.length), at0 (l.map fun ask : Int => ((ask + t17 * 90) : Int)) k = l[k] + t17 * 90 ∧ at0 (l.map fun ask : Int => at0 ps ask.toNat) k = at0 ps l[k].toNat := fun k hk => by
      constructor
      · show ((l.map fun ask : Int => ((ask + t17 * 90) : Int))[k]?).getD 0 = _
        rw [List.getElem?_map, List.getElem?_eq_getElem hk]; rfl
      · show ((l.map fun ask : Int => at0 ps ask.toNat)[k]?).getD 0 = _
        rw [List.getElem?_map, List.getElem?_eq_getElem hk]; rfl
    refine Dr.done ⟨⟨fun q => at0 ps (q - t17 * 90).toNat, ?_⟩, by show (l.map _).length ≤ 30; rw [List.length_map]; omega⟩ (by decide)
    refine ⟨by show (l.map _).length ≤ 60; rw [List.length_map]; omega, fun x hx => ?_, by show (l.map _).length = (l.map _).length; rw [List.length_map, List.length_map], fun k hk => ?_, fun x hx => ?_⟩
    · obtain ⟨y, hy, rfl⟩ := List.mem_map.mp hx
      have := l2 y hy
      omega
    · have hk : k < l.length := by
        have hk : k < (l.map fun ask : Int => ((ask + t17 * 90) : Int)).length := hk
        rwa [List.length_map] at hk
      obtain ⟨e1, e2⟩ := at_l k hk
      show at0 (l.map fun ask : Int => at0 ps ask.toNat) k = at0 ps (at0 (l.map fun ask : Int => ((ask + t17 * 90) : Int)) k - t17 * 90).toNat
      rw [e1, e2]
      congr 2
      omega
    · obtain ⟨y, hy, rfl⟩ := List.mem_map.mp hx
      have := l2 y hy
      exact hps.2 _ (List.mem_of_getElem? (at0_get (by omega)))
  refine Dr.step (k := 30) (P := fun l : List Int => l.length = t1.toNat ∧ ∀ x ∈ l, 0 ≤ x ∧ x < 1 + t2) ?_ (by decide) fun t12 h12 => ?_
  · exact Dr.mono (Dr.map (k := 1) (P := fun x : Int => 0 ≤ x ∧ x < 1 + t2) (by rw [rngL_len]; omega) (by decide) fun k _ => Dr.stepc (next_dr g (m := 1 + t2) (by omega)) (by decide) fun t h => Dr.done h (by decide)) (by rw [rngL_len]; omega) fun ys q => by rw [rngL_len] at q; exact q
  refine Dr.step (k := 1) (P := fun _ => True) (Dr.stepc (next_dr g (m := 3) (by decide)) (by decide) fun t h => Dr.done trivial (by decide)) (by decide) fun b23 _ => ?_
  refine Dr.step (k := 0) (P := fun l : List Int => l.length = t1.toNat ∧ ∀ x ∈ l, 0 ≤ x ∧ x < 1 + t2) (Dr.ite (fun _ => ?_) fun _ => Dr.ret h12) (by decide) fun s13 h13 => Dr.mono (range_ok s13 h13) (by decide) fun _ q => q
  refine Dr.eq (rng1_ok (by omega) (by omega)) ?_
  refine Dr.eq (mapM1_pure (g := fun k : Int => k % (1 + t2)) (by rw [rngL_len]; omega) fun k _ => by rw [modM_ok (by omega), M.rb]) (Dr.ret ⟨by rw [List.length_map, rngL_len], fun x hx => ?_⟩)
  obtain ⟨y, hy, rfl⟩ := List.mem_map.mp hx
  exact ⟨Int.emod_nonneg _ (by omega), Int.emod_lt_of_pos _ (by omega)⟩
open Classical in
theorem greedy_dr {ns : List Int} (g : Good ns) {a : List Int} {pl : Int} (hl : a.length ≤ 30) (h0 : 0 < a.length) : Dr (F__law_greedy ns (Tp.mk a) pl) 60 fun t => t.l.length = a.length := by
  unfold F__law_greedy
  dsimp only
  have r0 : repN ([(0 : Int)] : List Int) (a.length : Int) = M.ret (List.replicate a.length 0) := by
    rw [repN_ok (by omega) (by omega) (by simp; omega), rep1, Int.toNat_natCast]
  refine Dr.eq r0 (Dr.eq (mulM_ok (by omega) (by omega) (by omega) (by omega)) (Dr.eq (rng1_ok (by omega) (by omega)) ?_))
  refine Dr.step (k := 60) (P := fun s : List Int => s.length = a.length) (Dr.mono (Dr.forS (k := 1) (fun _ (s : List Int) => s.length = a.length) (by decide) List.length_replicate fun i s x hx hs => ?_) (by rw [rngL_len]; omega) fun _ q => q) (by decide) fun s hs => Dr.done hs (by decide)
  refine Dr.stepc (next_dr g (m := (a.length : Int)) (by omega)) (by decide) fun t5 h5 => ?_
  refine Dr.eq (set0 (i := t5.toNat) (by omega) (by omega)) ?_
  refine Dr.eq (a := !decide (Right a pl (s.set t5.toNat 1))) (by rw [right_ok (by omega) (by rw [List.length_set]; omega), M.cb, M.rb]) ?_
  refine Dr.step (k := 0) (P := fun s : List Int => s.length = a.length) (Dr.ite (fun _ => ?_) fun _ => Dr.ret (by rw [List.length_set]; exact hs)) (by decide) fun s' hs' => Dr.done hs' (by decide)
  exact Dr.eq (set0 (i := t5.toNat) (by rw [List.length_set]; omega) (by omega)) (Dr.ret (by rw [List.length_set, List.length_set]; exact hs))
def PlansOk (n : Nat) (L : List (Tp Int)) : Prop := ((∃ r, L = Tp.mk (List.replicate n 0) :: r) ∧ L.length ≤ 10) ∧ ∀ p ∈ L, n ≤ p.l.length ∧ p.l.length ≤ n + 1
theorem plans_dr {ns : List Int} (g : Good ns) {a : List Int} {pl : Int} (hl : a.length ≤ 30) : Dr (F__law_plans ns (Tp.mk a) pl) 300 fun L => PlansOk a.length L := by
  unfold F__law_plans
  rw [M.lb]
  dsimp only
  have rr : ∀ x : Int, repAM (Tp.mk [x] : Tp Int) (a.length : Int) = M.ret (Tp.mk (List.replicate a.length x)) := fun x => by rw [rep_ok (by omega) (by omega), Int.toNat_natCast]
  refine Dr.eq (rr 0) (Dr.eq (rr 1) (Dr.eq (rng1_ok (by omega) (by omega)) ?_))
  rw [Int.toNat_natCast]
  have lt : ∀ k ∈ rngL 0 a.length, F__law_later (Tp.mk a) k = M.ret (lat a k.toNat) := fun k hk => by
    obtain ⟨h1, h2⟩ := rngL_mem.mp hk
    have := later_ok (a := a) (k := k.toNat) (by omega) (by omega)
    rwa [show ((k.toNat : Nat) : Int) = k by omega] at this
  refine Dr.eq (mapM1_pure (g := fun k : Int => bti (decide ((0 : Int) ≤ lat a k.toNat))) (by rw [rngL_len]; omega) fun k hk => by rw [lt k hk, M.cb, M.rb]) ?_
  refine Dr.eq (rng1_ok (by omega) (by omega)) ?_
  rw [Int.toNat_natCast]
  refine Dr.step (k := 30) (P := fun l : List Int => l.length = a.length) (Dr.mono (Dr.map (k := 1) (P := fun _ : Int => True) (by rw [rngL_len]; omega) (by decide) fun k _ => Dr.stepc (next_dr g (m := 2) (by decide)) (by decide) fun t h => Dr.done trivial (by decide)) (by rw [rngL_len]; omega) fun ys q => by rw [rngL_len] at q; exact q.1) (by decide) fun t8 h8 => ?_
  refine Dr.eq (rng1_ok (by omega) (by omega)) ?_
  rw [Int.toNat_natCast]
  refine Dr.step (k := 30) (P := fun l : List Int => l.length = a.length) (Dr.mono (Dr.map (k := 1) (P := fun _ : Int => True) (by rw [rngL_len]; omega) (by decide) fun k hk => Dr.eqc (lt k hk) (Dr.stepc (next_dr g (m := 2) (by decide)) (by decide) fun t h => Dr.eq (mulM_ok (by have := bti_lt (decide ((0 : Int) ≤ lat a k.toNat)); omega) (by have := bti_lt (decide ((0 : Int) ≤ lat a k.toNat)); omega) (by omega) (by omega)) (Dr.done trivial (by decide)))) (by rw [rngL_len]; omega) fun ys q => by rw [rngL_len] at q; exact q.1) (by decide) fun t13 h13 => ?_
  refine Dr.eq (rep_ok (by omega) (by omega)) (Dr.eq (rep_ok (by omega) (by omega)) ?_)
  refine Dr.eq (catTM_ok (by simp; omega)) ?_
  refine Dr.eq (catM_ok (by simp)) ?_
  have first : PlansOk a.length ([Tp.mk (List.replicate a.length 0), Tp.mk (List.replicate a.length 1), Tp.mk ((rngL 0 a.length).map fun k : Int => bti (decide ((0 : Int) ≤ lat a k.toNat))), Tp.mk t8] ++ [Tp.mk t13, Tp.mk (List.replicate ((a.length : Int) + 1).toNat 0), (⟨(Tp.mk [(2 : Int)] : Tp Int).l ++ (Tp.mk (List.replicate ((a.length : Int) - 1).toNat 0) : Tp Int).l⟩ : Tp Int)]) := by
    refine ⟨⟨⟨_, rfl⟩, by simp⟩, fun p hp => ?_⟩
    simp only [List.mem_append, List.mem_cons, List.mem_nil_iff, or_false] at hp
    rcases hp with (rfl | rfl | rfl | rfl) | (rfl | rfl | rfl)
    · simp
    · simp
    · simp [rngL_len]
    · show _ ≤ t8.length ∧ t8.length ≤ _; omega
    · show _ ≤ t13.length ∧ t13.length ≤ _; omega
    · simp <;> omega
    · simp <;> omega
  have flen : ([Tp.mk (List.replicate a.length 0), Tp.mk (List.replicate a.length 1), Tp.mk ((rngL 0 a.length).map fun k : Int => bti (decide ((0 : Int) ≤ lat a k.toNat))), Tp.mk t8] ++ [Tp.mk t13, Tp.mk (List.replicate ((a.length : Int) + 1).toNat 0), (⟨(Tp.mk [(2 : Int)] : Tp Int).l ++ (Tp.mk (List.replicate ((a.length : Int) - 1).toNat 0) : Tp Int).l⟩ : Tp Int)]).length = 7 := rfl
  refine Dr.step (k := 180) (P := PlansOk a.length) (Dr.ite (fun z => ?_) fun _ => Dr.done first (by decide)) (by decide) fun L hL => Dr.done hL (by decide)
  have z := of_decide_eq_true z
  refine Dr.step (k := 180) (P := fun l : List (Tp Int) => l.length = 3 ∧ ∀ p ∈ l, p.l.length = a.length) (Dr.mono (Dr.map (k := 60) (P := fun p : Tp Int => p.l.length = a.length) (by rw [rngL_len]; decide) (by decide) fun k _ => Dr.stepc (greedy_dr g hl (by omega)) (by decide) fun t h => Dr.done h (by decide)) (by rw [rngL_len]; decide) fun ys q => by rw [rngL_len] at q; exact q) (by decide) fun l hl' => ?_
  refine Dr.eq (catM_ok (by have := hl'.1; simp; omega)) (Dr.done ?_ (by decide))
  obtain ⟨⟨⟨r, e⟩, _⟩, h⟩ := first
  refine ⟨⟨⟨r ++ l, by rw [e]; rfl⟩, by rw [List.length_append, flen, hl'.1]; decide⟩, fun p hp => ?_⟩
  rcases List.mem_append.mp hp with q | q
  · exact h p q
  · have := hl'.2 p q; omega
theorem zeros_right {a : List Int} {pl : Int} (h : 1 ≤ pl) : Right a pl (List.replicate a.length 0) := by
  have z : ∀ k, at0 (List.replicate a.length (0 : Int)) k = 0 := fun k => by
    unfold at0
    rw [List.getElem?_replicate]
    split <;> rfl
  refine ⟨List.length_replicate, fun k _ => .inl (z k), fun k _ q => absurd ((z k).symm.trans q) (by decide), fun b _ => ?_⟩
  have : cov a (List.replicate a.length 0) a.length b = sm a.length fun _ => 0 * 0 := sm_congr fun s _ => by
    unfold covI
    rw [if_neg fun q => absurd ((z s).symm.trans q.1) (by decide)]; rfl
  rw [this, sm_mul, Int.zero_mul]
  omega
structure WkI (a c : List Int) (pl : Int) (i : Nat) (s : List Int) : Prop where
  l : s.length ≤ i
  w : ∀ x ∈ s, ∃ p, Right a pl p ∧ x = workS c p
  z : 0 < i → s ≠ []
theorem row_dr {ns : List Int} (g : Good ns) {n : Nat} (hn : n ≤ 30) : Dr (mapM1 (rngL 0 n) fun k : Int => M.bind (M.calm (F__law_next ns (2 : Int))) fun t17 => M.bind (ixM ([(3 : Int), (12 : Int)] : (List Int)) t17) fun t18 => M.bind (M.calm (F__law_next ns t18)) fun t19 => M.ret t19) 60 fun r => r.length = n ∧ ∀ x ∈ r, 0 ≤ x ∧ x ≤ 10000 := by
  refine Dr.mono (Dr.map (k := 2) (P := fun x : Int => 0 ≤ x ∧ x ≤ 10000) (by rw [rngL_len]; omega) (by decide) fun k _ => ?_) (by rw [rngL_len]; omega) fun ys q => by rw [rngL_len] at q; exact q
  refine Dr.stepc (next_dr g (m := 2) (by decide)) (by decide) fun t h => ?_
  refine Dr.step (k := 0) (P := fun x : Int => 3 ≤ x ∧ x ≤ 12) (Dr.ix h.1 (by simpa using h.2) fun x hx => ?_) (by decide) fun t18 h18 => ?_
  · simp only [List.mem_cons, List.mem_nil_iff, or_false] at hx
    rcases hx with rfl | rfl <;> decide
  exact Dr.stepc (next_dr g (m := t18) (by omega)) (by decide) fun t h => Dr.done (by omega) (by decide)
open Classical in
theorem law_dr {ns : List Int} (g : Good ns) (nums : List Int) : Dr (F_law ns nums) 100000 fun b => b = true := by
  unfold F_law
  refine Dr.thn (k := 4 * 2000) (P := fun _ => True) ?_ (by decide) fun s1 _ => Dr.done rfl (by decide)
  refine Dr.mono (Dr.forF (k := 2000) (fun _ _ => True) (by decide) trivial fun i s x hx _ => ?_) (by rw [rngL_len]; decide) fun w h => by obtain ⟨s', e, _⟩ := h; exact ⟨s', e, trivial⟩
  refine Dr.stepc (asks_dr g) (by decide) fun t2 h2 => ?_
  obtain ⟨⟨a⟩, ⟨c⟩⟩ := t2
  obtain ⟨⟨f, o⟩, hl⟩ := h2
  dsimp only at o hl ⊢
  have hcl := o.l
  refine Dr.stepc (next_dr g (m := 5) (by decide)) (by decide) fun t3 h3 => ?_
  have pl1 : 1 ≤ 1 + t3 := by omega
  have pl8 : 1 + t3 ≤ 8 := by omega
  generalize 1 + t3 = pl at pl1 pl8
  refine Dr.eq (repr_ok o) ?_
  rw [M.lb]
  refine Dr.stepc (plans_dr g hl) (by decide) fun L hL => ?_
  obtain ⟨⟨⟨r, eL⟩, lL⟩, hp⟩ := hL
  refine Dr.thn (k := 0) (P := fun s => s ≠ [] ∧ ∀ x ∈ s, ∃ p, Right a pl p ∧ x = workS c p) ?_ (by decide) fun works hw => ?_
  · refine Dr.mono (Dr.forF (k := 0) (fun i s => WkI a c pl i s) (by decide) ⟨Nat.le_refl _, fun x h => (by cases h), fun h => absurd h (Nat.lt_irrefl _)⟩ fun i s p hx hs => ?_) (by simp) fun w h => ?_
    · have hm : p ∈ L := List.mem_of_getElem? hx
      have hi : i < L.length := (List.getElem?_eq_some_iff.mp hx).1
      have i0 : i = 0 → p = Tp.mk (List.replicate a.length 0) := fun z => by
        rw [z, eL] at hx
        exact (Option.some.inj hx).symm
      obtain ⟨p⟩ := p
      obtain ⟨p1, p2⟩ := hp _ hm
      dsimp only at p1 p2
      have wb := work_bd (p := p) o
      refine Dr.eqc (right_ok (by omega) (by omega)) ?_
      have cl : c.length ≤ p.length := by omega
      by_cases rt : Right a pl p
      · refine Dr.eqc (told0 o pl1 pl8 rt) ?_
        refine Dr.eqc (work_cut cl (by omega)) ?_
        rw [decide_eq_true rt]
        refine Dr.eq (a := enc (P2.mk ("told" : Str) (workS c p) : P2 Str Int)) rfl ?_
        refine Dr.eqc (same_ok (told_fits (by omega)) rfl) ?_
        rw [if_neg (by decide), if_pos rfl]
        refine Dr.step (k := 0) (P := fun s' => WkI a c pl (i + 1) s') (Dr.eqc (lwork_ok (by omega) cl) (Dr.eq (appM_ok (by have := hs.l; omega)) (Dr.ret ?_))) (by decide) fun s' h => Dr.done ⟨_, rfl, h⟩ (by decide)
        refine ⟨by rw [List.length_append]; have := hs.l; simp; omega, fun x hx => ?_, fun _ => by simp⟩
        rcases List.mem_append.mp hx with q | q
        · exact hs.w x q
        · exact ⟨p, rt, List.mem_singleton.mp q⟩
      · refine Dr.eqc (told0_no (pwork_no o pl1 pl8 rt)) ?_
        refine Dr.eqc (work_cut cl (by omega)) ?_
        rw [decide_eq_false rt]
        refine Dr.eq (a := (.str "refused" : PyData)) rfl ?_
        refine Dr.eqc (same_ok ref_fits rfl) ?_
        rw [if_neg (by decide), if_neg (by decide)]
        refine Dr.step (k := 0) (P := fun s' => WkI a c pl (i + 1) s') (Dr.ret ⟨by have := hs.l; omega, hs.w, fun _ => ?_⟩) (by decide) fun s' h => Dr.done ⟨_, rfl, h⟩ (by decide)
        by_cases z : i = 0
        · have e : Tp.mk p = Tp.mk (List.replicate a.length 0) := i0 z
          have e : p = List.replicate a.length 0 := congrArg Tp.l e
          exact absurd (e ▸ zeros_right pl1) rt
        · exact hs.z (by omega)
    · obtain ⟨s', e, h⟩ := h
      exact ⟨s', e, h.z (by rw [eL]; simp), h.w⟩
  · obtain ⟨wne, wm⟩ := hw
    rw [M.lb]
    have rr : ∀ x : Int, repAM (Tp.mk [x] : Tp Int) (a.length : Int) = M.ret (Tp.mk (List.replicate a.length x)) := fun x => by rw [rep_ok (by omega) (by omega), Int.toNat_natCast]
    refine Dr.eq (rr 0) (Dr.eq (rr 10000) ?_)
    refine Dr.step (k := 240) (P := fun l : List (Tp Int) => l.length = 4 ∧ ∀ pr ∈ l, pr.l.length = a.length ∧ ∀ x ∈ pr.l, 0 ≤ x ∧ x ≤ 10000) (Dr.mono (Dr.map (k := 60) (P := fun pr : Tp Int => pr.l.length = a.length ∧ ∀ x ∈ pr.l, 0 ≤ x ∧ x ≤ 10000) (by rw [rngL_len]; decide) (by decide) fun j _ => ?_) (by rw [rngL_len]; decide) fun ys q => by rw [rngL_len] at q; exact q) (by decide) fun t21 h21 => ?_
    · refine Dr.eq (rng1_ok (by omega) (by omega)) ?_
      rw [Int.toNat_natCast]
      exact Dr.step (row_dr g hl) (by decide) fun r hr => Dr.done hr (by decide)
    refine Dr.eq (catM_ok (by have := h21.1; simp; omega)) ?_
    have rows : ∀ pr ∈ [Tp.mk (List.replicate a.length 0), Tp.mk (List.replicate a.length 10000)] ++ t21, pr.l.length = a.length ∧ ∀ x ∈ pr.l, 0 ≤ x ∧ x ≤ 10000 := fun pr hpr => by
      rcases List.mem_append.mp hpr with q | q
      · simp only [List.mem_cons, List.mem_nil_iff, or_false] at q
        rcases q with rfl | rfl
        · exact ⟨List.length_replicate, fun x hx => by rw [List.eq_of_mem_replicate hx]; decide⟩
        · exact ⟨List.length_replicate, fun x hx => by rw [List.eq_of_mem_replicate hx]; decide⟩
      · exact h21.2 pr q
    refine Dr.thn (k := 0) (P := fun _ => True) (Dr.mono (Dr.forF (k := 0) (fun _ _ => True) (by decide) trivial fun i s pr hx _ => ?_) (by simp) fun w h => by obtain ⟨s', e, _⟩ := h; exact ⟨s', e, trivial⟩) (by decide) fun s23 _ => ?_
    · obtain ⟨pr⟩ := pr
      obtain ⟨rl, rb⟩ := rows _ (List.mem_of_getElem? hx)
      dsimp only at rl rb
      obtain ⟨b1, b2⟩ := bound_bd o pl1 pl8 rb rl
      refine Dr.eqc (lbound_ok o pl1 pl8 b2) ?_
      refine Dr.eqc (told1 (pbound_ok o pl1 pl8 rl (fun x hx => (rb x hx).1) b2)) ?_
      refine Dr.eqc (same_ok (told_fits b1) rfl) ?_
      refine Dr.eq (a := false) ?_ ?_
      · rw [if_neg (by decide)]
        cases works with
        | nil => exact absurd rfl wne
        | cons w ws =>
          show M.bind (M.ret (ws.foldl min w)) _ = _
          rw [M.rb]
          congr 1
          obtain ⟨p, rt, e⟩ := wm _ (foldl_min ws w).1
          rw [e]
          have := dual (c := c) (pr := pr) o.l rl (fun x hx => (rb x hx).1) rt
          exact decide_eq_false (by omega)
      · rw [if_neg (by decide)]
        exact Dr.done ⟨(), rfl, trivial⟩ (by decide)
    refine Dr.eq (rep_ok (by omega) (by omega)) ?_
    refine Dr.eqc (told1_no (bound_len o pl1 pl8 (by rw [List.length_replicate]; omega))) ?_
    have mx : maxI 1 (a.length : Int) = ((max 1 a.length : Nat) : Int) := by unfold maxI; split <;> omega
    rw [mx]
    refine Dr.eq (rep_ok (by omega) (by omega)) ?_
    rw [Int.toNat_natCast]
    refine Dr.eqc (told1_no (bound_neg (x := -1) (t := List.replicate (max 1 a.length - 1) (-1)) o pl1 pl8 (by rw [← List.replicate_succ]; congr 1; omega) (by decide))) ?_
    refine Dr.eq (rr 0) ?_
    refine Dr.eqc (told0_no (work_nine o)) ?_
    refine Dr.eq (catTM_ok (by simp; omega)) ?_
    refine Dr.eq (rr 0) ?_
    refine Dr.eqc (told1_no (bound_shelf o (by simp; omega))) ?_
    refine Dr.eq (catM_ok (by simp)) ?_
    refine Dr.eq (a := [.str "refused", .str "refused", .str "refused", .str "refused"]) (repN_ok (by decide) (by decide) (by decide)) ?_
    refine Dr.eq (a := false) (by
      show M.bind (eqM (enc ([.str "refused", .str "refused", .str "refused", .str "refused"] : List PyData)) _) _ = _
      rw [refused4]; rfl) ?_
    rw [if_neg (by decide)]
    refine Dr.eq (a := false) (by rw [repr_ok o, M.rb, decide_eq_true rfl]; rfl) ?_
    rw [if_neg (by decide)]
    exact Dr.done ⟨(), rfl, trivial⟩ (by decide)
theorem lawOk : LawOk := by
  refine lawOk_of fun nums hn => ?_
  obtain ⟨ns, c, e, rfl, g⟩ := stream_ok nums hn
  obtain ⟨b, c, e2, rfl⟩ := (law_dr g nums).run (by decide)
  exact ⟨ns, c, e, e2⟩
theorem all_mk {l : PySem.W.OpenLaw} {w : World} {K : PySem.W.Frag} {h : Heap} {mg : Str → Option Value} {fa : Addr} (hyp : LawOk) (X : K.In h) (G : h.Ns mainGlobals mg) (hfa : mg "law" = some (.ref fa))
    {f__law_stream : Addr} {oc__law_stream : Value} {od__law_stream an__law_stream : Option Addr} {sl__law_stream : Array (Option Value)} {kV__law_stream dc__law_stream pm__law_stream cd__law_stream ct__law_stream : Value}
    (n__law_stream : PySem.W.nsIn K mainGlobals "_law_stream" = some (some (.ref f__law_stream))) (l__law_stream : K.lookup f__law_stream = some ⟨oc__law_stream, od__law_stream, .func (PySem.W.fnOf "_law_stream" "_law_stream" (defArgs s__law_stream) (defBody s__law_stream) (defScope s__law_stream) .none kV__law_stream dc__law_stream pm__law_stream an__law_stream cd__law_stream ct__law_stream), sl__law_stream⟩) (c__law_stream : PySem.W.codeIn K cd__law_stream "_law_stream" = true) (k__law_stream : PySem.W.keepIn K (.ref f__law_stream) = true)
    {f__law_next : Addr} {oc__law_next : Value} {od__law_next an__law_next : Option Addr} {sl__law_next : Array (Option Value)} {kV__law_next dc__law_next pm__law_next cd__law_next ct__law_next : Value}
    (n__law_next : PySem.W.nsIn K mainGlobals "_law_next" = some (some (.ref f__law_next))) (l__law_next : K.lookup f__law_next = some ⟨oc__law_next, od__law_next, .func (PySem.W.fnOf "_law_next" "_law_next" (defArgs s__law_next) (defBody s__law_next) (defScope s__law_next) .none kV__law_next dc__law_next pm__law_next an__law_next cd__law_next ct__law_next), sl__law_next⟩) (c__law_next : PySem.W.codeIn K cd__law_next "_law_next" = true) (k__law_next : PySem.W.keepIn K (.ref f__law_next) = true)
    {f__law_asks : Addr} {oc__law_asks : Value} {od__law_asks an__law_asks : Option Addr} {sl__law_asks : Array (Option Value)} {kV__law_asks dc__law_asks pm__law_asks cd__law_asks ct__law_asks : Value}
    (n__law_asks : PySem.W.nsIn K mainGlobals "_law_asks" = some (some (.ref f__law_asks))) (l__law_asks : K.lookup f__law_asks = some ⟨oc__law_asks, od__law_asks, .func (PySem.W.fnOf "_law_asks" "_law_asks" (defArgs s__law_asks) (defBody s__law_asks) (defScope s__law_asks) .none kV__law_asks dc__law_asks pm__law_asks an__law_asks cd__law_asks ct__law_asks), sl__law_asks⟩) (c__law_asks : PySem.W.codeIn K cd__law_asks "_law_asks" = true) (k__law_asks : PySem.W.keepIn K (.ref f__law_asks) = true)
    {f__law_later : Addr} {oc__law_later : Value} {od__law_later an__law_later : Option Addr} {sl__law_later : Array (Option Value)} {kV__law_later dc__law_later pm__law_later cd__law_later ct__law_later : Value}
    (n__law_later : PySem.W.nsIn K mainGlobals "_law_later" = some (some (.ref f__law_later))) (l__law_later : K.lookup f__law_later = some ⟨oc__law_later, od__law_later, .func (PySem.W.fnOf "_law_later" "_law_later" (defArgs s__law_later) (defBody s__law_later) (defScope s__law_later) .none kV__law_later dc__law_later pm__law_later an__law_later cd__law_later ct__law_later), sl__law_later⟩) (c__law_later : PySem.W.codeIn K cd__law_later "_law_later" = true) (k__law_later : PySem.W.keepIn K (.ref f__law_later) = true)
    {f__law_plan_right : Addr} {oc__law_plan_right : Value} {od__law_plan_right an__law_plan_right : Option Addr} {sl__law_plan_right : Array (Option Value)} {kV__law_plan_right dc__law_plan_right pm__law_plan_right cd__law_plan_right ct__law_plan_right : Value}
    (n__law_plan_right : PySem.W.nsIn K mainGlobals "_law_plan_right" = some (some (.ref f__law_plan_right))) (l__law_plan_right : K.lookup f__law_plan_right = some ⟨oc__law_plan_right, od__law_plan_right, .func (PySem.W.fnOf "_law_plan_right" "_law_plan_right" (defArgs s__law_plan_right) (defBody s__law_plan_right) (defScope s__law_plan_right) .none kV__law_plan_right dc__law_plan_right pm__law_plan_right an__law_plan_right cd__law_plan_right ct__law_plan_right), sl__law_plan_right⟩) (c__law_plan_right : PySem.W.codeIn K cd__law_plan_right "_law_plan_right" = true) (k__law_plan_right : PySem.W.keepIn K (.ref f__law_plan_right) = true)
    {f__law_greedy : Addr} {oc__law_greedy : Value} {od__law_greedy an__law_greedy : Option Addr} {sl__law_greedy : Array (Option Value)} {kV__law_greedy dc__law_greedy pm__law_greedy cd__law_greedy ct__law_greedy : Value}
    (n__law_greedy : PySem.W.nsIn K mainGlobals "_law_greedy" = some (some (.ref f__law_greedy))) (l__law_greedy : K.lookup f__law_greedy = some ⟨oc__law_greedy, od__law_greedy, .func (PySem.W.fnOf "_law_greedy" "_law_greedy" (defArgs s__law_greedy) (defBody s__law_greedy) (defScope s__law_greedy) .none kV__law_greedy dc__law_greedy pm__law_greedy an__law_greedy cd__law_greedy ct__law_greedy), sl__law_greedy⟩) (c__law_greedy : PySem.W.codeIn K cd__law_greedy "_law_greedy" = true) (k__law_greedy : PySem.W.keepIn K (.ref f__law_greedy) = true)
    {f__law_plans : Addr} {oc__law_plans : Value} {od__law_plans an__law_plans : Option Addr} {sl__law_plans : Array (Option Value)} {kV__law_plans dc__law_plans pm__law_plans cd__law_plans ct__law_plans : Value}
    (n__law_plans : PySem.W.nsIn K mainGlobals "_law_plans" = some (some (.ref f__law_plans))) (l__law_plans : K.lookup f__law_plans = some ⟨oc__law_plans, od__law_plans, .func (PySem.W.fnOf "_law_plans" "_law_plans" (defArgs s__law_plans) (defBody s__law_plans) (defScope s__law_plans) .none kV__law_plans dc__law_plans pm__law_plans an__law_plans cd__law_plans ct__law_plans), sl__law_plans⟩) (c__law_plans : PySem.W.codeIn K cd__law_plans "_law_plans" = true) (k__law_plans : PySem.W.keepIn K (.ref f__law_plans) = true)
    {f__law_bound : Addr} {oc__law_bound : Value} {od__law_bound an__law_bound : Option Addr} {sl__law_bound : Array (Option Value)} {kV__law_bound dc__law_bound pm__law_bound cd__law_bound ct__law_bound : Value}
    (n__law_bound : PySem.W.nsIn K mainGlobals "_law_bound" = some (some (.ref f__law_bound))) (l__law_bound : K.lookup f__law_bound = some ⟨oc__law_bound, od__law_bound, .func (PySem.W.fnOf "_law_bound" "_law_bound" (defArgs s__law_bound) (defBody s__law_bound) (defScope s__law_bound) .none kV__law_bound dc__law_bound pm__law_bound an__law_bound cd__law_bound ct__law_bound), sl__law_bound⟩) (c__law_bound : PySem.W.codeIn K cd__law_bound "_law_bound" = true) (k__law_bound : PySem.W.keepIn K (.ref f__law_bound) = true)
    {f__law_error : Addr} {oc__law_error : Value} {od__law_error an__law_error : Option Addr} {sl__law_error : Array (Option Value)} {kV__law_error dc__law_error pm__law_error cd__law_error ct__law_error : Value}
    (n__law_error : PySem.W.nsIn K mainGlobals "_law_error" = some (some (.ref f__law_error))) (l__law_error : K.lookup f__law_error = some ⟨oc__law_error, od__law_error, .func (PySem.W.fnOf "_law_error" "_law_error" (defArgs s__law_error) (defBody s__law_error) (defScope s__law_error) .none kV__law_error dc__law_error pm__law_error an__law_error cd__law_error ct__law_error), sl__law_error⟩) (c__law_error : PySem.W.codeIn K cd__law_error "_law_error" = true) (k__law_error : PySem.W.keepIn K (.ref f__law_error) = true)
    {f__check_shelf : Addr} {oc__check_shelf : Value} {od__check_shelf an__check_shelf : Option Addr} {sl__check_shelf : Array (Option Value)} {kV__check_shelf dc__check_shelf pm__check_shelf cd__check_shelf ct__check_shelf : Value}
    (n__check_shelf : PySem.W.nsIn K mainGlobals "_check_shelf" = some (some (.ref f__check_shelf))) (l__check_shelf : K.lookup f__check_shelf = some ⟨oc__check_shelf, od__check_shelf, .func (PySem.W.fnOf "_check_shelf" "_check_shelf" (defArgs s__check_shelf) (defBody s__check_shelf) (defScope s__check_shelf) .none kV__check_shelf dc__check_shelf pm__check_shelf an__check_shelf cd__check_shelf ct__check_shelf), sl__check_shelf⟩) (c__check_shelf : PySem.W.codeIn K cd__check_shelf "_check_shelf" = true) (k__check_shelf : PySem.W.keepIn K (.ref f__check_shelf) = true)
    {f__stays : Addr} {oc__stays : Value} {od__stays an__stays : Option Addr} {sl__stays : Array (Option Value)} {kV__stays dc__stays pm__stays cd__stays ct__stays : Value}
    (n__stays : PySem.W.nsIn K mainGlobals "_stays" = some (some (.ref f__stays))) (l__stays : K.lookup f__stays = some ⟨oc__stays, od__stays, .func (PySem.W.fnOf "_stays" "_stays" (defArgs s__stays) (defBody s__stays) (defScope s__stays) .none kV__stays dc__stays pm__stays an__stays cd__stays ct__stays), sl__stays⟩) (c__stays : PySem.W.codeIn K cd__stays "_stays" = true) (k__stays : PySem.W.keepIn K (.ref f__stays) = true)
    {f__check_plan : Addr} {oc__check_plan : Value} {od__check_plan an__check_plan : Option Addr} {sl__check_plan : Array (Option Value)} {kV__check_plan dc__check_plan pm__check_plan cd__check_plan ct__check_plan : Value}
    (n__check_plan : PySem.W.nsIn K mainGlobals "_check_plan" = some (some (.ref f__check_plan))) (l__check_plan : K.lookup f__check_plan = some ⟨oc__check_plan, od__check_plan, .func (PySem.W.fnOf "_check_plan" "_check_plan" (defArgs s__check_plan) (defBody s__check_plan) (defScope s__check_plan) .none kV__check_plan dc__check_plan pm__check_plan an__check_plan cd__check_plan ct__check_plan), sl__check_plan⟩) (c__check_plan : PySem.W.codeIn K cd__check_plan "_check_plan" = true) (k__check_plan : PySem.W.keepIn K (.ref f__check_plan) = true)
    {f_plan_work : Addr} {oc_plan_work : Value} {od_plan_work an_plan_work : Option Addr} {sl_plan_work : Array (Option Value)} {kV_plan_work dc_plan_work pm_plan_work cd_plan_work ct_plan_work : Value}
    (n_plan_work : PySem.W.nsIn K mainGlobals "plan_work" = some (some (.ref f_plan_work))) (l_plan_work : K.lookup f_plan_work = some ⟨oc_plan_work, od_plan_work, .func (PySem.W.fnOf "plan_work" "plan_work" (defArgs s_plan_work) (defBody s_plan_work) (defScope s_plan_work) .none kV_plan_work dc_plan_work pm_plan_work an_plan_work cd_plan_work ct_plan_work), sl_plan_work⟩) (c_plan_work : PySem.W.codeIn K cd_plan_work "plan_work" = true) (k_plan_work : PySem.W.keepIn K (.ref f_plan_work) = true)
    {f_bound_of : Addr} {oc_bound_of : Value} {od_bound_of an_bound_of : Option Addr} {sl_bound_of : Array (Option Value)} {kV_bound_of dc_bound_of pm_bound_of cd_bound_of ct_bound_of : Value}
    (n_bound_of : PySem.W.nsIn K mainGlobals "bound_of" = some (some (.ref f_bound_of))) (l_bound_of : K.lookup f_bound_of = some ⟨oc_bound_of, od_bound_of, .func (PySem.W.fnOf "bound_of" "bound_of" (defArgs s_bound_of) (defBody s_bound_of) (defScope s_bound_of) .none kV_bound_of dc_bound_of pm_bound_of an_bound_of cd_bound_of ct_bound_of), sl_bound_of⟩) (c_bound_of : PySem.W.codeIn K cd_bound_of "bound_of" = true) (k_bound_of : PySem.W.keepIn K (.ref f_bound_of) = true)
    {f__law_told : Addr} {oc__law_told : Value} {od__law_told an__law_told : Option Addr} {sl__law_told : Array (Option Value)} {kV__law_told dc__law_told pm__law_told cd__law_told ct__law_told : Value}
    (n__law_told : PySem.W.nsIn K mainGlobals "_law_told" = some (some (.ref f__law_told))) (l__law_told : K.lookup f__law_told = some ⟨oc__law_told, od__law_told, .func (PySem.W.fnOf "_law_told" "_law_told" (defArgs s__law_told) (defBody s__law_told) (defScope s__law_told) .none kV__law_told dc__law_told pm__law_told an__law_told cd__law_told ct__law_told), sl__law_told⟩) (c__law_told : PySem.W.codeIn K cd__law_told "_law_told" = true) (k__law_told : PySem.W.keepIn K (.ref f__law_told) = true)
    {f__law_same : Addr} {oc__law_same : Value} {od__law_same an__law_same : Option Addr} {sl__law_same : Array (Option Value)} {kV__law_same dc__law_same pm__law_same cd__law_same ct__law_same : Value}
    (n__law_same : PySem.W.nsIn K mainGlobals "_law_same" = some (some (.ref f__law_same))) (l__law_same : K.lookup f__law_same = some ⟨oc__law_same, od__law_same, .func (PySem.W.fnOf "_law_same" "_law_same" (defArgs s__law_same) (defBody s__law_same) (defScope s__law_same) .none kV__law_same dc__law_same pm__law_same an__law_same cd__law_same ct__law_same), sl__law_same⟩) (c__law_same : PySem.W.codeIn K cd__law_same "_law_same" = true) (k__law_same : PySem.W.keepIn K (.ref f__law_same) = true)
    {f__law_plan_work : Addr} {oc__law_plan_work : Value} {od__law_plan_work an__law_plan_work : Option Addr} {sl__law_plan_work : Array (Option Value)} {kV__law_plan_work dc__law_plan_work pm__law_plan_work cd__law_plan_work ct__law_plan_work : Value}
    (n__law_plan_work : PySem.W.nsIn K mainGlobals "_law_plan_work" = some (some (.ref f__law_plan_work))) (l__law_plan_work : K.lookup f__law_plan_work = some ⟨oc__law_plan_work, od__law_plan_work, .func (PySem.W.fnOf "_law_plan_work" "_law_plan_work" (defArgs s__law_plan_work) (defBody s__law_plan_work) (defScope s__law_plan_work) .none kV__law_plan_work dc__law_plan_work pm__law_plan_work an__law_plan_work cd__law_plan_work ct__law_plan_work), sl__law_plan_work⟩) (c__law_plan_work : PySem.W.codeIn K cd__law_plan_work "_law_plan_work" = true) (k__law_plan_work : PySem.W.keepIn K (.ref f__law_plan_work) = true)
    {f_law : Addr} {oc_law : Value} {od_law an_law : Option Addr} {sl_law : Array (Option Value)} {kV_law dc_law pm_law cd_law ct_law : Value}
    (n_law : PySem.W.nsIn K mainGlobals "law" = some (some (.ref f_law))) (l_law : K.lookup f_law = some ⟨oc_law, od_law, .func (PySem.W.fnOf "law" "law" (defArgs s_law) (defBody s_law) (defScope s_law) .none kV_law dc_law pm_law an_law cd_law ct_law), sl_law⟩) (c_law : PySem.W.codeIn K cd_law "law" = true) (k_law : PySem.W.keepIn K (.ref f_law) = true)
    (z_abs : PySem.W.nsIn K mainGlobals "abs" = some none)
    (z_all : PySem.W.nsIn K mainGlobals "all" = some none)
    (z_any : PySem.W.nsIn K mainGlobals "any" = some none)
    (z_enumerate : PySem.W.nsIn K mainGlobals "enumerate" = some none)
    (z_int : PySem.W.nsIn K mainGlobals "int" = some none)
    (z_isinstance : PySem.W.nsIn K mainGlobals "isinstance" = some none)
    (z_len : PySem.W.nsIn K mainGlobals "len" = some none)
    (z_max : PySem.W.nsIn K mainGlobals "max" = some none)
    (z_min : PySem.W.nsIn K mainGlobals "min" = some none)
    (z_range : PySem.W.nsIn K mainGlobals "range" = some none)
    (z_repr : PySem.W.nsIn K mainGlobals "repr" = some none)
    (z_sorted : PySem.W.nsIn K mainGlobals "sorted" = some none)
    (z_sum : PySem.W.nsIn K mainGlobals "sum" = some none)
    (z_tuple : PySem.W.nsIn K mainGlobals "tuple" = some none)
    (z_zip : PySem.W.nsIn K mainGlobals "zip" = some none)
    {t_MAX_ASKS : Tok} (n_MAX_ASKS : PySem.W.nsIn K mainGlobals "MAX_ASKS" = some (some (Value.int 60 t_MAX_ASKS)))
    {t_MAX_COST : Tok} (n_MAX_COST : PySem.W.nsIn K mainGlobals "MAX_COST" = some (some (Value.int 9999 t_MAX_COST)))
    {t_MAX_PIECE : Tok} (n_MAX_PIECE : PySem.W.nsIn K mainGlobals "MAX_PIECE" = some (some (Value.int 99 t_MAX_PIECE)))
    {t_MAX_PLACES : Tok} (n_MAX_PLACES : PySem.W.nsIn K mainGlobals "MAX_PLACES" = some (some (Value.int 8 t_MAX_PLACES)))
    {q_NotAllowed : Addr} (n_NotAllowed : PySem.W.nsIn K mainGlobals "NotAllowed" = some (some (.ref q_NotAllowed))) (x_NotAllowed : PySem.W.excIn K q_NotAllowed [.type "ValueError", .type "Exception", .type "BaseException", .type "object"] "ValueError.__new__" = true) (k_NotAllowed : PySem.W.keepIn K (.ref q_NotAllowed) = true) (bs_NotAllowed : PySem.W.subIn K (.ref q_NotAllowed) (.type "BaseException") = some true) (ty_NotAllowed : PySem.W.typeIn K (.ref q_NotAllowed) = some (.type "type"))
    {rr_PaintError : Addr} (nr_PaintError : PySem.W.nsIn K mainGlobals "PaintError" = some (some (.ref rr_PaintError))) {rr_NotAllowed : Addr} (nr_NotAllowed : PySem.W.nsIn K mainGlobals "NotAllowed" = some (some (.ref rr_NotAllowed))) {rr_TooLarge : Addr} (nr_TooLarge : PySem.W.nsIn K mainGlobals "TooLarge" = some (some (.ref rr_TooLarge))) {rr_Missing : Addr} (nr_Missing : PySem.W.nsIn K mainGlobals "Missing" = some (some (.ref rr_Missing))) {rr_BadPaper : Addr} (nr_BadPaper : PySem.W.nsIn K mainGlobals "BadPaper" = some (some (.ref rr_BadPaper))) {rr_BadForm : Addr} (nr_BadForm : PySem.W.nsIn K mainGlobals "BadForm" = some (some (.ref rr_BadForm))) (hnE : PySem.W.specialIn K (.builtin "object.__class__") "__get__" = some (some (.builtin "getset_descriptor.__get__"))) (htE : PySem.W.takesIn K (.builtin "object.__class__") = some true) (hgE_NotAllowed : PySem.W.findIn K (.ref rr_NotAllowed) "__getattribute__" = some (some (.builtin "BaseException.__getattribute__"))) (hkE_NotAllowed : PySem.W.findIn K (.ref rr_NotAllowed) "__getattr__" = some none) (hsE_NotAllowed : PySem.W.subIn K (.ref rr_NotAllowed) (.type "BaseException") = some true) (hdE_NotAllowed : PySem.W.hasDictIn K rr_NotAllowed = true) (haE_NotAllowed : PySem.W.findIn K (.ref rr_NotAllowed) "__class__" = some (some (.builtin "object.__class__"))) (hmE_NotAllowed : PySem.W.mroIn K rr_NotAllowed (.type "object") = some true) (teE_NotAllowed : PySem.W.exmOne K (.ref rr_NotAllowed) (.ref rr_PaintError) = some true) (kiE_NotAllowed_NotAllowed : PySem.W.kitOne K (.ref rr_NotAllowed) (.ref rr_NotAllowed) = some true) (kiE_NotAllowed_TooLarge : PySem.W.kitOne K (.ref rr_NotAllowed) (.ref rr_TooLarge) = some false) (kiE_NotAllowed_Missing : PySem.W.kitOne K (.ref rr_NotAllowed) (.ref rr_Missing) = some false) (kiE_NotAllowed_BadPaper : PySem.W.kitOne K (.ref rr_NotAllowed) (.ref rr_BadPaper) = some false) (kiE_NotAllowed_BadForm : PySem.W.kitOne K (.ref rr_NotAllowed) (.ref rr_BadForm) = some false) (hgE_TooLarge : PySem.W.findIn K (.ref rr_TooLarge) "__getattribute__" = some (some (.builtin "BaseException.__getattribute__"))) (hkE_TooLarge : PySem.W.findIn K (.ref rr_TooLarge) "__getattr__" = some none) (hsE_TooLarge : PySem.W.subIn K (.ref rr_TooLarge) (.type "BaseException") = some true) (hdE_TooLarge : PySem.W.hasDictIn K rr_TooLarge = true) (haE_TooLarge : PySem.W.findIn K (.ref rr_TooLarge) "__class__" = some (some (.builtin "object.__class__"))) (hmE_TooLarge : PySem.W.mroIn K rr_TooLarge (.type "object") = some true) (teE_TooLarge : PySem.W.exmOne K (.ref rr_TooLarge) (.ref rr_PaintError) = some true) (kiE_TooLarge_NotAllowed : PySem.W.kitOne K (.ref rr_TooLarge) (.ref rr_NotAllowed) = some false) (kiE_TooLarge_TooLarge : PySem.W.kitOne K (.ref rr_TooLarge) (.ref rr_TooLarge) = some true) (kiE_TooLarge_Missing : PySem.W.kitOne K (.ref rr_TooLarge) (.ref rr_Missing) = some false) (kiE_TooLarge_BadPaper : PySem.W.kitOne K (.ref rr_TooLarge) (.ref rr_BadPaper) = some false) (kiE_TooLarge_BadForm : PySem.W.kitOne K (.ref rr_TooLarge) (.ref rr_BadForm) = some false) (hgE_Missing : PySem.W.findIn K (.ref rr_Missing) "__getattribute__" = some (some (.builtin "BaseException.__getattribute__"))) (hkE_Missing : PySem.W.findIn K (.ref rr_Missing) "__getattr__" = some none) (hsE_Missing : PySem.W.subIn K (.ref rr_Missing) (.type "BaseException") = some true) (hdE_Missing : PySem.W.hasDictIn K rr_Missing = true) (haE_Missing : PySem.W.findIn K (.ref rr_Missing) "__class__" = some (some (.builtin "object.__class__"))) (hmE_Missing : PySem.W.mroIn K rr_Missing (.type "object") = some true) (teE_Missing : PySem.W.exmOne K (.ref rr_Missing) (.ref rr_PaintError) = some true) (kiE_Missing_NotAllowed : PySem.W.kitOne K (.ref rr_Missing) (.ref rr_NotAllowed) = some false) (kiE_Missing_TooLarge : PySem.W.kitOne K (.ref rr_Missing) (.ref rr_TooLarge) = some false) (kiE_Missing_Missing : PySem.W.kitOne K (.ref rr_Missing) (.ref rr_Missing) = some true) (kiE_Missing_BadPaper : PySem.W.kitOne K (.ref rr_Missing) (.ref rr_BadPaper) = some false) (kiE_Missing_BadForm : PySem.W.kitOne K (.ref rr_Missing) (.ref rr_BadForm) = some false) (hgE_BadPaper : PySem.W.findIn K (.ref rr_BadPaper) "__getattribute__" = some (some (.builtin "BaseException.__getattribute__"))) (hkE_BadPaper : PySem.W.findIn K (.ref rr_BadPaper) "__getattr__" = some none) (hsE_BadPaper : PySem.W.subIn K (.ref rr_BadPaper) (.type "BaseException") = some true) (hdE_BadPaper : PySem.W.hasDictIn K rr_BadPaper = true) (haE_BadPaper : PySem.W.findIn K (.ref rr_BadPaper) "__class__" = some (some (.builtin "object.__class__"))) (hmE_BadPaper : PySem.W.mroIn K rr_BadPaper (.type "object") = some true) (teE_BadPaper : PySem.W.exmOne K (.ref rr_BadPaper) (.ref rr_PaintError) = some true) (kiE_BadPaper_NotAllowed : PySem.W.kitOne K (.ref rr_BadPaper) (.ref rr_NotAllowed) = some false) (kiE_BadPaper_TooLarge : PySem.W.kitOne K (.ref rr_BadPaper) (.ref rr_TooLarge) = some false) (kiE_BadPaper_Missing : PySem.W.kitOne K (.ref rr_BadPaper) (.ref rr_Missing) = some false) (kiE_BadPaper_BadPaper : PySem.W.kitOne K (.ref rr_BadPaper) (.ref rr_BadPaper) = some true) (kiE_BadPaper_BadForm : PySem.W.kitOne K (.ref rr_BadPaper) (.ref rr_BadForm) = some false)
    : ∃ fd : FuncData, (∀ (s : Shared) (v : Value), BindsTo s fd ⟨[v], []⟩ [("script", v)]) ∧ ∀ base : Heap, K.In base → base.Ns mainGlobals mg → FnG l.prog w K mg base CX0 5 fa fd ["script"] (spLaw K) := by
  have e := hfa.symm.trans (PySem.W.mg_of X G n_law)
  cases e
  have F__law_stream := fun_mk (x := "_law_stream") (qual := "_law_stream") (st := s__law_stream) l__law_stream c__law_stream k__law_stream
  have F__law_next := fun_mk (x := "_law_next") (qual := "_law_next") (st := s__law_next) l__law_next c__law_next k__law_next
  have F__law_asks := fun_mk (x := "_law_asks") (qual := "_law_asks") (st := s__law_asks) l__law_asks c__law_asks k__law_asks
  have F__law_later := fun_mk (x := "_law_later") (qual := "_law_later") (st := s__law_later) l__law_later c__law_later k__law_later
  have F__law_plan_right := fun_mk (x := "_law_plan_right") (qual := "_law_plan_right") (st := s__law_plan_right) l__law_plan_right c__law_plan_right k__law_plan_right
  have F__law_greedy := fun_mk (x := "_law_greedy") (qual := "_law_greedy") (st := s__law_greedy) l__law_greedy c__law_greedy k__law_greedy
  have F__law_plans := fun_mk (x := "_law_plans") (qual := "_law_plans") (st := s__law_plans) l__law_plans c__law_plans k__law_plans
  have F__law_bound := fun_mk (x := "_law_bound") (qual := "_law_bound") (st := s__law_bound) l__law_bound c__law_bound k__law_bound
  have F__law_error := fun_mk (x := "_law_error") (qual := "_law_error") (st := s__law_error) l__law_error c__law_error k__law_error
  have F__check_shelf := fun_mk (x := "_check_shelf") (qual := "_check_shelf") (st := s__check_shelf) l__check_shelf c__check_shelf k__check_shelf
  have F__stays := fun_mk (x := "_stays") (qual := "_stays") (st := s__stays) l__stays c__stays k__stays
  have F__check_plan := fun_mk (x := "_check_plan") (qual := "_check_plan") (st := s__check_plan) l__check_plan c__check_plan k__check_plan
  have F_plan_work := fun_mk (x := "plan_work") (qual := "plan_work") (st := s_plan_work) l_plan_work c_plan_work k_plan_work
  have F_bound_of := fun_mk (x := "bound_of") (qual := "bound_of") (st := s_bound_of) l_bound_of c_bound_of k_bound_of
  have F__law_told := fun_mk (x := "_law_told") (qual := "_law_told") (st := s__law_told) l__law_told c__law_told k__law_told
  have F__law_same := fun_mk (x := "_law_same") (qual := "_law_same") (st := s__law_same) l__law_same c__law_same k__law_same
  have F__law_plan_work := fun_mk (x := "_law_plan_work") (qual := "_law_plan_work") (st := s__law_plan_work) l__law_plan_work c__law_plan_work k__law_plan_work
  have F_law := fun_mk (x := "law") (qual := "law") (st := s_law) l_law c_law k_law
  have b__law_stream := F__law_stream.binds (ps := ["script"]) fun _ _ _ _ _ _ us hl => match us, hl with | [_], _ => rfl
  have b__law_next := F__law_next.binds (ps := ["state", "many"]) fun _ _ _ _ _ _ us hl => match us, hl with | [_, _], _ => rfl
  have b__law_asks := F__law_asks.binds (ps := ["state", "most"]) fun _ _ _ _ _ _ us hl => match us, hl with | [_, _], _ => rfl
  have b__law_later := F__law_later.binds (ps := ["asks", "at"]) fun _ _ _ _ _ _ us hl => match us, hl with | [_, _], _ => rfl
  have b__law_plan_right := F__law_plan_right.binds (ps := ["asks", "places", "plan"]) fun _ _ _ _ _ _ us hl => match us, hl with | [_, _, _], _ => rfl
  have b__law_greedy := F__law_greedy.binds (ps := ["state", "asks", "places"]) fun _ _ _ _ _ _ us hl => match us, hl with | [_, _, _], _ => rfl
  have b__law_plans := F__law_plans.binds (ps := ["state", "asks", "places"]) fun _ _ _ _ _ _ us hl => match us, hl with | [_, _, _], _ => rfl
  have b__law_bound := F__law_bound.binds (ps := ["asks", "costs", "places", "prices"]) fun _ _ _ _ _ _ us hl => match us, hl with | [_, _, _, _], _ => rfl
  have b__law_error := F__law_error.binds (ps := ["e"]) fun _ _ _ _ _ _ us hl => match us, hl with | [_], _ => rfl
  have b__check_shelf := F__check_shelf.binds (ps := ["asks", "costs", "places"]) fun _ _ _ _ _ _ us hl => match us, hl with | [_, _, _], _ => rfl
  have b__stays := F__stays.binds (ps := ["asks"]) fun _ _ _ _ _ _ us hl => match us, hl with | [_], _ => rfl
  have b__check_plan := F__check_plan.binds (ps := ["asks", "places", "plan"]) fun _ _ _ _ _ _ us hl => match us, hl with | [_, _, _], _ => rfl
  have b_plan_work := F_plan_work.binds (ps := ["asks", "costs", "places", "plan"]) fun _ _ _ _ _ _ us hl => match us, hl with | [_, _, _, _], _ => rfl
  have b_bound_of := F_bound_of.binds (ps := ["asks", "costs", "places", "prices"]) fun _ _ _ _ _ _ us hl => match us, hl with | [_, _, _, _], _ => rfl
  have b__law_told := F__law_told.binds (ps := ["way", "asks", "costs", "places", "thing"]) fun _ _ _ _ _ _ us hl => match us, hl with | [_, _, _, _, _], _ => rfl
  have b__law_same := F__law_same.binds (ps := ["told", "due"]) fun _ _ _ _ _ _ us hl => match us, hl with | [_, _], _ => rfl
  have b__law_plan_work := F__law_plan_work.binds (ps := ["costs", "plan"]) fun _ _ _ _ _ _ us hl => match us, hl with | [_, _], _ => rfl
  have T : Txt K mg := ⟨f__law_stream, _, F__law_stream, PySem.W.mg_of X G n__law_stream, b__law_stream, f__law_next, _, F__law_next, PySem.W.mg_of X G n__law_next, b__law_next, f__law_asks, _, F__law_asks, PySem.W.mg_of X G n__law_asks, b__law_asks, f__law_later, _, F__law_later, PySem.W.mg_of X G n__law_later, b__law_later, f__law_plan_right, _, F__law_plan_right, PySem.W.mg_of X G n__law_plan_right, b__law_plan_right, f__law_greedy, _, F__law_greedy, PySem.W.mg_of X G n__law_greedy, b__law_greedy, f__law_plans, _, F__law_plans, PySem.W.mg_of X G n__law_plans, b__law_plans, f__law_bound, _, F__law_bound, PySem.W.mg_of X G n__law_bound, b__law_bound, f__law_error, _, F__law_error, PySem.W.mg_of X G n__law_error, b__law_error, f__check_shelf, _, F__check_shelf, PySem.W.mg_of X G n__check_shelf, b__check_shelf, f__stays, _, F__stays, PySem.W.mg_of X G n__stays, b__stays, f__check_plan, _, F__check_plan, PySem.W.mg_of X G n__check_plan, b__check_plan, f_plan_work, _, F_plan_work, PySem.W.mg_of X G n_plan_work, b_plan_work, f_bound_of, _, F_bound_of, PySem.W.mg_of X G n_bound_of, b_bound_of, f__law_told, _, F__law_told, PySem.W.mg_of X G n__law_told, b__law_told, f__law_same, _, F__law_same, PySem.W.mg_of X G n__law_same, b__law_same, f__law_plan_work, _, F__law_plan_work, PySem.W.mg_of X G n__law_plan_work, b__law_plan_work, PySem.W.mg_none_of X G z_abs, PySem.W.mg_none_of X G z_all, PySem.W.mg_none_of X G z_any, PySem.W.mg_none_of X G z_enumerate, PySem.W.mg_none_of X G z_int, PySem.W.mg_none_of X G z_isinstance, PySem.W.mg_none_of X G z_len, PySem.W.mg_none_of X G z_max, PySem.W.mg_none_of X G z_min, PySem.W.mg_none_of X G z_range, PySem.W.mg_none_of X G z_repr, PySem.W.mg_none_of X G z_sorted, PySem.W.mg_none_of X G z_sum, PySem.W.mg_none_of X G z_tuple, PySem.W.mg_none_of X G z_zip, ⟨_, PySem.W.mg_of X G n_MAX_ASKS⟩, ⟨_, PySem.W.mg_of X G n_MAX_COST⟩, ⟨_, PySem.W.mg_of X G n_MAX_PIECE⟩, ⟨_, PySem.W.mg_of X G n_MAX_PLACES⟩, ⟨q_NotAllowed, PySem.W.mg_of X G n_NotAllowed, x_NotAllowed, k_NotAllowed, bs_NotAllowed, ty_NotAllowed⟩, ⟨rr_PaintError, PySem.W.mg_of X G nr_PaintError, rr_NotAllowed, PySem.W.mg_of X G nr_NotAllowed, rr_TooLarge, PySem.W.mg_of X G nr_TooLarge, rr_Missing, PySem.W.mg_of X G nr_Missing, rr_BadPaper, PySem.W.mg_of X G nr_BadPaper, rr_BadForm, PySem.W.mg_of X G nr_BadForm⟩, ⟨fun i hi => match i, hi with | 0, _ => ⟨hgE_NotAllowed, hkE_NotAllowed, hsE_NotAllowed, hdE_NotAllowed, haE_NotAllowed, hnE, htE, hmE_NotAllowed⟩ | 1, _ => ⟨hgE_TooLarge, hkE_TooLarge, hsE_TooLarge, hdE_TooLarge, haE_TooLarge, hnE, htE, hmE_TooLarge⟩ | 2, _ => ⟨hgE_Missing, hkE_Missing, hsE_Missing, hdE_Missing, haE_Missing, hnE, htE, hmE_Missing⟩ | 3, _ => ⟨hgE_BadPaper, hkE_BadPaper, hsE_BadPaper, hdE_BadPaper, haE_BadPaper, hnE, htE, hmE_BadPaper⟩, fun i hi j hj => match i, hi, j, hj with | 0, _, 0, _ => kiE_NotAllowed_NotAllowed | 0, _, 1, _ => kiE_NotAllowed_TooLarge | 0, _, 2, _ => kiE_NotAllowed_Missing | 0, _, 3, _ => kiE_NotAllowed_BadPaper | 0, _, 4, _ => kiE_NotAllowed_BadForm | 1, _, 0, _ => kiE_TooLarge_NotAllowed | 1, _, 1, _ => kiE_TooLarge_TooLarge | 1, _, 2, _ => kiE_TooLarge_Missing | 1, _, 3, _ => kiE_TooLarge_BadPaper | 1, _, 4, _ => kiE_TooLarge_BadForm | 2, _, 0, _ => kiE_Missing_NotAllowed | 2, _, 1, _ => kiE_Missing_TooLarge | 2, _, 2, _ => kiE_Missing_Missing | 2, _, 3, _ => kiE_Missing_BadPaper | 2, _, 4, _ => kiE_Missing_BadForm | 3, _, 0, _ => kiE_BadPaper_NotAllowed | 3, _, 1, _ => kiE_BadPaper_TooLarge | 3, _, 2, _ => kiE_BadPaper_Missing | 3, _, 3, _ => kiE_BadPaper_BadPaper | 3, _, 4, _ => kiE_BadPaper_BadForm, fun i hi => match i, hi with | 0, _ => teE_NotAllowed | 1, _ => teE_TooLarge | 2, _ => teE_Missing | 3, _ => teE_BadPaper⟩⟩
  exact ⟨PySem.W.fnOf "law" "law" (defArgs s_law) (defBody s_law) (defScope s_law) .none kV_law dc_law pm_law an_law cd_law ct_law, fun s v => .of_eq rfl, fun base _ _ => ok_law hyp T F_law⟩
end My
open PySem PySem.W PyProof.Rows
set_option maxHeartbeats 0 in
theorem PySem.Challenge.cw_paintershouse_k59_plans_and_prices_judge_holds : PySem.Challenge.rw_paintershouse_k59_plans_and_prices_judge.Holds := by
  w_on; o_law; k_head; (case hw => w_witness2)
  k_fill
  refine Dn.walkG (l := PySem.Challenge.rw_paintershouse_k59_plans_and_prices_judge) (n := 63) (k := 5) (x := "script") (sp := My.spLaw) rfl (by decide) rfl ⟨rfl, by decide, by decide⟩ (fun w h Y => PySem.W.kIn_of Y) ?F (fun K H a ns hl _ hS => ⟨a, ns, rfl, hS, hl, fun _ => rfl⟩)
  case F =>
    intro w mg fa h KX G hmg
    refine' My.all_mk (l := PySem.Challenge.rw_paintershouse_k59_plans_and_prices_judge) My.lawOk KX G hmg ?n__law_stream ?l__law_stream ?c__law_stream ?k__law_stream ?n__law_next ?l__law_next ?c__law_next ?k__law_next ?n__law_asks ?l__law_asks ?c__law_asks ?k__law_asks ?n__law_later ?l__law_later ?c__law_later ?k__law_later ?n__law_plan_right ?l__law_plan_right ?c__law_plan_right ?k__law_plan_right ?n__law_greedy ?l__law_greedy ?c__law_greedy ?k__law_greedy ?n__law_plans ?l__law_plans ?c__law_plans ?k__law_plans ?n__law_bound ?l__law_bound ?c__law_bound ?k__law_bound ?n__law_error ?l__law_error ?c__law_error ?k__law_error ?n__check_shelf ?l__check_shelf ?c__check_shelf ?k__check_shelf ?n__stays ?l__stays ?c__stays ?k__stays ?n__check_plan ?l__check_plan ?c__check_plan ?k__check_plan ?n_plan_work ?l_plan_work ?c_plan_work ?k_plan_work ?n_bound_of ?l_bound_of ?c_bound_of ?k_bound_of ?n__law_told ?l__law_told ?c__law_told ?k__law_told ?n__law_same ?l__law_same ?c__law_same ?k__law_same ?n__law_plan_work ?l__law_plan_work ?c__law_plan_work ?k__law_plan_work ?n_law ?l_law ?c_law ?k_law ?z_abs ?z_all ?z_any ?z_enumerate ?z_int ?z_isinstance ?z_len ?z_max ?z_min ?z_range ?z_repr ?z_sorted ?z_sum ?z_tuple ?z_zip ?n_MAX_ASKS ?n_MAX_COST ?n_MAX_PIECE ?n_MAX_PLACES ?n_NotAllowed ?x_NotAllowed ?k_NotAllowed ?bs_NotAllowed ?ty_NotAllowed ?nr_PaintError ?nr_NotAllowed ?nr_TooLarge ?nr_Missing ?nr_BadPaper ?nr_BadForm ?hnE ?htE ?hgE_NotAllowed ?hkE_NotAllowed ?hsE_NotAllowed ?hdE_NotAllowed ?haE_NotAllowed ?hmE_NotAllowed ?teE_NotAllowed ?kiE_NotAllowed_NotAllowed ?kiE_NotAllowed_TooLarge ?kiE_NotAllowed_Missing ?kiE_NotAllowed_BadPaper ?kiE_NotAllowed_BadForm ?hgE_TooLarge ?hkE_TooLarge ?hsE_TooLarge ?hdE_TooLarge ?haE_TooLarge ?hmE_TooLarge ?teE_TooLarge ?kiE_TooLarge_NotAllowed ?kiE_TooLarge_TooLarge ?kiE_TooLarge_Missing ?kiE_TooLarge_BadPaper ?kiE_TooLarge_BadForm ?hgE_Missing ?hkE_Missing ?hsE_Missing ?hdE_Missing ?haE_Missing ?hmE_Missing ?teE_Missing ?kiE_Missing_NotAllowed ?kiE_Missing_TooLarge ?kiE_Missing_Missing ?kiE_Missing_BadPaper ?kiE_Missing_BadForm ?hgE_BadPaper ?hkE_BadPaper ?hsE_BadPaper ?hdE_BadPaper ?haE_BadPaper ?hmE_BadPaper ?teE_BadPaper ?kiE_BadPaper_NotAllowed ?kiE_BadPaper_TooLarge ?kiE_BadPaper_Missing ?kiE_BadPaper_BadPaper ?kiE_BadPaper_BadForm
    (case n__law_stream => k_is); (case l__law_stream => k_is); (case c__law_stream => k_is); (case k__law_stream => k_is); (case n__law_next => k_is); (case l__law_next => k_is); (case c__law_next => k_is); (case k__law_next => k_is); (case n__law_asks => k_is); (case l__law_asks => k_is); (case c__law_asks => k_is); (case k__law_asks => k_is); (case n__law_later => k_is); (case l__law_later => k_is); (case c__law_later => k_is); (case k__law_later => k_is); (case n__law_plan_right => k_is); (case l__law_plan_right => k_is); (case c__law_plan_right => k_is); (case k__law_plan_right => k_is); (case n__law_greedy => k_is); (case l__law_greedy => k_is); (case c__law_greedy => k_is); (case k__law_greedy => k_is); (case n__law_plans => k_is); (case l__law_plans => k_is); (case c__law_plans => k_is); (case k__law_plans => k_is); (case n__law_bound => k_is); (case l__law_bound => k_is); (case c__law_bound => k_is); (case k__law_bound => k_is); (case n__law_error => k_is); (case l__law_error => k_is); (case c__law_error => k_is); (case k__law_error => k_is); (case n__check_shelf => k_is); (case l__check_shelf => k_is); (case c__check_shelf => k_is); (case k__check_shelf => k_is); (case n__stays => k_is); (case l__stays => k_is); (case c__stays => k_is); (case k__stays => k_is); (case n__check_plan => k_is); (case l__check_plan => k_is); (case c__check_plan => k_is); (case k__check_plan => k_is); (case n_plan_work => k_is); (case l_plan_work => k_is); (case c_plan_work => k_is); (case k_plan_work => k_is); (case n_bound_of => k_is); (case l_bound_of => k_is); (case c_bound_of => k_is); (case k_bound_of => k_is); (case n__law_told => k_is); (case l__law_told => k_is); (case c__law_told => k_is); (case k__law_told => k_is); (case n__law_same => k_is); (case l__law_same => k_is); (case c__law_same => k_is); (case k__law_same => k_is); (case n__law_plan_work => k_is); (case l__law_plan_work => k_is); (case c__law_plan_work => k_is); (case k__law_plan_work => k_is); (case n_law => k_is); (case l_law => k_is); (case c_law => k_is); (case k_law => k_is); (case z_abs => k_is); (case z_all => k_is); (case z_any => k_is); (case z_enumerate => k_is); (case z_int => k_is); (case z_isinstance => k_is); (case z_len => k_is); (case z_max => k_is); (case z_min => k_is); (case z_range => k_is); (case z_repr => k_is); (case z_sorted => k_is); (case z_sum => k_is); (case z_tuple => k_is); (case z_zip => k_is); (case n_MAX_ASKS => k_is); (case n_MAX_COST => k_is); (case n_MAX_PIECE => k_is); (case n_MAX_PLACES => k_is); (case n_NotAllowed => k_is); (case x_NotAllowed => k_exc); (case k_NotAllowed => k_is); (case bs_NotAllowed => k_is); (case ty_NotAllowed => k_is); (case nr_PaintError => k_is); (case nr_NotAllowed => k_is); (case nr_TooLarge => k_is); (case nr_Missing => k_is); (case nr_BadPaper => k_is); (case nr_BadForm => k_is); (case hnE => k_is); (case htE => k_is); (case hgE_NotAllowed => k_is); (case hkE_NotAllowed => k_is); (case hsE_NotAllowed => k_is); (case hdE_NotAllowed => k_is); (case haE_NotAllowed => k_is); (case hmE_NotAllowed => k_is); (case teE_NotAllowed => first | rfl | decide +kernel | k_is); (case kiE_NotAllowed_NotAllowed => first | rfl | decide +kernel | k_is); (case kiE_NotAllowed_TooLarge => first | rfl | decide +kernel | k_is); (case kiE_NotAllowed_Missing => first | rfl | decide +kernel | k_is); (case kiE_NotAllowed_BadPaper => first | rfl | decide +kernel | k_is); (case kiE_NotAllowed_BadForm => first | rfl | decide +kernel | k_is); (case hgE_TooLarge => k_is); (case hkE_TooLarge => k_is); (case hsE_TooLarge => k_is); (case hdE_TooLarge => k_is); (case haE_TooLarge => k_is); (case hmE_TooLarge => k_is); (case teE_TooLarge => first | rfl | decide +kernel | k_is); (case kiE_TooLarge_NotAllowed => first | rfl | decide +kernel | k_is); (case kiE_TooLarge_TooLarge => first | rfl | decide +kernel | k_is); (case kiE_TooLarge_Missing => first | rfl | decide +kernel | k_is); (case kiE_TooLarge_BadPaper => first | rfl | decide +kernel | k_is); (case kiE_TooLarge_BadForm => first | rfl | decide +kernel | k_is); (case hgE_Missing => k_is); (case hkE_Missing => k_is); (case hsE_Missing => k_is); (case hdE_Missing => k_is); (case haE_Missing => k_is); (case hmE_Missing => k_is); (case teE_Missing => first | rfl | decide +kernel | k_is); (case kiE_Missing_NotAllowed => first | rfl | decide +kernel | k_is); (case kiE_Missing_TooLarge => first | rfl | decide +kernel | k_is); (case kiE_Missing_Missing => first | rfl | decide +kernel | k_is); (case kiE_Missing_BadPaper => first | rfl | decide +kernel | k_is); (case kiE_Missing_BadForm => first | rfl | decide +kernel | k_is); (case hgE_BadPaper => k_is); (case hkE_BadPaper => k_is); (case hsE_BadPaper => k_is); (case hdE_BadPaper => k_is); (case haE_BadPaper => k_is); (case hmE_BadPaper => k_is); (case teE_BadPaper => first | rfl | decide +kernel | k_is); (case kiE_BadPaper_NotAllowed => first | rfl | decide +kernel | k_is); (case kiE_BadPaper_TooLarge => first | rfl | decide +kernel | k_is); (case kiE_BadPaper_Missing => first | rfl | decide +kernel | k_is); (case kiE_BadPaper_BadPaper => first | rfl | decide +kernel | k_is); (case kiE_BadPaper_BadForm => first | rfl | decide +kernel | k_is)
