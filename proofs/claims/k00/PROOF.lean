import PyProof.Rows.All
import Wide.All
import OpenK.AllK
import Wide.FinOn
import HandS.ForMost
import HandS.ForExc
import HandS.Wide
import KE.DatumIndex
import HandS.TupAny
import HandS.Deep
import HandS.CallLocal
import HandS.IsInst
import HandS.ExcIs
import HandS.NoneIn
import PySem.Challenge.RW_paintershouse_k00_pixels_and_blends
set_option Elab.async false
set_option linter.all false
set_option maxRecDepth 100000
set_option maxHeartbeats 4000000
namespace Dn
open PySem PySem.Spec PyProof.Rows L2

/-! a def's promise, where it is known that no repr runs around the call -/
structure FnG (P : Program) (w : World) (K : PySem.W.Frag) (mg : Str → Option Value) (base : Heap) (CX : CXT) (k : Nat) (f : Addr) (fd : FuncData) (ps : List Str) (sp : Sp) : Prop where
  size : ∀ xs H Q E, sp xs H Q E → xs.length = ps.length
  goes : ∀ (A : Around) (outer : List Env) (s : Shared) (H : Hp) (args : Args) (us : List Value) (xs : List V) (Q : VK) (E : XK), A.guards = some [] → Room k A →
    Env0 P w K mg base A outer s H → BindsTo s fd args (ps.zip us) → Vals xs us → sp xs H Q E → codeAny (model P w) A (.call (.ref f) args) (CR CX outer P w H s Q E) s

section
variable {P : Program} {w : World} {K : PySem.W.Frag} {mg : Str → Option Value} {base : Heap} {CX : CXT} {k : Nat} {f : Addr} {fd : FuncData} {ps : List Str} {sp : Sp}
theorem FnG.of (F : FnOk P w K mg base CX k f fd ps sp) : FnG P w K mg base CX k f fd ps sp :=
  ⟨F.len, fun A o s H args us xs Q E _ r e b v h => F.run A o s H args us xs Q E r e b v h⟩
theorem FnG.up {j : Nat} (F : FnG P w K mg base CX j f fd ps sp) (h : j ≤ k) : FnG P w K mg base CX k f fd ps sp :=
  ⟨F.size, fun A o s H args us xs Q E g r => F.goes A o s H args us xs Q E g (r.mono h)⟩
end

section
variable {P : Program} {w : World} {K : PySem.W.Frag} {mg : Str → Option Value} {base : Heap} {CX : CXT} {k : Nat}
/-- by the body -/
theorem FnG.body {x qual : Str} {st : Stmt} {f : Addr} {fd : FuncData} {N ps : List Str} {sp : Sp} (F : Fun K x qual st f fd) (S : FnScope N ps (defScope st)) (size : ∀ xs H Q E, sp xs H Q E → xs.length = ps.length)
    (bd : ∀ (cdv : Value) (A : Around) (outer : List Env) (s : Shared) (H : Hp) (xs : List V) (Q : VK) (E : XK), (A.deeper (envOfC qual (defScope st) s.heap.objs.size f cdv)).guards = some [] →
      Room k (A.deeper (envOfC qual (defScope st) s.heap.objs.size f cdv)) → sp xs H Q E →
      ∃ t, PSs (cxOf CX P w K mg base N qual (defScope st) f cdv A outer s H E) (defBody st) t ∧ t { nx := fun _ H' => Q .non H', rt := Q } (start N xs) H) :
    FnG P w K mg base CX (k + 1) f fd ps sp := by
  obtain ⟨oc, od, kV, doc, pm, an, cdv, ct, osl, hfd, look, hcode⟩ := F.ex
  subst hfd
  constructor
  · exact size
  · intro A outer s H args us xs Q E guard room env bound rel want
    have same : xs.length = ps.length := size xs H Q E want
    have there : ∀ b o, base.get? b = some o → s.heap.get? b = some o := fun b o e => (env.bs b o e).1
    have inK : K.In s.heap := env.mod.kin.keeps there
    have free : s.heap.NoLimit := env.mod.nolimit.keeps there
    have kinds : ∀ y ∈ ps.zip us, (defScope st).names.lookup y.1 = some .local ∨ ((defScope st).names.lookup y.1 = some .cell ∧ ((cellsFrom (s.heap.objs.size + 1) (defScope st).names []).lookup y.1).isSome = true) := by
      rintro ⟨n, v⟩ hy
      cases S.par n (List.of_mem_zip hy).1 with
      | inl q => exact Or.inl q
      | inr q => exact Or.inr ⟨q, PySem.W.cellsFrom_some _ _ _ (Or.inl q)⟩
    apply codeAny_call_function room.depth (inK _ _ look) rfl S.co S.gen rfl (PySem.W.codeRec_of inK hcode)
    apply bound
    apply wpAny_newFunctionEnv_cells S.kind kinds
    intro e he s1 made
    cases he
    refine ⟨free.keeps made.toInCall.keep, ?_⟩
    apply codeAny_func
    obtain ⟨t, isT, ends⟩ := bd cdv A outer s H xs Q E guard (room.deeper _) want
    have J := inv_start (CX := CX) (E := E) S room.hd env same rel made
    refine wpAny_mono (isT.run [] s1 (start N xs) H _ J ends) ?_ (fun _ _ z => z)
    intro flow s2 got
    cases flow with
    | ret u => obtain ⟨v, τ, H2, J2, rv, q⟩ := got; exact ⟨v, H2, J2.os, J2.bare, J2.base, J2.hok, rv, q⟩
    | next => obtain ⟨τ, H2, J2, q⟩ := got; exact ⟨V.non, H2, J2.os, J2.bare, J2.base, J2.hok, rfl, q⟩
    | brk => exact got.elim fun _ z => z.elim fun _ z => z.2.elim
    | cont => exact got.elim fun _ z => z.elim fun _ z => z.2.elim
end

section
variable {X : Cx} {CX : CXT} {k : Nat} {f : Addr} {fd : FuncData} {ps : List Str} {sp : Sp} {E : XK} {x : Str} {p pos : Pos} {e : Expr} {es : List Expr} {t : TA}
theorem FnG.call {pins : List (Addr × Obj)} {σ : L2.St} {H : Hp} {s : Shared} {Q : VK} {us : List Value} {xs : List V} (F : FnG X.prog X.w X.K X.mg X.base CX k f fd ps sp) (g : X.A.guards = some []) (room : Room k X.A) (hb : Binds X.K fd ps [])
    (hx : Passes CX X E) (I : Inv X pins σ H s) (r : Vals xs us) (h : sp xs H Q E) : wpAny (model X.prog X.w) X.A (PySem.call (.ref f) us) (EP X pins σ Q) X.xe s := by
  have hl : (us ++ ([] : List Value)).length = ps.length := by
    rw [List.append_nil, ← r.length]
    exact F.size _ _ _ _ h
  have hb' := hb s us I.kIn hl
  rw [List.append_nil] at hb'
  apply wpAny_call
  refine codeAny_mono (F.goes X.A X.stack s H ⟨us, []⟩ us xs Q E g room I.env0 hb' r h) ?_
  intro res s2 got
  match res, got with
  | .error er, got => exact hx pins σ H s er s2 I got
  | .ok (.ret u), got => exact I.after got
  | .ok .next, got => exact got.elim
  | .ok .brk, got => exact got.elim
  | .ok .cont, got => exact got.elim
/-- f(e, ..) -/
theorem pe_callG (F : FnG X.prog X.w X.K X.mg X.base CX k f fd ps sp) (g : X.A.guards = some []) (room : Room k X.A) (hg : Gl X x) (hm : X.mg x = some (.ref f)) (hk : PySem.W.keepIn X.K (.ref f) = true) (hb : Binds X.K fd ps [])
    (hx : Passes CX X E) (ha : PA X (e :: es) t) (hdb : (x == ("__debug__" : Str)) = false := by decide) (he : starEach (e :: es) X.env = (false, eval e X.env) :: starEach es X.env := by rfl)
    (hpl : (backTo pos (starEach es X.env)).any (·.1) = false := by rfl) : PE X (.Call (.Name x p) (e :: es) [] pos) (fun σ H Q => t σ H fun xs H1 => sp xs H1 Q E) := by
  constructor
  intro pins s σ H Q I h
  apply wpAny_Call_Name_kw
  refine ld_glob I hg hm ?_ hdb
  refine PySem.W.callWith_K (h₀ := X.base) I.ok.mod.kin hk ?_ he hpl
  refine thn (ha.run pos pins s σ H _ I h) ?_
  rintro us s1 ⟨xs, H1, I1, r, q⟩
  exact ⟨I1.kIn, FnG.call F g room hb hx I1 r q⟩
end

/-! the law's own call -/
section
variable {P : Program} {w : World} {K : PySem.W.Frag} {mg mb : Str → Option Value} {k : Nat} {fa a : Addr} {fd : FuncData} {x : Str} {sp : Sp} {s : Shared} {us : List Value} {ns : List Int}
theorem law_core {H : Hp} (only : ∀ b, H b ≠ none → b = a ∧ ∃ o ys, H b = some (.frz o (.lst ys))) (outK : H a ≠ none → K.lookup a = none) (hok : HOk P w H s.heap)
    (KX : K.In s.heap) (gl : s.heap.Ns mainGlobals mg) (bl : s.heap.Ns builtinsNs mb) (bb : ∀ x : Str, x ≠ "__name__" → mb x = bootBuiltins x) (nl : s.heap.NoLimit) (bare : s.gens = #[])
    (at_a : s.heap.get? a = some { cls := .type "list", data := .seq us.toArray }) (room : Room k callerA)
    (F : ∀ base : Heap, K.In base → base.Ns mainGlobals mg → FnG P w K mg base CX0 k fa fd [x] sp) (bound : ∀ (s : Shared) (u : Value), BindsTo s fd ⟨[u], []⟩ [(x, u)])
    (want : sp [.ref a] H (fun v _ => v = .bl true) fun _ _ _ => False) :
    codeAny (model P w) callerA (.call (.ref fa) ⟨[.ref a], []⟩) (fun r s' => r = .ok (.ret (.bool true)) ∧ OldK s.heap s'.heap ∧ s'.os = s.os ∧ AllBare s'.gens) s := by
  have isA : ∀ {b : Addr} {u : HO}, H b = some u → b = a := fun {b u} e => (only b (by rw [e]; exact Option.some_ne_none u)).1
  have untold : ∀ b, b ≠ a → H b = none := fun b n => by
    cases e : H b with
    | none => rfl
    | some u => exact absurd (isA e) n
  have keepNs : ∀ {b : Addr} {m : Str → Option Value}, s.heap.Ns b m → (hidT s.heap H).Ns b m := by
    rintro b m ⟨o, es, ep, e, d, r⟩
    refine ⟨o, es, ep, hidT_get e (untold b ?_), d, r⟩
    rintro rfl
    rw [at_a] at e
    cases e
    cases d
  have inH : K.In (hidT s.heap H) := by
    intro b o e
    refine hidT_get (KX b o e) ?_
    by_cases hb : b = a
    · subst hb
      cases q : H b with
      | none => rfl
      | some u =>
        have z := outK (by rw [q]; exact Option.some_ne_none u)
        rw [z] at e
        cases e
    · exact untold b hb
  obtain ⟨mc, l1, l2⟩ := nl
  have modl : Mod K mg (hidT s.heap H) := ⟨inH, keepNs gl, ⟨mb, keepNs bl, bb⟩, ⟨mc, keepNs l1, l2⟩⟩
  have start0 : Env0 P w K mg (hidT s.heap H) callerA [] s H := by
    refine ⟨rfl, modl, fun b o e => of_hidT e, Nat.le_of_eq (hidT_size _ _), trivial, ?_, hok, .of_eq bare⟩
    intro b hb
    cases hb
  refine codeAny_mono ((F _ inH (keepNs gl)).goes callerA [] s H ⟨[.ref a], []⟩ [.ref a] [.ref a] _ _ rfl room start0 (bound s (.ref a)) (.cons rfl .nil) want) ?_
  intro res s2 got
  match res, got with
  | .error er, got => exact got.elim
  | .ok .next, got => exact got.elim
  | .ok .brk, got => exact got.elim
  | .ok .cont, got => exact got.elim
  | .ok (.ret u), got =>
    obtain ⟨v, H2, os, bare2, un, hok2, rv, q⟩ := got
    have q : v = .bl true := q
    subst q
    have rv : u = Value.bool true := rv
    subst rv
    refine ⟨rfl, OldK.of_keep ?_, os, bare2⟩
    intro b o e
    cases hb : H b with
    | none => exact un.keep b o e hb (fun z => by cases z) (fun z => by cases z)
    | some u =>
      obtain ⟨_, ob, ys, z⟩ := only b (by rw [hb]; exact Option.some_ne_none u)
      obtain ⟨e1, _⟩ := hok b _ z
      obtain ⟨e2, _⟩ := hok2 b _ (un.frzs b ob _ z)
      rw [e] at e1
      cases e1
      exact e2
theorem law_goes (KX : K.In s.heap) (gl : s.heap.Ns mainGlobals mg) (bl : s.heap.Ns builtinsNs mb) (bb : ∀ x : Str, x ≠ "__name__" → mb x = bootBuiltins x) (nl : s.heap.NoLimit) (bare : s.gens = #[])
    (at_a : s.heap.get? a = some { cls := .type "list", data := .seq us.toArray }) (nums : IntsAre us ns) (hz : ns.length ≤ sizeLine) (room : Room k callerA)
    (F : ∀ base : Heap, K.In base → base.Ns mainGlobals mg → FnG P w K mg base CX0 k fa fd [x] sp) (bound : ∀ (s : Shared) (u : Value), BindsTo s fd ⟨[u], []⟩ [(x, u)])
    (want : ∀ H : Hp, Only H → SqL K H a (ns.map V.int) → sp [.ref a] H (fun v _ => v = .bl true) fun _ _ _ => False) :
    codeAny (model P w) callerA (.call (.ref fa) ⟨[.ref a], []⟩) (fun r s' => r = .ok (.ret (.bool true)) ∧ OldK s.heap s'.heap ∧ s'.os = s.os ∧ AllBare s'.gens) s := by
  have many : us.length = ns.length := nums.length
  cases hk : K.lookup a with
  | some o =>
    have e := KX a o hk
    rw [at_a] at e
    cases e
    refine law_core (H := fun _ => none) (fun b z => absurd rfl z) (fun z => absurd rfl z) (fun b u z => by cases z) KX gl bl bb nl bare at_a room F bound (want _ (fun _ => .inl rfl) ?_)
    exact .inr ⟨_, us.toArray, _, hk, rfl, rfl, rfl, by simp [many]; exact hz, by simpa using vals_ints nums⟩
  | none =>
    let H : Hp := fun b => if b = a then some (.frz { cls := .type "list", data := .seq us.toArray } (.lst (ns.map V.int))) else none
    have on : ∀ {b : Addr} {u : HO}, H b = some u → b = a ∧ u = .frz { cls := .type "list", data := .seq us.toArray } (.lst (ns.map V.int)) := fun {b u} e => by
      by_cases hb : b = a
      · exact ⟨hb, (Option.some.inj ((if_pos hb).symm.trans e)).symm⟩
      · have z : (none : Option HO) = some u := (if_neg hb).symm.trans e
        cases z
    have is_a : H a = some (.frz { cls := .type "list", data := .seq us.toArray } (.lst (ns.map V.int))) := if_pos rfl
    refine law_core (H := H) (fun b z => ?_) (fun _ => hk) (fun b u z => ?_) KX gl bl bb nl bare at_a room F bound (want H (fun b => ?_) (.inl (.inr ⟨_, is_a⟩)))
    · obtain ⟨u, hu⟩ := Option.ne_none_iff_exists'.mp z
      obtain ⟨h1, h2⟩ := on hu
      exact ⟨h1, _, _, by rw [hu, h2]⟩
    · obtain ⟨h1, h2⟩ := on z
      subst h1 h2
      exact ⟨at_a, by rw [List.length_map]; exact hz, us, _, vals_ints nums, at_a⟩
    · by_cases hb : b = a
      · exact .inr ⟨_, _, by rw [hb]; exact is_a⟩
      · exact .inl (if_neg hb)
theorem walkG {l : PySem.W.OpenLaw} {n k : Nat} {q : Program} {loose : List Str} {XP : (Str → Option Value) → Heap → Prop} {YP : World → Heap → Prop} {d : DefRec} {K : Params → PySem.W.Frag} {sp : PySem.W.Frag → Sp} {x : Str}
    (hn : l.most = some n) (hz : n ≤ sizeLine) (hdf : d.params.defaults = []) (room : Room k callerA) (hY : ∀ (w : World) (h : Heap), YP w h → (K w.params).In h)
    (F : ∀ (w : World) (mg : Str → Option Value) (fa : Addr) (h : Heap), (K w.params).In h → h.Ns mainGlobals mg → mg d.name = some (.ref fa) →
      ∃ fd : FuncData, (∀ (s : Shared) (u : Value), BindsTo s fd ⟨[u], []⟩ [(x, u)]) ∧ ∀ base : Heap, (K w.params).In base → base.Ns mainGlobals mg → FnG l.prog w (K w.params) mg base CX0 k fa fd [x] (sp (K w.params)))
    (want : ∀ (K : PySem.W.Frag) (H : Hp) (a : Addr) (ns : List Int), ns.length ≤ n → Only H → SqL K H a (ns.map V.int) → sp K [.ref a] H (fun v _ => v = .bl true) fun _ _ _ => False) :
    PySem.W.WalkO q loose XP YP l.row.toRowW d [] (fun f vs => PySem.call f vs) := by
  apply Att.attach_call hn hdf
  intro w s₀ s₁ mg mb fa o pm cd doc a us ns G Y _ _ _ hmg at_a nums many bare
  obtain ⟨fd, bound, hF⟩ := F w mg fa _ (hY w _ Y) G.T.g hmg
  exact law_goes (hY w _ Y) G.T.g G.T.b G.T.builtins G.T.nolimit bare at_a nums (Nat.le_trans many hz) room hF bound fun H h1 h2 => want _ H a ns many h1 h2
end
end Dn
namespace Dn
open PySem PySem.Spec PyProof.Rows L2

abbrev Grows (H J : Hp) : Prop := ∀ a o, H a = some o → J a = some o
theorem rd_grows {H J : Hp} (e : Grows H J) {a : Addr} {u : HO} (h : Rd H a u) : Rd J a u := h.elim (fun h => .inl (e _ _ h)) fun ⟨o, h⟩ => .inr ⟨o, e _ _ h⟩
theorem sqL_grows {K : PySem.W.Frag} {H J : Hp} (e : Grows H J) {a : Addr} {xs : List V} (h : SqL K H a xs) : SqL K J a xs := h.imp (rd_grows e) id
theorem sqT_grows {K : PySem.W.Frag} {H J : Hp} (e : Grows H J) {a : Addr} {xs : List V} (h : SqT K H a xs) : SqT K J a xs := h.imp (rd_grows e) id
mutual
theorem dp_grows {K : PySem.W.Frag} {H J : Hp} (e : Grows H J) : ∀ (d : PyData) (v : V), Dp K H v d → Dp K J v d
  | .none, _, h => by cases h; exact .non
  | .bool b, _, h => by cases h; exact .bl b
  | .int i, _, h => by cases h; exact .int i
  | .str x, _, h => by cases h; exact .str x
  | .list ds, _, h => by cases h with | lst a b => exact .lst (sqL_grows e a) (dps_grows e ds _ b)
  | .tuple ds, _, h => by cases h with | tup a b => exact .tup (sqT_grows e a) (dps_grows e ds _ b)
  | .dict _, _, h => by cases h
theorem dps_grows {K : PySem.W.Frag} {H J : Hp} (e : Grows H J) : ∀ (ds : List PyData) (vs : List V), DpAll K H vs ds → DpAll K J vs ds
  | [], _, h => by cases h; exact .nil
  | d :: ds, _, h => by cases h with | cons a b => exact .cons (dp_grows e d _ a) (dps_grows e ds _ b)
end
theorem dps_len {K : PySem.W.Frag} {H : Hp} : ∀ {vs : List V} {ds : List PyData}, DpAll K H vs ds → vs.length = ds.length
  | _, _, .nil => rfl
  | _, _, .cons _ t => by rw [List.length_cons, List.length_cons, dps_len t]
theorem dps_get {K : PySem.W.Frag} {H : Hp} : ∀ {vs : List V} {ds : List PyData} {i : Nat} {d : PyData}, DpAll K H vs ds → ds[i]? = some d → ∃ v, vs[i]? = some v ∧ Dp K H v d
  | _, _, _, _, .nil, e => by simp at e
  | _, _, 0, _, .cons h _, e => by simp at e; subst e; exact ⟨_, rfl, h⟩
  | _, _, i + 1, d, .cons _ t, e => by
    obtain ⟨v, h1, h2⟩ := dps_get (i := i) (d := d) t (by simpa using e)
    exact ⟨v, by simpa using h1, h2⟩
theorem dps_get' {K : PySem.W.Frag} {H : Hp} : ∀ {vs : List V} {ds : List PyData} {i : Nat} {v : V}, DpAll K H vs ds → vs[i]? = some v → ∃ d, ds[i]? = some d ∧ Dp K H v d
  | _, _, _, _, .nil, e => by simp at e
  | _, _, 0, _, .cons h _, e => by simp at e; subst e; exact ⟨_, rfl, h⟩
  | _, _, i + 1, v, .cons _ t, e => by
    obtain ⟨d, h1, h2⟩ := dps_get' (i := i) (v := v) t (by simpa using e)
    exact ⟨d, by simpa using h1, h2⟩
theorem dps_app {K : PySem.W.Frag} {H : Hp} : ∀ {vs ws : List V} {ds es : List PyData}, DpAll K H vs ds → DpAll K H ws es → DpAll K H (vs ++ ws) (ds ++ es)
  | _, _, _, _, .nil, b => b
  | _, _, _, _, .cons h t, b => .cons h (dps_app t b)
theorem dps_take {K : PySem.W.Frag} {H : Hp} : ∀ (n : Nat) {vs : List V} {ds : List PyData}, DpAll K H vs ds → DpAll K H (vs.take n) (ds.take n)
  | 0, _, _, _ => .nil
  | _ + 1, _, _, .nil => .nil
  | n + 1, _, _, .cons h t => .cons h (dps_take n t)
theorem dps_drop {K : PySem.W.Frag} {H : Hp} : ∀ (n : Nat) {vs : List V} {ds : List PyData}, DpAll K H vs ds → DpAll K H (vs.drop n) (ds.drop n)
  | 0, _, _, a => a
  | _ + 1, _, _, .nil => .nil
  | n + 1, _, _, .cons _ t => dps_drop n t
theorem dps_set {K : PySem.W.Frag} {H : Hp} {v : V} {d : PyData} (r : Dp K H v d) : ∀ (n : Nat) {vs : List V} {ds : List PyData}, DpAll K H vs ds → DpAll K H (vs.set n v) (ds.set n d)
  | _, _, _, .nil => .nil
  | 0, _, _, .cons _ t => .cons r t
  | n + 1, _, _, .cons h t => .cons h (dps_set r n t)
theorem dps_ints {K : PySem.W.Frag} {H : Hp} : ∀ (ns : List Int), DpAll K H (ns.map V.int) (ns.map PyData.int)
  | [] => .nil
  | n :: ns => .cons (.int n) (dps_ints ns)
theorem dps_ints' {K : PySem.W.Frag} {H : Hp} : ∀ (ns : List Int) {vs : List V}, DpAll K H vs (ns.map PyData.int) → vs = ns.map V.int
  | [], _, h => by cases h; rfl
  | n :: ns, _, h => by
    cases h with
    | cons a b => cases a; rw [dps_ints' ns b]; rfl
theorem dps_bools' {K : PySem.W.Frag} {H : Hp} : ∀ (ns : List Bool) {vs : List V}, DpAll K H vs (ns.map PyData.bool) → vs = ns.map V.bl
  | [], _, h => by cases h; rfl
  | n :: ns, _, h => by
    cases h with
    | cons a b => cases a; rw [dps_bools' ns b]; rfl

/-! what is given: the written part, the state's list, its numbers, the classes of errors -/
structure Zz where
  K : PySem.W.Frag
  sa : Option Addr
  ns : List Int
  cl : Str → Option Value
inductive Vl where
  | d (x : PyData) | st | op (v : V)
def VOk (Z : Zz) (I : Hp) (v : V) : Vl → Prop
  | .d x => Dp Z.K I v x
  | .st => ∃ a, Z.sa = some a ∧ v = .ref a
  | .op u => v = u
inductive VOks (Z : Zz) (I : Hp) : List V → List Vl → Prop
  | nil : VOks Z I [] []
  | cons {v : V} {x : Vl} {vs : List V} {xs : List Vl} : VOk Z I v x → VOks Z I vs xs → VOks Z I (v :: vs) (x :: xs)
theorem vok_grows {Z : Zz} {I J : Hp} (e : Grows I J) {v : V} : ∀ {x : Vl}, VOk Z I v x → VOk Z J v x
  | .d x, h => dp_grows e x v h
  | .st, h => h
  | .op _, h => h
theorem voks_grows {Z : Zz} {I J : Hp} (e : Grows I J) : ∀ {vs : List V} {xs : List Vl}, VOks Z I vs xs → VOks Z J vs xs
  | _, _, .nil => .nil
  | _, _, .cons h t => .cons (vok_grows e h) (voks_grows e t)
theorem voks_len {Z : Zz} {I : Hp} : ∀ {vs : List V} {xs : List Vl}, VOks Z I vs xs → vs.length = xs.length
  | _, _, .nil => rfl
  | _, _, .cons _ t => by rw [List.length_cons, List.length_cons, voks_len t]

inductive Sl where
  | no | im (x : Vl) | ow (xs : List PyData)
inductive Sls (Z : Zz) (H0 I H : Hp) : L2.St → List Sl → List Addr → Prop
  | nil : Sls Z H0 I H [] [] []
  | no {s σ δ as} : Sls Z H0 I H σ δ as → Sls Z H0 I H (s :: σ) (.no :: δ) as
  | im {v x σ δ as} : VOk Z I v x → Sls Z H0 I H σ δ as → Sls Z H0 I H (some v :: σ) (.im x :: δ) as
  | ow {l vs xs σ δ as} : H l = some (.lst vs) → I l = none → H0 l = none → Z.sa ≠ some l → DpAll Z.K I vs xs → l ∉ as → Sls Z H0 I H σ δ as → Sls Z H0 I H (some (.ref l) :: σ) (.ow xs :: δ) (l :: as)

structure Ok (Z : Zz) (I H : Hp) (c : Int) : Prop where
  ex : Grows I H
  st : ∀ a, Z.sa = some a → I a = none ∧ ∃ p, H a = some (.lst [.ref p, .int c]) ∧ SqL Z.K I p (Z.ns.map V.int)
structure Gr (Z : Zz) (I H I' H' : Hp) : Prop where
  ii : Grows I I'
  hh : ∀ a o, Z.sa ≠ some a → H a = some o → H' a = some o
  th : ∀ a, H a ≠ none → H' a ≠ none
  fr : ∀ a, H a ≠ none → I a = none → I' a = none
theorem Gr.refl {Z : Zz} {I H : Hp} : Gr Z I H I H := ⟨fun _ _ h => h, fun _ _ _ h => h, fun _ h => h, fun _ _ h => h⟩
theorem Gr.trans {Z : Zz} {I H I1 H1 I2 H2 : Hp} (a : Gr Z I H I1 H1) (b : Gr Z I1 H1 I2 H2) : Gr Z I H I2 H2 :=
  ⟨fun x o h => b.ii x o (a.ii x o h), fun x o n h => b.hh x o n (a.hh x o n h), fun x h => b.th x (a.th x h), fun x h n => b.fr x (a.th x h) (a.fr x h n)⟩
/-- a new thing that stays -/
theorem Gr.new {Z : Zz} {I H : Hp} {c : Int} {p : Addr} {o : HO} (k : Ok Z I H c) (h : H p = none) : Gr Z I H (upd I p o) (upd H p o) ∧ Ok Z (upd I p o) (upd H p o) c := by
  have hi : I p = none := by
    cases e : I p with
    | none => rfl
    | some u => rw [k.ex p u e] at h; cases h
  have ne : ∀ {a : Addr} {u : HO}, H a = some u → a ≠ p := fun e z => by rw [z, h] at e; cases e
  have nei : ∀ {a : Addr} {u : HO}, I a = some u → a ≠ p := fun e z => by rw [z, hi] at e; cases e
  refine ⟨⟨fun a u e => by rw [upd_ne (nei e)]; exact e, fun a u _ e => by rw [upd_ne (ne e)]; exact e, fun a e => ?_, fun a e n => ?_⟩, ⟨fun a u e => ?_, fun a e => ?_⟩⟩
  · by_cases z : a = p
    · subst z; rw [upd_same]; exact Option.some_ne_none _
    · rw [upd_ne z]; exact e
  · by_cases z : a = p
    · subst z; exact absurd h e
    · rw [upd_ne z]; exact n
  · by_cases z : a = p
    · subst z; rw [upd_same] at e ⊢; exact e
    · rw [upd_ne z] at e ⊢; exact k.ex a u e
  · obtain ⟨n, q, e1, e2⟩ := k.st a e
    exact ⟨by rw [upd_ne (ne e1)]; exact n, q, by rw [upd_ne (ne e1)]; exact e1, sqL_grows (fun a u e => by rw [upd_ne (nei e)]; exact e) e2⟩
/-- a new list of one's own -/
theorem Gr.own {Z : Zz} {I H : Hp} {c : Int} {p : Addr} {o : HO} (k : Ok Z I H c) (h : H p = none) : Gr Z I H I (upd H p o) ∧ Ok Z I (upd H p o) c := by
  have ne : ∀ {a : Addr} {u : HO}, H a = some u → a ≠ p := fun e z => by rw [z, h] at e; cases e
  refine ⟨⟨fun _ _ h => h, fun a u _ e => by rw [upd_ne (ne e)]; exact e, fun a e => ?_, fun _ _ n => n⟩, ⟨fun a u e => by rw [upd_ne (ne (k.ex a u e))]; exact k.ex a u e, fun a e => ?_⟩⟩
  · by_cases z : a = p
    · subst z; rw [upd_same]; exact Option.some_ne_none _
    · rw [upd_ne z]; exact e
  · obtain ⟨n, q, e1, e2⟩ := k.st a e
    exact ⟨n, q, by rw [upd_ne (ne e1)]; exact e1, e2⟩
theorem Sls.mono {Z : Zz} {H0 I H I' H' : Hp} (g : Gr Z I H I' H') {σ : L2.St} {δ : List Sl} {as : List Addr} (h : Sls Z H0 I H σ δ as) : Sls Z H0 I' H' σ δ as := by
  induction h with
  | nil => exact .nil
  | no _ ih => exact .no ih
  | im a _ ih => exact .im (vok_grows g.ii a) ih
  | ow h1 h2 h3 h4 h5 h6 _ ih => exact .ow (g.hh _ _ h4 h1) (g.fr _ (by rw [h1]; exact Option.some_ne_none _) h2) h3 h4 (dps_grows g.ii _ _ h5) h6 ih
theorem Sls.get {Z : Zz} {H0 I H : Hp} {σ : L2.St} {δ : List Sl} {as : List Addr} (h : Sls Z H0 I H σ δ as) : ∀ {i : Nat} {x : Vl}, δ[i]? = some (.im x) → ∃ v, σ[i]? = some (some v) ∧ VOk Z I v x := by
  induction h with
  | nil => intro i x e; simp at e
  | no _ ih => intro i x e; cases i with
    | zero => simp at e
    | succ i => simpa using ih (i := i) (x := x) (by simpa using e)
  | im a _ ih => intro i x e; cases i with
    | zero => simp at e; subst e; exact ⟨_, rfl, a⟩
    | succ i => simpa using ih (i := i) (x := x) (by simpa using e)
  | ow h1 h2 h3 h4 h5 h6 _ ih => intro i x e; cases i with
    | zero => simp at e
    | succ i => simpa using ih (i := i) (x := x) (by simpa using e)
theorem Sls.at {Z : Zz} {H0 I H : Hp} {σ : L2.St} {δ : List Sl} {as : List Addr} (h : Sls Z H0 I H σ δ as) : ∀ {a : Addr}, a ∈ as → ∃ vs, H a = some (.lst vs) ∧ I a = none ∧ H0 a = none ∧ Z.sa ≠ some a := by
  induction h with
  | nil => intro a m; cases m
  | no _ ih => exact ih
  | im _ _ ih => exact ih
  | ow h1 h2 h3 h4 h5 h6 _ ih => intro a m; cases m with
    | head => exact ⟨_, h1, h2, h3, h4⟩
    | tail _ m => exact ih m
theorem Sls.own {Z : Zz} {H0 I H : Hp} {σ : L2.St} {δ : List Sl} {as : List Addr} (h : Sls Z H0 I H σ δ as) : ∀ {i : Nat} {xs : List PyData}, δ[i]? = some (.ow xs) →
    ∃ l vs, σ[i]? = some (some (.ref l)) ∧ l ∈ as ∧ H l = some (.lst vs) ∧ DpAll Z.K I vs xs := by
  induction h with
  | nil => intro i x e; simp at e
  | no _ ih => intro i x e; cases i with
    | zero => simp at e
    | succ i => simpa using ih (i := i) (xs := x) (by simpa using e)
  | im a _ ih => intro i x e; cases i with
    | zero => simp at e
    | succ i => simpa using ih (i := i) (xs := x) (by simpa using e)
  | ow h1 h2 h3 h4 h5 h6 _ ih => intro i x e; cases i with
    | zero => simp at e; subst e; exact ⟨_, _, rfl, List.mem_cons_self, h1, h5⟩
    | succ i =>
      obtain ⟨l, vs, a, b, c⟩ := ih (i := i) (xs := x) (by simpa using e)
      exact ⟨l, vs, by simpa using a, List.mem_cons_of_mem _ b, c⟩
/-- a slot told anew -/
theorem Sls.put {Z : Zz} {H0 I H : Hp} {σ : L2.St} {δ : List Sl} {as : List Addr} (h : Sls Z H0 I H σ δ as) {v : V} {x : Vl} (r : VOk Z I v x) : ∀ (i : Nat), ∃ bs, Sls Z H0 I H (σ.set i (some v)) (δ.set i (.im x)) bs ∧ ∀ b ∈ bs, b ∈ as := by
  induction h with
  | nil => intro i; exact ⟨[], by cases i <;> exact .nil, fun _ m => m⟩
  | no h ih => intro i; cases i with
    | zero => exact ⟨_, .im r h, fun _ m => m⟩
    | succ i => obtain ⟨bs, a, b⟩ := ih i; exact ⟨bs, .no a, b⟩
  | im q h ih => intro i; cases i with
    | zero => exact ⟨_, .im r h, fun _ m => m⟩
    | succ i => obtain ⟨bs, a, b⟩ := ih i; exact ⟨bs, .im q a, b⟩
  | ow h1 h2 h3 h4 h5 h6 h ih => intro i; cases i with
    | zero => exact ⟨_, .im r h, fun _ m => List.mem_cons_of_mem _ m⟩
    | succ i =>
      obtain ⟨bs, a, b⟩ := ih i
      exact ⟨_ :: bs, .ow h1 h2 h3 h4 h5 (fun m => h6 (b _ m)) a, fun c m => by cases m with
        | head => exact List.mem_cons_self
        | tail _ m => exact List.mem_cons_of_mem _ (b _ m)⟩
theorem Sls.wipe1 {Z : Zz} {H0 I H : Hp} {σ : L2.St} {δ : List Sl} {as : List Addr} (h : Sls Z H0 I H σ δ as) {s : Option V} : ∀ (i : Nat), ∃ bs, Sls Z H0 I H (σ.set i s) (δ.set i .no) bs ∧ ∀ b ∈ bs, b ∈ as := by
  induction h with
  | nil => intro i; exact ⟨[], by cases i <;> exact .nil, fun _ m => m⟩
  | no h ih => intro i; cases i with
    | zero => exact ⟨_, .no h, fun _ m => m⟩
    | succ i => obtain ⟨bs, a, b⟩ := ih i; exact ⟨bs, .no a, b⟩
  | im q h ih => intro i; cases i with
    | zero => exact ⟨_, .no h, fun _ m => m⟩
    | succ i => obtain ⟨bs, a, b⟩ := ih i; exact ⟨bs, .im q a, b⟩
  | ow h1 h2 h3 h4 h5 h6 h ih => intro i; cases i with
    | zero => exact ⟨_, .no h, fun _ m => List.mem_cons_of_mem _ m⟩
    | succ i =>
      obtain ⟨bs, a, b⟩ := ih i
      exact ⟨_ :: bs, .ow h1 h2 h3 h4 h5 (fun m => h6 (b _ m)) a, fun c m => by cases m with
        | head => exact List.mem_cons_self
        | tail _ m => exact List.mem_cons_of_mem _ (b _ m)⟩
/-- a new list of one's own into a slot -/
theorem Sls.putOwn {Z : Zz} {H0 I H : Hp} {l : Addr} {vs : List V} {ys : List PyData} (e1 : H l = some (.lst vs)) (e2 : I l = none) (e3 : H0 l = none) (e4 : Z.sa ≠ some l) (e5 : DpAll Z.K I vs ys)
    {σ : L2.St} {δ : List Sl} {as : List Addr} (h : Sls Z H0 I H σ δ as) : ∀ (i : Nat), l ∉ as → ∃ bs, Sls Z H0 I H (σ.set i (some (.ref l))) (δ.set i (.ow ys)) bs ∧ ∀ b ∈ bs, b = l ∨ b ∈ as := by
  induction h with
  | nil => intro i _; exact ⟨[], by cases i <;> exact .nil, fun _ m => .inr m⟩
  | no h ih => intro i n; cases i with
    | zero => exact ⟨_, .ow e1 e2 e3 e4 e5 n h, fun _ m => by simpa using m⟩
    | succ i => obtain ⟨bs, a, b⟩ := ih i n; exact ⟨bs, .no a, b⟩
  | im q h ih => intro i n; cases i with
    | zero => exact ⟨_, .ow e1 e2 e3 e4 e5 n h, fun _ m => by simpa using m⟩
    | succ i => obtain ⟨bs, a, b⟩ := ih i n; exact ⟨bs, .im q a, b⟩
  | ow h1 h2 h3 h4 h5 h6 h ih => intro i n; cases i with
    | zero => exact ⟨_, .ow e1 e2 e3 e4 e5 (fun m => n (List.mem_cons_of_mem _ m)) h, fun _ m => by
        cases m with
        | head => exact .inl rfl
        | tail _ m => exact .inr (List.mem_cons_of_mem _ m)⟩
    | succ i =>
      obtain ⟨bs, a, b⟩ := ih i fun m => n (List.mem_cons_of_mem _ m)
      exact ⟨_ :: bs, .ow h1 h2 h3 h4 h5 (fun m => (b _ m).elim (fun e => n (e ▸ List.mem_cons_self)) h6) a, fun c m => by cases m with
        | head => exact .inr List.mem_cons_self
        | tail _ m => exact (b _ m).imp id (List.mem_cons_of_mem _)⟩
/-- slots that do not have l stay where l changes -/
theorem Sls.apart {Z : Zz} {H0 I H : Hp} {l : Addr} {o : HO} {σ : L2.St} {δ : List Sl} {as : List Addr} (h : Sls Z H0 I H σ δ as) : l ∉ as → Sls Z H0 I (upd H l o) σ δ as := by
  induction h with
  | nil => exact fun _ => .nil
  | no _ ih => exact fun n => .no (ih n)
  | im a _ ih => exact fun n => .im a (ih n)
  | ow h1 h2 h3 h4 h5 h6 _ ih => exact fun n => .ow (by rw [upd_ne (fun e => n (by rw [e]; exact List.mem_cons_self))]; exact h1) h2 h3 h4 h5 h6 (ih fun m => n (List.mem_cons_of_mem _ m))
/-- one's own list changed -/
theorem Sls.change {Z : Zz} {H0 I H : Hp} {ws : List V} {ys : List PyData} (e5 : DpAll Z.K I ws ys) {σ : L2.St} {δ : List Sl} {as : List Addr} (h : Sls Z H0 I H σ δ as) :
    ∀ {i : Nat} {xs : List PyData} {l : Addr}, δ[i]? = some (.ow xs) → σ[i]? = some (some (.ref l)) → Sls Z H0 I (upd H l (.lst ws)) σ (δ.set i (.ow ys)) as := by
  induction h with
  | nil => intro i x l e; simp at e
  | no h ih => intro i x l e f; cases i with
    | zero => simp at e
    | succ i => exact .no (ih (by simpa using e) (by simpa using f))
  | im q h ih => intro i x l e f; cases i with
    | zero => simp at e
    | succ i => exact .im q (ih (by simpa using e) (by simpa using f))
  | ow h1 h2 h3 h4 h5 h6 h ih => intro i x l e f; cases i with
    | zero =>
      simp at f
      subst f
      exact .ow upd_same h2 h3 h4 e5 h6 (h.apart h6)
    | succ i =>
      have e' := (List.getElem?_cons_succ ▸ e)
      have f' := (List.getElem?_cons_succ ▸ f)
      obtain ⟨l2, vs2, f2, m, _⟩ := h.own e'
      have : l2 = l := by rw [f2] at f'; cases f'; rfl
      subst this
      exact .ow (by rw [upd_ne (fun e => h6 (by rw [e]; exact m))]; exact h1) h2 h3 h4 h5 h6 (ih e' f')
/-- one's own list kept for good -/
theorem Sls.freeze {Z : Zz} {H0 I H : Hp} {l : Addr} {vs : List V} (hl : I l = none) {σ : L2.St} {δ : List Sl} {as : List Addr} (h : Sls Z H0 I H σ δ as) : l ∉ as → Sls Z H0 (upd I l (.lst vs)) H σ δ as := by
  have gi : Grows I (upd I l (.lst vs)) := fun a o e => by
    rw [upd_ne (fun z => by rw [z, hl] at e; cases e)]
    exact e
  induction h with
  | nil => exact fun _ => .nil
  | no _ ih => exact fun n => .no (ih n)
  | im a _ ih => exact fun n => .im (vok_grows gi a) (ih n)
  | ow h1 h2 h3 h4 h5 h6 _ ih => exact fun n => .ow h1 (by rw [upd_ne (fun e => n (by rw [e]; exact List.mem_cons_self))]; exact h2) h3 h4 (dps_grows gi _ _ h5) h6 (ih fun m => n (List.mem_cons_of_mem _ m))
theorem Sls.frz {Z : Zz} {H0 I H : Hp} {σ : L2.St} {δ : List Sl} {as : List Addr} (h : Sls Z H0 I H σ δ as) : ∀ {i : Nat} {xs : List PyData} {l : Addr} {vs : List V}, δ[i]? = some (.ow xs) → σ[i]? = some (some (.ref l)) → H l = some (.lst vs) →
    ∃ bs, Sls Z H0 (upd I l (.lst vs)) H σ (δ.set i (.im (.d (.list xs)))) bs ∧ ∀ b ∈ bs, b ∈ as := by
  induction h with
  | nil => intro i x l vs e; simp at e
  | no h ih => intro i x l vs e f g; cases i with
    | zero => simp at e
    | succ i => obtain ⟨bs, a, b⟩ := ih (i := i) (xs := x) (l := l) (vs := vs) (by simpa using e) (by simpa using f) g; exact ⟨bs, .no a, b⟩
  | im q h ih => intro i x l vs e f g; cases i with
    | zero => simp at e
    | succ i =>
      have e' := (List.getElem?_cons_succ ▸ e)
      have f' := (List.getElem?_cons_succ ▸ f)
      obtain ⟨l2, vs2, f2, m, g2, d⟩ := h.own e'
      have : l2 = l := by rw [f2] at f'; cases f'; rfl
      subst this
      obtain ⟨_, _, n, _⟩ := h.at m
      obtain ⟨bs, a, b⟩ := ih (i := i) (xs := x) (l := l2) (vs := vs) e' f' g
      exact ⟨bs, .im (vok_grows (fun a o e => by rw [upd_ne (fun z => by rw [z, n] at e; cases e)]; exact e) q) a, b⟩
  | ow h1 h2 h3 h4 h5 h6 h ih => intro i x l vs e f g; cases i with
    | zero =>
      simp at e f
      subst e f
      rw [h1] at g
      cases g
      refine ⟨_, .im (.lst (.inl (.inl upd_same)) (dps_grows (fun a o e => by rw [upd_ne (fun z => by rw [z, h2] at e; cases e)]; exact e) _ _ h5)) (h.freeze h2 h6), fun b m => List.mem_cons_of_mem _ m⟩
    | succ i =>
      have e' := (List.getElem?_cons_succ ▸ e)
      have f' := (List.getElem?_cons_succ ▸ f)
      obtain ⟨l2, vs2, f2, m, g2, d⟩ := h.own e'
      have : l2 = l := by rw [f2] at f'; cases f'; rfl
      subst this
      obtain ⟨_, _, n, _⟩ := h.at m
      obtain ⟨bs, a, b⟩ := ih (i := i) (xs := x) (l := l2) (vs := vs) e' f' g
      exact ⟨_ :: bs, .ow h1 (by rw [upd_ne (fun e => h6 (by rw [e]; exact m))]; exact h2) h3 h4 (dps_grows (fun a o e => by rw [upd_ne (fun z => by rw [z, n] at e; cases e)]; exact e) _ _ h5) (fun m => h6 (b _ m)) a, fun c m => by
        cases m with
        | head => exact List.mem_cons_self
        | tail _ m => exact List.mem_cons_of_mem _ (b _ m)⟩
end Dn
namespace Dn
open PySem PySem.Spec PyProof.Rows L2

/-! results: nothing told, a value and the state's count, an error -/
inductive R (α : Type) where
  | no | ok (a : α) (c : Int) | ex (k : Str) (p : Option Int) (c : Int)
def R.bind {α β : Type} (r : R α) (f : α → Int → R β) : R β := match r with
  | .no => .no
  | .ok a c => f a c
  | .ex k p c => .ex k p c
def R.map {α β : Type} (r : R α) (f : α → β) : R β := match r with
  | .no => .no
  | .ok a c => .ok (f a) c
  | .ex k p c => .ex k p c
@[simp] theorem R.map_ok {α β : Type} {a : α} {c : Int} {f : α → β} : (R.ok a c).map f = .ok (f a) c := rfl
@[simp] theorem R.map_no {α β : Type} {f : α → β} : (R.no : R α).map f = .no := rfl
@[simp] theorem R.map_ex {α β : Type} {k : Str} {p : Option Int} {c : Int} {f : α → β} : (R.ex k p c : R α).map f = .ex k p c := rfl
@[simp] theorem R.bind_ok {α β : Type} {a : α} {c : Int} {f : α → Int → R β} : (R.ok a c).bind f = f a c := rfl
@[simp] theorem R.bind_no {α β : Type} {f : α → Int → R β} : (R.no : R α).bind f = .no := rfl
@[simp] theorem R.bind_ex {α β : Type} {k : Str} {p : Option Int} {c : Int} {f : α → Int → R β} : (R.ex k p c : R α).bind f = .ex k p c := rfl

/-- how an error lies -/
def XD (H : Hp) (p : Option Int) (d : Option Addr) : Prop := match p with
  | none => d = none
  | some n => ∃ a fs, d = some a ∧ H a = some (.xd fs) ∧ fs.lookup ("line" : Str) = some (V.int n)
def Res (Z : Zz) (W : XK) (I H : Hp) {α : Type} (r : R α) (P : α → Int → Hp → Hp → Prop) : Prop := match r with
  | .no => False
  | .ok a c => ∀ I' H', Gr Z I H I' H' → Ok Z I' H' c → P a c I' H'
  | .ex k p c => ∀ I' H' cls d, Gr Z I H I' H' → Ok Z I' H' c → Z.cl k = some cls → XD H' p d → W cls d H'
section
variable {Z : Zz} {W : XK} {I H I1 H1 : Hp} {α β : Type} {r : R α} {f : α → Int → R β}
theorem Res.base {P : α → Int → Hp → Hp → Prop} (g : Gr Z I H I1 H1) (h : Res Z W I H r P) : Res Z W I1 H1 r P := by
  cases r with
  | no => exact h
  | ok a c => exact fun I' H' g' k => h I' H' (g.trans g') k
  | ex k p c => exact fun I' H' cls d g' k e x => h I' H' cls d (g.trans g') k e x
theorem Res.imp {P P' : α → Int → Hp → Hp → Prop} (h : Res Z W I H r P) (q : ∀ a c I' H', Gr Z I H I' H' → Ok Z I' H' c → P a c I' H' → P' a c I' H') : Res Z W I H r P' := by
  cases r with
  | no => exact h
  | ok a c => exact fun I' H' g k => q a c I' H' g k (h I' H' g k)
  | ex k p c => exact h
theorem Res.bind {P : β → Int → Hp → Hp → Prop} (h : Res Z W I H (r.bind f) P) : Res Z W I H r fun a c I' H' => Res Z W I' H' (f a c) P := by
  cases r with
  | no => exact h
  | ok a c => exact fun I' H' g _ => Res.base g h
  | ex k p c => exact h
theorem Res.map {g : α → β} {P : β → Int → Hp → Hp → Prop} (h : Res Z W I H (r.map g) P) : Res Z W I H r fun a c _ _ => ∀ I2 H2, Gr Z I H I2 H2 → Ok Z I2 H2 c → P (g a) c I2 H2 := by
  cases r with
  | no => exact h
  | ok a c => exact fun _ _ _ _ => h
  | ex k p c => exact h
theorem Res.ok {c : Int} {a : α} {P : α → Int → Hp → Hp → Prop} (k : Ok Z I H c) (h : Res Z W I H (.ok a c) P) : P a c I H := h I H Gr.refl k
end

abbrev Den := List Sl → Int → R Vl
abbrev DenT := List Sl → Int → R Bool
abbrev DenA := List Sl → Int → R (List Vl)
abbrev DenL := List Sl → Int → R (List PyData)
abbrev DenO := List Sl → Int → R (Option Int)
inductive Out where
  | nx (δ : List Sl) | rt (x : Vl) | bk (δ : List Sl) | ct (δ : List Sl)
abbrev DenS := List Sl → Int → R Out

/-- at a state -/
structure At (Z : Zz) (H0 I H : Hp) (σ : L2.St) (δ : List Sl) (c : Int) : Prop where
  sl : ∃ as, Sls Z H0 I H σ δ as
  k : Ok Z I H c
theorem At.go {Z : Zz} {H0 I H I1 H1 : Hp} {σ : L2.St} {δ : List Sl} {c c1 : Int} (a : At Z H0 I H σ δ c) (g : Gr Z I H I1 H1) (k : Ok Z I1 H1 c1) : At Z H0 I1 H1 σ δ c1 := ⟨a.sl.imp fun _ h => h.mono g, k⟩

def SndE (Z : Zz) (W : XK) (te : TE) (de : Den) : Prop := ∀ H0 I H σ δ c, At Z H0 I H σ δ c → ∀ Q : VK, Res Z W I H (de δ c) (fun x _ I' H' => ∀ v, VOk Z I' v x → Q v H') → te σ H Q
def SndT (Z : Zz) (W : XK) (tt : TT) (de : DenT) : Prop := ∀ H0 I H σ δ c, At Z H0 I H σ δ c → ∀ Q : Bool → Hp → Prop, Res Z W I H (de δ c) (fun x _ _ H' => Q x H') → tt σ H Q
def SndA (Z : Zz) (W : XK) (ta : TA) (de : DenA) : Prop := ∀ H0 I H σ δ c, At Z H0 I H σ δ c → ∀ Q : List V → Hp → Prop, Res Z W I H (de δ c) (fun xs _ I' H' => ∀ vs, VOks Z I' vs xs → Q vs H') → ta σ H Q
def SndL (Z : Zz) (W : XK) (te : TE) (de : DenL) : Prop := ∀ H0 I H σ δ c, At Z H0 I H σ δ c → ∀ Q : VK,
  Res Z W I H (de δ c) (fun xs _ I' H' => ∀ l vs, H l = none → I' l = none → H' l = some (.lst vs) → Z.sa ≠ some l → DpAll Z.K I' vs xs → Q (.ref l) H') → te σ H Q
def SndO (Z : Zz) (W : XK) (te : TO) (de : DenO) : Prop := ∀ H0 I H σ δ c, At Z H0 I H σ δ c → ∀ Q : Option Int → Hp → Prop, Res Z W I H (de δ c) (fun x _ _ H' => Q x H') → te σ H Q

section
variable {Z : Zz} {W : XK}
theorem freshI {Z : Zz} {I H : Hp} {c : Int} (k : Ok Z I H c) {p : Addr} (h : H p = none) : I p = none := by
  cases e : I p with
  | none => rfl
  | some u => rw [k.ex p u e] at h; cases h
theorem freshS {Z : Zz} {I H : Hp} {c : Int} (k : Ok Z I H c) {p : Addr} (h : H p = none) : Z.sa ≠ some p := fun e => by
  obtain ⟨_, q, z, _⟩ := k.st p e
  rw [h] at z
  cases z
/-- one's own list, kept for good, is a value -/
theorem keepL {I H : Hp} {c : Int} (k : Ok Z I H c) {l : Addr} {vs : List V} {xs : List PyData} (h1 : I l = none) (h2 : H l = some (.lst vs)) (h3 : Z.sa ≠ some l) (h4 : DpAll Z.K I vs xs) :
    Ok Z (upd I l (.lst vs)) H c ∧ Grows I (upd I l (.lst vs)) ∧ VOk Z (upd I l (.lst vs)) (.ref l) (.d (.list xs)) := by
  have gi : Grows I (upd I l (.lst vs)) := fun a o e => by
    rw [upd_ne (fun z => by rw [z, h1] at e; cases e)]
    exact e
  refine ⟨⟨fun a o e => ?_, fun a e => ?_⟩, gi, .lst (.inl (.inl upd_same)) (dps_grows gi _ _ h4)⟩
  · by_cases z : a = l
    · subst z; rw [upd_same] at e; cases e; exact h2
    · rw [upd_ne z] at e; exact k.ex a o e
  · obtain ⟨n, p, e1, e2⟩ := k.st a e
    exact ⟨by rw [upd_ne (fun z => h3 (by rw [← z]; exact e))]; exact n, p, e1, sqL_grows gi e2⟩
theorem snd_ofL {te : TE} {de : DenL} (h : SndL Z W te de) : SndE Z W te (fun δ c => (de δ c).map fun xs => .d (.list xs)) := by
  intro H0 I H σ δ c a Q r
  refine h H0 I H σ δ c a Q (Res.imp (Res.map r) fun xs c1 I1 H1 g k q l vs f0 f1 f2 f3 f4 => ?_)
  obtain ⟨k2, gi, v⟩ := keepL k f1 f2 f3 f4
  refine q _ _ ⟨fun b o e => gi b o (g.ii b o e), g.hh, g.th, fun b e n => ?_⟩ k2 _ v
  have z : b ≠ l := fun z => e (by rw [z]; exact f0)
  rw [upd_ne z]
  exact g.fr b e n
end
end Dn
namespace Dn
open PySem PySem.Spec PyProof.Rows L2

section
variable {Z : Zz} {W : XK}
/-! names, constants, operators -/
def dVar (i : Nat) : Den := fun δ c => match δ[i]? with
  | some (.im x) => .ok x c
  | _ => .no
theorem snd_var {i : Nat} : SndE Z W (tVar i) (dVar i) := by
  intro H0 I H σ δ c a Q r
  unfold dVar at r
  split at r
  · rename_i x e
    obtain ⟨as, s⟩ := a.sl
    obtain ⟨v, h1, h2⟩ := s.get e
    exact ⟨v, h1, Res.ok a.k r v h2⟩
  · exact r.elim
def dC (x : Vl) : Den := fun _ c => .ok x c
theorem snd_c {v : V} {x : Vl} (h : ∀ I, VOk Z I v x) : SndE Z W (tC v) (dC x) := fun _ I _ _ _ _ a _ r => Res.ok a.k r v (h I)
theorem snd_int {i : Int} : SndE Z W (tC (.int i)) (dC (.d (.int i))) := snd_c fun _ => .int i
theorem snd_str {i : Str} : SndE Z W (tC (.str i)) (dC (.d (.str i))) := snd_c fun _ => .str i
theorem snd_bl {i : Bool} : SndE Z W (tC (.bl i)) (dC (.d (.bool i))) := snd_c fun _ => .bl i
theorem snd_non : SndE Z W (tC .non) (dC (.d .none)) := snd_c fun _ => .non
theorem snd_fn {v : V} : SndE Z W (tC v) (dC (.op v)) := snd_c fun _ => rfl
/-- a value of the written part -/
theorem snd_glob {v : V} {x : PyData} (h : Dp Z.K (fun _ => none) v x) : SndE Z W (tC v) (dC (.d x)) := snd_c fun I => dp_grows (fun _ _ e => by cases e) x v h

def SndR (Z : Zz) (W : XK) (r : R2) (g : Vl → Vl → Int → R Vl) : Prop := ∀ I H x y vx vy c, Ok Z I H c → VOk Z I vx x → VOk Z I vy y → ∀ Q : VK, Res Z W I H (g x y c) (fun z _ I' H' => ∀ v, VOk Z I' v z → Q v H') → r vx vy H Q
def dOp (g : Vl → Vl → Int → R Vl) (da db : Den) : Den := fun δ c => (da δ c).bind fun x c => (db δ c).bind fun y c => g x y c
theorem snd_op {r : R2} {g : Vl → Vl → Int → R Vl} {ta tb : TE} {da db : Den} (hr : SndR Z W r g) (ha : SndE Z W ta da) (hb : SndE Z W tb db) : SndE Z W (tOp r ta tb) (dOp g da db) := by
  intro H0 I H σ δ c a Q h
  refine ha _ _ _ _ _ _ a _ (Res.imp (Res.bind h) fun x c1 I1 H1 g1 k1 h1 v hv => ?_)
  refine hb _ _ _ _ _ _ (a.go g1 k1) _ (Res.imp (Res.bind h1) fun y c2 I2 H2 g2 k2 h2 w hw => ?_)
  exact hr I2 H2 x y v w c2 k2 (vok_grows g2.ii hv) hw Q h2
def SndU (Z : Zz) (W : XK) (r : V → Hp → VK → Prop) (g : Vl → Int → R Vl) : Prop := ∀ I H x vx c, Ok Z I H c → VOk Z I vx x → ∀ Q : VK, Res Z W I H (g x c) (fun z _ I' H' => ∀ v, VOk Z I' v z → Q v H') → r vx H Q
def dUn (g : Vl → Int → R Vl) (da : Den) : Den := fun δ c => (da δ c).bind g
theorem snd_un {r : V → Hp → VK → Prop} {g : Vl → Int → R Vl} {ta : TE} {da : Den} (hr : SndU Z W r g) (ha : SndE Z W ta da) : SndE Z W (tUn r ta) (dUn g da) := by
  intro H0 I H σ δ c a Q h
  refine ha _ _ _ _ _ _ a _ (Res.imp (Res.bind h) fun x c1 I1 H1 g1 k1 h1 v hv => ?_)
  exact hr I1 H1 x v c1 k1 hv Q h1

/-- two ints to a scalar, where C holds -/
def gI (C : Int → Int → Bool) (f : Int → Int → PyData) : Vl → Vl → Int → R Vl
  | .d (.int i), .d (.int j), c => if C i j = true then .ok (.d (f i j)) c else .no
  | _, _, _ => .no
theorem gI_inv {C : Int → Int → Bool} {f : Int → Int → PyData} {x y : Vl} {c : Int} {I H : Hp} {P : Vl → Int → Hp → Hp → Prop} (h : Res Z W I H (gI C f x y c) P) : ∃ i j, x = .d (.int i) ∧ y = .d (.int j) ∧ C i j = true ∧ Res Z W I H (.ok (.d (f i j)) c) P := by
  unfold gI at h
  split at h
  · split at h
    · rename_i e
      exact ⟨_, _, rfl, rfl, e, h⟩
    · exact h.elim
  · exact h.elim
theorem rr_I0 {g : Int → Int → V} {f : Int → Int → PyData} (e : ∀ i j K I, Dp K I (g i j) (f i j)) : SndR Z W (rI0 g) (gI (fun _ _ => true) f) := by
  intro I H x y vx vy c k hx hy Q h
  obtain ⟨i, j, rfl, rfl, _, h⟩ := gI_inv h
  cases hx
  cases hy
  exact ⟨i, j, rfl, rfl, Res.ok k h _ (e i j _ _)⟩
theorem rr_I {D : Int → Int → Prop} {C : Int → Int → Bool} {g : Int → Int → V} {f : Int → Int → PyData} (e : ∀ i j K I, Dp K I (g i j) (f i j)) (hc : ∀ i j, C i j = true → D i j) : SndR Z W (rI D g) (gI C f) := by
  intro I H x y vx vy c k hx hy Q h
  obtain ⟨i, j, rfl, rfl, q, h⟩ := gI_inv h
  cases hx
  cases hy
  exact ⟨i, j, rfl, rfl, hc i j q, Res.ok k h _ (e i j _ _)⟩
theorem rr_add : SndR Z W (rI0 fun i j => .int (i + j)) (gI (fun _ _ => true) fun i j => .int (i + j)) := rr_I0 fun _ _ _ _ => .int _
theorem rr_sub : SndR Z W (rI0 fun i j => .int (i - j)) (gI (fun _ _ => true) fun i j => .int (i - j)) := rr_I0 fun _ _ _ _ => .int _
def bMul (i j : Int) : Bool := decide (i.natAbs < 2 ^ 200 ∧ j.natAbs < 2 ^ 200)
theorem log2_le {n k : Nat} (h : n < 2 ^ k) (hk : 0 < k) : n.log2 < k := PySem.Flt.log2_lt_of hk h
theorem bMul_ok {i j : Int} (h : bMul i j = true) : CMulW i j := by
  obtain ⟨h1, h2⟩ := of_decide_eq_true h
  have a := log2_le h1 (by decide)
  have b := log2_le h2 (by decide)
  show i.natAbs.log2 + j.natAbs.log2 < 1000000
  omega
theorem rr_mul : SndR Z W (rI CMulW fun i j => .int (i * j)) (gI bMul fun i j => .int (i * j)) := rr_I (fun _ _ _ _ => .int _) fun _ _ => bMul_ok
def bDiv (_ j : Int) : Bool := decide (0 < j ∧ j < 2 ^ 200)
theorem rr_fdiv : SndR Z W (rI CDivW fun i j => .int (i / j)) (gI bDiv fun i j => .int (i / j)) := rr_I (fun _ _ _ _ => .int _) fun i j h => by
  obtain ⟨h1, h2⟩ := of_decide_eq_true h
  have h2 : j.natAbs < 2 ^ 200 := by omega
  exact ⟨h1, Nat.lt_trans (log2_le h2 (by decide)) (by decide)⟩
theorem rr_mod : SndR Z W (rI (fun _ j => 0 < j) fun i j => .int (i % j)) (gI (fun _ j => decide (0 < j)) fun i j => .int (i % j)) := rr_I (fun _ _ _ _ => .int _) fun i j h => of_decide_eq_true h
theorem rr_pow : SndR Z W (rI CPow fun i j => .int (i ^ j.toNat)) (gI (fun i j => decide (0 ≤ j ∧ j ≤ 1000 ∧ i.natAbs < 1000)) fun i j => .int (i ^ j.toNat)) := rr_I (fun _ _ _ _ => .int _) fun i j h => by
  obtain ⟨h1, h2, h3⟩ := of_decide_eq_true h
  exact ⟨h1, by omega, Nat.lt_trans h3 (by decide)⟩
theorem rr_lt : SndR Z W (rI0 fun i j => .bl (decide (i < j))) (gI (fun _ _ => true) fun i j => .bool (decide (i < j))) := rr_I0 fun _ _ _ _ => .bl _
theorem rr_le : SndR Z W (rI0 fun i j => .bl (decide (i ≤ j))) (gI (fun _ _ => true) fun i j => .bool (decide (i ≤ j))) := rr_I0 fun _ _ _ _ => .bl _
theorem rr_gt : SndR Z W (rI0 fun i j => .bl (decide (j < i))) (gI (fun _ _ => true) fun i j => .bool (decide (j < i))) := rr_I0 fun _ _ _ _ => .bl _
theorem rr_ge : SndR Z W (rI0 fun i j => .bl (decide (j ≤ i))) (gI (fun _ _ => true) fun i j => .bool (decide (j ≤ i))) := rr_I0 fun _ _ _ _ => .bl _
def gNeg : Vl → Int → R Vl
  | .d (.int i), c => .ok (.d (.int (-i))) c
  | _, _ => .no
theorem ru_neg : SndU Z W (rU fun i => .int (-i)) gNeg := by
  intro I H x vx c k hx Q h
  unfold gNeg at h
  split at h
  · cases hx
    exact ⟨_, rfl, Res.ok k h _ (.int _)⟩
  · exact h.elim
/-- == of data -/
def gEq (neg : Bool) : Vl → Vl → Int → R Vl
  | .d x, .d y, c => if SeqAt.shaped x = true ∧ SeqAt.shaped y = true then .ok (.d (.bool (if neg then !PyData.eqv x y else PyData.eqv x y))) c else .no
  | _, _, _ => .no
theorem rr_eq : SndR Z W (rEqD Z.K) (gEq false) := by
  intro I H x y vx vy c k hx hy Q h
  unfold gEq at h
  split at h
  · split at h
    · rename_i e
      exact ⟨_, _, dp_grows k.ex _ _ hx, dp_grows k.ex _ _ hy, e.1, e.2, Res.ok k h _ (.bl _)⟩
    · exact h.elim
  · exact h.elim
theorem rr_ne : SndR Z W (rNeD Z.K) (gEq true) := by
  intro I H x y vx vy c k hx hy Q h
  unfold gEq at h
  split at h
  · split at h
    · rename_i e
      exact ⟨_, _, dp_grows k.ex _ _ hx, dp_grows k.ex _ _ hy, e.1, e.2, Res.ok k h _ (.bl _)⟩
    · exact h.elim
  · exact h.elim
/-- is None -/
def gIsN (neg : Bool) : Vl → Vl → Int → R Vl
  | .d .none, .d .none, c => .ok (.d (.bool (!neg))) c
  | .d (.bool _), .d .none, c => .ok (.d (.bool neg)) c
  | .d (.int _), .d .none, c => .ok (.d (.bool neg)) c
  | .d (.str _), .d .none, c => .ok (.d (.bool neg)) c
  | .d (.list _), .d .none, c => .ok (.d (.bool neg)) c
  | .d (.tuple _), .d .none, c => .ok (.d (.bool neg)) c
  | _, _, _ => .no
theorem rr_isN : SndR Z W (fun x y H Q => y = .non ∧ Q (.bl (decide (x = .non))) H) (gIsN false) := by
  intro I H x y vx vy c k hx hy Q h
  unfold gIsN at h
  split at h <;> first | exact h.elim | (cases hx; cases hy; exact ⟨rfl, Res.ok k h _ (.bl _)⟩)
theorem rr_notN : SndR Z W (fun x y H Q => y = .non ∧ Q (.bl (!decide (x = .non))) H) (gIsN true) := by
  intro I H x y vx vy c k hx hy Q h
  unfold gIsN at h
  split at h <;> first | exact h.elim | (cases hx; cases hy; exact ⟨rfl, Res.ok k h _ (.bl _)⟩)
/-- flat values -/
def toV : PyData → Option V
  | .none => some .non
  | .bool b => some (.bl b)
  | .int i => some (.int i)
  | .str x => some (.str x)
  | _ => none
theorem toV_of {K : PySem.W.Frag} {I : Hp} {v u : V} {x : PyData} (h : Dp K I v x) (e : toV x = some u) : v = u ∧ flatV u = true := by
  cases h <;> simp [toV] at e <;> subst e <;> exact ⟨rfl, rfl⟩
def toVs : List PyData → Option (List V)
  | [] => some []
  | x :: xs => match toV x, toVs xs with
    | some v, some vs => some (v :: vs)
    | _, _ => none
theorem toVs_of {K : PySem.W.Frag} {I : Hp} : ∀ {xs : List PyData} {vs us : List V}, DpAll K I vs xs → toVs xs = some us → vs = us ∧ us.all flatV = true
  | [], _, us, h, e => by cases h; cases e; exact ⟨rfl, rfl⟩
  | x :: xs, _, us, h, e => by
    cases h with
    | cons a b =>
      unfold toVs at e
      split at e
      · rename_i v ws e1 e2
        cases e
        obtain ⟨h1, h2⟩ := toV_of a e1
        obtain ⟨h3, h4⟩ := toVs_of b e2
        subst h1 h3
        exact ⟨rfl, by rw [List.all_cons, h2, h4]; rfl⟩
      · cases e
def gIn (neg : Bool) : Vl → Vl → Int → R Vl
  | .d x, .d (.list ys), c => match toV x, toVs ys with
    | some v, some vs => .ok (.d (.bool (if neg then !inV v vs else inV v vs))) c
    | _, _ => .no
  | .d x, .d (.tuple ys), c => match toV x, toVs ys with
    | some v, some vs => .ok (.d (.bool (if neg then !inV v vs else inV v vs))) c
    | _, _ => .no
  | _, _, _ => .no
theorem rr_in {neg : Bool} : SndR Z W (rIn Z.K neg) (gIn neg) := by
  intro I H x y vx vy c k hx hy Q h
  unfold gIn at h
  split at h
  · split at h
    · rename_i v vs e1 e2
      cases hy with
      | lst s t =>
        obtain ⟨h1, h2⟩ := toV_of hx e1
        obtain ⟨h3, h4⟩ := toVs_of t e2
        subst h1 h3
        exact ⟨_, _, rfl, .inl (sqL_grows k.ex s), h2, h4, Res.ok k h _ (.bl _)⟩
    · exact h.elim
  · split at h
    · rename_i v vs e1 e2
      cases hy with
      | tup s t =>
        obtain ⟨h1, h2⟩ := toV_of hx e1
        obtain ⟨h3, h4⟩ := toVs_of t e2
        subst h1 h3
        exact ⟨_, _, rfl, .inr (sqT_grows k.ex s), h2, h4, Res.ok k h _ (.bl _)⟩
    · exact h.elim
  · exact h.elim
/-- x[i] -/
theorem atI_of {K : PySem.W.Frag} {I : Hp} {vs : List V} {xs : List PyData} {i : Int} {d : PyData} (h : DpAll K I vs xs) (e : atI xs i = some d) : ∃ v, atI vs i = some v ∧ Dp K I v d := by
  unfold atI at e ⊢
  rw [dps_len h]
  cases q : ixN xs.length i with
  | none => rw [q] at e; cases e
  | some j =>
    rw [q] at e
    exact dps_get h e
def gIx : Vl → Vl → Int → R Vl
  | .d (.list xs), .d (.int i), c => match atI xs i with
    | some d => .ok (.d d) c
    | none => .no
  | .d (.tuple xs), .d (.int i), c => match atI xs i with
    | some d => .ok (.d d) c
    | none => .no
  | .d (.str z), .d (.int i), c => if z.length ≤ sizeLine then match atI z.cps.toList i with
    | some d => .ok (.d (.str ⟨#[d]⟩)) c
    | none => .no else .no
  | _, _, _ => .no
theorem rr_ix : SndR Z W (rIx Z.K) gIx := by
  intro I H x y vx vy c k hx hy Q h
  unfold gIx at h
  split at h
  · split at h
    · rename_i d e
      cases hx with
      | lst s t =>
        cases hy
        obtain ⟨v, h1, h2⟩ := atI_of t e
        exact .inl ⟨_, _, _, v, rfl, rfl, sqL_grows k.ex s, h1, Res.ok k h v h2⟩
    · exact h.elim
  · split at h
    · rename_i d e
      cases hx with
      | tup s t =>
        cases hy
        obtain ⟨v, h1, h2⟩ := atI_of t e
        exact .inr (.inl ⟨_, _, _, v, rfl, rfl, sqT_grows k.ex s, h1, Res.ok k h v h2⟩)
    · exact h.elim
  · split at h
    · rename_i z1
      split at h
      · rename_i d e
        cases hx
        cases hy
        exact .inr (.inr ⟨_, _, d, rfl, rfl, z1, e, Res.ok k h _ (.str _)⟩)
      · exact h.elim
    · exact h.elim
  · exact h.elim
/-- one's own list, read by its place -/
def gIxL (xs : List PyData) : Vl → Int → R Vl
  | .d (.int i), c => match atI xs i with
    | some d => .ok (.d d) c
    | none => .no
  | _, _ => .no
def dIxO (i : Nat) (db : Den) : Den := fun δ c => match δ[i]? with
  | some (.ow xs) => (db δ c).bind (gIxL xs)
  | _ => .no
theorem snd_ixO {i : Nat} {tb : TE} {db : Den} (hb : SndE Z W tb db) : SndE Z W (tOp (rIx Z.K) (tVar i) tb) (dIxO i db) := by
  intro H0 I H σ δ c a Q h
  unfold dIxO at h
  split at h
  · rename_i xs e
    obtain ⟨as, s⟩ := a.sl
    obtain ⟨l, vs, h1, m, h2, h3⟩ := s.own e
    obtain ⟨_, _, n1, _, n2⟩ := s.at m
    refine ⟨.ref l, h1, ?_⟩
    refine hb _ _ _ _ _ _ a _ (Res.imp (Res.bind h) fun y c2 I2 H2 g2 k2 hh w hw => ?_)
    unfold gIxL at hh
    split at hh
    · split at hh
      · rename_i d e4
        cases hw
        obtain ⟨v, h5, h6⟩ := atI_of (dps_grows g2.ii _ _ h3) e4
        exact .inl ⟨_, _, _, v, rfl, rfl, .inl (.inl (g2.hh _ _ n2 h2)), h5, Res.ok k2 hh v h6⟩
      · exact hh.elim
    · exact hh.elim
  · exact h.elim

/-! tests -/
def dTe (de : Den) : DenT := fun δ c => (de δ c).bind fun x c => match x with
  | .d (.bool b) => .ok b c
  | _ => .no
theorem snd_test {te : TE} {de : Den} (h : SndE Z W te de) : SndT Z W (tTest te) (dTe de) := by
  intro H0 I H σ δ c a Q r
  refine h _ _ _ _ _ _ a _ (Res.imp (Res.bind r) fun x c1 I1 H1 g1 k1 h1 v hv => ?_)
  split at h1
  · cases hv
    exact ⟨_, rfl, Res.ok k1 h1⟩
  · exact h1.elim
theorem snd_tB {te : TE} {de : Den} (h : SndE Z W te de) : SndT Z W (tB te) (dTe de) := snd_test h
/-- truth -/
def gTru : Vl → Int → R Bool
  | .d .none, c => .ok false c
  | .d (.bool b), c => .ok b c
  | .d (.int i), c => .ok (i != 0) c
  | .d (.list xs), c => .ok (!xs.isEmpty) c
  | .d (.tuple xs), c => .ok (!xs.isEmpty) c
  | _, _ => .no
theorem emp_of {K : PySem.W.Frag} {I : Hp} {vs : List V} {xs : List PyData} (h : DpAll K I vs xs) : (!vs.isEmpty) = !xs.isEmpty := by cases h <;> rfl
theorem tru_of {I H : Hp} {c : Int} (k : Ok Z I H c) {x : Vl} {v : V} (hv : VOk Z I v x) {P : Bool → Int → Hp → Hp → Prop} (h : Res Z W I H (gTru x c) P) : ∃ b, TruV Z.K v H b ∧ Res Z W I H (.ok b c) P := by
  unfold gTru at h
  split at h
  · cases hv; exact ⟨_, rfl, h⟩
  · cases hv; exact ⟨_, rfl, h⟩
  · cases hv; exact ⟨_, rfl, h⟩
  · cases hv with
    | lst s t => exact ⟨_, .inl ⟨_, sqL_grows k.ex s, (emp_of t).symm⟩, h⟩
  · cases hv with
    | tup s t => exact ⟨_, .inr (.inl ⟨_, sqT_grows k.ex s, (emp_of t).symm⟩), h⟩
  · exact h.elim
def dTru (de : Den) : DenT := fun δ c => (de δ c).bind gTru
theorem snd_tru {te : TE} {de : Den} (h : SndE Z W te de) : SndT Z W (fun σ H Q => te σ H fun x H' => ∃ k, TruV Z.K x H' k ∧ Q k H') (dTru de) := by
  intro H0 I H σ δ c a Q r
  refine h _ _ _ _ _ _ a _ (Res.imp (Res.bind r) fun x c1 I1 H1 g1 k1 h1 v hv => ?_)
  obtain ⟨b, h2, h3⟩ := tru_of k1 hv h1
  exact ⟨b, h2, Res.ok k1 h3⟩
def dTruO (i : Nat) : DenT := fun δ c => match δ[i]? with
  | some (.ow xs) => .ok (!xs.isEmpty) c
  | _ => .no
theorem snd_truO {i : Nat} : SndT Z W (fun σ H Q => tVar i σ H fun x H' => ∃ k, TruV Z.K x H' k ∧ Q k H') (dTruO i) := by
  intro H0 I H σ δ c a Q h
  unfold dTruO at h
  split at h
  · rename_i xs e
    obtain ⟨as, s⟩ := a.sl
    obtain ⟨l, vs, h1, m, h2, h3⟩ := s.own e
    exact ⟨.ref l, h1, _, .inl ⟨_, .inl (.inl h2), (emp_of h3).symm⟩, Res.ok a.k h⟩
  · exact h.elim
def dAnd (da db : DenT) : DenT := fun δ c => (da δ c).bind fun b c => if b = true then db δ c else .ok false c
def dOr (da db : DenT) : DenT := fun δ c => (da δ c).bind fun b c => if b = true then .ok true c else db δ c
def dNot (da : DenT) : DenT := fun δ c => (da δ c).bind fun b c => .ok (!b) c
theorem snd_and {ta tb : TT} {da db : DenT} (ha : SndT Z W ta da) (hb : SndT Z W tb db) : SndT Z W (tAnd ta tb) (dAnd da db) := by
  intro H0 I H σ δ c a Q r
  refine ha _ _ _ _ _ _ a _ (Res.imp (Res.bind r) fun b c1 I1 H1 g1 k1 h1 => ?_)
  cases b with
  | true => exact iteT (hb _ _ _ _ _ _ (a.go g1 k1) _ h1)
  | false => exact iteF (Res.ok k1 h1)
theorem snd_or {ta tb : TT} {da db : DenT} (ha : SndT Z W ta da) (hb : SndT Z W tb db) : SndT Z W (tOr ta tb) (dOr da db) := by
  intro H0 I H σ δ c a Q r
  refine ha _ _ _ _ _ _ a _ (Res.imp (Res.bind r) fun b c1 I1 H1 g1 k1 h1 => ?_)
  cases b with
  | true => exact iteT (Res.ok k1 h1)
  | false => exact iteF (hb _ _ _ _ _ _ (a.go g1 k1) _ h1)
theorem snd_not {ta : TT} {da : DenT} (ha : SndT Z W ta da) : SndT Z W (tNot ta) (dNot da) := by
  intro H0 I H σ δ c a Q r
  refine ha _ _ _ _ _ _ a _ (Res.imp (Res.bind r) fun b c1 I1 H1 g1 k1 h1 => ?_)
  exact Res.ok k1 h1
/-- a test as a value -/
def dBV (d : DenT) : Den := fun δ c => (d δ c).bind fun b c => .ok (.d (.bool b)) c
theorem snd_andV {ta tb : TE} {da db : Den} (ha : SndE Z W ta da) (hb : SndE Z W tb db) : SndE Z W (tAndV ta tb) (fun δ c => (dTe da δ c).bind fun b c => if b = true then db δ c else .ok (.d (.bool false)) c) := by
  intro H0 I H σ δ c a Q r
  refine snd_test ha _ _ _ _ _ _ a (fun b H1 => if b = true then tb σ H1 Q else Q (.bl false) H1) (Res.imp (Res.bind r) fun b c1 I1 H1 g1 k1 h1 => ?_)
  cases b with
  | true => exact iteT (hb _ _ _ _ _ _ (a.go g1 k1) _ h1)
  | false => exact iteF (Res.ok k1 h1 _ (.bl _))
theorem snd_orV {ta tb : TE} {da db : Den} (ha : SndE Z W ta da) (hb : SndE Z W tb db) : SndE Z W (tOrV ta tb) (fun δ c => (dTe da δ c).bind fun b c => if b = true then .ok (.d (.bool true)) c else db δ c) := by
  intro H0 I H σ δ c a Q r
  refine snd_test ha _ _ _ _ _ _ a (fun b H1 => if b = true then Q (.bl true) H1 else tb σ H1 Q) (Res.imp (Res.bind r) fun b c1 I1 H1 g1 k1 h1 => ?_)
  cases b with
  | true => exact iteT (Res.ok k1 h1 _ (.bl _))
  | false => exact iteF (hb _ _ _ _ _ _ (a.go g1 k1) _ h1)
theorem snd_notV {ta : TE} {da : Den} (ha : SndE Z W ta da) : SndE Z W (tNotV ta) (fun δ c => (dTe da δ c).bind fun b c => .ok (.d (.bool (!b))) c) := by
  intro H0 I H σ δ c a Q r
  refine snd_test ha _ _ _ _ _ _ a (fun b H1 => Q (.bl (!b)) H1) (Res.imp (Res.bind r) fun b c1 I1 H1 g1 k1 h1 => ?_)
  exact Res.ok k1 h1 _ (.bl _)
def dIf (dt : DenT) (da db : Den) : Den := fun δ c => (dt δ c).bind fun b c => if b = true then da δ c else db δ c
theorem snd_if {tt : TT} {ta tb : TE} {dt : DenT} {da db : Den} (ht : SndT Z W tt dt) (ha : SndE Z W ta da) (hb : SndE Z W tb db) : SndE Z W (tIf tt ta tb) (dIf dt da db) := by
  intro H0 I H σ δ c a Q r
  refine ht _ _ _ _ _ _ a _ (Res.imp (Res.bind r) fun b c1 I1 H1 g1 k1 h1 => ?_)
  cases b with
  | true => exact iteT (ha _ _ _ _ _ _ (a.go g1 k1) _ h1)
  | false => exact iteF (hb _ _ _ _ _ _ (a.go g1 k1) _ h1)
def dChain (g g' : Vl → Vl → Int → R Vl) (da db dc : Den) : Den := fun δ c => (da δ c).bind fun x c => (db δ c).bind fun y c => (g x y c).bind fun z c => match z with
  | .d (.bool b) => if b = true then (dc δ c).bind fun u c => g' y u c else .ok (.d (.bool false)) c
  | _ => .no
theorem snd_chain {r r' : R2} {g g' : Vl → Vl → Int → R Vl} {ta tb tc : TE} {da db dc : Den} (hr : SndR Z W r g) (hr' : SndR Z W r' g') (ha : SndE Z W ta da) (hb : SndE Z W tb db) (hc : SndE Z W tc dc) : SndE Z W (tChain r r' ta tb tc) (dChain g g' da db dc) := by
  intro H0 I H σ δ c a Q h
  refine ha _ _ _ _ _ _ a _ (Res.imp (Res.bind h) fun x c1 I1 H1 g1 k1 h1 v hv => ?_)
  refine hb _ _ _ _ _ _ (a.go g1 k1) _ (Res.imp (Res.bind h1) fun y c2 I2 H2 g2 k2 h2 w hw => ?_)
  refine hr I2 H2 x y v w c2 k2 (vok_grows g2.ii hv) hw _ (Res.imp (Res.bind h2) fun z c3 I3 H3 g3 k3 h3 u hu => ?_)
  split at h3
  · cases hu
    refine ⟨_, rfl, ?_⟩
    rename_i b
    cases b with
    | true =>
      refine iteT (hc _ _ _ _ _ _ (((a.go g1 k1).go g2 k2).go g3 k3) _ (Res.imp (Res.bind h3) fun t c4 I4 H4 g4 k4 h4 m hm => ?_))
      exact hr' I4 H4 y t w m c4 k4 (vok_grows (fun a o e => g4.ii a o (g3.ii a o e)) hw) hm Q h4
    | false => exact iteF (Res.ok k3 h3 _ (.bl _))
  · exact h3.elim

/-! arguments, displays -/
def dNil : DenA := fun _ c => .ok [] c
def dCons (da : Den) (dr : DenA) : DenA := fun δ c => (da δ c).bind fun x c => (dr δ c).bind fun xs c => .ok (x :: xs) c
theorem snd_nil : SndA Z W tNil dNil := fun _ _ _ _ _ _ a _ r => Res.ok a.k r _ .nil
theorem snd_cons {ta : TE} {tr : TA} {da : Den} {dr : DenA} (ha : SndE Z W ta da) (hr : SndA Z W tr dr) : SndA Z W (tCons ta tr) (dCons da dr) := by
  intro H0 I H σ δ c a Q h
  refine ha _ _ _ _ _ _ a _ (Res.imp (Res.bind h) fun x c1 I1 H1 g1 k1 h1 v hv => ?_)
  refine hr _ _ _ _ _ _ (a.go g1 k1) _ (Res.imp (Res.bind h1) fun y c2 I2 H2 g2 k2 h2 w hw => ?_)
  exact Res.ok k2 h2 _ (.cons (vok_grows g2.ii hv) hw)
/-- all data -/
def datas : List Vl → Option (List PyData)
  | [] => some []
  | .d x :: xs => match datas xs with
    | some ys => some (x :: ys)
    | none => none
  | _ :: _ => none
theorem datas_of {I : Hp} : ∀ {xs : List Vl} {vs : List V} {ys : List PyData}, VOks Z I vs xs → datas xs = some ys → DpAll Z.K I vs ys
  | [], _, _, h, e => by cases h; cases e; exact .nil
  | .d x :: xs, _, _, h, e => by
    cases h with
    | cons a b =>
      unfold datas at e
      split at e
      · rename_i ys e1
        cases e
        exact .cons a (datas_of b e1)
      · cases e
  | .st :: _, _, _, _, e => by cases e
  | .op _ :: _, _, _, _, e => by cases e
def dTup (da : DenA) : Den := fun δ c => (da δ c).bind fun xs c => match datas xs with
  | some ys => if ys.length ≤ 16777216 then .ok (.d (.tuple ys)) c else .no
  | none => .no
theorem snd_tup {ta : TA} {da : DenA} (ha : SndA Z W ta da) : SndE Z W (tTup ta) (dTup da) := by
  intro H0 I H σ δ c a Q h
  refine ha _ _ _ _ _ _ a _ (Res.imp (Res.bind h) fun x c1 I1 H1 g1 k1 h1 vs hv => ?_)
  split at h1
  · rename_i ys e
    split at h1
    · rename_i hl
      have hd := datas_of hv e
      refine ⟨by rw [dps_len hd, sizeLine_eq]; exact hl, fun p hp => ?_⟩
      obtain ⟨g2, k2⟩ := Gr.new (o := .tup vs) k1 hp
      exact h1 _ _ g2 k2 _ (.tup (.inl (.inl upd_same)) (dps_grows g2.ii _ _ hd))
    · exact h1.elim
  · exact h1.elim
def dLst (da : DenA) : DenL := fun δ c => (da δ c).bind fun xs c => match datas xs with
  | some ys => if ys.length ≤ 16777216 then .ok ys c else .no
  | none => .no
theorem freshB {I H I1 H1 : Hp} (g : Gr Z I H I1 H1) {p : Addr} (h : H1 p = none) : H p = none := by
  cases e : H p with
  | none => rfl
  | some u => exact absurd h (g.th p (by rw [e]; exact Option.some_ne_none u))
/-- a fresh list, from a later state -/
theorem resL_base {I H I1 H1 : Hp} {r : R (List PyData)} {Q : VK} (g : Gr Z I H I1 H1) (h : Res Z W I H r fun xs _ I' H' => ∀ l vs, H l = none → I' l = none → H' l = some (.lst vs) → Z.sa ≠ some l → DpAll Z.K I' vs xs → Q (.ref l) H') :
    Res Z W I1 H1 r fun xs _ I' H' => ∀ l vs, H1 l = none → I' l = none → H' l = some (.lst vs) → Z.sa ≠ some l → DpAll Z.K I' vs xs → Q (.ref l) H' :=
  Res.imp (Res.base g h) fun xs c I' H' _ _ q l vs f0 => q l vs (freshB g f0)
theorem snd_lst {ta : TA} {da : DenA} (ha : SndA Z W ta da) : SndL Z W (tLst ta) (dLst da) := by
  intro H0 I H σ δ c a Q h
  refine ha _ _ _ _ _ _ a _ (Res.imp (Res.bind h) fun x c1 I1 H1 g1 k1 h1 vs hv => ?_)
  split at h1
  · rename_i ys e
    split at h1
    · rename_i hl
      have hd := datas_of hv e
      refine ⟨by rw [dps_len hd, sizeLine_eq]; exact hl, fun p hp => ?_⟩
      obtain ⟨g2, k2⟩ := Gr.own (o := .lst vs) k1 hp
      exact h1 _ _ g2 k2 p vs (freshB g1 hp) (freshI k1 hp) upd_same (freshS k1 hp) hd
    · exact h1.elim
  · exact h1.elim
/-- a new list known at the state ahead -/
theorem newL {I H : Hp} {c : Int} (k : Ok Z I H c) {vs : List V} {xs : List PyData} (hd : DpAll Z.K I vs xs) {Q : VK}
    (h : Res Z W I H (.ok xs c) fun xs _ I' H' => ∀ l vs, H l = none → I' l = none → H' l = some (.lst vs) → Z.sa ≠ some l → DpAll Z.K I' vs xs → Q (.ref l) H') : ∀ p, H p = none → Q (.ref p) (upd H p (.lst vs)) := fun p hp => by
  obtain ⟨g2, k2⟩ := Gr.own (o := .lst vs) k hp
  exact h _ _ g2 k2 p vs hp (freshI k hp) upd_same (freshS k hp) hd
theorem newT {I H : Hp} {c : Int} (k : Ok Z I H c) {vs : List V} {xs : List PyData} (hd : DpAll Z.K I vs xs) {Q : VK}
    (h : Res Z W I H (.ok (.d (.tuple xs)) c) fun z _ I' H' => ∀ v, VOk Z I' v z → Q v H') : ∀ p, H p = none → Q (.ref p) (upd H p (.tup vs)) := fun p hp => by
  obtain ⟨g2, k2⟩ := Gr.new (o := .tup vs) k hp
  exact h _ _ g2 k2 _ (.tup (.inl (.inl upd_same)) (dps_grows g2.ii _ _ hd))
end
end Dn
namespace Dn
open PySem PySem.Spec PyProof.Rows L2

def R.calm {α : Type} (r : R α) : R α := match r with
  | .ex _ _ _ => .no
  | r => r
@[simp] theorem R.calm_ok {α : Type} {a : α} {c : Int} : (R.ok a c).calm = .ok a c := rfl
@[simp] theorem R.calm_no {α : Type} : (R.no : R α).calm = .no := rfl
theorem Res.calm {Z : Zz} {W W' : XK} {I H : Hp} {α : Type} {r : R α} {P : α → Int → Hp → Hp → Prop} (h : Res Z W I H r.calm P) : Res Z W' I H r P := by
  cases r with
  | no => exact h
  | ok a c => exact h
  | ex k p c => exact h.elim

section
variable {Z : Zz} {W : XK}
/-! calls -/
def SndC (Z : Zz) (W : XK) (r : List V → Hp → VK → Prop) (g : List Vl → Int → R Vl) : Prop := ∀ I H xs vs c, Ok Z I H c → VOks Z I vs xs → ∀ Q : VK, Res Z W I H (g xs c) (fun z _ I' H' => ∀ v, VOk Z I' v z → Q v H') → r vs H Q
def SndCL (Z : Zz) (W : XK) (r : List V → Hp → VK → Prop) (g : List Vl → Int → R (List PyData)) : Prop := ∀ I H xs vs c, Ok Z I H c → VOks Z I vs xs → ∀ Q : VK,
  Res Z W I H (g xs c) (fun xs _ I' H' => ∀ l vs, H l = none → I' l = none → H' l = some (.lst vs) → Z.sa ≠ some l → DpAll Z.K I' vs xs → Q (.ref l) H') → r vs H Q
def dCB (g : List Vl → Int → R Vl) (da : DenA) : Den := fun δ c => (da δ c).bind g
def dCBL (g : List Vl → Int → R (List PyData)) (da : DenA) : DenL := fun δ c => (da δ c).bind g
theorem snd_callB {r : List V → Hp → VK → Prop} {g : List Vl → Int → R Vl} {ta : TA} {da : DenA} (hr : SndC Z W r g) (ha : SndA Z W ta da) : SndE Z W (tCB r ta) (dCB g da) := by
  intro H0 I H σ δ c a Q h
  refine ha _ _ _ _ _ _ a _ (Res.imp (Res.bind h) fun xs c1 I1 H1 g1 k1 h1 vs hv => ?_)
  exact hr I1 H1 xs vs c1 k1 hv Q h1
theorem snd_callBL {r : List V → Hp → VK → Prop} {g : List Vl → Int → R (List PyData)} {ta : TA} {da : DenA} (hr : SndCL Z W r g) (ha : SndA Z W ta da) : SndL Z W (tCB r ta) (dCBL g da) := by
  intro H0 I H σ δ c a Q h
  refine ha _ _ _ _ _ _ a _ (Res.imp (Res.bind h) fun xs c1 I1 H1 g1 k1 h1 vs hv => ?_)
  exact hr I1 H1 xs vs c1 k1 hv Q (Res.imp h1 fun ys c2 I2 H2 g2 k2 q l ws f0 => q l ws (freshB g1 f0))
def gAbs : List Vl → Int → R Vl
  | [.d (.int i)], c => .ok (.d (.int (if i < 0 then -i else i))) c
  | _, _ => .no
theorem rc_abs : SndC Z W (fun xs H Q => ∃ i, xs = [.int i] ∧ Q (.int (if i < 0 then -i else i)) H) gAbs := by
  intro I H xs vs c k hv Q h
  unfold gAbs at h
  split at h
  · cases hv with
    | cons a b => cases b; cases a; exact ⟨_, rfl, Res.ok k h _ (.int _)⟩
  · exact h.elim
def gMax2 : List Vl → Int → R Vl
  | [.d (.int i), .d (.int j)], c => .ok (.d (.int (if j > i then j else i))) c
  | _, _ => .no
theorem rc_max2 : SndC Z W (fun xs H Q => ∃ i j, xs = [.int i, .int j] ∧ Q (.int (if j > i then j else i)) H) gMax2 := by
  intro I H xs vs c k hv Q h
  unfold gMax2 at h
  split at h
  · cases hv with
    | cons a b => cases b with
      | cons a2 b2 => cases b2; cases a; cases a2; exact ⟨_, _, rfl, Res.ok k h _ (.int _)⟩
  · exact h.elim
def gMin2 : List Vl → Int → R Vl
  | [.d (.int i), .d (.int j)], c => .ok (.d (.int (if j < i then j else i))) c
  | _, _ => .no
theorem rc_min2 : SndC Z W (fun xs H Q => ∃ i j, xs = [.int i, .int j] ∧ Q (.int (if j < i then j else i)) H) gMin2 := by
  intro I H xs vs c k hv Q h
  unfold gMin2 at h
  split at h
  · cases hv with
    | cons a b => cases b with
      | cons a2 b2 => cases b2; cases a; cases a2; exact ⟨_, _, rfl, Res.ok k h _ (.int _)⟩
  · exact h.elim
def gInt1 : List Vl → Int → R Vl
  | [.d (.int i)], c => .ok (.d (.int i)) c
  | [.d (.bool b)], c => .ok (.d (.int (if b then 1 else 0))) c
  | _, _ => .no
theorem rc_int1 : SndC Z W (fun xs H Q => (∃ i, xs = [.int i] ∧ Q (.int i) H) ∨ ∃ k, xs = [.bl k] ∧ Q (.int (if k then 1 else 0)) H) gInt1 := by
  intro I H xs vs c k hv Q h
  unfold gInt1 at h
  split at h
  · cases hv with
    | cons a b => cases b; cases a; exact .inl ⟨_, rfl, Res.ok k h _ (.int _)⟩
  · cases hv with
    | cons a b => cases b; cases a; exact .inr ⟨_, rfl, Res.ok k h _ (.int _)⟩
  · exact h.elim
def gLen : List Vl → Int → R Vl
  | [.d (.list xs)], c => .ok (.d (.int xs.length)) c
  | [.d (.tuple xs)], c => .ok (.d (.int xs.length)) c
  | [.d (.str z)], c => if z.length ≤ 16777216 then .ok (.d (.int z.length)) c else .no
  | _, _ => .no
def rLenA (K : PySem.W.Frag) : List V → Hp → VK → Prop := fun xs H Q => ∃ x n, xs = [x] ∧ LenV K x H n ∧ Q (.int n) H
theorem rc_len : SndC Z W (rLenA Z.K) gLen := by
  intro I H xs vs c k hv Q h
  unfold gLen at h
  split at h
  · cases hv with
    | cons a b => cases b; cases a with
      | lst s t => exact ⟨_, _, rfl, .inl ⟨_, sqL_grows k.ex s, rfl⟩, by rw [dps_len t]; exact Res.ok k h _ (.int _)⟩
  · cases hv with
    | cons a b => cases b; cases a with
      | tup s t => exact ⟨_, _, rfl, .inr ⟨_, sqT_grows k.ex s, rfl⟩, by rw [dps_len t]; exact Res.ok k h _ (.int _)⟩
  · split at h
    · rename_i z
      cases hv with
      | cons a b => cases b; cases a; exact ⟨_, _, rfl, ⟨by rw [sizeLine_eq]; exact z, rfl⟩, Res.ok k h _ (.int _)⟩
    · exact h.elim
  · exact h.elim
/-- len of one's own list -/
def dLenO (i : Nat) : Den := fun δ c => match δ[i]? with
  | some (.ow xs) => .ok (.d (.int xs.length)) c
  | _ => .no
theorem snd_lenO {i : Nat} : SndE Z W (tCB (rLenA Z.K) (tCons (tVar i) tNil)) (dLenO i) := by
  intro H0 I H σ δ c a Q h
  unfold dLenO at h
  split at h
  · rename_i xs e
    obtain ⟨as, s⟩ := a.sl
    obtain ⟨l, vs, h1, m, h2, h3⟩ := s.own e
    exact ⟨.ref l, h1, .ref l, vs.length, rfl, .inl ⟨vs, .inl (.inl h2), rfl⟩, by rw [dps_len h3]; exact Res.ok a.k h _ (.int _)⟩
  · exact h.elim
def gTuple : List Vl → Int → R Vl
  | [.d (.list xs)], c => .ok (.d (.tuple xs)) c
  | [.d (.tuple xs)], c => .ok (.d (.tuple xs)) c
  | _, _ => .no
theorem rc_tuple : SndC Z W (fun xs H Q => ∃ p ys, xs = [.ref p] ∧ ((SqL Z.K H p ys ∧ ∀ l, H l = none → Q (.ref l) (upd H l (.tup ys))) ∨ (SqT Z.K H p ys ∧ Q (.ref p) H))) gTuple := by
  intro I H xs vs c k hv Q h
  unfold gTuple at h
  split at h
  · cases hv with
    | cons a b => cases b; cases a with
      | lst s t => exact ⟨_, _, rfl, .inl ⟨sqL_grows k.ex s, newT k t h⟩⟩
  · cases hv with
    | cons a b => cases b; cases a with
      | tup s t => exact ⟨_, _, rfl, .inr ⟨sqT_grows k.ex s, Res.ok k h _ (.tup s t)⟩⟩
  · exact h.elim
def gList : List Vl → Int → R (List PyData)
  | [.d (.list xs)], c => .ok xs c
  | [.d (.tuple xs)], c => .ok xs c
  | _, _ => .no
theorem rc_list : SndCL Z W (fun xs H Q => ∃ p ys, xs = [.ref p] ∧ (SqL Z.K H p ys ∨ SqT Z.K H p ys) ∧ ∀ l, H l = none → Q (.ref l) (upd H l (.lst ys))) gList := by
  intro I H xs vs c k hv Q h
  unfold gList at h
  split at h
  · cases hv with
    | cons a b => cases b; cases a with
      | lst s t => exact ⟨_, _, rfl, .inl (sqL_grows k.ex s), newL k t h⟩
  · cases hv with
    | cons a b => cases b; cases a with
      | tup s t => exact ⟨_, _, rfl, .inr (sqT_grows k.ex s), newL k t h⟩
  · exact h.elim
/-- slices -/
def dNoO : DenO := fun _ c => .ok none c
def dSoO (da : Den) : DenO := fun δ c => (da δ c).bind fun x c => match x with
  | .d (.int i) => .ok (some i) c
  | _ => .no
theorem snd_noO : SndO Z W tNoPart dNoO := fun _ _ _ _ _ _ a _ r => Res.ok a.k r
theorem snd_soO {ta : TE} {da : Den} (ha : SndE Z W ta da) : SndO Z W (tPart ta) (dSoO da) := by
  intro H0 I H σ δ c a Q h
  refine ha _ _ _ _ _ _ a _ (Res.imp (Res.bind h) fun x c1 I1 H1 g1 k1 h1 v hv => ?_)
  split at h1
  · cases hv
    exact ⟨_, rfl, Res.ok k1 h1⟩
  · exact h1.elim
def cutD (xs : List PyData) (lo hi : Option Int) : List PyData := (xs.drop (HT.sIx xs.length 0 lo)).take (HT.sIx xs.length xs.length hi - HT.sIx xs.length 0 lo)
theorem dps_cut {K : PySem.W.Frag} {I : Hp} {vs : List V} {xs : List PyData} (h : DpAll K I vs xs) (lo hi : Option Int) : DpAll K I (cutV vs lo hi) (cutD xs lo hi) := by
  unfold cutV cutD
  rw [dps_len h]
  exact dps_take _ (dps_drop _ h)
def dSlL (da : Den) (dl dh : DenO) : DenL := fun δ c => (da δ c).bind fun x c => (dl δ c).bind fun lo c => (dh δ c).bind fun hi c => match x with
  | .d (.list xs) => .ok (cutD xs lo hi) c
  | _ => .no
theorem snd_slL {ta : TE} {tl th : TO} {da : Den} {dl dh : DenO} (ha : SndE Z W ta da) (hl : SndO Z W tl dl) (hh : SndO Z W th dh) : SndL Z W (tSl (rSlL Z.K) ta tl th) (dSlL da dl dh) := by
  intro H0 I H σ δ c a Q h
  refine ha _ _ _ _ _ _ a _ (Res.imp (Res.bind h) fun x c1 I1 H1 g1 k1 h1 v hv => ?_)
  refine hl _ _ _ _ _ _ (a.go g1 k1) _ (Res.imp (Res.bind h1) fun lo c2 I2 H2 g2 k2 h2 => ?_)
  refine hh _ _ _ _ _ _ ((a.go g1 k1).go g2 k2) _ (Res.imp (Res.bind h2) fun hi c3 I3 H3 g3 k3 h3 => ?_)
  split at h3
  · cases hv with
    | lst s t =>
      have gi : Grows I1 I3 := fun a o e => g3.ii a o (g2.ii a o e)
      refine ⟨_, _, rfl, sqL_grows (fun a o e => k3.ex a o (gi a o e)) s, newL k3 (dps_cut (dps_grows gi _ _ t) lo hi) (Res.imp h3 fun ys c4 I4 H4 g4 k4 q l ws f0 => q l ws (freshB (g1.trans (g2.trans g3)) f0))⟩
  · exact h3.elim
def dSlT (da : Den) (dl dh : DenO) : Den := fun δ c => (da δ c).bind fun x c => (dl δ c).bind fun lo c => (dh δ c).bind fun hi c => match x with
  | .d (.tuple xs) => .ok (.d (.tuple (cutD xs lo hi))) c
  | _ => .no
end
end Dn
namespace Dn
open PySem PySem.Spec PyProof.Rows L2
section
variable {Z : Zz} {W : XK}
/-! statements -/
def FinO (Z : Zz) (H0 : Hp) (D : Ends) (o : Out) (_ : Int) (I' H' : Hp) : Prop := match o with
  | .nx δ => ∀ σ, (∃ as, Sls Z H0 I' H' σ δ as) → D.nx σ H'
  | .bk δ => ∀ σ, (∃ as, Sls Z H0 I' H' σ δ as) → D.bk σ H'
  | .ct δ => ∀ σ, (∃ as, Sls Z H0 I' H' σ δ as) → D.ct σ H'
  | .rt x => ∀ v, VOk Z I' v x → D.rt v H'
def SndS (Z : Zz) (W : XK) (ts : TS) (ds : DenS) : Prop := ∀ I0 H0 I H σ δ c, Gr Z I0 H0 I H → At Z H0 I H σ δ c → ∀ D : Ends, Res Z W I0 H0 (ds δ c) (FinO Z H0 D) → ts D σ H
theorem Res.bindS {I0 H0 I H : Hp} {α β : Type} {r : R α} {f : α → Int → R β} {P : β → Int → Hp → Hp → Prop} (g : Gr Z I0 H0 I H) (h : Res Z W I0 H0 (r.bind f) P) :
    Res Z W I H r fun a c I' H' => Gr Z I0 H0 I' H' ∧ Res Z W I0 H0 (f a c) P := by
  cases r with
  | no => exact h
  | ok a c => exact fun I' H' g' _ => ⟨g.trans g', h⟩
  | ex k p c => exact fun I' H' cls d g' k e x => h I' H' cls d (g.trans g') k e x
theorem Res.okS {I0 H0 I H : Hp} {α : Type} {a : α} {c : Int} {P : α → Int → Hp → Hp → Prop} (g : Gr Z I0 H0 I H) (k : Ok Z I H c) (h : Res Z W I0 H0 (.ok a c) P) : P a c I H := h I H g k
def dNext : DenS := fun δ c => .ok (.nx δ) c
theorem sns_next : SndS Z W tNext dNext := fun _ _ _ _ _ _ _ g a _ h => Res.okS g a.k h _ a.sl
def dBreak : DenS := fun δ c => .ok (.bk δ) c
theorem sns_break : SndS Z W tBreak dBreak := fun _ _ _ _ _ _ _ g a _ h => Res.okS g a.k h _ a.sl
def dCont : DenS := fun δ c => .ok (.ct δ) c
theorem sns_cont : SndS Z W tCont dCont := fun _ _ _ _ _ _ _ g a _ h => Res.okS g a.k h _ a.sl
def seqO (f : DenS) : Out → Int → R Out
  | .nx δ, c => f δ c
  | o, c => .ok o c
def dSeq (d e : DenS) : DenS := fun δ c => (d δ c).bind (seqO e)
theorem sns_seq {t u : TS} {d e : DenS} (h1 : SndS Z W t d) (h2 : SndS Z W u e) : SndS Z W (tSeq t u) (dSeq d e) := by
  intro I0 H0 I H σ δ c g a D h
  refine h1 _ _ _ _ _ _ _ g a { D with nx := u D } ?_
  unfold dSeq at h
  cases q : d δ c with
  | no => rw [q] at h; exact h
  | ex k p c => rw [q] at h; exact h
  | ok o c1 =>
    rw [q] at h
    intro I1 H1 g1 k1
    cases o with
    | nx δ1 => exact fun σ1 s => h2 _ _ _ _ _ _ _ g1 ⟨s, k1⟩ D h
    | rt x => exact h I1 H1 g1 k1
    | bk δ1 => exact h I1 H1 g1 k1
    | ct δ1 => exact h I1 H1 g1 k1
def dSet (i : Nat) (de : Den) : DenS := fun δ c => (de δ c).bind fun x c => .ok (.nx (δ.set i (.im x))) c
theorem sns_set {i : Nat} {te : TE} {de : Den} (he : SndE Z W te de) : SndS Z W (tAsg te (gName i)) (dSet i de) := by
  intro I0 H0 I H σ δ c g a D h
  refine he _ _ _ _ _ _ a _ (Res.imp (Res.bindS g h) fun x c1 I1 H1 g1 k1 q v hv => ?_)
  obtain ⟨as, s⟩ := (a.go g1 k1).sl
  obtain ⟨bs, s2, _⟩ := s.put hv i
  exact Res.okS q.1 k1 q.2 _ ⟨bs, s2⟩
def dNew (i : Nat) (de : DenL) : DenS := fun δ c => (de δ c).bind fun xs c => .ok (.nx (δ.set i (.ow xs))) c
theorem sns_new {i : Nat} {te : TE} {de : DenL} (he : SndL Z W te de) : SndS Z W (tAsg te (gName i)) (dNew i de) := by
  intro I0 H0 I H σ δ c g a D h
  refine he _ _ _ _ _ _ a _ (Res.imp (Res.bindS g h) fun xs c1 I1 H1 g1 k1 q l vs f0 f1 f2 f3 f4 => ?_)
  obtain ⟨as, s0⟩ := a.sl
  have n : l ∉ as := fun m => by
    obtain ⟨ws, e, _⟩ := s0.at m
    rw [f0] at e
    cases e
  obtain ⟨bs, s2, _⟩ := (s0.mono g1).putOwn f2 f1 (freshB g f0) f3 f4 i n
  exact Res.okS q.1 k1 q.2 _ ⟨bs, s2⟩
def dDrop (de : Den) : DenS := fun δ c => (de δ c).bind fun _ c => .ok (.nx δ) c
theorem sns_drop {te : TE} {de : Den} (he : SndE Z W te de) : SndS Z W (tDrop te) (dDrop de) := by
  intro I0 H0 I H σ δ c g a D h
  refine he _ _ _ _ _ _ a _ (Res.imp (Res.bindS g h) fun x c1 I1 H1 g1 k1 q v hv => ?_)
  exact Res.okS q.1 k1 q.2 _ (a.go g1 k1).sl
/-- a state behind the change of one's own list -/
theorem own_step {I0 H0 I H : Hp} {c : Int} {l : Addr} {o : HO} (g : Gr Z I0 H0 I H) (k : Ok Z I H c) (h0 : H0 l = none) (hi : I l = none) (hs : Z.sa ≠ some l) : Gr Z I0 H0 I (upd H l o) ∧ Ok Z I (upd H l o) c := by
  refine ⟨⟨g.ii, fun a u n e => ?_, fun a e => ?_, g.fr⟩, ⟨fun a u e => ?_, fun a e => ?_⟩⟩
  · rw [upd_ne (fun z => by rw [z, h0] at e; cases e)]; exact g.hh a u n e
  · by_cases z : a = l
    · subst z; rw [upd_same]; exact Option.some_ne_none _
    · rw [upd_ne z]; exact g.th a e
  · rw [upd_ne (fun z => by rw [z, hi] at e; cases e)]; exact k.ex a u e
  · obtain ⟨n, p, e1, e2⟩ := k.st a e
    exact ⟨n, p, by rw [upd_ne (fun z => hs (by rw [← z]; exact e))]; exact e1, e2⟩
/-- x.append(e) on one's own list -/
def dApp (i : Nat) (de : Den) : DenS := fun δ c => match δ[i]? with
  | some (.ow xs) => (de δ c).bind fun y c => match y with
    | .d y => if xs.length < 16777216 then .ok (.nx (δ.set i (.ow (xs ++ [y])))) c else .no
    | _ => .no
  | _ => .no
theorem sns_app {i : Nat} {te : TE} {de : Den} (he : SndE Z W te de) : SndS Z W (tDrop (tBM Z.K "list" rAppend (tVar i) (tCons te tNil))) (dApp i de) := by
  intro I0 H0 I H σ δ c g a D h
  unfold dApp at h
  split at h
  · rename_i xs e
    obtain ⟨as, s⟩ := a.sl
    obtain ⟨l, vs, h1, m, h2, h3⟩ := s.own e
    obtain ⟨_, _, n1, n0, n2⟩ := s.at m
    refine ⟨.ref l, h1, .inl ⟨rfl, _, .inl (.inl h2)⟩, ?_⟩
    refine he _ _ _ _ _ _ a _ (Res.imp (Res.bindS g h) fun y c1 I1 H1 g1 k1 q v hv => ?_)
    obtain ⟨q1, q2⟩ := q
    split at q2
    · split at q2
      · rename_i y hz
        have hn : I1 l = none := g1.fr l (by rw [h2]; exact Option.some_ne_none _) n1
        have hd := dps_grows g1.ii _ _ h3
        refine ⟨l, vs, v, rfl, rfl, g1.hh _ _ n2 h2, by rw [dps_len h3, sizeLine_eq]; exact hz, ?_⟩
        obtain ⟨g3, k3⟩ := own_step (o := .lst (vs ++ [v])) q1 k1 n0 hn n2
        exact Res.okS g3 k3 q2 _ ⟨as, (s.mono g1).change (dps_app hd (.cons hv .nil)) e h1⟩
      · exact q2.elim
    · exact q2.elim
  · exact h.elim
def dRet (de : Den) : DenS := fun δ c => (de δ c).bind fun x c => .ok (.rt x) c
theorem sns_ret {te : TE} {de : Den} (he : SndE Z W te de) : SndS Z W (tRet te) (dRet de) := by
  intro I0 H0 I H σ δ c g a D h
  refine he _ _ _ _ _ _ a _ (Res.imp (Res.bindS g h) fun x c1 I1 H1 g1 k1 q v hv => ?_)
  exact Res.okS q.1 k1 q.2 v hv
def dRetN : DenS := fun _ c => .ok (.rt (.d .none)) c
theorem sns_retN : SndS Z W tRetN dRetN := fun _ _ _ _ _ _ _ g a _ h => Res.okS g a.k h .non .non
def dRetO (i : Nat) : DenS := fun δ c => match δ[i]? with
  | some (.ow xs) => .ok (.rt (.d (.list xs))) c
  | _ => .no
theorem sns_retO {i : Nat} : SndS Z W (tRet (tVar i)) (dRetO i) := by
  intro I0 H0 I H σ δ c g a D h
  unfold dRetO at h
  split at h
  · rename_i xs e
    obtain ⟨as, s⟩ := a.sl
    obtain ⟨l, vs, h1, m, h2, h3⟩ := s.own e
    obtain ⟨_, _, n1, n0, n2⟩ := s.at m
    obtain ⟨k2, gi, hv⟩ := keepL a.k n1 h2 n2 h3
    refine ⟨.ref l, h1, Res.okS ⟨fun b o e => gi b o (g.ii b o e), g.hh, g.th, fun b e n => ?_⟩ k2 h _ hv⟩
    rw [upd_ne (fun z => e (by rw [z]; exact n0))]
    exact g.fr b e n
  · exact h.elim
def dIfS (dt : DenT) (d e : DenS) : DenS := fun δ c => (dt δ c).bind fun b c => if b = true then d δ c else e δ c
theorem sns_if {tt : TT} {t u : TS} {dt : DenT} {d e : DenS} (ht : SndT Z W tt dt) (h1 : SndS Z W t d) (h2 : SndS Z W u e) : SndS Z W (tIfS tt t u) (dIfS dt d e) := by
  intro I0 H0 I H σ δ c g a D h
  refine ht _ _ _ _ _ _ a _ (Res.imp (Res.bindS g h) fun b c1 I1 H1 g1 k1 q => ?_)
  cases b with
  | true => exact iteT (h1 _ _ _ _ _ _ _ q.1 (a.go g1 k1) D q.2)
  | false => exact iteF (h2 _ _ _ _ _ _ _ q.1 (a.go g1 k1) D q.2)
/-- x += e on ints -/
def dAug (i : Nat) (f : Int → Int → Int) (de : Den) : DenS := fun δ c => match δ[i]? with
  | some (.im (.d (.int a))) => (de δ c).bind fun y c => match y with
    | .d (.int b) => .ok (.nx (δ.set i (.im (.d (.int (f a b)))))) c
    | _ => .no
  | _ => .no
theorem sns_aug {i : Nat} {f : Int → Int → Int} {te : TE} {de : Den} (he : SndE Z W te de) : SndS Z W (tAug i te (ipI f)) (dAug i f de) := by
  intro I0 H0 I H σ δ c g a D h
  unfold dAug at h
  split at h
  · rename_i x e
    obtain ⟨as, s⟩ := a.sl
    obtain ⟨v, h1, h2⟩ := s.get e
    refine ⟨v, h1, ?_⟩
    refine he _ _ _ _ _ _ a _ (Res.imp (Res.bindS g h) fun y c1 I1 H1 g1 k1 q w hw => ?_)
    obtain ⟨q1, q2⟩ := q
    split at q2
    · cases hw
      cases h2
      obtain ⟨bs, s2, _⟩ := (s.mono g1).put (x := .d (.int (f _ _))) (.int (f _ _)) i
      exact ⟨_, _, rfl, rfl, Res.okS q1 k1 q2 _ ⟨bs, s2⟩⟩
    · exact q2.elim
  · exact h.elim

/-! what is walked -/
theorem Gr.re {I0 H0 I H : Hp} (g : Gr Z I0 H0 I H) : Gr Z I H0 I H := ⟨fun _ _ e => e, g.hh, g.th, fun _ _ n => n⟩
theorem Gr.co {I0 H0 I H I' H' : Hp} (g : Gr Z I0 H0 I H) (h : Gr Z I H0 I' H') : Gr Z I0 H0 I' H' := ⟨fun a o e => h.ii a o (g.ii a o e), h.hh, h.th, fun a e n => h.fr a e (g.fr a e n)⟩
structure Walks (Z : Zz) (J : It) (I : Hp) (xs : List Vl) : Prop where
  go : ∀ i H, Grows I H → i < xs.length → J.go i H
  stop : ∀ H, Grows I H → J.stop xs.length H
  yld : ∀ i H v H' x Ic c, Grows I Ic → Ok Z Ic H c → xs[i]? = some x → J.yld i H v H' → ∃ I2, Gr Z Ic H I2 H' ∧ Ok Z I2 H' c ∧ VOk Z I2 v x
abbrev DenI := List Sl → Int → R (List Vl)
def SndI (Z : Zz) (W : XK) (wi : TI) (di : DenI) : Prop := ∀ H0 I H σ δ c, At Z H0 I H σ δ c → ∀ Q : It → Hp → Prop, Res Z W I H (di δ c) (fun xs _ I' H' => ∀ J, Walks Z J I' xs → Q J H') → wi σ H Q
theorem dps_at {K : PySem.W.Frag} {I : Hp} {vs : List V} {xs : List PyData} {i : Nat} {v : V} {x : Vl} (h : DpAll K I vs xs) (e : (xs.map Vl.d)[i]? = some x) (e2 : vs[i]? = some v) : ∃ y, x = .d y ∧ Dp K I v y := by
  obtain ⟨d, h1, h2⟩ := dps_get' h e2
  rw [List.getElem?_map, h1] at e
  cases e
  exact ⟨d, rfl, h2⟩
theorem walks_list {a : Addr} {I : Hp} {vs : List V} {xs : List PyData} (s : SqL Z.K I a vs) (h : DpAll Z.K I vs xs) : Walks Z (Itl Z.K a) I (xs.map Vl.d) := by
  refine ⟨fun i H e hi => ⟨vs, vs[i]'(by rw [dps_len h]; simpa using hi), sqL_grows e s, by simp⟩, fun H e => ⟨vs, sqL_grows e s, by rw [dps_len h]; simp⟩, ?_⟩
  rintro i H v H' x Ic c e k ex ⟨rfl, y⟩
  obtain ⟨d, rfl, h2⟩ := dps_at h ex (y vs (sqL_grows (fun a o z => k.ex a o (e a o z)) s))
  exact ⟨Ic, Gr.refl, k, dp_grows e _ _ h2⟩
theorem walks_tup {a : Addr} {I : Hp} {vs : List V} {xs : List PyData} (s : SqT Z.K I a vs) (h : DpAll Z.K I vs xs) : Walks Z (Itt Z.K a) I (xs.map Vl.d) := by
  refine ⟨fun i H e hi => ⟨vs, vs[i]'(by rw [dps_len h]; simpa using hi), sqT_grows e s, by simp⟩, fun H e => ⟨vs, sqT_grows e s, by rw [dps_len h]; simp⟩, ?_⟩
  rintro i H v H' x Ic c e k ex ⟨rfl, y⟩
  obtain ⟨d, rfl, h2⟩ := dps_at h ex (y vs (sqT_grows (fun a o z => k.ex a o (e a o z)) s))
  exact ⟨Ic, Gr.refl, k, dp_grows e _ _ h2⟩
def rng (lo : Int) (n : Nat) : List Vl := (List.range n).map fun (i : Nat) => Vl.d (.int (lo + (i : Int)))
theorem walks_rng {I : Hp} {lo : Int} {n : Nat} : Walks Z (Itr lo n) I (rng lo n) := by
  refine ⟨fun i H _ hi => (show i < n by simpa [rng] using hi), fun H _ => (show n ≤ _ by simp [rng]), ?_⟩
  rintro i H v H' x Ic c e k ex ⟨rfl, rfl⟩
  have hi : i < n := by
    have z := (List.getElem?_eq_some_iff.mp ex).1
    simpa [rng] using z
  unfold rng at ex
  rw [List.getElem?_map, List.getElem?_range hi] at ex
  cases ex
  exact ⟨Ic, Gr.refl, k, .int _⟩
def dIL (de : Den) : DenI := fun δ c => (de δ c).bind fun x c => match x with
  | .d (.list xs) => .ok (xs.map Vl.d) c
  | _ => .no
theorem snd_iL {te : TE} {de : Den} (h : SndE Z W te de) : SndI Z W (iList Z.K te) (dIL de) := by
  intro H0 I H σ δ c a Q r
  refine h _ _ _ _ _ _ a _ (Res.imp (Res.bind r) fun x c1 I1 H1 g1 k1 h1 v hv => ?_)
  split at h1
  · cases hv with
    | lst s t => exact ⟨_, rfl, ⟨_, sqL_grows k1.ex s⟩, Res.ok k1 h1 _ (walks_list s t)⟩
  · exact h1.elim
def dIT (de : Den) : DenI := fun δ c => (de δ c).bind fun x c => match x with
  | .d (.tuple xs) => .ok (xs.map Vl.d) c
  | _ => .no
theorem snd_iT {te : TE} {de : Den} (h : SndE Z W te de) : SndI Z W (iTup Z.K te) (dIT de) := by
  intro H0 I H σ δ c a Q r
  refine h _ _ _ _ _ _ a _ (Res.imp (Res.bind r) fun x c1 I1 H1 g1 k1 h1 v hv => ?_)
  split at h1
  · cases hv with
    | tup s t => exact ⟨_, rfl, ⟨_, sqT_grows k1.ex s⟩, Res.ok k1 h1 _ (walks_tup s t)⟩
  · exact h1.elim
def bR (i : Int) : Bool := decide (-(2 ^ 62) ≤ i ∧ i < 2 ^ 62)
def dI1 (da : DenA) : DenI := fun δ c => (da δ c).bind fun xs c => match xs with
  | [.d (.int n)] => if bR n = true then .ok (rng 0 n.toNat) c else .no
  | _ => .no
theorem snd_i1 {ta : TA} {da : DenA} (h : SndA Z W ta da) : SndI Z W (iRng1 ta) (dI1 da) := by
  intro H0 I H σ δ c a Q r
  refine h _ _ _ _ _ _ a _ (Res.imp (Res.bind r) fun x c1 I1 H1 g1 k1 h1 v hv => ?_)
  split at h1
  · split at h1
    · rename_i n b
      obtain ⟨b1, b2⟩ := of_decide_eq_true b
      cases hv with
      | cons q t => cases t; cases q; exact ⟨n, rfl, b1, b2, Res.ok k1 h1 _ walks_rng⟩
    · exact h1.elim
  · exact h1.elim
def dI2 (da : DenA) : DenI := fun δ c => (da δ c).bind fun xs c => match xs with
  | [.d (.int m), .d (.int n)] => if bR m = true ∧ bR n = true then .ok (rng m (n - m).toNat) c else .no
  | _ => .no
theorem snd_i2 {ta : TA} {da : DenA} (h : SndA Z W ta da) : SndI Z W (iRng2 ta) (dI2 da) := by
  intro H0 I H σ δ c a Q r
  refine h _ _ _ _ _ _ a _ (Res.imp (Res.bind r) fun x c1 I1 H1 g1 k1 h1 v hv => ?_)
  split at h1
  · split at h1
    · rename_i m n b
      obtain ⟨b1, b2⟩ := of_decide_eq_true b.1
      obtain ⟨b3, b4⟩ := of_decide_eq_true b.2
      cases hv with
      | cons q t => cases t with
        | cons q2 t2 => cases t2; cases q; cases q2; exact ⟨m, n, rfl, ⟨b1, b2, b3, b4⟩, Res.ok k1 h1 _ walks_rng⟩
    · exact h1.elim
  · exact h1.elim

/-! targets -/
theorem wipe_at (σ : L2.St) : ∀ (vs : List Nat) (i : Nat), (wipe σ vs)[i]? = if i ∈ vs then σ[i]?.map (fun _ => none) else σ[i]?
  | [], i => by simp [wipe]
  | v :: vs, i => by
    unfold wipe
    rw [List.getElem?_set, wipe_at σ vs i, wipe_length]
    by_cases e : v = i
    · subst e
      simp only [if_true, List.mem_cons, true_or]
      by_cases h : v < σ.length
      · rw [if_pos h, List.getElem?_eq_getElem h]; rfl
      · rw [if_neg h, List.getElem?_eq_none (by omega)]; rfl
    · rw [if_neg e]
      simp only [List.mem_cons, show (i = v) = False by simp; exact fun h => e h.symm, false_or]
theorem wipe_put (σ : L2.St) {vs : List Nat} {j : Nat} (h : j ∈ vs) (x : Option V) : wipe (σ.set j x) vs = wipe σ vs := by
  apply List.ext_getElem?
  intro i
  rw [wipe_at, wipe_at]
  by_cases e : i ∈ vs
  · rw [if_pos e, if_pos e, List.getElem?_set]
    by_cases z : j = i
    · subst z
      by_cases hl : j < σ.length
      · rw [if_pos rfl, if_pos hl, List.getElem?_eq_getElem hl]; rfl
      · rw [if_pos rfl, if_neg hl, List.getElem?_eq_none (by omega)]
    · rw [if_neg z]
  · rw [if_neg e, if_neg e, List.getElem?_set, if_neg (fun z => e (by rw [← z]; exact h))]
theorem wipe_wipe (σ : L2.St) (vs : List Nat) : wipe (wipe σ vs) vs = wipe σ vs := by
  apply List.ext_getElem?
  intro i
  rw [wipe_at, wipe_at]
  by_cases e : i ∈ vs
  · rw [if_pos e, if_pos e]; cases σ[i]? <;> rfl
  · rw [if_neg e, if_neg e]
def dwipe (δ : List Sl) : List Nat → List Sl
  | [] => δ
  | v :: vs => (dwipe δ vs).set v .no
theorem sls_wipe {H0 I H : Hp} {σ : L2.St} {δ : List Sl} : ∀ (vs : List Nat), (∃ as, Sls Z H0 I H σ δ as) → ∃ as, Sls Z H0 I H (wipe σ vs) (dwipe δ vs) as
  | [], h => h
  | v :: vs, h => by
    obtain ⟨as, s⟩ := sls_wipe vs h
    obtain ⟨bs, s2, _⟩ := s.wipe1 (s := none) v
    exact ⟨bs, s2⟩
abbrev DenG := Vl → List Sl → Option (List Sl)
/-- a target that stores at the places js -/
def SndG (Z : Zz) (js : List Nat) (g : TG) (dg : DenG) : Prop := ∀ H0 I H σ δ δ' v x c, At Z H0 I H σ δ c → VOk Z I v x → dg x δ = some δ' → ∀ Q : L2.St → Hp → Prop,
  (∀ σ', (∃ as, Sls Z H0 I H σ' δ' as) → (∀ vs, (∀ j ∈ js, j ∈ vs) → wipe σ' vs = wipe σ vs) → Q σ' H) → g v σ H Q
def dName (j : Nat) : DenG := fun x δ => some (δ.set j (.im x))
theorem sng_name {j : Nat} : SndG Z [j] (gName j) (dName j) := by
  intro H0 I H σ δ δ' v x c a hv e Q q
  cases e
  obtain ⟨as, s⟩ := a.sl
  obtain ⟨bs, s2, _⟩ := s.put hv j
  exact q _ ⟨bs, s2⟩ fun vs h => wipe_put σ (h j (by simp)) _
abbrev DenGs := List PyData → List Sl → Option (List Sl)
def SndGs (Z : Zz) (js : List Nat) (g : TGs) (dg : DenGs) : Prop := ∀ H0 I H σ δ δ' vs xs c, At Z H0 I H σ δ c → DpAll Z.K I vs xs → dg xs δ = some δ' → ∀ Q : L2.St → Hp → Prop,
  (∀ σ', (∃ as, Sls Z H0 I H σ' δ' as) → (∀ vs, (∀ j ∈ js, j ∈ vs) → wipe σ' vs = wipe σ vs) → Q σ' H) → g vs σ H Q
def dGN : DenGs := fun xs δ => match xs with
  | [] => some δ
  | _ => none
theorem sng_nil : SndGs Z [] gNil dGN := by
  intro H0 I H σ δ δ' vs xs c a hv e Q q
  unfold dGN at e
  split at e
  · cases e; cases hv; exact ⟨rfl, q _ a.sl fun _ _ => rfl⟩
  · cases e
def dGC (dg : DenG) (dr : DenGs) : DenGs := fun xs δ => match xs with
  | x :: xs => (dg (.d x) δ).bind fun δ => dr xs δ
  | [] => none
theorem sng_cons {js ks : List Nat} {g : TG} {gs : TGs} {dg : DenG} {dr : DenGs} (h1 : SndG Z js g dg) (h2 : SndGs Z ks gs dr) : SndGs Z (js ++ ks) (gCons g gs) (dGC dg dr) := by
  intro H0 I H σ δ δ' vs xs c a hv e Q q
  unfold dGC at e
  split at e
  · rename_i x xs
    cases hv with
    | cons hx ht =>
      cases e1 : dg (.d x) δ with
      | none => rw [e1] at e; cases e
      | some δ1 =>
        rw [e1] at e
        refine ⟨_, _, rfl, h1 _ _ _ _ _ _ _ (.d x) c a hx e1 _ fun σ1 s1 w1 => ?_⟩
        refine h2 _ _ _ _ _ _ _ _ c ⟨s1, a.k⟩ ht e _ fun σ2 s2 w2 => q σ2 s2 fun vs hs => ?_
        rw [w2 vs fun j hj => hs j (List.mem_append_right _ hj), w1 vs fun j hj => hs j (List.mem_append_left _ hj)]
  · cases e
def dGT (n : Nat) (dr : DenGs) : DenG := fun x δ => match x with
  | .d (.tuple xs) => if xs.length = n then dr xs δ else none
  | _ => none
theorem sng_tup {n : Nat} {js : List Nat} {gs : TGs} {dr : DenGs} (h : SndGs Z js gs dr) : SndG Z js (gTup Z.K n gs) (dGT n dr) := by
  intro H0 I H σ δ δ' v x c a hv e Q q
  unfold dGT at e
  split at e
  · split at e
    · rename_i hl
      cases hv with
      | tup s t => exact ⟨_, _, rfl, sqT_grows a.k.ex s, by rw [dps_len t]; exact hl, h _ _ _ _ _ _ _ _ c a t e Q q⟩
    · cases e
  · cases e

/-! for -/
def turnO (f : List Sl → Int → R Out) : Out → Int → R Out
  | .nx δ, c => f δ c
  | .ct δ, c => f δ c
  | .bk δ, c => .ok (.nx δ) c
  | .rt v, c => .ok (.rt v) c
def loopD (dg : DenG) (db : DenS) : List Vl → List Sl → Int → R Out
  | [], δ, c => .ok (.nx δ) c
  | x :: xs, δ, c => match dg x δ with
    | none => .no
    | some δ1 => (db δ1 c).bind (turnO (loopD dg db xs))
def dFor (di : DenI) (dg : DenG) (db : DenS) : DenS := fun δ c => (di δ c).bind fun xs c => loopD dg db xs δ c
theorem sns_for {wi : TI} {g : TG} {tb : TS} {di : DenI} {dg : DenG} {db : DenS} {js : List Nat} (hi : SndI Z W wi di) (hg : SndG Z js g dg) (hb : SndS Z W tb db) : SndS Z W (tFor wi g tb) (dFor di dg db) := by
  intro I0 H0 I H σ δ c g0 a D h
  refine hi _ _ _ _ _ _ a _ (Res.imp (Res.bindS g0 h) fun xs c1 I1 H1 g1 k1 q J w => ?_)
  obtain ⟨g2, q⟩ := q
  refine ⟨fun i m σ H => m = xs.length - i ∧ i ≤ xs.length ∧ ∃ Ic δ c, Gr Z I0 H0 Ic H ∧ At Z H0 Ic H σ δ c ∧ Grows I1 Ic ∧ Res Z W I0 H0 (loopD dg db (xs.drop i) δ c) (FinO Z H0 D),
    ⟨xs.length, by simp, Nat.zero_le _, I1, δ, c1, g2, a.go g1 k1, fun _ _ e => e, q⟩, ?_⟩
  rintro i m σ H ⟨rfl, hle, Ic, δ, c, g3, a3, gi, r⟩
  by_cases hlt : i < xs.length
  · refine .inr ⟨w.go i H (fun b o e => a3.k.ex b o (gi b o e)) hlt, fun σ' H' => ∃ Ic δ c, Gr Z I0 H0 Ic H' ∧ At Z H0 Ic H' σ' δ c ∧ Grows I1 Ic ∧ Res Z W I0 H0 (loopD dg db (xs.drop (i + 1)) δ c) (FinO Z H0 D),
      fun σ' H' n => ⟨xs.length - (i + 1), by omega, rfl, hlt, n⟩, fun v H' y => ?_⟩
    obtain ⟨I2, g4, k4, hv⟩ := w.yld i H v H' xs[i] Ic c gi a3.k (by simp) y
    rw [List.drop_eq_getElem_cons hlt] at r
    unfold loopD at r
    split at r
    · exact r.elim
    · rename_i δ1 e1
      refine hg _ _ _ _ _ _ _ _ c (a3.go g4 k4) hv e1 _ fun σ1 s1 _ => ?_
      have g34 := g3.trans g4
      refine hb _ _ _ _ _ _ _ g34.re ⟨s1, k4⟩ _ ?_
      have gi2 : Grows I1 I2 := fun b o e => g4.ii b o (gi b o e)
      cases qb : db δ1 c with
      | no => rw [qb] at r; exact r
      | ex k p c =>
        rw [qb] at r
        exact fun I3 H3 cls d g5 => r I3 H3 cls d (g34.co g5)
      | ok o c2 =>
        rw [qb] at r
        intro I3 H3 g5 k5
        have g6 := g34.co g5
        cases o with
        | nx δ2 => exact fun σ2 s2 => ⟨I3, δ2, c2, g6, ⟨s2, k5⟩, fun b o e => g5.ii b o (gi2 b o e), r⟩
        | ct δ2 => exact fun σ2 s2 => ⟨I3, δ2, c2, g6, ⟨s2, k5⟩, fun b o e => g5.ii b o (gi2 b o e), r⟩
        | bk δ2 => exact fun σ2 s2 => Res.okS (W := W) g6 k5 r σ2 s2
        | rt x => exact fun v hv => Res.okS (W := W) g6 k5 r v hv
  · have e : i = xs.length := by omega
    subst e
    refine .inl ⟨w.stop H fun b o e => a3.k.ex b o (gi b o e), ?_⟩
    rw [List.drop_length] at r
    exact Res.okS g3 a3.k r _ a3.sl
end
end Dn
namespace Dn
open PySem PySem.Spec PyProof.Rows L2
abbrev aAdd := gI (fun _ _ => true) fun i j => .int (i + j)
abbrev aSub := gI (fun _ _ => true) fun i j => .int (i - j)
abbrev aMul := gI bMul fun i j => .int (i * j)
abbrev aDiv := gI bDiv fun i j => .int (i / j)
abbrev aMod := gI (fun _ j => decide (0 < j)) fun i j => .int (i % j)
abbrev aPow := gI (fun i j => decide (0 ≤ j ∧ j ≤ 1000 ∧ i.natAbs < 1000)) fun i j => .int (i ^ j.toNat)
abbrev aLt := gI (fun _ _ => true) fun i j => .bool (decide (i < j))
abbrev aLe := gI (fun _ _ => true) fun i j => .bool (decide (i ≤ j))
abbrev aGt := gI (fun _ _ => true) fun i j => .bool (decide (j < i))
abbrev aGe := gI (fun _ _ => true) fun i j => .bool (decide (j ≤ i))
def dL (de : DenL) : Den := fun δ c => (de δ c).map fun xs => .d (.list xs)
section
variable {Z : Zz} {W : XK}
/-! a def's promise -/
def spD (n : Nat) (K : PySem.W.Frag) (cl : Str → Option Value) (df : List Int → List Vl → Int → R Vl) : Sp := fun vs H Q E => vs.length = n ∧ ∃ Z I xs c, Z.K = K ∧ Z.cl = cl ∧ Ok Z I H c ∧ VOks Z I vs xs ∧
  Res Z E I H (df Z.ns xs c) (fun z _ I' H' => ∀ v, VOk Z I' v z → Q v H')
def dCall (n : Nat) (df : List Vl → Int → R Vl) (da : DenA) : Den := fun δ c => (da δ c).bind fun xs c => if xs.length = n then df xs c else .no
theorem snd_call {n : Nat} {df : List Int → List Vl → Int → R Vl} {ta : TA} {da : DenA} (ha : SndA Z W ta da) : SndE Z W (fun σ H Q => ta σ H fun xs H1 => spD n Z.K Z.cl df xs H1 Q W) (dCall n (df Z.ns) da) := by
  intro H0 I H σ δ c a Q h
  refine ha _ _ _ _ _ _ a _ (Res.imp (Res.bind h) fun xs c1 I1 H1 g1 k1 h1 vs hv => ?_)
  split at h1
  · rename_i e
    exact ⟨(voks_len hv).trans e, Z, I1, xs, c1, rfl, rfl, k1, hv, h1⟩
  · exact h1.elim
/-- of a def that raises nothing -/
def dCall0 (n : Nat) (df : List Vl → Int → R Vl) (da : DenA) : Den := fun δ c => (da δ c).bind fun xs c => if xs.length = n then (df xs c).calm else .no
theorem snd_call0 {n : Nat} {df : List Int → List Vl → Int → R Vl} {ta : TA} {da : DenA} (ha : SndA Z W ta da) : SndE Z W (fun σ H Q => ta σ H fun xs H1 => spD n Z.K Z.cl df xs H1 Q E0) (dCall0 n (df Z.ns) da) := by
  intro H0 I H σ δ c a Q h
  refine ha _ _ _ _ _ _ a _ (Res.imp (Res.bind h) fun xs c1 I1 H1 g1 k1 h1 vs hv => ?_)
  split at h1
  · rename_i e
    exact ⟨(voks_len hv).trans e, Z, I1, xs, c1, rfl, rfl, k1, hv, h1.calm⟩
  · exact h1.elim
def finO : Out → Int → R Vl
  | .rt x, c => .ok x c
  | .nx _, c => .ok (.d .none) c
  | _, _ => .no
def finD (r : R Out) : R Vl := r.bind finO
def args (xs : List Vl) (m : Nat) : List Sl := xs.map Sl.im ++ List.replicate m Sl.no
theorem sls_start {Z : Zz} {H0 I H : Hp} {m : Nat} : ∀ {vs : List V} {xs : List Vl}, VOks Z I vs xs → Sls Z H0 I H (vs.map some ++ List.replicate m none) (args xs m) []
  | _, _, .nil => by
    have : ∀ m : Nat, Sls Z H0 I H (List.replicate m none) (List.replicate m Sl.no) [] := fun m => by
      induction m with
      | zero => exact .nil
      | succ m ih => rw [List.replicate_succ, List.replicate_succ]; exact .no ih
    exact this m
  | _, _, .cons h t => .im h (sls_start t)
def dDef (m : Nat) (ds : DenS) (xs : List Vl) (c : Int) : R Vl := finD (ds (args xs m) c)
section
variable {P : Program} {w : World} {K : PySem.W.Frag} {mg : Str → Option Value} {base : Heap} {CX : CXT} {k : Nat}
theorem fnD {x qual : Str} {st : Stmt} {f : Addr} {fd : FuncData} {N ps : List Str} {cl : Str → Option Value} (n m : Nat) (ds : List Int → DenS) (F : Fun K x qual st f fd) (S : FnScope N ps (defScope st)) (hn : ps.length = n) (hm : N.length = n + m)
    (bd : ∀ (cdv : Value) (A : Around) (outer : List Env) (s : Shared) (H : Hp) (E : XK), (A.deeper (envOfC qual (defScope st) s.heap.objs.size f cdv)).guards = some [] →
      Room k (A.deeper (envOfC qual (defScope st) s.heap.objs.size f cdv)) →
      ∃ t, PSs (cxOf CX P w K mg base N qual (defScope st) f cdv A outer s H E) (defBody st) t ∧ ∀ Z : Zz, Z.K = K → Z.cl = cl → SndS Z E t (ds Z.ns)) :
    FnG P w K mg base CX (k + 1) f fd ps (spD n K cl fun ns => dDef m (ds ns)) := by
  refine FnG.body F S (fun xs H Q E h => h.1.trans hn.symm) fun cdv A outer s H vs Q E g r h => ?_
  obtain ⟨t, isT, snd⟩ := bd cdv A outer s H E g r
  obtain ⟨hl, Z, I, xs, c, rfl, rfl, ok, hv, h⟩ := h
  refine ⟨t, isT, ?_⟩
  have e : start N vs = vs.map some ++ List.replicate m none := by unfold L2.start; rw [hm, hl, Nat.add_sub_cancel_left]
  rw [e]
  refine snd Z rfl rfl I H I H _ _ c Gr.refl ⟨⟨_, sls_start hv⟩, ok⟩ _ ?_
  have h : Res Z E I H ((ds Z.ns (args xs m) c).bind finO) _ := h
  cases q : ds Z.ns (args xs m) c with
  | no => rw [q] at h; exact h
  | ex k p c => rw [q] at h; exact h
  | ok o c1 =>
    rw [q] at h
    intro I1 H1 g1 k1
    cases o with
    | nx δ => exact fun _ _ => h I1 H1 g1 k1 .non .non
    | rt x => exact fun v hv => h I1 H1 g1 k1 v hv
    | bk δ => exact h.elim
    | ct δ => exact h.elim
end

/-! the state's list -/
def dSt1 (i : Nat) : Den := fun δ c => match δ[i]? with
  | some (.im .st) => .ok (.d (.int c)) c
  | _ => .no
def dSt0 (ns : List Int) (i : Nat) : Den := fun δ c => match δ[i]? with
  | some (.im .st) => .ok (.d (.list (ns.map .int))) c
  | _ => .no
theorem snd_st1 {i : Nat} : SndE Z W (tOp (rIx Z.K) (tVar i) (tC (.int 1))) (dSt1 i) := by
  intro H0 I H σ δ c a Q h
  unfold dSt1 at h
  split at h
  · rename_i e
    obtain ⟨as, s⟩ := a.sl
    obtain ⟨v, h1, b, h2, rfl⟩ := s.get e
    obtain ⟨n, p, e1, e2⟩ := a.k.st b h2
    exact ⟨_, h1, .inl ⟨b, _, 1, .int c, rfl, rfl, .inl (.inl e1), rfl, Res.ok a.k h _ (.int _)⟩⟩
  · exact h.elim
theorem snd_st0 {i : Nat} : SndE Z W (tOp (rIx Z.K) (tVar i) (tC (.int 0))) (dSt0 Z.ns i) := by
  intro H0 I H σ δ c a Q h
  unfold dSt0 at h
  split at h
  · rename_i e
    obtain ⟨as, s⟩ := a.sl
    obtain ⟨v, h1, b, h2, rfl⟩ := s.get e
    obtain ⟨n, p, e1, e2⟩ := a.k.st b h2
    exact ⟨_, h1, .inl ⟨b, _, 0, .ref p, rfl, rfl, .inl (.inl e1), rfl, Res.ok a.k h _ (.lst e2 (dps_ints _))⟩⟩
  · exact h.elim
/-- state[1] = e -/
def dStSet (i : Nat) (de : Den) : DenS := fun δ c => match δ[i]? with
  | some (.im .st) => (de δ c).bind fun y _ => match y with
    | .d (.int n) => .ok (.nx δ) n
    | _ => .no
  | _ => .no
theorem sns_stSet {i : Nat} {te : TE} {de : Den} (he : SndE Z W te de) : SndS Z W (tAsg te (gSub (tVar i) (tC (.int 1)) rSetL)) (dStSet i de) := by
  intro I0 H0 I H σ δ c g a D h
  unfold dStSet at h
  split at h
  · rename_i e
    refine he _ _ _ _ _ _ a _ (Res.imp (Res.bindS g h) fun y c1 I1 H1 g1 k1 q v hv => ?_)
    obtain ⟨q1, q2⟩ := q
    obtain ⟨as, s⟩ := (a.go g1 k1).sl
    split at q2
    · rename_i n
      cases hv
      obtain ⟨u, h1, b, h2, rfl⟩ := s.get e
      obtain ⟨n1, p, e1, e2⟩ := k1.st b h2
      refine ⟨_, h1, b, _, 1, 1, rfl, rfl, e1, rfl, ?_⟩
      have ne : ∀ {d : Addr}, Z.sa ≠ some d → d ≠ b := fun h z => h (by rw [z]; exact h2)
      have nI : ∀ {d : Addr} {o : HO}, I1 d = some o → d ≠ b := fun h z => by rw [z, n1] at h; cases h
      refine Res.okS (I := I1) ⟨q1.ii, fun d o m e => by rw [upd_ne (ne m)]; exact q1.hh d o m e, fun d e => ?_, q1.fr⟩ ⟨fun d o e => by rw [upd_ne (nI e)]; exact k1.ex d o e, fun d e => ?_⟩ q2 _ ?_
      · by_cases z : d = b
        · subst z; rw [upd_same]; exact Option.some_ne_none _
        · rw [upd_ne z]; exact q1.th d e
      · have z : d = b := by rw [h2] at e; cases e; rfl
        subst z
        exact ⟨n1, p, upd_same, e2⟩
      · refine ⟨as, s.apart fun m => ?_⟩
        obtain ⟨_, _, _, _, z⟩ := s.at m
        exact z h2
    · exact q2.elim
  · exact h.elim
/-! repr -/
mutual
theorem dp_noDict {K : PySem.W.Frag} {H : Hp} : ∀ (d : PyData) (v : V), Dp K H v d → d.hasDict = false
  | .none, _, _ => by simp only [PyData.hasDict]
  | .bool _, _, _ => by simp only [PyData.hasDict]
  | .int _, _, _ => by simp only [PyData.hasDict]
  | .str _, _, _ => by simp only [PyData.hasDict]
  | .list ds, _, h => by cases h with | lst a b => simp only [PyData.hasDict]; exact dps_noDict ds _ b
  | .tuple ds, _, h => by cases h with | tup a b => simp only [PyData.hasDict]; exact dps_noDict ds _ b
  | .dict _, _, h => by cases h
theorem dps_noDict {K : PySem.W.Frag} {H : Hp} : ∀ (ds : List PyData) (vs : List V), DpAll K H vs ds → PyData.hasDictAll ds = false
  | [], _, _ => by simp only [PyData.hasDictAll]
  | d :: ds, _, h => by cases h with | cons a b => simp only [PyData.hasDictAll, dp_noDict d _ a, dps_noDict ds _ b, Bool.or_self]
end
def rRepr (K : PySem.W.Frag) : List V → Hp → VK → Prop := fun vs H Q => ∃ a d, vs = [.ref a] ∧ Dp K H (.ref a) d ∧ d.showable = true ∧ d.depth ≤ 60 ∧ d.shown.length ≤ sizeLine ∧ Q (.str d.shown) H
theorem call_reprD {X : Cx} (hg : X.A.guards = some []) (hu : X.A.units + 70 < cLine) : CallR X (.builtin "repr") (rRepr X.K) := by
  intro pins s σ H xs us Q I r h
  obtain ⟨a, d, rfl, hd, hs, hp, hz, q⟩ := h
  cases r with
  | cons rv t =>
    cases t
    obtain ⟨as, rd⟩ := Dp.reads I d _ _ hd rv
    cases rv
    exact repr_of_reads' rd hs (PyData.noDict_hsm (dp_noDict d _ hd)) hg (by omega) (fun _ _ e => e) (fun h' u tk hk => ⟨.str _, H, I.kept (t' := tk) hk, ⟨u, rfl⟩, q⟩) hz
theorem guard_room {k : Nat} {A : Around} (r : Room k A) : A.units + 70 < cLine := by have := r.un; omega
def gRepr : List Vl → Int → R Vl
  | [.d (.list xs)], c => if PyData.showable (.list xs) = true ∧ PyData.depth (.list xs) ≤ 60 ∧ (PyData.shown (.list xs)).length ≤ 16777216 then .ok (.d (.str (PyData.shown (.list xs)))) c else .no
  | _, _ => .no
theorem rc_repr : SndC Z W (rRepr Z.K) gRepr := by
  intro I H xs vs c k hv Q h
  unfold gRepr at h
  split at h
  · split at h
    · rename_i xs e
      cases hv with
      | cons a b =>
        cases b
        have a2 := dp_grows k.ex _ _ a
        cases a with
        | lst s t => exact ⟨_, _, rfl, a2, e.1, e.2.1, by rw [sizeLine_eq]; exact e.2.2, Res.ok k h _ (.str _)⟩
    · exact h.elim
  · exact h.elim
def gEqS : Vl → Vl → Int → R Vl
  | .d (.str a), .d (.str b), c => .ok (.d (.bool (decide (a = b)))) c
  | _, _, _ => .no
theorem rr_eqS : SndR Z W rEq gEqS := by
  intro I H x y vx vy c k hx hy Q h
  unfold gEqS at h
  split at h
  · cases hx; cases hy
    rename_i a b
    refine ⟨rfl, ?_⟩
    have e : decide (V.str a = V.str b) = decide (a = b) := by
      by_cases z : a = b
      · subst z; simp
      · rw [decide_eq_false z, decide_eq_false (fun q => z (V.str.inj q))]
    rw [e]
    exact Res.ok k h _ (.bl _)
  · exact h.elim
/-! the law: its state, then the rest -/
theorem law_run {K : PySem.W.Frag} {cl : Str → Option Value} {ts : TE} {tr : TS} {ds : Den} {dr : List Int → DenS} {E : XK} {N : List Str} {m : Nat} (hN : N.length = m + 2) (hs : SndE ⟨K, none, [], cl⟩ E ts ds) (hr : ∀ l ns, SndS ⟨K, some l, ns, cl⟩ E tr (dr ns))
    {a : Addr} {H : Hp} {nums ns : List Int} {c1 c2 : Int} (hS : SqL K H a (nums.map V.int)) (e1 : ds (args [.d (.list (nums.map .int))] (m + 1)) 0 = .ok (.d (.list (ns.map .int))) c1)
    (e2 : dr ns (args [.d (.list (nums.map .int)), .st] m) 0 = .ok (.rt (.d (.bool true))) c2) (Q : VK) (q : ∀ H', Q (.bl true) H') :
    tSeq (tAsg (tLst (tCons ts (tCons (tC (.int 0)) tNil))) (gName 1)) tr { nx := fun _ H' => Q .non H', rt := Q } (start N [.ref a]) H := by
  have k0 : Ok ⟨K, none, [], cl⟩ H H 0 := ⟨fun _ _ e => e, fun _ e => by cases e⟩
  have v0 : ∀ {Z : Zz}, Z.K = K → VOk Z H (.ref a) (.d (.list (nums.map .int))) := fun {Z} e => by cases e; exact .lst hS (dps_ints _)
  have st0 : start N [.ref a] = [V.ref a].map some ++ List.replicate (m + 1) none := by unfold L2.start; rw [hN]; rfl
  rw [st0]
  refine hs H H H _ _ 0 ⟨⟨_, sls_start (.cons (v0 rfl) .nil)⟩, k0⟩ _ ?_
  rw [e1]
  intro I1 H1 g1 k1 v hv
  cases hv with
  | lst s t =>
    have e := dps_ints' ns t
    subst e
    refine ⟨by show 2 ≤ sizeLine; decide, fun l hl => ?_⟩
    have hi := freshI k1 hl
    show tr { nx := fun _ H' => Q .non H', rt := Q } _ _
    refine hr l ns I1 (upd H1 l (.lst [.ref _, .int 0])) I1 (upd H1 l (.lst [.ref _, .int 0])) _ (args [.d (.list (nums.map .int)), .st] m) 0 Gr.refl ⟨⟨[], ?_⟩, ⟨fun b o e => ?_, fun b e => ?_⟩⟩ _ ?_
    · exact sls_start (m := m) (vs := [.ref a, .ref l]) (.cons (vok_grows g1.ii (v0 rfl)) (.cons ⟨l, rfl, rfl⟩ .nil))
    · rw [upd_ne (fun z => by rw [z, hi] at e; cases e)]; exact k1.ex b o e
    · cases e; exact ⟨hi, _, upd_same, s⟩
    · rw [e2]; exact fun I2 H2 _ _ v hv => by cases hv; exact q H2
end
end Dn
namespace Dn
open PySem PySem.Spec PyProof.Rows L2
def dAndV (da db : Den) : Den := fun δ c => (dTe da δ c).bind fun b c => if b = true then db δ c else .ok (.d (.bool false)) c
def dOrV (da db : Den) : Den := fun δ c => (dTe da δ c).bind fun b c => if b = true then .ok (.d (.bool true)) c else db δ c
def dNotV (da : Den) : Den := fun δ c => (dTe da δ c).bind fun b c => .ok (.d (.bool (!b))) c
def aCatT : Vl → Vl → Int → R Vl
  | .d (.tuple xs), .d (.tuple ys), c => if xs.length + ys.length ≤ 16777216 then .ok (.d (.tuple (xs ++ ys))) c else .no
  | _, _, _ => .no
def dYes : DenT := fun _ c => .ok true c
section
variable {Z : Zz} {W : XK}
theorem dps_nil {K : PySem.W.Frag} {I : Hp} {vs : List V} {xs : List PyData} (h : DpAll K I vs xs) : vs = [] ↔ xs = [] := by cases h <;> simp
theorem rr_catT : SndR Z W (rCatA Z.K) aCatT := by
  intro I H x y vx vy c k hx hy Q h
  unfold aCatT at h
  split at h
  · split at h
    · rename_i xs ys hl
      cases hx with
      | tup s t => cases hy with
        | tup s2 t2 =>
          refine ⟨_, _, _, _, rfl, rfl, sqT_grows k.ex s, sqT_grows k.ex s2, by rw [dps_len t, dps_len t2, sizeLine_eq]; exact hl, fun e => ?_, fun _ e => ?_, fun _ _ => newT k (dps_app t t2) h⟩
          · have := (dps_nil t).mp e
            subst this
            exact Res.ok k h _ (.tup s2 t2)
          · have := (dps_nil t2).mp e
            subst this
            rw [List.append_nil] at h
            exact Res.ok k h _ (.tup s t)
    · exact h.elim
  · exact h.elim
theorem snd_slT {ta : TE} {tl th : TO} {da : Den} {dl dh : DenO} (ha : SndE Z W ta da) (hl : SndO Z W tl dl) (hh : SndO Z W th dh) : SndE Z W (tSl (rSlA Z.K) ta tl th) (dSlT da dl dh) := by
  intro H0 I H σ δ c a Q h
  refine ha _ _ _ _ _ _ a _ (Res.imp (Res.bind h) fun x c1 I1 H1 g1 k1 h1 v hv => ?_)
  refine hl _ _ _ _ _ _ (a.go g1 k1) _ (Res.imp (Res.bind h1) fun lo c2 I2 H2 g2 k2 h2 => ?_)
  refine hh _ _ _ _ _ _ ((a.go g1 k1).go g2 k2) _ (Res.imp (Res.bind h2) fun hi c3 I3 H3 g3 k3 h3 => ?_)
  split at h3
  · rename_i xs
    cases hv with
    | tup s t =>
      have gi : Grows I1 I3 := fun a o e => g3.ii a o (g2.ii a o e)
      have t3 := dps_grows gi _ _ t
      refine ⟨_, _, rfl, sqT_grows (fun a o e => k3.ex a o (gi a o e)) s, fun e => ?_, fun _ => newT k3 (dps_cut t3 lo hi) h3⟩
      rw [dps_len t] at e
      have z : cutD xs lo hi = xs := by
        unfold cutD
        rw [e.1, e.2]
        simp
      rw [z] at h3
      exact Res.ok k3 h3 _ (.tup (sqT_grows gi s) t3)
  · exact h3.elim
def dCatL (da db : DenL) : DenL := fun δ c => (da δ c).bind fun xs c => (db δ c).bind fun ys c => if xs.length + ys.length ≤ 16777216 then .ok (xs ++ ys) c else .no
theorem snd_catL {ta tb : TE} {da db : DenL} (ha : SndL Z W ta da) (hb : SndL Z W tb db) : SndL Z W (tOp rCat ta tb) (dCatL da db) := by
  intro H0 I H σ δ c a Q h
  refine ha _ _ _ _ _ _ a _ (Res.imp (Res.bind h) fun xs c1 I1 H1 g1 k1 h1 l vs f0 f1 f2 f3 f4 => ?_)
  refine hb _ _ _ _ _ _ (a.go g1 k1) _ (Res.imp (Res.bind h1) fun ys c2 I2 H2 g2 k2 h2 m ws e0 e1 e2 e3 e4 => ?_)
  split at h2
  · rename_i hl
    have h4 := dps_grows g2.ii _ _ f4
    refine ⟨l, m, vs, ws, rfl, rfl, g2.hh _ _ f3 f2, e2, by rw [dps_len f4, dps_len e4, sizeLine_eq]; exact hl, newL k2 (dps_app h4 e4) (Res.imp h2 fun zs c3 I3 H3 g3 k3 q l ws f0 => q l ws (freshB (g1.trans g2) f0))⟩
  · exact h2.elim
def boolsOf : List PyData → Option (List Bool)
  | [] => some []
  | .bool b :: xs => (boolsOf xs).map (b :: ·)
  | _ => none
theorem boolsOf_eq : ∀ {xs : List PyData} {bs : List Bool}, boolsOf xs = some bs → xs = bs.map .bool
  | [], bs, e => by cases e; rfl
  | .bool b :: xs, bs, e => by
    unfold boolsOf at e
    cases q : boolsOf xs with
    | none => rw [q] at e; cases e
    | some cs => rw [q] at e; cases e; rw [boolsOf_eq q]; rfl
  | .none :: _, _, e => by cases e
  | .int _ :: _, _, e => by cases e
  | .str _ :: _, _, e => by cases e
  | .list _ :: _, _, e => by cases e
  | .tuple _ :: _, _, e => by cases e
  | .dict _ :: _, _, e => by cases e
def intsOf : List PyData → Option (List Int)
  | [] => some []
  | .int b :: xs => (intsOf xs).map (b :: ·)
  | _ => none
theorem intsOf_eq : ∀ {xs : List PyData} {bs : List Int}, intsOf xs = some bs → xs = bs.map .int
  | [], bs, e => by cases e; rfl
  | .int b :: xs, bs, e => by
    unfold intsOf at e
    cases q : intsOf xs with
    | none => rw [q] at e; cases e
    | some cs => rw [q] at e; cases e; rw [intsOf_eq q]; rfl
  | .none :: _, _, e => by cases e
  | .bool _ :: _, _, e => by cases e
  | .str _ :: _, _, e => by cases e
  | .list _ :: _, _, e => by cases e
  | .tuple _ :: _, _, e => by cases e
  | .dict _ :: _, _, e => by cases e
def gAll : List Vl → Int → R Vl
  | [.d (.list xs)], c => match boolsOf xs with
    | some bs => .ok (.d (.bool (bs.all id))) c
    | none => .no
  | _, _ => .no
def gAny : List Vl → Int → R Vl
  | [.d (.list xs)], c => match boolsOf xs with
    | some bs => .ok (.d (.bool (bs.any id))) c
    | none => .no
  | _, _ => .no
def gSum : List Vl → Int → R Vl
  | [.d (.list xs)], c => match intsOf xs with
    | some ns => .ok (.d (.int ns.sum)) c
    | none => .no
  | _, _ => .no
theorem rc_all : SndC Z W (L2.rAll Z.K) gAll := by
  intro I H xs vs c k hv Q h
  unfold gAll at h
  split at h
  · split at h
    · rename_i bs e
      cases hv with
      | cons a b => cases b; cases a with
        | lst s t =>
          rw [boolsOf_eq e] at t
          have := dps_bools' bs t
          subst this
          exact ⟨_, bs, rfl, sqL_grows k.ex s, Res.ok k h _ (.bl _)⟩
    · exact h.elim
  · exact h.elim
theorem rc_any : SndC Z W (L2.rAny Z.K) gAny := by
  intro I H xs vs c k hv Q h
  unfold gAny at h
  split at h
  · split at h
    · rename_i bs e
      cases hv with
      | cons a b => cases b; cases a with
        | lst s t =>
          rw [boolsOf_eq e] at t
          have := dps_bools' bs t
          subst this
          exact ⟨_, bs, rfl, sqL_grows k.ex s, Res.ok k h _ (.bl _)⟩
    · exact h.elim
  · exact h.elim
theorem rc_sum : SndC Z W (L2.rSum Z.K) gSum := by
  intro I H xs vs c k hv Q h
  unfold gSum at h
  split at h
  · split at h
    · rename_i bs e
      cases hv with
      | cons a b => cases b; cases a with
        | lst s t =>
          rw [intsOf_eq e] at t
          have := dps_ints' bs t
          subst this
          exact ⟨_, bs, rfl, sqL_grows k.ex s, Res.ok k h _ (.int _)⟩
    · exact h.elim
  · exact h.elim
theorem snd_yes : SndT Z W tYes dYes := fun _ _ _ _ _ _ a _ h => Res.ok a.k h
/-! list comprehensions -/
def keepD (dt : DenT) (de : Den) (rest : Int → R (List PyData)) (δ : List Sl) (c : Int) : R (List PyData) := (dt δ c).calm.bind fun b c => if b = true then (de δ c).calm.bind fun y c => match y with
  | .d y => (rest c).bind fun ys c => .ok (y :: ys) c
  | _ => .no else rest c
def compD (dg : DenG) (dt : DenT) (de : Den) (δ : List Sl) : List Vl → Int → R (List PyData)
  | [], c => .ok [] c
  | x :: xs, c => match dg x δ with
    | none => .no
    | some δ1 => keepD dt de (compD dg dt de δ xs) δ1 c
def dLc (vs : List Nat) (di : DenI) (dg : DenG) (dt : DenT) (de : Den) : DenL := fun δ c => (di δ c).bind fun xs c => if xs.length ≤ 16777216 then compD dg dt de (dwipe δ vs) xs c else .no
theorem snd_lc {wi : TI} {g : TG} {tt : TT} {te : TE} {di : DenI} {dg : DenG} {dt : DenT} {de : Den} {js vs : List Nat} (hj : ∀ j ∈ js, j ∈ vs) (hi : SndI Z W wi di) (hg : SndG Z js g dg) (ht : SndT Z E0 tt dt) (he : SndE Z E0 te de) :
    SndL Z W (tLc wi g tt te vs) (dLc vs di dg dt de) := by
  intro H0 I H σ δ c a Q h
  refine hi _ _ _ _ _ _ a _ (Res.imp (Res.bind h) fun xs c1 I1 H1 g1 k1 h1 J w => ?_)
  split at h1
  · rename_i hlen
    intro D hD
    obtain ⟨gD, kD⟩ := Gr.own (o := .lst []) k1 hD
    have sD := freshS k1 hD
    refine ⟨fun i m Hc => m = xs.length - i ∧ i ≤ xs.length ∧ ∃ Ic c acc ds, Gr Z I1 H1 Ic Hc ∧ Ok Z Ic Hc c ∧ Hc D = some (.lst acc) ∧ Ic D = none ∧ DpAll Z.K Ic acc ds ∧ ds.length ≤ i ∧
      Res Z W I1 H1 ((compD dg dt de (dwipe δ vs) (xs.drop i) c).map (ds ++ ·)) (fun xs _ I' H' => ∀ l vs, H l = none → I' l = none → H' l = some (.lst vs) → Z.sa ≠ some l → DpAll Z.K I' vs xs → Q (.ref l) H'),
      ⟨xs.length, by simp, Nat.zero_le _, I1, c1, [], [], gD, kD, upd_same, freshI k1 hD, .nil, Nat.le_refl _, ?_⟩, ?_⟩
    · have e : (compD dg dt de (dwipe δ vs) (xs.drop 0) c1).map (([] : List PyData) ++ ·) = compD dg dt de (dwipe δ vs) xs c1 := by
        rw [List.drop_zero]; cases compD dg dt de (dwipe δ vs) xs c1 <;> rfl
      rw [e]
      exact h1
    · rintro i m Hc ⟨rfl, hle, Ic, c, acc, ds, g2, k2, hD2, nD, hd, hn, r⟩
      have back : Grows Ic Hc := k2.ex
      by_cases hlt : i < xs.length
      · refine .inr ⟨w.go i Hc (fun b o e => back b o (g2.ii b o e)) hlt, fun Hn => ∃ Ic c acc ds, Gr Z I1 H1 Ic Hn ∧ Ok Z Ic Hn c ∧ Hn D = some (.lst acc) ∧ Ic D = none ∧ DpAll Z.K Ic acc ds ∧ ds.length ≤ i + 1 ∧
          Res Z W I1 H1 ((compD dg dt de (dwipe δ vs) (xs.drop (i + 1)) c).map (ds ++ ·)) (fun xs _ I' H' => ∀ l vs, H l = none → I' l = none → H' l = some (.lst vs) → Z.sa ≠ some l → DpAll Z.K I' vs xs → Q (.ref l) H'),
          fun Hn n => ⟨xs.length - (i + 1), by omega, rfl, hlt, n⟩, fun v Hy y => ?_⟩
        obtain ⟨I2, g3, k3, hv⟩ := w.yld i Hc v Hy xs[i] Ic c g2.ii k2 (by simp) y
        rw [List.drop_eq_getElem_cons hlt] at r
        unfold compD at r
        have stay : ∀ {Ia Ha : Hp}, Gr Z Ic Hc Ia Ha → Ha D = some (.lst acc) ∧ Ia D = none := fun g => ⟨g.hh D _ sD hD2, g.fr D (by rw [hD2]; exact Option.some_ne_none _) nD⟩
        have a2 : At Z H0 I2 Hy (wipe σ vs) (dwipe δ vs) c := ⟨sls_wipe vs (a.sl.imp fun _ s => s.mono (g1.trans (g2.trans g3))), k3⟩
        split at r
        · exact r.elim
        · rename_i δ1 e1
          refine hg _ _ _ _ _ _ _ _ c a2 hv e1 _ fun σ1 s1 w1 => ⟨by rw [w1 vs hj, wipe_wipe], ?_⟩
          unfold keepD at r
          refine ht _ _ _ _ _ _ ⟨s1, k3⟩ _ ?_
          cases q1 : dt δ1 c with
          | no => rw [q1] at r; exact r.elim
          | ex k p c => rw [q1] at r; exact r.elim
          | ok b c2 =>
            rw [q1] at r
            intro I3 H3 g4 k4
            cases b with
            | false => exact iteF ⟨I3, c2, acc, ds, g2.trans (g3.trans g4), k4, (stay (g3.trans g4)).1, (stay (g3.trans g4)).2, dps_grows (fun b o e => g4.ii b o (g3.ii b o e)) _ _ hd, by omega, r⟩
            | true =>
              refine iteT ?_
              refine he _ _ _ _ _ _ ⟨s1.imp fun _ s => s.mono g4, k4⟩ _ ?_
              have r : Res Z W I1 H1 (((de δ1 c2).calm.bind fun y c => match y with
                | .d y => (compD dg dt de (dwipe δ vs) (xs.drop (i + 1)) c).bind fun ys c => .ok (y :: ys) c
                | _ => .no).map (ds ++ ·)) _ := r
              cases q2 : de δ1 c2 with
              | no => rw [q2] at r; exact r.elim
              | ex k p c => rw [q2] at r; exact r.elim
              | ok y c3 =>
                rw [q2] at r
                intro I4 H4 g5 k5 v2 hv2
                cases y with
                | st => exact r.elim
                | op u => exact r.elim
                | d y =>
                  have gg := g3.trans (g4.trans g5)
                  obtain ⟨z1, z2⟩ := stay gg
                  have hd2 := dps_grows gg.ii _ _ hd
                  refine ⟨acc, z1, ?_, ?_⟩
                  · rw [dps_len hd, sizeLine_eq]; omega
                  · have nI : ∀ {d : Addr} {o : HO}, I4 d = some o → d ≠ D := fun h z => by rw [z, z2] at h; cases h
                    refine ⟨I4, c3, acc ++ [v2], ds ++ [y], ?_, ?_, upd_same, z2, dps_app hd2 (.cons hv2 .nil), by simp; omega, ?_⟩
                    · have g6 := g2.trans gg
                      refine ⟨g6.ii, fun d o n e => ?_, fun d e => ?_, g6.fr⟩
                      · rw [upd_ne (fun z => by rw [z, hD] at e; cases e)]; exact g6.hh d o n e
                      · rw [upd_ne (fun z => e (by rw [z]; exact hD))]; exact g6.th d e
                    · refine ⟨fun d o e => by rw [upd_ne (nI e)]; exact k5.ex d o e, fun d e => ?_⟩
                      obtain ⟨n1, p, e2, e3⟩ := k5.st d e
                      exact ⟨n1, p, by rw [upd_ne (fun z => sD (by rw [← z]; exact e))]; exact e2, e3⟩
                    · have e4 : ((compD dg dt de (dwipe δ vs) (xs.drop (i + 1)) c3).bind fun ys c => R.ok (y :: ys) c).map (ds ++ ·) = (compD dg dt de (dwipe δ vs) (xs.drop (i + 1)) c3).map ((ds ++ [y]) ++ ·) := by
                        cases compD dg dt de (dwipe δ vs) (xs.drop (i + 1)) c3 with
                        | no => rfl
                        | ex k p c => rfl
                        | ok ys c => show R.ok (ds ++ y :: ys) c = R.ok (ds ++ [y] ++ ys) c; rw [List.append_assoc]; rfl
                      rw [← e4]
                      exact r
      · have e : i = xs.length := by omega
        subst e
        refine .inl ⟨w.stop Hc fun b o e => back b o (g2.ii b o e), ?_⟩
        rw [List.drop_length] at r
        have r : Res Z W I1 H1 (R.ok (ds ++ []) c) _ := r
        rw [List.append_nil] at r
        exact r Ic Hc g2 k2 D acc (freshB g1 hD) nD hD2 sD hd
  · exact h1.elim
/-! more statements -/
def dUnp (de : Den) (dg : DenG) : DenS := fun δ c => (de δ c).bind fun x c => match dg x δ with
  | some δ1 => .ok (.nx δ1) c
  | none => .no
theorem sns_unp {te : TE} {de : Den} {g : TG} {dg : DenG} {js : List Nat} (he : SndE Z W te de) (hg : SndG Z js g dg) : SndS Z W (tAsg te g) (dUnp de dg) := by
  intro I0 H0 I H σ δ c g0 a D h
  refine he _ _ _ _ _ _ a _ (Res.imp (Res.bindS g0 h) fun x c1 I1 H1 g1 k1 q v hv => ?_)
  obtain ⟨q1, q2⟩ := q
  split at q2
  · rename_i δ1 e
    exact hg _ _ _ _ _ _ _ _ c1 (a.go g1 k1) hv e _ fun σ1 s1 _ => Res.okS q1 k1 q2 _ s1
  · exact q2.elim
/-- raise X('..') -/
def dRaise (k : Str) : DenS := fun _ c => .ex k none c
end
end Dn
namespace Dn
open PySem PySem.Spec PyProof.Rows L2
/-! reckoning -/
theorem bMul_small {i j : Int} (h1 : -10 ^ 30 ≤ i) (h2 : i ≤ 10 ^ 30) (h3 : -10 ^ 30 ≤ j) (h4 : j ≤ 10 ^ 30) : bMul i j = true := decide_eq_true ⟨by omega, by omega⟩
theorem aAdd_eq (i j c : Int) : aAdd (.d (.int i)) (.d (.int j)) c = .ok (.d (.int (i + j))) c := rfl
theorem aSub_eq (i j c : Int) : aSub (.d (.int i)) (.d (.int j)) c = .ok (.d (.int (i - j))) c := rfl
theorem aMul_eq (i j c : Int) (h1 : -10 ^ 30 ≤ i) (h2 : i ≤ 10 ^ 30) (h3 : -10 ^ 30 ≤ j) (h4 : j ≤ 10 ^ 30) : aMul (.d (.int i)) (.d (.int j)) c = .ok (.d (.int (i * j))) c := by
  show (if bMul i j = true then R.ok (Vl.d (.int (i * j))) c else R.no) = _
  rw [if_pos (bMul_small h1 h2 h3 h4)]
theorem aDiv_eq (i j c : Int) (h1 : 0 < j) (h2 : j ≤ 10 ^ 30) : aDiv (.d (.int i)) (.d (.int j)) c = .ok (.d (.int (i / j))) c := by
  show (if bDiv i j = true then R.ok (Vl.d (.int (i / j))) c else R.no) = _
  rw [if_pos (show bDiv i j = true from decide_eq_true ⟨h1, by omega⟩)]
theorem aMod_eq (i j c : Int) (h1 : 0 < j) : aMod (.d (.int i)) (.d (.int j)) c = .ok (.d (.int (i % j))) c := by
  show (if decide (0 < j) = true then R.ok (Vl.d (.int (i % j))) c else R.no) = _
  rw [if_pos (decide_eq_true h1)]
theorem aLt_eq (i j c : Int) : aLt (.d (.int i)) (.d (.int j)) c = .ok (.d (.bool (decide (i < j)))) c := rfl
theorem aLe_eq (i j c : Int) : aLe (.d (.int i)) (.d (.int j)) c = .ok (.d (.bool (decide (i ≤ j)))) c := rfl
theorem aGt_eq (i j c : Int) : aGt (.d (.int i)) (.d (.int j)) c = .ok (.d (.bool (decide (j < i)))) c := rfl
theorem aGe_eq (i j c : Int) : aGe (.d (.int i)) (.d (.int j)) c = .ok (.d (.bool (decide (j ≤ i)))) c := rfl
theorem pow18 (c : Int) : aPow (.d (.int 10)) (.d (.int 18)) c = .ok (.d (.int 1000000000000000000)) c := by
  show (if decide ((0 : Int) ≤ 18 ∧ (18 : Int) ≤ 1000 ∧ (10 : Int).natAbs < 1000) = true then R.ok (Vl.d (.int ((10 : Int) ^ (18 : Int).toNat))) c else R.no) = _
  rw [if_pos (by decide)]
  rfl
theorem gEq_int (i j c : Int) : gEq false (.d (.int i)) (.d (.int j)) c = .ok (.d (.bool (i == j))) c := by
  simp only [gEq]
  rw [if_pos ⟨by simp [SeqAt.shaped, PyData.canLay0, PyData.depth], by simp [SeqAt.shaped, PyData.canLay0, PyData.depth]⟩]
  simp [PyData.eqv]
theorem gNe_int (i j c : Int) : gEq true (.d (.int i)) (.d (.int j)) c = .ok (.d (.bool (i != j))) c := by
  simp only [gEq]
  rw [if_pos ⟨by simp [SeqAt.shaped, PyData.canLay0, PyData.depth], by simp [SeqAt.shaped, PyData.canLay0, PyData.depth]⟩]
  simp [PyData.eqv, bne]
theorem gEq_str (a b : Str) (c : Int) (h1 : PyData.strOk a = true) (h2 : PyData.strOk b = true) : gEq false (.d (.str a)) (.d (.str b)) c = .ok (.d (.bool (a == b))) c := by
  simp only [gEq]
  rw [if_pos ⟨by simp [SeqAt.shaped, PyData.canLay0, PyData.depth, h1], by simp [SeqAt.shaped, PyData.canLay0, PyData.depth, h2]⟩]
  simp [PyData.eqv]
/-- a loop that keeps J, turn by turn, and ends in the next statement -/
theorem loop_ok {dg : DenG} {db : DenS} (J : Nat → List Sl → Int → Prop) : ∀ (xs : List Vl) (n : Nat) (δ : List Sl) (c : Int), J n δ c →
    (∀ (i : Nat) x δ c, xs[i]? = some x → J (n + i) δ c → ∃ δ1, dg x δ = some δ1 ∧ ∃ o δ2 c2, db δ1 c = .ok o c2 ∧ (o = .nx δ2 ∨ o = .ct δ2) ∧ J (n + i + 1) δ2 c2) →
    ∃ δ' c', loopD dg db xs δ c = .ok (.nx δ') c' ∧ J (n + xs.length) δ' c'
  | [], n, δ, c, h0, _ => ⟨δ, c, rfl, h0⟩
  | x :: xs, n, δ, c, h0, hs => by
    obtain ⟨δ1, e1, o, δ2, c2, e2, e3, j⟩ := hs 0 x δ c rfl h0
    obtain ⟨δ', c', e4, j'⟩ := loop_ok J xs (n + 1) δ2 c2 j fun i y δ c hi hj => by
      have := hs (i + 1) y δ c (by simpa using hi) (by rw [show n + (i + 1) = n + 1 + i by omega]; exact hj)
      rw [show n + (i + 1) + 1 = n + 1 + i + 1 by omega] at this
      exact this
    refine ⟨δ', c', ?_, by rw [List.length_cons, show n + (xs.length + 1) = n + 1 + xs.length by omega]; exact j'⟩
    unfold loopD
    rw [e1]
    show (db δ1 c).bind _ = _
    rw [e2]
    rcases e3 with rfl | rfl <;> exact e4
/-- the same with a break -/
theorem loop_br {dg : DenG} {db : DenS} (J : Nat → List Sl → Int → Prop) : ∀ (xs : List Vl) (n : Nat) (δ : List Sl) (c : Int), J n δ c →
    (∀ (i : Nat) x δ c, xs[i]? = some x → J (n + i) δ c → ∃ δ1, dg x δ = some δ1 ∧ ∃ o δ2 c2, db δ1 c = .ok o c2 ∧ (o = .nx δ2 ∨ o = .bk δ2) ∧ J (n + i + 1) δ2 c2) →
    ∃ m δ' c', m ≤ n + xs.length ∧ loopD dg db xs δ c = .ok (.nx δ') c' ∧ J m δ' c'
  | [], n, δ, c, h0, _ => ⟨n, δ, c, Nat.le_refl _, rfl, h0⟩
  | x :: xs, n, δ, c, h0, hs => by
    obtain ⟨δ1, e1, o, δ2, c2, e2, e3, j⟩ := hs 0 x δ c rfl h0
    rcases e3 with rfl | rfl
    · obtain ⟨m, δ', c', hm, e4, j'⟩ := loop_br J xs (n + 1) δ2 c2 j fun i y δ c hi hj => by
        have := hs (i + 1) y δ c (by simpa using hi) (by rw [show n + (i + 1) = n + 1 + i by omega]; exact hj)
        rw [show n + (i + 1) + 1 = n + 1 + i + 1 by omega] at this
        exact this
      refine ⟨m, δ', c', by rw [List.length_cons]; omega, ?_, j'⟩
      unfold loopD
      rw [e1]
      show (db δ1 c).bind _ = _
      rw [e2]
      exact e4
    · refine ⟨n + 1, δ2, c2, by rw [List.length_cons]; omega, ?_, j⟩
      unfold loopD
      rw [e1]
      show (db δ1 c).bind _ = _
      rw [e2]
      rfl
theorem rng_get {lo : Int} {n i : Nat} {x : Vl} (h : (rng lo n)[i]? = some x) : x = .d (.int (lo + (i : Int))) ∧ i < n := by
  have hi : i < n := by
    have z := (List.getElem?_eq_some_iff.mp h).1
    simpa [rng] using z
  unfold rng at h
  rw [List.getElem?_map, List.getElem?_range hi] at h
  exact ⟨(Option.some.inj h).symm, hi⟩
theorem rng_len {lo : Int} {n : Nat} : (rng lo n).length = n := by simp [rng]
/-! what may be told by repr -/
mutual
def tame : PyData → Bool
  | .int i => decide (i.natAbs < 10 ^ 12)
  | .str x => PyData.strOk x
  | .list xs => tames xs
  | .tuple xs => tames xs
  | .dict _ => false
  | _ => true
def tames : List PyData → Bool
  | [] => true
  | x :: xs => tame x && tames xs
end
mutual
theorem tame_all : ∀ d : PyData, tame d = true → d.canLay0 = true ∧ d.intsShort 13 = true ∧ d.showable = true
  | .none, _ => ⟨by simp only [PyData.canLay0], rfl, by simp only [PyData.showable]⟩
  | .bool _, _ => ⟨by simp only [PyData.canLay0], rfl, by simp only [PyData.showable]⟩
  | .int i, h => by
    have h : i.natAbs < 10 ^ 12 := by simpa only [tame, decide_eq_true_eq] using h
    refine ⟨by simp only [PyData.canLay0], by simp only [PyData.intsShort, decide_eq_true_eq]; exact PyData.shown_int_le h, ?_⟩
    simp only [PyData.showable, decide_eq_true_eq]
    exact Nat.lt_trans (log2_le (k := 40) (Nat.lt_trans h (by decide)) (by decide)) (by decide)
  | .str x, h => ⟨by simpa only [PyData.canLay0, tame] using h, rfl, by simp only [PyData.showable]⟩
  | .list xs, h => by
    obtain ⟨a, b, c⟩ := tames_all xs (by simpa only [tame] using h)
    exact ⟨by simpa only [PyData.canLay0] using a, by simpa only [PyData.intsShort] using b, by simpa only [PyData.showable] using c⟩
  | .tuple xs, h => by
    obtain ⟨a, b, c⟩ := tames_all xs (by simpa only [tame] using h)
    exact ⟨by simpa only [PyData.canLay0] using a, by simpa only [PyData.intsShort] using b, by simpa only [PyData.showable] using c⟩
  | .dict _, h => by simp only [tame] at h; cases h
theorem tames_all : ∀ d : List PyData, tames d = true → PyData.canLayAll0 d = true ∧ PyData.intsShortAll 13 d = true ∧ PyData.showableAll d = true
  | [], _ => ⟨by simp only [PyData.canLayAll0], rfl, by simp only [PyData.showableAll]⟩
  | x :: xs, h => by
    simp only [tames, Bool.and_eq_true] at h
    obtain ⟨a, b, c⟩ := tame_all x h.1
    obtain ⟨a2, b2, c2⟩ := tames_all xs h.2
    exact ⟨by simp only [PyData.canLayAll0, a, a2, Bool.and_self], by simp only [PyData.intsShortAll, b, b2, Bool.and_self], by simp only [PyData.showableAll, c, c2, Bool.and_self]⟩
end
structure Fits (d : PyData) : Prop where
  t : tame d = true
  p : d.depth ≤ 50
  w : d.weight ≤ 1000000
theorem Fits.repr {d : PyData} (f : Fits d) (c : Int) : gRepr [.d (.list [d])] c = .ok (.d (.str (PyData.shown (.list [d])))) c := by
  obtain ⟨a, b, s⟩ := tame_all d f.t
  have hd : (PyData.list [d]).depth ≤ 51 := by have := f.p; simp only [PyData.depth, PyData.depthAll]; omega
  have hl : PyData.layable0 (.list [d]) = true := by
    have hw := f.w
    simp only [PyData.layable0, PyData.canLay0, PyData.canLayAll0, a, Bool.and_true, Bool.true_and, Bool.and_eq_true, decide_eq_true_eq]
    refine ⟨Nat.le_trans hd (by decide), ?_⟩
    simp only [PyData.weight, PyData.weightAll]
    have e : (2 : Nat) ^ 20 = 1048576 := by decide
    omega
  have hs := PyData.shown_le_of_layable0 hl (by simp only [PyData.intsShort, PyData.intsShortAll, b, Bool.and_true])
  simp only [gRepr]
  rw [if_pos ⟨by simp only [PyData.showable, PyData.showableAll, s, Bool.and_true], Nat.le_trans hd (by decide), Nat.le_trans hs (by decide)⟩]
def cSame (ns : List Int) : DenS := dRet (dOp (gEqS) (dCB gRepr (dCons (dL (dLst (dCons (dVar 0) (dNil)))) (dNil))) (dCB gRepr (dCons (dL (dLst (dCons (dVar 1) (dNil)))) (dNil))))
theorem same_ok {ns : List Int} {d : PyData} (f : Fits d) (c : Int) : dDef 0 (cSame ns) [.d d, .d d] c = .ok (.d (.bool true)) c := by
  simp [dDef, cSame, dRet, dOp, dCB, dCons, dL, dLst, dNil, dVar, args, datas, f.repr, gEqS, finD, finO]
/-! the law's numbers -/
def cNext (ns : List Int) : DenS := dSeq (dStSet 0 (dOp aAdd (dSt1 0) (dC (.d (.int 1))))) (dSeq (dSet 2 (dOp aDiv (dSt1 0) (dCB gLen (dCons (dSt0 ns 0) (dNil))))) (dRet (dOp aMod (dCB gInt1 (dCons (dOp aAdd (dOp aAdd (dOp gIx (dSt0 ns 0) (dOp aMod (dSt1 0) (dCB gLen (dCons (dSt0 ns 0) (dNil))))) (dOp aMul (dVar 2) (dC (.d (.int 389))))) (dOp aMul (dOp aMul (dSt1 0) (dVar 2)) (dC (.d (.int 17))))) (dNil))) (dVar 1))))
structure Good (ns : List Int) : Prop where
  ne : ns ≠ []
  lt : ∀ n ∈ ns, 0 ≤ n ∧ n < 1009
  len : ns.length ≤ 5000
theorem atI_ok {α : Type} {xs : List α} {i : Int} (h0 : 0 ≤ i) (h1 : i < (xs.length : Int)) : ∃ x, atI xs i = some x ∧ x ∈ xs := by
  have hn : i.toNat < xs.length := by omega
  refine ⟨xs[i.toNat], ?_, List.getElem_mem hn⟩
  unfold atI ixN
  rw [if_pos h0, if_pos h1]
  show xs[i.toNat]? = _
  rw [List.getElem?_eq_getElem hn]
theorem next_ok {ns : List Int} (g : Good ns) {m c : Int} (hm : 0 < m) (h0 : 0 ≤ c) (h1 : c ≤ 1000000) : ∃ r, dDef 1 (cNext ns) [.st, .d (.int m)] c = .ok (.d (.int r)) (c + 1) ∧ 0 ≤ r ∧ r < m := by
  have hl : (0 : Int) < (ns.length : Int) := by
    have := List.length_pos_iff.mpr g.ne
    omega
  have hl2 := g.len
  have hr0 := Int.emod_nonneg (c + 1) (b := (ns.length : Int)) (by omega)
  have hr1 := Int.emod_lt_of_pos (c + 1) hl
  obtain ⟨x, e, hx⟩ := atI_ok (xs := ns.map PyData.int) (i := (c + 1) % (ns.length : Int)) hr0 (by rw [List.length_map]; exact hr1)
  obtain ⟨v, hv, rfl⟩ := List.mem_map.mp hx
  have ht0 : 0 ≤ (c + 1) / (ns.length : Int) := Int.ediv_nonneg (by omega) (by omega)
  have ht1 : (c + 1) / (ns.length : Int) ≤ c + 1 := Int.ediv_le_self _ (by omega)
  have hp1 : (c + 1) * ((c + 1) / (ns.length : Int)) ≤ 1000001 * 1000001 := Int.mul_le_mul (by omega) (by omega) ht0 (by omega)
  have hp0 : 0 ≤ (c + 1) * ((c + 1) / (ns.length : Int)) := Int.mul_nonneg (by omega) ht0
  refine ⟨(v + (c + 1) / (ns.length : Int) * 389 + (c + 1) * ((c + 1) / (ns.length : Int)) * 17) % m, ?_, Int.emod_nonneg _ (by omega), Int.emod_lt_of_pos _ hm⟩
  · have h389 := aMul_eq ((c + 1) / (ns.length : Int)) 389 (c + 1) (by omega) (by omega) (by omega) (by omega)
    have hcc := aMul_eq (c + 1) ((c + 1) / (ns.length : Int)) (c + 1) (by omega) (by omega) (by omega) (by omega)
    have h17 := aMul_eq ((c + 1) * ((c + 1) / (ns.length : Int))) 17 (c + 1) (by omega) (by omega) (by omega) (by omega)
    have hd := aDiv_eq (c + 1) (ns.length : Int) (c + 1) hl (by omega)
    have hmd := aMod_eq (c + 1) (ns.length : Int) (c + 1) hl
    have hmm := aMod_eq (v + (c + 1) / (ns.length : Int) * 389 + (c + 1) * ((c + 1) / (ns.length : Int)) * 17) m (c + 1) hm
    simp only [dDef, cNext, dSeq, seqO, dStSet, dRet, dSet, dOp, dCB, dCons, dNil, dVar, dC, dSt0, dSt1, args, List.map_cons, List.map_nil, List.replicate, List.cons_append, List.nil_append, List.getElem?_cons_zero, List.getElem?_cons_succ, R.bind_ok, aAdd_eq, gLen,
      List.length_map, List.set_cons_succ, List.set_cons_zero, hd, hmd, gIx, e, h389, hcc, h17, gInt1, hmm, finD, finO]
end Dn
namespace Dn
open PySem PySem.Spec PyProof.Rows L2
/-! the law's stream -/
def cSt1 : DenS := dSeq (dApp 1 (dOp aMod (dCB gInt1 (dCons (dVar 3) (dNil))) (dC (.d (.int 1009))))) (dSeq (dSet 3 (dOp aDiv (dVar 3) (dC (.d (.int 1009))))) (dIfS (dTe (dOp (gEq false) (dVar 3) (dC (.d (.int 0))))) (dBreak) (dNext)))
def cSt2 : DenS := dSeq (dSet 5 (dOp aMod (dCB gInt1 (dCons (dOp aAdd (dOp aAdd (dOp aMul (dVar 5) (dC (.d (.int 48271)))) (dOp aMul (dC (.d (.int 7))) (dVar 4))) (dC (.d (.int 11)))) (dNil))) (dC (.d (.int 2147483647))))) (dApp 1 (dOp aMod (dOp aMod (dCB gInt1 (dCons (dOp aAdd (dOp aMul (dVar 5) (dC (.d (.int 69621)))) (dVar 4)) (dNil))) (dC (.d (.int 2147483629)))) (dC (.d (.int 1009)))))
def cSt3 : DenS := dSeq (dSet 3 (dCB gAbs (dCons (dCB gInt1 (dCons (dVar 2) (dNil))) (dNil)))) (dIfS (dTe (dOp (aGe) (dVar 3) (dOp aPow (dC (.d (.int 10))) (dC (.d (.int 18)))))) (dFor (dI1 (dCons (dC (.d (.int 60))) (dNil))) (dName 4) cSt1) (dSeq (dSet 5 (dOp aMod (dCB gInt1 (dCons (dVar 3) (dNil))) (dC (.d (.int 2147483647))))) (dFor (dI1 (dCons (dC (.d (.int 10))) (dNil))) (dName 4) cSt2)))
def cStream (ns : List Int) : DenS := dSeq (dNew 1 (dLst (dNil))) (dSeq (dFor (dIL (dL (dSlL (dVar 0) (dNoO) (dSoO (dC (.d (.int 63))))))) (dName 2) cSt3) (dSeq (dIfS (dTe (dOp (gEq false) (dLenO 1) (dC (.d (.int 0))))) (dApp 1 (dC (.d (.int 0)))) (dNext)) (dRetO 1)))
def Sm (ns : List Int) : Prop := ∀ n ∈ ns, 0 ≤ n ∧ n < 1009
theorem Sm.app {ns : List Int} (h : Sm ns) {v : Int} (h0 : 0 ≤ v) (h1 : v < 1009) : Sm (ns ++ [v]) := fun n m => by
  rcases List.mem_append.mp m with m | m
  · exact h n m
  · rw [List.mem_singleton] at m; subst m; exact ⟨h0, h1⟩
theorem st1_ok {sc s2 s5 : Sl} {N : Nat} (hN : N ≤ 100000) : ∀ (ns : List Int) (r : Int) (s4 : Sl), Sm ns → 0 ≤ r → ns.length ≤ N → ∃ ns' s3' s4', loopD (dName 4) cSt1 (rng 0 60) [sc, .ow (ns.map .int), s2, .im (.d (.int r)), s4, s5] 0 = .ok (.nx [sc, .ow (ns'.map .int), s2, s3', s4', s5]) 0 ∧ Sm ns' ∧ ns'.length ≤ N + 60 := by
  intro ns r s4 hs hr hn
  obtain ⟨m, δ', c', hm, e, rfl, ns', r', s4', rfl, h1, h2, h3⟩ := loop_br (dg := dName 4) (db := cSt1) (fun m δ c => c = 0 ∧ ∃ ns' r' s4', δ = [sc, .ow (ns'.map .int), s2, .im (.d (.int r')), s4', s5] ∧ Sm ns' ∧ 0 ≤ r' ∧ ns'.length ≤ N + m) (rng 0 60) 0 _ 0
    ⟨rfl, ns, r, s4, rfl, hs, hr, by omega⟩ (by
      rintro i x δ c hx ⟨rfl, ns', r', s4', rfl, h1, h2, h3⟩
      obtain ⟨rfl, hi⟩ := rng_get hx
      refine ⟨_, rfl, ?_⟩
      have hl : ns'.length < 16777216 := by omega
      have m0 := Int.emod_nonneg r' (b := 1009) (by omega)
      have m1 := Int.emod_lt_of_pos r' (b := 1009) (by omega)
      have d0 : 0 ≤ r' / 1009 := Int.ediv_nonneg h2 (by omega)
      have am := aMod_eq r' 1009 0 (by omega)
      have ad := aDiv_eq r' 1009 0 (by omega) (by omega)
      by_cases z : r' / 1009 = 0
      · refine ⟨.bk [sc, .ow ((ns' ++ [r' % 1009]).map .int), s2, .im (.d (.int (r' / 1009))), .im (.d (.int (0 + (i : Int)))), s5], _, 0, ?_, .inr rfl, rfl, ns' ++ [r' % 1009], r' / 1009, _, rfl, h1.app m0 m1, d0, by simp; omega⟩
        simp only [cSt1, dSeq, seqO, dApp, dSet, dIfS, dTe, dBreak, dNext, dOp, dCB, dCons, dNil, dVar, dC, List.getElem?_cons_zero, List.getElem?_cons_succ, List.set_cons_succ, List.set_cons_zero, R.bind_ok, gInt1, am, ad, List.length_map, hl, if_true, gEq_int, z, beq_self_eq_true, List.map_append, List.map_cons, List.map_nil]
      · refine ⟨.nx [sc, .ow ((ns' ++ [r' % 1009]).map .int), s2, .im (.d (.int (r' / 1009))), .im (.d (.int (0 + (i : Int)))), s5], _, 0, ?_, .inl rfl, rfl, ns' ++ [r' % 1009], r' / 1009, _, rfl, h1.app m0 m1, d0, by simp; omega⟩
        have z2 : (r' / 1009 == 0) = false := by simpa using z
        simp only [cSt1, dSeq, seqO, dApp, dSet, dIfS, dTe, dBreak, dNext, dOp, dCB, dCons, dNil, dVar, dC, List.getElem?_cons_zero, List.getElem?_cons_succ, List.set_cons_succ, List.set_cons_zero, R.bind_ok, gInt1, am, ad, List.length_map, hl, if_true, gEq_int, z2, Bool.false_eq_true, if_false, List.map_append, List.map_cons, List.map_nil])
  rw [rng_len] at hm
  exact ⟨ns', _, s4', e, h1, by omega⟩
theorem st2_ok {sc s2 s3 : Sl} {N : Nat} (hN : N ≤ 100000) : ∀ (ns : List Int) (r : Int) (s4 : Sl), Sm ns → 0 ≤ r → r < 2147483647 → ns.length ≤ N → ∃ ns' s4' s5', loopD (dName 4) cSt2 (rng 0 10) [sc, .ow (ns.map .int), s2, s3, s4, .im (.d (.int r))] 0 = .ok (.nx [sc, .ow (ns'.map .int), s2, s3, s4', s5']) 0 ∧ Sm ns' ∧ ns'.length = ns.length + 10 ∧ ns'.length ≤ N + 60 := by
  intro ns r s4 hs hr hr2 hn
  obtain ⟨δ', c', e, rfl, ns', r', s4', rfl, h1, h2, h3, h4⟩ := loop_ok (dg := dName 4) (db := cSt2) (fun m δ c => c = 0 ∧ ∃ ns' r' s4', δ = [sc, .ow (ns'.map .int), s2, s3, s4', .im (.d (.int r'))] ∧ Sm ns' ∧ 0 ≤ r' ∧ r' < 2147483647 ∧ ns'.length = ns.length + m) (rng 0 10) 0 _ 0
    ⟨rfl, ns, r, s4, rfl, hs, hr, hr2, by omega⟩ (by
      rintro i x δ c hx ⟨rfl, ns', r', s4', rfl, h1, h2, h3, h4⟩
      obtain ⟨rfl, hi⟩ := rng_get hx
      refine ⟨_, rfl, ?_⟩
      have hl : ns'.length < 16777216 := by omega
      have a1 := aMul_eq r' 48271 0 (by omega) (by omega) (by omega) (by omega)
      have a2 := aMul_eq 7 (0 + (i : Int)) 0 (by omega) (by omega) (by omega) (by omega)
      have a3 := aMod_eq (r' * 48271 + 7 * (0 + (i : Int)) + 11) 2147483647 0 (by omega)
      have b0 := Int.emod_nonneg (r' * 48271 + 7 * (0 + (i : Int)) + 11) (b := 2147483647) (by omega)
      have b1 := Int.emod_lt_of_pos (r' * 48271 + 7 * (0 + (i : Int)) + 11) (b := 2147483647) (by omega)
      generalize (r' * 48271 + 7 * (0 + (i : Int)) + 11) % 2147483647 = q at a3 b0 b1
      have a4 := aMul_eq q 69621 0 (by omega) (by omega) (by omega) (by omega)
      have a5 := aMod_eq (q * 69621 + (0 + (i : Int))) 2147483629 0 (by omega)
      have a6 := aMod_eq ((q * 69621 + (0 + (i : Int))) % 2147483629) 1009 0 (by omega)
      have c0 := Int.emod_nonneg ((q * 69621 + (0 + (i : Int))) % 2147483629) (b := 1009) (by omega)
      have c1 := Int.emod_lt_of_pos ((q * 69621 + (0 + (i : Int))) % 2147483629) (b := 1009) (by omega)
      generalize (q * 69621 + (0 + (i : Int))) % 2147483629 % 1009 = t at a6 c0 c1
      refine ⟨.nx [sc, .ow ((ns' ++ [t]).map .int), s2, s3, .im (.d (.int (0 + (i : Int)))), .im (.d (.int q))], _, 0, ?_, .inl rfl, rfl, ns' ++ [t], q, _, rfl, h1.app c0 c1, b0, b1, by simp; omega⟩
      simp only [cSt2, dSeq, seqO, dApp, dSet, dOp, dCB, dCons, dNil, dVar, dC, List.getElem?_cons_zero, List.getElem?_cons_succ, List.set_cons_succ, List.set_cons_zero, R.bind_ok, gInt1, aAdd_eq, a1, a2, a3, a4, a5, a6, List.length_map, hl, if_true, List.map_append, List.map_cons, List.map_nil])
  rw [rng_len] at h4
  exact ⟨ns', s4', _, e, h1, by omega, by omega⟩
theorem stream_ok (nums : List Int) (hn : nums.length ≤ 63) : ∃ ns, Good ns ∧ dDef 5 (cStream []) [.d (.list (nums.map .int))] 0 = .ok (.d (.list (ns.map .int))) 0 := by
  obtain ⟨xs, hxs, hlen⟩ : ∃ xs : List Int, cutD (nums.map PyData.int) none (some 63) = xs.map .int ∧ xs.length ≤ 63 := by
    refine ⟨(nums.drop (HT.sIx (nums.map PyData.int).length 0 none)).take (HT.sIx (nums.map PyData.int).length (nums.map PyData.int).length (some 63) - HT.sIx (nums.map PyData.int).length 0 none), ?_, ?_⟩
    · unfold cutD; rw [List.map_take, List.map_drop]
    · rw [List.length_take, List.length_drop]; omega
  obtain ⟨δ', c', e, rfl, ns, s2, s3, s4, s5, rfl, h1, h2⟩ := loop_ok (dg := dName 2) (db := cSt3) (fun m δ c => c = 0 ∧ ∃ ns s2 s3 s4 s5, δ = [.im (.d (.list (nums.map .int))), .ow (ns.map .int), s2, s3, s4, s5] ∧ Sm ns ∧ ns.length ≤ 60 * m)
    ((xs.map PyData.int).map Vl.d) 0 [.im (.d (.list (nums.map .int))), .ow [], .no, .no, .no, .no] 0 ⟨rfl, [], .no, .no, .no, .no, rfl, (fun _ m => by cases m), by simp⟩ (by
      rintro i x δ c hx ⟨rfl, ns, s2, s3, s4, s5, rfl, h1, h2⟩
      have hi : i < xs.length := by
        have z := (List.getElem?_eq_some_iff.mp hx).1
        simpa using z
      obtain ⟨n, rfl⟩ : ∃ n, x = .d (.int n) := by
        rw [List.map_map, List.getElem?_map, List.getElem?_eq_getElem hi] at hx
        exact ⟨_, (Option.some.inj hx).symm⟩
      refine ⟨_, rfl, ?_⟩
      have hr : 0 ≤ (if n < 0 then -n else n) := by split <;> omega
      generalize hq : (if n < 0 then -n else n) = r at hr
      by_cases z : 1000000000000000000 ≤ r
      · obtain ⟨ns', s3', s4', e1, e2, e3⟩ := st1_ok (sc := .im (.d (.list (nums.map .int)))) (s2 := .im (.d (.int n))) (s5 := s5) (N := 60 * i) (by omega) ns r s4 h1 hr (by omega)
        refine ⟨_, _, _, ?_, .inl rfl, rfl, ns', .im (.d (.int n)), s3', s4', s5, rfl, e2, by omega⟩
        have z2 : (decide (1000000000000000000 ≤ r)) = true := decide_eq_true z
        simp only [cSt3, dSeq, seqO, dSet, dIfS, dTe, dOp, dCB, dCons, dNil, dVar, dC, List.getElem?_cons_zero, List.getElem?_cons_succ, List.set_cons_succ, List.set_cons_zero, R.bind_ok, gInt1, gAbs, hq, pow18, aGe_eq, z2, if_true, dFor, dI1, bR, show decide (-(2 ^ 62) ≤ (60 : Int) ∧ (60 : Int) < 2 ^ 62) = true from by decide, show (60 : Int).toNat = 60 from rfl]
        exact e1
      · have b0 := Int.emod_nonneg r (b := 2147483647) (by omega)
        have b1 := Int.emod_lt_of_pos r (b := 2147483647) (by omega)
        have am := aMod_eq r 2147483647 0 (by omega)
        obtain ⟨ns', s4', s5', e1, e2, e4, e3⟩ := st2_ok (sc := .im (.d (.list (nums.map .int)))) (s2 := .im (.d (.int n))) (s3 := .im (.d (.int r))) (N := 60 * i) (by omega) ns (r % 2147483647) s4 h1 b0 b1 (by omega)
        refine ⟨_, _, _, ?_, .inl rfl, rfl, ns', .im (.d (.int n)), .im (.d (.int r)), s4', s5', rfl, e2, by omega⟩
        have z2 : (decide (1000000000000000000 ≤ r)) = false := decide_eq_false z
        simp only [cSt3, dSeq, seqO, dSet, dIfS, dTe, dOp, dCB, dCons, dNil, dVar, dC, List.getElem?_cons_zero, List.getElem?_cons_succ, List.set_cons_succ, List.set_cons_zero, R.bind_ok, gInt1, gAbs, hq, pow18, aGe_eq, z2, Bool.false_eq_true, if_false, am, if_true, dFor, dI1, bR, show decide (-(2 ^ 62) ≤ (10 : Int) ∧ (10 : Int) < 2 ^ 62) = true from by decide, show (10 : Int).toNat = 10 from rfl]
        exact e1)
  rw [List.length_map, List.length_map] at h2
  have hl : ns.length ≤ 3780 := by omega
  have hd : dFor (dIL (dL (dSlL (dVar 0) (dNoO) (dSoO (dC (.d (.int 63))))))) (dName 2) cSt3 [.im (.d (.list (nums.map .int))), .ow [], .no, .no, .no, .no] 0 = .ok (.nx [.im (.d (.list (nums.map .int))), .ow (ns.map .int), s2, s3, s4, s5]) 0 := by
    simp only [dFor, dIL, dL, dSlL, dVar, dNoO, dSoO, dC, List.getElem?_cons_zero, R.bind_ok, R.map_ok, hxs]
    exact e
  by_cases z : ns = []
  · subst z
    refine ⟨[0], ⟨by simp, fun n m => by simp at m; subst m; omega, by simp⟩, ?_⟩
    simp only [dDef, cStream, dSeq, seqO, dNew, dLst, dNil, datas, args, List.map_cons, List.map_nil, List.replicate, List.cons_append, List.nil_append, R.bind_ok, List.length_nil, Nat.zero_le, if_true, List.set_cons_succ, List.set_cons_zero, hd, dIfS, dTe, dOp, dLenO, List.getElem?_cons_zero, List.getElem?_cons_succ, dC, gEq_int, List.length_map,
      show ((((0 : Nat) : Int)) == 0) = true from rfl, dApp, show (0 < 16777216) = True from by simp, dRetO, finD, finO]
  · have hp : 0 < ns.length := List.length_pos_iff.mpr z
    have z2 : ((ns.length : Int) == 0) = false := by
      have : (ns.length : Int) ≠ 0 := by omega
      simpa using this
    refine ⟨ns, ⟨z, h1, by omega⟩, ?_⟩
    simp only [dDef, cStream, dSeq, seqO, dNew, dLst, dNil, datas, args, List.map_cons, List.map_nil, List.replicate, List.cons_append, List.nil_append, R.bind_ok, List.length_nil, Nat.zero_le, if_true, List.set_cons_succ, List.set_cons_zero, hd, dIfS, dTe, dOp, dLenO, List.getElem?_cons_zero, List.getElem?_cons_succ, dC, gEq_int, List.length_map,
      z2, Bool.false_eq_true, if_false, dNext, dRetO, finD, finO]
end Dn
namespace Dn
open PySem PySem.Spec PyProof.Rows L2
/-! the same rules, the written part told -/
section
variable {X : Cx} {K : PySem.W.Frag} {tg l : Expr} {tl : TE}
theorem pi_listK (h : X.K = K) (hl : PE X l tl) : PI X tg l (iList K tl) := by
  subst h
  exact pi_list hl
theorem pi_tupK (h : X.K = K) (hl : PE X l tl) : PI X tg l (iTup K tl) := by
  subst h
  exact pi_tup hl
end
def rTupA (K : PySem.W.Frag) : List V → Hp → VK → Prop := fun xs H Q => ∃ p ys, xs = [.ref p] ∧ ((SqL K H p ys ∧ ∀ l, H l = none → Q (.ref l) (upd H l (.tup ys))) ∨ (SqT K H p ys ∧ Q (.ref p) H))
def rListA (K : PySem.W.Frag) : List V → Hp → VK → Prop := fun xs H Q => ∃ p ys, xs = [.ref p] ∧ (SqL K H p ys ∨ SqT K H p ys) ∧ ∀ l, H l = none → Q (.ref l) (upd H l (.lst ys))
/-! errors -/
structure Exc1 (K : PySem.W.Frag) (mg : Str → Option Value) (x : Str) where
  a : Addr
  g : mg x = some (.ref a)
  x1 : PySem.W.excIn K a [.type "ValueError", .type "Exception", .type "BaseException", .type "object"] "ValueError.__new__" = true
  k : PySem.W.keepIn K (.ref a) = true
  bs : PySem.W.subIn K (.ref a) (.type "BaseException") = some true
  ty : PySem.W.typeIn K (.ref a) = some (.type "type")
section
variable {Z : Zz} {W : XK}
theorem sns_raise {x : Str} {C : Addr} (h : Z.cl x = some (.ref C)) : SndS Z W (fun _ _ H => W (.ref C) none H) (dRaise x) := by
  intro I0 H0 I H σ δ c g a D r
  exact r I H (.ref C) none g a.k h rfl
end
/-! a call of what a local name holds -/
section
variable {X : Cx} {CX : CXT} {k i : Nat} {f : Addr} {fd : FuncData} {ps : List Str} {sp : Sp} {E : L2.St → XK} {x : Str} {p pos : Pos} {e : Expr} {es : List Expr} {t : TA}
theorem FnG.callAt {pins : List (Addr × Obj)} {σ : L2.St} {H : Hp} {s : Shared} {Q : VK} {us : List Value} {xs : List V} (F : FnG X.prog X.w X.K X.mg X.base CX k f fd ps sp) (g : X.A.guards = some []) (room : Room k X.A) (hb : Binds X.K fd ps [])
    (hx : PassesAt CX X σ (E σ)) (I : Inv X pins σ H s) (r : Vals xs us) (h : sp xs H Q (E σ)) : wpAny (model X.prog X.w) X.A (PySem.call (.ref f) us) (EP X pins σ Q) X.xe s := by
  have hl : (us ++ ([] : List Value)).length = ps.length := by
    rw [List.append_nil, ← r.length]
    exact F.size _ _ _ _ h
  have hb' := hb s us I.kIn hl
  rw [List.append_nil] at hb'
  apply wpAny_call
  refine codeAny_mono (F.goes X.A X.stack s H ⟨us, []⟩ us xs Q (E σ) g room I.env0 hb' r h) ?_
  intro res s2 got
  match res, got with
  | .error er, got => exact hx pins H s er s2 I got
  | .ok (.ret u), got => exact I.after got
  | .ok .next, got => exact got.elim
  | .ok .brk, got => exact got.elim
  | .ok .cont, got => exact got.elim
theorem pe_localG (F : FnG X.prog X.w X.K X.mg X.base CX k f fd ps sp) (g : X.A.guards = some []) (room : Room k X.A) (hN : X.N[i]? = some x) (hv : Vis X.env.scope x) (hk : PySem.W.keepIn X.K (.ref f) = true) (hb : Binds X.K fd ps [])
    (hx : ∀ σ, PassesAt CX X σ (E σ)) (ha : PA X (e :: es) t) (hdb : (x == ("__debug__" : Str)) = false := by decide) (hcd : (x == ("__classdict__" : Str)) = false := by decide)
    (he : starEach (e :: es) X.env = (false, eval e X.env) :: starEach es X.env := by rfl) (hpl : (backTo pos (starEach es X.env)).any (·.1) = false := by rfl) :
    PE X (.Call (.Name x p) (e :: es) [] pos) (fun σ H Q => σ[i]? = some (some (.ref f)) ∧ t σ H fun xs H1 => sp xs H1 Q (E σ)) := by
  constructor
  rintro pins s σ H Q I ⟨hs, h⟩
  apply wpAny_Call_Name_kw
  refine thn ((pe_var (pos := p) hN hv hdb hcd).run pins s σ H (fun v H1 => v = .ref f ∧ H1 = H) I ⟨_, hs, rfl, rfl⟩) ?_
  rintro u s1 ⟨v, H1, I1, rv, rfl, rfl⟩
  cases rv
  refine PySem.W.callWith_K (h₀ := X.base) I.ok.mod.kin hk ?_ he hpl
  refine thn (ha.run pos pins s1 σ _ _ I1 h) ?_
  rintro us s2 ⟨xs, H2, I2, r, q⟩
  exact ⟨I2.kIn, FnG.callAt F g room hb (hx σ) I2 r q⟩
end
/-! isinstance of the error that is handled, by a tuple of classes -/
def rIsET (K : PySem.W.Frag) (D a : Addr) : List V → Hp → VK → Prop := fun xs H Q => ∃ (tp : Addr) (cs : List V) (us : List Value) (b : Bool), xs = [.ref a, .ref tp] ∧ H tp = some (.tup cs) ∧ Paired ClsV cs us ∧ PySem.W.kitAny K (.ref D) us = some b ∧ Q (.bl b) H
theorem call_isET {X : Cx} {a D : Addr} {oe : Obj} {pn : List (Addr × Obj)} (C : ExcC X.K D) (hz : Zc (.ref D) none oe) (hf : ∃ vs, oe.data = .fields vs) : CallR (X.suite a ((a, oe) :: pn)) (.builtin "isinstance") (rIsET X.K D a) := by
  intro pins s σ H xs us Q I r h
  obtain ⟨tp, cs, ws, b, rfl, hT, hc, e, q⟩ := h
  obtain ⟨u1, u2, rfl, r1, r2⟩ := vals2 r
  cases (show u1 = Value.ref a from r1)
  cases (show u2 = Value.ref tp from r2)
  obtain ⟨_, its, rv, o, g1, g2, n, g3⟩ := I.hok tp _ hT
  have same := ClsV.all hc rv
  subst same
  obtain ⟨here, _⟩ := I.pin (a, oe) (List.mem_append.mpr (.inl List.mem_cons_self))
  obtain ⟨vs, hv⟩ := hf
  obtain ⟨oc, od, oda, osl⟩ := oe
  obtain ⟨z1, z2⟩ := hz
  dsimp only at z1 z2 hv
  subst z1 z2 hv
  have J : PySem.W.InstAt s.heap a ⟨.ref D, none, .fields vs, osl⟩ D none := ⟨here, rfl, rfl, trivial⟩
  obtain ⟨tc, td, tda, tsl⟩ := o
  dsimp only at g2 g3
  subst g2 g3
  exact PySem.W.kia_tup (PySem.W.handS_kitx_exc C.hg C.hk C.hs C.hd C.ha C.hn C.ht C.hm) I.kIn J g1 e (fun z => nomatch z) fun tk => ⟨.bl b, H, I.kept (t' := tk) fun _ _ z => z, rfl, q⟩
section
variable {Z : Zz} {W : XK}
/-! a list into names -/
def dGU (n : Nat) (dr : DenGs) : DenG := fun x δ => match x with
  | .d (.list xs) => if xs.length = n then dr xs δ else none
  | _ => none
theorem sng_unl {n : Nat} {js : List Nat} {gs : TGs} {dr : DenGs} (h : SndGs Z js gs dr) : SndG Z js (gUnl Z.K n gs) (dGU n dr) := by
  intro H0 I H σ δ δ' v x c a hv e Q q
  unfold dGU at e
  split at e
  · split at e
    · rename_i hl
      cases hv with
      | lst s t => exact ⟨_, _, rfl, sqL_grows a.k.ex s, by rw [dps_len t]; exact hl, h _ _ _ _ _ _ _ _ c a t e Q q⟩
    · cases e
  · cases e
/-! the law's asker: call(value), told -/
def spAsk (P : Program) (w : World) (K : PySem.W.Frag) (mg : Str → Option Value) (base : Heap) (k : Nat) (tell : R Vl → R Vl) : Sp := fun vs H Q E => ∃ (g : Addr) (v : V), vs = [.ref g, v] ∧
  ∃ (fd : FuncData) (ps : List Str) (df : List Int → List Vl → Int → R Vl), FnG P w K mg base (L2.CX P w) k g fd ps (spD 1 K mg df) ∧ PySem.W.keepIn K (.ref g) = true ∧ Binds K fd ps [] ∧
  ∃ (Z : Zz) (I : Hp) (x : Vl) (c : Int), Z.K = K ∧ Z.cl = mg ∧ Ok Z I H c ∧ VOk Z I v x ∧ Res Z E I H (tell (df Z.ns [x] c)) (fun z _ I' H' => ∀ u, VOk Z I' u z → Q u H')
def dAsk (tell : R Vl → R Vl) (df : List Vl → Int → R Vl) (de : Den) : Den := fun δ c => (de δ c).bind fun x c => (tell (df [x] c)).calm
theorem snd_ask {P : Program} {w : World} {K : PySem.W.Frag} {mg : Str → Option Value} {base : Heap} {k : Nat} {tell : R Vl → R Vl} {g : Addr} {fd : FuncData} {ps : List Str} {df : List Int → List Vl → Int → R Vl} {sa : Option Addr} {ns : List Int} {te : TE} {de : Den}
    (G : FnG P w K mg base (L2.CX P w) k g fd ps (spD 1 K mg df)) (kp : PySem.W.keepIn K (.ref g) = true) (b : Binds K fd ps []) (he : SndE ⟨K, sa, ns, mg⟩ W te de) :
    SndE ⟨K, sa, ns, mg⟩ W (fun σ H Q => tCons (tC (.ref g)) (tCons te tNil) σ H fun xs H1 => spAsk P w K mg base k tell xs H1 Q E0) (dAsk tell (df ns) de) := by
  intro H0 I H σ δ c a Q h
  refine he _ _ _ _ _ _ a _ (Res.imp (Res.bind h) fun x c1 I1 H1 g1 k1 h1 v hv => ?_)
  exact ⟨g, v, rfl, fd, ps, df, G, kp, b, _, I1, x, c1, rfl, rfl, k1, hv, h1.calm⟩
end
end Dn
namespace My
open PySem PySem.Spec PyProof.Rows L2 Dn
def topS (i : Nat) : Stmt := PySem.Challenge.pw_paintershouse_k00_pixels_and_blends.main.body.getD i (.Pass ⟨0, 0, 0, 0⟩)
abbrev s__law_stream : Stmt := topS 23
abbrev N__law_stream : List Str := ["script", "numbers", "cell", "rest", "k", "stirred"]
theorem sc__law_stream : FnScope N__law_stream ["script"] (defScope s__law_stream) := ⟨rfl, rfl, rfl, by decide +kernel, rfl, by decide +kernel, by decide +kernel⟩
abbrev s__law_next : Stmt := topS 24
abbrev N__law_next : List Str := ["state", "many", "turn"]
theorem sc__law_next : FnScope N__law_next ["state", "many"] (defScope s__law_next) := ⟨rfl, rfl, rfl, by decide +kernel, rfl, by decide +kernel, by decide +kernel⟩
abbrev s__law_pixel : Stmt := topS 26
abbrev N__law_pixel : List Str := ["state", "cover", "colours", "k"]
theorem sc__law_pixel : FnScope N__law_pixel ["state"] (defScope s__law_pixel) := ⟨rfl, rfl, rfl, by decide +kernel, rfl, by decide +kernel, by decide +kernel⟩
abbrev s__law_level : Stmt := topS 25
abbrev N__law_level : List Str := ["state"]
theorem sc__law_level : FnScope N__law_level ["state"] (defScope s__law_level) := ⟨rfl, rfl, rfl, by decide +kernel, rfl, by decide +kernel, by decide +kernel⟩
abbrev s__law_same : Stmt := topS 22
abbrev N__law_same : List Str := ["told", "due"]
theorem sc__law_same : FnScope N__law_same ["told", "due"] (defScope s__law_same) := ⟨rfl, rfl, rfl, by decide +kernel, rfl, by decide +kernel, by decide +kernel⟩
abbrev s_scaled : Stmt := topS 16
abbrev N_scaled : List Str := ["first", "second"]
theorem sc_scaled : FnScope N_scaled ["first", "second"] (defScope s_scaled) := ⟨rfl, rfl, rfl, by decide +kernel, rfl, by decide +kernel, by decide +kernel⟩
abbrev s_mixed : Stmt := topS 17
abbrev N_mixed : List Str := ["first", "second", "level"]
theorem sc_mixed : FnScope N_mixed ["first", "second", "level"] (defScope s_mixed) := ⟨rfl, rfl, rfl, by decide +kernel, rfl, by decide +kernel, by decide +kernel⟩
abbrev s_put_together : Stmt := topS 18
abbrev N_put_together : List Str := ["mode", "below", "above"]
theorem sc_put_together : FnScope N_put_together ["mode", "below", "above"] (defScope s_put_together) := ⟨rfl, rfl, rfl, by decide +kernel, rfl, by decide +kernel, by decide +kernel⟩
abbrev s__law_scaled : Stmt := topS 27
abbrev N__law_scaled : List Str := ["first", "second"]
theorem sc__law_scaled : FnScope N__law_scaled ["first", "second"] (defScope s__law_scaled) := ⟨rfl, rfl, rfl, by decide +kernel, rfl, by decide +kernel, by decide +kernel⟩
abbrev s__law_mixed : Stmt := topS 28
abbrev N__law_mixed : List Str := ["first", "second", "level"]
theorem sc__law_mixed : FnScope N__law_mixed ["first", "second", "level"] (defScope s__law_mixed) := ⟨rfl, rfl, rfl, by decide +kernel, rfl, by decide +kernel, by decide +kernel⟩
abbrev s__law_made : Stmt := topS 29
abbrev N__law_made : List Str := ["mode", "below", "above"]
theorem sc__law_made : FnScope N__law_made ["mode", "below", "above"] (defScope s__law_made) := ⟨rfl, rfl, rfl, by decide +kernel, rfl, by decide +kernel, by decide +kernel⟩
abbrev s__law_numbers : Stmt := topS 34
abbrev N__law_numbers : List Str := ["state", "turn", "x", "y", "level", "mode", "k"]
theorem sc__law_numbers : FnScope N__law_numbers ["state"] (defScope s__law_numbers) := ⟨rfl, rfl, rfl, by decide +kernel, rfl, by decide +kernel, by decide +kernel⟩
abbrev s_blended : Stmt := topS 19
abbrev N_blended : List Str := ["mode", "below", "above", "level", "over", "rest", "cover", "colours", "k", "made", "colour"]
theorem sc_blended : FnScope N_blended ["mode", "below", "above", "level"] (defScope s_blended) := ⟨rfl, rfl, rfl, by decide +kernel, rfl, by decide +kernel, by decide +kernel⟩
abbrev s__law_told : Stmt := topS 32
abbrev N__law_told : List Str := ["call", "value", "e"]
theorem sc__law_told : FnScope N__law_told ["call", "value"] (defScope s__law_told) := ⟨rfl, rfl, rfl, by decide +kernel, rfl, by decide +kernel, by decide +kernel⟩
abbrev s_is_level : Stmt := topS 11
abbrev N_is_level : List Str := ["level"]
theorem sc_is_level : FnScope N_is_level ["level"] (defScope s_is_level) := ⟨rfl, rfl, rfl, by decide +kernel, rfl, by decide +kernel, by decide +kernel⟩
abbrev s_check_level : Stmt := topS 14
abbrev N_check_level : List Str := ["level"]
theorem sc_check_level : FnScope N_check_level ["level"] (defScope s_check_level) := ⟨rfl, rfl, rfl, by decide +kernel, rfl, by decide +kernel, by decide +kernel⟩
abbrev s_check_mode : Stmt := topS 15
abbrev N_check_mode : List Str := ["mode"]
theorem sc_check_mode : FnScope N_check_mode ["mode"] (defScope s_check_mode) := ⟨rfl, rfl, rfl, by decide +kernel, rfl, by decide +kernel, by decide +kernel⟩
abbrev s__law_is_pixel : Stmt := topS 33
abbrev N__law_is_pixel : List Str := ["pixel", "good", "level"]
theorem sc__law_is_pixel : FnScope N__law_is_pixel ["pixel"] (defScope s__law_is_pixel) := ⟨rfl, rfl, rfl, by decide +kernel, rfl, by decide +kernel, by decide +kernel⟩
abbrev s_faded : Stmt := topS 20
abbrev N_faded : List Str := ["pixel", "level", "cover"]
theorem sc_faded : FnScope N_faded ["pixel", "level"] (defScope s_faded) := ⟨rfl, rfl, rfl, by decide +kernel, rfl, by decide +kernel, by decide +kernel⟩
abbrev s__law_faded : Stmt := topS 31
abbrev N__law_faded : List Str := ["pixel", "level", "cover"]
theorem sc__law_faded : FnScope N__law_faded ["pixel", "level"] (defScope s__law_faded) := ⟨rfl, rfl, rfl, by decide +kernel, rfl, by decide +kernel, by decide +kernel⟩
abbrev s_is_pixel : Stmt := topS 12
abbrev N_is_pixel : List Str := ["pixel", "level"]
theorem sc_is_pixel : FnScope N_is_pixel ["pixel"] (defScope s_is_pixel) := ⟨rfl, rfl, rfl, by decide +kernel, rfl, by decide +kernel, by decide +kernel⟩
abbrev s_check_pixel : Stmt := topS 13
abbrev N_check_pixel : List Str := ["pixel"]
theorem sc_check_pixel : FnScope N_check_pixel ["pixel"] (defScope s_check_pixel) := ⟨rfl, rfl, rfl, by decide +kernel, rfl, by decide +kernel, by decide +kernel⟩
abbrev s__law_blended : Stmt := topS 30
abbrev N__law_blended : List Str := ["mode", "below", "above", "level", "cover", "rest", "whole", "found", "k", "colour"]
theorem sc__law_blended : FnScope N__law_blended ["mode", "below", "above", "level"] (defScope s__law_blended) := ⟨rfl, rfl, rfl, by decide +kernel, rfl, by decide +kernel, by decide +kernel⟩
abbrev s_law : Stmt := topS 35
abbrev N_law : List Str := ["script", "state", "level", "mode", "turn", "below", "above", "at", "odd", "one", "found", "full"]
theorem sc_law : FnScope N_law ["script"] (defScope s_law) := ⟨rfl, rfl, rfl, by decide +kernel, rfl, by decide +kernel, by decide +kernel⟩
def c_CLEAR : PyData := .tuple [.int (0), .int (0), .int (0), .int (0)]
def c_MODES : PyData := .tuple [.str "plain", .str "darker", .str "lighter", .str "times", .str "screen", .str "apart"]
structure Txt (K : PySem.W.Frag) (mg : Str → Option Value) where
  a__law_stream : Addr
  fd__law_stream : FuncData
  F__law_stream : Fun K "_law_stream" "_law_stream" s__law_stream a__law_stream fd__law_stream
  g__law_stream : mg "_law_stream" = some (.ref a__law_stream)
  b__law_stream : Binds K fd__law_stream ["script"] []
  a__law_next : Addr
  fd__law_next : FuncData
  F__law_next : Fun K "_law_next" "_law_next" s__law_next a__law_next fd__law_next
  g__law_next : mg "_law_next" = some (.ref a__law_next)
  b__law_next : Binds K fd__law_next ["state", "many"] []
  a__law_pixel : Addr
  fd__law_pixel : FuncData
  F__law_pixel : Fun K "_law_pixel" "_law_pixel" s__law_pixel a__law_pixel fd__law_pixel
  g__law_pixel : mg "_law_pixel" = some (.ref a__law_pixel)
  b__law_pixel : Binds K fd__law_pixel ["state"] []
  a__law_level : Addr
  fd__law_level : FuncData
  F__law_level : Fun K "_law_level" "_law_level" s__law_level a__law_level fd__law_level
  g__law_level : mg "_law_level" = some (.ref a__law_level)
  b__law_level : Binds K fd__law_level ["state"] []
  a__law_same : Addr
  fd__law_same : FuncData
  F__law_same : Fun K "_law_same" "_law_same" s__law_same a__law_same fd__law_same
  g__law_same : mg "_law_same" = some (.ref a__law_same)
  b__law_same : Binds K fd__law_same ["told", "due"] []
  a_scaled : Addr
  fd_scaled : FuncData
  F_scaled : Fun K "scaled" "scaled" s_scaled a_scaled fd_scaled
  g_scaled : mg "scaled" = some (.ref a_scaled)
  b_scaled : Binds K fd_scaled ["first", "second"] []
  a_mixed : Addr
  fd_mixed : FuncData
  F_mixed : Fun K "mixed" "mixed" s_mixed a_mixed fd_mixed
  g_mixed : mg "mixed" = some (.ref a_mixed)
  b_mixed : Binds K fd_mixed ["first", "second", "level"] []
  a_put_together : Addr
  fd_put_together : FuncData
  F_put_together : Fun K "put_together" "put_together" s_put_together a_put_together fd_put_together
  g_put_together : mg "put_together" = some (.ref a_put_together)
  b_put_together : Binds K fd_put_together ["mode", "below", "above"] []
  a__law_scaled : Addr
  fd__law_scaled : FuncData
  F__law_scaled : Fun K "_law_scaled" "_law_scaled" s__law_scaled a__law_scaled fd__law_scaled
  g__law_scaled : mg "_law_scaled" = some (.ref a__law_scaled)
  b__law_scaled : Binds K fd__law_scaled ["first", "second"] []
  a__law_mixed : Addr
  fd__law_mixed : FuncData
  F__law_mixed : Fun K "_law_mixed" "_law_mixed" s__law_mixed a__law_mixed fd__law_mixed
  g__law_mixed : mg "_law_mixed" = some (.ref a__law_mixed)
  b__law_mixed : Binds K fd__law_mixed ["first", "second", "level"] []
  a__law_made : Addr
  fd__law_made : FuncData
  F__law_made : Fun K "_law_made" "_law_made" s__law_made a__law_made fd__law_made
  g__law_made : mg "_law_made" = some (.ref a__law_made)
  b__law_made : Binds K fd__law_made ["mode", "below", "above"] []
  a__law_numbers : Addr
  fd__law_numbers : FuncData
  F__law_numbers : Fun K "_law_numbers" "_law_numbers" s__law_numbers a__law_numbers fd__law_numbers
  g__law_numbers : mg "_law_numbers" = some (.ref a__law_numbers)
  b__law_numbers : Binds K fd__law_numbers ["state"] []
  a_blended : Addr
  fd_blended : FuncData
  F_blended : Fun K "blended" "blended" s_blended a_blended fd_blended
  g_blended : mg "blended" = some (.ref a_blended)
  b_blended : Binds K fd_blended ["mode", "below", "above", "level"] []
  a__law_told : Addr
  fd__law_told : FuncData
  F__law_told : Fun K "_law_told" "_law_told" s__law_told a__law_told fd__law_told
  g__law_told : mg "_law_told" = some (.ref a__law_told)
  b__law_told : Binds K fd__law_told ["call", "value"] []
  a_is_level : Addr
  fd_is_level : FuncData
  F_is_level : Fun K "is_level" "is_level" s_is_level a_is_level fd_is_level
  g_is_level : mg "is_level" = some (.ref a_is_level)
  b_is_level : Binds K fd_is_level ["level"] []
  a_check_level : Addr
  fd_check_level : FuncData
  F_check_level : Fun K "check_level" "check_level" s_check_level a_check_level fd_check_level
  g_check_level : mg "check_level" = some (.ref a_check_level)
  b_check_level : Binds K fd_check_level ["level"] []
  a_check_mode : Addr
  fd_check_mode : FuncData
  F_check_mode : Fun K "check_mode" "check_mode" s_check_mode a_check_mode fd_check_mode
  g_check_mode : mg "check_mode" = some (.ref a_check_mode)
  b_check_mode : Binds K fd_check_mode ["mode"] []
  a__law_is_pixel : Addr
  fd__law_is_pixel : FuncData
  F__law_is_pixel : Fun K "_law_is_pixel" "_law_is_pixel" s__law_is_pixel a__law_is_pixel fd__law_is_pixel
  g__law_is_pixel : mg "_law_is_pixel" = some (.ref a__law_is_pixel)
  b__law_is_pixel : Binds K fd__law_is_pixel ["pixel"] []
  a_faded : Addr
  fd_faded : FuncData
  F_faded : Fun K "faded" "faded" s_faded a_faded fd_faded
  g_faded : mg "faded" = some (.ref a_faded)
  b_faded : Binds K fd_faded ["pixel", "level"] []
  a__law_faded : Addr
  fd__law_faded : FuncData
  F__law_faded : Fun K "_law_faded" "_law_faded" s__law_faded a__law_faded fd__law_faded
  g__law_faded : mg "_law_faded" = some (.ref a__law_faded)
  b__law_faded : Binds K fd__law_faded ["pixel", "level"] []
  a_is_pixel : Addr
  fd_is_pixel : FuncData
  F_is_pixel : Fun K "is_pixel" "is_pixel" s_is_pixel a_is_pixel fd_is_pixel
  g_is_pixel : mg "is_pixel" = some (.ref a_is_pixel)
  b_is_pixel : Binds K fd_is_pixel ["pixel"] []
  a_check_pixel : Addr
  fd_check_pixel : FuncData
  F_check_pixel : Fun K "check_pixel" "check_pixel" s_check_pixel a_check_pixel fd_check_pixel
  g_check_pixel : mg "check_pixel" = some (.ref a_check_pixel)
  b_check_pixel : Binds K fd_check_pixel ["pixel"] []
  a__law_blended : Addr
  fd__law_blended : FuncData
  F__law_blended : Fun K "_law_blended" "_law_blended" s__law_blended a__law_blended fd__law_blended
  g__law_blended : mg "_law_blended" = some (.ref a__law_blended)
  b__law_blended : Binds K fd__law_blended ["mode", "below", "above", "level"] []
  z_abs : mg "abs" = none
  z_all : mg "all" = none
  z_int : mg "int" = none
  z_isinstance : mg "isinstance" = none
  z_len : mg "len" = none
  z_max : mg "max" = none
  z_min : mg "min" = none
  z_range : mg "range" = none
  z_repr : mg "repr" = none
  z_tuple : mg "tuple" = none
  a_CLEAR : Addr
  g_CLEAR : mg "CLEAR" = some (.ref a_CLEAR)
  d_CLEAR : Dp K (fun _ => none) (.ref a_CLEAR) c_CLEAR
  g_MAX_LEVEL : ∃ t, mg "MAX_LEVEL" = some (Value.int 15 t)
  a_MODES : Addr
  g_MODES : mg "MODES" = some (.ref a_MODES)
  d_MODES : Dp K (fun _ => none) (.ref a_MODES) c_MODES
  e_NotAllowed : Exc1 K mg "NotAllowed"
  r_PaintError : Addr
  gr_PaintError : mg "PaintError" = some (.ref r_PaintError)
  r_TooLarge : Addr
  gr_TooLarge : mg "TooLarge" = some (.ref r_TooLarge)
  r_Missing : Addr
  gr_Missing : mg "Missing" = some (.ref r_Missing)
  r_BadPaper : Addr
  gr_BadPaper : mg "BadPaper" = some (.ref r_BadPaper)
  r_BadForm : Addr
  gr_BadForm : mg "BadForm" = some (.ref r_BadForm)
  ec_NotAllowed : ExcC K e_NotAllowed.a
  te_NotAllowed : PySem.W.exmOne K (.ref e_NotAllowed.a) (.ref e_NotAllowed.a) = some true
  is_NotAllowed_PaintError : PySem.W.kitOne K (.ref e_NotAllowed.a) (.ref r_PaintError) = some true
  no_NotAllowed : PySem.W.kitAny K (.ref e_NotAllowed.a) [.ref r_TooLarge, .ref r_Missing, .ref r_BadPaper, .ref r_BadForm] = some false
section
variable {P : Program} {w : World} {K : PySem.W.Frag} {mg : Str → Option Value} {base : Heap}
def D__law_stream (ns : List Int) : DenS := dSeq (dNew 1 (dLst (dNil))) (dSeq (dFor (dIL (dL (dSlL (dVar 0) (dNoO) (dSoO (dC (.d (.int 63))))))) (dName 2) (dSeq (dSet 3 (dCB gAbs (dCons (dCB gInt1 (dCons (dVar 2) (dNil))) (dNil)))) (dIfS (dTe (dOp (aGe) (dVar 3) (dOp aPow (dC (.d (.int 10))) (dC (.d (.int 18)))))) (dFor (dI1 (dCons (dC (.d (.int 60))) (dNil))) (dName 4) (dSeq (dApp 1 (dOp aMod (dCB gInt1 (dCons (dVar 3) (dNil))) (dC (.d (.int 1009))))) (dSeq (dSet 3 (dOp aDiv (dVar 3) (dC (.d (.int 1009))))) (dIfS (dTe (dOp (gEq false) (dVar 3) (dC (.d (.int 0))))) (dBreak) (dNext))))) (dSeq (dSet 5 (dOp aMod (dCB gInt1 (dCons (dVar 3) (dNil))) (dC (.d (.int 2147483647))))) (dFor (dI1 (dCons (dC (.d (.int 10))) (dNil))) (dName 4) (dSeq (dSet 5 (dOp aMod (dCB gInt1 (dCons (dOp aAdd (dOp aAdd (dOp aMul (dVar 5) (dC (.d (.int 48271)))) (dOp aMul (dC (.d (.int 7))) (dVar 4))) (dC (.d (.int 11)))) (dNil))) (dC (.d (.int 2147483647))))) (dApp 1 (dOp aMod (dOp aMod (dCB gInt1 (dCons (dOp aAdd (dOp aMul (dVar 5) (dC (.d (.int 69621)))) (dVar 4)) (dNil))) (dC (.d (.int 2147483629)))) (dC (.d (.int 1009))))))))))) (dSeq (dIfS (dTe (dOp (gEq false) (dLenO 1) (dC (.d (.int 0))))) (dApp 1 (dC (.d (.int 0)))) (dNext)) (dRetO 1)))
def V__law_stream (ns : List Int) : List Vl → Int → R Vl := dDef 5 (D__law_stream ns)
theorem ok__law_stream (T : Txt K mg) : FnG P w K mg base CX0 1 T.a__law_stream T.fd__law_stream ["script"] (spD 1 K mg V__law_stream) := by
  refine fnD 1 5 D__law_stream T.F__law_stream sc__law_stream rfl rfl fun cdv A outer s H E hg hr => ⟨_, PSs.nox (pss_cons (ps_set (i := 1) sc__law_stream.nd rfl (Or.inl rfl) (pe_lst (pa_nil))) (pss_cons (ps_for PassesOwn.never rfl (pi_listK (K := K) rfl (pe_slice (r := rSlL K) sl_list (pv 0) (po_none) (po_some (pe_int)))) (pg_name (i := 2) sc__law_stream.nd rfl (Or.inl rfl)) (pss_cons (ps_set (i := 3) sc__law_stream.nd rfl (Or.inl rfl) (pe_callB call_abs (by rfl) T.z_abs (by decide +kernel) (pa_cons (pe_callTy call_int1 (by rfl) T.z_int (by decide +kernel) (pa_cons (pv 2) (pa_nil))) (pa_nil)))) (pss_one (ps_if (pt_cmpR op_ge (pv 3) (pe_op op_pow (pe_int) (pe_int)) (by first | exact nomark _ | rfl)) (pss_one (ps_for PassesOwn.never rfl (pi_range1 (by rfl) T.z_range (pa_cons (pe_int) (pa_nil))) (pg_name (i := 4) sc__law_stream.nd rfl (Or.inl rfl)) (pss_cons (ps_expr (pe_bm PySem.F.plainAttrs_list PySem.F.slot_list_append PySem.F.type_list_append mt_append (pv 1) (pa_cons (pe_op op_mod (pe_callTy call_int1 (by rfl) T.z_int (by decide +kernel) (pa_cons (pv 3) (pa_nil))) (pe_int)) pa_nil))) (pss_cons (ps_set (i := 3) sc__law_stream.nd rfl (Or.inl rfl) (pe_op op_fdivW (pv 3) (pe_int))) (pss_one (ps_if (pt_cmpR (r := rEqD K) (op_eqD hr.units) (pv 3) (pe_int) (by first | exact nomark _ | rfl)) (pss_one (ps_break)) (pss_nil))))))) (pss_cons (ps_set (i := 5) sc__law_stream.nd rfl (Or.inl rfl) (pe_op op_mod (pe_callTy call_int1 (by rfl) T.z_int (by decide +kernel) (pa_cons (pv 3) (pa_nil))) (pe_int))) (pss_one (ps_for PassesOwn.never rfl (pi_range1 (by rfl) T.z_range (pa_cons (pe_int) (pa_nil))) (pg_name (i := 4) sc__law_stream.nd rfl (Or.inl rfl)) (pss_cons (ps_set (i := 5) sc__law_stream.nd rfl (Or.inl rfl) (pe_op op_mod (pe_callTy call_int1 (by rfl) T.z_int (by decide +kernel) (pa_cons (pe_op op_add (pe_op op_add (pe_op op_mulW (pv 5) (pe_int)) (pe_op op_mulW (pe_int) (pv 4))) (pe_int)) (pa_nil))) (pe_int))) (pss_one (ps_expr (pe_bm PySem.F.plainAttrs_list PySem.F.slot_list_append PySem.F.type_list_append mt_append (pv 1) (pa_cons (pe_op op_mod (pe_op op_mod (pe_callTy call_int1 (by rfl) T.z_int (by decide +kernel) (pa_cons (pe_op op_add (pe_op op_mulW (pv 5) (pe_int)) (pv 4)) (pa_nil))) (pe_int)) (pe_int)) pa_nil)))))))))))) (pss_cons (ps_if (pt_cmpR (r := rEqD K) (op_eqD hr.units) (pe_callB (r := rLenA K) call_len (by rfl) T.z_len (by decide +kernel) (pa_cons (pv 1) pa_nil)) (pe_int) (by first | exact nomark _ | rfl)) (pss_one (ps_expr (pe_bm PySem.F.plainAttrs_list PySem.F.slot_list_append PySem.F.type_list_append mt_append (pv 1) (pa_cons (pe_int) pa_nil)))) (pss_nil)) (pss_one (ps_ret (pv 1)))))), fun Z hK hC => ?_⟩
  obtain ⟨K2, sa, ns, cl⟩ := Z
  cases hK
  cases hC
  exact sns_seq (sns_new (snd_lst (snd_nil))) (sns_seq (sns_for (snd_iL (snd_ofL (snd_slL (snd_var) (snd_noO) (snd_soO (snd_int))))) (sng_name) (sns_seq (sns_set (snd_callB rc_abs (snd_cons (snd_callB rc_int1 (snd_cons (snd_var) (snd_nil))) (snd_nil)))) (sns_if (snd_test (snd_op rr_ge (snd_var) (snd_op rr_pow (snd_int) (snd_int)))) (sns_for (snd_i1 (snd_cons (snd_int) (snd_nil))) (sng_name) (sns_seq (sns_app (snd_op rr_mod (snd_callB rc_int1 (snd_cons (snd_var) (snd_nil))) (snd_int))) (sns_seq (sns_set (snd_op rr_fdiv (snd_var) (snd_int))) (sns_if (snd_test (snd_op rr_eq (snd_var) (snd_int))) (sns_break) (sns_next))))) (sns_seq (sns_set (snd_op rr_mod (snd_callB rc_int1 (snd_cons (snd_var) (snd_nil))) (snd_int))) (sns_for (snd_i1 (snd_cons (snd_int) (snd_nil))) (sng_name) (sns_seq (sns_set (snd_op rr_mod (snd_callB rc_int1 (snd_cons (snd_op rr_add (snd_op rr_add (snd_op rr_mul (snd_var) (snd_int)) (snd_op rr_mul (snd_int) (snd_var))) (snd_int)) (snd_nil))) (snd_int))) (sns_app (snd_op rr_mod (snd_op rr_mod (snd_callB rc_int1 (snd_cons (snd_op rr_add (snd_op rr_mul (snd_var) (snd_int)) (snd_var)) (snd_nil))) (snd_int)) (snd_int))))))))) (sns_seq (sns_if (snd_test (snd_op rr_eq (snd_lenO) (snd_int))) (sns_app (snd_int)) (sns_next)) (sns_retO)))
def D__law_next (ns : List Int) : DenS := dSeq (dStSet 0 (dOp aAdd (dSt1 0) (dC (.d (.int 1))))) (dSeq (dSet 2 (dOp aDiv (dSt1 0) (dCB gLen (dCons (dSt0 ns 0) (dNil))))) (dRet (dOp aMod (dCB gInt1 (dCons (dOp aAdd (dOp aAdd (dOp gIx (dSt0 ns 0) (dOp aMod (dSt1 0) (dCB gLen (dCons (dSt0 ns 0) (dNil))))) (dOp aMul (dVar 2) (dC (.d (.int 389))))) (dOp aMul (dOp aMul (dSt1 0) (dVar 2)) (dC (.d (.int 17))))) (dNil))) (dVar 1))))
def V__law_next (ns : List Int) : List Vl → Int → R Vl := dDef 1 (D__law_next ns)
theorem ok__law_next (T : Txt K mg) : FnG P w K mg base CX0 1 T.a__law_next T.fd__law_next ["state", "many"] (spD 2 K mg V__law_next) := by
  refine fnD 2 1 D__law_next T.F__law_next sc__law_next rfl rfl fun cdv A outer s H E hg hr => ⟨_, PSs.nox (pss_cons (ps_asg (pe_op op_add (pe_ix (r := rIx K) ix_seq (pv 0) pe_int (fun _ _ => rfl)) (pe_int)) (pg_sub (pv 0) pe_int set_list)) (pss_cons (ps_set (i := 2) sc__law_next.nd rfl (Or.inl rfl) (pe_op op_fdivW (pe_ix (r := rIx K) ix_seq (pv 0) pe_int (fun _ _ => rfl)) (pe_callB (r := rLenA K) call_len (by rfl) T.z_len (by decide +kernel) (pa_cons (pe_ix (r := rIx K) ix_seq (pv 0) pe_int (fun _ _ => rfl)) (pa_nil))))) (pss_one (ps_ret (pe_op op_mod (pe_callTy call_int1 (by rfl) T.z_int (by decide +kernel) (pa_cons (pe_op op_add (pe_op op_add (pe_ix (r := rIx K) ix_seq (pe_ix (r := rIx K) ix_seq (pv 0) pe_int (fun _ _ => rfl)) (pe_op op_mod (pe_ix (r := rIx K) ix_seq (pv 0) pe_int (fun _ _ => rfl)) (pe_callB (r := rLenA K) call_len (by rfl) T.z_len (by decide +kernel) (pa_cons (pe_ix (r := rIx K) ix_seq (pv 0) pe_int (fun _ _ => rfl)) (pa_nil)))) (fun _ _ => rfl)) (pe_op op_mulW (pv 2) (pe_int))) (pe_op op_mulW (pe_op op_mulW (pe_ix (r := rIx K) ix_seq (pv 0) pe_int (fun _ _ => rfl)) (pv 2)) (pe_int))) (pa_nil))) (pv 1)))))), fun Z hK hC => ?_⟩
  obtain ⟨K2, sa, ns, cl⟩ := Z
  cases hK
  cases hC
  exact sns_seq (sns_stSet (snd_op rr_add (snd_st1) (snd_int))) (sns_seq (sns_set (snd_op rr_fdiv (snd_st1) (snd_callB rc_len (snd_cons (snd_st0) (snd_nil))))) (sns_ret (snd_op rr_mod (snd_callB rc_int1 (snd_cons (snd_op rr_add (snd_op rr_add (snd_op rr_ix (snd_st0) (snd_op rr_mod (snd_st1) (snd_callB rc_len (snd_cons (snd_st0) (snd_nil))))) (snd_op rr_mul (snd_var) (snd_int))) (snd_op rr_mul (snd_op rr_mul (snd_st1) (snd_var)) (snd_int))) (snd_nil))) (snd_var))))
def D__law_pixel (ns : List Int) : DenS := dSeq (dSet 1 (dOp gIx (dL (dLst (dCons (dCall0 2 (V__law_next ns) (dCons (dVar 0) (dCons (dC (.d (.int 16))) (dNil)))) (dCons (dC (.d (.int 15))) (dCons (dC (.d (.int 0))) (dCons (dC (.d (.int 15))) (dCons (dC (.d (.int 8))) (dNil)))))))) (dCall0 2 (V__law_next ns) (dCons (dVar 0) (dCons (dC (.d (.int 5))) (dNil)))))) (dSeq (dSet 2 (dL (dLc [3] (dI1 (dCons (dC (.d (.int 3))) (dNil))) (dName 3) (dYes) (dOp gIx (dL (dLst (dCons (dCall0 2 (V__law_next ns) (dCons (dVar 0) (dCons (dC (.d (.int 16))) (dNil)))) (dCons (dC (.d (.int 0))) (dCons (dC (.d (.int 15))) (dNil)))))) (dCall0 2 (V__law_next ns) (dCons (dVar 0) (dCons (dC (.d (.int 3))) (dNil)))))))) (dRet (dOp gIx (dL (dLst (dCons (dTup (dCons (dOp gIx (dVar 2) (dC (.d (.int 0)))) (dCons (dOp gIx (dVar 2) (dC (.d (.int 1)))) (dCons (dOp gIx (dVar 2) (dC (.d (.int 2)))) (dCons (dVar 1) (dNil)))))) (dCons (dTup (dCons (dC (.d (.int 0))) (dCons (dC (.d (.int 0))) (dCons (dC (.d (.int 0))) (dCons (dC (.d (.int 0))) (dNil)))))) (dNil))))) (dCB gInt1 (dCons (dOp (gEq false) (dVar 1) (dC (.d (.int 0)))) (dNil))))))
def V__law_pixel (ns : List Int) : List Vl → Int → R Vl := dDef 3 (D__law_pixel ns)
theorem ok__law_pixel (T : Txt K mg) : FnG P w K mg base CX0 2 T.a__law_pixel T.fd__law_pixel ["state"] (spD 1 K mg V__law_pixel) := by
  refine fnD 1 3 D__law_pixel T.F__law_pixel sc__law_pixel rfl rfl fun cdv A outer s H E hg hr => ⟨_, PSs.nox (pss_cons (ps_set (i := 1) sc__law_pixel.nd rfl (Or.inl rfl) (pe_ix (r := rIx K) ix_seq (pe_lst (pa_cons (pe_callG (ok__law_next T) hg (hr.mono (by decide)) (by rfl) T.g__law_next T.F__law_next.kp T.b__law_next pass0 (pa_cons (pv 0) (pa_cons (pe_int) (pa_nil)))) (pa_cons (pe_int) (pa_cons (pe_int) (pa_cons (pe_int) (pa_cons (pe_int) (pa_nil))))))) (pe_callG (ok__law_next T) hg (hr.mono (by decide)) (by rfl) T.g__law_next T.F__law_next.kp T.b__law_next pass0 (pa_cons (pv 0) (pa_cons (pe_int) (pa_nil)))) (fun _ _ => rfl))) (pss_cons (ps_setLc (i := 2) (own := [("k", 3)]) rfl sc__law_pixel.nd rfl rfl (sw_true rfl rfl rfl (by decide +kernel)) (pi_range1 (by rfl) T.z_range (pa_cons (pe_int) (pa_nil))) (blkOk_by (own := [("k", 3)]) (N := N__law_pixel) (sc := defScope s__law_pixel) (by decide +kernel)) (fun _ _ _ _ _ => pg_name (i := 3) sc__law_pixel.nd rfl (Or.inl rfl)) (fun _ _ _ _ _ => pts_nil) (fun _ _ _ _ _ => pe_ix (r := rIx K) ix_seq (pe_lst (pa_cons (pe_callG (ok__law_next T) hg (hr.mono (by decide)) (by rfl) T.g__law_next T.F__law_next.kp T.b__law_next pass0 (pa_cons (pv 0) (pa_cons (pe_int) (pa_nil)))) (pa_cons (pe_int) (pa_cons (pe_int) (pa_nil))))) (pe_callG (ok__law_next T) hg (hr.mono (by decide)) (by rfl) T.g__law_next T.F__law_next.kp T.b__law_next pass0 (pa_cons (pv 0) (pa_cons (pe_int) (pa_nil)))) (fun _ _ => rfl))) (pss_one (ps_ret (pe_ix (r := rIx K) ix_seq (pe_lst (pa_cons (pe_tup (pa_cons (pe_ix (r := rIx K) ix_seq (pv 2) (pe_int) (fun _ _ => rfl)) (pa_cons (pe_ix (r := rIx K) ix_seq (pv 2) (pe_int) (fun _ _ => rfl)) (pa_cons (pe_ix (r := rIx K) ix_seq (pv 2) (pe_int) (fun _ _ => rfl)) (pa_cons (pv 1) (pa_nil)))))) (pa_cons (pe_tup (pa_cons (pe_int) (pa_cons (pe_int) (pa_cons (pe_int) (pa_cons (pe_int) (pa_nil)))))) (pa_nil)))) (pe_callTy call_int1 (by rfl) T.z_int (by decide +kernel) (pa_cons (pe_cmpR (r := rEqD K) (op_eqD hr.units) (pv 1) (pe_int) (by first | exact nomark _ | rfl)) (pa_nil))) (fun _ _ => rfl)))))), fun Z hK hC => ?_⟩
  obtain ⟨K2, sa, ns, cl⟩ := Z
  cases hK
  cases hC
  exact sns_seq (sns_set (snd_op rr_ix (snd_ofL (snd_lst (snd_cons (snd_call0 (snd_cons (snd_var) (snd_cons (snd_int) (snd_nil)))) (snd_cons (snd_int) (snd_cons (snd_int) (snd_cons (snd_int) (snd_cons (snd_int) (snd_nil)))))))) (snd_call0 (snd_cons (snd_var) (snd_cons (snd_int) (snd_nil)))))) (sns_seq (sns_set (snd_ofL (snd_lc (vs := [3]) (by decide) (snd_i1 (snd_cons (snd_int) (snd_nil))) (sng_name) (snd_yes) (snd_op rr_ix (snd_ofL (snd_lst (snd_cons (snd_call0 (snd_cons (snd_var) (snd_cons (snd_int) (snd_nil)))) (snd_cons (snd_int) (snd_cons (snd_int) (snd_nil)))))) (snd_call0 (snd_cons (snd_var) (snd_cons (snd_int) (snd_nil)))))))) (sns_ret (snd_op rr_ix (snd_ofL (snd_lst (snd_cons (snd_tup (snd_cons (snd_op rr_ix (snd_var) (snd_int)) (snd_cons (snd_op rr_ix (snd_var) (snd_int)) (snd_cons (snd_op rr_ix (snd_var) (snd_int)) (snd_cons (snd_var) (snd_nil)))))) (snd_cons (snd_tup (snd_cons (snd_int) (snd_cons (snd_int) (snd_cons (snd_int) (snd_cons (snd_int) (snd_nil)))))) (snd_nil))))) (snd_callB rc_int1 (snd_cons (snd_op rr_eq (snd_var) (snd_int)) (snd_nil))))))
def D__law_level (ns : List Int) : DenS := dRet (dOp gIx (dL (dLst (dCons (dCall0 2 (V__law_next ns) (dCons (dVar 0) (dCons (dC (.d (.int 16))) (dNil)))) (dCons (dC (.d (.int 0))) (dCons (dC (.d (.int 15))) (dCons (dC (.d (.int 8))) (dNil))))))) (dCall0 2 (V__law_next ns) (dCons (dVar 0) (dCons (dC (.d (.int 4))) (dNil)))))
def V__law_level (ns : List Int) : List Vl → Int → R Vl := dDef 0 (D__law_level ns)
theorem ok__law_level (T : Txt K mg) : FnG P w K mg base CX0 2 T.a__law_level T.fd__law_level ["state"] (spD 1 K mg V__law_level) := by
  refine fnD 1 0 D__law_level T.F__law_level sc__law_level rfl rfl fun cdv A outer s H E hg hr => ⟨_, PSs.nox (pss_one (ps_ret (pe_ix (r := rIx K) ix_seq (pe_lst (pa_cons (pe_callG (ok__law_next T) hg (hr.mono (by decide)) (by rfl) T.g__law_next T.F__law_next.kp T.b__law_next pass0 (pa_cons (pv 0) (pa_cons (pe_int) (pa_nil)))) (pa_cons (pe_int) (pa_cons (pe_int) (pa_cons (pe_int) (pa_nil)))))) (pe_callG (ok__law_next T) hg (hr.mono (by decide)) (by rfl) T.g__law_next T.F__law_next.kp T.b__law_next pass0 (pa_cons (pv 0) (pa_cons (pe_int) (pa_nil)))) (fun _ _ => rfl)))), fun Z hK hC => ?_⟩
  obtain ⟨K2, sa, ns, cl⟩ := Z
  cases hK
  cases hC
  exact sns_ret (snd_op rr_ix (snd_ofL (snd_lst (snd_cons (snd_call0 (snd_cons (snd_var) (snd_cons (snd_int) (snd_nil)))) (snd_cons (snd_int) (snd_cons (snd_int) (snd_cons (snd_int) (snd_nil))))))) (snd_call0 (snd_cons (snd_var) (snd_cons (snd_int) (snd_nil)))))
def D__law_same (ns : List Int) : DenS := dRet (dOp (gEqS) (dCB gRepr (dCons (dL (dLst (dCons (dVar 0) (dNil)))) (dNil))) (dCB gRepr (dCons (dL (dLst (dCons (dVar 1) (dNil)))) (dNil))))
def V__law_same (ns : List Int) : List Vl → Int → R Vl := dDef 0 (D__law_same ns)
theorem ok__law_same (T : Txt K mg) : FnG P w K mg base CX0 1 T.a__law_same T.fd__law_same ["told", "due"] (spD 2 K mg V__law_same) := by
  refine fnD 2 0 D__law_same T.F__law_same sc__law_same rfl rfl fun cdv A outer s H E hg hr => ⟨_, PSs.nox (pss_one (ps_ret (pe_cmpR op_eq (pe_callB (r := rRepr K) (call_reprD hg (guard_room hr)) (by rfl) T.z_repr (by decide +kernel) (pa_cons (pe_lst (pa_cons (pv 0) (pa_nil))) (pa_nil))) (pe_callB (r := rRepr K) (call_reprD hg (guard_room hr)) (by rfl) T.z_repr (by decide +kernel) (pa_cons (pe_lst (pa_cons (pv 1) (pa_nil))) (pa_nil))) (by first | exact nomark _ | rfl)))), fun Z hK hC => ?_⟩
  obtain ⟨K2, sa, ns, cl⟩ := Z
  cases hK
  cases hC
  exact sns_ret (snd_op rr_eqS (snd_callB rc_repr (snd_cons (snd_ofL (snd_lst (snd_cons (snd_var) (snd_nil)))) (snd_nil))) (snd_callB rc_repr (snd_cons (snd_ofL (snd_lst (snd_cons (snd_var) (snd_nil)))) (snd_nil))))
def D_scaled (ns : List Int) : DenS := dRet (dOp aDiv (dOp aAdd (dOp aMul (dVar 0) (dVar 1)) (dC (.d (.int 7)))) (dC (.d (.int 15))))
def V_scaled (ns : List Int) : List Vl → Int → R Vl := dDef 0 (D_scaled ns)
theorem ok_scaled (T : Txt K mg) : FnG P w K mg base CX0 1 T.a_scaled T.fd_scaled ["first", "second"] (spD 2 K mg V_scaled) := by
  refine fnD 2 0 D_scaled T.F_scaled sc_scaled rfl rfl fun cdv A outer s H E hg hr => ⟨_, PSs.nox (pss_one (ps_ret (pe_op op_fdivW (pe_op op_add (pe_op op_mulW (pv 0) (pv 1)) (pe_int)) (pe_int)))), fun Z hK hC => ?_⟩
  obtain ⟨K2, sa, ns, cl⟩ := Z
  cases hK
  cases hC
  exact sns_ret (snd_op rr_fdiv (snd_op rr_add (snd_op rr_mul (snd_var) (snd_var)) (snd_int)) (snd_int))
def D_mixed (ns : List Int) : DenS := dRet (dOp aDiv (dOp aAdd (dOp aAdd (dOp aMul (dVar 0) (dOp aSub (dC (.d (.int 15))) (dVar 2))) (dOp aMul (dVar 1) (dVar 2))) (dC (.d (.int 7)))) (dC (.d (.int 15))))
def V_mixed (ns : List Int) : List Vl → Int → R Vl := dDef 0 (D_mixed ns)
theorem ok_mixed (T : Txt K mg) : FnG P w K mg base CX0 1 T.a_mixed T.fd_mixed ["first", "second", "level"] (spD 3 K mg V_mixed) := by
  refine fnD 3 0 D_mixed T.F_mixed sc_mixed rfl rfl fun cdv A outer s H E hg hr => ⟨_, PSs.nox (pss_one (ps_ret (pe_op op_fdivW (pe_op op_add (pe_op op_add (pe_op op_mulW (pv 0) (pe_op op_sub (pe_int) (pv 2))) (pe_op op_mulW (pv 1) (pv 2))) (pe_int)) (pe_int)))), fun Z hK hC => ?_⟩
  obtain ⟨K2, sa, ns, cl⟩ := Z
  cases hK
  cases hC
  exact sns_ret (snd_op rr_fdiv (snd_op rr_add (snd_op rr_add (snd_op rr_mul (snd_var) (snd_op rr_sub (snd_int) (snd_var))) (snd_op rr_mul (snd_var) (snd_var))) (snd_int)) (snd_int))
def D_put_together (ns : List Int) : DenS := dSeq (dIfS (dTe (dOp (gEq false) (dVar 0) (dC (.d (.str "darker"))))) (dRet (dCB gMin2 (dCons (dVar 1) (dCons (dVar 2) (dNil))))) (dNext)) (dSeq (dIfS (dTe (dOp (gEq false) (dVar 0) (dC (.d (.str "lighter"))))) (dRet (dCB gMax2 (dCons (dVar 1) (dCons (dVar 2) (dNil))))) (dNext)) (dSeq (dIfS (dTe (dOp (gEq false) (dVar 0) (dC (.d (.str "times"))))) (dRet (dCall0 2 (V_scaled ns) (dCons (dVar 1) (dCons (dVar 2) (dNil))))) (dNext)) (dSeq (dIfS (dTe (dOp (gEq false) (dVar 0) (dC (.d (.str "screen"))))) (dRet (dOp aSub (dC (.d (.int 15))) (dCall0 2 (V_scaled ns) (dCons (dOp aSub (dC (.d (.int 15))) (dVar 1)) (dCons (dOp aSub (dC (.d (.int 15))) (dVar 2)) (dNil)))))) (dNext)) (dSeq (dIfS (dTe (dOp (gEq false) (dVar 0) (dC (.d (.str "apart"))))) (dRet (dCB gAbs (dCons (dOp aSub (dVar 1) (dVar 2)) (dNil)))) (dNext)) (dRet (dVar 2))))))
def V_put_together (ns : List Int) : List Vl → Int → R Vl := dDef 0 (D_put_together ns)
theorem ok_put_together (T : Txt K mg) : FnG P w K mg base CX0 2 T.a_put_together T.fd_put_together ["mode", "below", "above"] (spD 3 K mg V_put_together) := by
  refine fnD 3 0 D_put_together T.F_put_together sc_put_together rfl rfl fun cdv A outer s H E hg hr => ⟨_, PSs.nox (pss_cons (ps_if (pt_cmpR (r := rEqD K) (op_eqD hr.units) (pv 0) (pe_str) (by first | exact nomark _ | rfl)) (pss_one (ps_ret (pe_callB (call_min2 rfl) (by rfl) T.z_min (by decide +kernel) (pa_cons (pv 1) (pa_cons (pv 2) (pa_nil)))))) (pss_nil)) (pss_cons (ps_if (pt_cmpR (r := rEqD K) (op_eqD hr.units) (pv 0) (pe_str) (by first | exact nomark _ | rfl)) (pss_one (ps_ret (pe_callB (call_max2 rfl) (by rfl) T.z_max (by decide +kernel) (pa_cons (pv 1) (pa_cons (pv 2) (pa_nil)))))) (pss_nil)) (pss_cons (ps_if (pt_cmpR (r := rEqD K) (op_eqD hr.units) (pv 0) (pe_str) (by first | exact nomark _ | rfl)) (pss_one (ps_ret (pe_callG (ok_scaled T) hg (hr.mono (by decide)) (by rfl) T.g_scaled T.F_scaled.kp T.b_scaled pass0 (pa_cons (pv 1) (pa_cons (pv 2) (pa_nil)))))) (pss_nil)) (pss_cons (ps_if (pt_cmpR (r := rEqD K) (op_eqD hr.units) (pv 0) (pe_str) (by first | exact nomark _ | rfl)) (pss_one (ps_ret (pe_op op_sub (pe_int) (pe_callG (ok_scaled T) hg (hr.mono (by decide)) (by rfl) T.g_scaled T.F_scaled.kp T.b_scaled pass0 (pa_cons (pe_op op_sub (pe_int) (pv 1)) (pa_cons (pe_op op_sub (pe_int) (pv 2)) (pa_nil))))))) (pss_nil)) (pss_cons (ps_if (pt_cmpR (r := rEqD K) (op_eqD hr.units) (pv 0) (pe_str) (by first | exact nomark _ | rfl)) (pss_one (ps_ret (pe_callB call_abs (by rfl) T.z_abs (by decide +kernel) (pa_cons (pe_op op_sub (pv 1) (pv 2)) (pa_nil))))) (pss_nil)) (pss_one (ps_ret (pv 2)))))))), fun Z hK hC => ?_⟩
  obtain ⟨K2, sa, ns, cl⟩ := Z
  cases hK
  cases hC
  exact sns_seq (sns_if (snd_test (snd_op rr_eq (snd_var) (snd_str))) (sns_ret (snd_callB rc_min2 (snd_cons (snd_var) (snd_cons (snd_var) (snd_nil))))) (sns_next)) (sns_seq (sns_if (snd_test (snd_op rr_eq (snd_var) (snd_str))) (sns_ret (snd_callB rc_max2 (snd_cons (snd_var) (snd_cons (snd_var) (snd_nil))))) (sns_next)) (sns_seq (sns_if (snd_test (snd_op rr_eq (snd_var) (snd_str))) (sns_ret (snd_call0 (snd_cons (snd_var) (snd_cons (snd_var) (snd_nil))))) (sns_next)) (sns_seq (sns_if (snd_test (snd_op rr_eq (snd_var) (snd_str))) (sns_ret (snd_op rr_sub (snd_int) (snd_call0 (snd_cons (snd_op rr_sub (snd_int) (snd_var)) (snd_cons (snd_op rr_sub (snd_int) (snd_var)) (snd_nil)))))) (sns_next)) (sns_seq (sns_if (snd_test (snd_op rr_eq (snd_var) (snd_str))) (sns_ret (snd_callB rc_abs (snd_cons (snd_op rr_sub (snd_var) (snd_var)) (snd_nil)))) (sns_next)) (sns_ret (snd_var))))))
def D__law_scaled (ns : List Int) : DenS := dRet (dOp aDiv (dOp aAdd (dOp aMul (dVar 0) (dVar 1)) (dC (.d (.int 7)))) (dC (.d (.int 15))))
def V__law_scaled (ns : List Int) : List Vl → Int → R Vl := dDef 0 (D__law_scaled ns)
theorem ok__law_scaled (T : Txt K mg) : FnG P w K mg base CX0 1 T.a__law_scaled T.fd__law_scaled ["first", "second"] (spD 2 K mg V__law_scaled) := by
  refine fnD 2 0 D__law_scaled T.F__law_scaled sc__law_scaled rfl rfl fun cdv A outer s H E hg hr => ⟨_, PSs.nox (pss_one (ps_ret (pe_op op_fdivW (pe_op op_add (pe_op op_mulW (pv 0) (pv 1)) (pe_int)) (pe_int)))), fun Z hK hC => ?_⟩
  obtain ⟨K2, sa, ns, cl⟩ := Z
  cases hK
  cases hC
  exact sns_ret (snd_op rr_fdiv (snd_op rr_add (snd_op rr_mul (snd_var) (snd_var)) (snd_int)) (snd_int))
def D__law_mixed (ns : List Int) : DenS := dRet (dOp aDiv (dOp aAdd (dOp aAdd (dOp aMul (dVar 0) (dOp aSub (dC (.d (.int 15))) (dVar 2))) (dOp aMul (dVar 1) (dVar 2))) (dC (.d (.int 7)))) (dC (.d (.int 15))))
def V__law_mixed (ns : List Int) : List Vl → Int → R Vl := dDef 0 (D__law_mixed ns)
theorem ok__law_mixed (T : Txt K mg) : FnG P w K mg base CX0 1 T.a__law_mixed T.fd__law_mixed ["first", "second", "level"] (spD 3 K mg V__law_mixed) := by
  refine fnD 3 0 D__law_mixed T.F__law_mixed sc__law_mixed rfl rfl fun cdv A outer s H E hg hr => ⟨_, PSs.nox (pss_one (ps_ret (pe_op op_fdivW (pe_op op_add (pe_op op_add (pe_op op_mulW (pv 0) (pe_op op_sub (pe_int) (pv 2))) (pe_op op_mulW (pv 1) (pv 2))) (pe_int)) (pe_int)))), fun Z hK hC => ?_⟩
  obtain ⟨K2, sa, ns, cl⟩ := Z
  cases hK
  cases hC
  exact sns_ret (snd_op rr_fdiv (snd_op rr_add (snd_op rr_add (snd_op rr_mul (snd_var) (snd_op rr_sub (snd_int) (snd_var))) (snd_op rr_mul (snd_var) (snd_var))) (snd_int)) (snd_int))
def D__law_made (ns : List Int) : DenS := dSeq (dIfS (dTe (dOp (gEq false) (dVar 0) (dC (.d (.str "darker"))))) (dRet (dCB gMin2 (dCons (dVar 1) (dCons (dVar 2) (dNil))))) (dNext)) (dSeq (dIfS (dTe (dOp (gEq false) (dVar 0) (dC (.d (.str "lighter"))))) (dRet (dCB gMax2 (dCons (dVar 1) (dCons (dVar 2) (dNil))))) (dNext)) (dSeq (dIfS (dTe (dOp (gEq false) (dVar 0) (dC (.d (.str "times"))))) (dRet (dCall0 2 (V__law_scaled ns) (dCons (dVar 1) (dCons (dVar 2) (dNil))))) (dNext)) (dSeq (dIfS (dTe (dOp (gEq false) (dVar 0) (dC (.d (.str "screen"))))) (dRet (dOp aSub (dC (.d (.int 15))) (dCall0 2 (V__law_scaled ns) (dCons (dOp aSub (dC (.d (.int 15))) (dVar 1)) (dCons (dOp aSub (dC (.d (.int 15))) (dVar 2)) (dNil)))))) (dNext)) (dSeq (dIfS (dTe (dOp (gEq false) (dVar 0) (dC (.d (.str "apart"))))) (dRet (dOp aSub (dCB gMax2 (dCons (dVar 1) (dCons (dVar 2) (dNil)))) (dCB gMin2 (dCons (dVar 1) (dCons (dVar 2) (dNil)))))) (dNext)) (dRet (dVar 2))))))
def V__law_made (ns : List Int) : List Vl → Int → R Vl := dDef 0 (D__law_made ns)
theorem ok__law_made (T : Txt K mg) : FnG P w K mg base CX0 2 T.a__law_made T.fd__law_made ["mode", "below", "above"] (spD 3 K mg V__law_made) := by
  refine fnD 3 0 D__law_made T.F__law_made sc__law_made rfl rfl fun cdv A outer s H E hg hr => ⟨_, PSs.nox (pss_cons (ps_if (pt_cmpR (r := rEqD K) (op_eqD hr.units) (pv 0) (pe_str) (by first | exact nomark _ | rfl)) (pss_one (ps_ret (pe_callB (call_min2 rfl) (by rfl) T.z_min (by decide +kernel) (pa_cons (pv 1) (pa_cons (pv 2) (pa_nil)))))) (pss_nil)) (pss_cons (ps_if (pt_cmpR (r := rEqD K) (op_eqD hr.units) (pv 0) (pe_str) (by first | exact nomark _ | rfl)) (pss_one (ps_ret (pe_callB (call_max2 rfl) (by rfl) T.z_max (by decide +kernel) (pa_cons (pv 1) (pa_cons (pv 2) (pa_nil)))))) (pss_nil)) (pss_cons (ps_if (pt_cmpR (r := rEqD K) (op_eqD hr.units) (pv 0) (pe_str) (by first | exact nomark _ | rfl)) (pss_one (ps_ret (pe_callG (ok__law_scaled T) hg (hr.mono (by decide)) (by rfl) T.g__law_scaled T.F__law_scaled.kp T.b__law_scaled pass0 (pa_cons (pv 1) (pa_cons (pv 2) (pa_nil)))))) (pss_nil)) (pss_cons (ps_if (pt_cmpR (r := rEqD K) (op_eqD hr.units) (pv 0) (pe_str) (by first | exact nomark _ | rfl)) (pss_one (ps_ret (pe_op op_sub (pe_int) (pe_callG (ok__law_scaled T) hg (hr.mono (by decide)) (by rfl) T.g__law_scaled T.F__law_scaled.kp T.b__law_scaled pass0 (pa_cons (pe_op op_sub (pe_int) (pv 1)) (pa_cons (pe_op op_sub (pe_int) (pv 2)) (pa_nil))))))) (pss_nil)) (pss_cons (ps_if (pt_cmpR (r := rEqD K) (op_eqD hr.units) (pv 0) (pe_str) (by first | exact nomark _ | rfl)) (pss_one (ps_ret (pe_op op_sub (pe_callB (call_max2 rfl) (by rfl) T.z_max (by decide +kernel) (pa_cons (pv 1) (pa_cons (pv 2) (pa_nil)))) (pe_callB (call_min2 rfl) (by rfl) T.z_min (by decide +kernel) (pa_cons (pv 1) (pa_cons (pv 2) (pa_nil))))))) (pss_nil)) (pss_one (ps_ret (pv 2)))))))), fun Z hK hC => ?_⟩
  obtain ⟨K2, sa, ns, cl⟩ := Z
  cases hK
  cases hC
  exact sns_seq (sns_if (snd_test (snd_op rr_eq (snd_var) (snd_str))) (sns_ret (snd_callB rc_min2 (snd_cons (snd_var) (snd_cons (snd_var) (snd_nil))))) (sns_next)) (sns_seq (sns_if (snd_test (snd_op rr_eq (snd_var) (snd_str))) (sns_ret (snd_callB rc_max2 (snd_cons (snd_var) (snd_cons (snd_var) (snd_nil))))) (sns_next)) (sns_seq (sns_if (snd_test (snd_op rr_eq (snd_var) (snd_str))) (sns_ret (snd_call0 (snd_cons (snd_var) (snd_cons (snd_var) (snd_nil))))) (sns_next)) (sns_seq (sns_if (snd_test (snd_op rr_eq (snd_var) (snd_str))) (sns_ret (snd_op rr_sub (snd_int) (snd_call0 (snd_cons (snd_op rr_sub (snd_int) (snd_var)) (snd_cons (snd_op rr_sub (snd_int) (snd_var)) (snd_nil)))))) (sns_next)) (sns_seq (sns_if (snd_test (snd_op rr_eq (snd_var) (snd_str))) (sns_ret (snd_op rr_sub (snd_callB rc_max2 (snd_cons (snd_var) (snd_cons (snd_var) (snd_nil)))) (snd_callB rc_min2 (snd_cons (snd_var) (snd_cons (snd_var) (snd_nil)))))) (sns_next)) (sns_ret (snd_var))))))
def D__law_numbers (ns : List Int) : DenS := dSeq (dFor (dI1 (dCons (dC (.d (.int 40))) (dNil))) (dName 1) (dSeq (dUnp (dL (dLc [6] (dI1 (dCons (dC (.d (.int 3))) (dNil))) (dName 6) (dYes) (dCall0 2 (V__law_next ns) (dCons (dVar 0) (dCons (dC (.d (.int 16))) (dNil)))))) (dGU 3 (dGC (dName 2) (dGC (dName 3) (dGC (dName 4) (dGN)))))) (dSeq (dSet 5 (dOp gIx (dL (dLst (dCons (dC (.d (.str "plain"))) (dCons (dC (.d (.str "darker"))) (dCons (dC (.d (.str "lighter"))) (dCons (dC (.d (.str "times"))) (dCons (dC (.d (.str "screen"))) (dCons (dC (.d (.str "apart"))) (dNil))))))))) (dCall0 2 (V__law_next ns) (dCons (dVar 0) (dCons (dC (.d (.int 6))) (dNil)))))) (dIfS (dNot (dTe (dCall0 2 (V__law_same ns) (dCons (dL (dLst (dCons (dCall0 2 (V_scaled ns) (dCons (dVar 2) (dCons (dVar 3) (dNil)))) (dCons (dCall0 3 (V_mixed ns) (dCons (dVar 2) (dCons (dVar 3) (dCons (dVar 4) (dNil))))) (dCons (dCall0 3 (V_put_together ns) (dCons (dVar 5) (dCons (dVar 2) (dCons (dVar 3) (dNil))))) (dNil)))))) (dCons (dL (dLst (dCons (dCall0 2 (V__law_scaled ns) (dCons (dVar 2) (dCons (dVar 3) (dNil)))) (dCons (dCall0 3 (V__law_mixed ns) (dCons (dVar 2) (dCons (dVar 3) (dCons (dVar 4) (dNil))))) (dCons (dCall0 3 (V__law_made ns) (dCons (dVar 5) (dCons (dVar 2) (dCons (dVar 3) (dNil))))) (dNil)))))) (dNil)))))) (dRet (dC (.d (.bool false)))) (dNext))))) (dRet (dC (.d (.bool true))))
def V__law_numbers (ns : List Int) : List Vl → Int → R Vl := dDef 6 (D__law_numbers ns)
theorem ok__law_numbers (T : Txt K mg) : FnG P w K mg base CX0 3 T.a__law_numbers T.fd__law_numbers ["state"] (spD 1 K mg V__law_numbers) := by
  refine fnD 1 6 D__law_numbers T.F__law_numbers sc__law_numbers rfl rfl fun cdv A outer s H E hg hr => ⟨_, PSs.nox (pss_cons (ps_for PassesOwn.never rfl (pi_range1 (by rfl) T.z_range (pa_cons (pe_int) (pa_nil))) (pg_name (i := 1) sc__law_numbers.nd rfl (Or.inl rfl)) (pss_cons (ps_asg (pe_lc (own := [("k", 6)]) rfl sc__law_numbers.nd (pi_range1 (by rfl) T.z_range (pa_cons (pe_int) (pa_nil))) (blkOk_by (own := [("k", 6)]) (N := N__law_numbers) (sc := defScope s__law_numbers) (by decide +kernel)) (fun _ _ _ _ _ => pg_name (i := 6) sc__law_numbers.nd rfl (Or.inl rfl)) (fun _ _ _ _ _ => pts_nil) (fun _ _ _ _ _ => pe_callG (ok__law_next T) hg (hr.mono (by decide)) (by rfl) T.g__law_next T.F__law_next.kp T.b__law_next pass0 (pa_cons (pv 0) (pa_cons (pe_int) (pa_nil))))) (pg_unl rfl (pgs_cons (pg_name (i := 2) sc__law_numbers.nd rfl (Or.inl rfl)) (pgs_cons (pg_name (i := 3) sc__law_numbers.nd rfl (Or.inl rfl)) (pgs_cons (pg_name (i := 4) sc__law_numbers.nd rfl (Or.inl rfl)) (pgs_nil)))))) (pss_cons (ps_set (i := 5) sc__law_numbers.nd rfl (Or.inl rfl) (pe_ix (r := rIx K) ix_seq (pe_lst (pa_cons (pe_str) (pa_cons (pe_str) (pa_cons (pe_str) (pa_cons (pe_str) (pa_cons (pe_str) (pa_cons (pe_str) (pa_nil)))))))) (pe_callG (ok__law_next T) hg (hr.mono (by decide)) (by rfl) T.g__law_next T.F__law_next.kp T.b__law_next pass0 (pa_cons (pv 0) (pa_cons (pe_int) (pa_nil)))) (fun _ _ => rfl))) (pss_one (ps_if (pt_not (pt_val (pe_callG (ok__law_same T) hg (hr.mono (by decide)) (by rfl) T.g__law_same T.F__law_same.kp T.b__law_same pass0 (pa_cons (pe_lst (pa_cons (pe_callG (ok_scaled T) hg (hr.mono (by decide)) (by rfl) T.g_scaled T.F_scaled.kp T.b_scaled pass0 (pa_cons (pv 2) (pa_cons (pv 3) (pa_nil)))) (pa_cons (pe_callG (ok_mixed T) hg (hr.mono (by decide)) (by rfl) T.g_mixed T.F_mixed.kp T.b_mixed pass0 (pa_cons (pv 2) (pa_cons (pv 3) (pa_cons (pv 4) (pa_nil))))) (pa_cons (pe_callG (ok_put_together T) hg (hr.mono (by decide)) (by rfl) T.g_put_together T.F_put_together.kp T.b_put_together pass0 (pa_cons (pv 5) (pa_cons (pv 2) (pa_cons (pv 3) (pa_nil))))) (pa_nil))))) (pa_cons (pe_lst (pa_cons (pe_callG (ok__law_scaled T) hg (hr.mono (by decide)) (by rfl) T.g__law_scaled T.F__law_scaled.kp T.b__law_scaled pass0 (pa_cons (pv 2) (pa_cons (pv 3) (pa_nil)))) (pa_cons (pe_callG (ok__law_mixed T) hg (hr.mono (by decide)) (by rfl) T.g__law_mixed T.F__law_mixed.kp T.b__law_mixed pass0 (pa_cons (pv 2) (pa_cons (pv 3) (pa_cons (pv 4) (pa_nil))))) (pa_cons (pe_callG (ok__law_made T) hg (hr.mono (by decide)) (by rfl) T.g__law_made T.F__law_made.kp T.b__law_made pass0 (pa_cons (pv 5) (pa_cons (pv 2) (pa_cons (pv 3) (pa_nil))))) (pa_nil))))) (pa_nil)))))) (pss_one (ps_ret (pe_bl))) (pss_nil)))))) (pss_one (ps_ret (pe_bl)))), fun Z hK hC => ?_⟩
  obtain ⟨K2, sa, ns, cl⟩ := Z
  cases hK
  cases hC
  exact sns_seq (sns_for (snd_i1 (snd_cons (snd_int) (snd_nil))) (sng_name) (sns_seq (sns_unp (snd_ofL (snd_lc (vs := [6]) (by decide) (snd_i1 (snd_cons (snd_int) (snd_nil))) (sng_name) (snd_yes) (snd_call0 (snd_cons (snd_var) (snd_cons (snd_int) (snd_nil)))))) (sng_unl (sng_cons (sng_name) (sng_cons (sng_name) (sng_cons (sng_name) (sng_nil)))))) (sns_seq (sns_set (snd_op rr_ix (snd_ofL (snd_lst (snd_cons (snd_str) (snd_cons (snd_str) (snd_cons (snd_str) (snd_cons (snd_str) (snd_cons (snd_str) (snd_cons (snd_str) (snd_nil))))))))) (snd_call0 (snd_cons (snd_var) (snd_cons (snd_int) (snd_nil)))))) (sns_if (snd_not (snd_tB (snd_call0 (snd_cons (snd_ofL (snd_lst (snd_cons (snd_call0 (snd_cons (snd_var) (snd_cons (snd_var) (snd_nil)))) (snd_cons (snd_call0 (snd_cons (snd_var) (snd_cons (snd_var) (snd_cons (snd_var) (snd_nil))))) (snd_cons (snd_call0 (snd_cons (snd_var) (snd_cons (snd_var) (snd_cons (snd_var) (snd_nil))))) (snd_nil)))))) (snd_cons (snd_ofL (snd_lst (snd_cons (snd_call0 (snd_cons (snd_var) (snd_cons (snd_var) (snd_nil)))) (snd_cons (snd_call0 (snd_cons (snd_var) (snd_cons (snd_var) (snd_cons (snd_var) (snd_nil))))) (snd_cons (snd_call0 (snd_cons (snd_var) (snd_cons (snd_var) (snd_cons (snd_var) (snd_nil))))) (snd_nil)))))) (snd_nil)))))) (sns_ret (snd_bl)) (sns_next))))) (sns_ret (snd_bl))
def D_blended (ns : List Int) : DenS := dSeq (dSet 4 (dCall0 2 (V_scaled ns) (dCons (dOp gIx (dVar 2) (dC (.d (.int 3)))) (dCons (dVar 3) (dNil))))) (dSeq (dSet 5 (dCall0 2 (V_scaled ns) (dCons (dOp gIx (dVar 1) (dC (.d (.int 3)))) (dCons (dOp aSub (dC (.d (.int 15))) (dVar 4)) (dNil))))) (dSeq (dSet 6 (dOp aAdd (dVar 4) (dVar 5))) (dSeq (dIfS (dTe (dOp (gEq false) (dVar 6) (dC (.d (.int 0))))) (dRet (dC (.d c_CLEAR))) (dNext)) (dSeq (dNew 7 (dLst (dNil))) (dSeq (dFor (dI1 (dCons (dC (.d (.int 3))) (dNil))) (dName 8) (dSeq (dSet 9 (dCall0 3 (V_put_together ns) (dCons (dVar 0) (dCons (dOp gIx (dVar 1) (dVar 8)) (dCons (dOp gIx (dVar 2) (dVar 8)) (dNil)))))) (dSeq (dSet 10 (dCall0 3 (V_mixed ns) (dCons (dOp gIx (dVar 2) (dVar 8)) (dCons (dVar 9) (dCons (dOp gIx (dVar 1) (dC (.d (.int 3)))) (dNil)))))) (dApp 7 (dOp aDiv (dOp aAdd (dOp aAdd (dOp aMul (dOp gIx (dVar 1) (dVar 8)) (dVar 5)) (dOp aMul (dVar 10) (dVar 4))) (dOp aDiv (dVar 6) (dC (.d (.int 2))))) (dVar 6)))))) (dRet (dTup (dCons (dIxO 7 (dC (.d (.int 0)))) (dCons (dIxO 7 (dC (.d (.int 1)))) (dCons (dIxO 7 (dC (.d (.int 2)))) (dCons (dVar 6) (dNil))))))))))))
def V_blended (ns : List Int) : List Vl → Int → R Vl := dDef 7 (D_blended ns)
theorem ok_blended (T : Txt K mg) : FnG P w K mg base CX0 3 T.a_blended T.fd_blended ["mode", "below", "above", "level"] (spD 4 K mg V_blended) := by
  refine fnD 4 7 D_blended T.F_blended sc_blended rfl rfl fun cdv A outer s H E hg hr => ⟨_, PSs.nox (pss_cons (ps_set (i := 4) sc_blended.nd rfl (Or.inl rfl) (pe_callG (ok_scaled T) hg (hr.mono (by decide)) (by rfl) T.g_scaled T.F_scaled.kp T.b_scaled pass0 (pa_cons (pe_ix (r := rIx K) ix_seq (pv 2) (pe_int) (fun _ _ => rfl)) (pa_cons (pv 3) (pa_nil))))) (pss_cons (ps_set (i := 5) sc_blended.nd rfl (Or.inl rfl) (pe_callG (ok_scaled T) hg (hr.mono (by decide)) (by rfl) T.g_scaled T.F_scaled.kp T.b_scaled pass0 (pa_cons (pe_ix (r := rIx K) ix_seq (pv 1) (pe_int) (fun _ _ => rfl)) (pa_cons (pe_op op_sub (pe_int) (pv 4)) (pa_nil))))) (pss_cons (ps_set (i := 6) sc_blended.nd rfl (Or.inl rfl) (pe_op op_add (pv 4) (pv 5))) (pss_cons (ps_if (pt_cmpR (r := rEqD K) (op_eqD hr.units) (pv 6) (pe_int) (by first | exact nomark _ | rfl)) (pss_one (ps_ret (pe_glob (v := V.ref T.a_CLEAR) (by rfl) T.g_CLEAR rfl))) (pss_nil)) (pss_cons (ps_set (i := 7) sc_blended.nd rfl (Or.inl rfl) (pe_lst (pa_nil))) (pss_cons (ps_for PassesOwn.never rfl (pi_range1 (by rfl) T.z_range (pa_cons (pe_int) (pa_nil))) (pg_name (i := 8) sc_blended.nd rfl (Or.inl rfl)) (pss_cons (ps_set (i := 9) sc_blended.nd rfl (Or.inl rfl) (pe_callG (ok_put_together T) hg (hr.mono (by decide)) (by rfl) T.g_put_together T.F_put_together.kp T.b_put_together pass0 (pa_cons (pv 0) (pa_cons (pe_ix (r := rIx K) ix_seq (pv 1) (pv 8) (fun _ _ => rfl)) (pa_cons (pe_ix (r := rIx K) ix_seq (pv 2) (pv 8) (fun _ _ => rfl)) (pa_nil)))))) (pss_cons (ps_set (i := 10) sc_blended.nd rfl (Or.inl rfl) (pe_callG (ok_mixed T) hg (hr.mono (by decide)) (by rfl) T.g_mixed T.F_mixed.kp T.b_mixed pass0 (pa_cons (pe_ix (r := rIx K) ix_seq (pv 2) (pv 8) (fun _ _ => rfl)) (pa_cons (pv 9) (pa_cons (pe_ix (r := rIx K) ix_seq (pv 1) (pe_int) (fun _ _ => rfl)) (pa_nil)))))) (pss_one (ps_expr (pe_bm PySem.F.plainAttrs_list PySem.F.slot_list_append PySem.F.type_list_append mt_append (pv 7) (pa_cons (pe_op op_fdivW (pe_op op_add (pe_op op_add (pe_op op_mulW (pe_ix (r := rIx K) ix_seq (pv 1) (pv 8) (fun _ _ => rfl)) (pv 5)) (pe_op op_mulW (pv 10) (pv 4))) (pe_op op_fdivW (pv 6) (pe_int))) (pv 6)) pa_nil))))))) (pss_one (ps_ret (pe_tup (pa_cons (pe_ix (r := rIx K) ix_seq (pv 7) (pe_int) (fun _ _ => rfl)) (pa_cons (pe_ix (r := rIx K) ix_seq (pv 7) (pe_int) (fun _ _ => rfl)) (pa_cons (pe_ix (r := rIx K) ix_seq (pv 7) (pe_int) (fun _ _ => rfl)) (pa_cons (pv 6) (pa_nil)))))))))))))), fun Z hK hC => ?_⟩
  obtain ⟨K2, sa, ns, cl⟩ := Z
  cases hK
  cases hC
  exact sns_seq (sns_set (snd_call0 (snd_cons (snd_op rr_ix (snd_var) (snd_int)) (snd_cons (snd_var) (snd_nil))))) (sns_seq (sns_set (snd_call0 (snd_cons (snd_op rr_ix (snd_var) (snd_int)) (snd_cons (snd_op rr_sub (snd_int) (snd_var)) (snd_nil))))) (sns_seq (sns_set (snd_op rr_add (snd_var) (snd_var))) (sns_seq (sns_if (snd_test (snd_op rr_eq (snd_var) (snd_int))) (sns_ret (snd_glob T.d_CLEAR)) (sns_next)) (sns_seq (sns_new (snd_lst (snd_nil))) (sns_seq (sns_for (snd_i1 (snd_cons (snd_int) (snd_nil))) (sng_name) (sns_seq (sns_set (snd_call0 (snd_cons (snd_var) (snd_cons (snd_op rr_ix (snd_var) (snd_var)) (snd_cons (snd_op rr_ix (snd_var) (snd_var)) (snd_nil)))))) (sns_seq (sns_set (snd_call0 (snd_cons (snd_op rr_ix (snd_var) (snd_var)) (snd_cons (snd_var) (snd_cons (snd_op rr_ix (snd_var) (snd_int)) (snd_nil)))))) (sns_app (snd_op rr_fdiv (snd_op rr_add (snd_op rr_add (snd_op rr_mul (snd_op rr_ix (snd_var) (snd_var)) (snd_var)) (snd_op rr_mul (snd_var) (snd_var))) (snd_op rr_fdiv (snd_var) (snd_int))) (snd_var)))))) (sns_ret (snd_tup (snd_cons (snd_ixO (snd_int)) (snd_cons (snd_ixO (snd_int)) (snd_cons (snd_ixO (snd_int)) (snd_cons (snd_var) (snd_nil))))))))))))
def tell__law_told : R Vl → R Vl
  | .ok (.d .none) c => .ok (.d (.str "fine")) c
  | .ex k none c => if k = ("NotAllowed" : Str) then .ok (.d (.str "refused")) c else .no
  | _ => .no
def tSuite (K : PySem.W.Frag) (D pe tl mi bp bf a : Addr) : TS := tRet (tOp (rIx K) (tLst (tCons (tC (.str "odd")) (tCons (tC (.str "refused")) tNil)))
  (tCB (fun xs H Q => (∃ i, xs = [.int i] ∧ Q (.int i) H) ∨ ∃ k, xs = [.bl k] ∧ Q (.int (if k then 1 else 0)) H) (tCons (tAndV (tCB (rIsE K D a) (tCons (tVar 2) (tCons (tC (.ref pe)) tNil)))
    (tNotV (tCB (rIsET K D a) (tCons (tVar 2) (tCons (tTup (tCons (tC (.ref tl)) (tCons (tC (.ref mi)) (tCons (tC (.ref bp)) (tCons (tC (.ref bf)) tNil))))) tNil))))) tNil)))
theorem cls_rel {c : Addr} : ∀ u, RelV (.ref c) u → u = .ref c := fun _ h => h
theorem ok__law_told (T : Txt K mg) : FnG P w K mg base CX0 4 T.a__law_told T.fd__law_told ["call", "value"] (spAsk P w K mg base 3 tell__law_told) := by
  refine FnG.body T.F__law_told sc__law_told (fun vs H Q E h => ?_) (fun cdv A outer s H vs Q E hg hr h => ?_)
  · obtain ⟨g, v, rfl, _⟩ := h
    rfl
  obtain ⟨g, v, rfl, fd, ps, df, G, kp, b, Z, I, x, c, hK, hC, k0, hv, h⟩ := h
  obtain ⟨K2, sa, ns, cl⟩ := Z
  obtain rfl : K = K2 := hK.symm
  obtain rfl : mg = cl := hC.symm
  refine ⟨_, PSs.nox (pss_one (ps_try_as (i := 2) (ts := fun a cls d => if cls = .ref T.e_NotAllowed.a ∧ d = none then tSuite K T.e_NotAllowed.a T.r_PaintError T.r_TooLarge T.r_Missing T.r_BadPaper T.r_BadForm a else tNever) rfl rfl sc__law_told.nd rfl rfl ⟨by rfl, by decide, .inl T.e_NotAllowed.g⟩ takes0
    (fun W pn xe tk _ => pss_one (ps_ret (pe_ix (r := rIx K) ix_seq (pe_lst (pa_cons pe_str (pa_cons pe_str pa_nil))) (pe_callTy call_int1 (by rfl) T.z_int (by decide +kernel) (pa_cons (pe_cmpR op_isN (pe_localG (i := 0) G hg (hr.mono (by decide)) rfl (.inl rfl) kp b (fun σ => passAt tk σ) (pa_cons (pv 1) pa_nil)) pe_non (by first | exact nomark _ | rfl)) pa_nil)) (fun _ _ => rfl))))
    (fun a oe cls d pn hz hf => ?_))), ?_⟩
  · by_cases e : cls = .ref T.e_NotAllowed.a ∧ d = none
    · rw [if_pos e]
      obtain ⟨rfl, rfl⟩ := e
      exact pss_one (ps_ret (pe_ix (r := rIx K) ix_seq (pe_lst (pa_cons pe_str (pa_cons pe_str pa_nil))) (pe_callTy call_int1 (by rfl) T.z_int (by decide +kernel) (pa_cons (pe_and (pe_callB (call_isE T.ec_NotAllowed hz hf) (by rfl) T.z_isinstance (by decide +kernel) (pa_cons (pv 2) (pa_cons (pe_glob (v := .ref T.r_PaintError) (by rfl) T.gr_PaintError rfl) pa_nil)))
        (pe_one (pe_not (pe_callB (call_isET T.ec_NotAllowed hz hf) (by rfl) T.z_isinstance (by decide +kernel) (pa_cons (pv 2) (pa_cons (pe_tup (pa_cons (pe_glob (v := .ref T.r_TooLarge) (by rfl) T.gr_TooLarge rfl) (pa_cons (pe_glob (v := .ref T.r_Missing) (by rfl) T.gr_Missing rfl) (pa_cons (pe_glob (v := .ref T.r_BadPaper) (by rfl) T.gr_BadPaper rfl) (pa_cons (pe_glob (v := .ref T.r_BadForm) (by rfl) T.gr_BadForm rfl) pa_nil))))) pa_nil)))))) pa_nil)) (fun _ _ => rfl)))
    · rw [if_neg e]
      exact pss_never
  · -- the reading
    refine ⟨by show 2 ≤ sizeLine; decide, fun l hl => ?_⟩
    obtain ⟨g1, k1⟩ := Gr.own (o := .lst [V.str "odd", V.str "fine"]) k0 hl
    refine ⟨rfl, v, rfl, rfl, ⟨K, sa, ns, mg⟩, I, [x], c, rfl, rfl, k1, .cons hv .nil, ?_⟩
    have h2 := Res.base g1 h
    cases q : df ns [x] c with
    | no => rw [show (Zz.ns ⟨K, sa, ns, mg⟩) = ns from rfl, q] at h2; exact h2.elim
    | ok y c2 =>
      rw [show (Zz.ns ⟨K, sa, ns, mg⟩) = ns from rfl, q] at h2
      unfold tell__law_told at h2
      split at h2
      · rename_i e
        cases e
        intro I2 H2 g2 k2 u hu
        cases hu
        refine ⟨rfl, .inr ⟨true, rfl, ?_⟩⟩
        have hl2 : H2 l = some (.lst [V.str "odd", V.str "fine"]) := g2.hh l _ (freshS k0 hl) upd_same
        exact .inl ⟨l, _, 1, .str "fine", rfl, rfl, .inl (.inl hl2), rfl, h2 I2 H2 g2 k2 _ (.str _)⟩
      · rename_i e; cases e
      · exact h2.elim
    | ex k p c2 =>
      rw [show (Zz.ns ⟨K, sa, ns, mg⟩) = ns from rfl, q] at h2
      unfold tell__law_told at h2
      split at h2
      · rename_i e; cases e
      · rename_i e
        cases e
        split at h2
        · rename_i ek
          subst ek
          intro I2 H2 cls d g2 k2 hcl hd
          have ec : cls = .ref T.e_NotAllowed.a := Option.some.inj (hcl.symm.trans T.e_NotAllowed.g)
          have ed : d = none := hd
          subst ec ed
          refine ⟨true, T.te_NotAllowed, fun _ a ha => ?_, fun z => nomatch z⟩
          show (if (Value.ref T.e_NotAllowed.a = .ref T.e_NotAllowed.a ∧ (none : Option Addr) = none) then tSuite K T.e_NotAllowed.a T.r_PaintError T.r_TooLarge T.r_Missing T.r_BadPaper T.r_BadForm a else tNever) _ _ _
          rw [if_pos ⟨rfl, rfl⟩]
          refine ⟨by show 2 ≤ sizeLine; decide, fun m hm => ?_⟩
          obtain ⟨g3, k3⟩ := Gr.own (o := .lst [V.str "odd", V.str "refused"]) k2 hm
          refine ⟨.ref a, rfl, .ref T.r_PaintError, _, true, rfl, cls_rel, T.is_NotAllowed_PaintError, true, rfl, ?_⟩
          refine ⟨.ref a, rfl, by show 4 ≤ sizeLine; decide, fun t ht => ?_⟩
          obtain ⟨g4, k4⟩ := Gr.own (o := .tup [V.ref T.r_TooLarge, V.ref T.r_Missing, V.ref T.r_BadPaper, V.ref T.r_BadForm]) k3 ht
          refine ⟨t, _, _, false, rfl, upd_same, .cons (.own _) (.cons (.own _) (.cons (.own _) (.cons (.own _) .nil))), T.no_NotAllowed, false, rfl, ?_⟩
          refine .inr ⟨true, rfl, ?_⟩
          have hm2 : (upd (upd H2 m (.lst [V.str "odd", V.str "refused"])) t (.tup [V.ref T.r_TooLarge, V.ref T.r_Missing, V.ref T.r_BadPaper, V.ref T.r_BadForm])) m = some (.lst [V.str "odd", V.str "refused"]) := g4.hh m _ (freshS k2 hm) upd_same
          have gg := g2.trans (g3.trans g4)
          exact .inl ⟨m, _, 1, .str "refused", rfl, rfl, .inl (.inl hm2), rfl, h2 _ _ gg k4 _ (.str _)⟩
        · exact h2.elim
      · exact h2.elim

def D_is_level (ns : List Int) : DenS := dRet (dChain (aLe) (aLe) (dC (.d (.int 0))) (dVar 0) (dC (.d (.int 15))))
def V_is_level (ns : List Int) : List Vl → Int → R Vl := dDef 0 (D_is_level ns)
theorem ok_is_level (T : Txt K mg) : FnG P w K mg base CX0 1 T.a_is_level T.fd_is_level ["level"] (spD 1 K mg V_is_level) := by
  refine fnD 1 0 D_is_level T.F_is_level sc_is_level rfl rfl fun cdv A outer s H E hg hr => ⟨_, PSs.nox (pss_one (ps_ret (pe_chain op_le op_le (pe_int) (pv 0) (pe_glob (v := V.int 15) (by rfl) T.g_MAX_LEVEL.choose_spec ⟨_, rfl⟩)))), fun Z hK hC => ?_⟩
  obtain ⟨K2, sa, ns, cl⟩ := Z
  cases hK
  cases hC
  exact sns_ret (snd_chain rr_le rr_le (snd_int) (snd_var) (snd_int))
def D_check_level (ns : List Int) : DenS := dIfS (dNot (dTe (dCall0 1 (V_is_level ns) (dCons (dVar 0) (dNil))))) (dRaise "NotAllowed") (dNext)
def V_check_level (ns : List Int) : List Vl → Int → R Vl := dDef 0 (D_check_level ns)
theorem ok_check_level (T : Txt K mg) : FnG P w K mg base (L2.CX P w) 2 T.a_check_level T.fd_check_level ["level"] (spD 1 K mg V_check_level) := by
  refine fnD 1 0 D_check_level T.F_check_level sc_check_level rfl rfl fun cdv A outer s H E hg hr => ⟨_, (pss_one (ps_if (pt_not (pt_val (pe_callG (ok_is_level T) hg (hr.mono (by decide)) (by rfl) T.g_is_level T.F_is_level.kp T.b_is_level pass0 (pa_cons (pv 0) (pa_nil))))) (pss_one (ps_raise rfl (takes_of rfl rfl rfl rfl) (pmk_own PySem.F.excBase_ValueError T.e_NotAllowed.x1 T.e_NotAllowed.g T.e_NotAllowed.k (raises_own T.e_NotAllowed.bs T.e_NotAllowed.ty) (by rfl)))) (pss_nil))), fun Z hK hC => ?_⟩
  obtain ⟨K2, sa, ns, cl⟩ := Z
  cases hK
  cases hC
  exact sns_if (snd_not (snd_tB (snd_call0 (snd_cons (snd_var) (snd_nil))))) (sns_raise T.e_NotAllowed.g) (sns_next)
def D_check_mode (ns : List Int) : DenS := dIfS (dTe (dOp (gIn true) (dVar 0) (dC (.d c_MODES)))) (dRaise "NotAllowed") (dNext)
def V_check_mode (ns : List Int) : List Vl → Int → R Vl := dDef 0 (D_check_mode ns)
theorem ok_check_mode (T : Txt K mg) : FnG P w K mg base (L2.CX P w) 1 T.a_check_mode T.fd_check_mode ["mode"] (spD 1 K mg V_check_mode) := by
  refine fnD 1 0 D_check_mode T.F_check_mode sc_check_mode rfl rfl fun cdv A outer s H E hg hr => ⟨_, (pss_one (ps_if (pt_cmpR (r := rIn K true) op_notIn_seq (pv 0) (pe_glob (v := V.ref T.a_MODES) (by rfl) T.g_MODES rfl) (by first | exact nomark _ | rfl)) (pss_one (ps_raise rfl (takes_of rfl rfl rfl rfl) (pmk_own PySem.F.excBase_ValueError T.e_NotAllowed.x1 T.e_NotAllowed.g T.e_NotAllowed.k (raises_own T.e_NotAllowed.bs T.e_NotAllowed.ty) (by rfl)))) (pss_nil))), fun Z hK hC => ?_⟩
  obtain ⟨K2, sa, ns, cl⟩ := Z
  cases hK
  cases hC
  exact sns_if (snd_test (snd_op rr_in (snd_var) (snd_glob T.d_MODES))) (sns_raise T.e_NotAllowed.g) (sns_next)
def D__law_is_pixel (ns : List Int) : DenS := dSeq (dSet 1 (dAndV (dOp (gEq false) (dCB gLen (dCons (dVar 0) (dNil))) (dC (.d (.int 4)))) (dCB gAll (dCons (dL (dLc [2] (dIT (dVar 0)) (dName 2) (dYes) (dChain (aLe) (aLe) (dC (.d (.int 0))) (dVar 2) (dC (.d (.int 15)))))) (dNil))))) (dRet (dAndV (dVar 1) (dOrV (dOp (aGt) (dOp gIx (dVar 0) (dC (.d (.int 3)))) (dC (.d (.int 0)))) (dOp (gEq false) (dVar 0) (dTup (dCons (dC (.d (.int 0))) (dCons (dC (.d (.int 0))) (dCons (dC (.d (.int 0))) (dCons (dC (.d (.int 0))) (dNil))))))))))
def V__law_is_pixel (ns : List Int) : List Vl → Int → R Vl := dDef 2 (D__law_is_pixel ns)
theorem ok__law_is_pixel (T : Txt K mg) : FnG P w K mg base CX0 1 T.a__law_is_pixel T.fd__law_is_pixel ["pixel"] (spD 1 K mg V__law_is_pixel) := by
  refine fnD 1 2 D__law_is_pixel T.F__law_is_pixel sc__law_is_pixel rfl rfl fun cdv A outer s H E hg hr => ⟨_, PSs.nox (pss_cons (ps_set (i := 1) sc__law_is_pixel.nd rfl (Or.inl rfl) (pe_and (pe_cmpR (r := rEqD K) (op_eqD hr.units) (pe_callB (r := rLenA K) call_len (by rfl) T.z_len (by decide +kernel) (pa_cons (pv 0) (pa_nil))) (pe_int) (by first | exact nomark _ | rfl)) (pe_one (pe_callB (r := L2.rAll K) (cr_all rfl) (by rfl) T.z_all (by decide +kernel) (pa_cons (pe_lc (own := [("level", 2)]) rfl sc__law_is_pixel.nd (pi_tupK (K := K) rfl (pv 0)) (blkOk_by (own := [("level", 2)]) (N := N__law_is_pixel) (sc := defScope s__law_is_pixel) (by decide +kernel)) (fun _ _ _ _ _ => pg_name (i := 2) sc__law_is_pixel.nd rfl (Or.inl rfl)) (fun _ _ _ _ _ => pts_nil) (fun _ _ _ _ _ => pe_chain op_le op_le (pe_int) (pv 2) (pe_int))) (pa_nil)))))) (pss_one (ps_ret (pe_and (pv 1) (pe_one (pe_or (pe_cmpR op_gt (pe_ix (r := rIx K) ix_seq (pv 0) (pe_int) (fun _ _ => rfl)) (pe_int) (by first | exact nomark _ | rfl)) (pe_one (pe_cmpR (r := rEqD K) (op_eqD hr.units) (pv 0) (pe_tup (pa_cons (pe_int) (pa_cons (pe_int) (pa_cons (pe_int) (pa_cons (pe_int) (pa_nil)))))) (by first | exact nomark _ | rfl))))))))), fun Z hK hC => ?_⟩
  obtain ⟨K2, sa, ns, cl⟩ := Z
  cases hK
  cases hC
  exact sns_seq (sns_set (snd_andV (snd_op rr_eq (snd_callB rc_len (snd_cons (snd_var) (snd_nil))) (snd_int)) (snd_callB rc_all (snd_cons (snd_ofL (snd_lc (vs := [2]) (by decide) (snd_iT (snd_var)) (sng_name) (snd_yes) (snd_chain rr_le rr_le (snd_int) (snd_var) (snd_int)))) (snd_nil))))) (sns_ret (snd_andV (snd_var) (snd_orV (snd_op rr_gt (snd_op rr_ix (snd_var) (snd_int)) (snd_int)) (snd_op rr_eq (snd_var) (snd_tup (snd_cons (snd_int) (snd_cons (snd_int) (snd_cons (snd_int) (snd_cons (snd_int) (snd_nil))))))))))
def D_faded (ns : List Int) : DenS := dSeq (dSet 2 (dCall0 2 (V_scaled ns) (dCons (dOp gIx (dVar 0) (dC (.d (.int 3)))) (dCons (dOp aSub (dC (.d (.int 15))) (dVar 1)) (dNil))))) (dSeq (dIfS (dTe (dOp (gEq false) (dVar 2) (dC (.d (.int 0))))) (dRet (dC (.d c_CLEAR))) (dNext)) (dRet (dTup (dCons (dOp gIx (dVar 0) (dC (.d (.int 0)))) (dCons (dOp gIx (dVar 0) (dC (.d (.int 1)))) (dCons (dOp gIx (dVar 0) (dC (.d (.int 2)))) (dCons (dVar 2) (dNil))))))))
def V_faded (ns : List Int) : List Vl → Int → R Vl := dDef 1 (D_faded ns)
theorem ok_faded (T : Txt K mg) : FnG P w K mg base CX0 2 T.a_faded T.fd_faded ["pixel", "level"] (spD 2 K mg V_faded) := by
  refine fnD 2 1 D_faded T.F_faded sc_faded rfl rfl fun cdv A outer s H E hg hr => ⟨_, PSs.nox (pss_cons (ps_set (i := 2) sc_faded.nd rfl (Or.inl rfl) (pe_callG (ok_scaled T) hg (hr.mono (by decide)) (by rfl) T.g_scaled T.F_scaled.kp T.b_scaled pass0 (pa_cons (pe_ix (r := rIx K) ix_seq (pv 0) (pe_int) (fun _ _ => rfl)) (pa_cons (pe_op op_sub (pe_int) (pv 1)) (pa_nil))))) (pss_cons (ps_if (pt_cmpR (r := rEqD K) (op_eqD hr.units) (pv 2) (pe_int) (by first | exact nomark _ | rfl)) (pss_one (ps_ret (pe_glob (v := V.ref T.a_CLEAR) (by rfl) T.g_CLEAR rfl))) (pss_nil)) (pss_one (ps_ret (pe_tup (pa_cons (pe_ix (r := rIx K) ix_seq (pv 0) (pe_int) (fun _ _ => rfl)) (pa_cons (pe_ix (r := rIx K) ix_seq (pv 0) (pe_int) (fun _ _ => rfl)) (pa_cons (pe_ix (r := rIx K) ix_seq (pv 0) (pe_int) (fun _ _ => rfl)) (pa_cons (pv 2) (pa_nil)))))))))), fun Z hK hC => ?_⟩
  obtain ⟨K2, sa, ns, cl⟩ := Z
  cases hK
  cases hC
  exact sns_seq (sns_set (snd_call0 (snd_cons (snd_op rr_ix (snd_var) (snd_int)) (snd_cons (snd_op rr_sub (snd_int) (snd_var)) (snd_nil))))) (sns_seq (sns_if (snd_test (snd_op rr_eq (snd_var) (snd_int))) (sns_ret (snd_glob T.d_CLEAR)) (sns_next)) (sns_ret (snd_tup (snd_cons (snd_op rr_ix (snd_var) (snd_int)) (snd_cons (snd_op rr_ix (snd_var) (snd_int)) (snd_cons (snd_op rr_ix (snd_var) (snd_int)) (snd_cons (snd_var) (snd_nil))))))))
def D__law_faded (ns : List Int) : DenS := dSeq (dSet 2 (dCall0 2 (V__law_scaled ns) (dCons (dOp gIx (dVar 0) (dC (.d (.int 3)))) (dCons (dOp aSub (dC (.d (.int 15))) (dVar 1)) (dNil))))) (dRet (dOp gIx (dL (dLst (dCons (dTup (dCons (dOp gIx (dVar 0) (dC (.d (.int 0)))) (dCons (dOp gIx (dVar 0) (dC (.d (.int 1)))) (dCons (dOp gIx (dVar 0) (dC (.d (.int 2)))) (dCons (dVar 2) (dNil)))))) (dCons (dTup (dCons (dC (.d (.int 0))) (dCons (dC (.d (.int 0))) (dCons (dC (.d (.int 0))) (dCons (dC (.d (.int 0))) (dNil)))))) (dNil))))) (dCB gInt1 (dCons (dOp (gEq false) (dVar 2) (dC (.d (.int 0)))) (dNil)))))
def V__law_faded (ns : List Int) : List Vl → Int → R Vl := dDef 1 (D__law_faded ns)
theorem ok__law_faded (T : Txt K mg) : FnG P w K mg base CX0 2 T.a__law_faded T.fd__law_faded ["pixel", "level"] (spD 2 K mg V__law_faded) := by
  refine fnD 2 1 D__law_faded T.F__law_faded sc__law_faded rfl rfl fun cdv A outer s H E hg hr => ⟨_, PSs.nox (pss_cons (ps_set (i := 2) sc__law_faded.nd rfl (Or.inl rfl) (pe_callG (ok__law_scaled T) hg (hr.mono (by decide)) (by rfl) T.g__law_scaled T.F__law_scaled.kp T.b__law_scaled pass0 (pa_cons (pe_ix (r := rIx K) ix_seq (pv 0) (pe_int) (fun _ _ => rfl)) (pa_cons (pe_op op_sub (pe_int) (pv 1)) (pa_nil))))) (pss_one (ps_ret (pe_ix (r := rIx K) ix_seq (pe_lst (pa_cons (pe_tup (pa_cons (pe_ix (r := rIx K) ix_seq (pv 0) (pe_int) (fun _ _ => rfl)) (pa_cons (pe_ix (r := rIx K) ix_seq (pv 0) (pe_int) (fun _ _ => rfl)) (pa_cons (pe_ix (r := rIx K) ix_seq (pv 0) (pe_int) (fun _ _ => rfl)) (pa_cons (pv 2) (pa_nil)))))) (pa_cons (pe_tup (pa_cons (pe_int) (pa_cons (pe_int) (pa_cons (pe_int) (pa_cons (pe_int) (pa_nil)))))) (pa_nil)))) (pe_callTy call_int1 (by rfl) T.z_int (by decide +kernel) (pa_cons (pe_cmpR (r := rEqD K) (op_eqD hr.units) (pv 2) (pe_int) (by first | exact nomark _ | rfl)) (pa_nil))) (fun _ _ => rfl))))), fun Z hK hC => ?_⟩
  obtain ⟨K2, sa, ns, cl⟩ := Z
  cases hK
  cases hC
  exact sns_seq (sns_set (snd_call0 (snd_cons (snd_op rr_ix (snd_var) (snd_int)) (snd_cons (snd_op rr_sub (snd_int) (snd_var)) (snd_nil))))) (sns_ret (snd_op rr_ix (snd_ofL (snd_lst (snd_cons (snd_tup (snd_cons (snd_op rr_ix (snd_var) (snd_int)) (snd_cons (snd_op rr_ix (snd_var) (snd_int)) (snd_cons (snd_op rr_ix (snd_var) (snd_int)) (snd_cons (snd_var) (snd_nil)))))) (snd_cons (snd_tup (snd_cons (snd_int) (snd_cons (snd_int) (snd_cons (snd_int) (snd_cons (snd_int) (snd_nil)))))) (snd_nil))))) (snd_callB rc_int1 (snd_cons (snd_op rr_eq (snd_var) (snd_int)) (snd_nil)))))
def D_is_pixel (ns : List Int) : DenS := dSeq (dIfS (dTe (dOp (gEq true) (dCB gLen (dCons (dVar 0) (dNil))) (dC (.d (.int 4))))) (dRet (dC (.d (.bool false)))) (dNext)) (dSeq (dFor (dIT (dVar 0)) (dName 1) (dIfS (dNot (dTe (dCall0 1 (V_is_level ns) (dCons (dVar 1) (dNil))))) (dRet (dC (.d (.bool false)))) (dNext))) (dRet (dOrV (dOp (aGt) (dOp gIx (dVar 0) (dC (.d (.int 3)))) (dC (.d (.int 0)))) (dOp (gEq false) (dVar 0) (dC (.d c_CLEAR))))))
def V_is_pixel (ns : List Int) : List Vl → Int → R Vl := dDef 1 (D_is_pixel ns)
theorem ok_is_pixel (T : Txt K mg) : FnG P w K mg base CX0 2 T.a_is_pixel T.fd_is_pixel ["pixel"] (spD 1 K mg V_is_pixel) := by
  refine fnD 1 1 D_is_pixel T.F_is_pixel sc_is_pixel rfl rfl fun cdv A outer s H E hg hr => ⟨_, PSs.nox (pss_cons (ps_if (pt_cmpR (r := rNeD K) (op_neD hr.units) (pe_callB (r := rLenA K) call_len (by rfl) T.z_len (by decide +kernel) (pa_cons (pv 0) (pa_nil))) (pe_int) (by first | exact nomark _ | rfl)) (pss_one (ps_ret (pe_bl))) (pss_nil)) (pss_cons (ps_for PassesOwn.never rfl (pi_tupK (K := K) rfl (pv 0)) (pg_name (i := 1) sc_is_pixel.nd rfl (Or.inl rfl)) (pss_one (ps_if (pt_not (pt_val (pe_callG (ok_is_level T) hg (hr.mono (by decide)) (by rfl) T.g_is_level T.F_is_level.kp T.b_is_level pass0 (pa_cons (pv 1) (pa_nil))))) (pss_one (ps_ret (pe_bl))) (pss_nil)))) (pss_one (ps_ret (pe_or (pe_cmpR op_gt (pe_ix (r := rIx K) ix_seq (pv 0) (pe_int) (fun _ _ => rfl)) (pe_int) (by first | exact nomark _ | rfl)) (pe_one (pe_cmpR (r := rEqD K) (op_eqD hr.units) (pv 0) (pe_glob (v := V.ref T.a_CLEAR) (by rfl) T.g_CLEAR rfl) (by first | exact nomark _ | rfl)))))))), fun Z hK hC => ?_⟩
  obtain ⟨K2, sa, ns, cl⟩ := Z
  cases hK
  cases hC
  exact sns_seq (sns_if (snd_test (snd_op rr_ne (snd_callB rc_len (snd_cons (snd_var) (snd_nil))) (snd_int))) (sns_ret (snd_bl)) (sns_next)) (sns_seq (sns_for (snd_iT (snd_var)) (sng_name) (sns_if (snd_not (snd_tB (snd_call0 (snd_cons (snd_var) (snd_nil))))) (sns_ret (snd_bl)) (sns_next))) (sns_ret (snd_orV (snd_op rr_gt (snd_op rr_ix (snd_var) (snd_int)) (snd_int)) (snd_op rr_eq (snd_var) (snd_glob T.d_CLEAR)))))
def D_check_pixel (ns : List Int) : DenS := dIfS (dNot (dTe (dCall0 1 (V_is_pixel ns) (dCons (dVar 0) (dNil))))) (dRaise "NotAllowed") (dNext)
def V_check_pixel (ns : List Int) : List Vl → Int → R Vl := dDef 0 (D_check_pixel ns)
theorem ok_check_pixel (T : Txt K mg) : FnG P w K mg base (L2.CX P w) 3 T.a_check_pixel T.fd_check_pixel ["pixel"] (spD 1 K mg V_check_pixel) := by
  refine fnD 1 0 D_check_pixel T.F_check_pixel sc_check_pixel rfl rfl fun cdv A outer s H E hg hr => ⟨_, (pss_one (ps_if (pt_not (pt_val (pe_callG (ok_is_pixel T) hg (hr.mono (by decide)) (by rfl) T.g_is_pixel T.F_is_pixel.kp T.b_is_pixel pass0 (pa_cons (pv 0) (pa_nil))))) (pss_one (ps_raise rfl (takes_of rfl rfl rfl rfl) (pmk_own PySem.F.excBase_ValueError T.e_NotAllowed.x1 T.e_NotAllowed.g T.e_NotAllowed.k (raises_own T.e_NotAllowed.bs T.e_NotAllowed.ty) (by rfl)))) (pss_nil))), fun Z hK hC => ?_⟩
  obtain ⟨K2, sa, ns, cl⟩ := Z
  cases hK
  cases hC
  exact sns_if (snd_not (snd_tB (snd_call0 (snd_cons (snd_var) (snd_nil))))) (sns_raise T.e_NotAllowed.g) (sns_next)
def D__law_blended (ns : List Int) : DenS := dSeq (dSet 4 (dCall0 2 (V__law_scaled ns) (dCons (dOp gIx (dVar 2) (dC (.d (.int 3)))) (dCons (dVar 3) (dNil))))) (dSeq (dSet 5 (dCall0 2 (V__law_scaled ns) (dCons (dOp gIx (dVar 1) (dC (.d (.int 3)))) (dCons (dOp aSub (dC (.d (.int 15))) (dVar 4)) (dNil))))) (dSeq (dSet 6 (dOp aAdd (dVar 4) (dVar 5))) (dSeq (dNew 7 (dLst (dNil))) (dSeq (dFor (dI1 (dCons (dC (.d (.int 3))) (dNil))) (dName 8) (dSeq (dSet 9 (dCall0 3 (V__law_mixed ns) (dCons (dOp gIx (dVar 2) (dVar 8)) (dCons (dCall0 3 (V__law_made ns) (dCons (dVar 0) (dCons (dOp gIx (dVar 1) (dVar 8)) (dCons (dOp gIx (dVar 2) (dVar 8)) (dNil))))) (dCons (dOp gIx (dVar 1) (dC (.d (.int 3)))) (dNil)))))) (dApp 7 (dOp aDiv (dOp aAdd (dOp aAdd (dOp aMul (dOp gIx (dVar 1) (dVar 8)) (dVar 5)) (dOp aMul (dVar 9) (dVar 4))) (dOp aDiv (dVar 6) (dC (.d (.int 2))))) (dCB gMax2 (dCons (dC (.d (.int 1))) (dCons (dVar 6) (dNil)))))))) (dRet (dOp gIx (dL (dLst (dCons (dTup (dCons (dIxO 7 (dC (.d (.int 0)))) (dCons (dIxO 7 (dC (.d (.int 1)))) (dCons (dIxO 7 (dC (.d (.int 2)))) (dCons (dVar 6) (dNil)))))) (dCons (dTup (dCons (dC (.d (.int 0))) (dCons (dC (.d (.int 0))) (dCons (dC (.d (.int 0))) (dCons (dC (.d (.int 0))) (dNil)))))) (dNil))))) (dCB gInt1 (dCons (dOp (gEq false) (dVar 6) (dC (.d (.int 0)))) (dNil)))))))))
def V__law_blended (ns : List Int) : List Vl → Int → R Vl := dDef 6 (D__law_blended ns)
theorem ok__law_blended (T : Txt K mg) : FnG P w K mg base CX0 3 T.a__law_blended T.fd__law_blended ["mode", "below", "above", "level"] (spD 4 K mg V__law_blended) := by
  refine fnD 4 6 D__law_blended T.F__law_blended sc__law_blended rfl rfl fun cdv A outer s H E hg hr => ⟨_, PSs.nox (pss_cons (ps_set (i := 4) sc__law_blended.nd rfl (Or.inl rfl) (pe_callG (ok__law_scaled T) hg (hr.mono (by decide)) (by rfl) T.g__law_scaled T.F__law_scaled.kp T.b__law_scaled pass0 (pa_cons (pe_ix (r := rIx K) ix_seq (pv 2) (pe_int) (fun _ _ => rfl)) (pa_cons (pv 3) (pa_nil))))) (pss_cons (ps_set (i := 5) sc__law_blended.nd rfl (Or.inl rfl) (pe_callG (ok__law_scaled T) hg (hr.mono (by decide)) (by rfl) T.g__law_scaled T.F__law_scaled.kp T.b__law_scaled pass0 (pa_cons (pe_ix (r := rIx K) ix_seq (pv 1) (pe_int) (fun _ _ => rfl)) (pa_cons (pe_op op_sub (pe_int) (pv 4)) (pa_nil))))) (pss_cons (ps_set (i := 6) sc__law_blended.nd rfl (Or.inl rfl) (pe_op op_add (pv 4) (pv 5))) (pss_cons (ps_set (i := 7) sc__law_blended.nd rfl (Or.inl rfl) (pe_lst (pa_nil))) (pss_cons (ps_for PassesOwn.never rfl (pi_range1 (by rfl) T.z_range (pa_cons (pe_int) (pa_nil))) (pg_name (i := 8) sc__law_blended.nd rfl (Or.inl rfl)) (pss_cons (ps_set (i := 9) sc__law_blended.nd rfl (Or.inl rfl) (pe_callG (ok__law_mixed T) hg (hr.mono (by decide)) (by rfl) T.g__law_mixed T.F__law_mixed.kp T.b__law_mixed pass0 (pa_cons (pe_ix (r := rIx K) ix_seq (pv 2) (pv 8) (fun _ _ => rfl)) (pa_cons (pe_callG (ok__law_made T) hg (hr.mono (by decide)) (by rfl) T.g__law_made T.F__law_made.kp T.b__law_made pass0 (pa_cons (pv 0) (pa_cons (pe_ix (r := rIx K) ix_seq (pv 1) (pv 8) (fun _ _ => rfl)) (pa_cons (pe_ix (r := rIx K) ix_seq (pv 2) (pv 8) (fun _ _ => rfl)) (pa_nil))))) (pa_cons (pe_ix (r := rIx K) ix_seq (pv 1) (pe_int) (fun _ _ => rfl)) (pa_nil)))))) (pss_one (ps_expr (pe_bm PySem.F.plainAttrs_list PySem.F.slot_list_append PySem.F.type_list_append mt_append (pv 7) (pa_cons (pe_op op_fdivW (pe_op op_add (pe_op op_add (pe_op op_mulW (pe_ix (r := rIx K) ix_seq (pv 1) (pv 8) (fun _ _ => rfl)) (pv 5)) (pe_op op_mulW (pv 9) (pv 4))) (pe_op op_fdivW (pv 6) (pe_int))) (pe_callB (call_max2 rfl) (by rfl) T.z_max (by decide +kernel) (pa_cons (pe_int) (pa_cons (pv 6) (pa_nil))))) pa_nil)))))) (pss_one (ps_ret (pe_ix (r := rIx K) ix_seq (pe_lst (pa_cons (pe_tup (pa_cons (pe_ix (r := rIx K) ix_seq (pv 7) (pe_int) (fun _ _ => rfl)) (pa_cons (pe_ix (r := rIx K) ix_seq (pv 7) (pe_int) (fun _ _ => rfl)) (pa_cons (pe_ix (r := rIx K) ix_seq (pv 7) (pe_int) (fun _ _ => rfl)) (pa_cons (pv 6) (pa_nil)))))) (pa_cons (pe_tup (pa_cons (pe_int) (pa_cons (pe_int) (pa_cons (pe_int) (pa_cons (pe_int) (pa_nil)))))) (pa_nil)))) (pe_callTy call_int1 (by rfl) T.z_int (by decide +kernel) (pa_cons (pe_cmpR (r := rEqD K) (op_eqD hr.units) (pv 6) (pe_int) (by first | exact nomark _ | rfl)) (pa_nil))) (fun _ _ => rfl))))))))), fun Z hK hC => ?_⟩
  obtain ⟨K2, sa, ns, cl⟩ := Z
  cases hK
  cases hC
  exact sns_seq (sns_set (snd_call0 (snd_cons (snd_op rr_ix (snd_var) (snd_int)) (snd_cons (snd_var) (snd_nil))))) (sns_seq (sns_set (snd_call0 (snd_cons (snd_op rr_ix (snd_var) (snd_int)) (snd_cons (snd_op rr_sub (snd_int) (snd_var)) (snd_nil))))) (sns_seq (sns_set (snd_op rr_add (snd_var) (snd_var))) (sns_seq (sns_new (snd_lst (snd_nil))) (sns_seq (sns_for (snd_i1 (snd_cons (snd_int) (snd_nil))) (sng_name) (sns_seq (sns_set (snd_call0 (snd_cons (snd_op rr_ix (snd_var) (snd_var)) (snd_cons (snd_call0 (snd_cons (snd_var) (snd_cons (snd_op rr_ix (snd_var) (snd_var)) (snd_cons (snd_op rr_ix (snd_var) (snd_var)) (snd_nil))))) (snd_cons (snd_op rr_ix (snd_var) (snd_int)) (snd_nil)))))) (sns_app (snd_op rr_fdiv (snd_op rr_add (snd_op rr_add (snd_op rr_mul (snd_op rr_ix (snd_var) (snd_var)) (snd_var)) (snd_op rr_mul (snd_var) (snd_var))) (snd_op rr_fdiv (snd_var) (snd_int))) (snd_callB rc_max2 (snd_cons (snd_int) (snd_cons (snd_var) (snd_nil)))))))) (sns_ret (snd_op rr_ix (snd_ofL (snd_lst (snd_cons (snd_tup (snd_cons (snd_ixO (snd_int)) (snd_cons (snd_ixO (snd_int)) (snd_cons (snd_ixO (snd_int)) (snd_cons (snd_var) (snd_nil)))))) (snd_cons (snd_tup (snd_cons (snd_int) (snd_cons (snd_int) (snd_cons (snd_int) (snd_cons (snd_int) (snd_nil)))))) (snd_nil))))) (snd_callB rc_int1 (snd_cons (snd_op rr_eq (snd_var) (snd_int)) (snd_nil)))))))))
def D_law (ns : List Int) : DenS := dSeq (dIfS (dOr (dNot (dTe (dCall0 2 (V__law_same ns) (dCons (dL (dLst (dCons (dC (.d (.int 15))) (dCons (dC (.d c_CLEAR)) (dCons (dC (.d c_MODES)) (dNil)))))) (dCons (dL (dLst (dCons (dC (.d (.int 15))) (dCons (dTup (dCons (dC (.d (.int 0))) (dCons (dC (.d (.int 0))) (dCons (dC (.d (.int 0))) (dCons (dC (.d (.int 0))) (dNil)))))) (dCons (dCB gTuple (dCons (dL (dLst (dCons (dC (.d (.str "plain"))) (dCons (dC (.d (.str "darker"))) (dCons (dC (.d (.str "lighter"))) (dCons (dC (.d (.str "times"))) (dCons (dC (.d (.str "screen"))) (dCons (dC (.d (.str "apart"))) (dNil))))))))) (dNil))) (dNil)))))) (dNil)))))) (dNot (dTe (dCall0 1 (V__law_numbers ns) (dCons (dVar 1) (dNil)))))) (dRet (dC (.d (.bool false)))) (dNext)) (dSeq (dFor (dIL (dL (dLst (dCons (dUn gNeg (dC (.d (.int 1)))) (dCons (dC (.d (.int 0))) (dCons (dC (.d (.int 15))) (dCons (dC (.d (.int 16))) (dCons (dCall0 2 (V__law_next ns) (dCons (dVar 1) (dCons (dC (.d (.int 20))) (dNil)))) (dNil))))))))) (dName 2) (dIfS (dNot (dTe (dCall0 2 (V__law_same ns) (dCons (dAsk tell__law_told (V_check_level ns) (dVar 2)) (dCons (dOp gIx (dL (dLst (dCons (dC (.d (.str "refused"))) (dCons (dC (.d (.str "fine"))) (dNil))))) (dCB gInt1 (dCons (dChain (aLe) (aLe) (dC (.d (.int 0))) (dVar 2) (dC (.d (.int 15)))) (dNil)))) (dNil)))))) (dRet (dC (.d (.bool false)))) (dNext))) (dSeq (dFor (dIL (dL (dCatL (dLst (dCons (dC (.d (.str ""))) (dCons (dC (.d (.str "plan"))) (dCons (dC (.d (.str "plain "))) (dCons (dC (.d (.str "Times"))) (dCons (dC (.d (.str "clear"))) (dNil))))))) (dLst (dCons (dC (.d (.str "plain"))) (dCons (dC (.d (.str "darker"))) (dCons (dC (.d (.str "lighter"))) (dCons (dC (.d (.str "times"))) (dCons (dC (.d (.str "screen"))) (dCons (dC (.d (.str "apart"))) (dNil))))))))))) (dName 3) (dIfS (dNot (dTe (dCall0 2 (V__law_same ns) (dCons (dAsk tell__law_told (V_check_mode ns) (dVar 3)) (dCons (dOp gIx (dL (dLst (dCons (dC (.d (.str "refused"))) (dCons (dC (.d (.str "fine"))) (dNil))))) (dCB gInt1 (dCons (dOp (gIn false) (dVar 3) (dL (dLst (dCons (dC (.d (.str "plain"))) (dCons (dC (.d (.str "darker"))) (dCons (dC (.d (.str "lighter"))) (dCons (dC (.d (.str "times"))) (dCons (dC (.d (.str "screen"))) (dCons (dC (.d (.str "apart"))) (dNil)))))))))) (dNil)))) (dNil)))))) (dRet (dC (.d (.bool false)))) (dNext))) (dSeq (dFor (dI1 (dCons (dC (.d (.int 12))) (dNil))) (dName 4) (dSeq (dSet 5 (dCall0 1 (V__law_pixel ns) (dCons (dVar 1) (dNil)))) (dSeq (dSet 6 (dCall0 1 (V__law_pixel ns) (dCons (dVar 1) (dNil)))) (dSeq (dSet 2 (dCall0 1 (V__law_level ns) (dCons (dVar 1) (dNil)))) (dSeq (dSet 7 (dCall0 2 (V__law_next ns) (dCons (dVar 1) (dCons (dC (.d (.int 4))) (dNil))))) (dSeq (dSet 8 (dOp aCatT (dOp aCatT (dSlT (dVar 5) (dNoO) (dSoO (dVar 7))) (dTup (dCons (dOp gIx (dL (dLst (dCons (dUn gNeg (dC (.d (.int 1)))) (dCons (dC (.d (.int 16))) (dCons (dC (.d (.int 0))) (dCons (dC (.d (.int 15))) (dCons (dCall0 2 (V__law_next ns) (dCons (dVar 1) (dCons (dC (.d (.int 16))) (dNil)))) (dNil)))))))) (dCall0 2 (V__law_next ns) (dCons (dVar 1) (dCons (dC (.d (.int 5))) (dNil))))) (dNil)))) (dSlT (dVar 5) (dSoO (dOp aAdd (dVar 7) (dC (.d (.int 1))))) (dNoO)))) (dSeq (dFor (dIL (dL (dLst (dCons (dVar 5) (dCons (dVar 8) (dCons (dSlT (dVar 5) (dNoO) (dSoO (dC (.d (.int 3))))) (dCons (dOp aCatT (dVar 5) (dTup (dCons (dC (.d (.int 0))) (dNil)))) (dCons (dTup (dNil)) (dCons (dTup (dCons (dC (.d (.int 1))) (dCons (dC (.d (.int 0))) (dCons (dC (.d (.int 0))) (dCons (dC (.d (.int 0))) (dNil)))))) (dNil)))))))))) (dName 9) (dIfS (dNot (dTe (dCall0 2 (V__law_same ns) (dCons (dL (dLst (dCons (dCall0 1 (V_is_pixel ns) (dCons (dVar 9) (dNil))) (dCons (dAsk tell__law_told (V_check_pixel ns) (dVar 9)) (dNil))))) (dCons (dL (dLst (dCons (dCall0 1 (V__law_is_pixel ns) (dCons (dVar 9) (dNil))) (dCons (dOp gIx (dL (dLst (dCons (dC (.d (.str "refused"))) (dCons (dC (.d (.str "fine"))) (dNil))))) (dCB gInt1 (dCons (dCall0 1 (V__law_is_pixel ns) (dCons (dVar 9) (dNil))) (dNil)))) (dNil))))) (dNil)))))) (dRet (dC (.d (.bool false)))) (dNext))) (dSeq (dFor (dIL (dL (dLst (dCons (dC (.d (.str "plain"))) (dCons (dC (.d (.str "darker"))) (dCons (dC (.d (.str "lighter"))) (dCons (dC (.d (.str "times"))) (dCons (dC (.d (.str "screen"))) (dCons (dC (.d (.str "apart"))) (dNil)))))))))) (dName 3) (dSeq (dSet 10 (dCall0 4 (V_blended ns) (dCons (dVar 3) (dCons (dVar 5) (dCons (dVar 6) (dCons (dVar 2) (dNil))))))) (dSeq (dIfS (dOr (dNot (dTe (dCall0 2 (V__law_same ns) (dCons (dVar 10) (dCons (dCall0 4 (V__law_blended ns) (dCons (dVar 3) (dCons (dVar 5) (dCons (dVar 6) (dCons (dVar 2) (dNil)))))) (dNil)))))) (dNot (dTe (dCall0 1 (V__law_is_pixel ns) (dCons (dVar 10) (dNil)))))) (dRet (dC (.d (.bool false)))) (dNext)) (dIfS (dNot (dTe (dCall0 2 (V__law_same ns) (dCons (dL (dLst (dCons (dCall0 4 (V_blended ns) (dCons (dVar 3) (dCons (dVar 5) (dCons (dVar 6) (dCons (dC (.d (.int 0))) (dNil)))))) (dCons (dCall0 4 (V_blended ns) (dCons (dVar 3) (dCons (dVar 5) (dCons (dTup (dCons (dC (.d (.int 0))) (dCons (dC (.d (.int 0))) (dCons (dC (.d (.int 0))) (dCons (dC (.d (.int 0))) (dNil)))))) (dCons (dVar 2) (dNil)))))) (dNil))))) (dCons (dL (dLst (dCons (dVar 5) (dCons (dVar 5) (dNil))))) (dNil)))))) (dRet (dC (.d (.bool false)))) (dNext))))) (dSeq (dSet 11 (dOp gIx (dL (dLst (dCons (dVar 6) (dCons (dTup (dCons (dC (.d (.int 1))) (dCons (dC (.d (.int 2))) (dCons (dC (.d (.int 3))) (dCons (dC (.d (.int 15))) (dNil)))))) (dNil))))) (dCB gInt1 (dCons (dOp (aLt) (dOp gIx (dVar 6) (dC (.d (.int 3)))) (dC (.d (.int 15)))) (dNil))))) (dIfS (dNot (dTe (dCall0 2 (V__law_same ns) (dCons (dL (dLst (dCons (dCall0 4 (V_blended ns) (dCons (dC (.d (.str "plain"))) (dCons (dVar 5) (dCons (dVar 11) (dCons (dC (.d (.int 15))) (dNil)))))) (dCons (dCall0 2 (V_faded ns) (dCons (dVar 5) (dCons (dVar 2) (dNil)))) (dCons (dCall0 2 (V_faded ns) (dCons (dVar 5) (dCons (dC (.d (.int 0))) (dNil)))) (dCons (dCall0 2 (V_faded ns) (dCons (dVar 5) (dCons (dC (.d (.int 15))) (dNil)))) (dNil))))))) (dCons (dL (dLst (dCons (dVar 11) (dCons (dCall0 2 (V__law_faded ns) (dCons (dVar 5) (dCons (dVar 2) (dNil)))) (dCons (dVar 5) (dCons (dTup (dCons (dC (.d (.int 0))) (dCons (dC (.d (.int 0))) (dCons (dC (.d (.int 0))) (dCons (dC (.d (.int 0))) (dNil)))))) (dNil))))))) (dNil)))))) (dRet (dC (.d (.bool false)))) (dNext))))))))))) (dRet (dC (.d (.bool true)))))))
def LawOk : Prop := ∀ nums : List Int, nums.length ≤ 63 → ∃ ns c1 c2, (dCall0 1 (V__law_stream []) (dCons (dVar 0) (dNil)) : Den) (args [.d (.list (nums.map .int))] 11) 0 = .ok (.d (.list (ns.map .int))) c1 ∧ D_law ns (args [.d (.list (nums.map .int)), .st] 10) 0 = .ok (.rt (.d (.bool true))) c2
def spLaw (K : PySem.W.Frag) : Sp := fun vs H Q _ => ∃ (a : Addr) (nums : List Int), vs = [.ref a] ∧ SqL K H a (nums.map V.int) ∧ nums.length ≤ 63 ∧ ∀ H', Q (.bl true) H'
theorem ok_law {f : Addr} {fd : FuncData} (hyp : LawOk) (T : Txt K mg) (F : Fun K "law" "law" s_law f fd) : FnG P w K mg base CX0 5 f fd ["script"] (spLaw K) := by
  refine FnG.body F sc_law (fun vs H Q E h => ?_) (fun cdv A outer s H vs Q E hg hr h => ?_)
  · obtain ⟨a, nums, rfl, _⟩ := h
    rfl
  obtain ⟨a, nums, rfl, hS, hl, q⟩ := h
  obtain ⟨ns, c1, c2, e1, e2⟩ := hyp nums hl
  refine ⟨_, PSs.nox (pss_cons (ps_set (i := 1) sc_law.nd rfl (Or.inl rfl) (pe_lst (pa_cons (pe_callG (ok__law_stream T) hg (hr.mono (by decide)) (by rfl) T.g__law_stream T.F__law_stream.kp T.b__law_stream pass0 (pa_cons (pv 0) (pa_nil))) (pa_cons pe_int pa_nil)))) (pss_cons (ps_if (PW.pt (pw_or (pt_not (pt_val (pe_callG (ok__law_same T) hg (hr.mono (by decide)) (by rfl) T.g__law_same T.F__law_same.kp T.b__law_same pass0 (pa_cons (pe_lst (pa_cons (pe_glob (v := V.int 15) (by rfl) T.g_MAX_LEVEL.choose_spec ⟨_, rfl⟩) (pa_cons (pe_glob (v := V.ref T.a_CLEAR) (by rfl) T.g_CLEAR rfl) (pa_cons (pe_glob (v := V.ref T.a_MODES) (by rfl) T.g_MODES rfl) (pa_nil))))) (pa_cons (pe_lst (pa_cons (pe_int) (pa_cons (pe_tup (pa_cons (pe_int) (pa_cons (pe_int) (pa_cons (pe_int) (pa_cons (pe_int) (pa_nil)))))) (pa_cons (pe_callTy (r := rTupA K) call_tuple_of (by rfl) T.z_tuple (by decide +kernel) (pa_cons (pe_lst (pa_cons (pe_str) (pa_cons (pe_str) (pa_cons (pe_str) (pa_cons (pe_str) (pa_cons (pe_str) (pa_cons (pe_str) (pa_nil)))))))) (pa_nil))) (pa_nil))))) (pa_nil)))))) (pw_or1 (pt_not (pt_val (pe_callG (ok__law_numbers T) hg (hr.mono (by decide)) (by rfl) T.g__law_numbers T.F__law_numbers.kp T.b__law_numbers pass0 (pa_cons (pv 1) (pa_nil)))))))) (pss_one (ps_ret (pe_bl))) (pss_nil)) (pss_cons (ps_for PassesOwn.never rfl (pi_listK (K := K) rfl (pe_lst (pa_cons (pe_un un_neg (pe_int)) (pa_cons (pe_int) (pa_cons (pe_int) (pa_cons (pe_int) (pa_cons (pe_callG (ok__law_next T) hg (hr.mono (by decide)) (by rfl) T.g__law_next T.F__law_next.kp T.b__law_next pass0 (pa_cons (pv 1) (pa_cons (pe_int) (pa_nil)))) (pa_nil)))))))) (pg_name (i := 2) sc_law.nd rfl (Or.inl rfl)) (pss_one (ps_if (pt_not (pt_val (pe_callG (ok__law_same T) hg (hr.mono (by decide)) (by rfl) T.g__law_same T.F__law_same.kp T.b__law_same pass0 (pa_cons (pe_callG (ok__law_told T) hg (hr.mono (by decide)) (by rfl) T.g__law_told T.F__law_told.kp T.b__law_told pass0 (pa_cons (pe_glob (v := V.ref T.a_check_level) (by rfl) T.g_check_level rfl) (pa_cons (pv 2) pa_nil))) (pa_cons (pe_ix (r := rIx K) ix_seq (pe_lst (pa_cons (pe_str) (pa_cons (pe_str) (pa_nil)))) (pe_callTy call_int1 (by rfl) T.z_int (by decide +kernel) (pa_cons (pe_chain op_le op_le (pe_int) (pv 2) (pe_int)) (pa_nil))) (fun _ _ => rfl)) (pa_nil)))))) (pss_one (ps_ret (pe_bl))) (pss_nil)))) (pss_cons (ps_for PassesOwn.never rfl (pi_listK (K := K) rfl (pe_op op_cat (pe_lst (pa_cons (pe_str) (pa_cons (pe_str) (pa_cons (pe_str) (pa_cons (pe_str) (pa_cons (pe_str) (pa_nil))))))) (pe_lst (pa_cons (pe_str) (pa_cons (pe_str) (pa_cons (pe_str) (pa_cons (pe_str) (pa_cons (pe_str) (pa_cons (pe_str) (pa_nil)))))))))) (pg_name (i := 3) sc_law.nd rfl (Or.inl rfl)) (pss_one (ps_if (pt_not (pt_val (pe_callG (ok__law_same T) hg (hr.mono (by decide)) (by rfl) T.g__law_same T.F__law_same.kp T.b__law_same pass0 (pa_cons (pe_callG (ok__law_told T) hg (hr.mono (by decide)) (by rfl) T.g__law_told T.F__law_told.kp T.b__law_told pass0 (pa_cons (pe_glob (v := V.ref T.a_check_mode) (by rfl) T.g_check_mode rfl) (pa_cons (pv 3) pa_nil))) (pa_cons (pe_ix (r := rIx K) ix_seq (pe_lst (pa_cons (pe_str) (pa_cons (pe_str) (pa_nil)))) (pe_callTy call_int1 (by rfl) T.z_int (by decide +kernel) (pa_cons (pe_cmpR (r := rIn K false) op_in_seq (pv 3) (pe_lst (pa_cons (pe_str) (pa_cons (pe_str) (pa_cons (pe_str) (pa_cons (pe_str) (pa_cons (pe_str) (pa_cons (pe_str) (pa_nil)))))))) (by first | exact nomark _ | rfl)) (pa_nil))) (fun _ _ => rfl)) (pa_nil)))))) (pss_one (ps_ret (pe_bl))) (pss_nil)))) (pss_cons (ps_for PassesOwn.never rfl (pi_range1 (by rfl) T.z_range (pa_cons (pe_int) (pa_nil))) (pg_name (i := 4) sc_law.nd rfl (Or.inl rfl)) (pss_cons (ps_set (i := 5) sc_law.nd rfl (Or.inl rfl) (pe_callG (ok__law_pixel T) hg (hr.mono (by decide)) (by rfl) T.g__law_pixel T.F__law_pixel.kp T.b__law_pixel pass0 (pa_cons (pv 1) (pa_nil)))) (pss_cons (ps_set (i := 6) sc_law.nd rfl (Or.inl rfl) (pe_callG (ok__law_pixel T) hg (hr.mono (by decide)) (by rfl) T.g__law_pixel T.F__law_pixel.kp T.b__law_pixel pass0 (pa_cons (pv 1) (pa_nil)))) (pss_cons (ps_set (i := 2) sc_law.nd rfl (Or.inl rfl) (pe_callG (ok__law_level T) hg (hr.mono (by decide)) (by rfl) T.g__law_level T.F__law_level.kp T.b__law_level pass0 (pa_cons (pv 1) (pa_nil)))) (pss_cons (ps_set (i := 7) sc_law.nd rfl (Or.inl rfl) (pe_callG (ok__law_next T) hg (hr.mono (by decide)) (by rfl) T.g__law_next T.F__law_next.kp T.b__law_next pass0 (pa_cons (pv 1) (pa_cons (pe_int) (pa_nil))))) (pss_cons (ps_set (i := 8) sc_law.nd rfl (Or.inl rfl) (pe_op (r := rCatA K) op_catA (pe_op (r := rCatA K) op_catA (pe_slice (r := rSlA K) sl_tupA (pv 5) (po_none) (po_some (pv 7))) (pe_tup (pa_cons (pe_ix (r := rIx K) ix_seq (pe_lst (pa_cons (pe_un un_neg (pe_int)) (pa_cons (pe_int) (pa_cons (pe_int) (pa_cons (pe_int) (pa_cons (pe_callG (ok__law_next T) hg (hr.mono (by decide)) (by rfl) T.g__law_next T.F__law_next.kp T.b__law_next pass0 (pa_cons (pv 1) (pa_cons (pe_int) (pa_nil)))) (pa_nil))))))) (pe_callG (ok__law_next T) hg (hr.mono (by decide)) (by rfl) T.g__law_next T.F__law_next.kp T.b__law_next pass0 (pa_cons (pv 1) (pa_cons (pe_int) (pa_nil)))) (fun _ _ => rfl)) (pa_nil)))) (pe_slice (r := rSlA K) sl_tupA (pv 5) (po_some (pe_op op_add (pv 7) (pe_int))) (po_none)))) (pss_cons (ps_for PassesOwn.never rfl (pi_listK (K := K) rfl (pe_lst (pa_cons (pv 5) (pa_cons (pv 8) (pa_cons (pe_slice (r := rSlA K) sl_tupA (pv 5) (po_none) (po_some (pe_int))) (pa_cons (pe_op (r := rCatA K) op_catA (pv 5) (pe_tup (pa_cons (pe_int) (pa_nil)))) (pa_cons (pe_tup (pa_nil)) (pa_cons (pe_tup (pa_cons (pe_int) (pa_cons (pe_int) (pa_cons (pe_int) (pa_cons (pe_int) (pa_nil)))))) (pa_nil))))))))) (pg_name (i := 9) sc_law.nd rfl (Or.inl rfl)) (pss_one (ps_if (pt_not (pt_val (pe_callG (ok__law_same T) hg (hr.mono (by decide)) (by rfl) T.g__law_same T.F__law_same.kp T.b__law_same pass0 (pa_cons (pe_lst (pa_cons (pe_callG (ok_is_pixel T) hg (hr.mono (by decide)) (by rfl) T.g_is_pixel T.F_is_pixel.kp T.b_is_pixel pass0 (pa_cons (pv 9) (pa_nil))) (pa_cons (pe_callG (ok__law_told T) hg (hr.mono (by decide)) (by rfl) T.g__law_told T.F__law_told.kp T.b__law_told pass0 (pa_cons (pe_glob (v := V.ref T.a_check_pixel) (by rfl) T.g_check_pixel rfl) (pa_cons (pv 9) pa_nil))) (pa_nil)))) (pa_cons (pe_lst (pa_cons (pe_callG (ok__law_is_pixel T) hg (hr.mono (by decide)) (by rfl) T.g__law_is_pixel T.F__law_is_pixel.kp T.b__law_is_pixel pass0 (pa_cons (pv 9) (pa_nil))) (pa_cons (pe_ix (r := rIx K) ix_seq (pe_lst (pa_cons (pe_str) (pa_cons (pe_str) (pa_nil)))) (pe_callTy call_int1 (by rfl) T.z_int (by decide +kernel) (pa_cons (pe_callG (ok__law_is_pixel T) hg (hr.mono (by decide)) (by rfl) T.g__law_is_pixel T.F__law_is_pixel.kp T.b__law_is_pixel pass0 (pa_cons (pv 9) (pa_nil))) (pa_nil))) (fun _ _ => rfl)) (pa_nil)))) (pa_nil)))))) (pss_one (ps_ret (pe_bl))) (pss_nil)))) (pss_cons (ps_for PassesOwn.never rfl (pi_listK (K := K) rfl (pe_lst (pa_cons (pe_str) (pa_cons (pe_str) (pa_cons (pe_str) (pa_cons (pe_str) (pa_cons (pe_str) (pa_cons (pe_str) (pa_nil))))))))) (pg_name (i := 3) sc_law.nd rfl (Or.inl rfl)) (pss_cons (ps_set (i := 10) sc_law.nd rfl (Or.inl rfl) (pe_callG (ok_blended T) hg (hr.mono (by decide)) (by rfl) T.g_blended T.F_blended.kp T.b_blended pass0 (pa_cons (pv 3) (pa_cons (pv 5) (pa_cons (pv 6) (pa_cons (pv 2) (pa_nil))))))) (pss_cons (ps_if (PW.pt (pw_or (pt_not (pt_val (pe_callG (ok__law_same T) hg (hr.mono (by decide)) (by rfl) T.g__law_same T.F__law_same.kp T.b__law_same pass0 (pa_cons (pv 10) (pa_cons (pe_callG (ok__law_blended T) hg (hr.mono (by decide)) (by rfl) T.g__law_blended T.F__law_blended.kp T.b__law_blended pass0 (pa_cons (pv 3) (pa_cons (pv 5) (pa_cons (pv 6) (pa_cons (pv 2) (pa_nil)))))) (pa_nil)))))) (pw_or1 (pt_not (pt_val (pe_callG (ok__law_is_pixel T) hg (hr.mono (by decide)) (by rfl) T.g__law_is_pixel T.F__law_is_pixel.kp T.b__law_is_pixel pass0 (pa_cons (pv 10) (pa_nil)))))))) (pss_one (ps_ret (pe_bl))) (pss_nil)) (pss_one (ps_if (pt_not (pt_val (pe_callG (ok__law_same T) hg (hr.mono (by decide)) (by rfl) T.g__law_same T.F__law_same.kp T.b__law_same pass0 (pa_cons (pe_lst (pa_cons (pe_callG (ok_blended T) hg (hr.mono (by decide)) (by rfl) T.g_blended T.F_blended.kp T.b_blended pass0 (pa_cons (pv 3) (pa_cons (pv 5) (pa_cons (pv 6) (pa_cons (pe_int) (pa_nil)))))) (pa_cons (pe_callG (ok_blended T) hg (hr.mono (by decide)) (by rfl) T.g_blended T.F_blended.kp T.b_blended pass0 (pa_cons (pv 3) (pa_cons (pv 5) (pa_cons (pe_tup (pa_cons (pe_int) (pa_cons (pe_int) (pa_cons (pe_int) (pa_cons (pe_int) (pa_nil)))))) (pa_cons (pv 2) (pa_nil)))))) (pa_nil)))) (pa_cons (pe_lst (pa_cons (pv 5) (pa_cons (pv 5) (pa_nil)))) (pa_nil)))))) (pss_one (ps_ret (pe_bl))) (pss_nil)))))) (pss_cons (ps_set (i := 11) sc_law.nd rfl (Or.inl rfl) (pe_ix (r := rIx K) ix_seq (pe_lst (pa_cons (pv 6) (pa_cons (pe_tup (pa_cons (pe_int) (pa_cons (pe_int) (pa_cons (pe_int) (pa_cons (pe_int) (pa_nil)))))) (pa_nil)))) (pe_callTy call_int1 (by rfl) T.z_int (by decide +kernel) (pa_cons (pe_cmpR op_lt (pe_ix (r := rIx K) ix_seq (pv 6) (pe_int) (fun _ _ => rfl)) (pe_int) (by first | exact nomark _ | rfl)) (pa_nil))) (fun _ _ => rfl))) (pss_one (ps_if (pt_not (pt_val (pe_callG (ok__law_same T) hg (hr.mono (by decide)) (by rfl) T.g__law_same T.F__law_same.kp T.b__law_same pass0 (pa_cons (pe_lst (pa_cons (pe_callG (ok_blended T) hg (hr.mono (by decide)) (by rfl) T.g_blended T.F_blended.kp T.b_blended pass0 (pa_cons (pe_str) (pa_cons (pv 5) (pa_cons (pv 11) (pa_cons (pe_int) (pa_nil)))))) (pa_cons (pe_callG (ok_faded T) hg (hr.mono (by decide)) (by rfl) T.g_faded T.F_faded.kp T.b_faded pass0 (pa_cons (pv 5) (pa_cons (pv 2) (pa_nil)))) (pa_cons (pe_callG (ok_faded T) hg (hr.mono (by decide)) (by rfl) T.g_faded T.F_faded.kp T.b_faded pass0 (pa_cons (pv 5) (pa_cons (pe_int) (pa_nil)))) (pa_cons (pe_callG (ok_faded T) hg (hr.mono (by decide)) (by rfl) T.g_faded T.F_faded.kp T.b_faded pass0 (pa_cons (pv 5) (pa_cons (pe_int) (pa_nil)))) (pa_nil)))))) (pa_cons (pe_lst (pa_cons (pv 11) (pa_cons (pe_callG (ok__law_faded T) hg (hr.mono (by decide)) (by rfl) T.g__law_faded T.F__law_faded.kp T.b__law_faded pass0 (pa_cons (pv 5) (pa_cons (pv 2) (pa_nil)))) (pa_cons (pv 5) (pa_cons (pe_tup (pa_cons (pe_int) (pa_cons (pe_int) (pa_cons (pe_int) (pa_cons (pe_int) (pa_nil)))))) (pa_nil)))))) (pa_nil)))))) (pss_one (ps_ret (pe_bl))) (pss_nil)))))))))))) (pss_one (ps_ret (pe_bl)))))))), ?_⟩
  exact law_run (E := E0) (dr := D_law) rfl (snd_call0 (snd_cons (snd_var) (snd_nil))) (fun l ns => sns_seq (sns_if (snd_or (snd_not (snd_tB (snd_call0 (snd_cons (snd_ofL (snd_lst (snd_cons (snd_int) (snd_cons (snd_glob T.d_CLEAR) (snd_cons (snd_glob T.d_MODES) (snd_nil)))))) (snd_cons (snd_ofL (snd_lst (snd_cons (snd_int) (snd_cons (snd_tup (snd_cons (snd_int) (snd_cons (snd_int) (snd_cons (snd_int) (snd_cons (snd_int) (snd_nil)))))) (snd_cons (snd_callB rc_tuple (snd_cons (snd_ofL (snd_lst (snd_cons (snd_str) (snd_cons (snd_str) (snd_cons (snd_str) (snd_cons (snd_str) (snd_cons (snd_str) (snd_cons (snd_str) (snd_nil))))))))) (snd_nil))) (snd_nil)))))) (snd_nil)))))) (snd_not (snd_tB (snd_call0 (snd_cons (snd_var) (snd_nil)))))) (sns_ret (snd_bl)) (sns_next)) (sns_seq (sns_for (snd_iL (snd_ofL (snd_lst (snd_cons (snd_un ru_neg (snd_int)) (snd_cons (snd_int) (snd_cons (snd_int) (snd_cons (snd_int) (snd_cons (snd_call0 (snd_cons (snd_var) (snd_cons (snd_int) (snd_nil)))) (snd_nil))))))))) (sng_name) (sns_if (snd_not (snd_tB (snd_call0 (snd_cons (snd_ask ((ok_check_level T).up (by decide)) T.F_check_level.kp T.b_check_level (snd_var)) (snd_cons (snd_op rr_ix (snd_ofL (snd_lst (snd_cons (snd_str) (snd_cons (snd_str) (snd_nil))))) (snd_callB rc_int1 (snd_cons (snd_chain rr_le rr_le (snd_int) (snd_var) (snd_int)) (snd_nil)))) (snd_nil)))))) (sns_ret (snd_bl)) (sns_next))) (sns_seq (sns_for (snd_iL (snd_ofL (snd_catL (snd_lst (snd_cons (snd_str) (snd_cons (snd_str) (snd_cons (snd_str) (snd_cons (snd_str) (snd_cons (snd_str) (snd_nil))))))) (snd_lst (snd_cons (snd_str) (snd_cons (snd_str) (snd_cons (snd_str) (snd_cons (snd_str) (snd_cons (snd_str) (snd_cons (snd_str) (snd_nil))))))))))) (sng_name) (sns_if (snd_not (snd_tB (snd_call0 (snd_cons (snd_ask ((ok_check_mode T).up (by decide)) T.F_check_mode.kp T.b_check_mode (snd_var)) (snd_cons (snd_op rr_ix (snd_ofL (snd_lst (snd_cons (snd_str) (snd_cons (snd_str) (snd_nil))))) (snd_callB rc_int1 (snd_cons (snd_op rr_in (snd_var) (snd_ofL (snd_lst (snd_cons (snd_str) (snd_cons (snd_str) (snd_cons (snd_str) (snd_cons (snd_str) (snd_cons (snd_str) (snd_cons (snd_str) (snd_nil)))))))))) (snd_nil)))) (snd_nil)))))) (sns_ret (snd_bl)) (sns_next))) (sns_seq (sns_for (snd_i1 (snd_cons (snd_int) (snd_nil))) (sng_name) (sns_seq (sns_set (snd_call0 (snd_cons (snd_var) (snd_nil)))) (sns_seq (sns_set (snd_call0 (snd_cons (snd_var) (snd_nil)))) (sns_seq (sns_set (snd_call0 (snd_cons (snd_var) (snd_nil)))) (sns_seq (sns_set (snd_call0 (snd_cons (snd_var) (snd_cons (snd_int) (snd_nil))))) (sns_seq (sns_set (snd_op rr_catT (snd_op rr_catT (snd_slT (snd_var) (snd_noO) (snd_soO (snd_var))) (snd_tup (snd_cons (snd_op rr_ix (snd_ofL (snd_lst (snd_cons (snd_un ru_neg (snd_int)) (snd_cons (snd_int) (snd_cons (snd_int) (snd_cons (snd_int) (snd_cons (snd_call0 (snd_cons (snd_var) (snd_cons (snd_int) (snd_nil)))) (snd_nil)))))))) (snd_call0 (snd_cons (snd_var) (snd_cons (snd_int) (snd_nil))))) (snd_nil)))) (snd_slT (snd_var) (snd_soO (snd_op rr_add (snd_var) (snd_int))) (snd_noO)))) (sns_seq (sns_for (snd_iL (snd_ofL (snd_lst (snd_cons (snd_var) (snd_cons (snd_var) (snd_cons (snd_slT (snd_var) (snd_noO) (snd_soO (snd_int))) (snd_cons (snd_op rr_catT (snd_var) (snd_tup (snd_cons (snd_int) (snd_nil)))) (snd_cons (snd_tup (snd_nil)) (snd_cons (snd_tup (snd_cons (snd_int) (snd_cons (snd_int) (snd_cons (snd_int) (snd_cons (snd_int) (snd_nil)))))) (snd_nil)))))))))) (sng_name) (sns_if (snd_not (snd_tB (snd_call0 (snd_cons (snd_ofL (snd_lst (snd_cons (snd_call0 (snd_cons (snd_var) (snd_nil))) (snd_cons (snd_ask ((ok_check_pixel T).up (by decide)) T.F_check_pixel.kp T.b_check_pixel (snd_var)) (snd_nil))))) (snd_cons (snd_ofL (snd_lst (snd_cons (snd_call0 (snd_cons (snd_var) (snd_nil))) (snd_cons (snd_op rr_ix (snd_ofL (snd_lst (snd_cons (snd_str) (snd_cons (snd_str) (snd_nil))))) (snd_callB rc_int1 (snd_cons (snd_call0 (snd_cons (snd_var) (snd_nil))) (snd_nil)))) (snd_nil))))) (snd_nil)))))) (sns_ret (snd_bl)) (sns_next))) (sns_seq (sns_for (snd_iL (snd_ofL (snd_lst (snd_cons (snd_str) (snd_cons (snd_str) (snd_cons (snd_str) (snd_cons (snd_str) (snd_cons (snd_str) (snd_cons (snd_str) (snd_nil)))))))))) (sng_name) (sns_seq (sns_set (snd_call0 (snd_cons (snd_var) (snd_cons (snd_var) (snd_cons (snd_var) (snd_cons (snd_var) (snd_nil))))))) (sns_seq (sns_if (snd_or (snd_not (snd_tB (snd_call0 (snd_cons (snd_var) (snd_cons (snd_call0 (snd_cons (snd_var) (snd_cons (snd_var) (snd_cons (snd_var) (snd_cons (snd_var) (snd_nil)))))) (snd_nil)))))) (snd_not (snd_tB (snd_call0 (snd_cons (snd_var) (snd_nil)))))) (sns_ret (snd_bl)) (sns_next)) (sns_if (snd_not (snd_tB (snd_call0 (snd_cons (snd_ofL (snd_lst (snd_cons (snd_call0 (snd_cons (snd_var) (snd_cons (snd_var) (snd_cons (snd_var) (snd_cons (snd_int) (snd_nil)))))) (snd_cons (snd_call0 (snd_cons (snd_var) (snd_cons (snd_var) (snd_cons (snd_tup (snd_cons (snd_int) (snd_cons (snd_int) (snd_cons (snd_int) (snd_cons (snd_int) (snd_nil)))))) (snd_cons (snd_var) (snd_nil)))))) (snd_nil))))) (snd_cons (snd_ofL (snd_lst (snd_cons (snd_var) (snd_cons (snd_var) (snd_nil))))) (snd_nil)))))) (sns_ret (snd_bl)) (sns_next))))) (sns_seq (sns_set (snd_op rr_ix (snd_ofL (snd_lst (snd_cons (snd_var) (snd_cons (snd_tup (snd_cons (snd_int) (snd_cons (snd_int) (snd_cons (snd_int) (snd_cons (snd_int) (snd_nil)))))) (snd_nil))))) (snd_callB rc_int1 (snd_cons (snd_op rr_lt (snd_op rr_ix (snd_var) (snd_int)) (snd_int)) (snd_nil))))) (sns_if (snd_not (snd_tB (snd_call0 (snd_cons (snd_ofL (snd_lst (snd_cons (snd_call0 (snd_cons (snd_str) (snd_cons (snd_var) (snd_cons (snd_var) (snd_cons (snd_int) (snd_nil)))))) (snd_cons (snd_call0 (snd_cons (snd_var) (snd_cons (snd_var) (snd_nil)))) (snd_cons (snd_call0 (snd_cons (snd_var) (snd_cons (snd_int) (snd_nil)))) (snd_cons (snd_call0 (snd_cons (snd_var) (snd_cons (snd_int) (snd_nil)))) (snd_nil))))))) (snd_cons (snd_ofL (snd_lst (snd_cons (snd_var) (snd_cons (snd_call0 (snd_cons (snd_var) (snd_cons (snd_var) (snd_nil)))) (snd_cons (snd_var) (snd_cons (snd_tup (snd_cons (snd_int) (snd_cons (snd_int) (snd_cons (snd_int) (snd_cons (snd_int) (snd_nil)))))) (snd_nil))))))) (snd_nil)))))) (sns_ret (snd_bl)) (sns_next))))))))))) (sns_ret (snd_bl)))))) hS e1 e2 Q q
end
/-! levels and blends -/
def sc (x y : Int) : Int := (x * y + 7) / 15
def mx (x y m : Int) : Int := (x * (15 - m) + y * m + 7) / 15
theorem mul_in {x y a b : Int} (h0 : 0 ≤ x) (h1 : x ≤ a) (h2 : 0 ≤ y) (h3 : y ≤ b) : 0 ≤ x * y ∧ x * y ≤ a * b := ⟨Int.mul_nonneg h0 h2, Int.mul_le_mul h1 h3 h2 (by omega)⟩
structure Lv (x : Int) : Prop where
  lo : 0 ≤ x
  hi : x ≤ 15
theorem sc_lv {x y : Int} (hx : Lv x) (hy : Lv y) : Lv (sc x y) := by
  have := mul_in hx.lo hx.hi hy.lo hy.hi
  unfold sc
  exact ⟨by omega, by omega⟩
theorem mx_lv {x y m : Int} (hx : Lv x) (hy : Lv y) (hm : Lv m) : Lv (mx x y m) := by
  have a := mul_in (y := 15 - m) (b := 15 - m) hx.lo hx.hi (by have := hm.hi; omega) (Int.le_refl _)
  have b := mul_in (b := m) hy.lo hy.hi hm.lo (Int.le_refl _)
  have := hm.lo; have := hm.hi
  unfold mx
  exact ⟨by omega, by omega⟩
theorem Lv.inv {x : Int} (h : Lv x) : Lv (15 - x) := ⟨by have := h.hi; omega, by have := h.lo; omega⟩
local macro_rules | `(tactic| walk_at "den") => `(tactic| simp only [dDef, dSeq, seqO, dSet, dNew, dApp, dRet, dRetO, dRetN, dDrop, dIfS, dTe, dNot, dAnd, dOr, dNext, dBreak, dOp, dUn, gNeg, dCB, dCons, dNil, dTup, dLst, dL, dVar, dC, dCall0, dCall, dIxO, dLenO, dIf, dChain, dAndV, dOrV, dNotV, datas, args, List.map_cons, List.map_nil, List.replicate, List.cons_append, List.nil_append, List.getElem?_cons_zero, List.getElem?_cons_succ, List.set_cons_zero, List.set_cons_succ, R.bind_ok, R.map_ok, R.calm_ok, aAdd_eq, aSub_eq, aLt_eq, aLe_eq, aGt_eq, aGe_eq, gEq_int, gNe_int, gInt1, gMax2, gMin2, gAbs, gLen, gIx, gIxL, finD, finO, List.length_cons, List.length_nil, if_true, if_false, Bool.false_eq_true, Bool.not_true, Bool.not_false, reduceCtorEq])
theorem scaled_ok {ns : List Int} {x y c : Int} (hx : Lv x) (hy : Lv y) : V_scaled ns [.d (.int x), .d (.int y)] c = .ok (.d (.int (sc x y))) c := by
  have a := aMul_eq x y c (by have := hx.lo; omega) (by have := hx.hi; omega) (by have := hy.lo; omega) (by have := hy.hi; omega)
  have d := aDiv_eq (x * y + 7) 15 c (by decide) (by decide)
  show dDef 0 (D_scaled ns) _ _ = _
  unfold D_scaled
  walk_at "den"
  simp only [a, d, aAdd_eq, R.bind_ok, finO, sc]
theorem lscaled_ok {ns : List Int} {x y c : Int} (hx : Lv x) (hy : Lv y) : V__law_scaled ns [.d (.int x), .d (.int y)] c = .ok (.d (.int (sc x y))) c := scaled_ok (ns := ns) hx hy
theorem mixed_ok {ns : List Int} {x y m c : Int} (hx : Lv x) (hy : Lv y) (hm : Lv m) : V_mixed ns [.d (.int x), .d (.int y), .d (.int m)] c = .ok (.d (.int (mx x y m))) c := by
  have h1 := hx.lo; have h2 := hx.hi; have h3 := hy.lo; have h4 := hy.hi; have h5 := hm.lo; have h6 := hm.hi
  have a := aMul_eq x (15 - m) c (by omega) (by omega) (by omega) (by omega)
  have b := aMul_eq y m c (by omega) (by omega) (by omega) (by omega)
  have d := aDiv_eq (x * (15 - m) + y * m + 7) 15 c (by decide) (by decide)
  show dDef 0 (D_mixed ns) _ _ = _
  unfold D_mixed
  walk_at "den"
  simp only [a, b, d, aAdd_eq, R.bind_ok, finO, mx]
theorem lmixed_ok {ns : List Int} {x y m c : Int} (hx : Lv x) (hy : Lv y) (hm : Lv m) : V__law_mixed ns [.d (.int x), .d (.int y), .d (.int m)] c = .ok (.d (.int (mx x y m))) c := mixed_ok (ns := ns) hx hy hm
def modeS : Nat → Str
  | 0 => "plain" | 1 => "darker" | 2 => "lighter" | 3 => "times" | 4 => "screen" | _ => "apart"
def made (k : Nat) (p q : Int) : Int := match k with
  | 0 => q
  | 1 => if q < p then q else p
  | 2 => if q > p then q else p
  | 3 => sc p q
  | 4 => 15 - sc (15 - p) (15 - q)
  | _ => if p - q < 0 then -(p - q) else p - q
theorem made_lv {k : Nat} {p q : Int} (hp : Lv p) (hq : Lv q) : Lv (made k p q) := by
  have a := sc_lv hp hq
  have b := (sc_lv hp.inv hq.inv).inv
  have h1 := hp.lo; have h2 := hp.hi; have h3 := hq.lo; have h4 := hq.hi
  unfold made
  split
  · exact hq
  · split <;> assumption
  · split <;> assumption
  · exact a
  · exact b
  · split <;> exact ⟨by omega, by omega⟩
theorem six {k : Nat} (h : k < 6) : k = 0 ∨ k = 1 ∨ k = 2 ∨ k = 3 ∨ k = 4 ∨ k = 5 := by omega
theorem mode_eq {k j : Nat} (hk : k < 6) (hj : j < 6) (c : Int) : gEq false (.d (.str (modeS k))) (.d (.str (modeS j))) c = .ok (.d (.bool (k == j))) c := by
  have all : ∀ k, k < 6 → ∀ j, j < 6 → PyData.strOk (modeS k) = true ∧ (modeS k == modeS j) = (k == j) := by decide +kernel
  rw [gEq_str _ _ _ (all k hk j hj).1 (all j hj k hk).1, (all k hk j hj).2]
theorem put_ok {ns : List Int} {k : Nat} {p q c : Int} (hk : k < 6) (hp : Lv p) (hq : Lv q) : V_put_together ns [.d (.str (modeS k)), .d (.int p), .d (.int q)] c = .ok (.d (.int (made k p q))) c := by
  have e1 := mode_eq hk (show 1 < 6 by decide) c
  have e2 := mode_eq hk (show 2 < 6 by decide) c
  have e3 := mode_eq hk (show 3 < 6 by decide) c
  have e4 := mode_eq hk (show 4 < 6 by decide) c
  have e5 := mode_eq hk (show 5 < 6 by decide) c
  have s1 := scaled_ok (ns := ns) (c := c) hp hq
  have s2 := scaled_ok (ns := ns) (c := c) hp.inv hq.inv
  simp only [show modeS 1 = "darker" from rfl, show modeS 2 = "lighter" from rfl, show modeS 3 = "times" from rfl, show modeS 4 = "screen" from rfl, show modeS 5 = "apart" from rfl] at e1 e2 e3 e4 e5
  show dDef 0 (D_put_together ns) _ _ = _
  unfold D_put_together
  have sub : ∀ x : Int, aSub (.d (.int 15)) (.d (.int x)) c = .ok (.d (.int (15 - x))) c := fun x => rfl
  rcases six hk with rfl | rfl | rfl | rfl | rfl | rfl <;> (simp only [dDef, dSeq, seqO, dRet, dIfS, dTe, dNext, dOp, dCB, dCons, dNil, dVar, dC, dCall0, args, List.map_cons, List.map_nil, List.replicate, List.cons_append, List.nil_append, List.getElem?_cons_zero, List.getElem?_cons_succ, R.bind_ok, e1, e2, e3, e4, e5, sub, aSub_eq, gMax2, gMin2, gAbs, finD, finO, List.length_cons, List.length_nil, s1, s2, R.calm_ok, made, Nat.reduceBEq, Nat.reduceEqDiff, beq_self_eq_true, Bool.false_eq_true, if_true, if_false, if_pos])
theorem lmade_ok {ns : List Int} {k : Nat} {p q c : Int} (hk : k < 6) (hp : Lv p) (hq : Lv q) : V__law_made ns [.d (.str (modeS k)), .d (.int p), .d (.int q)] c = .ok (.d (.int (made k p q))) c := by
  have e1 := mode_eq hk (show 1 < 6 by decide) c
  have e2 := mode_eq hk (show 2 < 6 by decide) c
  have e3 := mode_eq hk (show 3 < 6 by decide) c
  have e4 := mode_eq hk (show 4 < 6 by decide) c
  have e5 := mode_eq hk (show 5 < 6 by decide) c
  have s1 := lscaled_ok (ns := ns) (c := c) hp hq
  have s2 := lscaled_ok (ns := ns) (c := c) hp.inv hq.inv
  simp only [show modeS 1 = "darker" from rfl, show modeS 2 = "lighter" from rfl, show modeS 3 = "times" from rfl, show modeS 4 = "screen" from rfl, show modeS 5 = "apart" from rfl] at e1 e2 e3 e4 e5
  show dDef 0 (D__law_made ns) _ _ = _
  unfold D__law_made
  have sub : ∀ x : Int, aSub (.d (.int 15)) (.d (.int x)) c = .ok (.d (.int (15 - x))) c := fun x => rfl
  have ap : (if q > p then q else p) - (if q < p then q else p) = if p - q < 0 then -(p - q) else p - q := by
    split <;> split <;> split <;> omega
  rcases six hk with rfl | rfl | rfl | rfl | rfl | rfl <;> (simp only [dDef, dSeq, seqO, dRet, dIfS, dTe, dNext, dOp, dCB, dCons, dNil, dVar, dC, dCall0, args, List.map_cons, List.map_nil, List.replicate, List.cons_append, List.nil_append, List.getElem?_cons_zero, List.getElem?_cons_succ, R.bind_ok, e1, e2, e3, e4, e5, sub, aSub_eq, gMax2, gMin2, gAbs, finD, finO, List.length_cons, List.length_nil, s1, s2, R.calm_ok, made, ap, Nat.reduceBEq, Nat.reduceEqDiff, beq_self_eq_true, Bool.false_eq_true, if_true, if_false, if_pos])
theorem sc_le {x y : Int} (hx : Lv x) (hy : 0 ≤ y) : sc x y ≤ y := by
  have := mul_in (b := y) hx.lo hx.hi hy (Int.le_refl _)
  unfold sc
  omega
theorem aMul_lv {x y c : Int} (hx : Lv x) (hy : Lv y) : aMul (.d (.int x)) (.d (.int y)) c = .ok (.d (.int (x * y))) c :=
  aMul_eq x y c (by have := hx.lo; omega) (by have := hx.hi; omega) (by have := hy.lo; omega) (by have := hy.hi; omega)
abbrev px (a b c d : Int) : PyData := .tuple [.int a, .int b, .int c, .int d]
def col (k : Nat) (p q r a b v : Int) : Int := (p * r + mx q (made k p q) b * a + v / 2) / v
def over (a3 l : Int) : Int := sc a3 l
def rest (b3 a3 l : Int) : Int := sc b3 (15 - sc a3 l)
def cover (b3 a3 l : Int) : Int := over a3 l + rest b3 a3 l
def bl (k : Nat) (b0 b1 b2 b3 a0 a1 a2 a3 l : Int) : PyData := if cover b3 a3 l = 0 then px 0 0 0 0 else
  px (col k b0 a0 (rest b3 a3 l) (over a3 l) b3 (cover b3 a3 l)) (col k b1 a1 (rest b3 a3 l) (over a3 l) b3 (cover b3 a3 l)) (col k b2 a2 (rest b3 a3 l) (over a3 l) b3 (cover b3 a3 l)) (cover b3 a3 l)
theorem over_lv {a3 l : Int} (h : Lv a3) (hl : Lv l) : Lv (over a3 l) := sc_lv h hl
theorem rest_lv {b3 a3 l : Int} (hb : Lv b3) (h : Lv a3) (hl : Lv l) : Lv (rest b3 a3 l) := sc_lv hb (sc_lv h hl).inv
theorem cover_lv {b3 a3 l : Int} (hb : Lv b3) (h : Lv a3) (hl : Lv l) : Lv (cover b3 a3 l) := by
  have o := sc_lv h hl
  have := sc_le hb o.inv.lo
  have r := rest_lv hb h hl
  have h1 := o.lo; have h2 := r.lo
  unfold cover over rest at *
  exact ⟨by omega, by omega⟩
theorem col_lv {k : Nat} {p q b3 a3 l : Int} (hp : Lv p) (hq : Lv q) (hb : Lv b3) (h : Lv a3) (hl : Lv l) (hc : cover b3 a3 l ≠ 0) : Lv (col k p q (rest b3 a3 l) (over a3 l) b3 (cover b3 a3 l)) := by
  have m := mx_lv hq (made_lv (k := k) hp hq) hb
  have o := over_lv h hl
  have r := rest_lv hb h hl
  have c := cover_lv hb h hl
  have c0 : 0 < cover b3 a3 l := by have := c.lo; omega
  have e : cover b3 a3 l = over a3 l + rest b3 a3 l := rfl
  unfold col
  generalize mx q (made k p q) b3 = t at *
  generalize over a3 l = u at *
  generalize rest b3 a3 l = v at *
  generalize cover b3 a3 l = w at *
  have x1 := mul_in (b := v) hp.lo hp.hi r.lo (Int.le_refl _)
  have x2 := mul_in (b := u) m.lo m.hi o.lo (Int.le_refl _)
  refine ⟨Int.ediv_nonneg (by omega) (by omega), ?_⟩
  have : (p * v + t * u + w / 2) / w < 16 := Int.ediv_lt_of_lt_mul c0 (by omega)
  omega
theorem rng3 : rng 0 3 = [.d (.int 0), .d (.int 1), .d (.int 2)] := by rfl
theorem at0 (a b c d : PyData) : atI [a, b, c, d] 0 = some a := rfl
theorem at1 (a b c d : PyData) : atI [a, b, c, d] 1 = some b := rfl
theorem at2 (a b c d : PyData) : atI [a, b, c, d] 2 = some c := rfl
theorem at3 (a b c d : PyData) : atI [a, b, c, d] 3 = some d := rfl
theorem bt0 (a b c : PyData) : atI [a, b, c] 0 = some a := rfl
theorem bt1 (a b c : PyData) : atI [a, b, c] 1 = some b := rfl
theorem bt2 (a b c : PyData) : atI [a, b, c] 2 = some c := rfl
theorem bt3 (a b : PyData) : atI [a, b] 0 = some a := rfl
theorem bt4 (a b : PyData) : atI [a, b] 1 = some b := rfl
theorem b3R : bR 3 = true := by decide
local macro_rules | `(tactic| walk_at "bl") => `(tactic| simp only [dDef, dSeq, seqO, dSet, dNew, dApp, dRet, dIfS, dTe, dNext, dOp, dCB, dCons, dNil, dTup, dLst, dL, dVar, dC, dCall0, dIxO, dFor, dI1, b3R, rng3, loopD, dName, turnO, show (3 : Int).toNat = 3 from rfl, datas, args, List.map_cons, List.map_nil, List.replicate, List.cons_append, List.nil_append,
    List.getElem?_cons_zero, List.getElem?_cons_succ, List.set_cons_zero, List.set_cons_succ, R.bind_ok, R.map_ok, R.calm_ok, aAdd_eq, aSub_eq, gEq_int, gInt1, gMax2, gIx, gIxL, at0, at1, at2, at3, bt0, bt1, bt2, bt3, bt4, finD, finO, List.length_cons, List.length_nil, if_true, if_false, Bool.false_eq_true, Nat.reduceAdd, Nat.reduceLeDiff, Nat.reduceLT, beq_self_eq_true, List.length_append, bl, col, c_CLEAR, *])
theorem blended_ok {ns : List Int} {k : Nat} {b0 b1 b2 b3 a0 a1 a2 a3 l c : Int} (hk : k < 6) (hb0 : Lv b0) (hb1 : Lv b1) (hb2 : Lv b2) (hb3 : Lv b3) (ha0 : Lv a0) (ha1 : Lv a1) (ha2 : Lv a2) (ha3 : Lv a3) (hl : Lv l) :
    V_blended ns [.d (.str (modeS k)), .d (px b0 b1 b2 b3), .d (px a0 a1 a2 a3), .d (.int l)] c = .ok (.d (bl k b0 b1 b2 b3 a0 a1 a2 a3 l)) c := by
  have s1 := scaled_ok (ns := ns) (c := c) ha3 hl
  have s2 := scaled_ok (ns := ns) (c := c) hb3 (sc_lv ha3 hl).inv
  have e : sc a3 l + sc b3 (15 - sc a3 l) = cover b3 a3 l := rfl
  have o := over_lv ha3 hl
  have r := rest_lv hb3 ha3 hl
  have cv := cover_lv hb3 ha3 hl
  show dDef 7 (D_blended ns) _ _ = _
  unfold D_blended
  by_cases z : cover b3 a3 l = 0
  · walk_at "bl"
  · have z2 : (cover b3 a3 l == 0) = false := by simpa using z
    have dv : ∀ i, aDiv (.d (.int i)) (.d (.int (cover b3 a3 l))) c = .ok (.d (.int (i / cover b3 a3 l))) c := fun i => aDiv_eq i _ c (by have := cv.lo; omega) (by have := cv.hi; omega)
    have d2 : aDiv (.d (.int (cover b3 a3 l))) (.d (.int 2)) c = .ok (.d (.int (cover b3 a3 l / 2))) c := aDiv_eq _ 2 c (by decide) (by decide)
    have p0 := put_ok (ns := ns) (c := c) hk hb0 ha0
    have p1 := put_ok (ns := ns) (c := c) hk hb1 ha1
    have p2 := put_ok (ns := ns) (c := c) hk hb2 ha2
    have q0 := mixed_ok (ns := ns) (c := c) ha0 (made_lv (k := k) hb0 ha0) hb3
    have q1 := mixed_ok (ns := ns) (c := c) ha1 (made_lv (k := k) hb1 ha1) hb3
    have q2 := mixed_ok (ns := ns) (c := c) ha2 (made_lv (k := k) hb2 ha2) hb3
    have t0 := aMul_lv (c := c) hb0 r
    have t1 := aMul_lv (c := c) hb1 r
    have t2 := aMul_lv (c := c) hb2 r
    have u0 := aMul_lv (c := c) (mx_lv ha0 (made_lv (k := k) hb0 ha0) hb3) o
    have u1 := aMul_lv (c := c) (mx_lv ha1 (made_lv (k := k) hb1 ha1) hb3) o
    have u2 := aMul_lv (c := c) (mx_lv ha2 (made_lv (k := k) hb2 ha2) hb3) o
    have eo : sc a3 l = over a3 l := rfl
    have er : sc b3 (15 - over a3 l) = rest b3 a3 l := rfl
    have ec : over a3 l + rest b3 a3 l = cover b3 a3 l := rfl
    rw [eo] at s1 s2
    rw [er] at s2
    walk_at "bl"
theorem lblended_ok {ns : List Int} {k : Nat} {b0 b1 b2 b3 a0 a1 a2 a3 l c : Int} (hk : k < 6) (hb0 : Lv b0) (hb1 : Lv b1) (hb2 : Lv b2) (hb3 : Lv b3) (ha0 : Lv a0) (ha1 : Lv a1) (ha2 : Lv a2) (ha3 : Lv a3) (hl : Lv l) :
    V__law_blended ns [.d (.str (modeS k)), .d (px b0 b1 b2 b3), .d (px a0 a1 a2 a3), .d (.int l)] c = .ok (.d (bl k b0 b1 b2 b3 a0 a1 a2 a3 l)) c := by
  have s1 := lscaled_ok (ns := ns) (c := c) ha3 hl
  have s2 := lscaled_ok (ns := ns) (c := c) hb3 (sc_lv ha3 hl).inv
  have o := over_lv ha3 hl
  have r := rest_lv hb3 ha3 hl
  have cv := cover_lv hb3 ha3 hl
  show dDef 6 (D__law_blended ns) _ _ = _
  unfold D__law_blended
  have dv : ∀ i, aDiv (.d (.int i)) (.d (.int (if cover b3 a3 l > 1 then cover b3 a3 l else 1))) c = .ok (.d (.int (i / (if cover b3 a3 l > 1 then cover b3 a3 l else 1)))) c := fun i => aDiv_eq i _ c (by have := cv.lo; split <;> omega) (by have := cv.hi; split <;> omega)
  have d2 : aDiv (.d (.int (cover b3 a3 l))) (.d (.int 2)) c = .ok (.d (.int (cover b3 a3 l / 2))) c := aDiv_eq _ 2 c (by decide) (by decide)
  have p0 := lmade_ok (ns := ns) (c := c) hk hb0 ha0
  have p1 := lmade_ok (ns := ns) (c := c) hk hb1 ha1
  have p2 := lmade_ok (ns := ns) (c := c) hk hb2 ha2
  have q0 := lmixed_ok (ns := ns) (c := c) ha0 (made_lv (k := k) hb0 ha0) hb3
  have q1 := lmixed_ok (ns := ns) (c := c) ha1 (made_lv (k := k) hb1 ha1) hb3
  have q2 := lmixed_ok (ns := ns) (c := c) ha2 (made_lv (k := k) hb2 ha2) hb3
  have t0 := aMul_lv (c := c) hb0 r
  have t1 := aMul_lv (c := c) hb1 r
  have t2 := aMul_lv (c := c) hb2 r
  have u0 := aMul_lv (c := c) (mx_lv ha0 (made_lv (k := k) hb0 ha0) hb3) o
  have u1 := aMul_lv (c := c) (mx_lv ha1 (made_lv (k := k) hb1 ha1) hb3) o
  have u2 := aMul_lv (c := c) (mx_lv ha2 (made_lv (k := k) hb2 ha2) hb3) o
  have eo : sc a3 l = over a3 l := rfl
  have er : sc b3 (15 - over a3 l) = rest b3 a3 l := rfl
  have ec : over a3 l + rest b3 a3 l = cover b3 a3 l := rfl
  rw [eo] at s1 s2
  rw [er] at s2
  by_cases z : cover b3 a3 l = 0
  · have mz : (if (0 : Int) > 1 then (0 : Int) else 1) = 1 := by decide
    rw [z, mz] at dv
    rw [z] at d2 ec
    walk_at "bl"
  · have z2 : (cover b3 a3 l == 0) = false := by simpa using z
    have mz : (if cover b3 a3 l > 1 then cover b3 a3 l else 1) = cover b3 a3 l := by have := cv.lo; split <;> omega
    rw [mz] at dv
    walk_at "bl"
theorem bl_is {k : Nat} {b0 b1 b2 b3 a0 a1 a2 a3 l : Int} (hb0 : Lv b0) (hb1 : Lv b1) (hb2 : Lv b2) (hb3 : Lv b3) (ha0 : Lv a0) (ha1 : Lv a1) (ha2 : Lv a2) (ha3 : Lv a3) (hl : Lv l) :
    ∃ x y z w, bl k b0 b1 b2 b3 a0 a1 a2 a3 l = px x y z w ∧ Lv x ∧ Lv y ∧ Lv z ∧ Lv w ∧ (0 < w ∨ (x = 0 ∧ y = 0 ∧ z = 0 ∧ w = 0)) := by
  have zero : Lv 0 := ⟨by omega, by omega⟩
  unfold bl
  split
  · exact ⟨0, 0, 0, 0, rfl, zero, zero, zero, zero, .inr ⟨rfl, rfl, rfl, rfl⟩⟩
  · rename_i h
    have cv := cover_lv hb3 ha3 hl
    exact ⟨_, _, _, _, rfl, col_lv hb0 ha0 hb3 ha3 hl h, col_lv hb1 ha1 hb3 ha3 hl h, col_lv hb2 ha2 hb3 ha3 hl h, cv, .inl (by have := cv.lo; omega)⟩
theorem log_lv {x : Int} (h : Lv x) : (if x == 0 then 0 else x.natAbs.log2 + 1) ≤ 5 := by
  split
  · omega
  · have : x.natAbs.log2 < 5 := log2_le (by have := h.lo; have := h.hi; omega) (by decide)
    omega
theorem fits_px {a b c d : Int} (ha : Lv a) (hb : Lv b) (hc : Lv c) (hd : Lv d) : Fits (px a b c d) := by
  have h1 := ha.lo; have h2 := ha.hi; have h3 := hb.lo; have h4 := hb.hi; have h5 := hc.lo; have h6 := hc.hi; have h7 := hd.lo; have h8 := hd.hi
  have w1 := log_lv ha; have w2 := log_lv hb; have w3 := log_lv hc; have w4 := log_lv hd
  refine ⟨?_, ?_, ?_⟩
  · simp only [tame, tames, Bool.and_true, Bool.and_eq_true, decide_eq_true_eq]; omega
  · simp only [PyData.depth, PyData.depthAll]; omega
  · simp only [PyData.weight, PyData.weightAll]; omega
theorem fits_int {a : Int} (h0 : -1000000 ≤ a) (h1 : a ≤ 1000000) : Fits (.int a) := by
  refine ⟨by simp only [tame, decide_eq_true_eq]; omega, by simp only [PyData.depth]; omega, ?_⟩
  simp only [PyData.weight]
  split
  · omega
  · have : a.natAbs.log2 < 20 := log2_le (by omega) (by decide)
    omega
/-! draws -/
theorem nx_ok {ns : List Int} (g : Good ns) {m c : Int} (hm : 0 < m) (h0 : 0 ≤ c) (h1 : c ≤ 1000000) : ∃ r, V__law_next ns [.st, .d (.int m)] c = .ok (.d (.int r)) (c + 1) ∧ 0 ≤ r ∧ r < m := next_ok g hm h0 h1
theorem stream_all (nums : List Int) (hn : nums.length ≤ 63) (m : Nat) : ∃ ns, Good ns ∧ (dCall0 1 (V__law_stream []) (dCons (dVar 0) (dNil)) : Den) (args [.d (.list (nums.map .int))] m) 0 = .ok (.d (.list (ns.map .int))) 0 := by
  obtain ⟨ns, g, e⟩ := stream_ok nums hn
  have e : V__law_stream [] [.d (.list (nums.map .int))] 0 = .ok (.d (.list (ns.map .int))) 0 := e
  refine ⟨ns, g, ?_⟩
  simp only [dCall0, dCons, dVar, dNil, args, List.map_cons, List.map_nil, List.cons_append, List.nil_append, List.getElem?_cons_zero, R.bind_ok, List.length_cons, List.length_nil, Nat.zero_add, if_true, e, R.calm_ok]
theorem same_all {ns : List Int} {d : PyData} (f : Fits d) (c : Int) : V__law_same ns [.d d, .d d] c = .ok (.d (.bool true)) c := same_ok (ns := ns) f c
theorem four {r : Int} (h0 : 0 ≤ r) (h1 : r < 4) : r = 0 ∨ r = 1 ∨ r = 2 ∨ r = 3 := by omega
theorem level_ok {ns : List Int} (g : Good ns) {c : Int} (h0 : 0 ≤ c) (h1 : c ≤ 900000) : ∃ r, V__law_level ns [.st] c = .ok (.d (.int r)) (c + 2) ∧ Lv r := by
  obtain ⟨x, e1, x0, x1⟩ := nx_ok g (m := 16) (c := c) (by decide) h0 (by omega)
  obtain ⟨y, e2, y0, y1⟩ := nx_ok g (m := 4) (c := c + 1) (by decide) (by omega) (by omega)
  have e3 : c + 1 + 1 = c + 2 := by omega
  rw [e3] at e2
  have go : ∀ r, atI [PyData.int x, .int 0, .int 15, .int 8] y = some (.int r) → Lv r → ∃ r, V__law_level ns [.st] c = .ok (.d (.int r)) (c + 2) ∧ Lv r := fun r e h => ⟨r, by
    show dDef 0 (D__law_level ns) _ _ = _
    unfold D__law_level
    simp only [dDef, dRet, dOp, dL, dLst, dCons, dCall0, dVar, dNil, dC, args, List.map_cons, List.map_nil, List.replicate, List.cons_append, List.nil_append, List.getElem?_cons_zero, R.bind_ok, R.map_ok, R.calm_ok, List.length_cons, List.length_nil, Nat.reduceAdd, if_true, e1, e2, datas, Nat.reduceLeDiff, gIx, e, finD, finO], h⟩
  rcases four y0 y1 with rfl | rfl | rfl | rfl
  · exact go x rfl ⟨x0, by omega⟩
  · exact go 0 rfl ⟨by decide, by decide⟩
  · exact go 15 rfl ⟨by decide, by decide⟩
  · exact go 8 rfl ⟨by decide, by decide⟩
/-- one of the six modes -/
theorem mode_pick {r : Int} (h0 : 0 ≤ r) (h1 : r < 6) : ∃ k, k < 6 ∧ atI [PyData.str "plain", .str "darker", .str "lighter", .str "times", .str "screen", .str "apart"] r = some (.str (modeS k)) := by
  have : r = 0 ∨ r = 1 ∨ r = 2 ∨ r = 3 ∨ r = 4 ∨ r = 5 := by omega
  rcases this with rfl | rfl | rfl | rfl | rfl | rfl
  · exact ⟨0, by decide, rfl⟩
  · exact ⟨1, by decide, rfl⟩
  · exact ⟨2, by decide, rfl⟩
  · exact ⟨3, by decide, rfl⟩
  · exact ⟨4, by decide, rfl⟩
  · exact ⟨5, by decide, rfl⟩
/-! pixels, drawn and checked -/
local macro_rules | `(tactic| walk_at "k0") => `(tactic| simp only [dDef, dSeq, seqO, dSet, dNew, dApp, dRet, dRetO, dRetN, dIfS, dTe, dNot, dAnd, dOr, dAndV, dOrV, dNotV, dChain, dNext, dOp, dUn, gNeg, dCB, dCons, dNil, dTup, dLst, dL, dVar, dC, dCall0, dIxO, dFor, dIT, dIL, dI1, b3R, rng3, loopD, dName, turnO, dLc, dYes, compD, keepD, dwipe, dUnp, dGU, dGC, dGN, aCatT, dSlT, dNoO, dSoO, dRaise,
    show (3 : Int).toNat = 3 from rfl, datas, args, List.map_cons, List.map_nil, List.replicate, List.cons_append, List.nil_append, List.getElem?_cons_zero, List.getElem?_cons_succ, List.set_cons_zero, List.set_cons_succ, R.bind_ok, R.map_ok, R.calm_ok, R.bind_ex, aAdd_eq, aSub_eq, aLt_eq, aLe_eq, aGt_eq, gEq_int, gNe_int, gInt1, gLen, gMax2, gMin2, gIx, gIxL, at0, at1, at2, at3, bt0, bt1, bt2, bt3, bt4,
    finD, finO, List.length_cons, List.length_nil, if_true, if_false, Bool.false_eq_true, Bool.true_eq_false, Nat.reduceAdd, Nat.reduceLeDiff, Nat.reduceLT, Nat.reduceEqDiff, beq_self_eq_true, List.length_append, Bool.not_true, Bool.not_false, c_CLEAR, Option.bind_some, *])
structure Px (a b c d : Int) : Prop where
  la : Lv a
  lb : Lv b
  lc : Lv c
  ld : Lv d
  z : 0 < d ∨ (a = 0 ∧ b = 0 ∧ c = 0 ∧ d = 0)
theorem zeroLv : Lv 0 := ⟨by omega, by omega⟩
theorem px0 : Px 0 0 0 0 := ⟨zeroLv, zeroLv, zeroLv, zeroLv, .inr ⟨rfl, rfl, rfl, rfl⟩⟩
theorem nx2 {ns : List Int} (g : Good ns) {m c c' : Int} (hm : 0 < m) (h0 : 0 ≤ c) (h1 : c ≤ 1000000) (e : c' = c + 1) : ∃ r, V__law_next ns [.st, .d (.int m)] c = .ok (.d (.int r)) c' ∧ 0 ≤ r ∧ r < m := by
  subst e
  exact nx_ok g hm h0 h1
theorem pick5 {x i : Int} (hx : Lv x) (h0 : 0 ≤ i) (h1 : i < 5) : ∃ v, atI [PyData.int x, .int 15, .int 0, .int 15, .int 8] i = some (.int v) ∧ Lv v := by
  have : i = 0 ∨ i = 1 ∨ i = 2 ∨ i = 3 ∨ i = 4 := by omega
  rcases this with rfl | rfl | rfl | rfl | rfl
  · exact ⟨_, rfl, hx⟩
  all_goals exact ⟨_, rfl, by omega, by omega⟩
theorem pick3 {x i : Int} (hx : Lv x) (h0 : 0 ≤ i) (h1 : i < 3) : ∃ v, atI [PyData.int x, .int 0, .int 15] i = some (.int v) ∧ Lv v := by
  have : i = 0 ∨ i = 1 ∨ i = 2 := by omega
  rcases this with rfl | rfl | rfl
  · exact ⟨_, rfl, hx⟩
  all_goals exact ⟨_, rfl, by omega, by omega⟩
theorem pixel_ok {ns : List Int} (g : Good ns) {c c' : Int} (h0 : 0 ≤ c) (h1 : c ≤ 900000) (e : c' = c + 8) : ∃ a b p q, V__law_pixel ns [.st] c = .ok (.d (px a b p q)) c' ∧ Px a b p q := by
  obtain ⟨x, e1, x0, x1⟩ := nx2 g (m := 16) (c := c) (c' := c + 1) (by decide) h0 (by omega) rfl
  obtain ⟨i, e2, i0, i1⟩ := nx2 g (m := 5) (c := c + 1) (c' := c + 2) (by decide) (by omega) (by omega) (by omega)
  obtain ⟨x2, e3, y0, y1⟩ := nx2 g (m := 16) (c := c + 2) (c' := c + 3) (by decide) (by omega) (by omega) (by omega)
  obtain ⟨i2, e4, j0, j1⟩ := nx2 g (m := 3) (c := c + 3) (c' := c + 4) (by decide) (by omega) (by omega) (by omega)
  obtain ⟨x3, e5, z0, z1⟩ := nx2 g (m := 16) (c := c + 4) (c' := c + 5) (by decide) (by omega) (by omega) (by omega)
  obtain ⟨i3, e6, k0, k1⟩ := nx2 g (m := 3) (c := c + 5) (c' := c + 6) (by decide) (by omega) (by omega) (by omega)
  obtain ⟨x4, e7, w0, w1⟩ := nx2 g (m := 16) (c := c + 6) (c' := c + 7) (by decide) (by omega) (by omega) (by omega)
  obtain ⟨i4, e8, l0, l1⟩ := nx2 g (m := 3) (c := c + 7) (c' := c') (by decide) (by omega) (by omega) (by omega)
  obtain ⟨v, p1, q1⟩ := pick5 (x := x) ⟨x0, by omega⟩ i0 i1
  obtain ⟨v2, p2, q2⟩ := pick3 (x := x2) ⟨y0, by omega⟩ j0 j1
  obtain ⟨v3, p3, q3⟩ := pick3 (x := x3) ⟨z0, by omega⟩ k0 k1
  obtain ⟨v4, p4, q4⟩ := pick3 (x := x4) ⟨w0, by omega⟩ l0 l1
  by_cases z : v = 0
  · refine ⟨0, 0, 0, 0, ?_, px0⟩
    subst z
    show dDef 3 (D__law_pixel ns) _ _ = _
    unfold D__law_pixel
    walk_at "k0"
  · refine ⟨v2, v3, v4, v, ?_, q2, q3, q4, q1, .inl (by have := q1.lo; omega)⟩
    have z2 : (v == 0) = false := by simpa using z
    show dDef 3 (D__law_pixel ns) _ _ = _
    unfold D__law_pixel
    walk_at "k0"
def lv (x : Int) : Bool := decide (0 ≤ x) && decide (x ≤ 15)
theorem lv_true {x : Int} (h : Lv x) : lv x = true := by have := h.lo; have := h.hi; simp [lv]; omega
theorem is_level_ok {ns : List Int} (x c : Int) : V_is_level ns [.d (.int x)] c = .ok (.d (.bool (lv x))) c := by
  show dDef 0 (D_is_level ns) _ _ = _
  unfold D_is_level lv
  by_cases z : 0 ≤ x
  · have z2 : decide (0 ≤ x) = true := decide_eq_true z
    walk_at "k0" <;> rfl
  · have z2 : decide (0 ≤ x) = false := decide_eq_false z
    walk_at "k0" <;> rfl
def isP (a b c d : Int) : Bool := lv a && (lv b && (lv c && (lv d && (decide (0 < d) || (a == 0 && (b == 0 && (c == 0 && d == 0)))))))
theorem isP_true {a b c d : Int} (h : Px a b c d) : isP a b c d = true := by
  unfold isP
  rw [lv_true h.la, lv_true h.lb, lv_true h.lc, lv_true h.ld]
  rcases h.z with h | ⟨rfl, rfl, rfl, rfl⟩
  · rw [decide_eq_true h]; rfl
  · rfl
theorem gEq_px (a b c d x y z w k : Int) : gEq false (.d (px a b c d)) (.d (px x y z w)) k = .ok (.d (.bool (a == x && (b == y && (c == z && d == w))))) k := by
  simp only [gEq]
  rw [if_pos ⟨by simp [SeqAt.shaped, PyData.canLay0, PyData.canLayAll0, PyData.depth, PyData.depthAll], by simp [SeqAt.shaped, PyData.canLay0, PyData.canLayAll0, PyData.depth, PyData.depthAll]⟩]
  simp [PyData.eqv, PyData.eqvAll]
theorem dec_eq {x y : Int} : decide (x < y) = true ∨ decide (x < y) = false := by by_cases h : x < y <;> simp [h]
theorem is_pixel_ok {ns : List Int} (a b p q c : Int) : V_is_pixel ns [.d (px a b p q)] c = .ok (.d (.bool (isP a b p q))) c := by
  have h1 := is_level_ok (ns := ns) a c
  have h2 := is_level_ok (ns := ns) b c
  have h3 := is_level_ok (ns := ns) p c
  have h4 := is_level_ok (ns := ns) q c
  have ne : ((((0 : Nat) + 1 + 1 + 1 + 1 : Nat) : Int) != 4) = false := by decide
  have ge := gEq_px a b p q 0 0 0 0 c
  show dDef 1 (D_is_pixel ns) _ _ = _
  unfold D_is_pixel isP
  cases e1 : lv a <;> rw [e1] at h1
  · simp only [Bool.false_and]; walk_at "k0"
  cases e2 : lv b <;> rw [e2] at h2
  · simp only [Bool.false_and, Bool.true_and]; walk_at "k0"
  cases e3 : lv p <;> rw [e3] at h3
  · simp only [Bool.false_and, Bool.true_and]; walk_at "k0"
  cases e4 : lv q <;> rw [e4] at h4
  · simp only [Bool.false_and, Bool.true_and]; walk_at "k0"
  cases e5 : decide (0 < q)
  · simp only [Bool.false_and, Bool.true_and, Bool.false_or]; walk_at "k0"
  · simp only [Bool.false_and, Bool.true_and, Bool.true_or]; walk_at "k0"
theorem chain_ok (a c : Int) {δ : List Sl} {i : Nat} (h : δ[i]? = some (.im (.d (.int a)))) : dChain aLe aLe (dC (.d (.int 0))) (dVar i) (dC (.d (.int 15))) δ c = .ok (.d (.bool (lv a))) c := by
  unfold lv
  by_cases z : 0 ≤ a
  · have z2 : decide (0 ≤ a) = true := decide_eq_true z
    walk_at "k0" <;> rfl
  · have z2 : decide (0 ≤ a) = false := decide_eq_false z
    walk_at "k0" <;> rfl
theorem compLv {S0 S1 : Sl} : ∀ (xs : List Int) (c : Int), compD (dName 2) dYes (dChain aLe aLe (dC (.d (.int 0))) (dVar 2) (dC (.d (.int 15)))) [S0, S1, .no] ((xs.map PyData.int).map Vl.d) c = .ok (xs.map fun x => .bool (lv x)) c
  | [], _ => rfl
  | x :: xs, c => by
    have e := chain_ok x c (δ := [S0, S1, .im (.d (.int x))]) (i := 2) rfl
    simp only [compD, dName, keepD, dYes, List.map_cons, List.set_cons_succ, List.set_cons_zero, R.calm_ok, R.bind_ok, if_true, e, compLv xs c]
theorem bools_map (xs : List Int) : boolsOf (xs.map fun x => PyData.bool (lv x)) = some (xs.map lv) := by
  induction xs with
  | nil => rfl
  | cons x xs ih => simp only [List.map_cons, boolsOf, ih, Option.map_some]
theorem lis_pixel_ok {ns : List Int} (a b p q c : Int) : V__law_is_pixel ns [.d (px a b p q)] c = .ok (.d (.bool (isP a b p q))) c := by
  have ge := gEq_px a b p q 0 0 0 0 c
  have ne : ((((0 : Nat) + 1 + 1 + 1 + 1 : Nat) : Int) == 4) = true := by decide
  have hb := bools_map [a, b, p, q]
  have hc := compLv (S0 := .im (.d (px a b p q))) (S1 := .no) [a, b, p, q] c
  simp only [List.map_cons, List.map_nil] at hc hb
  show dDef 2 (D__law_is_pixel ns) _ _ = _
  unfold D__law_is_pixel
  simp only [dDef, dSeq, seqO, dSet, dRet, dAndV, dOrV, dTe, dOp, dCB, dCons, dNil, dVar, dC, dL, dLc, dIT, dwipe, dTup, datas, args, List.map_cons, List.map_nil, List.replicate, List.cons_append, List.nil_append, List.getElem?_cons_zero, List.getElem?_cons_succ, List.set_cons_zero, List.set_cons_succ, R.bind_ok, R.map_ok, gLen, gEq_int, ne, if_true, List.length_cons, List.length_nil, Nat.reduceAdd, Nat.reduceLeDiff, hc, gAll, hb, gIx, at3, aGt_eq, ge, finD, finO]
  simp only [isP, List.all_cons, List.all_nil, id, Bool.and_true]
  cases lv a <;> cases lv b <;> cases lv p <;> cases lv q <;> simp only [Bool.and_true, Bool.and_false, Bool.false_and, Bool.true_and, Bool.false_eq_true, if_false, if_true, R.bind_ok, finO] <;>
    (by_cases z : 0 < q <;> simp only [z, decide_true, decide_false, Bool.false_eq_true, if_false, if_true, R.bind_ok, finO, Bool.true_or, Bool.false_or])
/-- what is no tuple of four -/
theorem short_ok {ns : List Int} (xs : List PyData) (c : Int) (h : xs.length ≠ 4) (hl : xs.length ≤ 10) (hb : ∃ is : List Int, xs = is.map .int) : V_is_pixel ns [.d (.tuple xs)] c = .ok (.d (.bool false)) c ∧ V__law_is_pixel ns [.d (.tuple xs)] c = .ok (.d (.bool false)) c := by
  have ne : ((xs.length : Int) == 4) = false := by simp; omega
  have nn : ((xs.length : Int) != 4) = true := by simp [bne, ne]
  constructor
  · show dDef 1 (D_is_pixel ns) _ _ = _
    unfold D_is_pixel
    walk_at "k0"
  · show dDef 2 (D__law_is_pixel ns) _ _ = _
    unfold D__law_is_pixel
    walk_at "k0"
theorem faded_ok {ns : List Int} {a b p q l c : Int} (h : Lv q) (hl : Lv l) : V_faded ns [.d (px a b p q), .d (.int l)] c = .ok (.d (if sc q (15 - l) = 0 then px 0 0 0 0 else px a b p (sc q (15 - l)))) c := by
  have e := scaled_ok (ns := ns) (c := c) h hl.inv
  show dDef 1 (D_faded ns) _ _ = _
  unfold D_faded
  by_cases z : sc q (15 - l) = 0
  · walk_at "k0"
  · have z2 : (sc q (15 - l) == 0) = false := by simpa using z
    walk_at "k0"
theorem lfaded_ok {ns : List Int} {a b p q l c : Int} (h : Lv q) (hl : Lv l) : V__law_faded ns [.d (px a b p q), .d (.int l)] c = .ok (.d (if sc q (15 - l) = 0 then px 0 0 0 0 else px a b p (sc q (15 - l)))) c := by
  have e := lscaled_ok (ns := ns) (c := c) h hl.inv
  show dDef 1 (D__law_faded ns) _ _ = _
  unfold D__law_faded
  by_cases z : sc q (15 - l) = 0
  · walk_at "k0"
  · have z2 : (sc q (15 - l) == 0) = false := by simpa using z
    walk_at "k0"
/-! steps and loops -/
theorem seq_nx {d e : DenS} {δ δ' : List Sl} {c c' : Int} {r : R Out} (h : d δ c = .ok (.nx δ') c') (h2 : e δ' c' = r) : dSeq d e δ c = r := by
  unfold dSeq
  rw [h]
  exact h2
theorem for_ok {di : DenI} {dg : DenG} {db : DenS} (J : List Sl → Int → Prop) (K : Nat → Int) {xs : List Vl} {δ : List Sl} {c : Int} (hi : di δ c = .ok xs (K 0)) (h0 : J δ (K 0))
    (hs : ∀ (i : Nat) x δ, xs[i]? = some x → J δ (K i) → ∃ δ1, dg x δ = some δ1 ∧ ∃ δ2, db δ1 (K i) = .ok (.nx δ2) (K (i + 1)) ∧ J δ2 (K (i + 1))) :
    ∃ δ', dFor di dg db δ c = .ok (.nx δ') (K xs.length) ∧ J δ' (K xs.length) := by
  obtain ⟨δ', c', e, rfl, j⟩ := loop_ok (dg := dg) (db := db) (fun n δ c => c = K n ∧ J δ c) xs 0 δ (K 0) ⟨rfl, h0⟩ (by
    rintro i x δ c hx ⟨rfl, j⟩
    rw [Nat.zero_add] at j ⊢
    obtain ⟨δ1, e1, δ2, e2, j2⟩ := hs i x δ hx j
    exact ⟨δ1, e1, .nx δ2, δ2, _, e2, .inl rfl, rfl, j2⟩)
  rw [Nat.zero_add] at e j
  refine ⟨δ', ?_, j⟩
  unfold dFor
  rw [hi]
  exact e
theorem seq_for {di : DenI} {dg : DenG} {db e : DenS} {r : R Out} (J : List Sl → Prop) (K : Nat → Int) {xs : List Vl} {δ : List Sl} {c : Int} (hi : di δ c = .ok xs (K 0)) (h0 : J δ)
    (hs : ∀ (i : Nat) x δ, xs[i]? = some x → J δ → ∃ δ1, dg x δ = some δ1 ∧ ∃ δ2, db δ1 (K i) = .ok (.nx δ2) (K (i + 1)) ∧ J δ2)
    (h2 : ∀ δ', J δ' → e δ' (K xs.length) = r) : dSeq (dFor di dg db) e δ c = r := by
  obtain ⟨δ', e1, j⟩ := for_ok (dg := dg) (db := db) (fun δ _ => J δ) K hi h0 hs
  exact seq_nx e1 (h2 δ' j)
structure Fw (n w : Nat) (d : PyData) : Prop where
  t : tame d = true
  p : d.depth ≤ n
  w : d.weight ≤ w
theorem Fw.all {n w : Nat} : ∀ {xs : List PyData}, (∀ x ∈ xs, Fw n w x) → tames xs = true ∧ PyData.depthAll xs ≤ n ∧ PyData.weightAll xs ≤ xs.length * (w + 1)
  | [], _ => ⟨rfl, by simp [PyData.depthAll], by simp [PyData.weightAll]⟩
  | x :: xs, h => by
    obtain ⟨a, b, c⟩ := Fw.all (xs := xs) fun y m => h y (List.mem_cons_of_mem _ m)
    have hx := h x List.mem_cons_self
    refine ⟨by simp only [tames, hx.t, a, Bool.and_self], ?_, ?_⟩
    · simp only [PyData.depthAll]; have := hx.p; omega
    · simp only [PyData.weightAll, List.length_cons, Nat.add_mul]; have := hx.w; omega
theorem Fw.list {n w : Nat} {xs : List PyData} (h : ∀ x ∈ xs, Fw n w x) : Fw (n + 1) (xs.length * (w + 1)) (.list xs) := by
  obtain ⟨a, b, c⟩ := Fw.all h
  exact ⟨by simpa only [tame] using a, by simp only [PyData.depth]; omega, by simpa only [PyData.weight] using c⟩
theorem Fw.tuple {n w : Nat} {xs : List PyData} (h : ∀ x ∈ xs, Fw n w x) : Fw (n + 1) (xs.length * (w + 1)) (.tuple xs) := by
  obtain ⟨a, b, c⟩ := Fw.all h
  exact ⟨by simpa only [tame] using a, by simp only [PyData.depth]; omega, by simpa only [PyData.weight] using c⟩
theorem Fw.fits {n w : Nat} {d : PyData} (h : Fw n w d) (hn : n ≤ 50) (hw : w ≤ 1000000) : Fits d := ⟨h.t, Nat.le_trans h.p hn, Nat.le_trans h.w hw⟩
theorem Fw.int {a : Int} (h0 : -1000000 ≤ a) (h1 : a ≤ 1000000) {n : Nat} : Fw n 20 (.int a) := by
  have f := fits_int h0 h1
  refine ⟨f.t, by simp only [PyData.depth]; omega, ?_⟩
  simp only [PyData.weight]
  split
  · omega
  · have : a.natAbs.log2 < 20 := log2_le (by omega) (by decide)
    omega
theorem Fw.lv {a : Int} (h : Lv a) {n : Nat} : Fw n 20 (.int a) := Fw.int (by have := h.lo; omega) (by have := h.hi; omega)
theorem Fw.up {n n' w w' : Nat} {d : PyData} (h : Fw n w d) (hn : n ≤ n') (hw : w ≤ w') : Fw n' w' d := ⟨h.t, Nat.le_trans h.p hn, Nat.le_trans h.w hw⟩
theorem Fw.px {a b c d : Int} (h1 : Lv a) (h2 : Lv b) (h3 : Lv c) (h4 : Lv d) : Fw 1 84 (px a b c d) := Fw.tuple (n := 0) (w := 20) (xs := [.int a, .int b, .int c, .int d]) (by
  intro x m
  simp only [List.mem_cons, List.not_mem_nil, or_false] at m
  rcases m with rfl | rfl | rfl | rfl
  · exact Fw.lv h1
  · exact Fw.lv h2
  · exact Fw.lv h3
  · exact Fw.lv h4)
theorem Fw.all2 {n w : Nat} {a b : PyData} (h1 : Fw n w a) (h2 : Fw n w b) : ∀ x ∈ [a, b], Fw n w x := by
  intro x m
  simp only [List.mem_cons, List.not_mem_nil, or_false] at m
  rcases m with rfl | rfl <;> assumption
theorem Fw.all3 {n w : Nat} {a b c : PyData} (h1 : Fw n w a) (h2 : Fw n w b) (h3 : Fw n w c) : ∀ x ∈ [a, b, c], Fw n w x := by
  intro x m
  simp only [List.mem_cons, List.not_mem_nil, or_false] at m
  rcases m with rfl | rfl | rfl <;> assumption
theorem Fw.all4 {n w : Nat} {a b c d : PyData} (h1 : Fw n w a) (h2 : Fw n w b) (h3 : Fw n w c) (h4 : Fw n w d) : ∀ x ∈ [a, b, c, d], Fw n w x := by
  intro x m
  simp only [List.mem_cons, List.not_mem_nil, or_false] at m
  rcases m with rfl | rfl | rfl | rfl <;> assumption
theorem Fw.bool {b : Bool} {n : Nat} : Fw n 20 (.bool b) := ⟨rfl, by simp only [PyData.depth]; omega, by simp only [PyData.weight]; omega⟩
theorem Fw.str {s : Str} {n : Nat} (h : PyData.strOk s = true) (hl : s.cps.size ≤ 20) : Fw n 20 (.str s) := ⟨by simpa only [tame] using h, by simp only [PyData.depth]; omega, by simpa only [PyData.weight] using hl⟩
/-! the numbers -/
theorem b40 : bR 40 = true := by decide
theorem numbers_ok {ns : List Int} (g : Good ns) : V__law_numbers ns [.st] 0 = .ok (.d (.bool true)) 160 := by
  have e : D__law_numbers ns (args [.st] 6) 0 = .ok (.rt (.d (.bool true))) 160 := by
    unfold D__law_numbers
    refine seq_for (fun δ => ∃ s1 s2 s3 s4 s5 s6, δ = [.im .st, s1, s2, s3, s4, s5, s6]) (fun n => 4 * (n : Int)) (xs := rng 0 40)
      (by simp only [dI1, dCons, dC, dNil, R.bind_ok, b40, if_true, show (40 : Int).toNat = 40 from rfl]; rfl) ⟨_, _, _, _, _, _, rfl⟩ ?_ (fun _ _ => rfl)
    rintro i x δ hx ⟨s1, s2, s3, s4, s5, s6, rfl⟩
    obtain ⟨rfl, hi⟩ := rng_get hx
    have hc : (4 * (i : Int)) ≤ 160 := by omega
    have hc0 : 0 ≤ (4 * (i : Int)) := by omega
    have hc2 : (4 * ((i + 1 : Nat) : Int)) = 4 * (i : Int) + 4 := by omega
    rw [hc2]
    generalize (4 * (i : Int)) = c at hc hc0
    refine ⟨_, rfl, ?_⟩
    obtain ⟨x, e1, x0, x1⟩ := nx2 g (m := 16) (c := c) (c' := c + 1) (by decide) hc0 (by omega) rfl
    obtain ⟨y, e2, y0, y1⟩ := nx2 g (m := 16) (c := c + 1) (c' := c + 2) (by decide) (by omega) (by omega) (by omega)
    obtain ⟨l, e3, l0, l1⟩ := nx2 g (m := 16) (c := c + 2) (c' := c + 3) (by decide) (by omega) (by omega) (by omega)
    obtain ⟨m, e4, m0, m1⟩ := nx2 g (m := 6) (c := c + 3) (c' := c + 4) (by decide) (by omega) (by omega) (by omega)
    obtain ⟨k, hk, ek⟩ := mode_pick m0 m1
    have hx : Lv x := ⟨x0, by omega⟩
    have hy : Lv y := ⟨y0, by omega⟩
    have hl : Lv l := ⟨l0, by omega⟩
    have a1 := scaled_ok (ns := ns) (c := c + 4) hx hy
    have a2 := lscaled_ok (ns := ns) (c := c + 4) hx hy
    have a3 := mixed_ok (ns := ns) (c := c + 4) hx hy hl
    have a4 := lmixed_ok (ns := ns) (c := c + 4) hx hy hl
    have a5 := put_ok (ns := ns) (c := c + 4) hk hx hy
    have a6 := lmade_ok (ns := ns) (c := c + 4) hk hx hy
    have f : Fits (.list [.int (sc x y), .int (mx x y l), .int (made k x y)]) := (Fw.list (n := 0) (w := 20) (Fw.all3 (Fw.lv (sc_lv hx hy)) (Fw.lv (mx_lv hx hy hl)) (Fw.lv (made_lv hx hy)))).fits (by decide) (by simp)
    have a7 := same_all (ns := ns) f (c + 4)
    refine ⟨[.im .st, .im (.d (.int (0 + (i : Int)))), .im (.d (.int x)), .im (.d (.int y)), .im (.d (.int l)), .im (.d (.str (modeS k))), s6], ?_, _, _, _, _, _, _, rfl⟩
    walk_at "k0"
  show dDef 6 (D__law_numbers ns) _ _ = _
  unfold dDef
  rw [e]
  rfl
/-! what is refused -/
def okS (b : Bool) : Str := if b then "fine" else "refused"
theorem okS_fw {b : Bool} {n : Nat} : Fw n 20 (.str (okS b)) := by cases b <;> exact Fw.str (by decide +kernel) (by decide +kernel)
theorem okS_at (b : Bool) : atI [PyData.str "refused", .str "fine"] (if b then 1 else 0) = some (.str (okS b)) := by cases b <;> rfl
theorem check_level_ok {ns : List Int} (x c : Int) : tell__law_told (V_check_level ns [.d (.int x)] c) = .ok (.d (.str (okS (lv x)))) c := by
  have e := is_level_ok (ns := ns) x c
  have h : V_check_level ns [.d (.int x)] c = if lv x = true then .ok (.d .none) c else .ex "NotAllowed" none c := by
    show dDef 0 (D_check_level ns) _ _ = _
    unfold D_check_level
    cases z : lv x <;> rw [z] at e <;> walk_at "k0"
  rw [h]
  cases lv x <;> rfl
theorem check_pixel_ok {ns : List Int} {p : PyData} {b : Bool} {c : Int} (e : V_is_pixel ns [.d p] c = .ok (.d (.bool b)) c) : tell__law_told (V_check_pixel ns [.d p] c) = .ok (.d (.str (okS b))) c := by
  have h : V_check_pixel ns [.d p] c = if b = true then .ok (.d .none) c else .ex "NotAllowed" none c := by
    show dDef 0 (D_check_pixel ns) _ _ = _
    unfold D_check_pixel
    cases b <;> walk_at "k0"
  rw [h]
  cases b <;> rfl
/-! the law -/
theorem same_str {ns : List Int} {b : Bool} (c : Int) : V__law_same ns [.d (.str (okS b)), .d (.str (okS b))] c = .ok (.d (.bool true)) c := same_all ((okS_fw (n := 0)).fits (by decide) (by simp)) c
theorem refIx (b : Bool) (c : Int) {δ : List Sl} {de : Den} (h : de δ c = .ok (.d (.bool b)) c) : dOp gIx (dL (dLst (dCons (dC (.d (.str "refused"))) (dCons (dC (.d (.str "fine"))) (dNil))))) (dCB gInt1 (dCons de (dNil))) δ c = .ok (.d (.str (okS b))) c := by
  simp only [dOp, dL, dLst, dCons, dNil, dC, dCB, R.bind_ok, R.map_ok, datas, h, gInt1, gIx, okS_at, List.length_cons, List.length_nil, Nat.reduceAdd, Nat.reduceLeDiff, if_true]
theorem if_same {ns : List Int} {da db : Den} {δ : List Sl} {c : Int} {x : PyData} (f : Fits x) (ha : da δ c = .ok (.d x) c) (hb : db δ c = .ok (.d x) c) :
    dIfS (dNot (dTe (dCall0 2 (V__law_same ns) (dCons da (dCons db (dNil)))))) (dRet (dC (.d (.bool false)))) (dNext) δ c = .ok (.nx δ) c := by
  have e3 := same_all (ns := ns) f c
  simp only [dIfS, dNot, dTe, dCall0, dCons, dNil, R.bind_ok, R.calm_ok, ha, hb, e3, List.length_cons, List.length_nil, Nat.reduceAdd, if_true, if_false, Bool.not_true, Bool.false_eq_true, dNext]
theorem mode_in {s : Str} (c : Int) (h : s ∈ ([("" : Str), "plan", "plain ", "Times", "clear", "plain", "darker", "lighter", "times", "screen", "apart"] : List Str)) :
    ∃ b, (∀ ns, tell__law_told (V_check_mode ns [.d (.str s)] c) = .ok (.d (.str (okS b))) c) ∧ gIn false (.d (.str s)) (.d (.list [.str "plain", .str "darker", .str "lighter", .str "times", .str "screen", .str "apart"])) c = .ok (.d (.bool b)) c := by
  simp only [List.mem_cons, List.not_mem_nil, or_false] at h
  rcases h with rfl | rfl | rfl | rfl | rfl | rfl | rfl | rfl | rfl | rfl | rfl
  all_goals first | exact ⟨false, fun ns => rfl, rfl⟩ | exact ⟨true, fun ns => rfl, rfl⟩
theorem sc_zero {x : Int} : sc 0 x = 0 := by unfold sc; simp
theorem sc_zero' {x : Int} : sc x 0 = 0 := by unfold sc; simp
theorem sc_all {x : Int} : sc x 15 = x := by unfold sc; omega
theorem bl_keep {k : Nat} {b0 b1 b2 b3 a0 a1 a2 a3 l : Int} (h : Px b0 b1 b2 b3) (o : sc a3 l = 0) : bl k b0 b1 b2 b3 a0 a1 a2 a3 l = px b0 b1 b2 b3 := by
  have e1 : over a3 l = 0 := o
  have e2 : rest b3 a3 l = b3 := by unfold rest; rw [o]; exact sc_all
  have e3 : cover b3 a3 l = b3 := by unfold cover; rw [e1, e2]; omega
  unfold bl
  rw [e3, e2, e1]
  split
  · rename_i z
    rcases h.z with y | ⟨rfl, rfl, rfl, rfl⟩
    · omega
    · rfl
  · rename_i z
    have hb := h.ld
    have key : ∀ p q : Int, col k p q b3 0 b3 b3 = p := by
      intro p q
      unfold col
      rw [Int.mul_zero, Int.add_zero, Int.add_comm, Int.add_mul_ediv_right _ _ z, Int.ediv_eq_zero_of_lt (by have := hb.lo; omega) (by have := hb.lo; omega)]
      omega
    rw [key, key, key]
theorem bl_full {b0 b1 b2 b3 a0 a1 a2 : Int} (h : Lv b3) : bl 0 b0 b1 b2 b3 a0 a1 a2 15 15 = px a0 a1 a2 15 := by
  have e1 : over 15 15 = 15 := by decide
  have e2 : rest b3 15 15 = 0 := by unfold rest; rw [show sc 15 15 = 15 by decide]; exact sc_zero'
  have e3 : cover b3 15 15 = 15 := by unfold cover; rw [e1, e2]; rfl
  unfold bl
  rw [e3, e2, e1, if_neg (by decide)]
  have key : ∀ p q : Int, col 0 p q 0 15 b3 15 = q := by
    intro p q
    unfold col mx made
    have : q * (15 - b3) + q * b3 = q * 15 := by rw [← Int.mul_add]; congr 1; omega
    simp only [this, Int.mul_zero]
    omega
  rw [key, key, key]
theorem fade0 {a b p q : Int} (h : Px a b p q) : (if sc q (15 - 0) = 0 then px 0 0 0 0 else px a b p (sc q (15 - 0))) = px a b p q := by
  rw [show (15 : Int) - 0 = 15 by rfl, sc_all]
  split
  · rename_i z
    rcases h.z with y | ⟨rfl, rfl, rfl, rfl⟩
    · omega
    · rfl
  · rfl
theorem fade15 {a b p q : Int} : (if sc q (15 - 15) = 0 then px 0 0 0 0 else px a b p (sc q (15 - 15))) = px 0 0 0 0 := by
  rw [show (15 : Int) - 15 = 0 by rfl, sc_zero', if_pos rfl]
theorem fade_px {a b p q l : Int} (h : Px a b p q) (hl : Lv l) : Fw 1 84 (if sc q (15 - l) = 0 then px 0 0 0 0 else px a b p (sc q (15 - l))) := by
  split
  · exact Fw.px zeroLv zeroLv zeroLv zeroLv
  · exact Fw.px h.la h.lb h.lc (sc_lv h.ld hl.inv)
/-- a thing that both readings call a pixel or both not -/
def Both (ns : List Int) (c : Int) (x : PyData) : Prop := ∃ b, V_is_pixel ns [.d x] c = .ok (.d (.bool b)) c ∧ V__law_is_pixel ns [.d x] c = .ok (.d (.bool b)) c
def OneB (ns : List Int) : DenS := dIfS (dNot (dTe (dCall0 2 (V__law_same ns) (dCons (dL (dLst (dCons (dCall0 1 (V_is_pixel ns) (dCons (dVar 9) (dNil))) (dCons (dAsk tell__law_told (V_check_pixel ns) (dVar 9)) (dNil))))) (dCons (dL (dLst (dCons (dCall0 1 (V__law_is_pixel ns) (dCons (dVar 9) (dNil))) (dCons (dOp gIx (dL (dLst (dCons (dC (.d (.str "refused"))) (dCons (dC (.d (.str "fine"))) (dNil))))) (dCB gInt1 (dCons (dCall0 1 (V__law_is_pixel ns) (dCons (dVar 9) (dNil))) (dNil)))) (dNil))))) (dNil)))))) (dRet (dC (.d (.bool false)))) (dNext)
theorem OneB_ok {ns : List Int} {δ : List Sl} {c : Int} {x : PyData} (h : δ[9]? = some (.im (.d x))) (hb : Both ns c x) : OneB ns δ c = .ok (.nx δ) c := by
  obtain ⟨b, h1, h2⟩ := hb
  have h3 := check_pixel_ok h1
  have h4 := refIx b c (δ := δ) (de := dCall0 1 (V__law_is_pixel ns) (dCons (dVar 9) (dNil))) (by simp only [dCall0, dCons, dVar, dNil, h, R.bind_ok, List.length_cons, List.length_nil, Nat.reduceAdd, if_true, h2, R.calm_ok])
  refine if_same (x := .list [.bool b, .str (okS b)]) ((Fw.list (n := 0) (w := 20) (Fw.all2 Fw.bool okS_fw)).fits (by decide) (by simp)) ?_ ?_
  · simp only [dL, dLst, dCall0, dAsk, dCons, dNil, dVar, h, R.bind_ok, R.map_ok, R.calm_ok, datas, h1, h3, List.length_cons, List.length_nil, Nat.reduceAdd, Nat.reduceLeDiff, if_true]
  · simp only [dL, dLst, dCall0, dCons, dNil, dVar, h, R.bind_ok, R.map_ok, R.calm_ok, datas, h2, List.length_cons, List.length_nil, Nat.reduceAdd, Nat.reduceLeDiff, if_true, h4]
def ModeB (ns : List Int) : DenS := dSeq (dSet 10 (dCall0 4 (V_blended ns) (dCons (dVar 3) (dCons (dVar 5) (dCons (dVar 6) (dCons (dVar 2) (dNil))))))) (dSeq (dIfS (dOr (dNot (dTe (dCall0 2 (V__law_same ns) (dCons (dVar 10) (dCons (dCall0 4 (V__law_blended ns) (dCons (dVar 3) (dCons (dVar 5) (dCons (dVar 6) (dCons (dVar 2) (dNil)))))) (dNil)))))) (dNot (dTe (dCall0 1 (V__law_is_pixel ns) (dCons (dVar 10) (dNil)))))) (dRet (dC (.d (.bool false)))) (dNext)) (dIfS (dNot (dTe (dCall0 2 (V__law_same ns) (dCons (dL (dLst (dCons (dCall0 4 (V_blended ns) (dCons (dVar 3) (dCons (dVar 5) (dCons (dVar 6) (dCons (dC (.d (.int 0))) (dNil)))))) (dCons (dCall0 4 (V_blended ns) (dCons (dVar 3) (dCons (dVar 5) (dCons (dTup (dCons (dC (.d (.int 0))) (dCons (dC (.d (.int 0))) (dCons (dC (.d (.int 0))) (dCons (dC (.d (.int 0))) (dNil)))))) (dCons (dVar 2) (dNil)))))) (dNil))))) (dCons (dL (dLst (dCons (dVar 5) (dCons (dVar 5) (dNil))))) (dNil)))))) (dRet (dC (.d (.bool false)))) (dNext)))
theorem ModeB_ok {ns : List Int} {S0 S1 s4 s7 s8 s9 s10 s11 : Sl} {l b0 b1 b2 b3 a0 a1 a2 a3 c : Int} {k : Nat} (hk : k < 6) (hl : Lv l) (hb : Px b0 b1 b2 b3) (ha : Px a0 a1 a2 a3) :
    ∃ t10, ModeB ns [S0, S1, .im (.d (.int l)), .im (.d (.str (modeS k))), s4, .im (.d (px b0 b1 b2 b3)), .im (.d (px a0 a1 a2 a3)), s7, s8, s9, s10, s11] c
      = .ok (.nx [S0, S1, .im (.d (.int l)), .im (.d (.str (modeS k))), s4, .im (.d (px b0 b1 b2 b3)), .im (.d (px a0 a1 a2 a3)), s7, s8, s9, t10, s11]) c := by
  have e1 := blended_ok (ns := ns) (c := c) hk hb.la hb.lb hb.lc hb.ld ha.la ha.lb ha.lc ha.ld hl
  have e2 := lblended_ok (ns := ns) (c := c) hk hb.la hb.lb hb.lc hb.ld ha.la ha.lb ha.lc ha.ld hl
  have e3 := blended_ok (ns := ns) (c := c) hk hb.la hb.lb hb.lc hb.ld ha.la ha.lb ha.lc ha.ld zeroLv
  have e4 := blended_ok (ns := ns) (c := c) hk hb.la hb.lb hb.lc hb.ld zeroLv zeroLv zeroLv zeroLv hl
  rw [bl_keep hb sc_zero'] at e3
  rw [bl_keep hb sc_zero] at e4
  obtain ⟨x, y, z, w, eb, f1, f2, f3, f4, f5⟩ := bl_is (k := k) hb.la hb.lb hb.lc hb.ld ha.la ha.lb ha.lc ha.ld hl
  rw [eb] at e1 e2
  have e5 := same_all (ns := ns) (fits_px f1 f2 f3 f4) c
  have e6 := lis_pixel_ok (ns := ns) x y z w c
  rw [isP_true ⟨f1, f2, f3, f4, f5⟩] at e6
  have fb : Fw 1 84 (px b0 b1 b2 b3) := Fw.px hb.la hb.lb hb.lc hb.ld
  have e7 := same_all (ns := ns) ((Fw.list (Fw.all2 fb fb)).fits (by decide) (by simp)) c
  refine ⟨.im (.d (px x y z w)), ?_⟩
  unfold ModeB
  walk_at "k0"
def LastB (ns : List Int) : DenS := dSeq (dSet 11 (dOp gIx (dL (dLst (dCons (dVar 6) (dCons (dTup (dCons (dC (.d (.int 1))) (dCons (dC (.d (.int 2))) (dCons (dC (.d (.int 3))) (dCons (dC (.d (.int 15))) (dNil)))))) (dNil))))) (dCB gInt1 (dCons (dOp (aLt) (dOp gIx (dVar 6) (dC (.d (.int 3)))) (dC (.d (.int 15)))) (dNil))))) (dIfS (dNot (dTe (dCall0 2 (V__law_same ns) (dCons (dL (dLst (dCons (dCall0 4 (V_blended ns) (dCons (dC (.d (.str "plain"))) (dCons (dVar 5) (dCons (dVar 11) (dCons (dC (.d (.int 15))) (dNil)))))) (dCons (dCall0 2 (V_faded ns) (dCons (dVar 5) (dCons (dVar 2) (dNil)))) (dCons (dCall0 2 (V_faded ns) (dCons (dVar 5) (dCons (dC (.d (.int 0))) (dNil)))) (dCons (dCall0 2 (V_faded ns) (dCons (dVar 5) (dCons (dC (.d (.int 15))) (dNil)))) (dNil))))))) (dCons (dL (dLst (dCons (dVar 11) (dCons (dCall0 2 (V__law_faded ns) (dCons (dVar 5) (dCons (dVar 2) (dNil)))) (dCons (dVar 5) (dCons (dTup (dCons (dC (.d (.int 0))) (dCons (dC (.d (.int 0))) (dCons (dC (.d (.int 0))) (dCons (dC (.d (.int 0))) (dNil)))))) (dNil))))))) (dNil)))))) (dRet (dC (.d (.bool false)))) (dNext))
theorem LastB_ok {ns : List Int} {S0 S1 s3 s4 s7 s8 s9 s10 s11 : Sl} {l b0 b1 b2 b3 a0 a1 a2 a3 c : Int} (hl : Lv l) (hb : Px b0 b1 b2 b3) (ha : Px a0 a1 a2 a3) :
    ∃ t11, LastB ns [S0, S1, .im (.d (.int l)), s3, s4, .im (.d (px b0 b1 b2 b3)), .im (.d (px a0 a1 a2 a3)), s7, s8, s9, s10, s11] c
      = .ok (.nx [S0, S1, .im (.d (.int l)), s3, s4, .im (.d (px b0 b1 b2 b3)), .im (.d (px a0 a1 a2 a3)), s7, s8, s9, s10, t11]) c := by
  have fin : Lv 15 := ⟨by decide, by decide⟩
  obtain ⟨f0, f1, f2, ef, g0, g1, g2⟩ : ∃ f0 f1 f2, atI [px a0 a1 a2 a3, px 1 2 3 15] (if decide (a3 < 15) = true then 1 else 0) = some (px f0 f1 f2 15) ∧ Lv f0 ∧ Lv f1 ∧ Lv f2 := by
    by_cases z : a3 < 15
    · rw [decide_eq_true z]
      exact ⟨1, 2, 3, rfl, ⟨by decide, by decide⟩, ⟨by decide, by decide⟩, ⟨by decide, by decide⟩⟩
    · rw [decide_eq_false z]
      obtain rfl : a3 = 15 := by have := ha.ld.hi; omega
      exact ⟨a0, a1, a2, rfl, ha.la, ha.lb, ha.lc⟩
  have e1 := blended_ok (ns := ns) (c := c) (k := 0) (by decide) hb.la hb.lb hb.lc hb.ld g0 g1 g2 fin fin
  rw [bl_full hb.ld] at e1
  have e1 : V_blended ns [.d (.str "plain"), .d (px b0 b1 b2 b3), .d (px f0 f1 f2 15), .d (.int 15)] c = .ok (.d (px f0 f1 f2 15)) c := e1
  have e2 := faded_ok (ns := ns) (a := b0) (b := b1) (p := b2) (c := c) hb.ld hl
  have e3 := lfaded_ok (ns := ns) (a := b0) (b := b1) (p := b2) (c := c) hb.ld hl
  have e4 := faded_ok (ns := ns) (a := b0) (b := b1) (p := b2) (c := c) hb.ld zeroLv
  have e5 := faded_ok (ns := ns) (a := b0) (b := b1) (p := b2) (c := c) hb.ld fin
  rw [fade0 hb] at e4
  rw [fade15] at e5
  have ff := fade_px hb hl
  generalize (if sc b3 (15 - l) = 0 then px 0 0 0 0 else px b0 b1 b2 (sc b3 (15 - l))) = fd at e2 e3 ff
  have e7 := same_all (ns := ns) ((Fw.list (Fw.all4 (Fw.px g0 g1 g2 fin) ff (Fw.px hb.la hb.lb hb.lc hb.ld) (Fw.px zeroLv zeroLv zeroLv zeroLv))).fits (by decide) (by simp)) c
  refine ⟨.im (.d (px f0 f1 f2 15)), ?_⟩
  unfold LastB
  walk_at "k0"
theorem odd_cut (a b p q v i : Int) (h0 : 0 ≤ i) (h1 : i < 4) : ∃ w x y z, cutD [PyData.int a, .int b, .int p, .int q] none (some i) ++ [PyData.int v] ++ cutD [PyData.int a, .int b, .int p, .int q] (some (i + 1)) none = [.int w, .int x, .int y, .int z] ∧
    (cutD [PyData.int a, .int b, .int p, .int q] none (some i)).length + 1 ≤ 16777216 ∧ (cutD [PyData.int a, .int b, .int p, .int q] none (some i) ++ [PyData.int v]).length + (cutD [PyData.int a, .int b, .int p, .int q] (some (i + 1)) none).length ≤ 16777216 := by
  have : i = 0 ∨ i = 1 ∨ i = 2 ∨ i = 3 := by omega
  rcases this with rfl | rfl | rfl | rfl
  · exact ⟨v, b, p, q, rfl, by show 1 ≤ 16777216; decide, by show 4 ≤ 16777216; decide⟩
  · exact ⟨a, v, p, q, rfl, by show 2 ≤ 16777216; decide, by show 4 ≤ 16777216; decide⟩
  · exact ⟨a, b, v, q, rfl, by show 3 ≤ 16777216; decide, by show 4 ≤ 16777216; decide⟩
  · exact ⟨a, b, p, v, rfl, by show 4 ≤ 16777216; decide, by show 4 ≤ 16777216; decide⟩
theorem pickO {x i : Int} (h0 : 0 ≤ i) (h1 : i < 5) : ∃ v, atI [PyData.int (-1), .int 16, .int 0, .int 15, .int x] i = some (.int v) := by
  have : i = 0 ∨ i = 1 ∨ i = 2 ∨ i = 3 ∨ i = 4 := by omega
  rcases this with rfl | rfl | rfl | rfl | rfl
  all_goals exact ⟨_, rfl⟩
def TurnB (ns : List Int) : DenS := dSeq (dSet 5 (dCall0 1 (V__law_pixel ns) (dCons (dVar 1) (dNil)))) (dSeq (dSet 6 (dCall0 1 (V__law_pixel ns) (dCons (dVar 1) (dNil)))) (dSeq (dSet 2 (dCall0 1 (V__law_level ns) (dCons (dVar 1) (dNil)))) (dSeq (dSet 7 (dCall0 2 (V__law_next ns) (dCons (dVar 1) (dCons (dC (.d (.int 4))) (dNil))))) (dSeq (dSet 8 (dOp aCatT (dOp aCatT (dSlT (dVar 5) (dNoO) (dSoO (dVar 7))) (dTup (dCons (dOp gIx (dL (dLst (dCons (dUn gNeg (dC (.d (.int 1)))) (dCons (dC (.d (.int 16))) (dCons (dC (.d (.int 0))) (dCons (dC (.d (.int 15))) (dCons (dCall0 2 (V__law_next ns) (dCons (dVar 1) (dCons (dC (.d (.int 16))) (dNil)))) (dNil)))))))) (dCall0 2 (V__law_next ns) (dCons (dVar 1) (dCons (dC (.d (.int 5))) (dNil))))) (dNil)))) (dSlT (dVar 5) (dSoO (dOp aAdd (dVar 7) (dC (.d (.int 1))))) (dNoO)))) (dSeq (dFor (dIL (dL (dLst (dCons (dVar 5) (dCons (dVar 8) (dCons (dSlT (dVar 5) (dNoO) (dSoO (dC (.d (.int 3))))) (dCons (dOp aCatT (dVar 5) (dTup (dCons (dC (.d (.int 0))) (dNil)))) (dCons (dTup (dNil)) (dCons (dTup (dCons (dC (.d (.int 1))) (dCons (dC (.d (.int 0))) (dCons (dC (.d (.int 0))) (dCons (dC (.d (.int 0))) (dNil)))))) (dNil)))))))))) (dName 9) (OneB ns)) (dSeq (dFor (dIL (dL (dLst (dCons (dC (.d (.str "plain"))) (dCons (dC (.d (.str "darker"))) (dCons (dC (.d (.str "lighter"))) (dCons (dC (.d (.str "times"))) (dCons (dC (.d (.str "screen"))) (dCons (dC (.d (.str "apart"))) (dNil)))))))))) (dName 3) (ModeB ns)) (LastB ns)))))))
theorem mode_at {i : Nat} {x : Vl} (h : (([PyData.str "plain", .str "darker", .str "lighter", .str "times", .str "screen", .str "apart"].map Vl.d)[i]? = some x)) : ∃ k, k < 6 ∧ x = .d (.str (modeS k)) := by
  have hi : i < 6 := by have z := (List.getElem?_eq_some_iff.mp h).1; simpa using z
  have : i = 0 ∨ i = 1 ∨ i = 2 ∨ i = 3 ∨ i = 4 ∨ i = 5 := by omega
  rcases this with rfl | rfl | rfl | rfl | rfl | rfl
  all_goals (cases h; first | exact ⟨0, by decide, rfl⟩ | exact ⟨1, by decide, rfl⟩ | exact ⟨2, by decide, rfl⟩ | exact ⟨3, by decide, rfl⟩ | exact ⟨4, by decide, rfl⟩ | exact ⟨5, by decide, rfl⟩)
theorem TurnB_ok {ns : List Int} (g : Good ns) {S0 s2 s3 s4 s5 s6 s7 s8 s9 s10 s11 : Sl} {c c' : Int} (h0 : 0 ≤ c) (h1 : c ≤ 800000) (e : c' = c + 21) :
    ∃ t2 t3 t5 t6 t7 t8 t9 t10 t11, TurnB ns [S0, .im .st, s2, s3, s4, s5, s6, s7, s8, s9, s10, s11] c = .ok (.nx [S0, .im .st, t2, t3, s4, t5, t6, t7, t8, t9, t10, t11]) c' := by
  obtain ⟨b0, b1, b2, b3, e1, hb⟩ := pixel_ok g (c := c) (c' := c + 8) h0 (by omega) rfl
  obtain ⟨a0, a1, a2, a3, e2, ha⟩ := pixel_ok g (c := c + 8) (c' := c + 16) (by omega) (by omega) (by omega)
  obtain ⟨l, e3, hl⟩ := level_ok g (c := c + 16) (by omega) (by omega)
  rw [show c + 16 + 2 = c + 18 by omega] at e3
  obtain ⟨at4, e4, x0, x1⟩ := nx2 g (m := 4) (c := c + 18) (c' := c + 19) (by decide) (by omega) (by omega) (by omega)
  obtain ⟨y, e5, y0, y1⟩ := nx2 g (m := 16) (c := c + 19) (c' := c + 20) (by decide) (by omega) (by omega) (by omega)
  obtain ⟨j, e6, j0, j1⟩ := nx2 g (m := 5) (c := c + 20) (c' := c') (by decide) (by omega) (by omega) (by omega)
  obtain ⟨v, e7⟩ := pickO (x := y) j0 j1
  obtain ⟨w, x, p, q, f1, f2, f3⟩ := odd_cut b0 b1 b2 b3 v at4 x0 x1
  refine ⟨.im (.d (.int l)), ?_⟩
  have goal : ∃ t3 t9 t10 t11, TurnB ns [S0, .im .st, s2, s3, s4, s5, s6, s7, s8, s9, s10, s11] c = .ok (.nx [S0, .im .st, .im (.d (.int l)), t3, s4, .im (.d (px b0 b1 b2 b3)), .im (.d (px a0 a1 a2 a3)), .im (.d (.int at4)), .im (.d (px w x p q)), t9, t10, t11]) c' := by
    unfold TurnB
    let K : Sl → Sl → Sl → Sl → List Sl := fun t3 t9 t10 t11 => [S0, .im .st, .im (.d (.int l)), t3, s4, .im (.d (px b0 b1 b2 b3)), .im (.d (px a0 a1 a2 a3)), .im (.d (.int at4)), .im (.d (px w x p q)), t9, t10, t11]
    have z1 : ∀ t3 t9 t10 t11, K t3 t9 t10 t11 = [S0, .im .st, .im (.d (.int l)), t3, s4, .im (.d (px b0 b1 b2 b3)), .im (.d (px a0 a1 a2 a3)), .im (.d (.int at4)), .im (.d (px w x p q)), t9, t10, t11] := fun _ _ _ _ => rfl
    obtain ⟨δ1, r1, t9, rfl⟩ := for_ok (di := dIL (dL (dLst (dCons (dVar 5) (dCons (dVar 8) (dCons (dSlT (dVar 5) (dNoO) (dSoO (dC (.d (.int 3))))) (dCons (dOp aCatT (dVar 5) (dTup (dCons (dC (.d (.int 0))) (dNil)))) (dCons (dTup (dNil)) (dCons (dTup (dCons (dC (.d (.int 1))) (dCons (dC (.d (.int 0))) (dCons (dC (.d (.int 0))) (dCons (dC (.d (.int 0))) (dNil)))))) (dNil)))))))))) (dg := dName 9) (db := OneB ns)
      (fun δ _ => ∃ t9, δ = K s3 t9 s10 s11) (fun _ => c') (xs := [px b0 b1 b2 b3, px w x p q, .tuple [.int b0, .int b1, .int b2], .tuple [.int b0, .int b1, .int b2, .int b3, .int 0], .tuple [], px 1 0 0 0].map Vl.d) (δ := K s3 s9 s10 s11) (c := c')
      (by
        simp only [z1]
        simp only [dIL, dL, dLst, dCons, dNil, dVar, dSlT, dNoO, dSoO, dC, dOp, dTup, aCatT, datas, List.getElem?_cons_zero, List.getElem?_cons_succ, R.bind_ok, R.map_ok, List.length_cons, List.length_nil, Nat.reduceAdd, Nat.reduceLeDiff, if_true, List.cons_append, List.nil_append]
        rfl) ⟨_, rfl⟩ (by
        rintro i y δ hx ⟨t9, rfl⟩
        have hi : i < 6 := by have z := (List.getElem?_eq_some_iff.mp hx).1; simpa using z
        have hb : ∃ d, y = .d d ∧ Both ns c' d := by
          have : i = 0 ∨ i = 1 ∨ i = 2 ∨ i = 3 ∨ i = 4 ∨ i = 5 := by omega
          rcases this with rfl | rfl | rfl | rfl | rfl | rfl
          all_goals (cases hx; refine ⟨_, rfl, ?_⟩)
          · exact ⟨_, is_pixel_ok _ _ _ _ _, lis_pixel_ok _ _ _ _ _⟩
          · exact ⟨_, is_pixel_ok _ _ _ _ _, lis_pixel_ok _ _ _ _ _⟩
          · exact ⟨_, short_ok _ _ (by simp) (by simp) ⟨[b0, b1, b2], rfl⟩⟩
          · exact ⟨_, short_ok _ _ (by simp) (by simp) ⟨[b0, b1, b2, b3, 0], rfl⟩⟩
          · exact ⟨_, short_ok _ _ (by simp) (by simp) ⟨[], rfl⟩⟩
          · exact ⟨_, is_pixel_ok _ _ _ _ _, lis_pixel_ok _ _ _ _ _⟩
        obtain ⟨d, rfl, hb⟩ := hb
        exact ⟨_, rfl, _, OneB_ok (δ := K s3 (.im (.d d)) s10 s11) rfl hb, _, rfl⟩)
    obtain ⟨δ2, r2, t3, t10, rfl⟩ := for_ok (di := dIL (dL (dLst (dCons (dC (.d (.str "plain"))) (dCons (dC (.d (.str "darker"))) (dCons (dC (.d (.str "lighter"))) (dCons (dC (.d (.str "times"))) (dCons (dC (.d (.str "screen"))) (dCons (dC (.d (.str "apart"))) (dNil)))))))))) (dg := dName 3) (db := ModeB ns)
      (fun δ _ => ∃ t3 t10, δ = K t3 t9 t10 s11) (fun _ => c') (xs := [PyData.str "plain", .str "darker", .str "lighter", .str "times", .str "screen", .str "apart"].map Vl.d) (δ := K s3 t9 s10 s11) (c := c') (by rfl) ⟨_, _, rfl⟩ (by
        rintro i y δ hx ⟨t3, t10, rfl⟩
        obtain ⟨k, hk, rfl⟩ := mode_at hx
        obtain ⟨u10, eb⟩ := ModeB_ok (ns := ns) (S0 := S0) (S1 := .im .st) (s4 := s4) (s7 := .im (.d (.int at4))) (s8 := .im (.d (px w x p q))) (s9 := t9) (s10 := t10) (s11 := s11) (c := c') hk hl hb ha
        exact ⟨_, rfl, _, eb, _, _, rfl⟩)
    obtain ⟨t11, r3⟩ := LastB_ok (ns := ns) (S0 := S0) (S1 := .im .st) (s3 := t3) (s4 := s4) (s7 := .im (.d (.int at4))) (s8 := .im (.d (px w x p q))) (s9 := t9) (s10 := t10) (s11 := s11) (c := c') hl hb ha
    refine ⟨t3, t9, t10, t11, ?_⟩
    refine seq_nx (δ' := [S0, .im .st, s2, s3, s4, .im (.d (px b0 b1 b2 b3)), s6, s7, s8, s9, s10, s11]) (c' := c + 8) (by walk_at "k0") ?_
    refine seq_nx (δ' := [S0, .im .st, s2, s3, s4, .im (.d (px b0 b1 b2 b3)), .im (.d (px a0 a1 a2 a3)), s7, s8, s9, s10, s11]) (c' := c + 16) (by walk_at "k0") ?_
    refine seq_nx (δ' := [S0, .im .st, .im (.d (.int l)), s3, s4, .im (.d (px b0 b1 b2 b3)), .im (.d (px a0 a1 a2 a3)), s7, s8, s9, s10, s11]) (c' := c + 18) (by walk_at "k0") ?_
    refine seq_nx (δ' := [S0, .im .st, .im (.d (.int l)), s3, s4, .im (.d (px b0 b1 b2 b3)), .im (.d (px a0 a1 a2 a3)), .im (.d (.int at4)), s8, s9, s10, s11]) (c' := c + 19) (by walk_at "k0") ?_
    refine seq_nx (δ' := K s3 s9 s10 s11) (c' := c') (by
      clear r1 r2 r3
      simp only [z1]
      simp only [dSet, dOp, dSlT, dNoO, dSoO, dTup, dCons, dNil, dL, dLst, dUn, gNeg, dC, dVar, dCall0, datas, List.getElem?_cons_zero, List.getElem?_cons_succ, R.bind_ok, R.map_ok, R.calm_ok, List.length_cons, List.length_nil, Nat.reduceAdd, Nat.reduceLeDiff, if_true, e5, e6, gIx, show (-1 : Int) = -1 from rfl, e7, aCatT, f2, aAdd_eq, f3, f1, List.set_cons_succ, List.set_cons_zero]) ?_
    refine seq_nx r1 (seq_nx r2 r3)
  obtain ⟨t3, t9, t10, t11, h⟩ := goal
  exact ⟨t3, _, _, _, _, t9, t10, t11, h⟩
theorem lawOk : LawOk := by
  intro nums hn
  obtain ⟨ns, g, e0⟩ := stream_all nums hn 11
  obtain ⟨r, e1, r0, r1⟩ := nx2 g (m := 20) (c := 160) (c' := 161) (by decide) (by decide) (by decide) (by decide)
  refine ⟨ns, 0, 161 + 21 * 12, e0, ?_⟩
  generalize hS : Sl.im (.d (.list (nums.map .int))) = S0
  have ha : args [.d (.list (nums.map .int)), .st] 10 = [S0, .im .st, .no, .no, .no, .no, .no, .no, .no, .no, .no, .no] := by rw [← hS]; rfl
  rw [ha]
  have e2 := numbers_ok g
  have f : Fits (.list [.int 15, c_CLEAR, c_MODES]) := by
    refine ⟨by decide +kernel, by decide +kernel, by decide +kernel⟩
  have e3 := same_all (ns := ns) f 0
  refine seq_nx (δ' := [S0, .im .st, .no, .no, .no, .no, .no, .no, .no, .no, .no, .no]) (c' := 160) (by
    simp only [dIfS, dOr, dNot, dTe, dCall0, dCons, dNil, dL, dLst, dTup, dC, dVar, dCB, gTuple, datas, List.getElem?_cons_zero, List.getElem?_cons_succ, R.bind_ok, R.map_ok, R.calm_ok, List.length_cons, List.length_nil, Nat.reduceAdd, Nat.reduceLeDiff, if_true, if_false, Bool.not_true, Bool.false_eq_true, e2, dNext]
    first | rw [show V__law_same ns [.d (.list [.int 15, c_CLEAR, c_MODES]), .d (.list [.int 15, .tuple [.int 0, .int 0, .int 0, .int 0], .tuple [.str "plain", .str "darker", .str "lighter", .str "times", .str "screen", .str "apart"]])] 0 = .ok (.d (.bool true)) 0 from e3]
    simp only [R.bind_ok, R.calm_ok, Bool.not_true, Bool.false_eq_true, if_false, e2]) ?_
  refine seq_for (fun δ => ∃ s2, δ = [S0, .im .st, s2, .no, .no, .no, .no, .no, .no, .no, .no, .no]) (fun _ => 161) (xs := [PyData.int (-1), .int 0, .int 15, .int 16, .int r].map Vl.d)
    (by simp only [dIL, dL, dLst, dCons, dNil, dUn, gNeg, dC, dVar, dCall0, datas, List.getElem?_cons_zero, List.getElem?_cons_succ, R.bind_ok, R.map_ok, R.calm_ok, List.length_cons, List.length_nil, Nat.reduceAdd, Nat.reduceLeDiff, if_true, e1]) ⟨_, rfl⟩ ?_ ?_
  · rintro i x δ hx ⟨s2, rfl⟩
    obtain ⟨n, rfl⟩ : ∃ n, x = .d (.int n) := by
      have hi : i < 5 := by have z := (List.getElem?_eq_some_iff.mp hx).1; simpa using z
      have : i = 0 ∨ i = 1 ∨ i = 2 ∨ i = 3 ∨ i = 4 := by omega
      rcases this with rfl | rfl | rfl | rfl | rfl
      all_goals (cases hx; exact ⟨_, rfl⟩)
    refine ⟨_, rfl, _, if_same (x := .str (okS (lv n))) ((okS_fw (n := 0)).fits (by decide) (by simp)) ?_ (refIx _ _ (chain_ok n _ rfl)), _, rfl⟩
    simp only [dAsk, dVar, List.set_cons_zero, List.set_cons_succ, List.getElem?_cons_zero, List.getElem?_cons_succ, R.bind_ok, check_level_ok, R.calm_ok]
  rintro δ ⟨s2, rfl⟩
  refine seq_for (fun δ => ∃ s3, δ = [S0, .im .st, s2, s3, .no, .no, .no, .no, .no, .no, .no, .no]) (fun _ => 161) (xs := [PyData.str "", .str "plan", .str "plain ", .str "Times", .str "clear", .str "plain", .str "darker", .str "lighter", .str "times", .str "screen", .str "apart"].map Vl.d) (by rfl) ⟨_, rfl⟩ ?_ ?_
  · rintro i x δ hx ⟨s3, rfl⟩
    obtain ⟨s, rfl, hs⟩ : ∃ s, x = .d (.str s) ∧ s ∈ ([("" : Str), "plan", "plain ", "Times", "clear", "plain", "darker", "lighter", "times", "screen", "apart"] : List Str) := by
      have hx2 : (([("" : Str), "plan", "plain ", "Times", "clear", "plain", "darker", "lighter", "times", "screen", "apart"] : List Str).map fun s => Vl.d (.str s))[i]? = some x := hx
      rw [List.getElem?_map] at hx2
      cases q : ([("" : Str), "plan", "plain ", "Times", "clear", "plain", "darker", "lighter", "times", "screen", "apart"] : List Str)[i]? with
      | none => rw [q] at hx2; cases hx2
      | some s => rw [q] at hx2; cases hx2; exact ⟨s, rfl, List.mem_of_getElem? q⟩
    obtain ⟨b, m1, m2⟩ := mode_in 161 hs
    refine ⟨_, rfl, _, if_same (x := .str (okS b)) ((okS_fw (n := 0)).fits (by decide) (by simp)) ?_ (refIx b _ ?_), _, rfl⟩
    · simp only [dAsk, dVar, List.set_cons_zero, List.set_cons_succ, List.getElem?_cons_zero, List.getElem?_cons_succ, R.bind_ok, m1, R.calm_ok]
    · simp only [dOp, dL, dLst, dCons, dNil, dC, dVar, datas, List.set_cons_zero, List.set_cons_succ, List.getElem?_cons_zero, List.getElem?_cons_succ, R.bind_ok, R.map_ok, List.length_cons, List.length_nil, Nat.reduceAdd, Nat.reduceLeDiff, if_true, m2]
  rintro δ ⟨s3, rfl⟩
  refine seq_for (fun δ => ∃ s2 s3 s4 s5 s6 s7 s8 s9 s10 s11, δ = [S0, .im .st, s2, s3, s4, s5, s6, s7, s8, s9, s10, s11]) (fun n => 161 + 21 * (n : Int)) (xs := rng 0 12) (by rfl) ⟨_, _, _, _, _, _, _, _, _, _, rfl⟩ ?_ (fun _ _ => rfl)
  rintro i x δ hx ⟨s2, s3, s4, s5, s6, s7, s8, s9, s10, s11, rfl⟩
  obtain ⟨rfl, hi⟩ := rng_get hx
  obtain ⟨t2, t3, t5, t6, t7, t8, t9, t10, t11, e⟩ := TurnB_ok g (S0 := S0) (s2 := s2) (s3 := s3) (s4 := .im (.d (.int (0 + (i : Int))))) (s5 := s5) (s6 := s6) (s7 := s7) (s8 := s8) (s9 := s9) (s10 := s10) (s11 := s11) (c := 161 + 21 * (i : Int)) (c' := 161 + 21 * ((i + 1 : Nat) : Int)) (by omega) (by omega) (by omega)
  exact ⟨_, rfl, _, e, _, _, _, _, _, _, _, _, _, _, rfl⟩
theorem all_mk {l : PySem.W.OpenLaw} {w : World} {K : PySem.W.Frag} {h : Heap} {mg : Str → Option Value} {fa : Addr} (hyp : LawOk) (X : K.In h) (G : h.Ns mainGlobals mg) (hfa : mg "law" = some (.ref fa))
    {f__law_stream : Addr} {oc__law_stream : Value} {od__law_stream an__law_stream : Option Addr} {sl__law_stream : Array (Option Value)} {kV__law_stream dc__law_stream pm__law_stream cd__law_stream ct__law_stream : Value}
    (n__law_stream : PySem.W.nsIn K mainGlobals "_law_stream" = some (some (.ref f__law_stream))) (l__law_stream : K.lookup f__law_stream = some ⟨oc__law_stream, od__law_stream, .func (PySem.W.fnOf "_law_stream" "_law_stream" (defArgs s__law_stream) (defBody s__law_stream) (defScope s__law_stream) .none kV__law_stream dc__law_stream pm__law_stream an__law_stream cd__law_stream ct__law_stream), sl__law_stream⟩) (c__law_stream : PySem.W.codeIn K cd__law_stream "_law_stream" = true) (k__law_stream : PySem.W.keepIn K (.ref f__law_stream) = true)
    {f__law_next : Addr} {oc__law_next : Value} {od__law_next an__law_next : Option Addr} {sl__law_next : Array (Option Value)} {kV__law_next dc__law_next pm__law_next cd__law_next ct__law_next : Value}
    (n__law_next : PySem.W.nsIn K mainGlobals "_law_next" = some (some (.ref f__law_next))) (l__law_next : K.lookup f__law_next = some ⟨oc__law_next, od__law_next, .func (PySem.W.fnOf "_law_next" "_law_next" (defArgs s__law_next) (defBody s__law_next) (defScope s__law_next) .none kV__law_next dc__law_next pm__law_next an__law_next cd__law_next ct__law_next), sl__law_next⟩) (c__law_next : PySem.W.codeIn K cd__law_next "_law_next" = true) (k__law_next : PySem.W.keepIn K (.ref f__law_next) = true)
    {f__law_pixel : Addr} {oc__law_pixel : Value} {od__law_pixel an__law_pixel : Option Addr} {sl__law_pixel : Array (Option Value)} {kV__law_pixel dc__law_pixel pm__law_pixel cd__law_pixel ct__law_pixel : Value}
    (n__law_pixel : PySem.W.nsIn K mainGlobals "_law_pixel" = some (some (.ref f__law_pixel))) (l__law_pixel : K.lookup f__law_pixel = some ⟨oc__law_pixel, od__law_pixel, .func (PySem.W.fnOf "_law_pixel" "_law_pixel" (defArgs s__law_pixel) (defBody s__law_pixel) (defScope s__law_pixel) .none kV__law_pixel dc__law_pixel pm__law_pixel an__law_pixel cd__law_pixel ct__law_pixel), sl__law_pixel⟩) (c__law_pixel : PySem.W.codeIn K cd__law_pixel "_law_pixel" = true) (k__law_pixel : PySem.W.keepIn K (.ref f__law_pixel) = true)
    {f__law_level : Addr} {oc__law_level : Value} {od__law_level an__law_level : Option Addr} {sl__law_level : Array (Option Value)} {kV__law_level dc__law_level pm__law_level cd__law_level ct__law_level : Value}
    (n__law_level : PySem.W.nsIn K mainGlobals "_law_level" = some (some (.ref f__law_level))) (l__law_level : K.lookup f__law_level = some ⟨oc__law_level, od__law_level, .func (PySem.W.fnOf "_law_level" "_law_level" (defArgs s__law_level) (defBody s__law_level) (defScope s__law_level) .none kV__law_level dc__law_level pm__law_level an__law_level cd__law_level ct__law_level), sl__law_level⟩) (c__law_level : PySem.W.codeIn K cd__law_level "_law_level" = true) (k__law_level : PySem.W.keepIn K (.ref f__law_level) = true)
    {f__law_same : Addr} {oc__law_same : Value} {od__law_same an__law_same : Option Addr} {sl__law_same : Array (Option Value)} {kV__law_same dc__law_same pm__law_same cd__law_same ct__law_same : Value}
    (n__law_same : PySem.W.nsIn K mainGlobals "_law_same" = some (some (.ref f__law_same))) (l__law_same : K.lookup f__law_same = some ⟨oc__law_same, od__law_same, .func (PySem.W.fnOf "_law_same" "_law_same" (defArgs s__law_same) (defBody s__law_same) (defScope s__law_same) .none kV__law_same dc__law_same pm__law_same an__law_same cd__law_same ct__law_same), sl__law_same⟩) (c__law_same : PySem.W.codeIn K cd__law_same "_law_same" = true) (k__law_same : PySem.W.keepIn K (.ref f__law_same) = true)
    {f_scaled : Addr} {oc_scaled : Value} {od_scaled an_scaled : Option Addr} {sl_scaled : Array (Option Value)} {kV_scaled dc_scaled pm_scaled cd_scaled ct_scaled : Value}
    (n_scaled : PySem.W.nsIn K mainGlobals "scaled" = some (some (.ref f_scaled))) (l_scaled : K.lookup f_scaled = some ⟨oc_scaled, od_scaled, .func (PySem.W.fnOf "scaled" "scaled" (defArgs s_scaled) (defBody s_scaled) (defScope s_scaled) .none kV_scaled dc_scaled pm_scaled an_scaled cd_scaled ct_scaled), sl_scaled⟩) (c_scaled : PySem.W.codeIn K cd_scaled "scaled" = true) (k_scaled : PySem.W.keepIn K (.ref f_scaled) = true)
    {f_mixed : Addr} {oc_mixed : Value} {od_mixed an_mixed : Option Addr} {sl_mixed : Array (Option Value)} {kV_mixed dc_mixed pm_mixed cd_mixed ct_mixed : Value}
    (n_mixed : PySem.W.nsIn K mainGlobals "mixed" = some (some (.ref f_mixed))) (l_mixed : K.lookup f_mixed = some ⟨oc_mixed, od_mixed, .func (PySem.W.fnOf "mixed" "mixed" (defArgs s_mixed) (defBody s_mixed) (defScope s_mixed) .none kV_mixed dc_mixed pm_mixed an_mixed cd_mixed ct_mixed), sl_mixed⟩) (c_mixed : PySem.W.codeIn K cd_mixed "mixed" = true) (k_mixed : PySem.W.keepIn K (.ref f_mixed) = true)
    {f_put_together : Addr} {oc_put_together : Value} {od_put_together an_put_together : Option Addr} {sl_put_together : Array (Option Value)} {kV_put_together dc_put_together pm_put_together cd_put_together ct_put_together : Value}
    (n_put_together : PySem.W.nsIn K mainGlobals "put_together" = some (some (.ref f_put_together))) (l_put_together : K.lookup f_put_together = some ⟨oc_put_together, od_put_together, .func (PySem.W.fnOf "put_together" "put_together" (defArgs s_put_together) (defBody s_put_together) (defScope s_put_together) .none kV_put_together dc_put_together pm_put_together an_put_together cd_put_together ct_put_together), sl_put_together⟩) (c_put_together : PySem.W.codeIn K cd_put_together "put_together" = true) (k_put_together : PySem.W.keepIn K (.ref f_put_together) = true)
    {f__law_scaled : Addr} {oc__law_scaled : Value} {od__law_scaled an__law_scaled : Option Addr} {sl__law_scaled : Array (Option Value)} {kV__law_scaled dc__law_scaled pm__law_scaled cd__law_scaled ct__law_scaled : Value}
    (n__law_scaled : PySem.W.nsIn K mainGlobals "_law_scaled" = some (some (.ref f__law_scaled))) (l__law_scaled : K.lookup f__law_scaled = some ⟨oc__law_scaled, od__law_scaled, .func (PySem.W.fnOf "_law_scaled" "_law_scaled" (defArgs s__law_scaled) (defBody s__law_scaled) (defScope s__law_scaled) .none kV__law_scaled dc__law_scaled pm__law_scaled an__law_scaled cd__law_scaled ct__law_scaled), sl__law_scaled⟩) (c__law_scaled : PySem.W.codeIn K cd__law_scaled "_law_scaled" = true) (k__law_scaled : PySem.W.keepIn K (.ref f__law_scaled) = true)
    {f__law_mixed : Addr} {oc__law_mixed : Value} {od__law_mixed an__law_mixed : Option Addr} {sl__law_mixed : Array (Option Value)} {kV__law_mixed dc__law_mixed pm__law_mixed cd__law_mixed ct__law_mixed : Value}
    (n__law_mixed : PySem.W.nsIn K mainGlobals "_law_mixed" = some (some (.ref f__law_mixed))) (l__law_mixed : K.lookup f__law_mixed = some ⟨oc__law_mixed, od__law_mixed, .func (PySem.W.fnOf "_law_mixed" "_law_mixed" (defArgs s__law_mixed) (defBody s__law_mixed) (defScope s__law_mixed) .none kV__law_mixed dc__law_mixed pm__law_mixed an__law_mixed cd__law_mixed ct__law_mixed), sl__law_mixed⟩) (c__law_mixed : PySem.W.codeIn K cd__law_mixed "_law_mixed" = true) (k__law_mixed : PySem.W.keepIn K (.ref f__law_mixed) = true)
    {f__law_made : Addr} {oc__law_made : Value} {od__law_made an__law_made : Option Addr} {sl__law_made : Array (Option Value)} {kV__law_made dc__law_made pm__law_made cd__law_made ct__law_made : Value}
    (n__law_made : PySem.W.nsIn K mainGlobals "_law_made" = some (some (.ref f__law_made))) (l__law_made : K.lookup f__law_made = some ⟨oc__law_made, od__law_made, .func (PySem.W.fnOf "_law_made" "_law_made" (defArgs s__law_made) (defBody s__law_made) (defScope s__law_made) .none kV__law_made dc__law_made pm__law_made an__law_made cd__law_made ct__law_made), sl__law_made⟩) (c__law_made : PySem.W.codeIn K cd__law_made "_law_made" = true) (k__law_made : PySem.W.keepIn K (.ref f__law_made) = true)
    {f__law_numbers : Addr} {oc__law_numbers : Value} {od__law_numbers an__law_numbers : Option Addr} {sl__law_numbers : Array (Option Value)} {kV__law_numbers dc__law_numbers pm__law_numbers cd__law_numbers ct__law_numbers : Value}
    (n__law_numbers : PySem.W.nsIn K mainGlobals "_law_numbers" = some (some (.ref f__law_numbers))) (l__law_numbers : K.lookup f__law_numbers = some ⟨oc__law_numbers, od__law_numbers, .func (PySem.W.fnOf "_law_numbers" "_law_numbers" (defArgs s__law_numbers) (defBody s__law_numbers) (defScope s__law_numbers) .none kV__law_numbers dc__law_numbers pm__law_numbers an__law_numbers cd__law_numbers ct__law_numbers), sl__law_numbers⟩) (c__law_numbers : PySem.W.codeIn K cd__law_numbers "_law_numbers" = true) (k__law_numbers : PySem.W.keepIn K (.ref f__law_numbers) = true)
    {f_blended : Addr} {oc_blended : Value} {od_blended an_blended : Option Addr} {sl_blended : Array (Option Value)} {kV_blended dc_blended pm_blended cd_blended ct_blended : Value}
    (n_blended : PySem.W.nsIn K mainGlobals "blended" = some (some (.ref f_blended))) (l_blended : K.lookup f_blended = some ⟨oc_blended, od_blended, .func (PySem.W.fnOf "blended" "blended" (defArgs s_blended) (defBody s_blended) (defScope s_blended) .none kV_blended dc_blended pm_blended an_blended cd_blended ct_blended), sl_blended⟩) (c_blended : PySem.W.codeIn K cd_blended "blended" = true) (k_blended : PySem.W.keepIn K (.ref f_blended) = true)
    {f__law_told : Addr} {oc__law_told : Value} {od__law_told an__law_told : Option Addr} {sl__law_told : Array (Option Value)} {kV__law_told dc__law_told pm__law_told cd__law_told ct__law_told : Value}
    (n__law_told : PySem.W.nsIn K mainGlobals "_law_told" = some (some (.ref f__law_told))) (l__law_told : K.lookup f__law_told = some ⟨oc__law_told, od__law_told, .func (PySem.W.fnOf "_law_told" "_law_told" (defArgs s__law_told) (defBody s__law_told) (defScope s__law_told) .none kV__law_told dc__law_told pm__law_told an__law_told cd__law_told ct__law_told), sl__law_told⟩) (c__law_told : PySem.W.codeIn K cd__law_told "_law_told" = true) (k__law_told : PySem.W.keepIn K (.ref f__law_told) = true)
    {f_is_level : Addr} {oc_is_level : Value} {od_is_level an_is_level : Option Addr} {sl_is_level : Array (Option Value)} {kV_is_level dc_is_level pm_is_level cd_is_level ct_is_level : Value}
    (n_is_level : PySem.W.nsIn K mainGlobals "is_level" = some (some (.ref f_is_level))) (l_is_level : K.lookup f_is_level = some ⟨oc_is_level, od_is_level, .func (PySem.W.fnOf "is_level" "is_level" (defArgs s_is_level) (defBody s_is_level) (defScope s_is_level) .none kV_is_level dc_is_level pm_is_level an_is_level cd_is_level ct_is_level), sl_is_level⟩) (c_is_level : PySem.W.codeIn K cd_is_level "is_level" = true) (k_is_level : PySem.W.keepIn K (.ref f_is_level) = true)
    {f_check_level : Addr} {oc_check_level : Value} {od_check_level an_check_level : Option Addr} {sl_check_level : Array (Option Value)} {kV_check_level dc_check_level pm_check_level cd_check_level ct_check_level : Value}
    (n_check_level : PySem.W.nsIn K mainGlobals "check_level" = some (some (.ref f_check_level))) (l_check_level : K.lookup f_check_level = some ⟨oc_check_level, od_check_level, .func (PySem.W.fnOf "check_level" "check_level" (defArgs s_check_level) (defBody s_check_level) (defScope s_check_level) .none kV_check_level dc_check_level pm_check_level an_check_level cd_check_level ct_check_level), sl_check_level⟩) (c_check_level : PySem.W.codeIn K cd_check_level "check_level" = true) (k_check_level : PySem.W.keepIn K (.ref f_check_level) = true)
    {f_check_mode : Addr} {oc_check_mode : Value} {od_check_mode an_check_mode : Option Addr} {sl_check_mode : Array (Option Value)} {kV_check_mode dc_check_mode pm_check_mode cd_check_mode ct_check_mode : Value}
    (n_check_mode : PySem.W.nsIn K mainGlobals "check_mode" = some (some (.ref f_check_mode))) (l_check_mode : K.lookup f_check_mode = some ⟨oc_check_mode, od_check_mode, .func (PySem.W.fnOf "check_mode" "check_mode" (defArgs s_check_mode) (defBody s_check_mode) (defScope s_check_mode) .none kV_check_mode dc_check_mode pm_check_mode an_check_mode cd_check_mode ct_check_mode), sl_check_mode⟩) (c_check_mode : PySem.W.codeIn K cd_check_mode "check_mode" = true) (k_check_mode : PySem.W.keepIn K (.ref f_check_mode) = true)
    {f__law_is_pixel : Addr} {oc__law_is_pixel : Value} {od__law_is_pixel an__law_is_pixel : Option Addr} {sl__law_is_pixel : Array (Option Value)} {kV__law_is_pixel dc__law_is_pixel pm__law_is_pixel cd__law_is_pixel ct__law_is_pixel : Value}
    (n__law_is_pixel : PySem.W.nsIn K mainGlobals "_law_is_pixel" = some (some (.ref f__law_is_pixel))) (l__law_is_pixel : K.lookup f__law_is_pixel = some ⟨oc__law_is_pixel, od__law_is_pixel, .func (PySem.W.fnOf "_law_is_pixel" "_law_is_pixel" (defArgs s__law_is_pixel) (defBody s__law_is_pixel) (defScope s__law_is_pixel) .none kV__law_is_pixel dc__law_is_pixel pm__law_is_pixel an__law_is_pixel cd__law_is_pixel ct__law_is_pixel), sl__law_is_pixel⟩) (c__law_is_pixel : PySem.W.codeIn K cd__law_is_pixel "_law_is_pixel" = true) (k__law_is_pixel : PySem.W.keepIn K (.ref f__law_is_pixel) = true)
    {f_faded : Addr} {oc_faded : Value} {od_faded an_faded : Option Addr} {sl_faded : Array (Option Value)} {kV_faded dc_faded pm_faded cd_faded ct_faded : Value}
    (n_faded : PySem.W.nsIn K mainGlobals "faded" = some (some (.ref f_faded))) (l_faded : K.lookup f_faded = some ⟨oc_faded, od_faded, .func (PySem.W.fnOf "faded" "faded" (defArgs s_faded) (defBody s_faded) (defScope s_faded) .none kV_faded dc_faded pm_faded an_faded cd_faded ct_faded), sl_faded⟩) (c_faded : PySem.W.codeIn K cd_faded "faded" = true) (k_faded : PySem.W.keepIn K (.ref f_faded) = true)
    {f__law_faded : Addr} {oc__law_faded : Value} {od__law_faded an__law_faded : Option Addr} {sl__law_faded : Array (Option Value)} {kV__law_faded dc__law_faded pm__law_faded cd__law_faded ct__law_faded : Value}
    (n__law_faded : PySem.W.nsIn K mainGlobals "_law_faded" = some (some (.ref f__law_faded))) (l__law_faded : K.lookup f__law_faded = some ⟨oc__law_faded, od__law_faded, .func (PySem.W.fnOf "_law_faded" "_law_faded" (defArgs s__law_faded) (defBody s__law_faded) (defScope s__law_faded) .none kV__law_faded dc__law_faded pm__law_faded an__law_faded cd__law_faded ct__law_faded), sl__law_faded⟩) (c__law_faded : PySem.W.codeIn K cd__law_faded "_law_faded" = true) (k__law_faded : PySem.W.keepIn K (.ref f__law_faded) = true)
    {f_is_pixel : Addr} {oc_is_pixel : Value} {od_is_pixel an_is_pixel : Option Addr} {sl_is_pixel : Array (Option Value)} {kV_is_pixel dc_is_pixel pm_is_pixel cd_is_pixel ct_is_pixel : Value}
    (n_is_pixel : PySem.W.nsIn K mainGlobals "is_pixel" = some (some (.ref f_is_pixel))) (l_is_pixel : K.lookup f_is_pixel = some ⟨oc_is_pixel, od_is_pixel, .func (PySem.W.fnOf "is_pixel" "is_pixel" (defArgs s_is_pixel) (defBody s_is_pixel) (defScope s_is_pixel) .none kV_is_pixel dc_is_pixel pm_is_pixel an_is_pixel cd_is_pixel ct_is_pixel), sl_is_pixel⟩) (c_is_pixel : PySem.W.codeIn K cd_is_pixel "is_pixel" = true) (k_is_pixel : PySem.W.keepIn K (.ref f_is_pixel) = true)
    {f_check_pixel : Addr} {oc_check_pixel : Value} {od_check_pixel an_check_pixel : Option Addr} {sl_check_pixel : Array (Option Value)} {kV_check_pixel dc_check_pixel pm_check_pixel cd_check_pixel ct_check_pixel : Value}
    (n_check_pixel : PySem.W.nsIn K mainGlobals "check_pixel" = some (some (.ref f_check_pixel))) (l_check_pixel : K.lookup f_check_pixel = some ⟨oc_check_pixel, od_check_pixel, .func (PySem.W.fnOf "check_pixel" "check_pixel" (defArgs s_check_pixel) (defBody s_check_pixel) (defScope s_check_pixel) .none kV_check_pixel dc_check_pixel pm_check_pixel an_check_pixel cd_check_pixel ct_check_pixel), sl_check_pixel⟩) (c_check_pixel : PySem.W.codeIn K cd_check_pixel "check_pixel" = true) (k_check_pixel : PySem.W.keepIn K (.ref f_check_pixel) = true)
    {f__law_blended : Addr} {oc__law_blended : Value} {od__law_blended an__law_blended : Option Addr} {sl__law_blended : Array (Option Value)} {kV__law_blended dc__law_blended pm__law_blended cd__law_blended ct__law_blended : Value}
    (n__law_blended : PySem.W.nsIn K mainGlobals "_law_blended" = some (some (.ref f__law_blended))) (l__law_blended : K.lookup f__law_blended = some ⟨oc__law_blended, od__law_blended, .func (PySem.W.fnOf "_law_blended" "_law_blended" (defArgs s__law_blended) (defBody s__law_blended) (defScope s__law_blended) .none kV__law_blended dc__law_blended pm__law_blended an__law_blended cd__law_blended ct__law_blended), sl__law_blended⟩) (c__law_blended : PySem.W.codeIn K cd__law_blended "_law_blended" = true) (k__law_blended : PySem.W.keepIn K (.ref f__law_blended) = true)
    {f_law : Addr} {oc_law : Value} {od_law an_law : Option Addr} {sl_law : Array (Option Value)} {kV_law dc_law pm_law cd_law ct_law : Value}
    (n_law : PySem.W.nsIn K mainGlobals "law" = some (some (.ref f_law))) (l_law : K.lookup f_law = some ⟨oc_law, od_law, .func (PySem.W.fnOf "law" "law" (defArgs s_law) (defBody s_law) (defScope s_law) .none kV_law dc_law pm_law an_law cd_law ct_law), sl_law⟩) (c_law : PySem.W.codeIn K cd_law "law" = true) (k_law : PySem.W.keepIn K (.ref f_law) = true)
    (z_abs : PySem.W.nsIn K mainGlobals "abs" = some none)
    (z_all : PySem.W.nsIn K mainGlobals "all" = some none)
    (z_int : PySem.W.nsIn K mainGlobals "int" = some none)
    (z_isinstance : PySem.W.nsIn K mainGlobals "isinstance" = some none)
    (z_len : PySem.W.nsIn K mainGlobals "len" = some none)
    (z_max : PySem.W.nsIn K mainGlobals "max" = some none)
    (z_min : PySem.W.nsIn K mainGlobals "min" = some none)
    (z_range : PySem.W.nsIn K mainGlobals "range" = some none)
    (z_repr : PySem.W.nsIn K mainGlobals "repr" = some none)
    (z_tuple : PySem.W.nsIn K mainGlobals "tuple" = some none)
    {p_CLEAR : Addr} {t0_CLEAR t1_CLEAR t2_CLEAR t3_CLEAR : Tok} {od_CLEAR : Option Addr} {m_CLEAR : Nat} {sl_CLEAR : Array (Option Value)} (n_CLEAR : PySem.W.nsIn K mainGlobals "CLEAR" = some (some (.ref p_CLEAR))) (l_CLEAR : K.lookup p_CLEAR = some ⟨.type "tuple", od_CLEAR, .seq #[.int (0) t0_CLEAR, .int (0) t1_CLEAR, .int (0) t2_CLEAR, .int (0) t3_CLEAR] m_CLEAR, sl_CLEAR⟩)
    {t_MAX_LEVEL : Tok} (n_MAX_LEVEL : PySem.W.nsIn K mainGlobals "MAX_LEVEL" = some (some (Value.int 15 t_MAX_LEVEL)))
    {p_MODES : Addr} {t0_MODES t1_MODES t2_MODES t3_MODES t4_MODES t5_MODES : Tok} {od_MODES : Option Addr} {m_MODES : Nat} {sl_MODES : Array (Option Value)} (n_MODES : PySem.W.nsIn K mainGlobals "MODES" = some (some (.ref p_MODES))) (l_MODES : K.lookup p_MODES = some ⟨.type "tuple", od_MODES, .seq #[.str "plain" t0_MODES, .str "darker" t1_MODES, .str "lighter" t2_MODES, .str "times" t3_MODES, .str "screen" t4_MODES, .str "apart" t5_MODES] m_MODES, sl_MODES⟩)
    {q_NotAllowed : Addr} (n_NotAllowed : PySem.W.nsIn K mainGlobals "NotAllowed" = some (some (.ref q_NotAllowed))) (x_NotAllowed : PySem.W.excIn K q_NotAllowed [.type "ValueError", .type "Exception", .type "BaseException", .type "object"] "ValueError.__new__" = true) (k_NotAllowed : PySem.W.keepIn K (.ref q_NotAllowed) = true) (bs_NotAllowed : PySem.W.subIn K (.ref q_NotAllowed) (.type "BaseException") = some true) (ty_NotAllowed : PySem.W.typeIn K (.ref q_NotAllowed) = some (.type "type"))
    {rr_PaintError : Addr} (nr_PaintError : PySem.W.nsIn K mainGlobals "PaintError" = some (some (.ref rr_PaintError)))
    {rr_TooLarge : Addr} (nr_TooLarge : PySem.W.nsIn K mainGlobals "TooLarge" = some (some (.ref rr_TooLarge)))
    {rr_Missing : Addr} (nr_Missing : PySem.W.nsIn K mainGlobals "Missing" = some (some (.ref rr_Missing)))
    {rr_BadPaper : Addr} (nr_BadPaper : PySem.W.nsIn K mainGlobals "BadPaper" = some (some (.ref rr_BadPaper)))
    {rr_BadForm : Addr} (nr_BadForm : PySem.W.nsIn K mainGlobals "BadForm" = some (some (.ref rr_BadForm)))
    (hg_NotAllowed : PySem.W.findIn K (.ref q_NotAllowed) "__getattribute__" = some (some (.builtin "BaseException.__getattribute__"))) (hk_NotAllowed : PySem.W.findIn K (.ref q_NotAllowed) "__getattr__" = some none) (hd_NotAllowed : PySem.W.hasDictIn K q_NotAllowed = true) (ha_NotAllowed : PySem.W.findIn K (.ref q_NotAllowed) "__class__" = some (some (.builtin "object.__class__"))) (hn_NotAllowed : PySem.W.specialIn K (.builtin "object.__class__") "__get__" = some (some (.builtin "getset_descriptor.__get__"))) (ht_NotAllowed : PySem.W.takesIn K (.builtin "object.__class__") = some true) (hm_NotAllowed : PySem.W.mroIn K q_NotAllowed (.type "object") = some true) (te_NotAllowed : PySem.W.exmOne K (.ref q_NotAllowed) (.ref q_NotAllowed) = some true)
    (is_NotAllowed_PaintError : PySem.W.kitOne K (.ref q_NotAllowed) (.ref rr_PaintError) = some true)
    (no_NotAllowed : PySem.W.kitAny K (.ref q_NotAllowed) [.ref rr_TooLarge, .ref rr_Missing, .ref rr_BadPaper, .ref rr_BadForm] = some false)
    : ∃ fd : FuncData, (∀ (s : Shared) (v : Value), BindsTo s fd ⟨[v], []⟩ [("script", v)]) ∧ ∀ base : Heap, K.In base → base.Ns mainGlobals mg → FnG l.prog w K mg base CX0 5 fa fd ["script"] (spLaw K) := by
  have e := hfa.symm.trans (PySem.W.mg_of X G n_law)
  cases e
  have F__law_stream := fun_mk (x := "_law_stream") (qual := "_law_stream") (st := s__law_stream) l__law_stream c__law_stream k__law_stream
  have F__law_next := fun_mk (x := "_law_next") (qual := "_law_next") (st := s__law_next) l__law_next c__law_next k__law_next
  have F__law_pixel := fun_mk (x := "_law_pixel") (qual := "_law_pixel") (st := s__law_pixel) l__law_pixel c__law_pixel k__law_pixel
  have F__law_level := fun_mk (x := "_law_level") (qual := "_law_level") (st := s__law_level) l__law_level c__law_level k__law_level
  have F__law_same := fun_mk (x := "_law_same") (qual := "_law_same") (st := s__law_same) l__law_same c__law_same k__law_same
  have F_scaled := fun_mk (x := "scaled") (qual := "scaled") (st := s_scaled) l_scaled c_scaled k_scaled
  have F_mixed := fun_mk (x := "mixed") (qual := "mixed") (st := s_mixed) l_mixed c_mixed k_mixed
  have F_put_together := fun_mk (x := "put_together") (qual := "put_together") (st := s_put_together) l_put_together c_put_together k_put_together
  have F__law_scaled := fun_mk (x := "_law_scaled") (qual := "_law_scaled") (st := s__law_scaled) l__law_scaled c__law_scaled k__law_scaled
  have F__law_mixed := fun_mk (x := "_law_mixed") (qual := "_law_mixed") (st := s__law_mixed) l__law_mixed c__law_mixed k__law_mixed
  have F__law_made := fun_mk (x := "_law_made") (qual := "_law_made") (st := s__law_made) l__law_made c__law_made k__law_made
  have F__law_numbers := fun_mk (x := "_law_numbers") (qual := "_law_numbers") (st := s__law_numbers) l__law_numbers c__law_numbers k__law_numbers
  have F_blended := fun_mk (x := "blended") (qual := "blended") (st := s_blended) l_blended c_blended k_blended
  have F__law_told := fun_mk (x := "_law_told") (qual := "_law_told") (st := s__law_told) l__law_told c__law_told k__law_told
  have F_is_level := fun_mk (x := "is_level") (qual := "is_level") (st := s_is_level) l_is_level c_is_level k_is_level
  have F_check_level := fun_mk (x := "check_level") (qual := "check_level") (st := s_check_level) l_check_level c_check_level k_check_level
  have F_check_mode := fun_mk (x := "check_mode") (qual := "check_mode") (st := s_check_mode) l_check_mode c_check_mode k_check_mode
  have F__law_is_pixel := fun_mk (x := "_law_is_pixel") (qual := "_law_is_pixel") (st := s__law_is_pixel) l__law_is_pixel c__law_is_pixel k__law_is_pixel
  have F_faded := fun_mk (x := "faded") (qual := "faded") (st := s_faded) l_faded c_faded k_faded
  have F__law_faded := fun_mk (x := "_law_faded") (qual := "_law_faded") (st := s__law_faded) l__law_faded c__law_faded k__law_faded
  have F_is_pixel := fun_mk (x := "is_pixel") (qual := "is_pixel") (st := s_is_pixel) l_is_pixel c_is_pixel k_is_pixel
  have F_check_pixel := fun_mk (x := "check_pixel") (qual := "check_pixel") (st := s_check_pixel) l_check_pixel c_check_pixel k_check_pixel
  have F__law_blended := fun_mk (x := "_law_blended") (qual := "_law_blended") (st := s__law_blended) l__law_blended c__law_blended k__law_blended
  have F_law := fun_mk (x := "law") (qual := "law") (st := s_law) l_law c_law k_law
  have b__law_stream := F__law_stream.binds (ps := ["script"]) fun _ _ _ _ _ _ us hl => match us, hl with | [_], _ => rfl
  have b__law_next := F__law_next.binds (ps := ["state", "many"]) fun _ _ _ _ _ _ us hl => match us, hl with | [_, _], _ => rfl
  have b__law_pixel := F__law_pixel.binds (ps := ["state"]) fun _ _ _ _ _ _ us hl => match us, hl with | [_], _ => rfl
  have b__law_level := F__law_level.binds (ps := ["state"]) fun _ _ _ _ _ _ us hl => match us, hl with | [_], _ => rfl
  have b__law_same := F__law_same.binds (ps := ["told", "due"]) fun _ _ _ _ _ _ us hl => match us, hl with | [_, _], _ => rfl
  have b_scaled := F_scaled.binds (ps := ["first", "second"]) fun _ _ _ _ _ _ us hl => match us, hl with | [_, _], _ => rfl
  have b_mixed := F_mixed.binds (ps := ["first", "second", "level"]) fun _ _ _ _ _ _ us hl => match us, hl with | [_, _, _], _ => rfl
  have b_put_together := F_put_together.binds (ps := ["mode", "below", "above"]) fun _ _ _ _ _ _ us hl => match us, hl with | [_, _, _], _ => rfl
  have b__law_scaled := F__law_scaled.binds (ps := ["first", "second"]) fun _ _ _ _ _ _ us hl => match us, hl with | [_, _], _ => rfl
  have b__law_mixed := F__law_mixed.binds (ps := ["first", "second", "level"]) fun _ _ _ _ _ _ us hl => match us, hl with | [_, _, _], _ => rfl
  have b__law_made := F__law_made.binds (ps := ["mode", "below", "above"]) fun _ _ _ _ _ _ us hl => match us, hl with | [_, _, _], _ => rfl
  have b__law_numbers := F__law_numbers.binds (ps := ["state"]) fun _ _ _ _ _ _ us hl => match us, hl with | [_], _ => rfl
  have b_blended := F_blended.binds (ps := ["mode", "below", "above", "level"]) fun _ _ _ _ _ _ us hl => match us, hl with | [_, _, _, _], _ => rfl
  have b__law_told := F__law_told.binds (ps := ["call", "value"]) fun _ _ _ _ _ _ us hl => match us, hl with | [_, _], _ => rfl
  have b_is_level := F_is_level.binds (ps := ["level"]) fun _ _ _ _ _ _ us hl => match us, hl with | [_], _ => rfl
  have b_check_level := F_check_level.binds (ps := ["level"]) fun _ _ _ _ _ _ us hl => match us, hl with | [_], _ => rfl
  have b_check_mode := F_check_mode.binds (ps := ["mode"]) fun _ _ _ _ _ _ us hl => match us, hl with | [_], _ => rfl
  have b__law_is_pixel := F__law_is_pixel.binds (ps := ["pixel"]) fun _ _ _ _ _ _ us hl => match us, hl with | [_], _ => rfl
  have b_faded := F_faded.binds (ps := ["pixel", "level"]) fun _ _ _ _ _ _ us hl => match us, hl with | [_, _], _ => rfl
  have b__law_faded := F__law_faded.binds (ps := ["pixel", "level"]) fun _ _ _ _ _ _ us hl => match us, hl with | [_, _], _ => rfl
  have b_is_pixel := F_is_pixel.binds (ps := ["pixel"]) fun _ _ _ _ _ _ us hl => match us, hl with | [_], _ => rfl
  have b_check_pixel := F_check_pixel.binds (ps := ["pixel"]) fun _ _ _ _ _ _ us hl => match us, hl with | [_], _ => rfl
  have b__law_blended := F__law_blended.binds (ps := ["mode", "below", "above", "level"]) fun _ _ _ _ _ _ us hl => match us, hl with | [_, _, _, _], _ => rfl
  have T : Txt K mg := ⟨f__law_stream, _, F__law_stream, PySem.W.mg_of X G n__law_stream, b__law_stream, f__law_next, _, F__law_next, PySem.W.mg_of X G n__law_next, b__law_next, f__law_pixel, _, F__law_pixel, PySem.W.mg_of X G n__law_pixel, b__law_pixel, f__law_level, _, F__law_level, PySem.W.mg_of X G n__law_level, b__law_level, f__law_same, _, F__law_same, PySem.W.mg_of X G n__law_same, b__law_same, f_scaled, _, F_scaled, PySem.W.mg_of X G n_scaled, b_scaled, f_mixed, _, F_mixed, PySem.W.mg_of X G n_mixed, b_mixed, f_put_together, _, F_put_together, PySem.W.mg_of X G n_put_together, b_put_together, f__law_scaled, _, F__law_scaled, PySem.W.mg_of X G n__law_scaled, b__law_scaled, f__law_mixed, _, F__law_mixed, PySem.W.mg_of X G n__law_mixed, b__law_mixed, f__law_made, _, F__law_made, PySem.W.mg_of X G n__law_made, b__law_made, f__law_numbers, _, F__law_numbers, PySem.W.mg_of X G n__law_numbers, b__law_numbers, f_blended, _, F_blended, PySem.W.mg_of X G n_blended, b_blended, f__law_told, _, F__law_told, PySem.W.mg_of X G n__law_told, b__law_told, f_is_level, _, F_is_level, PySem.W.mg_of X G n_is_level, b_is_level, f_check_level, _, F_check_level, PySem.W.mg_of X G n_check_level, b_check_level, f_check_mode, _, F_check_mode, PySem.W.mg_of X G n_check_mode, b_check_mode, f__law_is_pixel, _, F__law_is_pixel, PySem.W.mg_of X G n__law_is_pixel, b__law_is_pixel, f_faded, _, F_faded, PySem.W.mg_of X G n_faded, b_faded, f__law_faded, _, F__law_faded, PySem.W.mg_of X G n__law_faded, b__law_faded, f_is_pixel, _, F_is_pixel, PySem.W.mg_of X G n_is_pixel, b_is_pixel, f_check_pixel, _, F_check_pixel, PySem.W.mg_of X G n_check_pixel, b_check_pixel, f__law_blended, _, F__law_blended, PySem.W.mg_of X G n__law_blended, b__law_blended, PySem.W.mg_none_of X G z_abs, PySem.W.mg_none_of X G z_all, PySem.W.mg_none_of X G z_int, PySem.W.mg_none_of X G z_isinstance, PySem.W.mg_none_of X G z_len, PySem.W.mg_none_of X G z_max, PySem.W.mg_none_of X G z_min, PySem.W.mg_none_of X G z_range, PySem.W.mg_none_of X G z_repr, PySem.W.mg_none_of X G z_tuple, p_CLEAR, PySem.W.mg_of X G n_CLEAR, .tup (xs := [.int (0), .int (0), .int (0), .int (0)]) (.inr ⟨_, _, _, l_CLEAR, rfl, rfl, (by show 4 ≤ sizeLine; decide), (.cons ⟨_, rfl⟩ (.cons ⟨_, rfl⟩ (.cons ⟨_, rfl⟩ (.cons ⟨_, rfl⟩ Paired.nil))))⟩) (.cons (.int _) (.cons (.int _) (.cons (.int _) (.cons (.int _) DpAll.nil)))), ⟨_, PySem.W.mg_of X G n_MAX_LEVEL⟩, p_MODES, PySem.W.mg_of X G n_MODES, .tup (xs := [.str "plain", .str "darker", .str "lighter", .str "times", .str "screen", .str "apart"]) (.inr ⟨_, _, _, l_MODES, rfl, rfl, (by show 6 ≤ sizeLine; decide), (.cons ⟨_, rfl⟩ (.cons ⟨_, rfl⟩ (.cons ⟨_, rfl⟩ (.cons ⟨_, rfl⟩ (.cons ⟨_, rfl⟩ (.cons ⟨_, rfl⟩ Paired.nil))))))⟩) (.cons (.str _) (.cons (.str _) (.cons (.str _) (.cons (.str _) (.cons (.str _) (.cons (.str _) DpAll.nil)))))), ⟨q_NotAllowed, PySem.W.mg_of X G n_NotAllowed, x_NotAllowed, k_NotAllowed, bs_NotAllowed, ty_NotAllowed⟩, rr_PaintError, PySem.W.mg_of X G nr_PaintError, rr_TooLarge, PySem.W.mg_of X G nr_TooLarge, rr_Missing, PySem.W.mg_of X G nr_Missing, rr_BadPaper, PySem.W.mg_of X G nr_BadPaper, rr_BadForm, PySem.W.mg_of X G nr_BadForm, ⟨hg_NotAllowed, hk_NotAllowed, bs_NotAllowed, hd_NotAllowed, ha_NotAllowed, hn_NotAllowed, ht_NotAllowed, hm_NotAllowed⟩, te_NotAllowed, is_NotAllowed_PaintError, no_NotAllowed⟩
  exact ⟨PySem.W.fnOf "law" "law" (defArgs s_law) (defBody s_law) (defScope s_law) .none kV_law dc_law pm_law an_law cd_law ct_law, fun s v => .of_eq rfl, fun base _ _ => ok_law hyp T F_law⟩
end My
open PySem PySem.W PyProof.Rows
set_option maxHeartbeats 0 in
theorem PySem.Challenge.cw_paintershouse_k00_pixels_and_blends_holds : PySem.Challenge.rw_paintershouse_k00_pixels_and_blends.Holds := by
  w_on; o_law; k_head; (case hw => w_witness2)
  k_fill
  refine Dn.walkG (l := PySem.Challenge.rw_paintershouse_k00_pixels_and_blends) (n := 63) (k := 5) (x := "script") (sp := My.spLaw) rfl (by decide) rfl ⟨rfl, by decide, by decide⟩ (fun w h Y => PySem.W.kIn_of Y) ?F (fun K H a ns hl _ hS => ⟨a, ns, rfl, hS, hl, fun _ => rfl⟩)
  case F =>
    intro w mg fa h KX G hmg
    refine' My.all_mk (l := PySem.Challenge.rw_paintershouse_k00_pixels_and_blends) My.lawOk KX G hmg ?n__law_stream ?l__law_stream ?c__law_stream ?k__law_stream ?n__law_next ?l__law_next ?c__law_next ?k__law_next ?n__law_pixel ?l__law_pixel ?c__law_pixel ?k__law_pixel ?n__law_level ?l__law_level ?c__law_level ?k__law_level ?n__law_same ?l__law_same ?c__law_same ?k__law_same ?n_scaled ?l_scaled ?c_scaled ?k_scaled ?n_mixed ?l_mixed ?c_mixed ?k_mixed ?n_put_together ?l_put_together ?c_put_together ?k_put_together ?n__law_scaled ?l__law_scaled ?c__law_scaled ?k__law_scaled ?n__law_mixed ?l__law_mixed ?c__law_mixed ?k__law_mixed ?n__law_made ?l__law_made ?c__law_made ?k__law_made ?n__law_numbers ?l__law_numbers ?c__law_numbers ?k__law_numbers ?n_blended ?l_blended ?c_blended ?k_blended ?n__law_told ?l__law_told ?c__law_told ?k__law_told ?n_is_level ?l_is_level ?c_is_level ?k_is_level ?n_check_level ?l_check_level ?c_check_level ?k_check_level ?n_check_mode ?l_check_mode ?c_check_mode ?k_check_mode ?n__law_is_pixel ?l__law_is_pixel ?c__law_is_pixel ?k__law_is_pixel ?n_faded ?l_faded ?c_faded ?k_faded ?n__law_faded ?l__law_faded ?c__law_faded ?k__law_faded ?n_is_pixel ?l_is_pixel ?c_is_pixel ?k_is_pixel ?n_check_pixel ?l_check_pixel ?c_check_pixel ?k_check_pixel ?n__law_blended ?l__law_blended ?c__law_blended ?k__law_blended ?n_law ?l_law ?c_law ?k_law ?z_abs ?z_all ?z_int ?z_isinstance ?z_len ?z_max ?z_min ?z_range ?z_repr ?z_tuple ?n_CLEAR ?l_CLEAR ?n_MAX_LEVEL ?n_MODES ?l_MODES ?n_NotAllowed ?x_NotAllowed ?k_NotAllowed ?bs_NotAllowed ?ty_NotAllowed ?nr_PaintError ?nr_TooLarge ?nr_Missing ?nr_BadPaper ?nr_BadForm ?hg_NotAllowed ?hk_NotAllowed ?hd_NotAllowed ?ha_NotAllowed ?hn_NotAllowed ?ht_NotAllowed ?hm_NotAllowed ?te_NotAllowed ?is_NotAllowed_PaintError ?no_NotAllowed
    (case n__law_stream => k_is); (case l__law_stream => k_is); (case c__law_stream => k_is); (case k__law_stream => k_is); (case n__law_next => k_is); (case l__law_next => k_is); (case c__law_next => k_is); (case k__law_next => k_is); (case n__law_pixel => k_is); (case l__law_pixel => k_is); (case c__law_pixel => k_is); (case k__law_pixel => k_is); (case n__law_level => k_is); (case l__law_level => k_is); (case c__law_level => k_is); (case k__law_level => k_is); (case n__law_same => k_is); (case l__law_same => k_is); (case c__law_same => k_is); (case k__law_same => k_is); (case n_scaled => k_is); (case l_scaled => k_is); (case c_scaled => k_is); (case k_scaled => k_is); (case n_mixed => k_is); (case l_mixed => k_is); (case c_mixed => k_is); (case k_mixed => k_is); (case n_put_together => k_is); (case l_put_together => k_is); (case c_put_together => k_is); (case k_put_together => k_is); (case n__law_scaled => k_is); (case l__law_scaled => k_is); (case c__law_scaled => k_is); (case k__law_scaled => k_is); (case n__law_mixed => k_is); (case l__law_mixed => k_is); (case c__law_mixed => k_is); (case k__law_mixed => k_is); (case n__law_made => k_is); (case l__law_made => k_is); (case c__law_made => k_is); (case k__law_made => k_is); (case n__law_numbers => k_is); (case l__law_numbers => k_is); (case c__law_numbers => k_is); (case k__law_numbers => k_is); (case n_blended => k_is); (case l_blended => k_is); (case c_blended => k_is); (case k_blended => k_is); (case n__law_told => k_is); (case l__law_told => k_is); (case c__law_told => k_is); (case k__law_told => k_is); (case n_is_level => k_is); (case l_is_level => k_is); (case c_is_level => k_is); (case k_is_level => k_is); (case n_check_level => k_is); (case l_check_level => k_is); (case c_check_level => k_is); (case k_check_level => k_is); (case n_check_mode => k_is); (case l_check_mode => k_is); (case c_check_mode => k_is); (case k_check_mode => k_is); (case n__law_is_pixel => k_is); (case l__law_is_pixel => k_is); (case c__law_is_pixel => k_is); (case k__law_is_pixel => k_is); (case n_faded => k_is); (case l_faded => k_is); (case c_faded => k_is); (case k_faded => k_is); (case n__law_faded => k_is); (case l__law_faded => k_is); (case c__law_faded => k_is); (case k__law_faded => k_is); (case n_is_pixel => k_is); (case l_is_pixel => k_is); (case c_is_pixel => k_is); (case k_is_pixel => k_is); (case n_check_pixel => k_is); (case l_check_pixel => k_is); (case c_check_pixel => k_is); (case k_check_pixel => k_is); (case n__law_blended => k_is); (case l__law_blended => k_is); (case c__law_blended => k_is); (case k__law_blended => k_is); (case n_law => k_is); (case l_law => k_is); (case c_law => k_is); (case k_law => k_is); (case z_abs => k_is); (case z_all => k_is); (case z_int => k_is); (case z_isinstance => k_is); (case z_len => k_is); (case z_max => k_is); (case z_min => k_is); (case z_range => k_is); (case z_repr => k_is); (case z_tuple => k_is); (case n_CLEAR => k_is); (case l_CLEAR => k_is); (case n_MAX_LEVEL => k_is); (case n_MODES => k_is); (case l_MODES => k_is); (case n_NotAllowed => k_is); (case x_NotAllowed => k_exc); (case k_NotAllowed => k_is); (case bs_NotAllowed => k_is); (case ty_NotAllowed => k_is); (case nr_PaintError => k_is); (case nr_TooLarge => k_is); (case nr_Missing => k_is); (case nr_BadPaper => k_is); (case nr_BadForm => k_is); (case hg_NotAllowed => k_is); (case hk_NotAllowed => k_is); (case hd_NotAllowed => k_is); (case ha_NotAllowed => k_is); (case hn_NotAllowed => k_is); (case ht_NotAllowed => k_is); (case hm_NotAllowed => k_is); (case te_NotAllowed => first | rfl | decide +kernel); (case is_NotAllowed_PaintError => first | rfl | decide +kernel); (case no_NotAllowed => first | rfl | decide +kernel)
