import PyProof.Rows.All
import HandS.ForMost
import HandS.Zip
import HandS.More
import HandS.DictComp
import HandS.TupAny
import HandS.Strs
import HandS.Walk
import HandS.TupSets
import HandS.SetFor
import KE.KSortTupG
import KE.GoesSet
import HandS.SetBool
import PySem.Challenge.RW_anymarks_k00_ways_and_webs_turned
set_option Elab.async false
set_option linter.all false
set_option maxRecDepth 100000
/-! W0: defs whose frames run with no open repr above them; repr of data; the law's own end for such. -/
namespace W0
open PySem PySem.Spec PyProof.Rows L2

/-- a promise that holds where no repr is open -/
structure FnG (P : Program) (w : World) (K : PySem.W.Frag) (mg : Str → Option Value) (base : Heap) (k : Nat) (f : Addr) (fd : FuncData) (ps : List Str) (sp : Sp) : Prop where
  many : ∀ vs H Q E, sp vs H Q E → vs.length = ps.length
  runs : ∀ (A : Around), A.guards = some [] → Room k A → ∀ (frames : List Env) (s : Shared) (H : Hp), Env0 P w K mg base A frames s H → ∀ (given : Args) (us : List Value) (vs : List V), BindsTo s fd given (ps.zip us) → Vals vs us →
    ∀ (Q : VK) (E : XK), sp vs H Q E → codeAny (model P w) A (.call (.ref f) given) (CR CX0 frames P w H s Q E) s

section
variable {P : Program} {w : World} {K : PySem.W.Frag} {mg : Str → Option Value} {base : Heap} {k j : Nat} {f : Addr} {fd : FuncData} {ps : List Str} {sp : Sp}
theorem FnG.of (F : FnOk P w K mg base CX0 k f fd ps sp) : FnG P w K mg base k f fd ps sp where
  many := F.len
  runs := fun A _ room frames s H e0 given us vs hb hv Q E q => F.run A frames s H given us vs Q E room e0 hb hv q
theorem FnG.up (F : FnG P w K mg base j f fd ps sp) (h : j ≤ k) : FnG P w K mg base k f fd ps sp where
  many := F.many
  runs := fun A g room => F.runs A g (room.mono h)

/-- by the def's body -/
theorem of_body {x qual : Str} {st : Stmt} {N : List Str} (F : Fun K x qual st f fd) (S : FnScope N ps (defScope st)) (many : ∀ vs H Q E, sp vs H Q E → vs.length = ps.length)
    (body : ∀ (cdv : Value) (A : Around) (frames : List Env) (s : Shared) (H : Hp) (vs : List V) (Q : VK) (E : XK), (A.deeper (envOfC qual (defScope st) s.heap.objs.size f cdv)).guards = some [] →
      Room k (A.deeper (envOfC qual (defScope st) s.heap.objs.size f cdv)) → sp vs H Q E →
      ∃ t, PSs (cxOf CX0 P w K mg base N qual (defScope st) f cdv A frames s H E).nox (defBody st) t ∧ t { nx := fun _ H' => Q .non H', rt := Q } (start N vs) H) : FnG P w K mg base (k + 1) f fd ps sp := by
  refine ⟨many, fun A hg room frames s H e0 given us vs hb hv Q E q => ?_⟩
  obtain ⟨oc, od, kV, doc, pm, an, cdv, ct, osl, rfl, look, code⟩ := F.ex
  have old : ∀ b o, base.get? b = some o → s.heap.get? b = some o := fun b o e => (e0.bs b o e).1
  have kin : K.In s.heap := e0.mod.kin.keeps old
  have free : s.heap.NoLimit := e0.mod.nolimit.keeps old
  have kinds : ∀ y ∈ ps.zip us, (defScope st).names.lookup y.1 = some .local ∨ ((defScope st).names.lookup y.1 = some .cell ∧ ((cellsFrom (s.heap.objs.size + 1) (defScope st).names []).lookup y.1).isSome = true) := by
    intro y hy
    obtain ⟨n, v⟩ := y
    rcases S.par n (List.of_mem_zip hy).1 with z | z
    · exact Or.inl z
    · exact Or.inr ⟨z, PySem.W.cellsFrom_some _ _ _ (Or.inl z)⟩
  obtain ⟨t, pt, ht⟩ := body cdv A frames s H vs Q E hg (room.deeper _) q
  refine codeAny_call_function room.depth (kin _ _ look) rfl S.co S.gen rfl (PySem.W.codeRec_of kin code) (hb _ _ _ _ (wpAny_newFunctionEnv_cells S.kind kinds fun env ee s1 fresh => ?_))
  subst ee
  refine ⟨free.keeps fresh.toInCall.keep, codeAny_func ?_⟩
  have I0 := inv_start (CX := CX0) (P := P) (w := w) (E := E) S room.hd e0 (many _ _ _ _ q) hv fresh
  refine wpAny_mono (pt.nox.run [] s1 (start N vs) H _ I0 ht) ?_ (fun _ _ z => z)
  intro fl s2 hs
  match fl, hs with
  | .ret u, ⟨v, _, H2, J, rv, z⟩ => exact ⟨v, H2, J.os, J.bare, J.base, J.hok, rv, z⟩
  | .next, ⟨_, H2, J, z⟩ => exact ⟨V.non, H2, J.os, J.bare, J.base, J.hok, rfl, z⟩
  | .brk, ⟨_, _, _, z⟩ => exact z.elim
  | .cont, ⟨_, _, _, z⟩ => exact z.elim
end

section
variable {X : Cx} {k : Nat} {f : Addr} {fd : FuncData} {ps : List Str} {sp : Sp} {ds : List Value} {dvs : List V} {x : Str} {p pos : Pos} {e : Expr} {es : List Expr} {t : TA}
theorem run_g {pins : List (Addr × Obj)} {σ : L2.St} {H : Hp} {s : Shared} {Q : VK} {us : List Value} {vs : List V} (F : FnG X.prog X.w X.K X.mg X.base k f fd ps sp) (room : Room k X.A) (hg : X.A.guards = some []) (hb : Binds X.K fd ps ds) (hd : Vals dvs ds)
    (I : Inv X pins σ H s) (hv : Vals vs us) (q : sp (vs ++ dvs) H Q E0) : wpAny (model X.prog X.w) X.A (call (.ref f) us) (EP X pins σ Q) X.xe s := by
  have all := hv.append hd
  have n : (us ++ ds).length = ps.length := all.length.symm.trans (F.many _ _ _ _ q)
  refine wpAny_call (codeAny_mono (F.runs X.A hg room X.stack s H I.env0 ⟨us, []⟩ (us ++ ds) (vs ++ dvs) (hb s us I.kIn n) all Q E0 q) ?_)
  intro r s2 h
  match r, h with
  | .error _, h => exact False.elim h
  | .ok (.ret u), h => exact I.after h
  | .ok .next, h => exact False.elim h
  | .ok .brk, h => exact False.elim h
  | .ok .cont, h => exact False.elim h
/-- a call of such a def -/
theorem pe_callG (F : FnG X.prog X.w X.K X.mg X.base k f fd ps sp) (room : Room k X.A) (hgd : X.A.guards = some []) (hg : Gl X x) (hm : X.mg x = some (.ref f)) (kp : PySem.W.keepIn X.K (.ref f) = true) (hb : Binds X.K fd ps ds) (hd : Vals dvs ds) (_hx : Passes CX0 X E0)
    (ha : PA X (e :: es) t) (hdb : (x == ("__debug__" : Str)) = false := by decide) (he : starEach (e :: es) X.env = (false, eval e X.env) :: starEach es X.env := by rfl) (hpl : (backTo pos (starEach es X.env)).any (·.1) = false := by rfl) :
    PE X (.Call (.Name x p) (e :: es) [] pos) (tCall sp dvs E0 t) := by
  refine ⟨fun pins s σ H Q I h => wpAny_Call_Name_kw (ld_glob I hg hm ?_ hdb)⟩
  exact PySem.W.callWith_K (h₀ := X.base) I.ok.mod.kin kp (thn (ha.run pos pins s σ H _ I h) fun us s1 ⟨vs, H1, I1, rv, q⟩ => ⟨I1.kIn, run_g F room hgd hb hd I1 rv q⟩) he hpl
theorem pe_callG0 (F : FnG X.prog X.w X.K X.mg X.base k f fd ps sp) (room : Room k X.A) (hgd : X.A.guards = some []) (hg : Gl X x) (hm : X.mg x = some (.ref f)) (kp : PySem.W.keepIn X.K (.ref f) = true) (hb : Binds X.K fd ps ds) (hd : Vals dvs ds)
    (hdb : (x == ("__debug__" : Str)) = false := by decide) : PE X (.Call (.Name x p) [] [] pos) (tCall sp dvs E0 tNil) := by
  refine ⟨fun pins s σ H Q I h => wpAny_Call_Name_kw (ld_glob I hg hm ?_ hdb)⟩
  exact PySem.W.callWith_K0 I.kIn kp (run_g F room hgd hb hd I .nil h)
end

/-! ### repr of data -/
theorem call_repr {X : Cx} (hgd : X.A.guards = some []) (hu : X.A.units + 64 < cLine) : CallR X (.builtin "repr") (fun vs H Q => ∃ (a : Addr) (d : PyData), vs = [.ref a] ∧ Dp X.K H (.ref a) d ∧ d.showable = true ∧ d.hasDict = false ∧ d.depth ≤ 50 ∧ d.shown.length ≤ sizeLine ∧ Q (.str d.shown) H) := by
  intro pins s σ H vs us Q I r h
  obtain ⟨a, d, rfl, hd, h1, h2, h3, h4, q⟩ := h
  rw [Vals.ref1 r]
  obtain ⟨as, rd⟩ := Dp.reads I d (.ref a) (.ref a) hd rfl
  refine repr_of_reads' rd h1 (fun z => by rw [h2] at z; cases z) hgd (by omega) (fun _ _ e => e) (fun h' u tk keep => ?_) h4
  exact ⟨.str d.shown, H, I.kept (t' := tk) keep, ⟨u, rfl⟩, q⟩

/-! ### the end of a law's row -/
/-- the one tracked thing, if any: the script's list, locked -/
def only (c : Bool) (a : Addr) (o : Obj) (xs : List V) : Hp := fun b => if c = true ∧ b = a then some (.frz o (.lst xs)) else none
theorem only_at {a : Addr} {o : Obj} {xs : List V} : only true a o xs a = some (.frz o (.lst xs)) := if_pos ⟨rfl, rfl⟩
theorem only_off {c : Bool} {a b : Addr} {o : Obj} {xs : List V} (h : b ≠ a) : only c a o xs b = none := if_neg fun z => h z.2
theorem only_no {a b : Addr} {o : Obj} {xs : List V} : only false a o xs b = none := if_neg fun z => Bool.noConfusion z.1
theorem only_some {c : Bool} {a b : Addr} {o : Obj} {xs : List V} {u : HO} (h : only c a o xs b = some u) : c = true ∧ b = a ∧ u = .frz o (.lst xs) := by
  unfold only at h
  split at h
  · rename_i e
    exact ⟨e.1, e.2, (Option.some.inj h).symm⟩
  · cases h

theorem enter {P : Program} {w : World} {K : PySem.W.Frag} {mg mb : Str → Option Value} {k : Nat} {fa a : Addr} {fd : FuncData} {x : Str} {sp : Sp} {s : Shared} {vs : List Value} {ns : List Int}
    (kin : K.In s.heap) (hm : s.heap.Ns mainGlobals mg) (hb : s.heap.Ns builtinsNs mb) (hbb : ∀ x : Str, x ≠ "__name__" → mb x = bootBuiltins x) (lim : s.heap.NoLimit) (gens : s.gens = #[])
    (there : s.heap.get? a = some { cls := .type "list", data := .seq vs.toArray }) (nums : IntsAre vs ns) (many : ns.length ≤ sizeLine) (room : Room k callerA)
    (F : ∀ base : Heap, K.In base → base.Ns mainGlobals mg → FnG P w K mg base k fa fd [x] sp) (bind : ∀ (s : Shared) (u : Value), BindsTo s fd ⟨[u], []⟩ [(x, u)])
    (hsp : ∀ H : Hp, SqL K H a (ns.map V.int) → (∀ b, b ≠ a → H b = none) → sp [.ref a] H (fun v _ => v = .bl true) E0) :
    codeAny (model P w) callerA (.call (.ref fa) ⟨[.ref a], []⟩) (fun r s' => r = .ok (.ret (.bool true)) ∧ OldK s.heap s'.heap ∧ s'.os = s.os ∧ AllBare s'.gens) s := by
  let ob : Obj := { cls := .type "list", data := .seq vs.toArray }
  obtain ⟨c, apart, hS⟩ : ∃ c : Bool, (c = true → K.lookup a = none) ∧ SqL K (only c a ob (ns.map V.int)) a (ns.map V.int) := by
    cases look : K.lookup a with
    | none => exact ⟨true, fun _ => rfl, Or.inl (Or.inr ⟨ob, only_at⟩)⟩
    | some o =>
      have e := kin a o look
      rw [there] at e
      cases e
      refine ⟨false, fun z => (by cases z), Or.inr ⟨ob, vs.toArray, _, look, rfl, rfl, rfl, ?_, by simpa using vals_ints nums⟩⟩
      rw [List.size_toArray, nums.length]
      exact many
  have held : HOk P w (only c a ob (ns.map V.int)) s.heap := by
    intro b u e
    obtain ⟨_, rfl, rfl⟩ := only_some e
    exact ⟨there, by rw [List.length_map]; exact many, vs, _, vals_ints nums, there⟩
  generalize hH : only c a ob (ns.map V.int) = H0 at hS held
  have off : ∀ {b : Addr} {o : Obj}, s.heap.get? b = some o → H0 b = none → (hidT s.heap H0).get? b = some o := fun e n => hidT_get e n
  have dictOff : ∀ {b : Addr} {m : Str → Option Value}, s.heap.Ns b m → (hidT s.heap H0).Ns b m := by
    intro b m hn
    obtain ⟨o, es, ep, e, d, r⟩ := hn
    refine ⟨o, es, ep, off e ?_, d, r⟩
    rw [← hH]
    refine only_off ?_
    rintro rfl
    rw [there] at e
    cases e
    cases d
  have kin0 : K.In (hidT s.heap H0) := by
    intro b o e
    refine off (kin b o e) ?_
    cases h0 : H0 b with
    | none => rfl
    | some u =>
      rw [← hH] at h0
      obtain ⟨z1, rfl, _⟩ := only_some h0
      rw [apart z1] at e
      cases e
  have md : Mod K mg (hidT s.heap H0) := ⟨kin0, dictOff hm, ⟨mb, dictOff hb, hbb⟩, by
    obtain ⟨mc, c1, c2⟩ := lim
    exact ⟨mc, dictOff c1, c2⟩⟩
  have e0 : Env0 P w K mg (hidT s.heap H0) callerA [] s H0 := ⟨rfl, md, fun b o e => of_hidT e, Nat.le_of_eq (hidT_size _ _), trivial, fun b z => (List.not_mem_nil z).elim, held, .of_eq gens⟩
  have run := (F _ kin0 (dictOff hm)).runs callerA rfl room [] s H0 e0 ⟨[.ref a], []⟩ [.ref a] [.ref a] (bind s (.ref a)) (.cons rfl .nil) (fun v _ => v = .bl true) E0 (hsp H0 hS fun b n => by rw [← hH]; exact only_off n)
  refine codeAny_mono run fun r s2 h => ?_
  match r, h with
  | .error _, h => exact False.elim h
  | .ok .next, h => exact False.elim h
  | .ok .brk, h => exact False.elim h
  | .ok .cont, h => exact False.elim h
  | .ok (.ret u), ⟨v, H2, os, bare, un, held2, rv, q⟩ =>
    subst q
    cases rv
    refine ⟨rfl, OldK.of_keep fun b o e => ?_, os, bare⟩
    cases h0 : H0 b with
    | none => exact un.keep b o e h0 (fun z => (List.not_mem_nil z).elim) (fun z => (List.not_mem_nil z).elim)
    | some u =>
      have h1 := h0
      rw [← hH] at h1
      obtain ⟨_, rfl, rfl⟩ := only_some h1
      obtain ⟨e2, _⟩ := held2 b _ (un.frzs b ob _ h0)
      rw [there] at e
      cases e
      exact e2

theorem walk_g {l : PySem.W.OpenLaw} {n k : Nat} {q : Program} {loose : List Str} {XP : (Str → Option Value) → Heap → Prop} {YP : World → Heap → Prop} {d : DefRec} {K : Params → PySem.W.Frag} {sp : PySem.W.Frag → Sp} {x : Str}
    (hn : l.most = some n) (hn2 : n ≤ sizeLine) (hdf : d.params.defaults = []) (room : Room k callerA) (hY : ∀ (w : World) (h : Heap), YP w h → (K w.params).In h)
    (F : ∀ (w : World) (mg : Str → Option Value) (fa : Addr) (h : Heap), (K w.params).In h → h.Ns mainGlobals mg → mg d.name = some (.ref fa) →
      ∃ fd : FuncData, (∀ (s : Shared) (u : Value), BindsTo s fd ⟨[u], []⟩ [(x, u)]) ∧ ∀ base : Heap, (K w.params).In base → base.Ns mainGlobals mg → FnG l.prog w (K w.params) mg base k fa fd [x] (sp (K w.params)))
    (hsp : ∀ (K : PySem.W.Frag) (H : Hp) (a : Addr) (ns : List Int), ns.length ≤ n → SqL K H a (ns.map V.int) → (∀ b, b ≠ a → H b = none) → sp K [.ref a] H (fun v _ => v = .bl true) E0) :
    PySem.W.WalkO q loose XP YP l.row.toRowW d [] (fun f vs => PySem.call f vs) := by
  refine Att.attach_call hn hdf fun w s₀ s₁ mg mb fa o pm cd doc a vs ns G Y ho hd hcd hmg there nums many gens => ?_
  have kin := hY w _ Y
  obtain ⟨fd, bind, hF⟩ := F w mg fa _ kin G.T.g hmg
  exact enter kin G.T.g G.T.b G.T.builtins G.T.nolimit gens there nums (Nat.le_trans many hn2) room hF bind fun H h1 h2 => hsp _ H a ns many h1 h2
end W0

/-! W1: data in the abstract heap, its size as text; type(x); sorted lists of triples of ints. -/
namespace W1
open PySem PySem.Spec PyProof.Rows L2

/-! ### data stays -/
theorem same_tup {K : PySem.W.Frag} {H H' : Hp} {a : Addr} {xs : List V} (e : Same H H') (h : SqT K H a xs) : SqT K H' a xs := by
  rcases h with (h | ⟨o, h⟩) | h
  · exact .inl (.inl (e _ _ h))
  · exact .inl (.inr ⟨o, e _ _ h⟩)
  · exact .inr h
theorem same_new {H : Hp} {p : Addr} {o : HO} (h : H p = none) : Same H (upd H p o) := fun b x e => by
  rw [upd_ne (ne_of_none e h)]
  exact e
mutual
theorem dp_same {K : PySem.W.Frag} {H H' : Hp} (e : Same H H') : ∀ (d : PyData) (v : V), Dp K H v d → Dp K H' v d
  | .none, _, h => by cases h; exact .non
  | .bool b, _, h => by cases h; exact .bl b
  | .int i, _, h => by cases h; exact .int i
  | .str x, _, h => by cases h; exact .str x
  | .list ds, _, h => by
    cases h with
    | lst hs ha => exact .lst (e.seq hs) (dps_same e ds _ ha)
  | .tuple ds, _, h => by
    cases h with
    | tup hs ha => exact .tup (same_tup e hs) (dps_same e ds _ ha)
  | .dict _, _, h => by cases h
theorem dps_same {K : PySem.W.Frag} {H H' : Hp} (e : Same H H') : ∀ (ds : List PyData) (vs : List V), DpAll K H vs ds → DpAll K H' vs ds
  | [], _, h => by cases h; exact .nil
  | d :: ds, _, h => by
    cases h with
    | cons h1 h2 => exact .cons (dp_same e d _ h1) (dps_same e ds _ h2)
end
section
variable {K : PySem.W.Frag} {H : Hp}
theorem dps_len : ∀ {vs : List V} {ds : List PyData}, DpAll K H vs ds → vs.length = ds.length
  | _, _, .nil => rfl
  | _, _, .cons _ t => by rw [List.length_cons, List.length_cons, dps_len t]
theorem dps_get : ∀ {vs : List V} {ds : List PyData} {i : Nat} {d : PyData}, DpAll K H vs ds → ds[i]? = some d → ∃ v, vs[i]? = some v ∧ Dp K H v d
  | _, _, _, _, .nil, e => by simp at e
  | _, _, 0, _, .cons h _, e => by
    simp at e
    subst e
    exact ⟨_, rfl, h⟩
  | _, _, i + 1, d, .cons _ t, e => by
    obtain ⟨v, h1, h2⟩ := dps_get (i := i) t (by simpa using e)
    exact ⟨v, by simpa using h1, h2⟩
theorem dps_app : ∀ {vs ws : List V} {ds es : List PyData}, DpAll K H vs ds → DpAll K H ws es → DpAll K H (vs ++ ws) (ds ++ es)
  | _, _, _, _, .nil, h => h
  | _, _, _, _, .cons h t, g => .cons h (dps_app t g)
theorem dps_one {v : V} {d : PyData} (h : Dp K H v d) : DpAll K H [v] [d] := .cons h .nil
theorem dp_tup {v : V} {ds : List PyData} (h : Dp K H v (.tuple ds)) : ∃ a xs, v = .ref a ∧ SqT K H a xs ∧ DpAll K H xs ds := by
  cases h with
  | tup hs ha => exact ⟨_, _, rfl, hs, ha⟩
theorem dp_lst {v : V} {ds : List PyData} (h : Dp K H v (.list ds)) : ∃ a xs, v = .ref a ∧ SqL K H a xs ∧ DpAll K H xs ds := by
  cases h with
  | lst hs ha => exact ⟨_, _, rfl, hs, ha⟩
theorem dp_int {v : V} {i : Int} (h : Dp K H v (.int i)) : v = .int i := by cases h; rfl
theorem dp_bl {v : V} {b : Bool} (h : Dp K H v (.bool b)) : v = .bl b := by cases h; rfl
theorem dp_mk {p : Addr} {xs : List V} {ds : List PyData} (hp : H p = none) (h : DpAll K H xs ds) : Dp K (upd H p (.tup xs)) (.ref p) (.tuple ds) := .tup (SqT.of upd_same) (dps_same (same_new hp) ds xs h)
theorem dp_mkl {p : Addr} {xs : List V} {ds : List PyData} (hp : H p = none) (h : DpAll K H xs ds) : Dp K (upd H p (.lst xs)) (.ref p) (.list ds) := .lst (SqL.of upd_same) (dps_same (same_new hp) ds xs h)
theorem dps_ints : ∀ ns : List Int, DpAll K H (ns.map V.int) (ns.map PyData.int)
  | [] => .nil
  | n :: ns => .cons (.int n) (dps_ints ns)
theorem dps_ints_inv : ∀ {ns : List Int} {vs : List V}, DpAll K H vs (ns.map PyData.int) → vs = ns.map V.int
  | [], _, .nil => rfl
  | n :: ns, _, .cons h t => by
    rw [dp_int h, dps_ints_inv t]
    rfl
end

/-! ### data small enough to be shown -/
structure Fine (k n : Nat) (d : PyData) : Prop where
  leaf : d.leavesShort 13 = true
  vis : d.showable = true
  nod : d.hasDict = false
  lay : d.canLay0 = true
  dep : d.depth ≤ k
  blk : d.bulk ≤ n
theorem all_leaf : ∀ {ds : List PyData}, (∀ d ∈ ds, d.leavesShort 13 = true) → PyData.leavesShortAll 13 ds = true
  | [], _ => rfl
  | d :: ds, h => by
    show (PyData.leavesShort 13 d && PyData.leavesShortAll 13 ds) = true
    rw [h d List.mem_cons_self, all_leaf fun e m => h e (List.mem_cons_of_mem _ m)]
    rfl
theorem all_vis : ∀ {ds : List PyData}, (∀ d ∈ ds, d.showable = true) → PyData.showableAll ds = true
  | [], _ => rfl
  | d :: ds, h => by
    show (PyData.showable d && PyData.showableAll ds) = true
    rw [h d List.mem_cons_self, all_vis fun e m => h e (List.mem_cons_of_mem _ m)]
    rfl
theorem all_nod : ∀ {ds : List PyData}, (∀ d ∈ ds, d.hasDict = false) → PyData.hasDictAll ds = false
  | [], _ => rfl
  | d :: ds, h => by
    show (PyData.hasDict d || PyData.hasDictAll ds) = false
    rw [h d List.mem_cons_self, all_nod fun e m => h e (List.mem_cons_of_mem _ m)]
    rfl
theorem all_lay : ∀ {ds : List PyData}, (∀ d ∈ ds, d.canLay0 = true) → PyData.canLayAll0 ds = true
  | [], _ => rfl
  | d :: ds, h => by
    show (PyData.canLay0 d && PyData.canLayAll0 ds) = true
    rw [h d List.mem_cons_self, all_lay fun e m => h e (List.mem_cons_of_mem _ m)]
    rfl
theorem all_dep {k : Nat} : ∀ {ds : List PyData}, (∀ d ∈ ds, d.depth ≤ k) → PyData.depthAll ds ≤ k
  | [], _ => Nat.zero_le _
  | d :: ds, h => by
    show max (PyData.depth d) (PyData.depthAll ds) ≤ k
    exact Nat.max_le.mpr ⟨h d List.mem_cons_self, all_dep fun e m => h e (List.mem_cons_of_mem _ m)⟩
theorem all_blk {n : Nat} : ∀ {ds : List PyData}, (∀ d ∈ ds, d.bulk ≤ n) → PyData.bulkAll ds ≤ ds.length * (n + 1)
  | [], _ => Nat.zero_le _
  | d :: ds, h => by
    show PyData.bulk d + 1 + PyData.bulkAll ds ≤ (ds.length + 1) * (n + 1)
    have h1 := h d List.mem_cons_self
    have h2 := all_blk fun e m => h e (List.mem_cons_of_mem _ m)
    rw [Nat.add_mul]
    omega
theorem Fine.mono {k n k' n' : Nat} {d : PyData} (f : Fine k n d) (h1 : k ≤ k') (h2 : n ≤ n') : Fine k' n' d := ⟨f.leaf, f.vis, f.nod, f.lay, Nat.le_trans f.dep h1, Nat.le_trans f.blk h2⟩
theorem Fine.int {i : Int} (h : i.natAbs < 10 ^ 12) : Fine 0 0 (.int i) := by
  refine ⟨decide_eq_true (PyData.shown_int_le h), decide_eq_true ?_, rfl, rfl, Nat.le_refl _, Nat.le_refl _⟩
  rcases Nat.eq_zero_or_pos i.natAbs with z | z
  · rw [z]
    decide
  · have h2 : i.natAbs < 2 ^ 40 := Nat.lt_of_lt_of_le h (by decide)
    have := (Nat.log2_lt (by omega)).mpr h2
    omega
theorem Fine.bl (b : Bool) : Fine 0 0 (.bool b) := ⟨rfl, rfl, rfl, rfl, Nat.le_refl _, Nat.le_refl _⟩
theorem Fine.tup {k n m : Nat} {ds : List PyData} (h : ∀ d ∈ ds, Fine k n d) (hm : ds.length ≤ m) : Fine (k + 1) (m * (n + 1)) (.tuple ds) :=
  ⟨all_leaf fun d m => (h d m).leaf, all_vis fun d m => (h d m).vis, all_nod fun d m => (h d m).nod, all_lay fun d m => (h d m).lay, Nat.succ_le_succ (all_dep fun d m => (h d m).dep), Nat.le_trans (all_blk fun d m => (h d m).blk) (Nat.mul_le_mul_right _ hm)⟩
theorem Fine.lst {k n m : Nat} {ds : List PyData} (h : ∀ d ∈ ds, Fine k n d) (hm : ds.length ≤ m) : Fine (k + 1) (m * (n + 1)) (.list ds) :=
  ⟨all_leaf fun d m => (h d m).leaf, all_vis fun d m => (h d m).vis, all_nod fun d m => (h d m).nod, all_lay fun d m => (h d m).lay, Nat.succ_le_succ (all_dep fun d m => (h d m).dep), Nat.le_trans (all_blk fun d m => (h d m).blk) (Nat.mul_le_mul_right _ hm)⟩
theorem Fine.fits {k n : Nat} {d : PyData} (f : Fine k n d) (h : n ≤ 2 ^ 20) : d.shown.length ≤ sizeLine := PyData.shown_fits_bulk (B := 13) (by decide) (by decide) f.leaf (Nat.le_trans f.blk h)
theorem Fine.shaped {k n : Nat} {d : PyData} (f : Fine k n d) (h : k ≤ 64) : SeqAt.shaped d = true := by
  unfold SeqAt.shaped
  rw [f.lay, Bool.true_and]
  exact decide_eq_true (Nat.le_trans f.dep h)

/-! ### rules with the written part named (within a comprehension) -/
theorem pg_tupK {X : Cx} {K : PySem.W.Frag} {es : List Expr} {k n : Nat} {pos : Pos} {t : TGs} (hc : X.calm = true) (h : PGs X es t) (hK : X.K = K := by rfl) (hn : (assignEach es X.env).length = n := by rfl) (hs : (assignEach es X.env).findIdx? (·.1) = none := by rfl) :
    PG X (.Tuple es k pos) (gTup K n t) := hK ▸ pg_tup hc h hn hs
theorem op_ltK {X : Cx} {K : PySem.W.Frag} (hu : X.A.units < cLine) (hK : X.K = K := by rfl) : OpR X (compareOp .Lt) (rLtT K) := hK ▸ op_ltT hu
theorem ix_tupK {X : Cx} {K : PySem.W.Frag} (hK : X.K = K := by rfl) : IxR X (rIxT K) := hK ▸ ix_tup
theorem ix_listK {X : Cx} {K : PySem.W.Frag} (hK : X.K = K := by rfl) : IxR X (rIxL K) := hK ▸ ix_list

/-- a comprehension's block within another's: it captures nothing -/
theorem blk_any {N : List Str} {sc scope : Scope} {own : List (Str × Nat)} (sc0 : Scope) (h : BlkOk N sc0 scope own) (nf : (scope.names.all fun y => decide (y.2 ≠ .free)) = true) : BlkOk N sc scope own :=
  ⟨h.kind, h.uniq, h.ix, fun y hy e => absurd e (of_decide_eq_true (List.all_eq_true.mp nf y hy)), h.own⟩
section
variable {X : Cx}
theorem sw_dict {kx vx : Expr} {gs : List Comprehension} {scope : Scope} {pos py : Pos} {y : Str} {l : Nat} {env : Env} (hk : env.scope.kind = .function) (hy : env.scope.names.lookup y = some .local) (hl : (py.line == pos.line) = true)
    (ha : (scope.names.any fun (n, k) => n == y && (k == .local || k == .cell)) = false) : swapsWith (.DictComp kx vx gs scope pos) (some (.Name y py)) l env = pure true := by
  have k1 : env.kindOf y = some .local := hy
  have k2 : env.blockKind = .function := by
    unfold Env.blockKind
    rw [hk]
    rfl
  unfold swapsWith
  simp only [k1, k2, ha, Expr.pos, hl]
  rfl
/-- name = {k: v for ..}, the name a local -/
theorem ps_setDc {i : Nat} {y : Str} {py : Pos} {kx vx tg iter : Expr} {ifs : List Expr} {scope : Scope} {own : List (Str × Nat)} {pos spos : Pos} {wi : TI} {g : TG} {tt : TT} {tk tv : TE} (hc : X.calm = true) (hN : X.N.Nodup) (hy : X.N[i]? = some y) (hyl : X.env.scope.names.lookup y = some .local)
    (hsw : swapsWith (.DictComp kx vx [⟨tg, iter, ifs, 0⟩] scope pos) (some (.Name y py)) spos.line X.env = pure true) (hi : PI X tg iter wi) (ok : BlkOk X.N X.env.scope scope own)
    (hg : ∀ (s : Shared) (H : Hp) (C : Addr) (cl : List (Str × Addr)) (fp : List Addr), PG (X.blk s H scope (compEnvC scope cl C X.env) fp) tg g) (ht : ∀ (s : Shared) (H : Hp) (C : Addr) (cl : List (Str × Addr)) (fp : List Addr), PTs (X.blk s H scope (compEnvC scope cl C X.env) fp) ifs tt)
    (hk : ∀ (s : Shared) (H : Hp) (C : Addr) (cl : List (Str × Addr)) (fp : List Addr), PE (X.blk s H scope (compEnvC scope cl C X.env) fp) kx tk)
    (he : ∀ (s : Shared) (H : Hp) (C : Addr) (cl : List (Str × Addr)) (fp : List Addr), PE (X.blk s H scope (compEnvC scope cl C X.env) fp) vx tv) (hs : ∀ x, foldedSetIterable iter X.env x = pure x := by intro _; rfl) :
    PS X (.Assign [.Name y py] (.DictComp kx vx [⟨tg, iter, ifs, 0⟩] scope pos) spos) (tAsg (tDc wi g tt tk tv (own.map (·.2))) (gName i)) := by
  refine ⟨fun pins s σ H D I h => ?_⟩
  have h1 : tDc wi g tt tk tv (own.map (·.2)) σ H (fun x H1 => gName i x σ H1 D.nx) := h
  rw [exec_Assign_Name_used _ _ _ _ hsw]
  refine wpAny_bind (wpAny_standAt (wpAny_bind ?_))
  show wpAny _ X.A (do let _ ← comprehension (.DictComp kx vx [⟨tg, iter, ifs, 0⟩] scope pos) scope X.env (firstIterPos [⟨tg, iter, ifs, 0⟩] pos) newDict false (eval iter X.env) (some (assign (.Name y py) X.env))) _ _ s
  refine wpAny_bind (thn (dc_core (Qf := fun _ s2 => SP X pins D .next s2) hc hN I hi ok hg ht hk he hs h1 fun L C s2 m H2 I2 q hn f => ?_) fun _ s2 hq => wpAny_pure (wpAny_pure hq))
  show wpAny _ _ (assign (.Name y py) X.env (.ref L)) _ _ _
  obtain ⟨f0, f1, f2, f3, f4, f5⟩ := f
  refine wpAny_assign_Name (store_ok2 (v := V.ref L) I2 hN hy (.inl hyl) rfl (fun s3 I3 cell => ?_) (.inr hyl))
  obtain ⟨a, sb, ha⟩ := cell
  have apart : C ≠ a := by
    rcases ha with z | z
    · rw [z]
      exact f1
    · intro e
      exact f4 y a z e.symm
  exact ⟨m, hn.sameBut sb apart, fun h3 sb3 => ⟨_, H2, I3.turned (t' := s3.toks) (fun b o hb e => (sb3.2 b hb).trans e) f0 f1 f3 f4 f5, q⟩⟩
end
/-- t[lo:hi], as one promise -/
def rSlW (K : PySem.W.Frag) : V → Option Int → Option Int → Hp → VK → Prop := fun x lo hi H Q => ∃ a xs, x = .ref a ∧ SqT K H a xs ∧ ∀ b H1, Same H H1 → SqT K H1 b (cutV xs lo hi) → Q (.ref b) H1
theorem sl_tupK {X : Cx} {K : PySem.W.Frag} (hK : X.K = K := by rfl) : SlR X (rSlW K) := by
  subst hK
  intro pins s σ H x v vl vu lo hi sl Q I rx hs pl pu h
  obtain ⟨a, xs, rfl, hx, q⟩ := h
  refine sl_tupA pins s σ H _ v vl vu lo hi sl Q I rx hs pl pu ⟨a, xs, rfl, hx, fun hw => ?_, fun _ p np => q p _ (same_new np) (SqT.of upd_same)⟩
  refine q a H (Same.refl H) ?_
  have e : cutV xs lo hi = xs := by
    unfold cutV
    rw [hw.1, hw.2, List.drop_zero, Nat.sub_zero, List.take_length]
  rw [e]
  exact hx
/-- t + u, as one promise -/
def rCatW (K : PySem.W.Frag) : R2 := fun x y H Q => ∃ a b xs ys, x = .ref a ∧ y = .ref b ∧ SqT K H a xs ∧ SqT K H b ys ∧ xs.length + ys.length ≤ sizeLine ∧ ∀ p H1, Same H H1 → SqT K H1 p (xs ++ ys) → Q (.ref p) H1
theorem op_catK {X : Cx} {K : PySem.W.Frag} (hK : X.K = K := by rfl) : OpR X (binaryOp .Add) (rCatW K) := by
  subst hK
  intro pins s σ H x y v u Q I rx ry h
  obtain ⟨a, b, xs, ys, rfl, rfl, ha, hb, hz, q⟩ := h
  refine op_catA pins s σ H _ _ v u Q I rx ry ⟨a, b, xs, ys, rfl, rfl, ha, hb, hz, fun e => ?_, fun _ e => ?_, fun _ _ p np => q p _ (same_new np) (SqT.of upd_same)⟩
  · subst e
    exact q b H (Same.refl H) hb
  · subst e
    refine q a H (Same.refl H) ?_
    rw [List.append_nil]
    exact ha

/-- tuple(x) -/
def rTup (K : PySem.W.Frag) : List V → Hp → VK → Prop := fun vs H Q => ∃ p ys, vs = [.ref p] ∧ ((SqL K H p ys ∧ ∀ l, H l = none → Q (.ref l) (upd H l (.tup ys))) ∨ (SqT K H p ys ∧ Q (.ref p) H))
theorem call_tupleK {X : Cx} {K : PySem.W.Frag} (hK : X.K = K := by rfl) : CallR X (.type "tuple") (rTup K) := by
  subst hK
  exact call_tuple_of

/-! ### type(x) -/
inductive TyS (K : PySem.W.Frag) (H : Hp) : V → String → Prop
  | int (i : Int) : TyS K H (.int i) "int"
  | bl (b : Bool) : TyS K H (.bl b) "bool"
  | str (x : Str) : TyS K H (.str x) "str"
  | lst {a : Addr} {xs : List V} (e : SqL K H a xs) : TyS K H (.ref a) "list"
  | tup {a : Addr} {xs : List V} (e : SqT K H a xs) : TyS K H (.ref a) "tuple"
theorem call_typeS {X : Cx} : CallR X (.type "type") (fun vs H Q => ∃ x T, vs = [x] ∧ TyS X.K H x T ∧ Q (.ty T) H) := by
  intro pins s σ H vs us Q I r h
  obtain ⟨x, T, rfl, t, q⟩ := h
  obtain ⟨u, rfl, rx⟩ := vals1 r
  have both : s.TypeIs u T ∧ (Value.type T == Value.type "builtin_function_or_method") = false := by
    cases t with
    | int i =>
      obtain ⟨k, rfl⟩ := rx
      exact ⟨typeIs_int s i k, by decide +kernel⟩
    | bl b =>
      cases rx
      exact ⟨PySem.typeIs_bool s b, by decide +kernel⟩
    | str z =>
      obtain ⟨k, rfl⟩ := rx
      exact ⟨typeIs_str s z k, by decide +kernel⟩
    | lst e =>
      cases rx
      obtain ⟨its, _, p, _⟩ := I.list e
      exact ⟨p.isList.typeIs, by decide +kernel⟩
    | tup e =>
      cases rx
      obtain ⟨its, _, p, _⟩ := I.tuple e
      exact ⟨p.typeIs, by decide +kernel⟩
  exact call_type_of both.1 both.2 ⟨.ty T, H, I, rfl, q⟩
end W1

/-! W2: sorted(xs), xs a list of tuples of ints, of any length. -/
namespace W2
open PySem PySem.Spec PyProof.Rows L2

/-- the shape: no texts -/
def nums : Nat → Bool := fun _ => false
/-- the ints behind a key -/
def unKey : Option (List (Int ⊕ List Nat)) → List Int
  | some l => l.map fun x => match x with
    | .inl i => i
    | .inr _ => 0
  | none => []
theorem unKey_inl (ks : List Int) : unKey (some (ks.map Sum.inl)) = ks := by
  show (ks.map Sum.inl).map _ = ks
  rw [List.map_map]
  exact List.map_id'' (fun _ => rfl) ks
theorem items_key : ∀ {ks : List Int} {us : List Value} (i : Nat), IntsAre us ks → PyProof.Rows.tupItems nums i us = some (ks.map Sum.inl) := by
  intro ks us i h
  induction h generalizing i with
  | nil => rfl
  | cons n t r ih =>
    show (if nums i = true then none else (PyProof.Rows.tupItems nums (i + 1) _).map (Sum.inl n :: ·)) = _
    rw [if_neg (show ¬ nums i = true by intro z; cases z), ih]
    rfl
theorem lex_same : ∀ ks ms : List Int, PyProof.Rows.lexLt PyProof.Rows.itemOrd (ks.map Sum.inl) (ms.map Sum.inl) = HT.lexLt ks ms
  | [], [] => rfl
  | [], _ :: _ => rfl
  | _ :: _, [] => rfl
  | x :: ks, y :: ms => by
    show (decide (x < y) || (!decide (y < x) && PyProof.Rows.lexLt PyProof.Rows.itemOrd (ks.map Sum.inl) (ms.map Sum.inl))) = HT.lexLt (x :: ks) (y :: ms)
    rw [lex_same ks ms, HT.lexLt_cons]
    by_cases e : x = y
    · subst e
      simp
    · rw [if_neg e]
      rcases Int.lt_or_gt_of_ne e with c | c
      · simp [c]
      · have c1 : ¬ x < y := by omega
        simp [c, c1]

/-- the address and the ints of a value -/
def back (h : Heap) (v : Value) : Addr × List Int := (match v with
  | .ref a => a
  | _ => 0, unKey (PyProof.Rows.G.tupKeyC h nums v))
def rSortT (K : PySem.W.Frag) : List V → Hp → VK → Prop := fun vs H Q => ∃ (a : Addr) (ts : List (Addr × List Int)), vs = [.ref a] ∧ SqL K H a (ts.map fun p => V.ref p.1) ∧ (∀ p ∈ ts, SqT K H p.1 (p.2.map V.int) ∧ p.2 ≠ []) ∧
  ∀ (us : List (Addr × List Int)) (p : Addr), us.Perm ts → (us.map (·.2)).Pairwise (fun x y => HT.lexLt y x = false) → H p = none → Q (.ref p) (upd H p (.lst (us.map fun q => V.ref q.1)))
theorem refs_vals {ts : List (Addr × List Int)} : ∀ {us : List Value}, Vals (ts.map fun p => V.ref p.1) us → us = ts.map fun p => Value.ref p.1 := by
  induction ts with
  | nil =>
    intro us h
    cases h
    rfl
  | cons p ts ih =>
    intro us h
    cases h with
    | cons r t =>
      cases r
      rw [ih t]
      rfl
theorem vals_refs : ∀ ts : List (Addr × List Int), Vals (ts.map fun p => V.ref p.1) (ts.map fun p => Value.ref p.1)
  | [] => .nil
  | p :: ts => .cons rfl (vals_refs ts)
section
variable {X : Cx}
theorem tup_raw {pins : List (Addr × Obj)} {σ : L2.St} {H : Hp} {s : Shared} {t : Addr} {ks : List Int} (I : Inv X pins σ H s) (h : SqT X.K H t (ks.map V.int)) :
    ∃ o xs n, s.heap.get? t = some o ∧ o.cls = .type "tuple" ∧ o.data = .seq xs n ∧ IntsAre xs.toList ks := by
  obtain ⟨its, rv, ⟨o, ho, hc, n, hd⟩, _⟩ := I.tuple h
  exact ⟨o, its.toArray, n, ho, hc, hd, by simpa using rv.ints⟩
theorem key_raw {h : Heap} {t : Addr} {ks : List Int} {o : Obj} {xs : Array Value} {n : Nat} (ho : h.get? t = some o) (hc : o.cls = .type "tuple") (hd : o.data = .seq xs n) (hi : IntsAre xs.toList ks) : PyProof.Rows.G.tupKeyC h nums (.ref t) = some (ks.map Sum.inl) := by
  unfold PyProof.Rows.G.tupKeyC
  have e1 : PyProof.Rows.G.isTupObj h (.ref t) = true := by
    unfold PyProof.Rows.G.isTupObj
    simp only [ho, hc]
    decide
  rw [if_pos e1]
  show (match h.get? t with
    | some o => match o.data with
      | .seq xs _ => PyProof.Rows.tupItems nums 0 xs.toList
      | _ => none
    | none => none) = _
  rw [ho]
  simp only [hd]
  exact items_key 0 hi
/-- what a sort of the values leaves, told of the tuples -/
theorem sort_back {h : Heap} {ts : List (Addr × List Int)} (raw : ∀ p ∈ ts, PyProof.Rows.G.tupKeyC h nums (.ref p.1) = some (p.2.map Sum.inl)) {xs : Array Keyed} (pm : xs.Perm (pairsOf (ts.map fun p => Value.ref p.1)))
    (srt : SortedToK (PyProof.Rows.G.tupKindC h nums) xs (pairsOf (ts.map fun p => Value.ref p.1)).size) :
    ∃ us : List (Addr × List Int), us.Perm ts ∧ us.map (fun q => Value.ref q.1) = xs.toList.map (·.2) ∧ (us.map (·.2)).Pairwise (fun x y => HT.lexLt y x = false) := by
  have bk : ∀ p ∈ ts, back h (.ref p.1) = p := by
    intro p hp
    show (p.1, unKey (PyProof.Rows.G.tupKeyC h nums (.ref p.1))) = p
    rw [raw p hp, unKey_inl]
  have pml : xs.toList.Perm ((ts.map fun p => Value.ref p.1).zip (ts.map fun p => Value.ref p.1)) := by
    rw [← pairsOf_toList]
    exact pm.toList
  have mem : ∀ p ∈ xs.toList, p.1 = p.2 ∧ ∃ t ∈ ts, p.2 = Value.ref t.1 := by
    intro p hp
    obtain ⟨e, m⟩ := mem_zip_self (pml.mem_iff.mp hp)
    obtain ⟨t, ht, e2⟩ := List.mem_map.mp m
    exact ⟨e, t, ht, by rw [← e, e2]⟩
  refine ⟨xs.toList.map fun p => back h p.2, ?_, ?_, ?_⟩
  · have h1 := pml.map fun p => back h p.2
    have h2 : ((ts.map fun p => Value.ref p.1).zip (ts.map fun p => Value.ref p.1)).map (fun p => back h p.2) = ts := by
      rw [List.zip_eq_zipWith, List.map_zipWith, List.zipWith_map, List.zipWith_self]
      conv => rhs; rw [← List.map_id ts]
      exact List.map_congr_left fun p hp => bk p hp
    rw [h2] at h1
    exact h1
  · rw [List.map_map]
    refine List.map_congr_left fun p hp => ?_
    obtain ⟨_, t, ht, e⟩ := mem p hp
    show Value.ref (back h p.2).1 = p.2
    rw [e, bk t ht]
  · have keys : ∀ i (hi : i < xs.toList.length), KK (PyProof.Rows.G.tupKindC h nums) xs i = (back h xs.toList[i].2).2.map Sum.inl := by
      intro i hi
      have e : xs[i]? = some xs.toList[i] := by rw [← Array.getElem?_toList, List.getElem?_eq_getElem hi]
      obtain ⟨e1, t, ht, e2⟩ := mem _ (List.getElem_mem hi)
      unfold KK
      rw [e]
      show (PyProof.Rows.G.tupKeyC h nums xs.toList[i].1).getD [] = _
      rw [e1, e2, raw t ht, bk t ht]
      rfl
    rw [List.map_map]
    refine List.pairwise_map.mpr (List.pairwise_iff_getElem.mpr fun i j hi hj hij => ?_)
    have hsz : xs.toList.length = (pairsOf (ts.map fun p => Value.ref p.1)).size := by rw [pml.length_eq, ← pairsOf_toList, Array.length_toList]
    have h := srt i j (Nat.le_of_lt hij) (by rw [← hsz]; exact hj)
    rw [keys i hi, keys j hj] at h
    show HT.lexLt (back _ xs.toList[j].2).2 (back _ xs.toList[i].2).2 = false
    rw [← lex_same]
    exact h
theorem firsts_of {h : Heap} {ts : List (Addr × List Int)} (raw : ∀ p ∈ ts, ∃ f, PyProof.Rows.TupOf h nums (.ref p.1) f) : ∃ fs, PyProof.Rows.TupsOf h nums (ts.map fun p => Value.ref p.1) fs := by
  have all : ∀ l : List (Addr × List Int), (∀ p ∈ l, p ∈ ts) → ∃ fs, PyProof.Rows.TupsOf h nums (l.map fun p => Value.ref p.1) fs := by
    intro l
    induction l with
    | nil => intro _; exact ⟨[], .nil⟩
    | cons p l ih =>
      intro hs
      obtain ⟨fs, hfs⟩ := ih fun q hq => hs q (List.mem_cons_of_mem _ hq)
      obtain ⟨f, hf⟩ := raw p (hs p List.mem_cons_self)
      exact ⟨f :: fs, .cons hf hfs⟩
  exact all ts fun _ h => h
/-- a tuple of ints in the heap: its key, its first item -/
theorem raw_of {h : Heap} {t : Addr} {ks : List Int} {o : Obj} {xs : Array Value} {n : Nat} (ho : h.get? t = some o) (hc : o.cls = .type "tuple") (hd : o.data = .seq xs n) (hi : IntsAre xs.toList ks) (hne : ks ≠ []) :
    PyProof.Rows.G.tupKeyC h nums (.ref t) = some (ks.map Sum.inl) ∧ ∃ f, PyProof.Rows.TupOf h nums (.ref t) f := by
  refine ⟨key_raw ho hc hd hi, ?_⟩
  cases hi' : xs.toList with
  | nil =>
    rw [hi'] at hi
    cases hi
    exact absurd rfl hne
  | cons f rest =>
    have hf : xs[0]? = some f := by rw [← Array.getElem?_toList, hi']; rfl
    refine ⟨f, t, o, xs, n, rfl, ho, hc, hd, hf, fun _ => ?_, fun z => by cases z⟩
    rw [hi'] at hi
    cases hi with
    | cons n t r => exact ⟨_, _, rfl⟩
theorem cr_sortT : CallR X (.builtin "sorted") (rSortT X.K) := by
  intro pins s σ H vs us Q I r h
  obtain ⟨a, ts, rfl, hl, ht, q⟩ := h
  rw [Vals.ref1 r]
  obtain ⟨its, rv, pl, hz⟩ := I.list hl
  have eits := refs_vals rv
  have raw : ∀ p ∈ ts, PyProof.Rows.G.tupKeyC s.heap nums (.ref p.1) = some (p.2.map Sum.inl) ∧ ∃ f, PyProof.Rows.TupOf s.heap nums (.ref p.1) f := by
    intro p hp
    obtain ⟨o, xs, n, ho, hc, hd, hi⟩ := tup_raw I (ht p hp).1
    exact raw_of ho hc hd hi (ht p hp).2
  obtain ⟨fs, hfs⟩ := firsts_of fun p hp => (raw p hp).2
  subst eits
  refine PyProof.Rows.G.sorted_tups (fs := fs) pl.isList hfs (fun v hv => ?_) (by rw [← rv.length]; exact hz) fun st pm srt stb => ?_
  · obtain ⟨p, hp, rfl⟩ := List.mem_map.mp hv
    exact ⟨_, (raw p hp).1⟩
  · generalize arrOf st = xs at pm srt stb
    obtain ⟨us, pmu, vals, srt'⟩ := sort_back (fun p hp => (raw p hp).1) pm srt
    obtain ⟨ep, he'⟩ := sortedAll_at s.heap (ts.map fun p => Value.ref p.1) (xs.map (·.2))
    have hlen : (us.map fun q => V.ref q.1).length ≤ sizeLine := by
      rw [List.length_map, pmu.length_eq, ← List.length_map (as := ts) (f := fun p => V.ref p.1)]
      exact hz
    have hv : Vals (us.map fun q => V.ref q.1) (xs.map (·.2)).toList := by
      rw [Array.toList_map, ← vals]
      exact vals_refs us
    have hd : (sortedAll s.heap (ts.map fun p => Value.ref p.1) (xs.map (·.2))).get? (s.heap.objs.size + 1) = some { cls := .type "list", data := .seq (xs.map (·.2)).toList.toArray ep } := by
      rw [Array.toArray_toList]
      exact he'
    exact ⟨.ref _, upd H (s.heap.objs.size + 1) (.lst (us.map fun q => V.ref q.1)), I.laid (t' := s.toks) (fun _ _ => sortedAll_old) (Nat.le_succ _) ⟨hlen, _, ep, hv, hd⟩, rfl, q us _ pmu srt' (I.hok.fresh (Nat.le_succ _))⟩
theorem cr_sortTK {K : PySem.W.Frag} (hK : X.K = K := by rfl) : CallR X (.builtin "sorted") (rSortT K) := hK ▸ cr_sortT
end
end W2

/-! W3: sets of tuples of ints with up to seventy-six members; sets of ints from lists and tuples. -/
namespace W3
open PySem PySem.Spec PyProof.Rows L2 W2

/-- the table at a holds the tuples L (their addresses, their ints) -/
structure Held (P : Program) (w : World) (h : Heap) (a : Addr) (L : List (Addr × List Int)) (es : Array (Int × Value)) (ep : Nat) (t : SetTable) : Prop where
  obj : ∃ o, h.get? a = some o ∧ o.ExactSet ∧ o.data = .set es ep t
  rows : es.toList = rowsOf P w L
  tab : TabOk t (L.map fun p => thash P w p.2)
  uniq : (L.map (·.2)).Nodup
  plain : t.plain = true
  led : w.params.followText "set-order" = true ∨ t.led = true
  room : L.length * 5 < t.mask * 3

section
variable {P : Program} {w : World} {A : Around} {E : Value → Shared → Prop} {s : Shared} {a : Addr} {L : List (Addr × List Int)} {es : Array (Int × Value)} {ep : Nat} {t : SetTable}
theorem Held.few (R : Held P w s.heap a L es ep t) (tup : ∀ p ∈ L, IsT P w s.heap p.2 p.1) (h : L.length < 64) : SetTR P w s.heap a L es ep t := ⟨R.obj, R.rows, R.tab, R.uniq, tup, R.plain, R.led, R.room, h⟩
theorem Held.of {h : Heap} (R : SetTR P w h a L es ep t) : Held P w h a L es ep t := ⟨R.ob, R.rows, R.tab, R.nd, R.plain, R.led, R.room⟩
theorem Held.many {h : Heap} (R : Held P w h a L es ep t) : es.size = L.length := by
  have e := congrArg List.length R.rows
  rw [Array.length_toList] at e
  rw [e]
  exact List.length_map _
theorem Held.most {h : Heap} (R : Held P w h a L es ep t) : L.length ≤ 76 := by
  have r := R.room
  rcases R.tab.mok with e | e | e <;> rw [e] at r <;> omega
theorem Held.fits {h : Heap} (R : Held P w h a L es ep t) : t.fits es.size = true := by
  have n1 : t.place.size = es.size := by
    rw [R.many, R.tab.sz]
    exact List.length_map _
  have n2 : es.size ≤ t.mask := by
    have r := R.room
    rw [R.many]
    omega
  show (t.place.size == es.size && decide (t.place.size + t.dummies.size ≤ t.mask)) = true
  rw [R.tab.dm, n1]
  simpa using n2
theorem Held.row {h : Heap} (R : Held P w h a L es ep t) {i : Nat} {p : Addr × List Int} (e : L[i]? = some p) : es[i]? = some (thash P w p.2, Value.ref p.1) := by
  have q : (rowsOf P w L)[i]? = some (thash P w p.2, Value.ref p.1) := by
    show (L.map _)[i]? = _
    rw [List.getElem?_map, e]
    rfl
  rw [← R.rows, Array.getElem?_toList] at q
  exact q
theorem Held.placed {h : Heap} (R : Held P w h a L es ep t) : t.place.toList.length = L.length := by
  rw [Array.length_toList, R.tab.sz]
  exact List.length_map _

/-- the state of the probe after c steps -/
abbrev probeAt (t : SetTable) (h : Int) (c : Nat) : SetTable.Probe := nth t.mask (runAt t.mask (SetTable.bits h % (t.mask + 1)) (SetTable.bits h)) c
theorem undummied (t : SetTable) (h : Int) : ∀ c, (probeAt t h c).dummy = none := by
  have step : ∀ p : SetTable.Probe, p.dummy = none → (adv t.mask p).dummy = none := by
    intro p hp
    unfold adv
    split <;> exact hp
  have all : ∀ (c : Nat) (p : SetTable.Probe), p.dummy = none → (nth t.mask p c).dummy = none := by
    intro c
    induction c with
    | zero => exact fun p hp => hp
    | succ c ih => exact fun p hp => ih _ (step p hp)
  exact fun c => all c _ rfl
theorem probe_on (t : SetTable) (h : Int) (c q : Nat) : nth t.mask (probeAt t h c) q = probeAt t h (c + q) := (nth_add t.mask c _ q).symm

/-- from the c-th step on: the first row of that hash, or the empty slot -/
theorem probe_from {h : Heap} (R : Held P w h a L es ep t) (hs : Int) {K c : Nat} (hK : K < 10 * SetTable.turns t.mask) (empty : way t.mask hs K ∉ t.place.toList) (full : ∀ k, k < K → way t.mask hs k ∈ t.place.toList) (hc : c ≤ K) :
    (∃ (q i : Nat) (p : Addr × List Int), c ≤ q ∧ q < K ∧ L[i]? = some p ∧ thash P w p.2 = hs ∧ t.place.toList[i]? = some (way t.mask hs q) ∧ (∀ (q' i' : Nat) (p' : Addr × List Int), c ≤ q' → q' < q → t.place.toList[i']? = some (way t.mask hs q') → L[i']? = some p' → thash P w p'.2 ≠ hs) ∧
        t.probe (fun i => (es[i]?.map (·.1)).getD 0) hs (probeAt t hs c) = some (.candidate (way t.mask hs q) i (probeAt t hs (q + 1)))) ∨
      ((∀ (q' i' : Nat) (p' : Addr × List Int), c ≤ q' → q' < K → t.place.toList[i']? = some (way t.mask hs q') → L[i']? = some p' → thash P w p'.2 ≠ hs) ∧ t.probe (fun i => (es[i]?.map (·.1)).getD 0) hs (probeAt t hs c) = some (.empty (way t.mask hs K) none)) := by
  have at' : ∀ q, (nth t.mask (probeAt t hs c) q).j = way t.mask hs (c + q) := fun q => by rw [probe_on]
  have hashOf : ∀ {i : Nat} {p : Addr × List Int}, L[i]? = some p → (fun i => (es[i]?.map (·.1)).getD 0) i = thash P w p.2 := by
    intro i p e
    show (es[i]?.map (·.1)).getD 0 = _
    rw [R.row e]
    rfl
  have found := go_spec t R.tab.ris R.tab.dm (fun i => (es[i]?.map (·.1)).getD 0) hs (10 * SetTable.turns t.mask) (K - c) (probeAt t hs c) (undummied t hs c) (by omega)
    (fun q hq => by rw [at']; exact full _ (by omega)) (by rw [at', Nat.add_sub_cancel' hc]; exact empty)
  rcases found with ⟨q, i, hq, hi, hh, first, met⟩ | ⟨none', met⟩
  · left
    rw [at'] at hi met
    have il : i < L.length := by
      rw [← R.placed]
      exact (List.getElem?_eq_some_iff.mp hi).1
    have ei : L[i]? = some L[i] := List.getElem?_eq_getElem il
    refine ⟨c + q, i, L[i], by omega, by omega, ei, (hashOf ei).symm.trans hh, hi, fun q' i' p' h1 h2 h3 h4 => ?_, ?_⟩
    · intro z
      refine first (q' - c) i' (by omega) ?_ ((hashOf h4).trans z)
      rw [at', Nat.add_sub_cancel' h1]
      exact h3
    · rw [probe_on] at met
      exact met
  · right
    refine ⟨fun q' i' p' h1 h2 h3 h4 z => ?_, ?_⟩
    · refine none' (q' - c) i' (by omega) ?_ ((hashOf h4).trans z)
      rw [at', Nat.add_sub_cancel' h1]
      exact h3
    · rw [at', Nat.add_sub_cancel' hc] at met
      exact met

/-- the search of a tuple that is to be added -/
theorem search3 (R : Held P w s.heap a L es ep t) (tup : ∀ p ∈ L, IsT P w s.heap p.2 p.1) {x : Addr} {k : List Int} (hx : IsT P w s.heap k x) (hu : A.units < cLine) {Q : SetFound → Shared → Prop}
    (isin : k ∈ L.map (·.2) → Q (.there none) s)
    (out : ∀ K, k ∉ L.map (·.2) → way t.mask (thash P w k) K ∉ t.place.toList → (∀ c, c < K → way t.mask (thash P w k) c ∈ t.place.toList) → Q (.free (way t.mask (thash P w k) K) false) s) :
    wpAny (model P w) A (setSearch a (.ref x) (thash P w k) true) Q E s := by
  have room := R.room
  obtain ⟨K, hK, empty, full⟩ := R.tab.first (h := thash P w k) (by rw [List.length_map]; omega)
  have hK' : K < 2000 := by
    have e : 10 * SetTable.turns t.mask ≤ 1420 := by
      unfold SetTable.turns
      rcases R.tab.mok with e | e | e <;> omega
    omega
  obtain ⟨o, ho, _, hd⟩ := R.obj
  have main : ∀ (f c : Nat) (stand : Option SetTable.Probe), stand.getD (t.probeStart (thash P w k)) = probeAt t (thash P w k) c → c ≤ K → K - c < f →
      (∀ (i : Nat) p, L[i]? = some p → p.2 = k → ∃ q, c ≤ q ∧ q < K ∧ t.place.toList[i]? = some (way t.mask (thash P w k) q)) → wpAny (model P w) A (setSearchFrom a (.ref x) (thash P w k) true f stand) Q E s := by
    intro f
    induction f with
    | zero => exact fun _ _ _ _ z => (Nat.not_lt_zero _ z).elim
    | succ f ih =>
      intro c stand hst hc hf ahead
      rw [setSearchFrom_succ]
      refine wpAny_bind (wpAny_setState_of ho hd R.fits ?_)
      dsimp only
      have standing : ¬ t.gaveWay = true := by
        intro z
        unfold SetTable.gaveWay at z
        rw [mask_odd R.tab.mok] at z
        exact absurd z (by decide)
      refine wp_if_neg standing ?_
      try refine wpAny_bind (wpAny_pure ?_)
      rw [hst]
      rcases probe_from R (thash P w k) hK empty full hc with ⟨q, i, p, h1, h2, hp, hh, hi, first, met⟩ | ⟨none', met⟩
      · rw [met]
        dsimp only
        have pm : p ∈ L := List.mem_of_getElem? hp
        have rest : wpAny (model P w) A (searchRest a (.ref x) (thash P w k) true f es t (way t.mask (thash P w k) q) i (probeAt t (thash P w k) (q + 1))) Q E s := by
          unfold searchRest
          rw [R.row hp]
          dsimp only
          refine wpAny_bind (wpAny_holding (wpAny_eqBool_tuple hu (tup p pm) hx ?_))
          refine wpAny_bind (wpAny_setState_of ho hd R.fits ?_)
          dsimp only
          by_cases same : p.2 = k
          · refine wp_if_pos (by rw [decide_eq_true same]; rfl) ?_
            exact wpAny_pure (isin (List.mem_map.mpr ⟨p, pm, same⟩))
          · refine wp_if_neg (by rw [decide_eq_false same]; decide) ?_
            try refine wpAny_bind (wpAny_pure ?_)
            rw [sameMem]
            dsimp only
            have live : t.slot (way t.mask (thash P w k) q) = .live i := slot_live R.tab.ris hi
            simp only [if_true, live, R.row hp]
            refine wpAny_bind (wpAny_isSame_ref_self (wpAny_bind (wpAny_pure ?_)))
            simp only [if_true]
            refine wp_if_neg (by rw [decide_eq_false same]; decide) ?_
            refine ih (q + 1) _ rfl h2 (by omega) fun j r hj hr => ?_
            obtain ⟨q', a1, a2, a3⟩ := ahead j r hj hr
            refine ⟨q', ?_, a2, a3⟩
            rcases Nat.lt_trichotomy q' q with z | z | z
            · exact absurd (by rw [hr]) (first q' j r a1 z a3 hj)
            · subst z
              have l2 := slot_live R.tab.ris a3
              rw [live] at l2
              injection l2 with l2
              rw [← l2, hp] at hj
              cases hj
              exact absurd hr same
            · exact z
        by_cases led : t.led = true
        · refine wp_if_neg (by rw [led]; decide) ?_
          try refine wpAny_bind (wpAny_pure ?_)
          exact rest
        · refine wp_if_pos (by cases z : t.led with
            | true => exact absurd z led
            | false => rfl) ?_
          refine wpAny_bind (seen_tup hx (fun y hy => ?_) ?_)
          · obtain ⟨e, he, rfl⟩ := List.mem_map.mp hy
            have he1 : e ∈ es.toList := by
              have he2 : e ∈ es ∧ e.1 = thash P w k := by simpa using he
              simpa using he2.1
            rw [R.rows] at he1
            obtain ⟨r, hr, rfl⟩ := List.mem_map.mp he1
            exact ⟨r.2, r.1, rfl, tup r hr⟩
          · refine wp_if_neg Bool.false_ne_true ?_
            try refine wpAny_bind (wpAny_pure ?_)
            exact rest
      · rw [met]
        dsimp only
        refine wpAny_pure (out K (fun m => ?_) empty full)
        obtain ⟨p, pm, e⟩ := List.mem_map.mp m
        obtain ⟨i, il, ei⟩ := List.getElem_of_mem pm
        have hp : L[i]? = some p := by rw [List.getElem?_eq_getElem il, ei]
        obtain ⟨q, a1, a2, a3⟩ := ahead i p hp e
        exact none' q i p a1 a2 a3 hp (by rw [e])
  unfold setSearch
  refine main 100000 0 none rfl (Nat.zero_le _) (by omega) fun i p hp e => ?_
  have il : i < t.place.toList.length := by
    rw [R.placed]
    exact (List.getElem?_eq_some_iff.mp hp).1
  obtain ⟨q, hq, e2⟩ := R.tab.before empty (i := i) (h := thash P w k) (j := t.place.toList[i]) (by rw [List.getElem?_map, hp, ← e]; rfl) (List.getElem?_eq_getElem il)
  exact ⟨q, Nat.zero_le _, hq, by rw [List.getElem?_eq_getElem il, e2]⟩

/-- a tuple added where the table needn't grow any more -/
theorem add_late (R : Held P w s.heap a L es ep t) (tup : ∀ p ∈ L, IsT P w s.heap p.2 p.1) {x : Addr} {k : List Int} (hx : IsT P w s.heap k x) (hu : A.units < cLine) (many : 63 ≤ L.length) (less : L.length < 76) {Q : Bool → Shared → Prop}
    (hQ : ∀ b h' L' es' ep' t', Heap.SameBut a s.heap h' → Held P w h' a L' es' ep' t' → (k ∈ L.map (·.2) → L' = L) → (k ∉ L.map (·.2) → L'.Perm ((x, k) :: L)) → Q b { s with heap := h' }) :
    wpAny (model P w) A (setAddHashed a (.ref x) (thash P w k)) Q E s := by
  obtain ⟨o, ho, exact', hd⟩ := R.obj
  have big : t.mask = 127 := by
    have r := R.room
    rcases R.tab.mok with e | e | e
    · rw [e] at r
      omega
    · rw [e] at r
      omega
    · exact e
  unfold setAddHashed
  refine wpAny_holding ?_
  rw [show (100000 : Nat) = 99999 + 1 from rfl, setAddHashedIn_succ]
  refine wpAny_bind (wpAny_setState_of ho hd R.fits ?_)
  dsimp only
  refine wp_if_neg (by simp [byScan, Value.scannable]) ?_
  try refine wpAny_bind (wpAny_pure ?_)
  refine wpAny_bind (search3 R tup hx hu (fun isin => ?_) fun K new empty full => ?_)
  · dsimp only
    exact wpAny_pure (hQ false s.heap L es ep t (Heap.SameBut.refl a s.heap) R (fun _ => rfl) fun z => absurd isin z)
  · dsimp only
    refine wpAny_bind (wpAny_setState_of ho hd R.fits ?_)
    dsimp only
    have put := R.tab.put empty full
    generalize t.put (way t.mask (thash P w k) K) = two at put ⊢
    obtain ⟨t1, p⟩ := two
    dsimp only at put ⊢
    obtain ⟨ep1, _, tab1, mask1, led1, plain1, _, _, fill1⟩ := put
    rw [← ep1] at tab1
    have pl : t1.plain = true := plain1.trans R.plain
    first
      | (refine wpAny_bind ?_; refine wp_if_pos pl ?_; refine hashBy_tup hx ?_)
      | refine wp_if_pos pl (wpAny_bind (hashBy_tup hx ?_))
    simp only [if_true]
    have perm := put_perm L p (x, k)
    have rows1 : (SetTable.insertAt es p (thash P w k, Value.ref x)).toList = rowsOf P w (L.take p ++ (x, k) :: L.drop p) := by
      rw [SetTable.toList_insertAt, rows_put, R.rows]
    have hashes : (L.take p ++ (x, k) :: L.drop p).map (fun q => thash P w q.2) = (L.map fun q => thash P w q.2).take p ++ thash P w k :: (L.map fun q => thash P w q.2).drop p := by
      rw [List.map_append, List.map_cons, List.map_take, List.map_drop]
    rw [← hashes] at tab1
    have len1 := perm.length_eq
    have uniq1 : ((L.take p ++ (x, k) :: L.drop p).map (·.2)).Nodup := (perm.map (·.2)).nodup_iff.mpr (List.nodup_cons.mpr ⟨new, R.uniq⟩)
    generalize L.take p ++ (x, k) :: L.drop p = L1 at perm rows1 tab1 len1 uniq1
    rw [List.length_cons] at len1
    have size1 : (SetTable.insertAt es p (thash P w k, Value.ref x)).size = L.length + 1 := by
      have e := congrArg List.length rows1
      rw [Array.length_toList] at e
      rw [e, ← len1]
      exact List.length_map _
    generalize SetTable.insertAt es p (thash P w k, Value.ref x) = es1 at rows1 size1 ⊢
    refine wpAny_bind (wpAny_storeSet_of ho hd ?_ (by rw [size1, sizeLine_eq]; omega))
    have sb : Heap.SameBut a s.heap (s.heap.update a (Obj.putSet es1 t1)) := Heap.SameBut.update ..
    have ho1 := store_at (es' := es1) (t' := t1) ho hd
    have calm : ¬ t1.tooFull = true := by
      intro z
      unfold SetTable.tooFull at z
      rw [decide_eq_true_eq, fill1, List.length_map, mask1, big] at z
      omega
    have fin : Q true { s with heap := s.heap.update a (Obj.putSet es1 t1) } := by
      refine hQ true _ L1 es1 (ep + 1) t1 sb ⟨⟨_, ho1, ⟨exact'.1, exact'.2.1, exact'.2.2⟩, rfl⟩, rows1, tab1, uniq1, pl, by rw [led1]; exact R.led, by rw [len1, mask1, big]; omega⟩ (fun z => absurd z new) fun _ => perm
    first
      | exact wp_if_neg (by simp [calm]) (wpAny_pure fin)
      | exact wpAny_bind (wp_if_neg (by simp [calm]) (wpAny_pure (wpAny_pure fin)))
      | exact wp_if_neg (by simp [calm]) (wpAny_bind (wpAny_pure (wpAny_pure fin)))
/-- adding a tuple -/
theorem add3 (R : Held P w s.heap a L es ep t) (tup : ∀ p ∈ L, IsT P w s.heap p.2 p.1) {x : Addr} {k : List Int} (hx : IsT P w s.heap k x) (hu : A.units < cLine) (less : L.length < 76) {Q : Bool → Shared → Prop}
    (hQ : ∀ b h' L' es' ep' t', Heap.SameBut a s.heap h' → Held P w h' a L' es' ep' t' → (k ∈ L.map (·.2) → L' = L) → (k ∉ L.map (·.2) → L'.Perm ((x, k) :: L)) → Q b { s with heap := h' }) :
    wpAny (model P w) A (setAddHashed a (.ref x) (thash P w k)) Q E s := by
  by_cases c : L.length + 1 < 64
  · exact add_at (R.few tup (by omega)) hx hu c fun b h' L' es' ep' t' sb r => hQ b h' L' es' ep' t' sb (Held.of r)
  · exact add_late R tup hx hu (by omega) less hQ
end
end W3

/-! W4: set(xs) of a list, whatever is added; sorted of such sets; the set comprehension. -/
namespace W4
open PySem PySem.Spec PyProof.Rows L2 W1 W2 W3

section
variable {P : Program} {w : World} {A : Around} {E : Value → Shared → Prop} {s : Shared}
/-- set.update's loop, by an invariant of the set at S -/
theorem update_by {I S : Addr} {fp wr : List Addr} {G : Array GenState → Array GenState → Prop} {n : Nat} {Pv : Nat → Value → Prop} {St : Nat → Shared → Prop} {R : Result → Shared → Prop} {old : Heap}
    (W : WalksS P w A.in1 I fp wr G n Pv St) (far : S ∉ fp) (newS : old.get? S = none) (newW : ∀ b ∈ wr, old.get? b = none) (J : Nat → Heap → Prop)
    (stay : ∀ i h h', J i h → (∀ o, h.get? S = some o → h'.get? S = some o) → (∀ b o, old.get? b = some o → h'.get? b = some o) → J i h')
    (add : ∀ i v (s : Shared) (Q : Bool → Shared → Prop) (E : Value → Shared → Prop), i < n → Pv i v → J i s.heap → (∀ b o, old.get? b = some o → s.heap.get? b = some o) →
      (∀ b h' tk, s.toks ≤ tk → Heap.SameBut S s.heap h' → J (i + 1) h' → Q b { s with heap := h', toks := tk }) → wpAny (model P w) A.in1 (setAdd S v) Q E s) :
    ∀ (left i : Nat) (s : Shared), i + left = n → St i s → (∀ b o, old.get? b = some o → s.heap.get? b = some o) → J i s.heap →
      (∀ s', Moved (S :: wr) G s s' → J n s'.heap → (∀ b o, old.get? b = some o → s'.heap.get? b = some o) → R (.ok (.ret .none)) s') →
      codeAny (model P w) A (.builtin "set.update.loop" ⟨[.ref S, .ref I], []⟩) R s := by
  have notW : S ∉ wr := fun z => far (W.sub S z)
  have wider : ∀ b ∈ wr, b ∈ S :: wr := fun b z => List.mem_cons_of_mem S z
  have later : ∀ {s1 s2 : Shared}, Moved wr G s1 s2 → (∀ b o, old.get? b = some o → s1.heap.get? b = some o) → ∀ b o, old.get? b = some o → s2.heap.get? b = some o := by
    intro s1 s2 m k b o e
    refine m.heap b o (fun z => ?_) (k b o e)
    rw [newW b z] at e
    cases e
  intro left
  induction left with
  | zero =>
    intro i s hi hst keep hJ hR
    obtain rfl : i = n := hi
    refine codeAny_builtin F.entry_set_update_loop ?_
    rw [Around.under_plainId F.plain_set_update_loop _]
    show wpAny _ A.in1 (pyNext (.ref I) >>= _) _ _ s
    refine wpAny_bind (W.done s _ _ hst fun s1 m => ?_)
    exact wpAny_pure (hR s1 (m.mono wider) (stay _ _ _ hJ (fun o e => m.heap S o notW e) (later m keep)) (later m keep))
  | succ left ih =>
    intro i s hi hst keep hJ hR
    refine codeAny_builtin F.entry_set_update_loop ?_
    rw [Around.under_plainId F.plain_set_update_loop _]
    show wpAny _ A.in1 (pyNext (.ref I) >>= _) _ _ s
    refine wpAny_bind (W.item i s _ _ (by omega) hst fun v s1 hv hst1 m => ?_)
    have keep1 := later m keep
    have J1 := stay _ _ _ hJ (fun o e => m.heap S o notW e) keep1
    show wpAny _ A.in1 (holding [v] (setAdd S v) >>= _) _ _ s1
    refine wpAny_bind (wpAny_holding (add i v s1 _ _ (by omega) hv J1 keep1 fun b h2 tk htk sb J2 => ?_))
    have keep2 : ∀ b o, old.get? b = some o → h2.get? b = some o := by
      intro b o e
      refine (sb.2 b ?_).trans (keep1 b o e)
      rintro rfl
      rw [newS] at e
      cases e
    refine wpAny_pure ⟨plainId_quiet F.plain_set_update_loop _, ih (i + 1) _ (by omega) (W.frame _ s1 h2 tk hst1 htk fun b hb o e => ?_) keep2 J2 fun s3 m3 J3 keep3 => ?_⟩
    · refine (sb.2 b ?_).trans e
      rintro rfl
      exact far hb
    · refine hR s3 (Moved.trans W.gtrans ((m.mono wider).then_heap htk fun b o hb e => ?_) m3) J3 keep3
      refine (sb.2 b ?_).trans e
      rintro rfl
      exact hb List.mem_cons_self

/-- a fresh set's object -/
abbrev bare (w : World) : Obj := { cls := .type "set", dict := none, data := .set #[] 0 (.fresh 0 0 (!w.params.followText "set-order")) }
set_option maxHeartbeats 3200000 in
/-- set(xs), xs a list -/
theorem set_of_list {l : Addr} {items : Array Value} {Q : Value → Shared → Prop} (calm : A.handled = none) (hl : s.heap.IsList l items) (J : Nat → Heap → Prop)
    (begin : ∀ h, h.get? s.heap.objs.size = some (bare w) → (∀ b o, s.heap.get? b = some o → h.get? b = some o) → J 0 h)
    (stay : ∀ i h h', J i h → (∀ o, h.get? s.heap.objs.size = some o → h'.get? s.heap.objs.size = some o) → (∀ b o, s.heap.get? b = some o → h'.get? b = some o) → J i h')
    (add : ∀ i v (s1 : Shared) (R : Bool → Shared → Prop) (E : Value → Shared → Prop), i < items.size → items[i]? = some v → J i s1.heap → (∀ b o, s.heap.get? b = some o → s1.heap.get? b = some o) →
      (∀ b h' tk, s1.toks ≤ tk → Heap.SameBut s.heap.objs.size s1.heap h' → J (i + 1) h' → R b { s1 with heap := h', toks := tk }) → wpAny (model P w) A.in1.in1.in1 (setAdd s.heap.objs.size v) R E s1)
    (fin : ∀ (h : Heap) (tk : Nat), J items.size h → (∀ b o, s.heap.get? b = some o → h.get? b = some o) → Q (.ref s.heap.objs.size) { s with heap := h, toks := tk }) :
    wpAny (model P w) A (call (.type "set") [.ref l]) Q E s := by
  obtain ⟨c, tl, hmro⟩ := F.called_set.mro
  have made := F.called_set.made
  have sub := F.called_set.sub
  have isNot := F.called_set.notType
  have can := F.called_set.canCreate
  have tcall := F.typeCall_set_1 (.ref l)
  have none_at : ∀ b, s.heap.objs.size ≤ b → s.heap.get? b = none := fun b hb => Heap.get?_none_of_le hb
  refine wpAny_call (codeAny_of_tree ?_)
  show wpAny _ _ (callAny (.type "set") _) _ _ _
  refine wpAny_pure ⟨Code.quiet_builtin _ (by decide +kernel), codeAny_builtin F.entry_type_call ?_⟩
  rw [Around.under_plain (weight_type_call_type "set" [.ref l] []) rfl]
  repeat (any_goals (first | assumption | wp_step))
  refine codeAny_mono (code_set_led1 (.ref l) (E := E) (Q₁ := fun u s1 => u = .ref s.heap.objs.size ∧ s1 = { s with heap := s.heap.push (bare w) }) ⟨rfl, rfl⟩) fun r s1 hr => ?_
  match r, hr with
  | .error _, hr => exact hr
  | .ok .next, hr => exact hr.elim
  | .ok .brk, hr => exact hr.elim
  | .ok .cont, hr => exact hr.elim
  | .ok (.ret u), hr =>
    obtain ⟨rfl, rfl⟩ := hr
    have there : (s.heap.push (bare w)).get? s.heap.objs.size = some (bare w) := Heap.get?_push_size _ rfl
    have isSet : Shared.TypeIs { s with heap := s.heap.push (bare w) } (.ref s.heap.objs.size) "set" := ⟨_, there, rfl⟩
    have ilook := F.called_set.init.lookup
    have ibind := F.called_set.init.bind (.ref s.heap.objs.size)
    repeat (any_goals (first | assumption | wp_step))
    refine codeAny_mono (codeAny_call_builtin (R := wants (fun r s2 => r = .none ∧ ∃ h tk, s2 = { s with heap := h, toks := tk } ∧ J items.size h ∧ ∀ b o, s.heap.get? b = some o → h.get? b = some o) E) F.called_set.init.plain F.entry_set_init (check_set_init_1 isSet ?_)) fun r2 s2 hr2 => ?_
    · obtain ⟨⟨ocls, odict, odata, oslots⟩, hol, hcl, nl, hdl⟩ := hl
      simp only at hcl hdl
      subst hcl
      subst hdl
      have lt : l < s.heap.objs.size := Heap.lt_size hol
      have hol1 : (s.heap.push (bare w)).get? l = some { cls := .type "list", dict := odict, data := .seq items nl, slots := oslots } := Heap.get?_push_of_some _ hol
      have isList : (s.heap.push (bare w)).IsList l items := ⟨_, hol1, rfl, nl, rfl⟩
      have s1 := F.sub_list_set
      have s2 := F.sub_list_frozenset
      have s3 : (Value.type "list" == Value.type "dict") = false := by decide
      unfold Builtin.«set.__init__» noKeywords Builtin.Frozenset.updateFrom
      generalize hPI : pyIter = PI
      wp_walk
      subst hPI
      refine wpAny_pyIter_list isList (wpAny_bind (wpAny_runValue ?_))
      have calm3 : A.in1.in1.in1.handled = none := by simp [calm]
      have size1 : (s.heap.push (bare w)).objs.size = s.heap.objs.size + 1 := Heap.size_push ..
      have ne1 : l ≠ (s.heap.push (bare w)).objs.size := by
        rw [size1]
        exact Nat.ne_of_lt (Nat.lt_succ_of_lt lt)
      have far : s.heap.objs.size ∉ [(s.heap.push (bare w)).objs.size, l] := by
        rw [size1]
        intro z
        rcases List.mem_cons.mp z with z | z
        · exact Nat.ne_of_lt (Nat.lt_succ_self _) z
        · exact Nat.ne_of_gt lt (List.mem_singleton.mp z)
      have oldkept : ∀ b o, s.heap.get? b = some o → ((s.heap.push (bare w)).push { cls := .type "list_iterator", data := .fields #[.ref l, .int 0 0] }).get? b = some o := fun b o e => Heap.get?_push_of_some _ (Heap.get?_push_of_some _ e)
      refine update_by (old := s.heap) (Walks.list calm3 _ l ne1 items).toS far (none_at _ (Nat.le_refl _)) (fun b hb => none_at b ?_) J stay add items.size 0 _ (Nat.zero_add _) ⟨⟨_, Heap.get?_push_size _ rfl, rfl, rfl⟩, isList.push _⟩ oldkept
        (begin _ (Heap.get?_push_of_some _ there) oldkept) (fun s4 m J4 keep4 => ?_)
      · rw [List.mem_singleton.mp hb, size1]
        exact Nat.le_succ _
      · obtain ⟨h4, g4, d4, t4, o4⟩ := s4
        obtain rfl : g4 = s.gens := m.gens
        obtain rfl : d4 = s.drawn := m.drawn
        obtain rfl : o4 = s.os := m.os
        refine wpAny_pure ?_
        show wpAny _ _ (ret Value.none) _ _ _
        exact wpAny_pure ⟨rfl, h4, t4, rfl, J4, keep4⟩
    · match r2, hr2 with
      | .error _, hr2 => exact hr2
      | .ok .next, hr2 => exact hr2.elim
      | .ok .brk, hr2 => exact hr2.elim
      | .ok .cont, hr2 => exact hr2.elim
      | .ok (.ret v), hr2 =>
        obtain ⟨rfl, h, tk, rfl, hJ, keep⟩ := hr2
        repeat (any_goals (first | assumption | wp_step))
        exact fin h tk hJ keep
end
end W4

/-! W5: set(..) and sorted(..) of sets, as rules; the set comprehension of tuples. -/
namespace W5
open PySem PySem.Spec PyProof.Rows L2 W1 W2 W3 W4

/-! ### sets of ints -/
def rSetN (K : PySem.W.Frag) (w : World) : List V → Hp → VK → Prop := fun vs H Q => ∃ (l : Addr) (ns : List Int), vs = [.ref l] ∧ (SqL K H l (ns.map V.int) ∨ SqT K H l (ns.map V.int)) ∧ ns.length ≤ 60 ∧
  ∀ a n, H a = none → n ≤ ns.length → Q (.ref a) (upd H a (SetO w a (fun j => decide (j ∈ ns)) n))
section
variable {X : Cx}
theorem cr_setN (hc : X.calm = true) : CallR X (.type "set") (rSetN X.K X.w) := by
  intro pins s σ H vs us Q I r h
  obtain ⟨l, ns, rfl, hs, h60, q⟩ := h
  rw [Vals.ref1 r]
  have fresh : H s.heap.objs.size = none := I.hok.fresh (Nat.le_refl _)
  rcases hs with hs | hs
  · obtain ⟨its, rv, pl, _⟩ := I.list hs
    have are : IntsAre its ns := by simpa using rv.ints
    have size : its.toArray.size = ns.length := by rw [List.size_toArray, are.length]
    refine set_of_list (I.ok.hd hc) pl.isList (fun i h => ∃ c, c ≤ i ∧ SetR X.w h s.heap.objs.size (fun j => decide (j ∈ ns.take i)) c) (fun h e _ => ⟨0, Nat.le_refl _, setR_new_at e⟩) (fun i h h' hJ k _ => ?_) (fun i v s1 R E hi hv hJ _ hR => ?_) (fun h tk hJ keep => ?_)
    · obtain ⟨c, c1, c2⟩ := hJ
      exact ⟨c, c1, c2.at k⟩
    · obtain ⟨c, c1, c2⟩ := hJ
      have hil : i < ns.length := by rw [← size]; exact hi
      obtain ⟨t, e⟩ := PyProof.Rows.IntsAre.int_at are i v (by simpa using hv)
      rw [List.getD_eq_getElem?_getD, List.getElem?_eq_getElem hil] at e
      subst e
      unfold setAdd
      refine wpAny_holding (wpAny_bind ((intKind X.prog X.w).pyHash (k := ns[i]) (intKind_is _ _ _ _) ?_))
      refine setR_add_hashed (s := { s1 with toks := s1.toks + 1 }) c2 (by unfold scanBound; omega) fun h' sb r => ?_
      refine hR _ h' (s1.toks + 1) (Nat.le_succ _) sb ⟨_, ?_, r.congr fun j => ?_⟩
      · split <;> omega
      · have et : ns.take (i + 1) = ns.take i ++ [ns[i]] := by
          rw [List.take_add_one, List.getElem?_eq_getElem hil]
          rfl
        rw [et]
        show decide (j ∈ ns.take i ++ [ns[i]]) = (decide (j ∈ ns.take i) || decide (j = ns[i]))
        by_cases m : j ∈ ns.take i
        · rw [decide_eq_true m, decide_eq_true (List.mem_append_left _ m)]
          rfl
        · rw [decide_eq_false m, Bool.false_or]
          by_cases e : j = ns[i]
          · rw [decide_eq_true e, decide_eq_true (List.mem_append_right _ (by rw [e]; exact List.mem_singleton.mpr rfl))]
          · rw [decide_eq_false e, decide_eq_false (fun z => (List.mem_append.mp z).elim m fun y => e (List.mem_singleton.mp y))]
    · obtain ⟨c, c1, c2⟩ := hJ
      rw [size] at c1 c2
      rw [List.take_length] at c2
      exact ⟨.ref s.heap.objs.size, _, I.laid (t' := tk) keep (Nat.le_refl _) (setO_new c2), rfl, q _ c fresh c1⟩
  · obtain ⟨its, rv, pl, _⟩ := I.tuple hs
    have are : IntsAre its ns := by simpa using rv.ints
    refine call_set_tupI ns (I.ok.hd hc) (show s.heap.IsTuple l its.toArray from pl) (by simpa using are) (by unfold scanBound; omega) fun h tk c c2 c1 keep => ?_
    exact ⟨.ref s.heap.objs.size, _, I.laid (t' := tk) keep (Nat.le_refl _) (setO_new c2), rfl, q _ c fresh c1⟩
end
/-- sorted(set of ints): the members, ascending -/
theorem sortedN {w : World} {H : Hp} {a : Addr} {ns : List Int} {n : Nat} {Q : VK} (h : H a = some (SetO w a (fun j => decide (j ∈ ns)) n)) (hn : n < 64)
    (q : ∀ (ms : List Int) p H', Same H H' → H' p = some (.lst (ms.map V.int)) → ms.Pairwise (· < ·) → (∀ k, k ∈ ms ↔ k ∈ ns) → Q (.ref p) H') : rSortedSet w [.ref a] H Q :=
  ⟨a, _, n, rfl, h, hn, fun ms p asc mem _ np => q ms p _ (same_new np) upd_same asc fun k => (mem k).trans (by simp)⟩

/-! ### sets of tuples of ints -/
def Set3 (P : Program) (w : World) (a : Addr) (L : List (Addr × List Int)) : HO := .ext fun h => ∃ es ep t, Held P w h a L es ep t
theorem held_at {P : Program} {w : World} {h h' : Heap} {a : Addr} {L : List (Addr × List Int)} {es : Array (Int × Value)} {ep : Nat} {t : SetTable} (R : Held P w h a L es ep t) (k : ∀ o, h.get? a = some o → h'.get? a = some o) : Held P w h' a L es ep t := by
  obtain ⟨o, ho, r⟩ := R.obj
  exact ⟨⟨o, k o ho, r⟩, R.rows, R.tab, R.uniq, R.plain, R.led, R.room⟩
theorem set3_ok {P : Program} {w : World} {H : Hp} {h : Heap} {a : Addr} {L : List (Addr × List Int)} {es : Array (Int × Value)} {ep : Nat} {t : SetTable} (R : Held P w h a L es ep t) : ObjOk P w H h a (Set3 P w a L) := by
  obtain ⟨o, ho, _⟩ := R.obj
  refine ⟨⟨es, ep, t, R⟩, ⟨o, ho⟩, fun h1 h2 p k => ?_⟩
  obtain ⟨es', ep', t', R'⟩ := p
  exact ⟨es', ep', t', held_at R' k⟩
theorem held_new {P : Program} {w : World} {h : Heap} {a : Addr} (ho : h.get? a = some (bare w)) : Held P w h a [] #[] 0 (.fresh 0 0 (!w.params.followText "set-order")) :=
  Held.of (setTR_fresh ho)
/-- what has come of the first i -/
structure Come (ts : List (Addr × List Int)) (i : Nat) (L : List (Addr × List Int)) : Prop where
  sub : ∀ p ∈ L, p ∈ ts
  all : ∀ p ∈ ts.take i, p.2 ∈ L.map (·.2)
  len : L.length ≤ i
theorem Come.next {ts L L' : List (Addr × List Int)} {i : Nat} {x : Addr × List Int} (c : Come ts i L) (hx : ts[i]? = some x) (old : x.2 ∈ L.map (·.2) → L' = L) (new : x.2 ∉ L.map (·.2) → L'.Perm (x :: L)) : Come ts (i + 1) L' := by
  have et : ts.take (i + 1) = ts.take i ++ [x] := by
    rw [List.take_add_one, hx]
    rfl
  by_cases m : x.2 ∈ L.map (·.2)
  · rw [old m]
    refine ⟨c.sub, fun p hp => ?_, Nat.le_succ_of_le c.len⟩
    rw [et] at hp
    rcases List.mem_append.mp hp with hp | hp
    · exact c.all p hp
    · rw [List.mem_singleton.mp hp]
      exact m
  · have pm := new m
    refine ⟨fun p hp => ?_, fun p hp => ?_, ?_⟩
    · rcases List.mem_cons.mp (pm.mem_iff.mp hp) with e | hp
      · rw [e]
        exact List.mem_of_getElem? hx
      · exact c.sub p hp
    · rw [(pm.map (·.2)).mem_iff, List.map_cons]
      rw [et] at hp
      rcases List.mem_append.mp hp with hp | hp
      · exact List.mem_cons_of_mem _ (c.all p hp)
      · rw [List.mem_singleton.mp hp]
        exact List.mem_cons_self
    · rw [pm.length_eq, List.length_cons]
      exact Nat.succ_le_succ c.len
def rSet3 (K : PySem.W.Frag) (P : Program) (w : World) : List V → Hp → VK → Prop := fun vs H Q => ∃ (l : Addr) (ts : List (Addr × List Int)), vs = [.ref l] ∧ SqL K H l (ts.map fun p => V.ref p.1) ∧ (∀ p ∈ ts, SqT K H p.1 (p.2.map V.int)) ∧ ts.length ≤ 76 ∧
  ∀ a L, H a = none → (∀ p ∈ L, p ∈ ts) → (∀ p ∈ ts, p.2 ∈ L.map (·.2)) → (L.map (·.2)).Nodup → Q (.ref a) (upd H a (Set3 P w a L))
def rSorted3 (K : PySem.W.Frag) (P : Program) (w : World) : List V → Hp → VK → Prop := fun vs H Q => ∃ (a : Addr) (L : List (Addr × List Int)), vs = [.ref a] ∧ H a = some (Set3 P w a L) ∧ (∀ p ∈ L, SqT K H p.1 (p.2.map V.int) ∧ p.2 ≠ []) ∧
  ∀ (us : List (Addr × List Int)) (p : Addr), us.Perm L → (us.map (·.2)).Pairwise (fun x y => HT.lexLt y x = false) → (L.map (·.2)).Nodup → H p = none → Q (.ref p) (upd H p (.lst (us.map fun q => V.ref q.1)))
section
variable {X : Cx}
theorem cr_set3 (hc : X.calm = true) (hu : X.A.units + 64 < cLine) : CallR X (.type "set") (rSet3 X.K X.prog X.w) := by
  intro pins s σ H vs us Q I r h
  obtain ⟨l, ts, rfl, hs, ht, h76, q⟩ := h
  rw [Vals.ref1 r]
  have fresh : H s.heap.objs.size = none := I.hok.fresh (Nat.le_refl _)
  obtain ⟨its, rv, pl, _⟩ := I.list hs
  have eits := W2.refs_vals rv
  subst eits
  have size : (ts.map fun p => Value.ref p.1).toArray.size = ts.length := by rw [List.size_toArray, List.length_map]
  refine set_of_list (I.ok.hd hc) pl.isList (fun i h => ∃ L es ep t, Held X.prog X.w h s.heap.objs.size L es ep t ∧ Come ts i L) (fun h e _ => ⟨[], _, _, _, held_new e, fun p z => (List.not_mem_nil z).elim, fun p z => (List.not_mem_nil z).elim, Nat.le_refl _⟩)
    (fun i h h' hJ k _ => ?_) (fun i v s1 R E hi hv hJ keep hR => ?_) (fun h tk hJ keep => ?_)
  · obtain ⟨L, es, ep, t, c1, c2⟩ := hJ
    exact ⟨L, es, ep, t, held_at c1 k, c2⟩
  · obtain ⟨L, es, ep, t, c1, c2⟩ := hJ
    have hil : i < ts.length := by rw [← size]; exact hi
    have ex : ts[i]? = some ts[i] := List.getElem?_eq_getElem hil
    have ev : v = .ref ts[i].1 := by
      have hv' : (ts.map fun p => Value.ref p.1)[i]? = some v := by simpa using hv
      rw [List.getElem?_map, ex] at hv'
      exact (Option.some.inj hv').symm
    have isT : ∀ p ∈ ts, IsT X.prog X.w s1.heap p.2 p.1 := fun p hp => isT_keep (I.isT (ht p hp)) keep
    rw [ev]
    unfold setAdd
    refine wpAny_holding (wpAny_bind (wpAny_pyHash_tuple (by show X.A.units + 1 + 1 + 1 < cLine; omega) (isT _ (List.getElem_mem hil)) ?_))
    refine add3 (s := { s1 with toks := s1.toks + (ts[i].2.length + 1) }) c1 (fun p hp => isT p (c2.sub p hp)) (isT _ (List.getElem_mem hil)) (by show X.A.units + 1 + 1 + 1 < cLine; omega) (by have := c2.len; omega) fun b h' L' es' ep' t' sb held old new => ?_
    exact hR b h' _ (Nat.le_add_right _ _) sb ⟨L', es', ep', t', held, c2.next ex old new⟩
  · obtain ⟨L, es, ep, t, c1, c2⟩ := hJ
    rw [size] at c2
    refine ⟨.ref s.heap.objs.size, _, I.laid (t' := tk) keep (Nat.le_refl _) (set3_ok c1), rfl, q _ L fresh c2.sub (fun p hp => c2.all p ?_) c1.uniq⟩
    rw [List.take_length]
    exact hp
theorem cr_sorted3 (hc : X.calm = true) : CallR X (.builtin "sorted") (rSorted3 X.K X.prog X.w) := by
  intro pins s σ H vs us Q I r h
  obtain ⟨a, L, rfl, ha, ht, q⟩ := h
  obtain ⟨es, ep, t, R⟩ := (show ∃ es ep t, Held X.prog X.w s.heap a L es ep t from (I.hok a _ ha).1)
  rw [Vals.ref1 r]
  obtain ⟨o, ho, ex, hd⟩ := R.obj
  have n1 := R.many
  have n2 := R.most
  have nodupL : L.Nodup := L2.nodup_of_map R.uniq
  refine Calls.call_function_entry kind_sorted plain_sorted entry_sorted (args_sorted1 _) ?_
  unfold Builtin.«sorted»
  refine wpAny_bind (m := checkCount "sorted" 1 1 _) (wpAny_pure ?_)
  refine wpAny_bind (collect_set (A := X.A.in1) (by exact I.ok.hd hc) ⟨o, ho, ex.1, hd⟩ R.fits (by unfold scanBound; omega) R.tab.ris R.led fun s1 vs k1 hz g1 o1 pm => ?_)
  have vals0 : es.toList.map (·.2) = L.map fun p => Value.ref p.1 := by
    rw [R.rows]
    show (L.map _).map _ = _
    rw [List.map_map]
    rfl
  rw [vals0] at pm
  -- the tuples in the order of the table
  obtain ⟨L1, pL, eL⟩ : ∃ L1 : List (Addr × List Int), L1.Perm L ∧ vs = L1.map fun p => Value.ref p.1 := by
    have key : ∀ p ∈ L, ∀ r ∈ L, p.1 = r.1 → p = r := by
      intro p hp r hr e
      have a1 := I.isT (ht p hp).1
      have a2 := I.isT (ht r hr).1
      rw [e] at a1
      exact Prod.ext e (a1.inj a2)
    let f : Value → Addr × List Int := fun v => (L.find? fun p => decide (Value.ref p.1 = v)).getD (0, [])
    have hf : ∀ p ∈ L, f (.ref p.1) = p := by
      intro p hp
      have some' : ((L.find? fun r => decide (Value.ref r.1 = Value.ref p.1))).isSome = true := by
        rw [List.find?_isSome]
        exact ⟨p, hp, decide_eq_true rfl⟩
      obtain ⟨r, hr⟩ := Option.isSome_iff_exists.mp some'
      have h1 := List.find?_some hr
      have h2 := List.mem_of_find?_eq_some hr
      show (L.find? _).getD (0, []) = p
      rw [hr]
      have h3 : r.1 = p.1 := by
        have h4 := of_decide_eq_true h1
        injection h4
      exact key r h2 p hp h3
    refine ⟨vs.map f, ?_, ?_⟩
    · have h1 := pm.map f
      have h2 : (L.map fun p => Value.ref p.1).map f = L := by
        rw [List.map_map]
        conv => rhs; rw [← List.map_id L]
        exact List.map_congr_left fun p hp => hf p hp
      rw [h2] at h1
      exact h1
    · rw [List.map_map]
      conv => lhs; rw [← List.map_id vs]
      refine List.map_congr_left fun v hv => ?_
      obtain ⟨p, hp, rfl⟩ := List.mem_map.mp (pm.mem_iff.mp hv)
      show Value.ref p.1 = Value.ref (f (.ref p.1)).1
      rw [hf p hp]
  subst eL
  have len1 : L1.length ≤ 76 := by rw [pL.length_eq]; exact n2
  refine wpAny_bind (wpAny_newList ?_ (by rw [List.length_map, sizeLine_eq]; omega))
  have hoL : (s1.heap.push (seqObj "list" (L1.map fun p => Value.ref p.1).toArray 0)).get? s1.heap.objs.size = some (seqObj "list" (L1.map fun p => Value.ref p.1).toArray 0) := Heap.get?_push_size _ rfl
  have raw : ∀ p ∈ L1, PyProof.Rows.G.tupKeyC (s1.heap.push (seqObj "list" (L1.map fun p => Value.ref p.1).toArray 0)) nums (.ref p.1) = some (p.2.map Sum.inl) ∧ ∃ f, PyProof.Rows.TupOf (s1.heap.push (seqObj "list" (L1.map fun p => Value.ref p.1).toArray 0)) nums (.ref p.1) f := by
    intro p hp
    have hpL := pL.mem_iff.mp hp
    obtain ⟨o2, xs, n, ho2, hc2, hd2, hi2⟩ := tup_raw I (ht p hpL).1
    exact raw_of (Heap.get?_push_of_some _ (k1 _ _ ho2)) hc2 hd2 hi2 (ht p hpL).2
  obtain ⟨fs, hfs⟩ := firsts_of fun p hp => (raw p hp).2
  refine wpAny_bind (wpAny_holding (wpAny_call_entry slot_list_sort ⟨_, hoL, rfl⟩ entry_list_sort
    (PyProof.Rows.G.list_sort_tups (s := { s1 with heap := s1.heap.push (seqObj "list" (L1.map fun p => Value.ref p.1).toArray 0) }) hoL hfs (fun v hv => ?_) (by rw [List.length_map, sizeLine_eq]; omega) fun st pm2 srt stb => ⟨_, rfl, ?_⟩) (args_list_sort _)))
  · obtain ⟨p, hp, rfl⟩ := List.mem_map.mp hv
    exact ⟨_, (raw p hp).1⟩
  · generalize arrOf st = xs at pm2 srt stb
    obtain ⟨us, pmu, vals, srt'⟩ := sort_back (fun p hp => (raw p hp).1) pm2 srt
    obtain ⟨c, hc2⟩ := sortedHeap_at (vs := L1.map fun p => Value.ref p.1) (out := xs.map (·.2)) hoL
    have kept : ∀ b u, s.heap.get? b = some u → (sortedHeap (s1.heap.push (seqObj "list" (L1.map fun p => Value.ref p.1).toArray 0)) s1.heap.objs.size (L1.map fun p => Value.ref p.1) (xs.map (·.2))).get? b = some u := by
      intro b u e
      have e1 := k1 b u e
      have lt := Heap.lt_size e1
      rw [sortedHeap_old (Nat.ne_of_lt lt) (by rw [size_push']; exact Nat.lt_succ_of_lt lt)]
      exact Heap.get?_push_of_some _ e1
    have fresh : H s1.heap.objs.size = none := I.hok.fresh hz
    have hv : Vals (us.map fun q => V.ref q.1) (xs.map (·.2)).toList := by
      rw [Array.toList_map, ← vals]
      exact vals_refs us
    have hlen : (us.map fun q => V.ref q.1).length ≤ sizeLine := by
      rw [List.length_map, pmu.length_eq, sizeLine_eq]
      omega
    obtain ⟨h1, g', d', t', o'⟩ := s1
    obtain rfl : g' = s.gens := g1
    obtain rfl : o' = s.os := o1
    have J := I.call (g' := s.gens) (d' := d') (t' := t') (ch := []) (Un.laid kept hz fresh) (I.hok.laid (o := .lst (us.map fun q => V.ref q.1)) kept hz ⟨hlen, _, c, hv, by rw [Array.toArray_toList]; exact hc2⟩) I.bare (fun _ z => nomatch z)
    exact wpAny_pure ⟨_, rfl, .ref h1.objs.size, _, J, rfl, q us _ (pmu.trans pL) srt' R.uniq fresh⟩
theorem cr_setNK {K : PySem.W.Frag} {w : World} (hc : X.calm = true) (hK : X.K = K := by rfl) (hw : X.w = w := by rfl) : CallR X (.type "set") (rSetN K w) := by
  subst hK
  subst hw
  exact cr_setN hc
theorem cr_sortedNK {w : World} (hc : X.calm = true) (hw : X.w = w := by rfl) : CallR X (.builtin "sorted") (rSortedSet w) := by
  subst hw
  exact cr_sortedSet hc
theorem cr_set3K {K : PySem.W.Frag} {P : Program} {w : World} (hc : X.calm = true) (hu : X.A.units + 64 < cLine) (hK : X.K = K := by rfl) (hP : X.prog = P := by rfl) (hw : X.w = w := by rfl) : CallR X (.type "set") (rSet3 K P w) := by
  subst hK
  subst hP
  subst hw
  exact cr_set3 hc hu
theorem cr_sorted3K {K : PySem.W.Frag} {P : Program} {w : World} (hc : X.calm = true) (hK : X.K = K := by rfl) (hP : X.prog = P := by rfl) (hw : X.w = w := by rfl) : CallR X (.builtin "sorted") (rSorted3 K P w) := by
  subst hK
  subst hP
  subst hw
  exact cr_sorted3 hc
end
end W5

/-! W6: {elt for target in iter if ..}, elt a tuple of ints. -/
namespace W6
open PySem PySem.Spec PyProof.Rows L2 W1 W2 W3 W4 W5

def tSc3 (K : PySem.W.Frag) (P : Program) (w : World) (wi : TI) (g : TG) (tt : TT) (te : TE) (vs : List Nat) : TE := fun σ H Q => wi σ H fun J H1 => ∀ D, H1 D = none → ∃ W : Nat → Nat → Hp → Prop, (∃ m, W 0 m (upd H1 D (Set3 P w D []))) ∧ ∀ i m H, W i m H →
  (J.stop i H ∧ Q (.ref D) H) ∨ (J.go i H ∧ ∃ Nx : Hp → Prop, (∀ H', Nx H' → ∃ m', m' < m ∧ W (i + 1) m' H') ∧ ∀ x H', J.yld i H x H' → g x (wipe σ vs) H' fun σ2 H2 => wipe σ2 vs = wipe σ vs ∧ tt σ2 H2 fun b H3 =>
    if b = true then te σ2 H3 fun y H4 => ∃ (p : Addr) (k : List Int) (L : List (Addr × List Int)), y = .ref p ∧ SqT K H4 p (k.map V.int) ∧ H4 D = some (Set3 P w D L) ∧ (∀ q ∈ L, SqT K H4 q.1 (q.2.map V.int)) ∧ L.length < 76 ∧
      ∀ L', (k ∈ L.map (·.2) → L' = L) → (k ∉ L.map (·.2) → L'.Perm ((p, k) :: L)) → (L'.map (·.2)).Nodup → Nx (upd H4 D (Set3 P w D L'))
    else Nx H3)
section
variable {X : Cx} {pins : List (Addr × Obj)} {σ : L2.St} {H : Hp} {s : Shared}
/-- set.add of a tuple -/
theorem add_ok {E : Value → Shared → Prop} {D p : Addr} {k : List Int} {L : List (Addr × List Int)} {Q : Value → Shared → Prop} (I : Inv X pins σ H s) (hu : X.A.units + 64 < cLine) (hD : H D = some (Set3 X.prog X.w D L)) (hp : SqT X.K H p (k.map V.int)) (hL : ∀ q ∈ L, SqT X.K H q.1 (q.2.map V.int)) (h76 : L.length < 76)
    (h : ∀ L' s', (k ∈ L.map (·.2) → L' = L) → (k ∉ L.map (·.2) → L'.Perm ((p, k) :: L)) → (L'.map (·.2)).Nodup → Inv X pins σ (upd H D (Set3 X.prog X.w D L')) s' → Q .none s') :
    wpAny (model X.prog X.w) X.A (call (.builtin "set.add") [.ref D, .ref p]) Q E s := by
  obtain ⟨es, ep, t, R⟩ := (show ∃ es ep t, Held X.prog X.w s.heap D L es ep t from (I.hok D _ hD).1)
  obtain ⟨o, ho, ex, hd⟩ := id R.obj
  have ty : s.TypeIs (.ref D) "set" := ⟨o, ho, ex.1⟩
  refine wpAny_call_entry F.slot_set_add ty F.entry_set_add ?_ (F.args_set_add_2 _ _)
  unfold Builtin.«set.add» Builtin.Frozenset.oneOther
  simp only [List.isEmpty_nil, bind_assoc]
  unfold Builtin.Frozenset.addrOf setAdd
  refine wpAny_bind (wpAny_pure ?_)
  try dsimp only
  refine wpAny_bind (wpAny_pure ?_)
  try dsimp only
  refine wpAny_bind (wpAny_holding (wpAny_bind (wpAny_pyHash_tuple (by first | (show X.A.units + 1 < cLine; omega) | (show X.A.units + 1 + 1 < cLine; omega)) (I.isT hp) ?_)))
  refine add3 (s := { s with toks := s.toks + (k.length + 1) }) R (fun q hq => I.isT (hL q hq)) (I.isT hp) (by first | (show X.A.units + 1 < cLine; omega) | (show X.A.units + 1 + 1 < cLine; omega)) h76 fun b h' L' es' ep' t' sb R' old new => ?_
  have there : ∃ u, h'.get? D = some u := by
    obtain ⟨o', ho', _⟩ := R'.obj
    exact ⟨o', ho'⟩
  show wpAny _ _ (ret Value.none) _ _ _
  refine wpAny_pure ⟨_, rfl, h L' _ old new R'.uniq ?_⟩
  exact I.write (e := D) (t' := s.toks + (k.length + 1)) (by rw [hD]; trivial) (.inl rfl) (fun b u hb hu => (sb.2 b hb).trans hu) there (set3_ok R')

theorem pe_sc3 {elt tg iter : Expr} {ifs : List Expr} {scope : Scope} {own : List (Str × Nat)} {pos : Pos} {wi : TI} {g : TG} {tt : TT} {te : TE} (hu : X.A.units + 64 < cLine) (hc : X.calm = true) (hN : X.N.Nodup) (hi : PI X tg iter wi) (ok : BlkOk X.N X.env.scope scope own)
    (hg : ∀ (s : Shared) (H : Hp) (C : Addr) (cl : List (Str × Addr)) (fp : List Addr), PG (X.blk s H scope (compEnvC scope cl C X.env) fp) tg g) (ht : ∀ (s : Shared) (H : Hp) (C : Addr) (cl : List (Str × Addr)) (fp : List Addr), PTs (X.blk s H scope (compEnvC scope cl C X.env) fp) ifs tt)
    (he : ∀ (s : Shared) (H : Hp) (C : Addr) (cl : List (Str × Addr)) (fp : List Addr), PE (X.blk s H scope (compEnvC scope cl C X.env) fp) elt te) (hs : ∀ x, foldedSetIterable iter X.env x = pure x := by intro _; rfl) :
    PE X (.SetComp elt [⟨tg, iter, ifs, 0⟩] scope pos) (tSc3 X.K X.prog X.w wi g tt te (own.map (·.2))) := by
  refine ⟨fun pins s σ H Q I h => ?_⟩
  rw [PpSet.eval_SetComp]
  have captured : ∀ y ∈ scope.names, y.2 = .free → ∃ c, X.env.cells.lookup y.1 = some c := fun y hy e => (ok.free y hy e).elim (fun k => I.ok.has _ (.inl k)) fun k => I.ok.has _ (.inr k)
  refine wpAny_comprehension_free (use := none) rfl hs (closure_ok captured) ok.kind (fun y hy e => by rw [ok.uniq y hy, e]) (thn (hi.run pins s σ H _ I h) fun _ s1 h1 => thn h1 fun _ s2 h2 => ?_)
  obtain ⟨it, fp, tn, J, H2, rfl, I2, T, st2, f2, q⟩ := h2
  refine PpSet.newSet_ok (newEnv_comp ?_)
  -- the new set at D
  generalize eD : s2.heap.objs.size = D
  obtain ⟨W, ⟨m0, w0⟩, turn⟩ := q D (I2.hok.fresh (Nat.le_of_eq eD))
  generalize e3 : ({ s2 with heap := s2.heap.push (bare X.w) } : Shared) = s3
  have h3 : s3.heap = s2.heap.push (bare X.w) := by rw [← e3]
  have I3 : Inv X pins σ (upd H2 D (Set3 X.prog X.w D [])) s3 := by
    rw [← e3]
    refine I2.laid (t' := s2.toks) (fun b o e => Heap.get?_push_of_some _ e) (Nat.le_of_eq eD) (set3_ok (held_new ?_))
    rw [← eD]
    exact Heap.get?_push_size _ rfl
  have below : ∀ b ∈ fp, b < s2.heap.objs.size := fun b hb => by
    obtain ⟨o, e, _⟩ := T.obj _ _ st2 b hb
    exact Heap.lt_size e
  have f3 : ∀ b ∈ fp, FpOk X pins (upd H2 D (Set3 X.prog X.w D [])) b ∧ b < s3.heap.objs.size := fun b hb => by
    have lt := below b hb
    refine ⟨⟨?_, (f2 b hb).2⟩, ?_⟩
    · rw [upd_ne (by rw [← eD]; exact Nat.ne_of_lt lt)]
      exact (f2 b hb).1
    · rw [h3, Heap.size_push]
      exact Nat.lt_succ_of_lt lt
  have st3 : tn 0 s3.heap := T.keep _ _ _ st2 fun b _ o e => by
    rw [h3]
    exact Heap.get?_push_of_some _ e
  have I4 := block_start I3 ok hN f3
  have pg := hg s3 (upd H2 D (Set3 X.prog X.w D [])) s3.heap.objs.size (cellsFrom (s3.heap.objs.size + 1) scope.names (cloFrom X.env.cells scope.names [])) fp
  have pt := ht s3 (upd H2 D (Set3 X.prog X.w D [])) s3.heap.objs.size (cellsFrom (s3.heap.objs.size + 1) scope.names (cloFrom X.env.cells scope.names [])) fp
  have pe := he s3 (upd H2 D (Set3 X.prog X.w D [])) s3.heap.objs.size (cellsFrom (s3.heap.objs.size + 1) scope.names (cloFrom X.env.cells scope.names [])) fp
  show codeAny _ _ (.compStart (.SetComp elt [⟨tg, iter, ifs, 0⟩] scope pos) 0 (.ref it) (.ref D) (compEnvC scope (cellsFrom (s3.heap.objs.size + 1) scope.names (cloFrom X.env.cells scope.names [])) s3.heap.objs.size X.env)) (compPost (model X.prog X.w) X.A X.xe none (EP X pins σ Q) (.ref D) s3.heap.objs.size) { s3 with heap := pushCells (s3.heap.push { cls := .type "dict", data := .dict #[] }) scope.names }
  have n3 : ∀ b ∈ fp, (upd H2 D (Set3 X.prog X.w D [])) b = none := fun b hb => (f3 b hb).1.1
  generalize eB : compEnvC scope (cellsFrom (s3.heap.objs.size + 1) scope.names (cloFrom X.env.cells scope.names [])) s3.heap.objs.size X.env = cenv at I4 pg pt pe ⊢
  have locals : cenv.locals = s3.heap.objs.size := by rw [← eB]; rfl
  generalize eH : upd H2 D (Set3 X.prog X.w D []) = H3 at I3 I4 pg pt pe w0 n3 f3
  generalize e4 : ({ s3 with heap := pushCells (s3.heap.push { cls := .type "dict", data := .dict #[] }) scope.names } : Shared) = s4 at I4 ⊢
  have st4 : tn 0 s4.heap := T.keep _ _ _ st3 fun b _ o e => by
    rw [← e4]
    exact pushCells_keeps _ _ _ _ (Heap.get?_push_of_some _ e)
  have still : ∀ {σ' : L2.St} {H' : Hp} {s' : Shared}, Inv (X.blk s3 H3 scope cenv fp) [] σ' H' s' → (∀ b ∈ fp, H' b = none) → ∀ b ∈ fp, FpOk (X.blk s3 H3 scope cenv fp) [] H' b := by
    intro σ' H' s' I' hn b hb
    refine ⟨hn b hb, (I'.ok.exf b hb).1, I'.ok.exfs b hb, .inl hb, fun x c e => (I'.ok.exf b hb).2 x c e, fun p hp => ?_⟩
    have hp' : p ∈ ([] : List (Addr × Obj)) ++ [] := hp
    exact (List.not_mem_nil hp').elim
  have loop : codeAny (model X.prog X.w) X.A (.compLoop (.SetComp elt [⟨tg, iter, ifs, 0⟩] scope pos) 0 (.ref it) (.ref D) cenv) (compPost (model X.prog X.w) X.A X.xe none (EP X pins σ Q) (.ref D) s3.heap.objs.size) s4 := by
    refine PpSet.compLoopS_any (fun n s' => ∃ i H', Inv (X.blk s3 H3 scope cenv fp) [] (wipe σ (own.map (·.2))) H' s' ∧ tn i s'.heap ∧ (∀ b ∈ fp, H' b = none) ∧ W i n H') (fun n s5 h5 => ?_) m0 ⟨0, H3, I4, st4, n3, w0⟩
    obtain ⟨i, H5, I5, st5, n5, w5⟩ := h5
    rcases turn i n H5 w5 with ⟨stop, fin⟩ | ⟨go, Nx, hNx, step⟩
    · refine thnF (T.done (X.blk s3 H3 scope cenv fp) rfl rfl rfl hc i [] s5 _ H5 (fun _ _ => False) I5 (still I5 n5) st5 stop) fun r s6 h6 => ?_
      obtain ⟨rfl, I6⟩ := h6
      have I7 : Inv X pins σ H5 s6 := I3.call' (ch := fp) I6.os I6.base I6.hok I6.bare fun b hb => ⟨(f3 b hb).1.2.2.2.1, (f3 b hb).1.2.1, (f3 b hb).1.2.2.2.2.1, (f3 b hb).1.2.2.2.2.2⟩
      have free : H5 s3.heap.objs.size = none := by
        rw [← locals]
        exact I6.free
      obtain ⟨m, hn, _⟩ := I6.loc
      rw [show (X.blk s3 H3 scope cenv fp).env.locals = s3.heap.objs.size from locals] at hn
      obtain ⟨g0, g1, g2, g3, g4, g5⟩ := I3.fpOk (Nat.le_refl _) free
      exact ⟨m, hn, fun h'' sb => ⟨.ref D, H5, I7.turned (t' := s6.toks) (fun b o hb e => (sb.2 b hb).trans e) g0 g1 g3 g4 g5, rfl, fin⟩⟩
    · refine thnF (T.item (X.blk s3 H3 scope cenv fp) rfl rfl rfl hc i [] s5 _ H5 (fun _ _ => False) I5 (still I5 n5) st5 go) fun r s6 h6 => ?_
      obtain ⟨u, rfl, h6⟩ := h6
      refine thnF h6 fun _ s7 h7 => ?_
      obtain ⟨x, H7, I7, r7, y7, st7, n7⟩ := h7
      have I7' := I7.pinned (still I7 n7) (T.obj _ _ st7)
      refine thnF (pg.run _ s7 _ H7 x u _ I7' r7 (step x H7 y7)) fun _ s8 h8 => ?_
      obtain ⟨σ8, H8, I8, hw8, q8⟩ := h8
      refine thnF (pt.run _ s8 σ8 H8 _ I8 q8) fun b s9 h9 => ?_
      obtain ⟨H9, I9, q9⟩ := h9
      have again : ∀ {s' : Shared} {H' : Hp}, Inv (X.blk s3 H3 scope cenv fp) ([] ++ pinsAt fp s7.heap) σ8 H' s' → Nx H' → ∃ m, m < n ∧ ∃ i H', Inv (X.blk s3 H3 scope cenv fp) [] (wipe σ (own.map (·.2))) H' s' ∧ tn i s'.heap ∧ (∀ b ∈ fp, H' b = none) ∧ W i m H' := by
        intro s' H' I' nx
        obtain ⟨m', hm, w'⟩ := hNx H' nx
        have pinned : ∀ b ∈ fp, ∀ o, s7.heap.get? b = some o → s'.heap.get? b = some o ∧ H' b = none := fun b hb o e =>
          let z := I'.pin (b, o) (List.mem_append_right _ (List.mem_append_right _ (mem_pinsAt hb e)))
          ⟨z.1, z.2.1⟩
        have len : (wipe σ (own.map (·.2))).length = σ8.length := by rw [← hw8, wipe_length]
        refine ⟨m', hm, i + 1, H', (I'.unpinned (pins := [])).weak len (fun j v e => ?_), T.keep _ _ _ st7 fun b hb o e => (pinned b hb o e).1, fun b hb => ?_, w'⟩
        · rw [← hw8] at e
          exact (wipe_some e).1
        · obtain ⟨o, e, _⟩ := T.obj _ _ st7 b hb
          exact (pinned b hb o e).2
      cases b with
      | false =>
        simp only [Bool.false_eq_true, if_false] at q9 ⊢
        exact again I9 q9
      | true =>
        simp only [if_true] at q9 ⊢
        refine thnF (pe.run _ s9 σ8 H9 _ I9 q9) fun z s10 h10 => ?_
        obtain ⟨y, H10, I10, r10, p, k, L, rfl, hp, hD, hL, h76, nx⟩ := h10
        cases r10
        exact add_ok (X := X.blk s3 H3 scope cenv fp) I10 hu hD hp hL h76 fun L' s11 old new uniq I11 => again I11 (nx L' old new uniq)
  exact PpSet.codeAny_compStart_set loop (T.self X.A 0 _ _ _ st4 loop)
end
/-- its reading over anything walked -/
theorem sc_it {K : PySem.W.Frag} {P : Program} {w : World} {J : It} {n : Nat} {G : Hp → Prop} {Y : Nat → Hp → V → Hp → Prop} (wk : Walk J n G Y) {g : TG} {tt : TT} {te : TE} {vs : List Nat} {σ : L2.St} {H1 : Hp} {D : Addr} {Qd : Hp → Prop} (Pv : Nat → Hp → Prop) (h0 : Pv 0 (upd H1 D (Set3 P w D []))) (hG : ∀ i H, i ≤ n → Pv i H → G H)
    (hs : ∀ i x H H', i < n → Pv i H → Y i H x H' → g x (wipe σ vs) H' fun σ2 H2 => wipe σ2 vs = wipe σ vs ∧ tt σ2 H2 fun b H3 =>
      if b = true then te σ2 H3 fun y H4 => ∃ (p : Addr) (k : List Int) (L : List (Addr × List Int)), y = .ref p ∧ SqT K H4 p (k.map V.int) ∧ H4 D = some (Set3 P w D L) ∧ (∀ q ∈ L, SqT K H4 q.1 (q.2.map V.int)) ∧ L.length < 76 ∧
        ∀ L', (k ∈ L.map (·.2) → L' = L) → (k ∉ L.map (·.2) → L'.Perm ((p, k) :: L)) → (L'.map (·.2)).Nodup → Pv (i + 1) (upd H4 D (Set3 P w D L'))
      else Pv (i + 1) H3) (hd : ∀ H, Pv n H → Qd H) :
    ∃ W : Nat → Nat → Hp → Prop, (∃ m, W 0 m (upd H1 D (Set3 P w D []))) ∧ ∀ i m H, W i m H →
      (J.stop i H ∧ Qd H) ∨ (J.go i H ∧ ∃ Nx : Hp → Prop, (∀ H', Nx H' → ∃ m', m' < m ∧ W (i + 1) m' H') ∧ ∀ x H', J.yld i H x H' → g x (wipe σ vs) H' fun σ2 H2 => wipe σ2 vs = wipe σ vs ∧ tt σ2 H2 fun b H3 =>
        if b = true then te σ2 H3 fun y H4 => ∃ (p : Addr) (k : List Int) (L : List (Addr × List Int)), y = .ref p ∧ SqT K H4 p (k.map V.int) ∧ H4 D = some (Set3 P w D L) ∧ (∀ q ∈ L, SqT K H4 q.1 (q.2.map V.int)) ∧ L.length < 76 ∧
          ∀ L', (k ∈ L.map (·.2) → L' = L) → (k ∉ L.map (·.2) → L'.Perm ((p, k) :: L)) → (L'.map (·.2)).Nodup → Nx (upd H4 D (Set3 P w D L'))
        else Nx H3) := by
  refine ⟨fun i left H => left + i = n ∧ Pv i H, ⟨n, rfl, h0⟩, fun i left H hw => ?_⟩
  obtain ⟨e, p⟩ := hw
  cases left with
  | zero =>
    obtain rfl : i = n := by omega
    exact Or.inl ⟨wk.stops H (hG i H (Nat.le_refl _) p), hd H p⟩
  | succ left =>
    have hi : i < n := by omega
    have hg := hG i H (Nat.le_of_lt hi) p
    exact Or.inr ⟨wk.goes i H hi hg, Pv (i + 1), fun H' p' => ⟨left, Nat.lt_succ_self _, by omega, p'⟩, fun x H' y => hs i x H H' hi p (wk.yields i H x H' hi hg y)⟩
end W6

/-! K0: the text's defs, what the top leaves of them; small checks of webs. -/
namespace K0
open PySem PySem.Spec PyProof.Rows L2 W0 W1 W2

def topS (i : Nat) : Stmt := PySem.Challenge.pw_anymarks_k00_ways_and_webs_turned.main.body.getD i (.Pass ⟨0, 0, 0, 0⟩)
abbrev s_is_number : Stmt := topS 1
abbrev n_is_number : List Str := ["value", "low", "high"]
abbrev p_is_number : List Str := ["value", "low", "high"]
theorem sc_is_number : FnScope n_is_number p_is_number (defScope s_is_number) := ⟨rfl, rfl, rfl, by decide +kernel, rfl, by decide +kernel, by decide +kernel⟩
abbrev s_is_tuple : Stmt := topS 2
abbrev n_is_tuple : List Str := ["value", "least", "most"]
abbrev p_is_tuple : List Str := ["value", "least", "most"]
theorem sc_is_tuple : FnScope n_is_tuple p_is_tuple (defScope s_is_tuple) := ⟨rfl, rfl, rfl, by decide +kernel, rfl, by decide +kernel, by decide +kernel⟩
abbrev s_are_numbers : Stmt := topS 3
abbrev n_are_numbers : List Str := ["value", "many", "low", "high", "item"]
abbrev p_are_numbers : List Str := ["value", "many", "low", "high"]
theorem sc_are_numbers : FnScope n_are_numbers p_are_numbers (defScope s_are_numbers) := ⟨rfl, rfl, rfl, by decide +kernel, rfl, by decide +kernel, by decide +kernel⟩
abbrev s_is_ascending : Stmt := topS 4
abbrev n_is_ascending : List Str := ["things", "first", "second"]
abbrev p_is_ascending : List Str := ["things"]
theorem sc_is_ascending : FnScope n_is_ascending p_is_ascending (defScope s_is_ascending) := ⟨rfl, rfl, rfl, by decide +kernel, rfl, by decide +kernel, by decide +kernel⟩
abbrev s_need_web : Stmt := topS 16
abbrev n_need_web : List Str := ["web"]
abbrev p_need_web : List Str := ["web"]
theorem sc_need_web : FnScope n_need_web p_need_web (defScope s_need_web) := ⟨rfl, rfl, rfl, by decide +kernel, rfl, by decide +kernel, by decide +kernel⟩
abbrev s__is_web : Stmt := topS 17
abbrev n__is_web : List Str := ["value", "size", "arrows", "arrow"]
abbrev p__is_web : List Str := ["value"]
theorem sc__is_web : FnScope n__is_web p__is_web (defScope s__is_web) := ⟨rfl, rfl, rfl, by decide +kernel, rfl, by decide +kernel, by decide +kernel⟩
abbrev s__is_arrow : Stmt := topS 18
abbrev n__is_arrow : List Str := ["value", "size", "kind", "start", "end"]
abbrev p__is_arrow : List Str := ["value", "size"]
theorem sc__is_arrow : FnScope n__is_arrow p__is_arrow (defScope s__is_arrow) := ⟨rfl, rfl, rfl, by decide +kernel, rfl, by decide +kernel, by decide +kernel⟩
abbrev s_is_way : Stmt := topS 19
abbrev n_is_way : List Str := ["value"]
abbrev p_is_way : List Str := ["value"]
theorem sc_is_way : FnScope n_is_way p_is_way (defScope s_is_way) := ⟨rfl, rfl, rfl, by decide +kernel, rfl, by decide +kernel, by decide +kernel⟩
abbrev s_turned_way : Stmt := topS 20
abbrev n_turned_way : List Str := ["way"]
abbrev p_turned_way : List Str := ["way"]
theorem sc_turned_way : FnScope n_turned_way p_turned_way (defScope s_turned_way) := ⟨rfl, rfl, rfl, by decide +kernel, rfl, by decide +kernel, by decide +kernel⟩
abbrev s_need_world : Stmt := topS 21
abbrev n_need_world : List Str := ["web", "world"]
abbrev p_need_world : List Str := ["web", "world"]
theorem sc_need_world : FnScope n_need_world p_need_world (defScope s_need_world) := ⟨rfl, rfl, rfl, by decide +kernel, rfl, by decide +kernel, by decide +kernel⟩
abbrev s_leads_of : Stmt := topS 22
abbrev n_leads_of : List Str := ["web", "size", "arrows", "leads", "kind", "start", "end", "way", "_"]
abbrev p_leads_of : List Str := ["web"]
theorem sc_leads_of : FnScope n_leads_of p_leads_of (defScope s_leads_of) := ⟨rfl, rfl, rfl, by decide +kernel, rfl, by decide +kernel, by decide +kernel⟩
abbrev s_led_to : Stmt := topS 23
abbrev n_led_to : List Str := ["web", "way", "world"]
abbrev p_led_to : List Str := ["web", "way", "world"]
theorem sc_led_to : FnScope n_led_to p_led_to (defScope s_led_to) := ⟨rfl, rfl, rfl, by decide +kernel, rfl, by decide +kernel, by decide +kernel⟩
abbrev s_web_turned : Stmt := topS 24
abbrev n_web_turned : List Str := ["web", "size", "arrows", "kind", "start", "end"]
abbrev p_web_turned : List Str := ["web"]
theorem sc_web_turned : FnScope n_web_turned p_web_turned (defScope s_web_turned) := ⟨rfl, rfl, rfl, by decide +kernel, rfl, by decide +kernel, by decide +kernel⟩
abbrev s_kinds_changed : Stmt := topS 25
abbrev n_kinds_changed : List Str := ["web", "kinds", "size", "arrows", "kind", "start", "end"]
abbrev p_kinds_changed : List Str := ["web", "kinds"]
theorem sc_kinds_changed : FnScope n_kinds_changed p_kinds_changed (defScope s_kinds_changed) := ⟨rfl, rfl, rfl, by decide +kernel, rfl, by decide +kernel, by decide +kernel⟩
abbrev s__law_mixed : Stmt := topS 27
abbrev n__law_mixed : List Str := ["cell", "k"]
abbrev p__law_mixed : List Str := ["cell", "k"]
theorem sc__law_mixed : FnScope n__law_mixed p__law_mixed (defScope s__law_mixed) := ⟨rfl, rfl, rfl, by decide +kernel, rfl, by decide +kernel, by decide +kernel⟩
abbrev s__law_begin : Stmt := topS 28
abbrev n__law_begin : List Str := ["script", "cells_so", "cell"]
abbrev p__law_begin : List Str := ["script"]
theorem sc__law_begin : FnScope n__law_begin p__law_begin (defScope s__law_begin) := ⟨rfl, rfl, rfl, by decide +kernel, rfl, by decide +kernel, by decide +kernel⟩
abbrev s__law_draw : Stmt := topS 29
abbrev n__law_draw : List Str := ["state", "limit", "at", "spot", "left", "mixed"]
abbrev p__law_draw : List Str := ["state", "limit"]
theorem sc__law_draw : FnScope n__law_draw p__law_draw (defScope s__law_draw) := ⟨rfl, rfl, rfl, by decide +kernel, rfl, by decide +kernel, by decide +kernel⟩
abbrev s__law_web : Stmt := topS 30
abbrev n__law_web : List Str := ["state", "most", "sorts", "size", "found", "sort", "here", "there"]
abbrev p__law_web : List Str := ["state", "most", "sorts"]
theorem sc__law_web : FnScope n__law_web p__law_web (defScope s__law_web) := ⟨rfl, rfl, rfl, by decide +kernel, rfl, by decide +kernel, by decide +kernel⟩
abbrev s__law_led : Stmt := topS 31
abbrev n__law_led : List Str := ["web_so", "toward", "spot", "found", "sort", "near", "far"]
abbrev p__law_led : List Str := ["web_so", "toward", "spot"]
theorem sc__law_led : FnScope n__law_led p__law_led (defScope s__law_led) := ⟨rfl, rfl, rfl, by decide +kernel, rfl, by decide +kernel, by decide +kernel⟩
abbrev s__law_like : Stmt := topS 32
abbrev n__law_like : List Str := ["got", "due"]
abbrev p__law_like : List Str := ["got", "due"]
theorem sc__law_like : FnScope n__law_like p__law_like (defScope s__law_like) := ⟨rfl, rfl, rfl, by decide +kernel, rfl, by decide +kernel, by decide +kernel⟩
abbrev s__law_ways_right : Stmt := topS 33
abbrev n__law_ways_right : List Str := ["web_so", "back", "due", "toward", "spot", "row", "sort", "near", "far"]
abbrev p__law_ways_right : List Str := ["web_so"]
theorem sc__law_ways_right : FnScope n__law_ways_right p__law_ways_right (defScope s__law_ways_right) := ⟨rfl, rfl, rfl, by decide +kernel, rfl, by decide +kernel, by decide +kernel⟩
abbrev s__law_kinds_right : Stmt := topS 34
abbrev n__law_kinds_right : List Str := ["web_so", "row", "told", "due", "sort", "spot", "led", "back", "elder", "near", "far"]
abbrev p__law_kinds_right : List Str := ["web_so", "row"]
theorem sc__law_kinds_right : FnScope n__law_kinds_right p__law_kinds_right (defScope s__law_kinds_right) := ⟨rfl, rfl, rfl, by decide +kernel, rfl, by decide +kernel, by decide +kernel⟩
abbrev s__law_great : Stmt := topS 35
abbrev n__law_great : List Str := ["arrows_so", "step", "great", "got", "due", "spot"]
abbrev p__law_great : List Str := []
theorem sc__law_great : FnScope n__law_great p__law_great (defScope s__law_great) := ⟨rfl, rfl, rfl, by decide +kernel, rfl, by decide +kernel, by decide +kernel⟩
abbrev s_law : Stmt := topS 36
abbrev n_law : List Str := ["script", "state", "turn", "web_so", "step"]
abbrev p_law : List Str := ["script"]
theorem sc_law : FnScope n_law p_law (defScope s_law) := ⟨rfl, rfl, rfl, by decide +kernel, rfl, by decide +kernel, by decide +kernel⟩

structure Tops (K : PySem.W.Frag) (mg : Str → Option Value) where
  a_is_number : Addr
  fd_is_number : FuncData
  F_is_number : Fun K "is_number" "is_number" s_is_number a_is_number fd_is_number
  b_is_number : Binds K fd_is_number p_is_number []
  g_is_number : mg "is_number" = some (.ref a_is_number)
  a_is_tuple : Addr
  fd_is_tuple : FuncData
  F_is_tuple : Fun K "is_tuple" "is_tuple" s_is_tuple a_is_tuple fd_is_tuple
  b_is_tuple : Binds K fd_is_tuple p_is_tuple []
  g_is_tuple : mg "is_tuple" = some (.ref a_is_tuple)
  a_are_numbers : Addr
  fd_are_numbers : FuncData
  F_are_numbers : Fun K "are_numbers" "are_numbers" s_are_numbers a_are_numbers fd_are_numbers
  b_are_numbers : Binds K fd_are_numbers p_are_numbers []
  g_are_numbers : mg "are_numbers" = some (.ref a_are_numbers)
  a_is_ascending : Addr
  fd_is_ascending : FuncData
  F_is_ascending : Fun K "is_ascending" "is_ascending" s_is_ascending a_is_ascending fd_is_ascending
  b_is_ascending : Binds K fd_is_ascending p_is_ascending []
  g_is_ascending : mg "is_ascending" = some (.ref a_is_ascending)
  a_need_web : Addr
  fd_need_web : FuncData
  F_need_web : Fun K "need_web" "need_web" s_need_web a_need_web fd_need_web
  b_need_web : Binds K fd_need_web p_need_web []
  g_need_web : mg "need_web" = some (.ref a_need_web)
  a__is_web : Addr
  fd__is_web : FuncData
  F__is_web : Fun K "_is_web" "_is_web" s__is_web a__is_web fd__is_web
  b__is_web : Binds K fd__is_web p__is_web []
  g__is_web : mg "_is_web" = some (.ref a__is_web)
  a__is_arrow : Addr
  fd__is_arrow : FuncData
  F__is_arrow : Fun K "_is_arrow" "_is_arrow" s__is_arrow a__is_arrow fd__is_arrow
  b__is_arrow : Binds K fd__is_arrow p__is_arrow []
  g__is_arrow : mg "_is_arrow" = some (.ref a__is_arrow)
  a_is_way : Addr
  fd_is_way : FuncData
  F_is_way : Fun K "is_way" "is_way" s_is_way a_is_way fd_is_way
  b_is_way : Binds K fd_is_way p_is_way []
  g_is_way : mg "is_way" = some (.ref a_is_way)
  a_turned_way : Addr
  fd_turned_way : FuncData
  F_turned_way : Fun K "turned_way" "turned_way" s_turned_way a_turned_way fd_turned_way
  b_turned_way : Binds K fd_turned_way p_turned_way []
  g_turned_way : mg "turned_way" = some (.ref a_turned_way)
  a_need_world : Addr
  fd_need_world : FuncData
  F_need_world : Fun K "need_world" "need_world" s_need_world a_need_world fd_need_world
  b_need_world : Binds K fd_need_world p_need_world []
  g_need_world : mg "need_world" = some (.ref a_need_world)
  a_leads_of : Addr
  fd_leads_of : FuncData
  F_leads_of : Fun K "leads_of" "leads_of" s_leads_of a_leads_of fd_leads_of
  b_leads_of : Binds K fd_leads_of p_leads_of []
  g_leads_of : mg "leads_of" = some (.ref a_leads_of)
  a_led_to : Addr
  fd_led_to : FuncData
  F_led_to : Fun K "led_to" "led_to" s_led_to a_led_to fd_led_to
  b_led_to : Binds K fd_led_to p_led_to []
  g_led_to : mg "led_to" = some (.ref a_led_to)
  a_web_turned : Addr
  fd_web_turned : FuncData
  F_web_turned : Fun K "web_turned" "web_turned" s_web_turned a_web_turned fd_web_turned
  b_web_turned : Binds K fd_web_turned p_web_turned []
  g_web_turned : mg "web_turned" = some (.ref a_web_turned)
  a_kinds_changed : Addr
  fd_kinds_changed : FuncData
  F_kinds_changed : Fun K "kinds_changed" "kinds_changed" s_kinds_changed a_kinds_changed fd_kinds_changed
  b_kinds_changed : Binds K fd_kinds_changed p_kinds_changed []
  g_kinds_changed : mg "kinds_changed" = some (.ref a_kinds_changed)
  a__law_mixed : Addr
  fd__law_mixed : FuncData
  F__law_mixed : Fun K "_law_mixed" "_law_mixed" s__law_mixed a__law_mixed fd__law_mixed
  b__law_mixed : Binds K fd__law_mixed p__law_mixed []
  g__law_mixed : mg "_law_mixed" = some (.ref a__law_mixed)
  a__law_begin : Addr
  fd__law_begin : FuncData
  F__law_begin : Fun K "_law_begin" "_law_begin" s__law_begin a__law_begin fd__law_begin
  b__law_begin : Binds K fd__law_begin p__law_begin []
  g__law_begin : mg "_law_begin" = some (.ref a__law_begin)
  a__law_draw : Addr
  fd__law_draw : FuncData
  F__law_draw : Fun K "_law_draw" "_law_draw" s__law_draw a__law_draw fd__law_draw
  b__law_draw : Binds K fd__law_draw p__law_draw []
  g__law_draw : mg "_law_draw" = some (.ref a__law_draw)
  a__law_web : Addr
  fd__law_web : FuncData
  F__law_web : Fun K "_law_web" "_law_web" s__law_web a__law_web fd__law_web
  b__law_web : Binds K fd__law_web p__law_web []
  g__law_web : mg "_law_web" = some (.ref a__law_web)
  a__law_led : Addr
  fd__law_led : FuncData
  F__law_led : Fun K "_law_led" "_law_led" s__law_led a__law_led fd__law_led
  b__law_led : Binds K fd__law_led p__law_led []
  g__law_led : mg "_law_led" = some (.ref a__law_led)
  a__law_like : Addr
  fd__law_like : FuncData
  F__law_like : Fun K "_law_like" "_law_like" s__law_like a__law_like fd__law_like
  b__law_like : Binds K fd__law_like p__law_like []
  g__law_like : mg "_law_like" = some (.ref a__law_like)
  a__law_ways_right : Addr
  fd__law_ways_right : FuncData
  F__law_ways_right : Fun K "_law_ways_right" "_law_ways_right" s__law_ways_right a__law_ways_right fd__law_ways_right
  b__law_ways_right : Binds K fd__law_ways_right p__law_ways_right []
  g__law_ways_right : mg "_law_ways_right" = some (.ref a__law_ways_right)
  a__law_kinds_right : Addr
  fd__law_kinds_right : FuncData
  F__law_kinds_right : Fun K "_law_kinds_right" "_law_kinds_right" s__law_kinds_right a__law_kinds_right fd__law_kinds_right
  b__law_kinds_right : Binds K fd__law_kinds_right p__law_kinds_right []
  g__law_kinds_right : mg "_law_kinds_right" = some (.ref a__law_kinds_right)
  a__law_great : Addr
  fd__law_great : FuncData
  F__law_great : Fun K "_law_great" "_law_great" s__law_great a__law_great fd__law_great
  b__law_great : Binds K fd__law_great p__law_great []
  g__law_great : mg "_law_great" = some (.ref a__law_great)
  a_law : Addr
  fd_law : FuncData
  F_law : Fun K "law" "law" s_law a_law fd_law
  b_law : Binds K fd_law p_law []
  g_law : mg "law" = some (.ref a_law)
  m_all : mg "all" = none
  m_int : mg "int" = none
  m_len : mg "len" = none
  m_list : mg "list" = none
  m_range : mg "range" = none
  m_repr : mg "repr" = none
  m_set : mg "set" = none
  m_sorted : mg "sorted" = none
  m_tuple : mg "tuple" = none
  m_type : mg "type" = none
  m_zip : mg "zip" = none
  t_MOST_WORLDS : Tok
  c_MOST_WORLDS : mg "MOST_WORLDS" = some (.int (200) t_MOST_WORLDS)
  t_MOST_ARROWS : Tok
  c_MOST_ARROWS : mg "MOST_ARROWS" = some (.int (1000) t_MOST_ARROWS)
  t_LAST_KIND : Tok
  c_LAST_KIND : mg "LAST_KIND" = some (.int (2) t_LAST_KIND)
  t_FIRST_WAY : Tok
  c_FIRST_WAY : mg "FIRST_WAY" = some (.int (-3) t_FIRST_WAY)

/-! ### the data -/
abbrev T3 := Int × Int × Int
def tri (t : T3) : List Int := [t.1, t.2.1, t.2.2]
def dTri (t : T3) : PyData := .tuple ((tri t).map PyData.int)
def dArr (A : List T3) : PyData := .tuple (A.map dTri)
def dWeb (n : Int) (A : List T3) : PyData := .tuple [.int n, dArr A]
def dInts (l : List Int) : PyData := .tuple (l.map PyData.int)
structure InW (n : Int) (t : T3) : Prop where
  k0 : 0 ≤ t.1
  k2 : t.1 ≤ 2
  f0 : 0 ≤ t.2.1
  fn : t.2.1 < n
  e0 : 0 ≤ t.2.2
  en : t.2.2 < n
def lt3 (s t : T3) : Prop := HT.lexLt (tri s) (tri t) = true
structure WOk (n : Int) (A : List T3) : Prop where
  n1 : 1 ≤ n
  n2 : n ≤ 200
  len : A.length ≤ 1000
  all : ∀ t ∈ A, InW n t
  asc : A.Pairwise lt3
theorem dp_tri {K : PySem.W.Frag} {H : Hp} {v : V} {t : T3} (h : Dp K H v (dTri t)) : ∃ a, v = .ref a ∧ SqT K H a ((tri t).map V.int) := by
  obtain ⟨a, xs, e, hs, hd⟩ := dp_tup h
  rw [dps_ints_inv hd] at hs
  exact ⟨a, e, hs⟩
theorem dp_ints {K : PySem.W.Frag} {H : Hp} {v : V} {l : List Int} (h : Dp K H v (dInts l)) : ∃ a, v = .ref a ∧ SqT K H a (l.map V.int) := by
  obtain ⟨a, xs, e, hs, hd⟩ := dp_tup h
  rw [dps_ints_inv hd] at hs
  exact ⟨a, e, hs⟩
theorem dp_of_ints {K : PySem.W.Frag} {H : Hp} {a : Addr} {l : List Int} (h : SqT K H a (l.map V.int)) : Dp K H (.ref a) (dInts l) := .tup h (dps_ints l)
theorem dp_web {K : PySem.W.Frag} {H : Hp} {v : V} {n : Int} {A : List T3} (h : Dp K H v (dWeb n A)) : ∃ a b xs, v = .ref a ∧ SqT K H a [.int n, .ref b] ∧ SqT K H b xs ∧ DpAll K H xs (A.map dTri) := by
  obtain ⟨a, xs, e, hs, hd⟩ := dp_tup h
  cases hd with
  | cons h1 h2 =>
    cases h2 with
    | cons h2 h3 =>
      cases h3
      obtain ⟨b, ys, e2, hs2, hd2⟩ := dp_tup h2
      rw [dp_int h1, e2] at hs
      exact ⟨a, b, ys, e, hs, hs2, hd2⟩
theorem get_tri {K : PySem.W.Frag} {H : Hp} {xs : List V} {A : List T3} {i : Nat} {x : V} (h : DpAll K H xs (A.map dTri)) (hx : xs[i]? = some x) : ∃ t, A[i]? = some t ∧ t ∈ A ∧ Dp K H x (dTri t) := by
  have hl := dps_len h
  rw [List.length_map] at hl
  have hi : i < A.length := by
    have := (List.getElem?_eq_some_iff.mp hx).1
    omega
  have e : A[i]? = some A[i] := List.getElem?_eq_getElem hi
  obtain ⟨y, hy, hd⟩ := dps_get (i := i) (d := dTri A[i]) h (by rw [List.getElem?_map, e]; rfl)
  rw [hx] at hy
  cases hy
  exact ⟨A[i], e, List.getElem_mem hi, hd⟩

section
variable {P : Program} {w : World} {K : PySem.W.Frag} {mg : Str → Option Value} {base : Heap}

/-! ### is_number, is_tuple -/
def sp_is_number : Sp := fun vs H Q _ => ∃ i lo hi : Int, vs = [.int i, .int lo, .int hi] ∧ Q (.bl (decide (lo ≤ i) && decide (i ≤ hi))) H
theorem ok_is_number (T : Tops K mg) : FnOk P w K mg base CX0 1 T.a_is_number T.fd_is_number p_is_number sp_is_number := by
  have S := sc_is_number
  refine T.F_is_number.ok S (fun vs H Q E h => ?_) (fun cdv A outer s H vs Q E hr h => ?_)
  · obtain ⟨i, lo, hi, rfl, _⟩ := h
    rfl
  · obtain ⟨i, lo, hi, rfl, q⟩ := h
    refine ⟨_, (pss_one (ps_ret (pe_and (pe_cmpR op_isTyB (pe_callTy call_typeS (by rfl) T.m_type (by decide +kernel) (pa_cons (pv 0) pa_nil)) (pe_bltn (v := .ty "int") (by rfl) T.m_int (by decide +kernel) rfl) (nomark _)) (pe_one (pe_chain op_le op_le (pv 1) (pv 0) (pv 2)))))), ?_⟩
    refine ⟨.int i, rfl, .int i, "int", rfl, .int i, "int", "int", rfl, rfl, _, rfl, ?_⟩
    rw [decide_eq_true (rfl : ("int" : String) = "int")]
    refine iteT ⟨.int lo, rfl, .int i, rfl, lo, i, rfl, rfl, _, rfl, ?_⟩
    by_cases h1 : lo ≤ i
    · rw [decide_eq_true h1]
      refine iteT ⟨.int hi, rfl, i, hi, rfl, rfl, ?_⟩
      rw [decide_eq_true h1] at q
      exact q
    · rw [decide_eq_false h1]
      rw [decide_eq_false h1] at q
      exact iteF q
def sp_is_tuple (K : PySem.W.Frag) : Sp := fun vs H Q _ => ∃ (a : Addr) (xs : List V) (lo hi : Int), vs = [.ref a, .int lo, .int hi] ∧ SqT K H a xs ∧ Q (.bl (decide (lo ≤ (xs.length : Int)) && decide ((xs.length : Int) ≤ hi))) H
theorem ok_is_tuple (T : Tops K mg) : FnOk P w K mg base CX0 1 T.a_is_tuple T.fd_is_tuple p_is_tuple (sp_is_tuple K) := by
  have S := sc_is_tuple
  refine T.F_is_tuple.ok S (fun vs H Q E h => ?_) (fun cdv A outer s H vs Q E hr h => ?_)
  · obtain ⟨a, xs, lo, hi, rfl, _⟩ := h
    rfl
  · obtain ⟨a, xs, lo, hi, rfl, hs, q⟩ := h
    refine ⟨_, (pss_one (ps_ret (pe_and (pe_cmpR op_isTyB (pe_callTy call_typeS (by rfl) T.m_type (by decide +kernel) (pa_cons (pv 0) pa_nil)) (pe_bltn (v := .ty "tuple") (by rfl) T.m_tuple (by decide +kernel) rfl) (nomark _)) (pe_one (pe_chain op_le op_le (pv 1) (pe_callB call_len_seq (by rfl) T.m_len (by decide +kernel) (pa_cons (pv 0) pa_nil)) (pv 2)))))), ?_⟩
    refine ⟨.ref a, rfl, .ref a, "tuple", rfl, .tup hs, "tuple", "tuple", rfl, rfl, _, rfl, ?_⟩
    rw [decide_eq_true (rfl : ("tuple" : String) = "tuple")]
    refine iteT ⟨.int lo, rfl, .ref a, rfl, a, xs, rfl, .inr hs, lo, xs.length, rfl, rfl, _, rfl, ?_⟩
    by_cases h1 : lo ≤ (xs.length : Int)
    · rw [decide_eq_true h1]
      refine iteT ⟨.int hi, rfl, xs.length, hi, rfl, rfl, ?_⟩
      rw [decide_eq_true h1] at q
      exact q
    · rw [decide_eq_false h1]
      rw [decide_eq_false h1] at q
      exact iteF q
end
end K0

namespace K0
open PySem PySem.Spec PyProof.Rows L2 W0 W1 W2
theorem all_true (n : Nat) : (List.replicate n true).all id = true := by
  induction n with
  | zero => rfl
  | succ n ih => rw [List.replicate_succ, List.all_cons, ih]; rfl
theorem rep_snoc (n : Nat) (x : V) : List.replicate n x ++ [x] = List.replicate (n + 1) x := by
  rw [List.replicate_succ']
theorem rep_bl (n : Nat) : List.replicate n (V.bl true) = (List.replicate n true).map V.bl := by rw [List.map_replicate]
theorem same_upd_new {H H1 : Hp} {D : Addr} {o : HO} (e : Same H H1) (h : H D = none) : Same H (upd H1 D o) := fun b x z => by
  rw [upd_ne (ne_of_none z h)]
  exact e b x z
theorem small {n m : Nat} (h : n ≤ m) (hm : m < 16777216 := by decide) : n < sizeLine := by
  rw [sizeLine_eq]
  omega
section
variable {P : Program} {w : World} {K : PySem.W.Frag} {mg : Str → Option Value} {base : Heap}
def sp_are_numbers (K : PySem.W.Frag) : Sp := fun vs H Q _ => ∃ (a : Addr) (ns : List Int) (m : Nat) (lo hi : Int), vs = [.ref a, .int m, .int lo, .int hi] ∧ SqT K H a (ns.map V.int) ∧ ns.length = m ∧ m ≤ 1000 ∧ (∀ x ∈ ns, lo ≤ x ∧ x ≤ hi) ∧ ∀ H', Same H H' → Q (.bl true) H'
theorem ok_are_numbers (T : Tops K mg) : FnOk P w K mg base CX0 2 T.a_are_numbers T.fd_are_numbers p_are_numbers (sp_are_numbers K) := by
  have S := sc_are_numbers
  refine T.F_are_numbers.ok S (fun vs H Q E h => ?_) (fun cdv A outer s H vs Q E hr h => ?_)
  · obtain ⟨a, ns, m, lo, hi, rfl, _⟩ := h
    rfl
  · obtain ⟨a, ns, m, lo, hi, rfl, hs, rfl, h1000, hb, q⟩ := h
    refine ⟨_, (pss_one (ps_ret (pe_and (pe_call (ok_is_tuple T) (hr.mono (by decide)) (by rfl) T.g_is_tuple T.F_is_tuple.kp T.b_is_tuple .nil pass0 (pa_cons (pv 0) (pa_cons (pv 1) (pa_cons (pv 1) pa_nil)))) (pe_one (pe_callB (cr_all rfl) (by rfl) T.m_all (by decide +kernel) (pa_cons (pe_lc (own := [("item", 4)]) rfl S.nd (pi_tup (pv 0)) (blkOk_by (N := n_are_numbers) (sc := defScope s_are_numbers) (by decide +kernel)) (fun _ _ _ _ _ => (pg_name (i := 4) S.nd rfl (Or.inl rfl))) (fun _ _ _ _ _ => pts_nil) (fun _ _ _ _ _ => (pe_call (ok_is_number T) (hr.mono (by decide)) (by rfl) T.g_is_number T.F_is_number.kp T.b_is_number .nil pass0 (pa_cons (pv 4) (pa_cons (pv 2) (pa_cons (pv 3) pa_nil)))))) pa_nil)))))), ?_⟩
    refine ⟨.ref a, rfl, .int ns.length, rfl, .int ns.length, rfl, a, ns.map V.int, ns.length, ns.length, rfl, hs, _, rfl, ?_⟩
    rw [List.length_map, decide_eq_true (Int.le_refl _)]
    refine iteT ⟨.ref a, rfl, a, rfl, ⟨_, hs⟩, fun D nD => lc_tup (K := K) (a := a) (xs := ns.map V.int) (fun i H' => Same H H' ∧ H' D = some (.lst (List.replicate i (.bl true)))) ⟨same_new nD, upd_same⟩ (fun i H' _ h => same_tup h.1 hs) (fun i x H' hx hp => ?_) (fun H' hp => ?_)⟩
    · rw [List.getElem?_map] at hx
      obtain ⟨k, hk, rfl⟩ := Option.map_eq_some_iff.mp hx
      have hkb := hb k (List.mem_of_getElem? hk)
      have hlt : i < ns.length := (List.getElem?_eq_some_iff.mp hk).1
      refine ⟨rfl, .int k, rfl, .int lo, rfl, .int hi, rfl, k, lo, hi, rfl, _, hp.2, ?_, same_upd_new hp.1 nD, ?_⟩
      · rw [List.length_replicate]
        exact small (m := 1000) (by omega)
      · rw [upd_same, decide_eq_true hkb.1, decide_eq_true hkb.2, ← rep_snoc]
        rfl
    · rw [List.length_map] at hp
      refine ⟨D, List.replicate ns.length true, rfl, ?_, ?_⟩
      · rw [← rep_bl]
        exact SqL.of hp.2
      · rw [all_true]
        exact q H' hp.1

def sp_is_ascending (K : PySem.W.Frag) : Sp := fun vs H Q _ => ∃ (a : Addr) (xs : List V) (A : List T3), vs = [.ref a] ∧ SqT K H a xs ∧ DpAll K H xs (A.map dTri) ∧ A.Pairwise lt3 ∧ A.length ≤ 1000 ∧ ∀ H', Same H H' → Q (.bl true) H'
theorem cutT (xs : List V) : cutV xs (some 1) none = xs.drop 1 := by
  unfold cutV
  rw [show HT.sIx xs.length 0 (some 1) = min 1 xs.length from HT.sIx_nat xs.length 0 1, HT.sIx_none]
  cases xs with
  | nil => rfl
  | cons x r =>
    have e : min 1 (x :: r).length = 1 := by
      rw [List.length_cons]
      omega
    rw [e]
    show List.take ((x :: r).length - 1) r = r
    rw [List.length_cons, Nat.add_sub_cancel]
    exact List.take_length
theorem walk_zipT {K : PySem.W.Frag} {a b : Addr} {xs ys : List V} {n : Nat} (hn : n = min xs.length ys.length) : Walk (RZ.ItzT K a b) n (fun H => SqT K H a xs ∧ SqT K H b ys) (YPair (fun i => xs[i]?) (fun i => ys[i]?)) := by
  subst hn
  refine ⟨fun i _ hi q => ?_, fun _ q => ⟨xs, ys, q.1, q.2, by omega⟩, fun i H v H' _ q y => ?_⟩
  · have h1 : i < xs.length := by omega
    have h2 : i < ys.length := by omega
    exact ⟨xs, ys, xs[i], ys[i], q.1, q.2, List.getElem?_eq_getElem h1, List.getElem?_eq_getElem h2⟩
  · obtain ⟨T, x, z, h1, h2, h3, h4, h5⟩ := y
    exact ⟨T, x, z, h1, h2, h3, h4 xs q.1, h5 ys q.2⟩
theorem ok_is_ascending (T : Tops K mg) : FnOk P w K mg base CX0 1 T.a_is_ascending T.fd_is_ascending p_is_ascending (sp_is_ascending K) := by
  have S := sc_is_ascending
  refine T.F_is_ascending.ok S (fun vs H Q E h => ?_) (fun cdv A outer s H vs Q E hr h => ?_)
  · obtain ⟨a, xs, A, rfl, _⟩ := h
    rfl
  · obtain ⟨a, xs, A, rfl, hs, hd, hp, h1000, q⟩ := h
    refine ⟨_, (pss_one (ps_ret (pe_callB (cr_all rfl) (by rfl) T.m_all (by decide +kernel) (pa_cons (pe_lc (own := [("first", 1), ("second", 2)]) rfl S.nd (RZ.pi_zipA (by rfl) T.m_zip (pa_cons (pv 0) (pa_cons (pe_slice (sl_tupK (K := K)) (pv 0) (po_some pe_int) po_none) pa_nil))) (blkOk_by (N := n_is_ascending) (sc := defScope s_is_ascending) (by decide +kernel)) (fun _ _ _ _ _ => (pg_tupK (K := K) (n := 2) rfl (pgs_cons (pg_name (i := 1) S.nd rfl (Or.inl rfl)) (pgs_cons (pg_name (i := 2) S.nd rfl (Or.inl rfl)) pgs_nil)))) (fun _ _ _ _ _ => pts_nil) (fun _ _ _ _ _ => (pe_cmpR (op_ltK (K := K) hr.units0) (pv 1) (pv 2) (nomark _)))) pa_nil)))), ?_⟩
    have hlen := dps_len hd
    rw [List.length_map] at hlen
    refine ⟨.ref a, rfl, .ref a, rfl, 1, rfl, a, xs, rfl, hs, fun b H1 e1 hb => ?_⟩
    rw [cutT] at hb
    refine ⟨a, b, xs, xs.drop 1, rfl, .inr ⟨same_tup e1 hs, hb, fun D nD => ?_⟩⟩
    refine lc_it (walk_zipT (K := K) (a := a) (b := b) (xs := xs) (ys := xs.drop 1) (n := xs.length - 1) (by rw [List.length_drop]; omega)) (D := D) (H1 := H1) (fun i H' => Same H H' ∧ Same H1 H' ∧ H' D = some (.lst (List.replicate i (.bl true))))
        ⟨same_upd_new e1 (e1.free nD), same_new nD, upd_same⟩ (fun i H' _ h => ⟨same_tup h.1 hs, same_tup h.2.1 hb⟩) (fun i x H' H2 hi hp' hy => ?step) (fun H' hp' => ?fin)
    case step =>
      obtain ⟨TT, x1, x2, rfl, nT, rfl, g1, g2⟩ := hy
      have g2' : xs[i + 1]? = some x2 := by
        have g3 : (xs.drop 1)[i]? = some x2 := g2
        rw [List.getElem?_drop, Nat.add_comm] at g3
        exact g3
      obtain ⟨t1, k1, _, d1⟩ := get_tri hd g1
      obtain ⟨t2, k2, _, d2⟩ := get_tri hd g2'
      have eT : Same H (upd H' TT (.tup [x1, x2])) := hp'.1.trans (same_new nT)
      obtain ⟨b1, rfl, s1⟩ := dp_tri (dp_same eT _ _ d1)
      obtain ⟨b2, rfl, s2⟩ := dp_tri (dp_same eT _ _ d2)
      have lt : lt3 t1 t2 := by
        have hi1 := (List.getElem?_eq_some_iff.mp k1)
        have hi2 := (List.getElem?_eq_some_iff.mp k2)
        obtain ⟨l1, rfl⟩ := hi1
        obtain ⟨l2, rfl⟩ := hi2
        exact List.pairwise_iff_getElem.mp hp i (i + 1) l1 l2 (Nat.lt_succ_self i)
      have nDT : D ≠ TT := ne_of_none hp'.2.2 nT
      refine ⟨TT, [.ref b1, .ref b2], rfl, SqT.of upd_same, rfl, .ref b1, [.ref b2], rfl, .ref b2, [], rfl, rfl, ?_⟩
      refine ⟨rfl, .ref b1, rfl, .ref b2, rfl, b1, b2, tri t1, tri t2, rfl, rfl, s1, s2, _, (upd_ne nDT).trans hp'.2.2, ?_, same_upd_new eT (e1.free nD), same_upd_new (hp'.2.1.trans (same_new nT)) nD, ?_⟩
      · rw [List.length_replicate]
        exact small (m := 1000) (by omega)
      · rw [upd_same, show HT.lexLt (tri t1) (tri t2) = true from lt, rep_snoc]
    case fin =>
      refine ⟨D, List.replicate (xs.length - 1) true, rfl, ?_, ?_⟩
      · rw [← rep_bl]
        exact SqL.of hp'.2.2
      · rw [all_true]
        exact q H' hp'.1
end
end K0

namespace K0
open PySem PySem.Spec PyProof.Rows L2 W0 W1 W2
section
variable {P : Program} {w : World} {K : PySem.W.Frag} {mg : Str → Option Value} {base : Heap}
def sp_is_arrow (K : PySem.W.Frag) : Sp := fun vs H Q _ => ∃ (v : V) (n : Int) (t : T3), vs = [v, .int n] ∧ Dp K H v (dTri t) ∧ InW n t ∧ Q (.bl true) H
theorem ok__is_arrow (T : Tops K mg) : FnOk P w K mg base CX0 2 T.a__is_arrow T.fd__is_arrow p__is_arrow (sp_is_arrow K) := by
  have S := sc__is_arrow
  refine T.F__is_arrow.ok S (fun vs H Q E h => ?_) (fun cdv A outer s H vs Q E hr h => ?_)
  · obtain ⟨v, n, t, rfl, _⟩ := h
    rfl
  · obtain ⟨v, n, ⟨k, f, e⟩, rfl, hd, hi, q⟩ := h
    refine ⟨_, (pss_cons (ps_if (pt_not (pt_val (pe_call (ok_is_tuple T) (hr.mono (by decide)) (by rfl) T.g_is_tuple T.F_is_tuple.kp T.b_is_tuple .nil pass0 (pa_cons (pv 0) (pa_cons pe_int (pa_cons pe_int pa_nil)))))) (pss_one (ps_ret pe_bl)) pss_nil)
      (pss_cons (ps_asg (pv 0) (pg_tupK (K := K) (n := 3) rfl (pgs_cons (pg_name (i := 2) S.nd rfl (Or.inl rfl)) (pgs_cons (pg_name (i := 3) S.nd rfl (Or.inl rfl)) (pgs_cons (pg_name (i := 4) S.nd rfl (Or.inl rfl)) pgs_nil)))))
      (pss_cons (ps_if (pt_not (pt_val (pe_call (ok_is_number T) (hr.mono (by decide)) (by rfl) T.g_is_number T.F_is_number.kp T.b_is_number .nil pass0 (pa_cons (pv 2) (pa_cons pe_int (pa_cons (pe_glob (v := .int (2)) (by rfl) T.c_LAST_KIND ⟨_, rfl⟩) pa_nil)))))) (pss_one (ps_ret pe_bl)) pss_nil)
      (pss_one (ps_ret (pe_and (pe_call (ok_is_number T) (hr.mono (by decide)) (by rfl) T.g_is_number T.F_is_number.kp T.b_is_number .nil pass0 (pa_cons (pv 3) (pa_cons pe_int (pa_cons (pe_op op_sub (pv 1) pe_int) pa_nil)))) (pe_one (pe_call (ok_is_number T) (hr.mono (by decide)) (by rfl) T.g_is_number T.F_is_number.kp T.b_is_number .nil pass0 (pa_cons (pv 4) (pa_cons pe_int (pa_cons (pe_op op_sub (pv 1) pe_int) pa_nil))))))))))), ?_⟩
    obtain ⟨a, rfl, hs⟩ := dp_tri hd
    have a1 : decide ((0 : Int) ≤ k) = true := decide_eq_true hi.k0
    have a2 : decide (k ≤ (2 : Int)) = true := decide_eq_true hi.k2
    have a3 : decide ((0 : Int) ≤ f) = true := decide_eq_true hi.f0
    have a4 : decide (f ≤ n - 1) = true := decide_eq_true (Int.le_sub_one_of_lt hi.fn)
    have a5 : decide ((0 : Int) ≤ e) = true := decide_eq_true hi.e0
    have a6 : decide (e ≤ n - 1) = true := decide_eq_true (Int.le_sub_one_of_lt hi.en)
    refine ⟨.ref a, rfl, a, _, 3, 3, rfl, hs, true, rfl, ?_⟩
    refine ⟨.ref a, rfl, a, [.int k, .int f, .int e], rfl, hs, rfl, .int k, _, rfl, .int f, _, rfl, .int e, _, rfl, rfl, ?_⟩
    refine ⟨.int k, rfl, k, 0, 2, rfl, true, by rw [a1, a2]; rfl, ?_⟩
    refine ⟨.int f, rfl, .int n, rfl, n, 1, rfl, rfl, f, 0, n - 1, rfl, true, by rw [a3, a4]; rfl, ?_⟩
    refine ⟨.int e, rfl, .int n, rfl, n, 1, rfl, rfl, e, 0, n - 1, rfl, ?_⟩
    rw [a5, a6]
    exact q
def sp_is_web (K : PySem.W.Frag) : Sp := fun vs H Q _ => ∃ (v : V) (n : Int) (A : List T3), vs = [v] ∧ Dp K H v (dWeb n A) ∧ WOk n A ∧ ∀ H', Same H H' → Q (.bl true) H'
theorem ok__is_web (T : Tops K mg) : FnOk P w K mg base CX0 3 T.a__is_web T.fd__is_web p__is_web (sp_is_web K) := by
  have S := sc__is_web
  refine T.F__is_web.ok S (fun vs H Q E h => ?_) (fun cdv AA outer s H vs Q E hr h => ?_)
  · obtain ⟨v, n, A, rfl, _⟩ := h
    rfl
  · obtain ⟨v, n, A, rfl, hd, ok, q⟩ := h
    refine ⟨_, (pss_cons (ps_if (pt_not (pt_val (pe_call (ok_is_tuple T) (hr.mono (by decide)) (by rfl) T.g_is_tuple T.F_is_tuple.kp T.b_is_tuple .nil pass0 (pa_cons (pv 0) (pa_cons pe_int (pa_cons pe_int pa_nil)))))) (pss_one (ps_ret pe_bl)) pss_nil)
      (pss_cons (ps_asg (pv 0) (pg_tupK (K := K) (n := 2) rfl (pgs_cons (pg_name (i := 1) S.nd rfl (Or.inr rfl)) (pgs_cons (pg_name (i := 2) S.nd rfl (Or.inl rfl)) pgs_nil))))
      (pss_cons (ps_if ((pw_or (pt_not (pt_val (pe_call (ok_is_number T) (hr.mono (by decide)) (by rfl) T.g_is_number T.F_is_number.kp T.b_is_number .nil pass0 (pa_cons (pv 1) (pa_cons pe_int (pa_cons (pe_glob (v := .int (200)) (by rfl) T.c_MOST_WORLDS ⟨_, rfl⟩) pa_nil)))))) (pw_or1 (pt_not (pt_val (pe_call (ok_is_tuple T) (hr.mono (by decide)) (by rfl) T.g_is_tuple T.F_is_tuple.kp T.b_is_tuple .nil pass0 (pa_cons (pv 2) (pa_cons pe_int (pa_cons (pe_glob (v := .int (1000)) (by rfl) T.c_MOST_ARROWS ⟨_, rfl⟩) pa_nil))))))))).pt (pss_one (ps_ret pe_bl)) pss_nil)
      (pss_one (ps_ret (pe_and (pe_callB (cr_all rfl) (by rfl) T.m_all (by decide +kernel) (pa_cons (pe_lc (own := [("arrow", 3)]) rfl S.nd (pi_tup (pv 2)) (blkOk_by (N := n__is_web) (sc := defScope s__is_web) (by decide +kernel)) (fun _ _ _ _ _ => (pg_name (i := 3) S.nd rfl (Or.inl rfl))) (fun _ _ _ _ _ => pts_nil) (fun _ _ _ _ _ => (pe_call (ok__is_arrow T) (hr.mono (by decide)) (by rfl) T.g__is_arrow T.F__is_arrow.kp T.b__is_arrow .nil pass0 (pa_cons (pv 3) (pa_cons (pv 1) pa_nil))))) pa_nil)) (pe_one (pe_call (ok_is_ascending T) (hr.mono (by decide)) (by rfl) T.g_is_ascending T.F_is_ascending.kp T.b_is_ascending .nil pass0 (pa_cons (pv 2) pa_nil))))))))), ?_⟩
    obtain ⟨a, b, xs, rfl, hs, ht, hda⟩ := dp_web hd
    have hlen := dps_len hda
    rw [List.length_map] at hlen
    have h1000 := ok.len
    have a1 : decide ((1 : Int) ≤ n) = true := decide_eq_true ok.n1
    have a2 : decide (n ≤ (200 : Int)) = true := decide_eq_true ok.n2
    have a3 : decide ((0 : Int) ≤ (xs.length : Int)) = true := decide_eq_true (by omega)
    have a4 : decide ((xs.length : Int) ≤ (1000 : Int)) = true := decide_eq_true (by omega)
    refine ⟨.ref a, rfl, a, _, 2, 2, rfl, hs, true, rfl, ?_⟩
    refine ⟨.ref a, rfl, a, [.int n, .ref b], rfl, hs, rfl, .int n, _, rfl, .ref b, _, rfl, rfl, ?_⟩
    refine ⟨.int n, rfl, n, 1, 200, rfl, true, by rw [a1, a2]; rfl, ?_⟩
    refine ⟨.ref b, rfl, b, xs, 0, 1000, rfl, ht, true, by rw [a3, a4]; rfl, ?_⟩
    refine ⟨.ref b, rfl, b, rfl, ⟨_, ht⟩, fun D nD => lc_tup (K := K) (a := b) (xs := xs) (fun i H' => Same H H' ∧ H' D = some (.lst (List.replicate i (.bl true)))) ⟨same_new nD, upd_same⟩ (fun i H' _ h => same_tup h.1 ht) (fun i x H' hx hp => ?_) (fun H' hp => ?_)⟩
    · obtain ⟨t, k1, km, d1⟩ := get_tri hda hx
      have hi : i < xs.length := (List.getElem?_eq_some_iff.mp hx).1
      refine ⟨rfl, x, rfl, .int n, rfl, x, n, t, rfl, dp_same hp.1 _ _ d1, ok.all t km, _, hp.2, ?_, same_upd_new hp.1 nD, ?_⟩
      · rw [List.length_replicate]
        exact small (m := 1000) (by omega)
      · rw [upd_same, rep_snoc]
    · refine ⟨D, List.replicate xs.length true, rfl, ?_, ?_⟩
      · rw [← rep_bl]
        exact SqL.of hp.2
      · rw [all_true]
        refine ⟨true, rfl, .ref b, rfl, b, xs, A, rfl, same_tup hp.1 ht, dps_same hp.1 _ _ hda, ok.asc, ok.len, fun H2 e2 => q H2 (hp.1.trans e2)⟩
def sp_need_web (K : PySem.W.Frag) : Sp := fun vs H Q _ => ∃ (v : V) (n : Int) (A : List T3), vs = [v] ∧ Dp K H v (dWeb n A) ∧ WOk n A ∧ ∀ H', Same H H' → Q v H'
theorem ok_need_web (T : Tops K mg) : FnOk P w K mg base CX0 4 T.a_need_web T.fd_need_web p_need_web (sp_need_web K) := by
  have S := sc_need_web
  refine T.F_need_web.ok S (fun vs H Q E h => ?_) (fun cdv AA outer s H vs Q E hr h => ?_)
  · obtain ⟨v, n, A, rfl, _⟩ := h
    rfl
  · obtain ⟨v, n, A, rfl, hd, ok, q⟩ := h
    refine ⟨_, (pss_cons (ps_if (pt_not (pt_val (pe_call (ok__is_web T) (hr.mono (by decide)) (by rfl) T.g__is_web T.F__is_web.kp T.b__is_web .nil pass0 (pa_cons (pv 0) pa_nil)))) (pss_one ps_never) pss_nil)
      (pss_one (ps_ret (pv 0)))), ?_⟩
    exact ⟨v, rfl, v, n, A, rfl, hd, ok, fun H' e => ⟨true, rfl, v, rfl, q H' e⟩⟩
def sp_is_way : Sp := fun vs H Q _ => ∃ i : Int, vs = [.int i] ∧ -3 ≤ i ∧ i ≤ 2 ∧ Q (.bl true) H
theorem ok_is_way (T : Tops K mg) : FnOk P w K mg base CX0 2 T.a_is_way T.fd_is_way p_is_way sp_is_way := by
  have S := sc_is_way
  refine T.F_is_way.ok S (fun vs H Q E h => ?_) (fun cdv AA outer s H vs Q E hr h => ?_)
  · obtain ⟨i, rfl, _⟩ := h
    rfl
  · obtain ⟨i, rfl, h1, h2, q⟩ := h
    refine ⟨_, (pss_one (ps_ret (pe_call (ok_is_number T) (hr.mono (by decide)) (by rfl) T.g_is_number T.F_is_number.kp T.b_is_number .nil pass0 (pa_cons (pv 0) (pa_cons (pe_glob (v := .int (-3)) (by rfl) T.c_FIRST_WAY ⟨_, rfl⟩) (pa_cons (pe_glob (v := .int (2)) (by rfl) T.c_LAST_KIND ⟨_, rfl⟩) pa_nil)))))), ?_⟩
    refine ⟨.int i, rfl, i, -3, 2, rfl, ?_⟩
    rw [decide_eq_true h1, decide_eq_true h2]
    exact q
def sp_turned_way : Sp := fun vs H Q _ => ∃ i : Int, vs = [.int i] ∧ Q (.int (-1 - i)) H
theorem ok_turned_way (T : Tops K mg) : FnOk P w K mg base CX0 1 T.a_turned_way T.fd_turned_way p_turned_way sp_turned_way := by
  have S := sc_turned_way
  refine T.F_turned_way.ok S (fun vs H Q E h => ?_) (fun cdv AA outer s H vs Q E hr h => ?_)
  · obtain ⟨i, rfl, _⟩ := h
    rfl
  · obtain ⟨i, rfl, q⟩ := h
    refine ⟨_, (pss_one (ps_ret (pe_op op_sub (pe_un un_neg pe_int) (pv 0)))), ?_⟩
    exact ⟨1, rfl, .int i, rfl, -1, i, rfl, rfl, q⟩
def sp_need_world (K : PySem.W.Frag) : Sp := fun vs H Q _ => ∃ (v : V) (n : Int) (A : List T3) (x : Int), vs = [v, .int x] ∧ Dp K H v (dWeb n A) ∧ 0 ≤ x ∧ x < n ∧ Q (.int x) H
theorem ok_need_world (T : Tops K mg) : FnOk P w K mg base CX0 2 T.a_need_world T.fd_need_world p_need_world (sp_need_world K) := by
  have S := sc_need_world
  refine T.F_need_world.ok S (fun vs H Q E h => ?_) (fun cdv AA outer s H vs Q E hr h => ?_)
  · obtain ⟨v, n, A, x, rfl, _⟩ := h
    rfl
  · obtain ⟨v, n, A, x, rfl, hd, h1, h2, q⟩ := h
    refine ⟨_, (pss_cons (ps_if (pt_not (pt_val (pe_call (ok_is_number T) (hr.mono (by decide)) (by rfl) T.g_is_number T.F_is_number.kp T.b_is_number .nil pass0 (pa_cons (pv 1) (pa_cons pe_int (pa_cons (pe_op op_sub (pe_ix (ix_tupK (K := K)) (pv 0) pe_int (fun _ _ => rfl)) pe_int) pa_nil)))))) (pss_one ps_never) pss_nil)
      (pss_one (ps_ret (pv 1)))), ?_⟩
    obtain ⟨a, b, xs, rfl, hs, ht, hda⟩ := dp_web hd
    have a1 : decide ((0 : Int) ≤ x) = true := decide_eq_true h1
    have a2 : decide (x ≤ n - 1) = true := decide_eq_true (Int.le_sub_one_of_lt h2)
    refine ⟨.int x, rfl, .ref a, rfl, a, [.int n, .ref b], 0, .int n, rfl, rfl, hs, atI_nat (j := 0) rfl, n, 1, rfl, rfl, x, 0, n - 1, rfl, true, by rw [a1, a2]; rfl, ?_⟩
    exact ⟨.int x, rfl, q⟩
end
end K0

namespace K0
open PySem PySem.Spec PyProof.Rows L2 W0 W1 W2

/-! ### a dict comprehension over anything walked -/
theorem dc_it {J : It} {n : Nat} {G : Hp → Prop} {Y : Nat → Hp → V → Hp → Prop} (wk : Walk J n G Y) {g : TG} {tt : TT} {tk tv : TE} {vs : List Nat} {σ : L2.St} {H1 : Hp} {D : Addr} {Qd : Hp → Prop} (Pv : Nat → Hp → Prop) (h0 : Pv 0 (upd H1 D (.dK []))) (hG : ∀ i H, i ≤ n → Pv i H → G H)
    (hs : ∀ i x H H', i < n → Pv i H → Y i H x H' → g x (wipe σ vs) H' fun σ2 H2 => wipe σ2 vs = wipe σ vs ∧ tt σ2 H2 fun b H3 =>
      if b = true then tk σ2 H3 fun y H4 => tv σ2 H4 fun z H5 => ∃ kvs k, y = kV k ∧ H5 D = some (.dK kvs) ∧ kvs.length < sizeLine ∧ Pv (i + 1) (upd H5 D (.dK (putK kvs k z))) else Pv (i + 1) H3) (hd : ∀ H, Pv n H → Qd H) :
    ∃ W : Nat → Nat → Hp → Prop, (∃ m, W 0 m (upd H1 D (.dK []))) ∧ ∀ i m H, W i m H →
      (J.stop i H ∧ Qd H) ∨ (J.go i H ∧ ∃ Nx : Hp → Prop, (∀ H', Nx H' → ∃ m', m' < m ∧ W (i + 1) m' H') ∧ ∀ x H', J.yld i H x H' → g x (wipe σ vs) H' fun σ2 H2 => wipe σ2 vs = wipe σ vs ∧ tt σ2 H2 fun b H3 =>
        if b = true then tk σ2 H3 fun y H4 => tv σ2 H4 fun z H5 => ∃ kvs k, y = kV k ∧ H5 D = some (.dK kvs) ∧ kvs.length < sizeLine ∧ Nx (upd H5 D (.dK (putK kvs k z))) else Nx H3) := by
  refine ⟨fun i left H => left + i = n ∧ Pv i H, ⟨n, rfl, h0⟩, fun i left H hw => ?_⟩
  obtain ⟨e, p⟩ := hw
  cases left with
  | zero =>
    obtain rfl : i = n := by omega
    exact Or.inl ⟨wk.stops H (hG i H (Nat.le_refl _) p), hd H p⟩
  | succ left =>
    have hi : i < n := by omega
    have hg := hG i H (Nat.le_of_lt hi) p
    exact Or.inr ⟨wk.goes i H hi hg, Pv (i + 1), fun H' p' => ⟨left, Nat.lt_succ_self _, by omega, p'⟩, fun x H' y => hs i x H H' hi p (wk.yields i H x H' hi hg y)⟩

/-! ### where ways lead -/
def ledF (w x : Int) (t : T3) : Option Int := if 0 ≤ w then (if t.1 = w ∧ t.2.1 = x then some t.2.2 else none) else (if t.1 = -1 - w ∧ t.2.2 = x then some t.2.1 else none)
def ledS (A : List T3) (w x : Int) : List Int := A.filterMap (ledF w x)
theorem ledS_snoc (A : List T3) (t : T3) (w x : Int) : ledS (A ++ [t]) w x = ledS A w x ++ (ledF w x t).toList := by
  unfold ledS
  rw [List.filterMap_append]
  congr 1
abbrev In (i : Nat) (w : Int) : Prop := -3 ≤ w ∧ w < -3 + (i : Int)
structure Lay (H0 H : Hp) (d : Addr) (n i : Nat) (r : Int → Addr) (c : Int → Nat → Addr) (L : Int → Nat → List Int) : Prop where
  dict : ∃ kvs, H d = some (.dK kvs) ∧ kvs.length ≤ i ∧ ∀ w, In i w → valV kvs (Sum.inl w) = some (.ref (r w))
  row : ∀ w, In i w → H (r w) = some (.lst ((List.range n).map fun x => V.ref (c w x)))
  cell : ∀ w x, In i w → x < n → H (c w x) = some (.lst ((L w x).map V.int))
  inj : ∀ w x w' x', In i w → In i w' → x < n → x' < n → c w x = c w' x' → w = w' ∧ x = x'
  apart : ∀ w x w', In i w → In i w' → x < n → c w x ≠ r w'
  newd : H0 d = none
  newr : ∀ w, In i w → H0 (r w) = none
  newc : ∀ w x, In i w → x < n → H0 (c w x) = none
  same : Same H0 H
/-- one more at the end of a cell -/
theorem Lay.add {H0 H : Hp} {d : Addr} {n i : Nat} {r : Int → Addr} {c : Int → Nat → Addr} {L : Int → Nat → List Int} (l : Lay H0 H d n i r c L) {w : Int} {x : Nat} (hw : In i w) (hx : x < n) (e : Int) :
    Lay H0 (upd H (c w x) (.lst ((L w x).map V.int ++ [.int e]))) d n i r c (fun w' x' => if w' = w ∧ x' = x then L w' x' ++ [e] else L w' x') := by
  have hc := l.cell w x hw hx
  obtain ⟨kvs, hd, h1, h2⟩ := l.dict
  have ndc : d ≠ c w x := ne_of hd hc (by intro z; cases z)
  refine ⟨⟨kvs, (upd_ne ndc).trans hd, h1, h2⟩, fun w' h => ?_, fun w' x' h h' => ?_, l.inj, l.apart, l.newd, l.newr, l.newc, same_upd_new l.same (l.newc w x hw hx)⟩
  · rw [upd_ne (l.apart w x w' hw h hx).symm]
    exact l.row w' h
  · by_cases q : w' = w ∧ x' = x
    · obtain ⟨rfl, rfl⟩ := q
      rw [upd_same, if_pos ⟨rfl, rfl⟩, List.map_append]
      rfl
    · rw [if_neg q, upd_ne ?_]
      · exact l.cell w' x' h h'
      · intro z
        exact q (l.inj w' x' w x h hw h' hx z)
theorem dget {H : Hp} {d : Addr} {kvs : List (Key × V)} {k : Int} {v : V} (h : H d = some (.dK kvs)) (e : valV kvs (Sum.inl k) = some v) : DGet H d (.int k) (some v) := by
  rw [← e]
  exact DGet.k (k := Sum.inl k) h
theorem range_get {n x : Nat} (h : x < n) : (List.range n)[x]? = some x := by
  rw [List.getElem?_range h]

section
variable {P : Program} {w : World} {K : PySem.W.Frag} {mg : Str → Option Value} {base : Heap}
def sp_leads_of (K : PySem.W.Frag) : Sp := fun vs H Q _ => ∃ (v : V) (n : Nat) (A : List T3), vs = [v] ∧ Dp K H v (dWeb n A) ∧ WOk n A ∧ ∀ H' d r c L, Lay H H' d n 6 r c L → (∀ w x, In 6 w → x < n → L w x = ledS A w x) → Q (.ref d) H'
theorem ok_leads_of (T : Tops K mg) : FnOk P w K mg base CX0 2 T.a_leads_of T.fd_leads_of p_leads_of (sp_leads_of K) := by
  have S := sc_leads_of
  refine T.F_leads_of.ok S (fun vs H Q E h => ?_) (fun cdv AA outer s H vs Q E hr h => ?_)
  · obtain ⟨v, n, A, rfl, _⟩ := h
    rfl
  · obtain ⟨v, n, A, rfl, hd, ok, q⟩ := h
    refine ⟨_, (pss_cons (ps_asg (pv 0) (pg_tupK (K := K) (n := 2) rfl (pgs_cons (pg_name (i := 1) S.nd rfl (Or.inr rfl)) (pgs_cons (pg_name (i := 2) S.nd rfl (Or.inl rfl)) pgs_nil))))
      (pss_cons (ps_setDc (i := 3) (own := [("way", 7)]) rfl S.nd rfl rfl (sw_dict rfl rfl rfl (by decide +kernel)) (pi_range2 (by rfl) T.m_range (pa_cons (pe_glob (v := .int (-3)) (by rfl) T.c_FIRST_WAY ⟨_, rfl⟩) (pa_cons (pe_op op_add (pe_glob (v := .int (2)) (by rfl) T.c_LAST_KIND ⟨_, rfl⟩) pe_int) pa_nil))) (blkOk_by (N := n_leads_of) (sc := defScope s_leads_of) (by decide +kernel)) (fun _ _ _ _ _ => (pg_name (i := 7) S.nd rfl (Or.inl rfl))) (fun _ _ _ _ _ => pts_nil) (fun _ _ _ _ _ => (pv 7)) (fun _ _ _ _ _ => (pe_lc (own := [("_", 8)]) rfl S.nd (pi_range1 (by rfl) T.m_range (pa_cons (pv 1) pa_nil)) (blk_any (defScope s_leads_of) (blkOk_by (N := n_leads_of) (sc := defScope s_leads_of) (by decide +kernel)) (by decide +kernel)) (fun _ _ _ _ _ => (pg_name (i := 8) S.nd rfl (Or.inl rfl))) (fun _ _ _ _ _ => pts_nil) (fun _ _ _ _ _ => (pe_lst pa_nil)))))
      (pss_cons (ps_for PassesOwn.never rfl (pi_tup (pv 2)) (pg_tupK (K := K) (n := 3) rfl (pgs_cons (pg_name (i := 4) S.nd rfl (Or.inl rfl)) (pgs_cons (pg_name (i := 5) S.nd rfl (Or.inl rfl)) (pgs_cons (pg_name (i := 6) S.nd rfl (Or.inl rfl)) pgs_nil)))) (pss_cons (ps_expr (pe_bm PySem.F.plainAttrs_list PySem.F.slot_list_append PySem.F.type_list_append mt_append (pe_ix (ix_listK (K := K)) (pe_dget (hu_of hr) (pv 3) (pv 4) (fun _ _ => rfl)) (pv 5) (fun _ _ => rfl)) (pa_cons (pv 6) pa_nil)))
      (pss_one (ps_expr (pe_bm PySem.F.plainAttrs_list PySem.F.slot_list_append PySem.F.type_list_append mt_append (pe_ix (ix_listK (K := K)) (pe_dget (hu_of hr) (pv 3) (pe_call (ok_turned_way T) (hr.mono (by decide)) (by rfl) T.g_turned_way T.F_turned_way.kp T.b_turned_way .nil pass0 (pa_cons (pv 4) pa_nil)) (fun _ _ => rfl)) (pv 6) (fun _ _ => rfl)) (pa_cons (pv 5) pa_nil))))))
      (pss_one (ps_ret (pv 3)))))), ?_⟩
    obtain ⟨a, b, xs, rfl, hs, ht, hda⟩ := dp_web hd
    have hn1 := ok.n1
    have hn2 := ok.n2
    -- size, arrows = web
    refine ⟨.ref a, rfl, a, [.int n, .ref b], rfl, hs, rfl, .int n, _, rfl, .ref b, _, rfl, rfl, ?_⟩
    -- leads = {way: [[] for _ in range(size)] for way in range(FIRST_WAY, LAST_KIND + 1)}
    refine ⟨2, 1, rfl, rfl, -3, 3, rfl, ⟨by decide, by decide, by decide, by decide⟩, fun d nd => ?_⟩
    refine dc_it (walk_range (lo := -3) (n := 6)) (D := d) (H1 := H) (fun i H' => ∃ r c, Lay H H' d n i r c fun _ _ => [])
      ⟨fun _ => 0, fun _ _ => 0, ⟨[], upd_same, Nat.le_refl _, fun w h => absurd h.2 (by have := h.1; omega)⟩, fun w h => absurd h.2 (by have := h.1; omega), fun w x h => absurd h.2 (by have := h.1; omega), fun w x w' x' h => absurd h.2 (by have := h.1; omega),
        fun w x w' h => absurd h.2 (by have := h.1; omega), nd, fun w h => absurd h.2 (by have := h.1; omega), fun w x h => absurd h.2 (by have := h.1; omega), same_new nd⟩
      (fun _ _ _ _ => trivial) (fun i x H1 H2 hi hp hy => ?_) (fun H1 hp => ?_)
    · obtain ⟨rfl, rfl⟩ := hy
      obtain ⟨r, c, l⟩ := hp
      refine ⟨rfl, .int (-3 + i), rfl, .int n, rfl, n, rfl, by omega, by omega, fun D2 n2 => ?_⟩
      have en : ((n : Int)).toNat = n := rfl
      refine lc_range (lo := 0) (n := n) (fun j H' => Same H2 H' ∧ ∃ cs : List Addr, cs.length = j ∧ H' D2 = some (.lst (cs.map V.ref)) ∧ cs.Nodup ∧ ∀ y ∈ cs, H' y = some (.lst []) ∧ H2 y = none ∧ y ≠ D2)
        ⟨same_new n2, [], rfl, upd_same, List.nodup_nil, fun y hy => (List.not_mem_nil hy).elim⟩ (fun j H' hj hq => ?_) (fun H' hq => ?_)
      · obtain ⟨e1, cs, hcl, hcd, hcn, hca⟩ := hq
        refine ⟨rfl, Nat.zero_le _, fun y ny => ?_⟩
        have ny2 : H2 y = none := e1.free ny
        have nyD : y ≠ D2 := fun z => by
          rw [z, hcd] at ny
          cases ny
        have nyc : y ∉ cs := fun z => by
          rw [(hca y z).1] at ny
          cases ny
        refine ⟨cs.map V.ref, (upd_ne nyD.symm).trans hcd, ?_, same_upd_new (same_upd_new e1 ny2) n2, cs ++ [y], ?_, ?_, ?_, fun z hz => ?_⟩
        · rw [List.length_map, hcl]
          exact small (m := 1000) (by omega)
        · rw [List.length_append, hcl]
          rfl
        · rw [upd_same, List.map_append]
          rfl
        · refine List.nodup_append.mpr ⟨hcn, by simp, fun z hz u hu e => ?_⟩
          rw [List.mem_singleton.mp hu] at e
          rw [e] at hz
          exact nyc hz
        · rcases List.mem_append.mp hz with hz | hz
          · obtain ⟨g1, g2, g3⟩ := hca z hz
            refine ⟨?_, g2, g3⟩
            rw [upd_ne g3, upd_ne (fun e => nyc (by rw [← e]; exact hz))]
            exact g1
          · rw [List.mem_singleton.mp hz]
            refine ⟨?_, ny2, nyD⟩
            rw [upd_ne nyD]
            exact upd_same
      · obtain ⟨e1, cs, hcl, hcd, hcn, hca⟩ := hq
        obtain ⟨kvs, hkd, hkl, hkv⟩ := l.dict
        have hkd' : H' d = some (.dK kvs) := e1 _ _ hkd
        have hk : ¬ In i (-3 + (i : Int)) := fun z => by have := z.2; omega
        have dD : d ≠ D2 := ne_of_none hkd n2
        refine ⟨kvs, Sum.inl (-3 + (i : Int)), rfl, hkd', small (m := 1000) (by omega), fun w => if w = -3 + (i : Int) then D2 else r w, fun w x => if w = -3 + (i : Int) then cs.getD x 0 else c w x, ?_⟩
        have step : ∀ w, In (i + 1) w → w = -3 + (i : Int) ∨ (In i w ∧ w ≠ -3 + (i : Int)) := fun w h => by
          have h1 := h.1
          have h2 := h.2
          rw [Int.natCast_add] at h2
          by_cases z : w = -3 + (i : Int)
          · exact Or.inl z
          · exact Or.inr ⟨⟨h1, by omega⟩, z⟩
        have getc : ∀ x, x < n → cs.getD x 0 ∈ cs := fun x hx => by
          rw [List.getD_eq_getElem?_getD, List.getElem?_eq_getElem (by omega)]
          exact List.getElem_mem _
        have dc : ∀ y ∈ cs, y ≠ d := fun y hy z => by
          have h2 := (hca y hy).2.1
          rw [z, hkd] at h2
          cases h2
        refine ⟨⟨_, upd_same, ?_, fun w h => ?_⟩, fun w h => ?_, fun w x h hx => ?_, fun w x w' x' h h' hx hx' z => ?_, fun w x w' h h' hx => ?_, l.newd, fun w h => ?_, fun w x h hx => ?_, same_upd_new (l.same.trans e1) l.newd⟩
        · exact Nat.le_trans (length_putK _ _ _) (Nat.succ_le_succ hkl)
        · rw [valV_put]
          rcases step w h with rfl | ⟨h1, h2⟩
          · rw [if_pos rfl, if_pos rfl]
          · rw [if_neg (fun z => h2 (Sum.inl.inj z)), if_neg h2]
            exact hkv w h1
        · rcases step w h with rfl | ⟨h1, h2⟩
          · rw [if_pos rfl, upd_ne dD.symm, hcd]
            congr 2
            refine List.ext_getElem (by rw [List.length_map, List.length_map, List.length_range, hcl]) fun j g1 g2 => ?_
            rw [List.length_map] at g1
            rw [List.getElem_map, List.getElem_map, List.getElem_range, if_pos rfl, List.getD_eq_getElem?_getD, List.getElem?_eq_getElem g1]
            rfl
          · have hrow := l.row w h1
            rw [if_neg h2, upd_ne (ne_of hrow hkd (by intro z; cases z)), e1 _ _ hrow]
            congr 2
            refine List.map_congr_left fun x _ => ?_
            rw [if_neg h2]
        · rcases step w h with rfl | ⟨h1, h2⟩
          · rw [if_pos rfl, upd_ne (dc _ (getc x hx))]
            exact (hca _ (getc x hx)).1
          · have hcell := l.cell w x h1 hx
            rw [if_neg h2, upd_ne (ne_of hcell hkd (by intro z; cases z))]
            exact e1 _ _ hcell
        · rcases step w h with rfl | ⟨h1, h2⟩
          · rcases step w' h' with rfl | ⟨h3, h4⟩
            · rw [if_pos rfl, if_pos rfl, List.getD_eq_getElem?_getD, List.getD_eq_getElem?_getD, List.getElem?_eq_getElem (by omega), List.getElem?_eq_getElem (by omega)] at z
              exact ⟨rfl, (List.getElem_inj hcn).mp z⟩
            · rw [if_pos rfl, if_neg h4] at z
              have g := (hca _ (getc x hx)).2.1
              rw [z, l.cell w' x' h3 hx'] at g
              cases g
          · rcases step w' h' with rfl | ⟨h3, h4⟩
            · rw [if_neg h2, if_pos rfl] at z
              have g := (hca _ (getc x' hx')).2.1
              rw [← z, l.cell w x h1 hx] at g
              cases g
            · rw [if_neg h2, if_neg h4] at z
              exact l.inj w x w' x' h1 h3 hx hx' z
        · rcases step w h with rfl | ⟨h1, h2⟩
          · rw [if_pos rfl]
            rcases step w' h' with rfl | ⟨h3, h4⟩
            · rw [if_pos rfl]
              exact (hca _ (getc x hx)).2.2
            · rw [if_neg h4]
              intro z
              have g := (hca _ (getc x hx)).2.1
              rw [z, l.row w' h3] at g
              cases g
          · rw [if_neg h2]
            rcases step w' h' with rfl | ⟨h3, h4⟩
            · rw [if_pos rfl]
              exact ne_of_none (l.cell w x h1 hx) n2
            · rw [if_neg h4]
              exact l.apart w x w' h1 h3 hx
        · rcases step w h with rfl | ⟨h1, h2⟩
          · rw [if_pos rfl]
            exact l.same.free n2
          · rw [if_neg h2]
            exact l.newr w h1
        · rcases step w h with rfl | ⟨h1, h2⟩
          · rw [if_pos rfl]
            exact l.same.free (hca _ (getc x hx)).2.1
          · rw [if_neg h2]
            exact l.newc w x h1 hx
    · -- for kind, start, end in arrows
      obtain ⟨r, c, l⟩ := hp
      refine ⟨.ref b, rfl, b, rfl, ⟨_, same_tup l.same ht⟩, ?_⟩
      refine for_tup (K := K) (a := b) (xs := xs) (fun i σ H' => ∃ y4 y5 y6, σ = [some (.ref a), some (.int n), some (.ref b), some (.ref d), y4, y5, y6, none, none] ∧ ∃ L, Lay H H' d n 6 r c L ∧ ∀ w x, In 6 w → x < n → L w x = ledS (A.take i) w x)
        ⟨none, none, none, rfl, _, l, fun w x _ _ => rfl⟩ (fun i σ H' _ h => ?_) (fun i x σ H' hx h => ?_) (fun σ H' h => ?_)
      · obtain ⟨_, _, _, _, L, l', _⟩ := h
        exact same_tup l'.same ht
      · obtain ⟨y4, y5, y6, rfl, L, l', hL⟩ := h
        obtain ⟨⟨k, f, e⟩, k1, km, d1⟩ := get_tri hda hx
        obtain ⟨p, rfl, hp⟩ := dp_tri (dp_same l'.same _ _ d1)
        have iw := ok.all _ km
        obtain ⟨f', rfl⟩ : ∃ m : Nat, f = m := ⟨f.toNat, (Int.toNat_of_nonneg iw.f0).symm⟩
        obtain ⟨e', rfl⟩ : ∃ m : Nat, e = m := ⟨e.toNat, (Int.toNat_of_nonneg iw.e0).symm⟩
        have hf : f' < n := Int.ofNat_lt.mp iw.fn
        have he : e' < n := Int.ofNat_lt.mp iw.en
        have hk1 : In 6 k := ⟨by have : (0 : Int) ≤ k := iw.k0; omega, by have : k ≤ 2 := iw.k2; omega⟩
        have hk2 : In 6 (-1 - k) := ⟨by have : k ≤ 2 := iw.k2; omega, by have : (0 : Int) ≤ k := iw.k0; omega⟩
        refine ⟨p, [.int k, .int f', .int e'], rfl, hp, rfl, .int k, _, rfl, .int f', _, rfl, .int e', _, rfl, rfl, ?_⟩
        obtain ⟨kvs, hkd, _, hkv⟩ := l'.dict
        have len0 : ∀ (L : Int → Nat → List Int) (w : Int) (x : Nat) (j : Nat), L w x = ledS (A.take j) w x → ((L w x).map V.int).length ≤ 1000 := fun L w x j h => by
          rw [List.length_map, h]
          exact Nat.le_trans (List.length_filterMap_le _ _) (Nat.le_trans (List.length_take_le' _ _) ok.len)
        refine ⟨.ref d, rfl, .int k, rfl, d, .ref (r k), rfl, dget hkd (hkv k hk1), .int f', rfl, r k, _, f', .ref (c k f'), rfl, rfl, SqL.of (l'.row k hk1), atI_nat (by rw [List.getElem?_map, range_get hf]; rfl), ?_⟩
        refine ⟨.inl ⟨rfl, _, SqL.of (l'.cell k f' hk1 hf)⟩, .int e', rfl, c k f', _, .int e', rfl, rfl, l'.cell k f' hk1 hf, small (m := 1000) (len0 L k f' i (hL k f' hk1 hf)), ?_⟩
        have l2 := l'.add hk1 hf (e' : Int)
        obtain ⟨kvs2, hkd2, _, hkv2⟩ := l2.dict
        refine ⟨.ref d, rfl, .int k, rfl, k, rfl, d, .ref (r (-1 - k)), rfl, dget hkd2 (hkv2 (-1 - k) hk2), .int e', rfl, r (-1 - k), _, e', .ref (c (-1 - k) e'), rfl, rfl, SqL.of (l2.row (-1 - k) hk2), atI_nat (by rw [List.getElem?_map, range_get he]; rfl), ?_⟩
        have hne : ¬ (-1 - k = k ∧ e' = f') := fun z => by have := z.1; omega
        refine ⟨.inl ⟨rfl, _, SqL.of (l2.cell (-1 - k) e' hk2 he)⟩, .int f', rfl, c (-1 - k) e', _, .int f', rfl, rfl, l2.cell (-1 - k) e' hk2 he, ?_, ?_⟩
        · rw [if_neg hne]
          exact small (m := 1000) (len0 L (-1 - k) e' i (hL (-1 - k) e' hk2 he))
        · refine ⟨_, _, _, rfl, _, l2.add hk2 he (f' : Int), fun w x hw hx => ?_⟩
          have et : A.take (i + 1) = A.take i ++ [(k, (f' : Int), (e' : Int))] := by
            rw [List.take_add_one, k1]
            rfl
          rw [et, ledS_snoc, ← hL w x hw hx]
          have k0 : (0 : Int) ≤ k := iw.k0
          unfold ledF
          by_cases h0 : 0 ≤ w
          · rw [if_pos h0]
            have z2 : ¬ (w = -1 - k ∧ x = e') := fun z => by have := z.1; omega
            rw [if_neg z2]
            by_cases z1 : w = k ∧ x = f'
            · rw [if_pos z1, if_pos ⟨z1.1.symm, by show (f' : Int) = (x : Int); rw [z1.2]⟩]
              rfl
            · rw [if_neg z1, if_neg (fun z => z1 ⟨z.1.symm, (Int.ofNat.inj z.2).symm⟩)]
              exact (List.append_nil _).symm
          · rw [if_neg h0]
            have z1 : ¬ (w = k ∧ x = f') := fun z => by have := z.1; omega
            by_cases z2 : w = -1 - k ∧ x = e'
            · rw [if_pos z2, if_neg z1, if_pos ⟨by show k = -1 - w; have := z2.1; omega, by show (e' : Int) = (x : Int); rw [z2.2]⟩]
              rfl
            · rw [if_neg z2, if_neg z1, if_neg (fun z => z2 ⟨by have h1 : k = -1 - w := z.1; omega, (Int.ofNat.inj z.2).symm⟩)]
              exact (List.append_nil _).symm
      · obtain ⟨y4, y5, y6, rfl, L, l', hL⟩ := h
        have hlen := dps_len hda
        rw [List.length_map] at hlen
        refine ⟨.ref d, rfl, q H' d r c L l' fun w x hw hx => ?_⟩
        rw [hL w x hw hx, hlen, List.take_length]
end
end K0

namespace K0
open PySem PySem.Spec PyProof.Rows L2 W0 W1 W2

/-! ### triples in order -/
theorem lt3_iff {s t : T3} : lt3 s t ↔ s.1 < t.1 ∨ (s.1 = t.1 ∧ (s.2.1 < t.2.1 ∨ (s.2.1 = t.2.1 ∧ s.2.2 < t.2.2))) := by
  unfold lt3 tri
  rw [HT.lexLt_cons, HT.lexLt_cons, HT.lexLt_cons, HT.lexLt_nil_nil]
  by_cases a : s.1 = t.1
  · rw [if_pos a]
    by_cases b : s.2.1 = t.2.1
    · rw [if_pos b]
      by_cases c : s.2.2 = t.2.2
      · rw [if_pos c]
        constructor
        · intro z
          cases z
        · intro z
          omega
      · rw [if_neg c, decide_eq_true_eq]
        omega
    · rw [if_neg b, decide_eq_true_eq]
      omega
  · rw [if_neg a, decide_eq_true_eq]
    omega
def le3 (s t : T3) : Prop := HT.lexLt (tri t) (tri s) = false
theorem le3_iff {s t : T3} : le3 s t ↔ ¬ lt3 t s := by
  unfold le3 lt3
  cases HT.lexLt (tri t) (tri s) <;> simp
theorem T3.ext' {s t : T3} (a : s.1 = t.1) (b : s.2.1 = t.2.1) (c : s.2.2 = t.2.2) : s = t := Prod.ext a (Prod.ext b c)
theorem lt_of_le {s t : T3} (h : le3 s t) (n : s ≠ t) : lt3 s t := by
  have h1 := mt lt3_iff.mpr (le3_iff.mp h)
  refine lt3_iff.mpr ?_
  have h2 : ¬ (s.1 = t.1 ∧ s.2.1 = t.2.1 ∧ s.2.2 = t.2.2) := fun z => n (T3.ext' z.1 z.2.1 z.2.2)
  omega
theorem lt3_ne {s t : T3} (h : lt3 s t) : s ≠ t := by
  intro e
  subst e
  have := lt3_iff.mp h
  omega
theorem asc_nodup {A : List T3} (h : A.Pairwise lt3) : A.Nodup := List.Pairwise.imp (fun h => lt3_ne h) h
theorem asc_of {A : List T3} (h : A.Pairwise le3) (n : A.Nodup) : A.Pairwise lt3 := by
  refine List.Pairwise.imp₂ (fun a b h1 h2 => lt_of_le h1 h2) h n
def turn (t : T3) : T3 := (t.1, t.2.2, t.2.1)
theorem turn_turn (t : T3) : turn (turn t) = t := rfl
theorem map_nodup {α β : Type} {f : α → β} (inj : ∀ a b, f a = f b → a = b) : ∀ {l : List α}, l.Nodup → (l.map f).Nodup
  | [], _ => List.nodup_nil
  | a :: l, h => by
    obtain ⟨h1, h2⟩ := List.nodup_cons.mp h
    refine List.nodup_cons.mpr ⟨fun m => ?_, map_nodup inj h2⟩
    obtain ⟨b, hb, e⟩ := List.mem_map.mp m
    rw [inj b a e] at hb
    exact h1 hb
theorem wok_turned {n : Int} {A B : List T3} (ok : WOk n A) (p : B.Perm (A.map turn)) (h : B.Pairwise le3) : WOk n B := by
  refine ⟨ok.n1, ok.n2, by rw [p.length_eq, List.length_map]; exact ok.len, fun t ht => ?_, asc_of h (p.nodup_iff.mpr (map_nodup (fun a b e => by rw [← turn_turn a, e, turn_turn]) (asc_nodup ok.asc)))⟩
  obtain ⟨s, hs, rfl⟩ := List.mem_map.mp (p.mem_iff.mp ht)
  have i := ok.all s hs
  exact ⟨i.k0, i.k2, i.e0, i.en, i.f0, i.fn⟩

/-! ### lists of triples in the heap -/
def Trs (K : PySem.W.Frag) (H : Hp) (D : Addr) (B : List T3) : Prop := ∃ ts : List (Addr × List Int), H D = some (.lst (ts.map fun p => V.ref p.1)) ∧ ts.map (·.2) = B.map tri ∧ ∀ p ∈ ts, SqT K H p.1 (p.2.map V.int)
theorem Trs.nil {K : PySem.W.Frag} {H : Hp} {D : Addr} : Trs K (upd H D (.lst [])) D [] := ⟨[], upd_same, rfl, fun p h => (List.not_mem_nil h).elim⟩
theorem Trs.len {K : PySem.W.Frag} {H : Hp} {D : Addr} {B : List T3} {acc : List V} (h : Trs K H D B) (e : H D = some (.lst acc)) : acc.length = B.length := by
  obtain ⟨ts, e2, m, _⟩ := h
  rw [e] at e2
  cases e2
  have := congrArg List.length m
  rw [List.length_map, List.length_map] at this
  rw [List.length_map, this]
theorem Trs.acc {K : PySem.W.Frag} {H : Hp} {D : Addr} {B : List T3} (h : Trs K H D B) : ∃ acc, H D = some (.lst acc) ∧ acc.length = B.length := by
  obtain ⟨ts, e2, m, r⟩ := id h
  exact ⟨_, e2, h.len e2⟩
theorem sqT_upd {K : PySem.W.Frag} {H : Hp} {D p : Addr} {acc : List V} {o : HO} {xs : List V} (e : H D = some (.lst acc)) (h : SqT K H p xs) : SqT K (upd H D o) p xs := by
  rcases h with (h | ⟨ob, h⟩) | h
  · exact .inl (.inl ((upd_ne (ne_of h e (by intro z; cases z))).trans h))
  · exact .inl (.inr ⟨ob, (upd_ne (ne_of h e (by intro z; cases z))).trans h⟩)
  · exact .inr h
theorem Trs.same {K : PySem.W.Frag} {H H' : Hp} {D : Addr} {B : List T3} (h : Trs K H D B) (e : Same H H') : Trs K H' D B := by
  obtain ⟨ts, e2, m, r⟩ := h
  exact ⟨ts, e _ _ e2, m, fun p hp => same_tup e (r p hp)⟩
theorem Trs.push {K : PySem.W.Frag} {H : Hp} {D p : Addr} {B : List T3} {acc : List V} {t : T3} (h : Trs K H D B) (e : H D = some (.lst acc)) (hp : SqT K H p ((tri t).map V.int)) : Trs K (upd H D (.lst (acc ++ [.ref p]))) D (B ++ [t]) := by
  obtain ⟨ts, e2, m, r⟩ := h
  rw [e] at e2
  cases e2
  refine ⟨ts ++ [(p, tri t)], ?_, ?_, fun q hq => ?_⟩
  · rw [upd_same, List.map_append]
    rfl
  · rw [List.map_append, List.map_append, m]
    rfl
  · refine sqT_upd e ?_
    rcases List.mem_append.mp hq with hq | hq
    · exact r q hq
    · rw [List.mem_singleton.mp hq]
      exact hp
def unTri (l : List Int) : T3 := (l.getD 0 0, l.getD 1 0, l.getD 2 0)
theorem unTri_tri (t : T3) : unTri (tri t) = t := rfl
theorem trs_data {K : PySem.W.Frag} {H : Hp} {B : List T3} : ∀ {ts : List (Addr × List Int)}, ts.map (·.2) = B.map tri → (∀ p ∈ ts, SqT K H p.1 (p.2.map V.int)) → DpAll K H (ts.map fun p => V.ref p.1) (B.map dTri) := by
  induction B with
  | nil =>
    intro ts m _
    rw [List.map_eq_nil_iff.mp m]
    exact .nil
  | cons t B ih =>
    intro ts m r
    cases ts with
    | nil => cases m
    | cons p ts =>
      have m1 : p.2 = tri t := (List.cons.inj m).1
      refine .cons (dp_of_ints (l := tri t) ?_) (ih (List.cons.inj m).2 fun q hq => r q (List.mem_cons_of_mem _ hq))
      rw [← m1]
      exact r p List.mem_cons_self
theorem sorted_trs {K : PySem.W.Frag} {H : Hp} {D : Addr} {B : List T3} {Q : VK} (h : Trs K H D B) (q : ∀ p C H', Same H H' → Trs K H' p C → C.Perm B → C.Pairwise le3 → Q (.ref p) H') : rSortT K [.ref D] H Q := by
  obtain ⟨ts, e, m, r⟩ := h
  have tr : ∀ p ∈ ts, ∃ t ∈ B, p.2 = tri t := fun p hp => by
    have h1 : p.2 ∈ ts.map (·.2) := List.mem_map.mpr ⟨p, hp, rfl⟩
    rw [m] at h1
    obtain ⟨t, ht, e⟩ := List.mem_map.mp h1
    exact ⟨t, ht, e.symm⟩
  refine ⟨D, ts, rfl, SqL.of e, fun p hp => ⟨r p hp, ?_⟩, fun us p pm srt np => ?_⟩
  · obtain ⟨t, _, e⟩ := tr p hp
    rw [e]
    exact List.cons_ne_nil _ _
  · have e1 : us.map (·.2) = ((us.map (·.2)).map unTri).map tri := by
      rw [List.map_map]
      conv => lhs; rw [← List.map_id (us.map (·.2))]
      refine List.map_congr_left fun l hl => ?_
      obtain ⟨p, hp, e⟩ := List.mem_map.mp hl
      obtain ⟨t, _, e2⟩ := tr p (pm.mem_iff.mp hp)
      rw [← e, e2]
      rfl
    have e2 : ((us.map (·.2)).map unTri).Perm B := by
      have h1 := (pm.map (·.2)).map unTri
      have h2 : (B.map tri).map unTri = B := by
        rw [List.map_map]
        exact List.map_id'' (fun t => unTri_tri t) B
      rw [m, h2] at h1
      exact h1
    refine q p _ _ (same_new np) ⟨us, upd_same, e1, fun x hx => same_tup (same_new np) (r x (pm.mem_iff.mp hx))⟩ e2 ?_
    rw [e1] at srt
    have h3 := List.pairwise_map.mp srt
    exact h3
theorem tuple_trs {K : PySem.W.Frag} {H : Hp} {D : Addr} {C : List T3} {Q : VK} (h : Trs K H D C) (q : ∀ t H', Same H H' → Dp K H' (.ref t) (dArr C) → Q (.ref t) H') :
    rTup K [V.ref D] H Q := by
  obtain ⟨ts, e, m, r⟩ := h
  refine ⟨D, _, rfl, .inl ⟨SqL.of e, fun l nl => q l _ (same_new nl) ?_⟩⟩
  exact dp_mk nl (trs_data m r)
theorem dp_mkweb {K : PySem.W.Frag} {H : Hp} {p b : Addr} {n : Int} {C : List T3} (np : H p = none) (h : Dp K H (.ref b) (dArr C)) : Dp K (upd H p (.tup [.int n, .ref b])) (.ref p) (dWeb n C) := dp_mk np (.cons (.int n) (.cons h .nil))

section
variable {P : Program} {w : World} {K : PySem.W.Frag} {mg : Str → Option Value} {base : Heap}
def sp_led_to (K : PySem.W.Frag) : Sp := fun vs H Q _ => ∃ (v : V) (n : Nat) (A : List T3) (w : Int) (x : Nat), vs = [v, .int w, .int x] ∧ Dp K H v (dWeb n A) ∧ WOk n A ∧ In 6 w ∧ x < n ∧ ∀ H' p, Same H H' → SqT K H' p ((ledS A w x).map V.int) → Q (.ref p) H'
theorem ok_led_to (T : Tops K mg) : FnOk P w K mg base CX0 5 T.a_led_to T.fd_led_to p_led_to (sp_led_to K) := by
  have S := sc_led_to
  refine T.F_led_to.ok S (fun vs H Q E h => ?_) (fun cdv AA outer s H vs Q E hr h => ?_)
  · obtain ⟨v, n, A, w, x, rfl, _⟩ := h
    rfl
  · obtain ⟨v, n, A, w, x, rfl, hd, ok, hw, hx, q⟩ := h
    refine ⟨_, (pss_cons (ps_expr (pe_call (ok_need_web T) (hr.mono (by decide)) (by rfl) T.g_need_web T.F_need_web.kp T.b_need_web .nil pass0 (pa_cons (pv 0) pa_nil)))
      (pss_cons (ps_if (pt_not (pt_val (pe_call (ok_is_way T) (hr.mono (by decide)) (by rfl) T.g_is_way T.F_is_way.kp T.b_is_way .nil pass0 (pa_cons (pv 1) pa_nil)))) (pss_one ps_never) pss_nil)
      (pss_cons (ps_expr (pe_call (ok_need_world T) (hr.mono (by decide)) (by rfl) T.g_need_world T.F_need_world.kp T.b_need_world .nil pass0 (pa_cons (pv 0) (pa_cons (pv 2) pa_nil))))
      (pss_one (ps_ret (pe_callTy (call_tupleK (K := K)) (by rfl) T.m_tuple (by decide +kernel) (pa_cons (pe_ix (ix_listK (K := K)) (pe_dget (hu_of hr) (pe_call (ok_leads_of T) (hr.mono (by decide)) (by rfl) T.g_leads_of T.F_leads_of.kp T.b_leads_of .nil pass0 (pa_cons (pv 0) pa_nil)) (pv 1) (fun _ _ => rfl)) (pv 2) (fun _ _ => rfl)) pa_nil))))))), ?_⟩
    have hw1 := hw.1
    have hw2 := hw.2
    refine ⟨v, rfl, v, n, A, rfl, hd, ok, fun H1 e1 => ?_⟩
    refine ⟨.int w, rfl, w, rfl, hw1, by omega, true, rfl, ?_⟩
    refine ⟨v, rfl, .int x, rfl, v, n, A, x, rfl, dp_same e1 _ _ hd, by omega, by omega, ?_⟩
    refine ⟨v, rfl, v, n, A, rfl, dp_same e1 _ _ hd, ok, fun H2 d r c L l hL => ?_⟩
    obtain ⟨kvs, hkd, _, hkv⟩ := l.dict
    refine ⟨.int w, rfl, d, .ref (r w), rfl, dget hkd (hkv w hw), .int x, rfl, r w, _, x, .ref (c w x), rfl, rfl, SqL.of (l.row w hw), atI_nat (by rw [List.getElem?_map, range_get hx]; rfl), ?_⟩
    refine ⟨c w x, _, rfl, .inl ⟨SqL.of (l.cell w x hw hx), fun p np => ?_⟩⟩
    refine q _ p ((e1.trans l.same).trans (same_new np)) (SqT.of ?_)
    rw [upd_same, hL w x hw hx]
def sp_web_turned (K : PySem.W.Frag) : Sp := fun vs H Q _ => ∃ (v : V) (n : Int) (A : List T3), vs = [v] ∧ Dp K H v (dWeb n A) ∧ WOk n A ∧ ∀ H' v' B, Same H H' → Dp K H' v' (dWeb n B) → B.Perm (A.map turn) → B.Pairwise le3 → Q v' H'
theorem ok_web_turned (T : Tops K mg) : FnOk P w K mg base CX0 5 T.a_web_turned T.fd_web_turned p_web_turned (sp_web_turned K) := by
  have S := sc_web_turned
  refine T.F_web_turned.ok S (fun vs H Q E h => ?_) (fun cdv AA outer s H vs Q E hr h => ?_)
  · obtain ⟨v, n, A, rfl, _⟩ := h
    rfl
  · obtain ⟨v, n, A, rfl, hd, ok, q⟩ := h
    refine ⟨_, (pss_cons (ps_asg (pe_call (ok_need_web T) (hr.mono (by decide)) (by rfl) T.g_need_web T.F_need_web.kp T.b_need_web .nil pass0 (pa_cons (pv 0) pa_nil)) (pg_tupK (K := K) (n := 2) rfl (pgs_cons (pg_name (i := 1) S.nd rfl (Or.inl rfl)) (pgs_cons (pg_name (i := 2) S.nd rfl (Or.inl rfl)) pgs_nil))))
      (pss_one (ps_ret (pe_tup (pa_cons (pv 1) (pa_cons (pe_callTy (call_tupleK (K := K)) (by rfl) T.m_tuple (by decide +kernel) (pa_cons (pe_callB (cr_sortTK (K := K)) (by rfl) T.m_sorted (by decide +kernel) (pa_cons (pe_lc (own := [("kind", 3), ("start", 4), ("end", 5)]) rfl S.nd (pi_tup (pv 2)) (blkOk_by (N := n_web_turned) (sc := defScope s_web_turned) (by decide +kernel)) (fun _ _ _ _ _ => (pg_tupK (K := K) (n := 3) rfl (pgs_cons (pg_name (i := 3) S.nd rfl (Or.inl rfl)) (pgs_cons (pg_name (i := 4) S.nd rfl (Or.inl rfl)) (pgs_cons (pg_name (i := 5) S.nd rfl (Or.inl rfl)) pgs_nil))))) (fun _ _ _ _ _ => pts_nil) (fun _ _ _ _ _ => (pe_tup (pa_cons (pv 3) (pa_cons (pv 5) (pa_cons (pv 4) pa_nil)))))) pa_nil)) pa_nil)) pa_nil)))))), ?_⟩
    obtain ⟨a, b, xs, rfl, hs, ht, hda⟩ := dp_web hd
    have hlen := dps_len hda
    rw [List.length_map] at hlen
    have h1000 := ok.len
    refine ⟨.ref a, rfl, .ref a, n, A, rfl, hd, ok, fun H1 e1 => ?_⟩
    refine ⟨a, [.int n, .ref b], rfl, same_tup e1 hs, rfl, .int n, _, rfl, .ref b, _, rfl, rfl, ?_⟩
    have ht1 := same_tup e1 ht
    have hda1 := dps_same e1 _ _ hda
    refine ⟨.int n, rfl, .ref b, rfl, b, rfl, ⟨_, ht1⟩, fun D nD => lc_tup (K := K) (a := b) (xs := xs) (fun i H' => Same H1 H' ∧ Trs K H' D ((A.take i).map turn)) ⟨same_new nD, Trs.nil⟩ (fun i H' _ h => same_tup h.1 ht1) (fun i x H' hx hp => ?_) (fun H' hp => ?_)⟩
    · obtain ⟨⟨k, f, e⟩, k1, km, d1⟩ := get_tri (dps_same hp.1 _ _ hda1) hx
      have hi : i < xs.length := (List.getElem?_eq_some_iff.mp hx).1
      obtain ⟨p, rfl, hsp⟩ := dp_tri d1
      refine ⟨p, [.int k, .int f, .int e], rfl, hsp, rfl, .int k, _, rfl, .int f, _, rfl, .int e, _, rfl, rfl, ?_⟩
      refine ⟨rfl, .int k, rfl, .int e, rfl, .int f, rfl, by show 3 ≤ sizeLine; decide, fun y ny => ?_⟩
      have t1 := hp.2.same (same_new (o := .tup [.int k, .int e, .int f]) ny)
      obtain ⟨acc, hacc, hal⟩ := t1.acc
      have hnx := t1.push (t := (k, e, f)) hacc (SqT.of (K := K) upd_same)
      refine ⟨acc, hacc, ?_, same_upd_new (hp.1.trans (same_new ny)) nD, ?_⟩
      · rw [hal, List.length_map]
        exact small (m := 1000) (Nat.le_trans (List.length_take_le' _ _) h1000)
      · have et : (A.take (i + 1)).map turn = (A.take i).map turn ++ [(k, e, f)] := by
          rw [List.take_add_one, k1, List.map_append]
          rfl
        rw [et]
        exact hnx
    · have ef : A.take xs.length = A := by rw [hlen, List.take_length]
      have h2 := hp.2
      rw [ef] at h2
      dsimp only [tNil]
      refine sorted_trs h2 fun p C H2 e2 t2 pm srt => ?_
      refine tuple_trs t2 fun t H3 e3 d3 => ?_
      refine ⟨by show 2 ≤ sizeLine; decide, fun y ny => ?_⟩
      exact q _ _ C ((e1.trans hp.1).trans ((e2.trans e3).trans (same_new ny))) (dp_mkweb ny d3) pm srt
end
end K0

namespace K0
open PySem PySem.Spec PyProof.Rows L2 W0 W1 W2

/-! ### the draws' state -/
structure StAt (K : PySem.W.Frag) (H : Hp) (st c l : Addr) (B : Nat) : Prop where
  ex : ∃ (kvs : List (Key × V)) (cells lefts : List Int) (at' : Nat), H st = some (.dK kvs) ∧ kvs.length ≤ 3 ∧ valV kvs (Sum.inr "cells") = some (.ref c) ∧ valV kvs (Sum.inr "lefts") = some (.ref l) ∧ valV kvs (Sum.inr "at") = some (.int at') ∧
    H c = some (.lst (cells.map V.int)) ∧ H l = some (.lst (lefts.map V.int)) ∧ cells ≠ [] ∧ lefts.length = cells.length ∧ at' ≤ B
  apart : c ≠ l
theorem StAt.mono {K : PySem.W.Frag} {H : Hp} {st c l : Addr} {B B' : Nat} (h : StAt K H st c l B) (hb : B ≤ B') : StAt K H st c l B' := by
  obtain ⟨kvs, cells, lefts, a, h1, h2, h3, h4, h5, h6, h7, h8, h9, h10⟩ := h.ex
  exact ⟨⟨kvs, cells, lefts, a, h1, h2, h3, h4, h5, h6, h7, h8, h9, Nat.le_trans h10 hb⟩, h.apart⟩
theorem StAt.same {K : PySem.W.Frag} {H H' : Hp} {st c l : Addr} {B : Nat} (h : StAt K H st c l B) (e : Same H H') : StAt K H' st c l B := by
  obtain ⟨kvs, cells, lefts, a, h1, h2, h3, h4, h5, h6, h7, h8, h9, h10⟩ := h.ex
  exact ⟨⟨kvs, cells, lefts, a, e _ _ h1, h2, h3, h4, h5, e _ _ h6, e _ _ h7, h8, h9, h10⟩, h.apart⟩
/-- all but the state's dict and its list -/
def Off (st l : Addr) (H H' : Hp) : Prop := ∀ b, b ≠ st → b ≠ l → H' b = H b
theorem sget {H : Hp} {d : Addr} {kvs : List (Key × V)} {k : Str} {v : V} (h : H d = some (.dK kvs)) (e : valV kvs (Sum.inr k) = some v) : DGet H d (.str k) (some v) := by
  rw [← e]
  exact DGet.k (k := Sum.inr k) h

section
variable {P : Program} {w : World} {K : PySem.W.Frag} {mg : Str → Option Value} {base : Heap}
def sp_mixed : Sp := fun vs H Q _ => ∃ (c : Int) (k : Nat), vs = [.int c, .int k] ∧ k ≤ 1000000 ∧ ∀ r : Int, 0 ≤ r → r < 2147483629 → Q (.int r) H
theorem ok__law_mixed (T : Tops K mg) : FnOk P w K mg base CX0 1 T.a__law_mixed T.fd__law_mixed p__law_mixed sp_mixed := by
  have S := sc__law_mixed
  refine T.F__law_mixed.ok S (fun vs H Q E h => ?_) (fun cdv AA outer s H vs Q E hr h => ?_)
  · obtain ⟨c, k, rfl, _⟩ := h
    rfl
  · obtain ⟨c, k, rfl, hk, q⟩ := h
    refine ⟨_, (pss_cons (ps_set (i := 0) S.nd rfl (Or.inl rfl) (pe_op op_mod (pe_callTy call_int1 (by rfl) T.m_int (by decide +kernel) (pa_cons (pv 0) pa_nil)) pe_int))
      (pss_one (ps_ret (pe_op op_mod (pe_op op_mul (pe_op op_mod (pe_op op_add (pe_op op_add (pe_op op_mul (pv 0) (pe_op op_add pe_int (pe_op op_mul (pe_op op_mul pe_int (pv 1)) (pv 1)))) (pe_op op_mul pe_int (pv 1))) pe_int) pe_int) pe_int) pe_int)))), ?_⟩
    have h1 : 0 ≤ c % 2147483647 := Int.emod_nonneg _ (by decide)
    have h2 : c % 2147483647 < 2147483647 := Int.emod_lt_of_pos _ (by decide)
    have hk' : (k : Int) ≤ 1000000 := by omega
    have g1 : ∀ z : Int, 0 ≤ z % 2147483647 := fun z => Int.emod_nonneg _ (by decide)
    have g2 : ∀ z : Int, z % 2147483647 < 2147483647 := fun z => Int.emod_lt_of_pos _ (by decide)
    have p1 : (0 : Int) < 2147483647 := by decide
    have p2 : (0 : Int) < 2147483629 := by decide
    refine ⟨.int c, rfl, .inl ⟨c, rfl, _, _, rfl, rfl, p1, ?_⟩⟩
    refine ⟨.int (c % 2147483647), rfl, .int k, rfl, 2, k, rfl, rfl, .inl ⟨by decide, by decide⟩, .int k, rfl, 2 * k, k, rfl, rfl, .inl ⟨by omega, by omega⟩, 48271, _, rfl, rfl, c % 2147483647, _, rfl, rfl, .inl ⟨by omega, by omega⟩, .int k, rfl, 69621, k, rfl, rfl, .inl ⟨by decide, by decide⟩, _, _, rfl, rfl, _, 11, rfl, rfl, _, 2147483647, rfl, rfl, p1, ?_⟩
    refine ⟨_, 69621, rfl, rfl, .inl ⟨?_, ?_⟩, _, 2147483629, rfl, rfl, p2, q _ (Int.emod_nonneg _ (by decide)) (Int.emod_lt_of_pos _ (by decide))⟩
    · exact Int.lt_of_lt_of_le (by decide) (g1 _)
    · exact Int.lt_trans (g2 _) (by decide)

def sp_draw (K : PySem.W.Frag) : Sp := fun vs H Q _ => ∃ (st c l : Addr) (B : Nat) (m : Int), vs = [.ref st, .int m] ∧ 0 < m ∧ m < 1000 ∧ StAt K H st c l B ∧ B ≤ 100000 ∧ ∀ H' (i : Int), 0 ≤ i → i < m → StAt K H' st c l (B + 1) → Off st l H H' → Q (.int i) H'
theorem ok__law_draw (T : Tops K mg) : FnOk P w K mg base CX0 2 T.a__law_draw T.fd__law_draw p__law_draw (sp_draw K) := by
  have S := sc__law_draw
  refine T.F__law_draw.ok S (fun vs H Q E h => ?_) (fun cdv AA outer s H vs Q E hr h => ?_)
  · obtain ⟨st, c, l, B, m, rfl, _⟩ := h
    rfl
  · obtain ⟨st, c, l, B, m, rfl, hm0, hm1, hst, hB, q⟩ := h
    refine ⟨_, (pss_cons (ps_set (i := 2) S.nd rfl (Or.inl rfl) (pe_dget (hu_of hr) (pv 0) pe_str (fun _ _ => rfl)))
      (pss_cons (ps_dput (hu_of hr) (pv 0) pe_str (pe_op op_add (pv 2) pe_int) rfl)
      (pss_cons (ps_set (i := 3) S.nd rfl (Or.inl rfl) (pe_op op_mod (pe_callTy call_int1 (by rfl) T.m_int (by decide +kernel) (pa_cons (pv 2) pa_nil)) (pe_callB call_len_seq (by rfl) T.m_len (by decide +kernel) (pa_cons (pe_dget (hu_of hr) (pv 0) pe_str (fun _ _ => rfl)) pa_nil))))
      (pss_cons (ps_set (i := 4) S.nd rfl (Or.inl rfl) (pe_ix (ix_listK (K := K)) (pe_dget (hu_of hr) (pv 0) pe_str (fun _ _ => rfl)) (pv 3) (fun _ _ => rfl)))
      (pss_cons (ps_if (pt_cmpR op_gt (pv 4) pe_int (nomark _)) (pss_cons (ps_asg (pe_op op_fdiv (pv 4) (pv 1)) (pg_sub (pe_dget (hu_of hr) (pv 0) pe_str (fun _ _ => rfl)) (pv 3) set_list))
      (pss_one (ps_ret (pe_op op_mod (pe_callTy call_int1 (by rfl) T.m_int (by decide +kernel) (pa_cons (pv 4) pa_nil)) (pv 1))))) pss_nil)
      (pss_cons (ps_set (i := 5) S.nd rfl (Or.inl rfl) (pe_call (ok__law_mixed T) (hr.mono (by decide)) (by rfl) T.g__law_mixed T.F__law_mixed.kp T.b__law_mixed .nil pass0 (pa_cons (pe_call (ok__law_mixed T) (hr.mono (by decide)) (by rfl) T.g__law_mixed T.F__law_mixed.kp T.b__law_mixed .nil pass0 (pa_cons (pe_ix (ix_listK (K := K)) (pe_dget (hu_of hr) (pv 0) pe_str (fun _ _ => rfl)) (pv 3) (fun _ _ => rfl)) (pa_cons (pv 2) pa_nil))) (pa_cons (pe_op op_add pe_int (pv 2)) pa_nil))))
      (pss_one (ps_ret (pe_op op_mod (pe_op op_fdiv (pe_callTy call_int1 (by rfl) T.m_int (by decide +kernel) (pa_cons (pe_op op_add (pe_op op_mul (pv 5) pe_int) (pe_call (ok__law_mixed T) (hr.mono (by decide)) (by rfl) T.g__law_mixed T.F__law_mixed.kp T.b__law_mixed .nil pass0 (pa_cons (pv 5) (pa_cons (pe_op op_add pe_int (pv 2)) pa_nil)))) pa_nil)) pe_int) (pv 1)))))))))), ?_⟩
    obtain ⟨kvs, cells, lefts, a, h1, h2, h3, h4, h5, h6, h7, h8, h9, h10⟩ := hst.ex
    have nsc : st ≠ c := ne_of h1 h6 (by intro z; cases z)
    have nsl : st ≠ l := ne_of h1 h7 (by intro z; cases z)
    have hpos : 0 < cells.length := List.length_pos_iff.mpr h8
    -- at = state['at']; state['at'] = at + 1
    refine ⟨.ref st, rfl, st, .int a, rfl, sget h1 h5, ?_⟩
    refine ⟨.int a, rfl, a, 1, rfl, rfl, .ref st, rfl, st, _, rfl, DPut.k (k := Sum.inr "at") h1 (small (m := 3) h2), ?_⟩
    generalize hk2 : putK kvs (Sum.inr "at") (.int ((a : Int) + 1)) = kvs2
    have v1 : valV kvs2 (Sum.inr "cells") = some (.ref c) := by
      rw [← hk2, valV_put, if_neg (by decide), h3]
    have v2 : valV kvs2 (Sum.inr "lefts") = some (.ref l) := by
      rw [← hk2, valV_put, if_neg (by decide), h4]
    have v3 : valV kvs2 (Sum.inr "at") = some (.int ((a + 1 : Nat) : Int)) := by
      rw [← hk2, valV_put, if_pos rfl]
      rfl
    have hk3 : kvs2.length ≤ 3 := by
      rw [← hk2]
      unfold putK
      rw [valV_any, h5]
      simp only [Option.isSome_some, if_true, List.length_map]
      exact h2
    have e1 : upd H st (.dK kvs2) st = some (.dK kvs2) := upd_same
    have ec : upd H st (.dK kvs2) c = some (.lst (cells.map V.int)) := (upd_ne nsc.symm).trans h6
    have el : upd H st (.dK kvs2) l = some (.lst (lefts.map V.int)) := (upd_ne nsl.symm).trans h7
    have off1 : Off st l H (upd H st (.dK kvs2)) := fun b hb _ => upd_ne hb
    have st1 : StAt K (upd H st (.dK kvs2)) st c l (B + 1) := ⟨⟨kvs2, cells, lefts, a + 1, e1, hk3, v1, v2, v3, ec, el, h8, h9, Nat.succ_le_succ h10⟩, hst.apart⟩
    generalize upd H st (.dK kvs2) = H1 at e1 ec el off1 st1 ⊢
    -- spot
    refine ⟨.int a, rfl, .inl ⟨a, rfl, .ref st, rfl, st, .ref c, rfl, sget e1 v1, c, _, rfl, .inl (SqL.of ec), a, _, rfl, rfl, ?_, ?_⟩⟩
    · rw [List.length_map]
      show (0 : Int) < (cells.length : Int)
      omega
    rw [List.length_map]
    dsimp only
    have hs0 : 0 ≤ (a : Int) % (cells.length : Int) := Int.emod_nonneg _ (by omega)
    have hs1 : (a : Int) % (cells.length : Int) < cells.length := Int.emod_lt_of_pos _ (by omega)
    generalize (a : Int) % (cells.length : Int) = sp at hs0 hs1
    obtain ⟨j, rfl⟩ : ∃ j : Nat, sp = j := ⟨sp.toNat, (Int.toNat_of_nonneg hs0).symm⟩
    have hj : j < cells.length := by omega
    have hjl : j < lefts.length := by omega
    -- left
    refine ⟨.ref st, rfl, st, .ref l, rfl, sget e1 v2, .int j, rfl, l, _, j, .int lefts[j], rfl, rfl, SqL.of el, atI_nat (by rw [List.getElem?_map, List.getElem?_eq_getElem hjl]; rfl), ?_⟩
    refine ⟨.int lefts[j], rfl, lefts[j], 0, rfl, rfl, _, rfl, ite2 (fun hp => ?_) (fun hp => ?_)⟩
    · -- state['lefts'][spot] = left // limit
      refine ⟨.int lefts[j], rfl, .int m, rfl, lefts[j], m, rfl, rfl, ⟨hm0, by omega⟩, .ref st, rfl, st, .ref l, rfl, sget e1 v2, .int j, rfl, l, _, j, j, rfl, rfl, el, ?_, ?_⟩
      · unfold ixN
        rw [if_pos (Int.natCast_nonneg j), List.length_map, if_pos (Int.ofNat_lt.mpr hjl)]
        rfl
      · refine ⟨.int lefts[j], rfl, .inl ⟨lefts[j], rfl, .int m, rfl, _, m, rfl, rfl, hm0, q _ _ (Int.emod_nonneg _ (by omega)) (Int.emod_lt_of_pos _ hm0) ?_ ?_⟩⟩
        · refine ⟨⟨kvs2, cells, lefts.set j (lefts[j] / m), a + 1, (upd_ne nsl).trans e1, hk3, v1, v2, v3, (upd_ne hst.apart).trans ec, ?_, h8, ?_, Nat.succ_le_succ h10⟩, hst.apart⟩
          · rw [upd_same, List.map_set]
          · rw [List.length_set]
            exact h9
        · intro b hb hb2
          rw [upd_ne hb2]
          exact off1 b hb hb2
    · -- by the number of the draw
      have ha : (a : Int) ≤ 100000 := by omega
      refine ⟨.ref st, rfl, st, .ref c, rfl, sget e1 v1, .int j, rfl, c, _, j, .int cells[j], rfl, rfl, SqL.of ec, atI_nat (by rw [List.getElem?_map, List.getElem?_eq_getElem hj]; rfl), ?_⟩
      refine ⟨.int a, rfl, cells[j], a, rfl, by omega, fun r hr0 hr1 => ?_⟩
      refine ⟨.int a, rfl, 40, a, rfl, rfl, r, 40 + a, by rw [Int.natCast_add]; rfl, by omega, fun r2 h20 h21 => ?_⟩
      refine ⟨.int r2, rfl, r2, 2147483647, rfl, rfl, .inl ⟨by omega, by omega⟩, .int r2, rfl, .int a, rfl, 7, a, rfl, rfl, r2, 7 + a, by rw [Int.natCast_add]; rfl, by omega, fun r3 h30 h31 => ?_⟩
      refine ⟨_, r3, rfl, rfl, .inl ⟨_, rfl, _, 64, rfl, rfl, ⟨by decide, by decide⟩, .int m, rfl, _, m, rfl, rfl, hm0, ?_⟩⟩
      exact q H1 _ (Int.emod_nonneg _ (by omega)) (Int.emod_lt_of_pos _ hm0) st1 off1
end
end K0

namespace K0
open PySem PySem.Spec PyProof.Rows L2 W0 W1 W2
theorem fine_ints (ns : List Int) : (PyData.list (ns.map PyData.int)).canLay0 = true ∧ (PyData.list (ns.map PyData.int)).depth ≤ 64 := by
  refine ⟨all_lay fun d h => ?_, Nat.le_trans (Nat.succ_le_succ (all_dep (k := 0) fun d h => ?_)) (by decide)⟩
  · obtain ⟨i, _, rfl⟩ := List.mem_map.mp h
    rfl
  · obtain ⟨i, _, rfl⟩ := List.mem_map.mp h
    exact Nat.le_refl _
theorem shaped_ints (ns : List Int) : SeqAt.shaped (PyData.list (ns.map PyData.int)) = true := by
  unfold SeqAt.shaped
  rw [(fine_ints ns).1, Bool.true_and]
  exact decide_eq_true (fine_ints ns).2
def begun (c l : Addr) : List (Key × V) := [(Sum.inr "cells", V.ref c), (Sum.inr "lefts", V.ref l), (Sum.inr "at", V.int 0)]
theorem begun_facts (c l : Addr) : (mergeK [] (begun c l)).length ≤ 3 ∧ valV (mergeK [] (begun c l)) (Sum.inr "cells") = some (.ref c) ∧ valV (mergeK [] (begun c l)) (Sum.inr "lefts") = some (.ref l) ∧ valV (mergeK [] (begun c l)) (Sum.inr "at") = some (.int 0) := by
  have e : mergeK [] (begun c l) = putK (putK (putK ([] : List (Key × V)) (Sum.inr "cells") (.ref c)) (Sum.inr "lefts") (.ref l)) (Sum.inr "at") (.int 0) := rfl
  rw [e]
  refine ⟨?_, ?_, ?_, ?_⟩
  · exact Nat.le_trans (length_putK _ _ _) (Nat.succ_le_succ (Nat.le_trans (length_putK _ _ _) (Nat.succ_le_succ (length_putK _ _ _))))
  · rw [valV_put, if_neg (by decide), valV_put, if_neg (by decide), valV_put, if_pos rfl]
  · rw [valV_put, if_neg (by decide), valV_put, if_pos rfl]
  · rw [valV_put, if_pos rfl]
section
variable {P : Program} {w : World} {K : PySem.W.Frag} {mg : Str → Option Value} {base : Heap}
def sp_begin (K : PySem.W.Frag) : Sp := fun vs H Q _ => ∃ (a : Addr) (ns : List Int), vs = [.ref a] ∧ SqL K H a (ns.map V.int) ∧ ns.length ≤ 63 ∧ ∀ H' st c l, Same H H' → StAt K H' st c l 0 → H st = none → H l = none → Q (.ref st) H'
theorem ok__law_begin (T : Tops K mg) : FnOk P w K mg base CX0 1 T.a__law_begin T.fd__law_begin p__law_begin (sp_begin K) := by
  have S := sc__law_begin
  refine T.F__law_begin.ok S (fun vs H Q E h => ?_) (fun cdv AA outer s H vs Q E hr h => ?_)
  · obtain ⟨a, ns, rfl, _⟩ := h
    rfl
  · obtain ⟨a, ns, rfl, hs, hn, q⟩ := h
    refine ⟨_, (pss_cons (ps_set (i := 1) S.nd rfl (Or.inl rfl) (pe_ifExp (pt_cmpR (op_neD hr.units) (pv 0) (pe_lst pa_nil) (nomark _)) (pe_callTy call_list_of (by rfl) T.m_list (by decide +kernel) (pa_cons (pv 0) pa_nil)) (pe_lst (pa_cons pe_int pa_nil))))
      (pss_one (ps_ret (pe_disp (pps_cons pe_str (pv 1) (pps_cons pe_str (pe_lc (own := [("cell", 2)]) rfl S.nd (pi_list (pv 1)) (blkOk_by (N := n__law_begin) (sc := defScope s__law_begin) (by decide +kernel)) (fun _ _ _ _ _ => (pg_name (i := 2) S.nd rfl (Or.inl rfl))) (fun _ _ _ _ _ => pts_nil) (fun _ _ _ _ _ => (pe_ifExp (pt_cmpR op_ge (pv 2) (pe_op op_pow pe_int pe_int) (nomark _)) (pv 2) pe_int))) (pps_cons pe_str pe_int pps_nil))) (by rfl) (by rfl) (fun z => by cases z) (by decide))))), ?_⟩
    have rest : ∀ (c : Addr) (H1 : Hp) (cells : List Int), Same H H1 → H1 c = some (.lst (cells.map V.int)) → cells ≠ [] → cells.length ≤ 63 →
        tRet (tDisp [(tC (V.str "cells"), tVar 1), (tC (V.str "lefts"), tLc (iList K (tVar 1)) (gName 2) tYes (tIf (tTest (tOp (rI0 fun i j => V.bl (decide (j ≤ i))) (tVar 2) (tOp (rI CPow fun i j => V.int (i ^ j.toNat)) (tC (V.int 10)) (tC (V.int 18))))) (tVar 2) (tC (V.int 0))) [2]), (tC (V.str "at"), tC (V.int 0))])
          { nx := fun _ H' => Q .non H', rt := Q } [some (.ref a), some (.ref c), none] H1 := by
      intro c H1 cells e1 hcc hne hl63 st nst
      refine ⟨.ref c, rfl, .ref c, rfl, c, rfl, ⟨_, SqL.of ((upd_ne (ne_of_none hcc nst)).trans hcc)⟩, fun l nl => ?_⟩
      have hcc2 : upd H1 st (.dK []) c = some (.lst (cells.map V.int)) := (upd_ne (ne_of_none hcc nst)).trans hcc
      have hst2 : upd H1 st (.dK []) st = some (.dK []) := upd_same
      have e2 : Same H (upd H1 st (.dK [])) := e1.trans (same_new nst)
      have nstH : H st = none := e1.free nst
      generalize upd H1 st (.dK []) = H2 at nl hcc2 hst2 e2
      refine lc_list (K := K) (a := c) (xs := cells.map V.int) (fun i H' => Same H2 H' ∧ ∃ ls : List Int, ls.length = i ∧ H' l = some (.lst (ls.map V.int))) ⟨same_new nl, [], rfl, upd_same⟩ (fun i H' _ h => SqL.of (h.1 _ _ hcc2)) (fun i x H' hx hp => ?_) (fun H' hp => ?_)
      · rw [List.getElem?_map] at hx
        obtain ⟨k, hk, rfl⟩ := Option.map_eq_some_iff.mp hx
        obtain ⟨e3, ls, hls, hll⟩ := hp
        have hi : i < cells.length := (List.getElem?_eq_some_iff.mp hk).1
        have fin : ∀ z : Int, ∃ acc, H' l = some (HO.lst acc) ∧ acc.length < sizeLine ∧ Same H2 (upd H' l (HO.lst (acc ++ [V.int z]))) ∧ ∃ ls : List Int, ls.length = i + 1 ∧ upd H' l (HO.lst (acc ++ [V.int z])) l = some (.lst (ls.map V.int)) := fun z => by
          refine ⟨_, hll, ?_, same_upd_new e3 nl, ls ++ [z], ?_, ?_⟩
          · rw [List.length_map, hls]
            exact small (m := 63) (by omega)
          · rw [List.length_append, hls]
            rfl
          · rw [upd_same, List.map_append]
            rfl
        refine ⟨rfl, .int k, rfl, 10, 18, rfl, rfl, ⟨by decide, by decide, by decide⟩, k, _, rfl, rfl, _, rfl, ite2 (fun _ => ⟨.int k, rfl, fin k⟩) (fun _ => fin 0)⟩
      · obtain ⟨e3, ls, hls, hll⟩ := hp
        rw [List.length_map] at hls
        have nlst : l ≠ st := fun z => by
          rw [z, hst2] at nl
          cases nl
        have ncl : c ≠ l := ne_of_none hcc2 nl
        have ncst : c ≠ st := ne_of hcc2 hst2 (by intro z; cases z)
        obtain ⟨b1, b2, b3, b4⟩ := begun_facts c l
        refine ⟨e3 _ _ hst2, begun c l, rfl, by show 3 ≤ 15; decide, ?_⟩
        exact q _ st c l (same_upd_new (e2.trans e3) nstH) ⟨⟨_, cells, ls, 0, upd_same, b1, b2, b3, b4, (upd_ne ncst).trans (e3 _ _ hcc2), (upd_ne nlst).trans hll, hne, hls, Nat.le_refl _⟩, ncl⟩ nstH (e2.free nl)
    refine ⟨.ref a, rfl, Nat.zero_le _, fun p np => ?_⟩
    have sp : Same H (upd H p (.lst [])) := same_new np
    refine ⟨.list (ns.map PyData.int), .list [], .lst (sp.seq hs) (dps_ints ns), .lst (SqL.of upd_same) .nil, shaped_ints ns, shaped_ints [], _, rfl, ?_⟩
    cases hb : PyData.eqv (.list (ns.map PyData.int)) (.list []) with
    | false =>
      have hne : ns ≠ [] := by
        intro z
        subst z
        rw [show PyData.eqv (.list (([] : List Int).map PyData.int)) (.list []) = true from SeqAt.eqv_refl _ (shaped_ints [])] at hb
        cases hb
      refine ⟨.ref a, rfl, a, _, rfl, .inl (sp.seq hs), fun c nc => ?_⟩
      exact rest c _ ns (sp.trans (same_new nc)) upd_same hne hn
    | true =>
      refine ⟨by show 1 ≤ sizeLine; decide, fun c nc => ?_⟩
      exact rest c _ [0] (sp.trans (same_new nc)) upd_same (by decide) (by decide)
end
end K0

namespace K0
open PySem PySem.Spec PyProof.Rows L2 W0 W1 W2
def SameX (st l : Addr) (H H' : Hp) : Prop := ∀ b o, H b = some o → b ≠ st → b ≠ l → H' b = some o
theorem SameX.refl (st l : Addr) (H : Hp) : SameX st l H H := fun _ _ h _ _ => h
theorem SameX.trans {st l : Addr} {H H1 H2 : Hp} (a : SameX st l H H1) (b : SameX st l H1 H2) : SameX st l H H2 := fun c o h n1 n2 => b c o (a c o h n1 n2) n1 n2
theorem SameX.of {st l : Addr} {H H' : Hp} (e : Same H H') : SameX st l H H' := fun b o h _ _ => e b o h
theorem SameX.off {st l : Addr} {H H' : Hp} (e : Off st l H H') : SameX st l H H' := fun b o h n1 n2 => (e b n1 n2).trans h
section
variable {K : PySem.W.Frag} {H H' : Hp} {st c l : Addr} {B : Nat}
theorem StAt.two (h : StAt K H st c l B) : (∃ kvs, H st = some (.dK kvs)) ∧ (∃ ls : List Int, H l = some (.lst (ls.map V.int))) := by
  obtain ⟨kvs, cells, lefts, a, h1, h2, h3, h4, h5, h6, h7, h8, h9, h10⟩ := h.ex
  exact ⟨⟨kvs, h1⟩, ⟨lefts, h7⟩⟩
theorem sqT_x {p : Addr} {xs : List V} (h : StAt K H st c l B) (e : SameX st l H H') (q : SqT K H p xs) : SqT K H' p xs := by
  obtain ⟨⟨kvs, h1⟩, ⟨ls, h2⟩⟩ := h.two
  rcases q with (q | ⟨o, q⟩) | q
  · exact .inl (.inl (e _ _ q (ne_of q h1 (by intro z; cases z)) (ne_of q h2 (by intro z; cases z))))
  · exact .inl (.inr ⟨o, e _ _ q (ne_of q h1 (by intro z; cases z)) (ne_of q h2 (by intro z; cases z))⟩)
  · exact .inr q
theorem trs_x {D : Addr} {A : List T3} (h : StAt K H st c l B) (e : SameX st l H H') (hD : D ≠ l) (t : Trs K H D A) : Trs K H' D A := by
  obtain ⟨⟨kvs, h1⟩, _⟩ := h.two
  obtain ⟨ts, e2, m, r⟩ := t
  exact ⟨ts, e _ _ e2 (ne_of e2 h1 (by intro z; cases z)) hD, m, fun p hp => sqT_x h e (r p hp)⟩
theorem free_x {p : Addr} (h : StAt K H' st c l B) (e : SameX st l H H') (n : H' p = none) : H p = none := by
  obtain ⟨⟨kvs, h1⟩, ⟨ls, h2⟩⟩ := h.two
  cases q : H p with
  | none => rfl
  | some o =>
    have a1 : p ≠ st := fun z => by
      rw [z, h1] at n
      cases n
    have a2 : p ≠ l := fun z => by
      rw [z, h2] at n
      cases n
    rw [e p o q a1 a2] at n
    cases n
theorem Trs.join {D D2 p : Addr} {A C : List T3} {xs zs : List V} (t : Trs K H D A) (u : Trs K H D2 C) (e1 : H D = some (.lst xs)) (e2 : H D2 = some (.lst zs)) (np : H p = none) : Trs K (upd H p (.lst (xs ++ zs))) p (A ++ C) := by
  obtain ⟨ts, a1, a2, a3⟩ := t
  obtain ⟨us, b1, b2, b3⟩ := u
  rw [e1] at a1
  rw [e2] at b1
  cases a1
  cases b1
  refine ⟨ts ++ us, ?_, ?_, fun q hq => same_tup (same_new np) ?_⟩
  · rw [upd_same, List.map_append]
  · rw [List.map_append, List.map_append, a2, b2]
  · rcases List.mem_append.mp hq with hq | hq
    · exact a3 q hq
    · exact b3 q hq
end
/-- the arrows met before kind s, world h -/
structure Upto (n : Int) (s h : Int) (A : List T3) : Prop where
  all : ∀ t ∈ A, InW n t
  asc : A.Pairwise lt3
  bef : ∀ t ∈ A, t.1 < s ∨ (t.1 = s ∧ t.2.1 < h)
theorem Upto.join {n s h : Int} {A T : List T3} (u : Upto n s h A) (s0 : 0 ≤ s) (s2 : s ≤ 2) (h0 : 0 ≤ h) (hn : h < n) (all : ∀ t ∈ T, t.1 = s ∧ t.2.1 = h ∧ 0 ≤ t.2.2 ∧ t.2.2 < n) (asc : T.Pairwise lt3) : Upto n s (h + 1) (A ++ T) := by
  refine ⟨fun t ht => ?_, List.pairwise_append.mpr ⟨u.asc, asc, fun a ha b hb => ?_⟩, fun t ht => ?_⟩
  · rcases List.mem_append.mp ht with m | m
    · exact u.all t m
    · obtain ⟨a1, a2, a3, a4⟩ := all t m
      exact ⟨by omega, by omega, by omega, by omega, a3, a4⟩
  · have := u.bef a ha
    obtain ⟨b1, b2, _, _⟩ := all b hb
    exact lt3_iff.mpr (by omega)
  · rcases List.mem_append.mp ht with m | m
    · have := u.bef t m
      omega
    · obtain ⟨a1, a2, _, _⟩ := all t m
      omega
theorem Upto.next {n s h : Int} {A : List T3} (u : Upto n s h A) : Upto n (s + 1) 0 A := ⟨u.all, u.asc, fun t ht => by have := u.bef t ht; omega⟩
section
variable {P : Program} {w : World} {K : PySem.W.Frag} {mg : Str → Option Value} {base : Heap}
def sp_web (K : PySem.W.Frag) : Sp := fun vs H Q _ => ∃ (st c l : Addr) (B m k : Nat), vs = [.ref st, .int m, .int k] ∧ 1 ≤ m ∧ m ≤ 5 ∧ k ≤ 3 ∧ StAt K H st c l B ∧ B ≤ 90000 ∧
  ∀ H' v (n : Nat) A, StAt K H' st c l (B + 100) → SameX st l H H' → Dp K H' v (dWeb n A) → WOk n A → n ≤ m → A.length ≤ 75 → Q v H'
theorem ok__law_web (T : Tops K mg) : FnOk P w K mg base CX0 3 T.a__law_web T.fd__law_web p__law_web (sp_web K) := by
  have S := sc__law_web
  refine T.F__law_web.ok S (fun vs H Q E h => ?_) (fun cdv AA outer s H vs Q E hr h => ?_)
  · obtain ⟨st, c, l, B, m, k, rfl, _⟩ := h
    rfl
  · obtain ⟨st, c, l, B, m, k, rfl, hm1, hm5, hk3, hst, hB, q⟩ := h
    refine ⟨_, (pss_cons (ps_par (i := 3) (j := 4) rfl S.nd rfl rfl (by decide) rfl rfl (pa_cons (pe_op op_add pe_int (pe_call (ok__law_draw T) (hr.mono (by decide)) (by rfl) T.g__law_draw T.F__law_draw.kp T.b__law_draw .nil pass0 (pa_cons (pv 0) (pa_cons (pv 1) pa_nil)))) (pa_cons (pe_lst pa_nil) pa_nil)) (by rfl))
      (pss_cons (ps_for PassesOwn.never rfl (pi_range1 (by rfl) T.m_range (pa_cons (pv 2) pa_nil)) (pg_name (i := 5) S.nd rfl (Or.inr rfl)) (pss_one (ps_for PassesOwn.never rfl (pi_range1 (by rfl) T.m_range (pa_cons (pv 3) pa_nil)) (pg_name (i := 6) S.nd rfl (Or.inr rfl)) (pss_one (ps_set (i := 4) S.nd rfl (Or.inl rfl) (pe_op op_cat (pv 4) (pe_lc (own := [("there", 7)]) rfl S.nd (pi_range1 (by rfl) T.m_range (pa_cons (pv 3) pa_nil)) (blkOk_by (N := n__law_web) (sc := defScope s__law_web) (by decide +kernel)) (fun _ _ _ _ _ => (pg_name (i := 7) S.nd rfl (Or.inl rfl))) (fun _ _ _ _ _ => (pts_one (pt_cmpR op_eq (pe_call (ok__law_draw T) (hr.mono (by decide)) (by rfl) T.g__law_draw T.F__law_draw.kp T.b__law_draw .nil pass0 (pa_cons (pv 0) (pa_cons pe_int pa_nil))) pe_int (nomark _)))) (fun _ _ _ _ _ => (pe_tup (pa_cons (pv 5) (pa_cons (pv 6) (pa_cons (pv 7) pa_nil))))))))))))
      (pss_one (ps_ret (pe_tup (pa_cons (pv 3) (pa_cons (pe_callTy (call_tupleK (K := K)) (by rfl) T.m_tuple (by decide +kernel) (pa_cons (pv 4) pa_nil)) pa_nil))))))), ?_⟩
    -- size, found = (1 + draw, [])
    refine ⟨.ref st, rfl, .int m, rfl, st, c, l, B, m, rfl, by omega, by omega, hst, by omega, fun H1 i hi0 hi1 st1 off1 => ?_⟩
    refine ⟨1, i, rfl, rfl, Nat.zero_le _, fun F nF => ?_⟩
    obtain ⟨i, rfl⟩ : ∃ z : Nat, i = z := ⟨i.toNat, (Int.toNat_of_nonneg hi0).symm⟩
    have e2 : SameX st l H (upd H1 F (.lst [])) := (SameX.off off1).trans (SameX.of (same_new nF))
    have st2 : StAt K (upd H1 F (.lst [])) st c l (B + 1) := st1.same (same_new nF)
    have tr2 : Trs K (upd H1 F (.lst [])) F [] := Trs.nil
    have Fl : F ≠ l := fun z => by
      obtain ⟨_, ⟨ls, h2⟩⟩ := st1.two
      rw [z, h2] at nF
      cases nF
    generalize upd H1 F (.lst []) = H2 at e2 st2 tr2
    refine ⟨.int (1 + i), .ref F, rfl, ?_⟩
    obtain ⟨n, hn⟩ : ∃ n : Nat, n = 1 + i := ⟨_, rfl⟩
    have hnI : (1 + (i : Int)) = (n : Int) := by omega
    rw [hnI]
    have hn5 : n ≤ 5 := by omega
    -- for sort in range(sorts)
    refine ⟨.int k, rfl, k, rfl, by omega, by omega, ?_⟩
    refine for_range (lo := 0) (n := k) (fun s σ H' => ∃ y5 y6 f A, σ = [some (.ref st), some (.int m), some (.int k), some (.int n), some (.ref f), y5, y6, none] ∧ StAt K H' st c l (B + 1 + 25 * s) ∧ SameX st l H H' ∧ Trs K H' f A ∧ f ≠ l ∧ Upto n s 0 A ∧ A.length ≤ 25 * s)
      ⟨none, none, F, [], rfl, st2, e2, tr2, Fl, ⟨fun t h => (List.not_mem_nil h).elim, List.Pairwise.nil, fun t h => (List.not_mem_nil h).elim⟩, Nat.zero_le _⟩ (fun s σ H' hs h => ?_) (fun σ H' h => ?_)
    · obtain ⟨y5, y6, f, A, rfl, st3, e3, tr3, fl, up, al⟩ := h
      rw [Int.zero_add]
      -- for here in range(size)
      refine ⟨.int n, rfl, n, rfl, by omega, by omega, ?_⟩
      refine for_range (lo := 0) (n := n) (fun h σ H' => ∃ y6 f A, σ = [some (.ref st), some (.int m), some (.int k), some (.int n), some (.ref f), some (.int s), y6, none] ∧ StAt K H' st c l (B + 1 + 25 * s + 5 * h) ∧ SameX st l H H' ∧ Trs K H' f A ∧ f ≠ l ∧ Upto n s h A ∧ A.length ≤ 25 * s + 5 * h)
        ⟨y6, f, A, rfl, st3, e3, tr3, fl, up, al⟩ (fun h σ H' hh hp => ?_) (fun σ H' hp => ?_)
      · obtain ⟨y6, f, A, rfl, st4, e4, tr4, fl, up, al⟩ := hp
        rw [Int.zero_add]
        refine ⟨.ref f, rfl, .int n, rfl, n, rfl, by omega, by omega, fun D nD => ?_⟩
        have Dl : D ≠ l := fun z => by
          obtain ⟨_, ⟨ls, h2⟩⟩ := st4.two
          rw [z, h2] at nD
          cases nD
        have nfD : f ≠ D := by
          obtain ⟨acc, hacc, _⟩ := tr4.acc
          exact ne_of_none hacc nD
        refine lc_range (lo := 0) (n := n) (fun j H'' => StAt K H'' st c l (B + 1 + 25 * s + 5 * h + j) ∧ SameX st l H' H'' ∧ ∃ C : List T3, Trs K H'' D C ∧ C.length ≤ j ∧ (∀ t ∈ C, t.1 = s ∧ t.2.1 = h ∧ 0 ≤ t.2.2 ∧ t.2.2 < j) ∧ C.Pairwise lt3)
          ⟨st4.same (same_new nD), SameX.of (same_new nD), [], Trs.nil, Nat.le_refl _, fun t h => (List.not_mem_nil h).elim, List.Pairwise.nil⟩ (fun j H5 hj hp => ?_) (fun H5 hp => ?_)
        · obtain ⟨st5, e5, C, trC, cl, ca, cp⟩ := hp
          rw [Int.zero_add]
          refine ⟨rfl, .ref st, rfl, st, c, l, _, 3, rfl, by decide, by decide, st5, by omega, fun H6 z hz0 hz1 st6 off6 => ?_⟩
          have e6 := SameX.off off6
          have trC6 := trs_x st5 e6 Dl trC
          refine ⟨rfl, _, rfl, ite2 (fun hz => ?_) (fun hz => ?_)⟩
          · refine ⟨.int s, rfl, .int h, rfl, .int j, rfl, by show 3 ≤ sizeLine; decide, fun y ny => ?_⟩
            have t1 := trC6.same (same_new (o := .tup [.int s, .int h, .int j]) ny)
            obtain ⟨acc, hacc, hal⟩ := t1.acc
            have st7 := st6.same (same_new (o := .tup [.int s, .int h, .int j]) ny)
            have nDH5 : H' D = none := nD
            refine ⟨acc, hacc, ?_, ?_, ?_, C ++ [((s : Int), (h : Int), (j : Int))], t1.push hacc (SqT.of (K := K) upd_same), ?_, fun t ht => ?_, ?_⟩
            · rw [hal]
              exact small (m := 1000) (by omega)
            · obtain ⟨kvs, cells, lefts, a, h1, h2, h3, h4, h5, h6, h7, h8, h9, h10⟩ := st7.ex
              refine ⟨⟨kvs, cells, lefts, a, (upd_ne (ne_of h1 hacc (by intro z; cases z))).trans h1, h2, h3, h4, h5, ?_, (upd_ne Dl.symm).trans h7, h8, h9, h10⟩, st7.apart⟩
              refine (upd_ne ?_).trans h6
              obtain ⟨kvs', cells', lefts', a', g1, g2, g3, g4, g5, g6, g7, g8, g9, g10⟩ := st4.ex
              exact ne_of_none g6 nD
            · intro b o hb n1 n2
              rw [upd_ne (ne_of_none hb nD)]
              exact same_new ny _ _ (e6 _ _ (e5 _ _ hb n1 n2) n1 n2)
            · rw [List.length_append]
              exact Nat.succ_le_succ cl
            · rcases List.mem_append.mp ht with mm | mm
              · obtain ⟨a1, a2, a3, a4⟩ := ca t mm
                exact ⟨a1, a2, a3, by omega⟩
              · rw [List.mem_singleton.mp mm]
                exact ⟨rfl, rfl, by show (0 : Int) ≤ (j : Int); omega, by show (j : Int) < ((j + 1 : Nat) : Int); omega⟩
            · refine List.pairwise_append.mpr ⟨cp, List.pairwise_singleton _ _, fun a ha b hb => ?_⟩
              rw [List.mem_singleton.mp hb]
              obtain ⟨a1, a2, a3, a4⟩ := ca a ha
              exact lt3_iff.mpr (Or.inr ⟨a1, Or.inr ⟨a2, a4⟩⟩)
          · exact ⟨st6, e5.trans e6, C, trC6, Nat.le_succ_of_le cl, fun t ht => by
              obtain ⟨a1, a2, a3, a4⟩ := ca t ht
              exact ⟨a1, a2, a3, by omega⟩, cp⟩
        · obtain ⟨st5, e5, C, trC, cl, ca, cp⟩ := hp
          have trf := trs_x st4 e5 fl tr4
          obtain ⟨acc, hacc, hal⟩ := trf.acc
          obtain ⟨acd, hacd, had⟩ := trC.acc
          refine ⟨f, D, acc, acd, rfl, rfl, hacc, hacd, ?_, fun p np => ?_⟩
          · rw [hal, had]
            exact Nat.le_of_lt (small (m := 1000) (by omega))
          · have pl : p ≠ l := fun z => by
              obtain ⟨_, ⟨ls, h2⟩⟩ := st5.two
              rw [z, h2] at np
              cases np
            refine ⟨_, p, A ++ C, rfl, (st5.mono (by omega)).same (same_new np), e4.trans (e5.trans (SameX.of (same_new np))), Trs.join trf trC hacc hacd np, pl, ?_, ?_⟩
            · rw [Int.natCast_add]
              exact up.join (by omega) (by omega) (by omega) (by omega) (fun t ht => by
                obtain ⟨a1, a2, a3, a4⟩ := ca t ht
                exact ⟨a1, a2, a3, by omega⟩) cp
            · rw [List.length_append]
              omega
      · obtain ⟨y6, f, A, rfl, st4, e4, tr4, fl, up, al⟩ := hp
        refine ⟨_, y6, f, A, rfl, st4.mono (by omega), e4, tr4, fl, ?_, by omega⟩
        rw [Int.natCast_add]
        exact up.next
    · obtain ⟨y5, y6, f, A, rfl, st3, e3, tr3, fl, up, al⟩ := h
      refine ⟨.int n, rfl, .ref f, rfl, ?_⟩
      dsimp only [tNil]
      refine tuple_trs tr3 fun t H4 e4 d4 => ?_
      refine ⟨by show 2 ≤ sizeLine; decide, fun y ny => ?_⟩
      refine q _ _ n A (((st3.mono (by omega)).same e4).same (same_new ny)) (e3.trans (SameX.of (e4.trans (same_new ny)))) (dp_mkweb ny d4) ⟨by omega, by omega, by omega, up.all, up.asc⟩ (by omega) (by omega)
end
end K0

namespace K0
open PySem PySem.Spec PyProof.Rows L2 W0 W1 W2 W5 W6

/-! ### ascending lists -/
theorem asc_uniq {α : Type} {lt : α → α → Prop} (irr : ∀ a, ¬ lt a a) (tr : ∀ a b c, lt a b → lt b c → lt a c) : ∀ {l m : List α}, l.Pairwise lt → m.Pairwise lt → (∀ x, x ∈ l ↔ x ∈ m) → l = m
  | [], [], _, _, _ => rfl
  | [], b :: m, _, _, h => absurd ((h b).mpr List.mem_cons_self) List.not_mem_nil
  | a :: l, [], _, _, h => absurd ((h a).mp List.mem_cons_self) List.not_mem_nil
  | a :: l, b :: m, hl, hm, h => by
    obtain ⟨hl1, hl2⟩ := List.pairwise_cons.mp hl
    obtain ⟨hm1, hm2⟩ := List.pairwise_cons.mp hm
    have e : a = b := by
      rcases List.mem_cons.mp ((h a).mp List.mem_cons_self) with e | ma
      · exact e
      · rcases List.mem_cons.mp ((h b).mpr List.mem_cons_self) with e | mb
        · exact e.symm
        · exact absurd (tr _ _ _ (hl1 b mb) (hm1 a ma)) (irr a)
    subst e
    rw [asc_uniq irr tr hl2 hm2 fun x => ?_]
    constructor
    · intro hx
      rcases List.mem_cons.mp ((h x).mp (List.mem_cons_of_mem _ hx)) with e | hx'
      · rw [e] at hx
        exact absurd (hl1 a hx) (irr a)
      · exact hx'
    · intro hx
      rcases List.mem_cons.mp ((h x).mpr (List.mem_cons_of_mem _ hx)) with e | hx'
      · rw [e] at hx
        exact absurd (hm1 a hx) (irr a)
      · exact hx'
theorem ints_uniq {l m : List Int} (hl : l.Pairwise (· < ·)) (hm : m.Pairwise (· < ·)) (h : ∀ x, x ∈ l ↔ x ∈ m) : l = m := asc_uniq (fun a => Int.lt_irrefl a) (fun a b c => Int.lt_trans) hl hm h
theorem lt3_trans {a b c : T3} (h : lt3 a b) (g : lt3 b c) : lt3 a c := by
  have h1 := lt3_iff.mp h
  have h2 := lt3_iff.mp g
  exact lt3_iff.mpr (by omega)
theorem lt3_irr (a : T3) : ¬ lt3 a a := fun h => lt3_ne h rfl
theorem t3_uniq {l m : List T3} (hl : l.Pairwise lt3) (hm : m.Pairwise lt3) (h : ∀ x, x ∈ l ↔ x ∈ m) : l = m := asc_uniq lt3_irr (fun _ _ _ => lt3_trans) hl hm h
theorem asc_below {n : Nat} : ∀ {l : List Int} {a : Nat}, l.Pairwise (· < ·) → (∀ x ∈ l, (a : Int) ≤ x ∧ x < n) → l.length + a ≤ n ∨ l = []
  | [], _, _, _ => Or.inr rfl
  | x :: l, a, h, b => by
    obtain ⟨h1, h2⟩ := List.pairwise_cons.mp h
    have hx := b x List.mem_cons_self
    rcases asc_below (a := a + 1) h2 (fun y hy => ⟨by have := h1 y hy; omega, (b y (List.mem_cons_of_mem _ hy)).2⟩) with e | e
    · left
      rw [List.length_cons]
      omega
    · left
      rw [e]
      show 1 + a ≤ n
      omega
/-! ### where ways lead, as ascending lists -/
theorem mem_ledS {A : List T3} {w x e : Int} : e ∈ ledS A w x ↔ ∃ t ∈ A, ledF w x t = some e := List.mem_filterMap
theorem ledF_pos {w x e : Int} {t : T3} (h : 0 ≤ w) : ledF w x t = some e ↔ t = (w, x, e) := by
  unfold ledF
  rw [if_pos h]
  by_cases c : t.1 = w ∧ t.2.1 = x
  · rw [if_pos c]
    constructor
    · intro z
      exact T3.ext' c.1 c.2 (Option.some.inj z)
    · intro z
      rw [z]
  · rw [if_neg c]
    constructor
    · intro z
      cases z
    · intro z
      exact absurd ⟨by rw [z], by rw [z]⟩ c
theorem ledF_neg {w x e : Int} {t : T3} (h : ¬ 0 ≤ w) : ledF w x t = some e ↔ t = (-1 - w, e, x) := by
  unfold ledF
  rw [if_neg h]
  by_cases c : t.1 = -1 - w ∧ t.2.2 = x
  · rw [if_pos c]
    constructor
    · intro z
      exact T3.ext' c.1 (Option.some.inj z) c.2
    · intro z
      rw [z]
  · rw [if_neg c]
    constructor
    · intro z
      cases z
    · intro z
      exact absurd ⟨by rw [z], by rw [z]⟩ c
theorem ledF_turn (w x : Int) (t : T3) : ledF (-1 - w) x (turn t) = ledF w x t := by
  unfold ledF turn
  by_cases h : 0 ≤ w
  · rw [if_neg (by omega), if_pos h]
    have e : -1 - (-1 - w) = w := by omega
    rw [e]
  · rw [if_pos (by omega), if_neg h]
theorem ledS_asc {A : List T3} (asc : A.Pairwise lt3) (w x : Int) : (ledS A w x).Pairwise (· < ·) := by
  refine List.pairwise_filterMap.mpr (List.Pairwise.imp (fun {a b} hab y hy z hz => ?_) asc)
  have h := lt3_iff.mp hab
  by_cases c : 0 ≤ w
  · rw [(ledF_pos c).mp hy, (ledF_pos c).mp hz] at h
    dsimp only at h
    omega
  · rw [(ledF_neg c).mp hy, (ledF_neg c).mp hz] at h
    dsimp only at h
    omega
theorem ledS_in {n : Int} {A : List T3} (ok : WOk n A) {w x e : Int} (h : e ∈ ledS A w x) : 0 ≤ e ∧ e < n := by
  obtain ⟨t, ht, f⟩ := mem_ledS.mp h
  have i := ok.all t ht
  by_cases c : 0 ≤ w
  · rw [(ledF_pos c).mp f] at i
    exact ⟨i.e0, i.en⟩
  · rw [(ledF_neg c).mp f] at i
    exact ⟨i.f0, i.fn⟩
theorem ledS_few {n : Nat} {A : List T3} (ok : WOk n A) (w x : Int) : (ledS A w x).length ≤ n := by
  rcases asc_below (n := n) (a := 0) (ledS_asc ok.asc w x) (fun e h => ledS_in ok h) with e | e
  · exact e
  · rw [e]
    exact Nat.zero_le _
theorem ledS_turned {n : Int} {A B : List T3} (okA : WOk n A) (okB : WOk n B) (p : B.Perm (A.map turn)) (w x : Int) : ledS B (-1 - w) x = ledS A w x := by
  refine ints_uniq (ledS_asc okB.asc _ _) (ledS_asc okA.asc _ _) fun e => ?_
  rw [mem_ledS, mem_ledS]
  constructor
  · rintro ⟨t, ht, f⟩
    obtain ⟨s, hs, rfl⟩ := List.mem_map.mp (p.mem_iff.mp ht)
    exact ⟨s, hs, by rw [← ledF_turn]; exact f⟩
  · rintro ⟨s, hs, f⟩
    exact ⟨turn s, p.mem_iff.mpr (List.mem_map.mpr ⟨s, hs, rfl⟩), by rw [ledF_turn]; exact f⟩
theorem turned_back {n : Int} {A B C : List T3} (okA : WOk n A) (p : B.Perm (A.map turn)) (q : C.Perm (B.map turn)) (h : C.Pairwise lt3) : C = A := by
  refine t3_uniq h okA.asc fun t => ?_
  rw [q.mem_iff, List.mem_map]
  constructor
  · rintro ⟨s, hs, rfl⟩
    obtain ⟨r, hr, rfl⟩ := List.mem_map.mp (p.mem_iff.mp hs)
    exact hr
  · intro ht
    exact ⟨turn t, p.mem_iff.mpr (List.mem_map.mpr ⟨t, ht, rfl⟩), rfl⟩
/-! ### data that can be shown -/
theorem fine_tri {n : Int} {t : T3} (h : InW n t) (hn : n ≤ 200) : Fine 1 3 (dTri t) := by
  have h1 := h.k0
  have h2 := h.k2
  have h3 := h.f0
  have h4 := h.fn
  have h5 := h.e0
  have h6 := h.en
  refine Fine.tup (k := 0) (n := 0) (m := 3) (fun d hd => ?_) (Nat.le_refl _)
  obtain ⟨i, hi, rfl⟩ := List.mem_map.mp hd
  refine Fine.int ?_
  rcases List.mem_cons.mp hi with rfl | hi
  · omega
  rcases List.mem_cons.mp hi with rfl | hi
  · omega
  rw [List.mem_singleton.mp hi]
  omega
theorem fine_arr {n : Int} {A : List T3} (ok : WOk n A) : Fine 2 4000 (dArr A) := by
  refine Fine.tup (k := 1) (n := 3) (m := 1000) (fun d hd => ?_) (by rw [List.length_map]; exact ok.len)
  obtain ⟨t, ht, rfl⟩ := List.mem_map.mp hd
  exact fine_tri (ok.all t ht) ok.n2
theorem fine_web {n : Int} {A : List T3} (ok : WOk n A) : Fine 3 8002 (dWeb n A) := by
  have h1 := ok.n1
  have h2 := ok.n2
  refine Fine.tup (k := 2) (n := 4000) (m := 2) (fun d hd => ?_) (Nat.le_refl _)
  rcases List.mem_cons.mp hd with rfl | hd
  · exact (Fine.int (by omega)).mono (Nat.zero_le _) (Nat.zero_le _)
  · rw [List.mem_singleton.mp hd]
    exact fine_arr ok
theorem fine_ints' {l : List Int} (h : ∀ x ∈ l, 0 ≤ x ∧ x < 200) (hl : l.length ≤ 200) : Fine 1 200 (dInts l) := by
  refine Fine.tup (k := 0) (n := 0) (m := 200) (fun d hd => ?_) (by rw [List.length_map]; exact hl)
  obtain ⟨i, hi, rfl⟩ := List.mem_map.mp hd
  have := h i hi
  exact Fine.int (by omega)
theorem fine_led {n : Nat} {A : List T3} (ok : WOk n A) (w x : Int) : Fine 1 200 (dInts (ledS A w x)) := by
  have h2 := ok.n2
  refine fine_ints' (fun e h => ?_) (Nat.le_trans (ledS_few ok w x) (by omega))
  have := ledS_in ok h
  omega

section
variable {P : Program} {w : World} {K : PySem.W.Frag} {mg : Str → Option Value} {base : Heap}
def sp_like (K : PySem.W.Frag) : Sp := fun vs H Q _ => ∃ (x y : Addr) (d : PyData), vs = [.ref x, .ref y] ∧ Dp K H (.ref x) d ∧ Dp K H (.ref y) d ∧ Fine 20 (2 ^ 20) d ∧ Q (.bl true) H
theorem ok__law_like (T : Tops K mg) : FnG P w K mg base 1 T.a__law_like T.fd__law_like p__law_like (sp_like K) := by
  have S := sc__law_like
  refine of_body T.F__law_like S (fun vs H Q E h => ?_) (fun cdv AA outer s H vs Q E hgd hr h => ?_)
  · obtain ⟨x, y, d, rfl, _⟩ := h
    rfl
  · obtain ⟨x, y, d, rfl, hx, hy, f, q⟩ := h
    refine ⟨_, (pss_one (ps_ret (pe_cmpR op_eq (pe_callB (call_repr hgd hr.units) (by rfl) T.m_repr (by decide +kernel) (pa_cons (pv 0) pa_nil)) (pe_callB (call_repr hgd hr.units) (by rfl) T.m_repr (by decide +kernel) (pa_cons (pv 1) pa_nil)) (nomark _)))), ?_⟩
    have hd : d.depth ≤ 50 := Nat.le_trans f.dep (by decide)
    refine ⟨.ref x, rfl, x, d, rfl, hx, f.vis, f.nod, hd, f.fits (Nat.le_refl _), .ref y, rfl, y, d, rfl, hy, f.vis, f.nod, hd, f.fits (Nat.le_refl _), rfl, ?_⟩
    rw [decide_eq_true rfl]
    exact q
end
end K0

namespace K0
open PySem PySem.Spec PyProof.Rows L2 W0 W1 W2 W5 W6
theorem dec_vint {a b : Int} : decide (V.int a = V.int b) = decide (a = b) := by
  by_cases h : a = b
  · rw [decide_eq_true h, decide_eq_true (congrArg V.int h)]
  · rw [decide_eq_false h, decide_eq_false (fun z => h (V.int.inj z))]
section
variable {P : Program} {w : World} {K : PySem.W.Frag} {mg : Str → Option Value} {base : Heap}
def sp_led (K : PySem.W.Frag) : Sp := fun vs H Q _ => ∃ (v : V) (n : Nat) (A : List T3) (w : Int) (x : Nat), vs = [v, .int w, .int x] ∧ Dp K H v (dWeb n A) ∧ WOk n A ∧ n ≤ 5 ∧ ∀ H' p, Same H H' → SqT K H' p ((ledS A w x).map V.int) → Q (.ref p) H'
theorem ok__law_led (T : Tops K mg) : FnOk P w K mg base CX0 1 T.a__law_led T.fd__law_led p__law_led (sp_led K) := by
  have S := sc__law_led
  refine T.F__law_led.ok S (fun vs H Q E h => ?_) (fun cdv AA outer s H vs Q E hr h => ?_)
  · obtain ⟨v, n, A, w, x, rfl, _⟩ := h
    rfl
  · obtain ⟨v, n, A, ww, x, rfl, hd, ok, hn5, q⟩ := h
    refine ⟨_, (pss_cons (ps_if (pt_cmpR op_ge (pv 1) pe_int (nomark _)) (pss_one (ps_setLc (i := 3) (own := [("sort", 4), ("near", 5), ("far", 6)]) rfl S.nd rfl rfl (sw_true rfl rfl rfl (by decide +kernel)) (pi_tup (pe_ix (ix_tupK (K := K)) (pv 0) pe_int (fun _ _ => rfl))) (blkOk_by (N := n__law_led) (sc := defScope s__law_led) (by decide +kernel)) (fun _ _ _ _ _ => (pg_tupK (K := K) (n := 3) rfl (pgs_cons (pg_name (i := 4) S.nd rfl (Or.inl rfl)) (pgs_cons (pg_name (i := 5) S.nd rfl (Or.inl rfl)) (pgs_cons (pg_name (i := 6) S.nd rfl (Or.inl rfl)) pgs_nil))))) (fun _ _ _ _ _ => (pts_one ((pw_and (pt_cmpR op_eq (pv 4) (pv 1) (nomark _)) (pw_and1 (pt_cmpR op_eq (pv 5) (pv 2) (nomark _))))).pt)) (fun _ _ _ _ _ => (pv 6)))) (pss_one (ps_setLc (i := 3) (own := [("sort", 4), ("near", 5), ("far", 6)]) rfl S.nd rfl rfl (sw_true rfl rfl rfl (by decide +kernel)) (pi_tup (pe_ix (ix_tupK (K := K)) (pv 0) pe_int (fun _ _ => rfl))) (blkOk_by (N := n__law_led) (sc := defScope s__law_led) (by decide +kernel)) (fun _ _ _ _ _ => (pg_tupK (K := K) (n := 3) rfl (pgs_cons (pg_name (i := 4) S.nd rfl (Or.inl rfl)) (pgs_cons (pg_name (i := 5) S.nd rfl (Or.inl rfl)) (pgs_cons (pg_name (i := 6) S.nd rfl (Or.inl rfl)) pgs_nil))))) (fun _ _ _ _ _ => (pts_one ((pw_and (pt_cmpR op_eq (pv 4) (pe_op op_sub (pe_un un_neg pe_int) (pv 1)) (nomark _)) (pw_and1 (pt_cmpR op_eq (pv 6) (pv 2) (nomark _))))).pt)) (fun _ _ _ _ _ => (pv 5)))))
      (pss_one (ps_ret (pe_callTy (call_tupleK (K := K)) (by rfl) T.m_tuple (by decide +kernel) (pa_cons (pe_callB (W5.cr_sortedNK (w := w) rfl) (by rfl) T.m_sorted (by decide +kernel) (pa_cons (pe_callTy (W5.cr_setNK (K := K) (w := w) rfl) (by rfl) T.m_set (by decide +kernel) (pa_cons (pv 3) pa_nil)) pa_nil)) pa_nil))))), ?_⟩
    obtain ⟨a, b, xs, rfl, hs, ht, hda⟩ := dp_web hd
    have hlen := dps_len hda
    rw [List.length_map] at hlen
    have h1000 := ok.len
    have few : ∀ i, (ledS (A.take i) ww x).length ≤ 1000 := fun i => Nat.le_trans (List.length_filterMap_le _ _) (Nat.le_trans (List.length_take_le' _ _) h1000)
    have snoc : ∀ i t, A[i]? = some t → ledS (A.take (i + 1)) ww x = ledS (A.take i) ww x ++ (ledF ww x t).toList := fun i t h => by
      rw [List.take_add_one, h]
      exact ledS_snoc _ _ _ _
    have rest : ∀ (D : Addr) (H1 : Hp), Same H H1 → H1 D = some (.lst ((ledS A ww x).map V.int)) → rSetN K w [.ref D] H1 fun y H2 => rSortedSet w [y] H2 fun z H3 => rTup K [z] H3 Q := fun D H1 e1 hD => by
      refine ⟨D, ledS A ww x, rfl, .inl (SqL.of hD), Nat.le_trans (ledS_few ok ww x) (by omega), fun y m ny hm => ?_⟩
      have hm5 := ledS_few ok ww x
      refine sortedN (ns := ledS A ww x) upd_same (by omega) fun ms p H2 e2 hp asc mem => ?_
      have e : ms = ledS A ww x := ints_uniq asc (ledS_asc ok.asc ww x) mem
      rw [e] at hp
      refine ⟨p, _, rfl, .inl ⟨SqL.of hp, fun l nl => q _ l ((e1.trans (same_new ny)).trans (e2.trans (same_new nl))) (SqT.of upd_same)⟩⟩
    by_cases hw : 0 ≤ ww
    · refine ⟨.int ww, rfl, ww, 0, rfl, rfl, _, rfl, ite2 (fun _ => ?_) (fun z => absurd (decide_eq_true hw) z)⟩
      refine ⟨.ref a, rfl, a, [.int n, .ref b], 1, .ref b, rfl, rfl, hs, atI_nat (j := 1) rfl, b, rfl, ⟨_, ht⟩, fun D nD => ?_⟩
      refine lc_tup (K := K) (a := b) (xs := xs) (fun i H' => Same H H' ∧ H' D = some (.lst ((ledS (A.take i) ww x).map V.int))) ⟨same_new nD, upd_same⟩ (fun i H' _ h => same_tup h.1 ht) (fun i y H' hy hp => ?_) (fun H' hp => ?_)
      · obtain ⟨⟨k, f, e⟩, k1, km, d1⟩ := get_tri hda hy
        obtain ⟨p, rfl, hsp⟩ := dp_tri (dp_same hp.1 _ _ d1)
        refine ⟨p, [.int k, .int f, .int e], rfl, hsp, rfl, .int k, _, rfl, .int f, _, rfl, .int e, _, rfl, rfl, ?_⟩
        have no : ¬ (k = ww ∧ f = x) → Same H H' ∧ H' D = some (.lst ((ledS (A.take (i + 1)) ww x).map V.int)) := fun z => by
          refine ⟨hp.1, ?_⟩
          rw [snoc i _ k1, hp.2]
          unfold ledF
          rw [if_pos hw, if_neg z]
          simp
        refine ⟨rfl, .int k, rfl, .int ww, rfl, rfl, _, rfl, ?_⟩
        rw [dec_vint]
        refine ite2 (fun c1 => ?_) (fun c1 => ?_)
        · refine ⟨.int f, rfl, .int x, rfl, rfl, _, rfl, ?_⟩
          rw [dec_vint]
          refine ite2 (fun c2 => ?_) (fun c2 => no fun z => c2 (decide_eq_true z.2))
          refine ⟨.int e, rfl, _, hp.2, ?_, same_upd_new hp.1 nD, ?_⟩
          · rw [List.length_map]
            exact small (m := 1000) (few i)
          · rw [upd_same, snoc i _ k1]
            unfold ledF
            rw [if_pos hw, if_pos ⟨of_decide_eq_true c1, of_decide_eq_true c2⟩, List.map_append]
            rfl
        · exact no fun z => c1 (decide_eq_true z.1)
      · rw [hlen, List.take_length] at hp
        exact ⟨.ref D, rfl, rest D H' hp.1 hp.2⟩
    · refine ⟨.int ww, rfl, ww, 0, rfl, rfl, _, rfl, ite2 (fun z => absurd (of_decide_eq_true z) hw) (fun _ => ?_)⟩
      refine ⟨.ref a, rfl, a, [.int n, .ref b], 1, .ref b, rfl, rfl, hs, atI_nat (j := 1) rfl, b, rfl, ⟨_, ht⟩, fun D nD => ?_⟩
      refine lc_tup (K := K) (a := b) (xs := xs) (fun i H' => Same H H' ∧ H' D = some (.lst ((ledS (A.take i) ww x).map V.int))) ⟨same_new nD, upd_same⟩ (fun i H' _ h => same_tup h.1 ht) (fun i y H' hy hp => ?_) (fun H' hp => ?_)
      · obtain ⟨⟨k, f, e⟩, k1, km, d1⟩ := get_tri hda hy
        obtain ⟨p, rfl, hsp⟩ := dp_tri (dp_same hp.1 _ _ d1)
        refine ⟨p, [.int k, .int f, .int e], rfl, hsp, rfl, .int k, _, rfl, .int f, _, rfl, .int e, _, rfl, rfl, ?_⟩
        have no : ¬ (k = -1 - ww ∧ e = x) → Same H H' ∧ H' D = some (.lst ((ledS (A.take (i + 1)) ww x).map V.int)) := fun z => by
          refine ⟨hp.1, ?_⟩
          rw [snoc i _ k1, hp.2]
          unfold ledF
          rw [if_neg hw, if_neg z]
          simp
        refine ⟨rfl, .int k, rfl, 1, rfl, .int ww, rfl, -1, ww, rfl, rfl, rfl, _, rfl, ?_⟩
        rw [dec_vint]
        refine ite2 (fun c1 => ?_) (fun c1 => ?_)
        · refine ⟨.int e, rfl, .int x, rfl, rfl, _, rfl, ?_⟩
          rw [dec_vint]
          refine ite2 (fun c2 => ?_) (fun c2 => no fun z => c2 (decide_eq_true z.2))
          refine ⟨.int f, rfl, _, hp.2, ?_, same_upd_new hp.1 nD, ?_⟩
          · rw [List.length_map]
            exact small (m := 1000) (few i)
          · rw [upd_same, snoc i _ k1]
            unfold ledF
            rw [if_neg hw, if_pos ⟨of_decide_eq_true c1, of_decide_eq_true c2⟩, List.map_append]
            rfl
        · exact no fun z => c1 (decide_eq_true z.1)
      · rw [hlen, List.take_length] at hp
        exact ⟨.ref D, rfl, rest D H' hp.1 hp.2⟩
end
end K0

namespace K0
open PySem PySem.Spec PyProof.Rows L2 W0 W1 W2 W5 W6
/-- sorted(set of triples) -/
theorem sorted3_trs {P : Program} {w : World} {K : PySem.W.Frag} {H : Hp} {a : Addr} {L : List (Addr × List Int)} {M : List T3} {Q : VK} (h : H a = some (Set3 P w a L)) (ht : ∀ q ∈ L, SqT K H q.1 (q.2.map V.int)) (shape : ∀ q ∈ L, ∃ t ∈ M, q.2 = tri t) (hm : ∀ t ∈ M, tri t ∈ L.map (·.2))
    (q : ∀ p C H', Same H H' → Trs K H' p C → (∀ t, t ∈ C ↔ t ∈ M) → C.Pairwise lt3 → Q (.ref p) H') : rSorted3 K P w [.ref a] H Q := by
  refine ⟨a, L, rfl, h, fun r hr => ⟨ht r hr, ?_⟩, fun us p pm srt uniq np => ?_⟩
  · obtain ⟨t, _, e⟩ := shape r hr
    rw [e]
    exact List.cons_ne_nil _ _
  · have e1 : us.map (·.2) = ((us.map (·.2)).map unTri).map tri := by
      rw [List.map_map]
      conv => lhs; rw [← List.map_id (us.map (·.2))]
      refine List.map_congr_left fun l hl => ?_
      obtain ⟨r, hr, e⟩ := List.mem_map.mp hl
      obtain ⟨t, _, e2⟩ := shape r (pm.mem_iff.mp hr)
      rw [← e, e2]
      rfl
    have nd : ((us.map (·.2)).map unTri).Nodup := by
      have h1 : (us.map (·.2)).Nodup := (pm.map (·.2)).nodup_iff.mpr uniq
      rw [e1] at h1
      exact L2.nodup_of_map h1
    rw [e1] at srt
    have srt2 : ((us.map (·.2)).map unTri).Pairwise le3 := (List.pairwise_map (f := tri)).mp srt
    refine q p ((us.map (·.2)).map unTri) _ (same_new np) ⟨us, upd_same, e1, fun r hr => same_tup (same_new np) (ht r (pm.mem_iff.mp hr))⟩ (fun t => ?_) (asc_of srt2 nd)
    constructor
    · intro m
      obtain ⟨l, hl, rfl⟩ := List.mem_map.mp m
      obtain ⟨r, hr, rfl⟩ := List.mem_map.mp hl
      obtain ⟨t, htM, e2⟩ := shape r (pm.mem_iff.mp hr)
      rw [e2]
      exact htM
    · intro m
      have h1 := hm t m
      rw [← (pm.map (·.2)).mem_iff] at h1
      exact List.mem_map.mpr ⟨tri t, h1, unTri_tri t⟩
def rek (ks : List Int) (t : T3) : T3 := (ks.getD t.1.toNat 0, t.2.1, t.2.2)
theorem rek_in {n : Int} {ks : List Int} (hk : ∀ x ∈ ks, 0 ≤ x ∧ x ≤ 2) (h3 : ks.length = 3) {t : T3} (h : InW n t) : InW n (rek ks t) := by
  have k0 := h.k0
  have k2 := h.k2
  have m : ks.getD t.1.toNat 0 ∈ ks := by
    rw [List.getD_eq_getElem?_getD, List.getElem?_eq_getElem (by omega)]
    exact List.getElem_mem _
  exact ⟨(hk _ m).1, (hk _ m).2, h.f0, h.fn, h.e0, h.en⟩
theorem wok_rek {n : Int} {ks : List Int} {A B : List T3} (ok : WOk n A) (hk : ∀ x ∈ ks, 0 ≤ x ∧ x ≤ 2) (h3 : ks.length = 3) (mem : ∀ t, t ∈ B ↔ t ∈ A.map (rek ks)) (asc : B.Pairwise lt3) : WOk n B := by
  refine ⟨ok.n1, ok.n2, ?_, fun t ht => ?_, asc⟩
  · have h1 : B.length ≤ (A.map (rek ks)).length := by
      have nd := asc_nodup asc
      have : ∀ (l m : List T3), l.Nodup → (∀ x ∈ l, x ∈ m) → l.length ≤ m.length := by
        intro l
        induction l with
        | nil => exact fun _ _ _ => Nat.zero_le _
        | cons a l ih =>
          intro m hn hs
          obtain ⟨h1, h2⟩ := List.nodup_cons.mp hn
          have ha := hs a List.mem_cons_self
          have h4 := ih (m.erase a) h2 fun x hx => (List.mem_erase_of_ne (fun e => h1 (by rw [← e]; exact hx))).mpr (hs x (List.mem_cons_of_mem _ hx))
          rw [List.length_erase_of_mem ha] at h4
          have h5 := List.length_pos_of_mem ha
          rw [List.length_cons]
          omega
      exact this B _ nd fun x hx => (mem x).mp hx
    rw [List.length_map] at h1
    exact Nat.le_trans h1 ok.len
  · obtain ⟨s, hs, rfl⟩ := List.mem_map.mp ((mem t).mp ht)
    exact rek_in hk h3 (ok.all s hs)
theorem get_kind {ks : List Int} (h3 : ks.length = 3) {k : Int} (h0 : 0 ≤ k) (h2 : k ≤ 2) : atI (ks.map V.int) k = some (.int (ks.getD k.toNat 0)) := by
  obtain ⟨j, rfl⟩ : ∃ j : Nat, k = j := ⟨k.toNat, (Int.toNat_of_nonneg h0).symm⟩
  have hj : j < ks.length := by omega
  refine atI_nat ?_
  rw [List.getElem?_map, List.getElem?_eq_getElem hj, Int.toNat_natCast, List.getD_eq_getElem?_getD, List.getElem?_eq_getElem hj]
  rfl
section
variable {P : Program} {w : World} {K : PySem.W.Frag} {mg : Str → Option Value} {base : Heap}
def sp_kinds (K : PySem.W.Frag) : Sp := fun vs H Q _ => ∃ (v : V) (n : Int) (A : List T3) (kb : Addr) (ks : List Int), vs = [v, .ref kb] ∧ Dp K H v (dWeb n A) ∧ WOk n A ∧ A.length ≤ 75 ∧ SqT K H kb (ks.map V.int) ∧ ks.length = 3 ∧ (∀ x ∈ ks, 0 ≤ x ∧ x ≤ 2) ∧
  ∀ H' v' B, Same H H' → Dp K H' v' (dWeb n B) → WOk n B → (∀ t, t ∈ B ↔ t ∈ A.map (rek ks)) → Q v' H'
theorem ok_kinds_changed (T : Tops K mg) : FnOk P w K mg base CX0 5 T.a_kinds_changed T.fd_kinds_changed p_kinds_changed (sp_kinds K) := by
  have S := sc_kinds_changed
  refine T.F_kinds_changed.ok S (fun vs H Q E h => ?_) (fun cdv AA outer s H vs Q E hr h => ?_)
  · obtain ⟨v, n, A, kb, ks, rfl, _⟩ := h
    rfl
  · obtain ⟨v, n, A, kb, ks, rfl, hd, ok, h75, hkb, h3, hk, q⟩ := h
    refine ⟨_, (pss_cons (ps_asg (pe_call (ok_need_web T) (hr.mono (by decide)) (by rfl) T.g_need_web T.F_need_web.kp T.b_need_web .nil pass0 (pa_cons (pv 0) pa_nil)) (pg_tupK (K := K) (n := 2) rfl (pgs_cons (pg_name (i := 2) S.nd rfl (Or.inl rfl)) (pgs_cons (pg_name (i := 3) S.nd rfl (Or.inl rfl)) pgs_nil))))
      (pss_cons (ps_if (pt_not (pt_val (pe_call (ok_are_numbers T) (hr.mono (by decide)) (by rfl) T.g_are_numbers T.F_are_numbers.kp T.b_are_numbers .nil pass0 (pa_cons (pv 1) (pa_cons pe_int (pa_cons pe_int (pa_cons (pe_glob (v := .int (2)) (by rfl) T.c_LAST_KIND ⟨_, rfl⟩) pa_nil))))))) (pss_one ps_never) pss_nil)
      (pss_one (ps_ret (pe_tup (pa_cons (pv 2) (pa_cons (pe_callTy (call_tupleK (K := K)) (by rfl) T.m_tuple (by decide +kernel) (pa_cons (pe_callB (W5.cr_sorted3K (K := K) (P := P) (w := w) rfl) (by rfl) T.m_sorted (by decide +kernel) (pa_cons (W6.pe_sc3 (own := [("kind", 4), ("start", 5), ("end", 6)]) hr.units rfl S.nd (pi_tup (pv 3)) (blkOk_by (N := n_kinds_changed) (sc := defScope s_kinds_changed) (by decide +kernel)) (fun _ _ _ _ _ => (pg_tupK (K := K) (n := 3) rfl (pgs_cons (pg_name (i := 4) S.nd rfl (Or.inl rfl)) (pgs_cons (pg_name (i := 5) S.nd rfl (Or.inl rfl)) (pgs_cons (pg_name (i := 6) S.nd rfl (Or.inl rfl)) pgs_nil))))) (fun _ _ _ _ _ => pts_nil) (fun _ _ _ _ _ => (pe_tup (pa_cons (pe_ix (ix_tupK (K := K)) (pv 1) (pv 4) (fun _ _ => rfl)) (pa_cons (pv 5) (pa_cons (pv 6) pa_nil)))))) pa_nil)) pa_nil)) pa_nil))))))), ?_⟩
    obtain ⟨a, b, xs, rfl, hs, ht, hda⟩ := dp_web hd
    have hlen := dps_len hda
    rw [List.length_map] at hlen
    refine ⟨.ref a, rfl, .ref a, n, A, rfl, hd, ok, fun H1 e1 => ?_⟩
    refine ⟨a, [.int n, .ref b], rfl, same_tup e1 hs, rfl, .int n, _, rfl, .ref b, _, rfl, rfl, ?_⟩
    refine ⟨.ref kb, rfl, kb, ks, 3, 0, 2, rfl, same_tup e1 hkb, h3, by decide, hk, fun H2 e2 => ⟨true, rfl, ?_⟩⟩
    have e12 := e1.trans e2
    have ht2 := same_tup e12 ht
    have hkb2 := same_tup e12 hkb
    have hda2 := dps_same e12 _ _ hda
    refine ⟨.int n, rfl, .ref b, rfl, b, rfl, ⟨_, ht2⟩, fun D nD => ?_⟩
    refine sc_it (walk_tup (K := K) (a := b) (xs := xs)) (D := D) (H1 := H2) (fun i H' => Same H2 H' ∧ ∃ L, H' D = some (Set3 P w D L) ∧ (∀ r ∈ L, SqT K H' r.1 (r.2.map V.int)) ∧ L.length ≤ i ∧ (∀ r ∈ L, ∃ t ∈ A.map (rek ks), r.2 = tri t) ∧ ∀ t ∈ (A.take i).map (rek ks), tri t ∈ L.map (·.2))
      ⟨same_new nD, [], upd_same, fun r z => (List.not_mem_nil z).elim, Nat.le_refl _, fun r z => (List.not_mem_nil z).elim, fun t z => (List.not_mem_nil z).elim⟩ (fun i H' _ h => same_tup h.1 ht2) (fun i y H' H3 hi hp hy => ?_) (fun H' hp => ?_)
    · obtain ⟨rfl, hx⟩ := hy
      obtain ⟨e3, L, hD, hL, len, shape, all⟩ := hp
      obtain ⟨⟨k, f, e⟩, k1, km, d1⟩ := get_tri (dps_same e3 _ _ hda2) hx
      obtain ⟨p, rfl, hsp⟩ := dp_tri d1
      have iw := ok.all _ km
      refine ⟨p, [.int k, .int f, .int e], rfl, hsp, rfl, .int k, _, rfl, .int f, _, rfl, .int e, _, rfl, rfl, ?_⟩
      refine ⟨rfl, .ref kb, rfl, .int k, rfl, kb, _, k, _, rfl, rfl, same_tup e3 hkb2, get_kind h3 iw.k0 iw.k2, .int f, rfl, .int e, rfl, by show 3 ≤ sizeLine; decide, fun z nz => ?_⟩
      have en := same_new (o := .tup [.int (ks.getD k.toNat 0), .int f, .int e]) nz
      refine ⟨z, tri (rek ks (k, f, e)), L, rfl, SqT.of upd_same, en _ _ hD, fun r hr => same_tup en (hL r hr), by omega, fun L' old new uniq => ?_⟩
      have hDz : upd H3 z (.tup [.int (ks.getD k.toNat 0), .int f, .int e]) D = some (Set3 P w D L) := en _ _ hD
      have keepT : ∀ {r : Addr} {l : List V}, SqT K (upd H3 z (.tup [.int (ks.getD k.toNat 0), .int f, .int e])) r l → SqT K (upd (upd H3 z (.tup [.int (ks.getD k.toNat 0), .int f, .int e])) D (Set3 P w D L')) r l := by
        intro r l h
        rcases h with (h | ⟨o, h⟩) | h
        · exact .inl (.inl ((upd_ne (ne_of h hDz (by intro z; cases z))).trans h))
        · exact .inl (.inr ⟨o, (upd_ne (ne_of h hDz (by intro z; cases z))).trans h⟩)
        · exact .inr h
      have et : (A.take (i + 1)).map (rek ks) = (A.take i).map (rek ks) ++ [rek ks (k, f, e)] := by
        rw [List.take_add_one, k1, List.map_append]
        rfl
      refine ⟨same_upd_new (e3.trans en) nD, L', upd_same, ?_⟩
      by_cases m : tri (rek ks (k, f, e)) ∈ L.map (·.2)
      · rw [old m]
        refine ⟨fun r hr => ?_, Nat.le_succ_of_le len, shape, fun t mt => ?_⟩
        · have h4 := keepT (same_tup en (hL r hr))
          rw [old m] at h4
          exact h4
        · rw [et] at mt
          rcases List.mem_append.mp mt with mt | mt
          · exact all t mt
          · rw [List.mem_singleton.mp mt]
            exact m
      · have pm := new m
        refine ⟨fun r hr => ?_, ?_, fun r hr => ?_, fun t mt => ?_⟩
        · rcases List.mem_cons.mp (pm.mem_iff.mp hr) with rfl | hr
          · exact keepT (SqT.of upd_same)
          · exact keepT (same_tup en (hL r hr))
        · rw [pm.length_eq, List.length_cons]
          exact Nat.succ_le_succ len
        · rcases List.mem_cons.mp (pm.mem_iff.mp hr) with rfl | hr
          · exact ⟨_, List.mem_map.mpr ⟨_, km, rfl⟩, rfl⟩
          · exact shape r hr
        · rw [(pm.map (·.2)).mem_iff, List.map_cons]
          rw [et] at mt
          rcases List.mem_append.mp mt with mt | mt
          · exact List.mem_cons_of_mem _ (all t mt)
          · rw [List.mem_singleton.mp mt]
            exact List.mem_cons_self
    · obtain ⟨e3, L, hD, hL, len, shape, all⟩ := hp
      rw [hlen, List.take_length] at all
      dsimp only [tNil]
      refine sorted3_trs hD hL shape all fun p C H3 e4 t4 mem asc => ?_
      refine tuple_trs t4 fun t H4 e5 d5 => ?_
      refine ⟨by show 2 ≤ sizeLine; decide, fun y ny => ?_⟩
      exact q _ _ C ((e12.trans e3).trans ((e4.trans e5).trans (same_new ny))) (dp_mkweb ny d5) (wok_rek ok hk h3 mem asc) mem
end
end K0

namespace K0
open PySem PySem.Spec PyProof.Rows L2 W0 W1 W2 W5 W6
theorem fine_lst3 {n : Int} {A B C : List T3} (a : WOk n A) (b : WOk n B) (c : WOk n C) : Fine 20 (2 ^ 20) (.list [dWeb n A, dWeb n B, dWeb n C]) := by
  refine Fine.mono (Fine.lst (k := 3) (n := 8002) (m := 3) (fun d hd => ?_) (Nat.le_refl _)) (by decide) (by decide)
  rcases List.mem_cons.mp hd with rfl | hd
  · exact fine_web a
  rcases List.mem_cons.mp hd with rfl | hd
  · exact fine_web b
  rw [List.mem_singleton.mp hd]
  exact fine_web c
theorem fine_two {l m : List Int} (a : Fine 1 200 (dInts l)) (b : Fine 1 200 (dInts m)) : Fine 20 (2 ^ 20) (.list [dInts l, dInts m]) := by
  refine Fine.mono (Fine.lst (k := 1) (n := 200) (m := 2) (fun d hd => ?_) (Nat.le_refl _)) (by decide) (by decide)
  rcases List.mem_cons.mp hd with rfl | hd
  · exact a
  rw [List.mem_singleton.mp hd]
  exact b
section
variable {P : Program} {w : World} {K : PySem.W.Frag} {mg : Str → Option Value} {base : Heap}
def sp_ways (K : PySem.W.Frag) : Sp := fun vs H Q _ => ∃ (v : V) (n : Nat) (A : List T3), vs = [v] ∧ Dp K H v (dWeb n A) ∧ WOk n A ∧ n ≤ 5 ∧ ∀ H', Same H H' → Q (.bl true) H'
theorem ok__law_ways_right (T : Tops K mg) : FnG P w K mg base 6 T.a__law_ways_right T.fd__law_ways_right p__law_ways_right (sp_ways K) := by
  have S := sc__law_ways_right
  refine of_body T.F__law_ways_right S (fun vs H Q E h => ?_) (fun cdv AA outer s H vs Q E hgd hr h => ?_)
  · obtain ⟨v, n, A, rfl, _⟩ := h
    rfl
  · obtain ⟨v, n, A, rfl, hd, ok, hn5, q⟩ := h
    refine ⟨_, (pss_cons (ps_set (i := 1) S.nd rfl (Or.inl rfl) (pe_call (ok_web_turned T) (hr.mono (by decide)) (by rfl) T.g_web_turned T.F_web_turned.kp T.b_web_turned .nil pass0 (pa_cons (pv 0) pa_nil)))
      (pss_cons (ps_set (i := 2) S.nd rfl (Or.inl rfl) (pe_tup (pa_cons (pe_ix (ix_tupK (K := K)) (pv 0) pe_int (fun _ _ => rfl)) (pa_cons (pe_callTy (call_tupleK (K := K)) (by rfl) T.m_tuple (by decide +kernel) (pa_cons (pe_callB (cr_sortTK (K := K)) (by rfl) T.m_sorted (by decide +kernel) (pa_cons (pe_lc (own := [("sort", 6), ("near", 7), ("far", 8)]) rfl S.nd (pi_tup (pe_ix (ix_tupK (K := K)) (pv 0) pe_int (fun _ _ => rfl))) (blkOk_by (N := n__law_ways_right) (sc := defScope s__law_ways_right) (by decide +kernel)) (fun _ _ _ _ _ => (pg_tupK (K := K) (n := 3) rfl (pgs_cons (pg_name (i := 6) S.nd rfl (Or.inl rfl)) (pgs_cons (pg_name (i := 7) S.nd rfl (Or.inl rfl)) (pgs_cons (pg_name (i := 8) S.nd rfl (Or.inl rfl)) pgs_nil))))) (fun _ _ _ _ _ => pts_nil) (fun _ _ _ _ _ => (pe_tup (pa_cons (pv 6) (pa_cons (pv 8) (pa_cons (pv 7) pa_nil)))))) pa_nil)) pa_nil)) pa_nil))))
      (pss_cons (ps_if (pt_not (pt_val (pe_callG (ok__law_like T) (hr.mono (by decide)) hgd (by rfl) T.g__law_like T.F__law_like.kp T.b__law_like .nil pass0 (pa_cons (pe_lst (pa_cons (pe_call (ok_need_web T) (hr.mono (by decide)) (by rfl) T.g_need_web T.F_need_web.kp T.b_need_web .nil pass0 (pa_cons (pv 0) pa_nil)) (pa_cons (pv 1) (pa_cons (pe_call (ok_web_turned T) (hr.mono (by decide)) (by rfl) T.g_web_turned T.F_web_turned.kp T.b_web_turned .nil pass0 (pa_cons (pv 1) pa_nil)) pa_nil)))) (pa_cons (pe_lst (pa_cons (pv 0) (pa_cons (pv 2) (pa_cons (pv 0) pa_nil)))) pa_nil))))) (pss_one (ps_ret pe_bl)) pss_nil)
      (pss_cons (ps_for PassesOwn.never rfl (pi_range2 (by rfl) T.m_range (pa_cons (pe_un un_neg pe_int) (pa_cons pe_int pa_nil))) (pg_name (i := 3) S.nd rfl (Or.inl rfl)) (pss_one (ps_for PassesOwn.never rfl (pi_range1 (by rfl) T.m_range (pa_cons (pe_ix (ix_tupK (K := K)) (pv 0) pe_int (fun _ _ => rfl)) pa_nil)) (pg_name (i := 4) S.nd rfl (Or.inl rfl)) (pss_cons (ps_set (i := 5) S.nd rfl (Or.inl rfl) (pe_call (ok__law_led T) (hr.mono (by decide)) (by rfl) T.g__law_led T.F__law_led.kp T.b__law_led .nil pass0 (pa_cons (pv 0) (pa_cons (pv 3) (pa_cons (pv 4) pa_nil)))))
      (pss_one (ps_if (pt_not (pt_val (pe_callG (ok__law_like T) (hr.mono (by decide)) hgd (by rfl) T.g__law_like T.F__law_like.kp T.b__law_like .nil pass0 (pa_cons (pe_lst (pa_cons (pe_call (ok_led_to T) (hr.mono (by decide)) (by rfl) T.g_led_to T.F_led_to.kp T.b_led_to .nil pass0 (pa_cons (pv 0) (pa_cons (pv 3) (pa_cons (pv 4) pa_nil)))) (pa_cons (pe_call (ok_led_to T) (hr.mono (by decide)) (by rfl) T.g_led_to T.F_led_to.kp T.b_led_to .nil pass0 (pa_cons (pv 1) (pa_cons (pe_op op_sub (pe_un un_neg pe_int) (pv 3)) (pa_cons (pv 4) pa_nil)))) pa_nil))) (pa_cons (pe_lst (pa_cons (pv 5) (pa_cons (pv 5) pa_nil))) pa_nil))))) (pss_one (ps_ret pe_bl)) pss_nil))))))
      (pss_one (ps_ret pe_bl)))))), ?_⟩
    obtain ⟨a, b, xs, rfl, hs, ht, hda⟩ := dp_web hd
    have hlen := dps_len hda
    rw [List.length_map] at hlen
    have h1000 := ok.len
    -- back = web_turned(web_so)
    refine ⟨.ref a, rfl, .ref a, n, A, rfl, hd, ok, fun H1 vb B e1 d1 pm srt => ?_⟩
    have okB := wok_turned ok pm srt
    -- due
    refine ⟨.ref a, rfl, a, [.int n, .ref b], 0, .int n, rfl, rfl, same_tup e1 hs, atI_nat (j := 0) rfl, ?_⟩
    refine ⟨.ref a, rfl, a, [.int n, .ref b], 1, .ref b, rfl, rfl, same_tup e1 hs, atI_nat (j := 1) rfl, ?_⟩
    have ht1 := same_tup e1 ht
    have hda1 := dps_same e1 _ _ hda
    refine ⟨b, rfl, ⟨_, ht1⟩, fun D nD => ?_⟩
    refine lc_tup (K := K) (a := b) (xs := xs) (fun i H' => Same H1 H' ∧ Trs K H' D ((A.take i).map turn)) ⟨same_new nD, Trs.nil⟩ (fun i H' _ h => same_tup h.1 ht1) (fun i x H' hx hp => ?_) (fun H' hp => ?_)
    · obtain ⟨⟨k, f, e⟩, k1, km, d2⟩ := get_tri (dps_same hp.1 _ _ hda1) hx
      have hi : i < xs.length := (List.getElem?_eq_some_iff.mp hx).1
      obtain ⟨p, rfl, hsp⟩ := dp_tri d2
      refine ⟨p, [.int k, .int f, .int e], rfl, hsp, rfl, .int k, _, rfl, .int f, _, rfl, .int e, _, rfl, rfl, ?_⟩
      refine ⟨rfl, .int k, rfl, .int e, rfl, .int f, rfl, by show 3 ≤ sizeLine; decide, fun y ny => ?_⟩
      have t1 := hp.2.same (same_new (o := .tup [.int k, .int e, .int f]) ny)
      obtain ⟨acc, hacc, hal⟩ := t1.acc
      have hnx := t1.push (t := (k, e, f)) hacc (SqT.of (K := K) upd_same)
      refine ⟨acc, hacc, ?_, same_upd_new (hp.1.trans (same_new ny)) nD, ?_⟩
      · rw [hal, List.length_map]
        exact small (m := 1000) (Nat.le_trans (List.length_take_le' _ _) h1000)
      · have et : (A.take (i + 1)).map turn = (A.take i).map turn ++ [(k, e, f)] := by
          rw [List.take_add_one, k1, List.map_append]
          rfl
        rw [et]
        exact hnx
    · have ef : A.take xs.length = A := by rw [hlen, List.take_length]
      have h2 := hp.2
      rw [ef] at h2
      dsimp only [tNil]
      refine sorted_trs h2 fun p C H2 e2 t2 pm2 srt2 => ?_
      refine tuple_trs t2 fun t H3 e3 d3 => ?_
      refine ⟨by show 2 ≤ sizeLine; decide, fun y ny => ?_⟩
      have eC : C = B := t3_uniq (wok_turned ok pm2 srt2).asc okB.asc fun t => pm2.mem_iff.trans pm.mem_iff.symm
      rw [eC] at d3
      have dy := dp_mkweb (n := n) ny d3
      have e4 : Same H1 (upd H3 y (.tup [.int n, .ref t])) := hp.1.trans ((e2.trans e3).trans (same_new ny))
      have db := dp_same e4 _ _ d1
      have da := dp_same (e1.trans e4) _ _ hd
      have eH := e1.trans e4
      generalize upd H3 y (.tup [.int n, .ref t]) = H4 at e4 dy db da eH
      clear e4
      -- _law_like([need_web.., back, web_turned(back)], [..])
      refine ⟨.ref a, rfl, .ref a, n, A, rfl, da, ok, fun H5 e5 => ?_⟩
      refine ⟨vb, rfl, vb, rfl, vb, n, B, rfl, dp_same e5 _ _ db, okB, fun H6 vc C2 e6 d6 pm6 srt6 => ?_⟩
      have eC2 : C2 = A := turned_back ok pm pm6 (wok_turned okB pm6 srt6).asc
      rw [eC2] at d6
      refine ⟨by show 3 ≤ sizeLine; decide, fun g ng => ?_⟩
      have d56 := e5.trans e6
      refine ⟨.ref a, rfl, .ref y, rfl, .ref a, rfl, by show 3 ≤ sizeLine; decide, fun g2 ng2 => ?_⟩
      have l1 := dp_mkl (K := K) (p := g) ng (.cons (dp_same d56 _ _ da) (.cons (dp_same d56 _ _ db) (.cons d6 .nil)))
      have e7 := d56.trans (same_new (o := .lst [.ref a, vb, vc]) ng)
      have l2 := dp_mkl (K := K) (p := g2) ng2 (.cons (dp_same e7 _ _ da) (.cons (dp_same e7 _ _ dy) (.cons (dp_same e7 _ _ da) .nil)))
      have e8 := e7.trans (same_new (o := .lst [.ref a, .ref y, .ref a]) ng2)
      refine ⟨g, g2, _, rfl, dp_same (same_new ng2) _ _ l1, l2, fine_lst3 ok okB ok, true, rfl, ?_⟩
      replace db := dp_same e8 _ _ db
      replace da := dp_same e8 _ _ da
      replace eH := eH.trans e8
      clear l1 l2 e7 d56
      generalize upd _ g2 _ = H7 at e8 db da eH
      clear e8
      -- for toward in range(-3, 3)
      refine ⟨3, rfl, -3, 3, rfl, ⟨by decide, by decide, by decide, by decide⟩, ?_⟩
      refine for_range (lo := -3) (n := 6) (fun i σ H' => Same H H' ∧ Dp K H' vb (dWeb n B) ∧ ∃ y3 y4 y5, σ = [some (.ref a), some vb, some (.ref y), y3, y4, y5, none, none, none])
        ⟨eH, db, none, none, none, rfl⟩ (fun i σ H8 hi h => ?_) (fun σ H8 h => ?_)
      · obtain ⟨e8, db8, y3, y4, y5, rfl⟩ := h
        have hs8 := same_tup e8 hs
        refine ⟨.ref a, rfl, a, [.int n, .ref b], 0, .int n, rfl, rfl, hs8, atI_nat (j := 0) rfl, n, rfl, by omega, by omega, ?_⟩
        refine for_range (lo := 0) (n := n) (fun j σ H' => Same H H' ∧ Dp K H' vb (dWeb n B) ∧ ∃ y4 y5, σ = [some (.ref a), some vb, some (.ref y), some (.int (-3 + i)), y4, y5, none, none, none])
          ⟨e8, db8, y4, y5, rfl⟩ (fun j σ H9 hj h => ?_) (fun σ H9 h => ?_)
        · obtain ⟨e9, db9, y4, y5, rfl⟩ := h
          rw [Int.zero_add]
          have da9 := dp_same e9 _ _ hd
          refine ⟨.ref a, rfl, .int (-3 + i), rfl, .int j, rfl, .ref a, n, A, -3 + i, j, rfl, da9, ok, hn5, fun H10 r e10 hr => ?_⟩
          have da10 := dp_same e10 _ _ da9
          have db10 := dp_same e10 _ _ db9
          refine ⟨.ref a, rfl, .int (-3 + i), rfl, .int j, rfl, .ref a, n, A, -3 + i, j, rfl, da10, ok, ⟨by omega, by omega⟩, hj, fun H11 r2 e11 hr2 => ?_⟩
          have db11 := dp_same e11 _ _ db10
          refine ⟨vb, rfl, 1, rfl, .int (-3 + i), rfl, -1, -3 + i, rfl, rfl, .int j, rfl, vb, n, B, -1 - (-3 + i), j, rfl, db11, okB, ⟨by omega, by omega⟩, hj, fun H12 r3 e12 hr3 => ?_⟩
          rw [ledS_turned ok okB pm] at hr3
          refine ⟨by show 2 ≤ sizeLine; decide, fun g ng => ?_⟩
          refine ⟨.ref r, rfl, .ref r, rfl, by show 2 ≤ sizeLine; decide, fun g2 ng2 => ?_⟩
          have f := fine_led ok (-3 + (i : Int)) (j : Int)
          have l1 := dp_mkl (K := K) (p := g) ng (.cons (dp_of_ints (same_tup e12 hr2)) (.cons (dp_of_ints hr3) .nil))
          have hr4 := same_tup (same_new (o := .lst [.ref r2, .ref r3]) ng) (same_tup e12 (same_tup e11 hr))
          have l2 := dp_mkl (K := K) (p := g2) ng2 (.cons (dp_of_ints hr4) (.cons (dp_of_ints hr4) .nil))
          have e13 := ((e10.trans e11).trans e12).trans ((same_new (o := .lst [.ref r2, .ref r3]) ng).trans (same_new (o := .lst [.ref r, .ref r]) ng2))
          refine ⟨g, g2, _, rfl, dp_same (same_new ng2) _ _ l1, l2, fine_two f f, true, rfl, ?_⟩
          exact ⟨e9.trans e13, dp_same e13 _ _ db9, _, _, rfl⟩
        · obtain ⟨e9, db9, y4, y5, rfl⟩ := h
          exact ⟨e9, db9, _, _, _, rfl⟩
      · exact q _ h.1
end
end K0

namespace K0
open PySem PySem.Spec PyProof.Rows L2 W0 W1 W2 W5 W6
/-- what the elder kinds that became kind s lead to, the first i of them, along (true) or back -/
def kin (ks : List Int) (A : List T3) (s x : Int) (along : Bool) : Nat → List Int
  | 0 => []
  | i + 1 => if ks.getD i 0 = s then kin ks A s x along i ++ ledS A (if along = true then (i : Int) else -1 - i) x else kin ks A s x along i
theorem kin_len {n : Nat} {ks : List Int} {A : List T3} (ok : WOk n A) (s x : Int) (al : Bool) : ∀ i, (kin ks A s x al i).length ≤ n * i
  | 0 => Nat.le_refl _
  | i + 1 => by
    have h := kin_len (ks := ks) ok s x al i
    show (if ks.getD i 0 = s then _ else _ : List Int).length ≤ _
    rw [Nat.mul_succ]
    by_cases c : ks.getD i 0 = s
    · rw [if_pos c, List.length_append]
      have := ledS_few ok (if al = true then (i : Int) else -1 - i) x
      omega
    · rw [if_neg c]
      omega
theorem kin_mem {ks : List Int} {A : List T3} {s x e : Int} {al : Bool} : ∀ {i}, e ∈ kin ks A s x al i ↔ ∃ j, j < i ∧ ks.getD j 0 = s ∧ e ∈ ledS A (if al = true then (j : Int) else -1 - j) x
  | 0 => by
    constructor
    · intro z
      exact (List.not_mem_nil z).elim
    · rintro ⟨j, h, _⟩
      exact absurd h (Nat.not_lt_zero _)
  | i + 1 => by
    have ih := kin_mem (ks := ks) (A := A) (s := s) (x := x) (e := e) (al := al) (i := i)
    show e ∈ (if ks.getD i 0 = s then _ else _ : List Int) ↔ _
    by_cases c : ks.getD i 0 = s
    · rw [if_pos c, List.mem_append, ih]
      constructor
      · rintro (⟨j, h1, h2, h3⟩ | h)
        · exact ⟨j, by omega, h2, h3⟩
        · exact ⟨i, by omega, c, h⟩
      · rintro ⟨j, h1, h2, h3⟩
        by_cases e : j = i
        · rw [e] at h3
          exact Or.inr h3
        · exact Or.inl ⟨j, by omega, h2, h3⟩
    · rw [if_neg c, ih]
      constructor
      · rintro ⟨j, h1, h2, h3⟩
        exact ⟨j, by omega, h2, h3⟩
      · rintro ⟨j, h1, h2, h3⟩
        by_cases e : j = i
        · rw [e] at h2
          exact absurd h2 c
        · exact ⟨j, by omega, h2, h3⟩
theorem rek_led {n : Int} {ks : List Int} {A B : List T3} (ok : WOk n A) (mem : ∀ t, t ∈ B ↔ t ∈ A.map (rek ks)) {s : Int} (s0 : 0 ≤ s) (x e : Int) : e ∈ kin ks A s x true 3 ↔ e ∈ ledS B s x := by
  rw [kin_mem, mem_ledS]
  constructor
  · rintro ⟨j, h1, h2, h3⟩
    rw [if_pos rfl] at h3
    obtain ⟨t, ht, f⟩ := mem_ledS.mp h3
    rw [ledF_pos (by omega)] at f
    refine ⟨(s, x, e), (mem _).mpr (List.mem_map.mpr ⟨t, ht, ?_⟩), (ledF_pos s0).mpr rfl⟩
    rw [f]
    exact T3.ext' h2 rfl rfl
  · rintro ⟨t, ht, f⟩
    rw [ledF_pos s0] at f
    obtain ⟨u, hu, e1⟩ := List.mem_map.mp ((mem _).mp ht)
    have iu := ok.all u hu
    have i0 := iu.k0
    have i2 := iu.k2
    rw [f] at e1
    have g1 : ks.getD u.1.toNat 0 = s := congrArg (·.1) e1
    have g2 : u.2.1 = x := congrArg (·.2.1) e1
    have g3 : u.2.2 = e := congrArg (·.2.2) e1
    refine ⟨u.1.toNat, by omega, g1, mem_ledS.mpr ⟨u, hu, ?_⟩⟩
    rw [if_pos rfl, ledF_pos (by omega)]
    exact T3.ext' (by show u.1 = (u.1.toNat : Int); omega) g2 g3
theorem rek_back {n : Int} {ks : List Int} {A B : List T3} (ok : WOk n A) (mem : ∀ t, t ∈ B ↔ t ∈ A.map (rek ks)) {s : Int} (s0 : 0 ≤ s) (x e : Int) : e ∈ kin ks A s x false 3 ↔ e ∈ ledS B (-1 - s) x := by
  rw [kin_mem, mem_ledS]
  have es : -1 - (-1 - s) = s := by omega
  constructor
  · rintro ⟨j, h1, h2, h3⟩
    rw [if_neg (by decide)] at h3
    obtain ⟨t, ht, f⟩ := mem_ledS.mp h3
    rw [ledF_neg (by omega)] at f
    have ej : -1 - (-1 - (j : Int)) = j := by omega
    rw [ej] at f
    refine ⟨(s, e, x), (mem _).mpr (List.mem_map.mpr ⟨t, ht, ?_⟩), (ledF_neg (by omega)).mpr (by rw [es])⟩
    rw [f]
    exact T3.ext' h2 rfl rfl
  · rintro ⟨t, ht, f⟩
    rw [ledF_neg (by omega), es] at f
    obtain ⟨u, hu, e1⟩ := List.mem_map.mp ((mem _).mp ht)
    have iu := ok.all u hu
    have i0 := iu.k0
    have i2 := iu.k2
    rw [f] at e1
    have g1 : ks.getD u.1.toNat 0 = s := congrArg (·.1) e1
    have g2 : u.2.1 = e := congrArg (·.2.1) e1
    have g3 : u.2.2 = x := congrArg (·.2.2) e1
    refine ⟨u.1.toNat, by omega, g1, mem_ledS.mpr ⟨u, hu, ?_⟩⟩
    rw [if_neg (by decide), ledF_neg (by omega)]
    exact T3.ext' (by show u.1 = -1 - (-1 - (u.1.toNat : Int)); omega) g2 g3
section
variable {P : Program} {w : World} {K : PySem.W.Frag} {mg : Str → Option Value} {base : Heap}
def sp_kr (K : PySem.W.Frag) : Sp := fun vs H Q _ => ∃ (v : V) (n : Nat) (A : List T3) (kb : Addr) (ks : List Int), vs = [v, .ref kb] ∧ Dp K H v (dWeb n A) ∧ WOk n A ∧ n ≤ 5 ∧ A.length ≤ 75 ∧ SqT K H kb (ks.map V.int) ∧ ks.length = 3 ∧ (∀ x ∈ ks, 0 ≤ x ∧ x ≤ 2) ∧ ∀ H', Same H H' → Q (.bl true) H'
theorem ok__law_kinds_right (T : Tops K mg) : FnG P w K mg base 6 T.a__law_kinds_right T.fd__law_kinds_right p__law_kinds_right (sp_kr K) := by
  have S := sc__law_kinds_right
  refine of_body T.F__law_kinds_right S (fun vs H Q E h => ?_) (fun cdv AA outer s H vs Q E hgd hr h => ?_)
  · obtain ⟨v, n, A, kb, ks, rfl, _⟩ := h
    rfl
  · obtain ⟨v, n, A, kb, ks, rfl, hd, ok, hn5, h75, hkb, h3, hk, q⟩ := h
    refine ⟨_, (pss_cons (ps_set (i := 2) S.nd rfl (Or.inl rfl) (pe_call (ok_kinds_changed T) (hr.mono (by decide)) (by rfl) T.g_kinds_changed T.F_kinds_changed.kp T.b_kinds_changed .nil pass0 (pa_cons (pv 0) (pa_cons (pv 1) pa_nil))))
      (pss_cons (ps_set (i := 3) S.nd rfl (Or.inl rfl) (pe_callB (W5.cr_sorted3K (K := K) (P := P) (w := w) rfl) (by rfl) T.m_sorted (by decide +kernel) (pa_cons (pe_callTy (W5.cr_set3K (K := K) (P := P) (w := w) rfl hr.units) (by rfl) T.m_set (by decide +kernel) (pa_cons (pe_lc (own := [("sort", 4), ("near", 9), ("far", 10)]) rfl S.nd (pi_tup (pe_ix (ix_tupK (K := K)) (pv 0) pe_int (fun _ _ => rfl))) (blkOk_by (N := n__law_kinds_right) (sc := defScope s__law_kinds_right) (by decide +kernel)) (fun _ _ _ _ _ => (pg_tupK (K := K) (n := 3) rfl (pgs_cons (pg_name (i := 4) S.nd rfl (Or.inl rfl)) (pgs_cons (pg_name (i := 9) S.nd rfl (Or.inl rfl)) (pgs_cons (pg_name (i := 10) S.nd rfl (Or.inl rfl)) pgs_nil))))) (fun _ _ _ _ _ => pts_nil) (fun _ _ _ _ _ => (pe_tup (pa_cons (pe_ix (ix_tupK (K := K)) (pv 1) (pv 4) (fun _ _ => rfl)) (pa_cons (pv 9) (pa_cons (pv 10) pa_nil)))))) pa_nil)) pa_nil)))
      (pss_cons (ps_if (pt_not (pt_val (pe_callG (ok__law_like T) (hr.mono (by decide)) hgd (by rfl) T.g__law_like T.F__law_like.kp T.b__law_like .nil pass0 (pa_cons (pv 2) (pa_cons (pe_tup (pa_cons (pe_ix (ix_tupK (K := K)) (pv 0) pe_int (fun _ _ => rfl)) (pa_cons (pe_callTy (call_tupleK (K := K)) (by rfl) T.m_tuple (by decide +kernel) (pa_cons (pv 3) pa_nil)) pa_nil))) pa_nil))))) (pss_one (ps_ret pe_bl)) pss_nil)
      (pss_cons (ps_for PassesOwn.never rfl (pi_range1 (by rfl) T.m_range (pa_cons pe_int pa_nil)) (pg_name (i := 4) S.nd rfl (Or.inl rfl)) (pss_one (ps_for PassesOwn.never rfl (pi_range1 (by rfl) T.m_range (pa_cons (pe_ix (ix_tupK (K := K)) (pv 0) pe_int (fun _ _ => rfl)) pa_nil)) (pg_name (i := 5) S.nd rfl (Or.inl rfl)) (pss_cons (ps_asg (pe_tup (pa_cons (pe_tup pa_nil) (pa_cons (pe_tup pa_nil) pa_nil))) (pg_tupK (K := K) (n := 2) rfl (pgs_cons (pg_name (i := 6) S.nd rfl (Or.inl rfl)) (pgs_cons (pg_name (i := 7) S.nd rfl (Or.inl rfl)) pgs_nil))))
      (pss_cons (ps_for PassesOwn.never rfl (pi_range1 (by rfl) T.m_range (pa_cons pe_int pa_nil)) (pg_name (i := 8) S.nd rfl (Or.inl rfl)) (pss_one (ps_if (pt_cmpR op_eq (pe_ix (ix_tupK (K := K)) (pv 1) (pv 8) (fun _ _ => rfl)) (pv 4) (nomark _)) (pss_one (ps_par (i := 6) (j := 7) rfl S.nd rfl rfl (by decide) rfl rfl (pa_cons (pe_op (op_catK (K := K)) (pv 6) (pe_call (ok__law_led T) (hr.mono (by decide)) (by rfl) T.g__law_led T.F__law_led.kp T.b__law_led .nil pass0 (pa_cons (pv 0) (pa_cons (pv 8) (pa_cons (pv 5) pa_nil))))) (pa_cons (pe_op (op_catK (K := K)) (pv 7) (pe_call (ok__law_led T) (hr.mono (by decide)) (by rfl) T.g__law_led T.F__law_led.kp T.b__law_led .nil pass0 (pa_cons (pv 0) (pa_cons (pe_op op_sub (pe_un un_neg pe_int) (pv 8)) (pa_cons (pv 5) pa_nil))))) pa_nil)) (by rfl))) pss_nil)))
      (pss_cons (ps_set (i := 3) S.nd rfl (Or.inl rfl) (pe_lst (pa_cons (pe_callTy (call_tupleK (K := K)) (by rfl) T.m_tuple (by decide +kernel) (pa_cons (pe_callB (W5.cr_sortedNK (w := w) rfl) (by rfl) T.m_sorted (by decide +kernel) (pa_cons (pe_callTy (W5.cr_setNK (K := K) (w := w) rfl) (by rfl) T.m_set (by decide +kernel) (pa_cons (pv 6) pa_nil)) pa_nil)) pa_nil)) (pa_cons (pe_callTy (call_tupleK (K := K)) (by rfl) T.m_tuple (by decide +kernel) (pa_cons (pe_callB (W5.cr_sortedNK (w := w) rfl) (by rfl) T.m_sorted (by decide +kernel) (pa_cons (pe_callTy (W5.cr_setNK (K := K) (w := w) rfl) (by rfl) T.m_set (by decide +kernel) (pa_cons (pv 7) pa_nil)) pa_nil)) pa_nil)) pa_nil))))
      (pss_one (ps_if (pt_not (pt_val (pe_callG (ok__law_like T) (hr.mono (by decide)) hgd (by rfl) T.g__law_like T.F__law_like.kp T.b__law_like .nil pass0 (pa_cons (pe_lst (pa_cons (pe_call (ok_led_to T) (hr.mono (by decide)) (by rfl) T.g_led_to T.F_led_to.kp T.b_led_to .nil pass0 (pa_cons (pv 2) (pa_cons (pv 4) (pa_cons (pv 5) pa_nil)))) (pa_cons (pe_call (ok_led_to T) (hr.mono (by decide)) (by rfl) T.g_led_to T.F_led_to.kp T.b_led_to .nil pass0 (pa_cons (pv 2) (pa_cons (pe_op op_sub (pe_un un_neg pe_int) (pv 4)) (pa_cons (pv 5) pa_nil)))) pa_nil))) (pa_cons (pv 3) pa_nil))))) (pss_one (ps_ret pe_bl)) pss_nil))))))))
      (pss_one (ps_ret pe_bl)))))), ?_⟩
    obtain ⟨a, b, xs, rfl, hs, ht, hda⟩ := dp_web hd
    have hlen := dps_len hda
    rw [List.length_map] at hlen
    -- told
    refine ⟨.ref a, rfl, .ref kb, rfl, .ref a, n, A, kb, ks, rfl, hd, ok, h75, hkb, h3, hk, fun H1 vb B e1 d1 okB mem => ?_⟩
    -- due
    have hs1 := same_tup e1 hs
    have ht1 := same_tup e1 ht
    have hkb1 := same_tup e1 hkb
    have hda1 := dps_same e1 _ _ hda
    refine ⟨.ref a, rfl, a, [.int n, .ref b], 1, .ref b, rfl, rfl, hs1, atI_nat (j := 1) rfl, ?_⟩
    refine ⟨b, rfl, ⟨_, ht1⟩, fun D nD => ?_⟩
    refine lc_tup (K := K) (a := b) (xs := xs) (fun i H' => Same H1 H' ∧ Trs K H' D ((A.take i).map (rek ks))) ⟨same_new nD, Trs.nil⟩ (fun i H' _ h => same_tup h.1 ht1) (fun i x H' hx hp => ?_) (fun H' hp => ?_)
    · obtain ⟨⟨k, f, e⟩, k1, km, d2⟩ := get_tri (dps_same hp.1 _ _ hda1) hx
      have hi : i < xs.length := (List.getElem?_eq_some_iff.mp hx).1
      have iw := ok.all _ km
      obtain ⟨p, rfl, hsp⟩ := dp_tri d2
      refine ⟨p, [.int k, .int f, .int e], rfl, hsp, rfl, .int k, _, rfl, .int f, _, rfl, .int e, _, rfl, rfl, ?_⟩
      refine ⟨rfl, .ref kb, rfl, .int k, rfl, kb, _, k, _, rfl, rfl, same_tup hp.1 hkb1, get_kind h3 iw.k0 iw.k2, .int f, rfl, .int e, rfl, by show 3 ≤ sizeLine; decide, fun y ny => ?_⟩
      have t1 := hp.2.same (same_new (o := .tup [.int (ks.getD k.toNat 0), .int f, .int e]) ny)
      obtain ⟨acc, hacc, hal⟩ := t1.acc
      have hnx := t1.push (t := rek ks (k, f, e)) hacc (SqT.of (K := K) upd_same)
      refine ⟨acc, hacc, ?_, same_upd_new (hp.1.trans (same_new ny)) nD, ?_⟩
      · rw [hal, List.length_map]
        exact small (m := 1000) (Nat.le_trans (List.length_take_le' _ _) ok.len)
      · have et : (A.take (i + 1)).map (rek ks) = (A.take i).map (rek ks) ++ [rek ks (k, f, e)] := by
          rw [List.take_add_one, k1, List.map_append]
          rfl
        rw [et]
        exact hnx
    · have ef : A.take xs.length = A := by rw [hlen, List.take_length]
      obtain ⟨e2, ts, hD, m, hts⟩ := hp
      rw [ef] at m
      dsimp only [tNil]
      have hl : ts.length ≤ 75 := by
        have := congrArg List.length m
        rw [List.length_map, List.length_map, List.length_map] at this
        omega
      refine ⟨D, ts, rfl, SqL.of hD, hts, by omega, fun c L nc sub all uniq => ?_⟩
      have shape : ∀ q ∈ L, ∃ t ∈ A.map (rek ks), q.2 = tri t := fun q hq => by
        have h1 : q.2 ∈ ts.map (·.2) := List.mem_map.mpr ⟨q, sub q hq, rfl⟩
        rw [m] at h1
        obtain ⟨t, h2, h3⟩ := List.mem_map.mp h1
        exact ⟨t, h2, h3.symm⟩
      have hm : ∀ t ∈ A.map (rek ks), tri t ∈ L.map (·.2) := fun t ht => by
        have h1 : tri t ∈ (A.map (rek ks)).map tri := List.mem_map.mpr ⟨t, ht, rfl⟩
        rw [← m] at h1
        obtain ⟨q, h2, h3⟩ := List.mem_map.mp h1
        rw [← h3]
        exact all q h2
      refine sorted3_trs upd_same (fun q hq => same_tup (same_new nc) (hts q (sub q hq))) shape hm fun p C H2 e3 t3 memC ascC => ?_
      have eC : C = B := t3_uniq ascC okB.asc fun t => (memC t).trans (mem t).symm
      rw [eC] at t3
      obtain ⟨vbA, _, _, rfl, _⟩ := dp_web d1
      have e4 := (e2.trans (same_new (o := Set3 P w c L) nc)).trans e3
      have eH := e1.trans e4
      -- if not _law_like(told, (web_so[0], tuple(due)))
      refine ⟨.ref vbA, rfl, .ref a, rfl, a, [.int n, .ref b], 0, .int n, rfl, rfl, same_tup eH hs, atI_nat (j := 0) rfl, .ref p, rfl, ?_⟩
      dsimp only [tNil]
      refine tuple_trs t3 fun t H3 e5 d5 => ?_
      refine ⟨by show 2 ≤ sizeLine; decide, fun y ny => ?_⟩
      have dy := dp_mkweb (n := n) ny d5
      have e6 := e5.trans (same_new (o := .tup [.int n, .ref t]) ny)
      have db := dp_same (e4.trans e6) _ _ d1
      refine ⟨vbA, y, _, rfl, db, dy, (fine_web okB).mono (by decide) (by decide), true, rfl, ?_⟩
      replace eH := eH.trans e6
      clear dy
      generalize upd H3 y _ = H4 at e6 db eH
      clear e6
      -- for sort in range(3)
      refine ⟨3, rfl, by decide, by decide, ?_⟩
      refine for_range (lo := 0) (n := 3) (fun i σ H' => Same H H' ∧ Dp K H' (.ref vbA) (dWeb n B) ∧ ∃ y3 y4 y5 y6 y7 y8, σ = [some (.ref a), some (.ref kb), some (.ref vbA), y3, y4, y5, y6, y7, y8, none, none])
        ⟨eH, db, _, _, _, _, _, _, rfl⟩ (fun i σ H8 hi h => ?_) (fun σ H8 h => ?_)
      · obtain ⟨e8, db8, y3, y4, y5, y6, y7, y8, rfl⟩ := h
        have hs8 := same_tup e8 hs
        rw [Int.zero_add]
        refine ⟨.ref a, rfl, a, [.int n, .ref b], 0, .int n, rfl, rfl, hs8, atI_nat (j := 0) rfl, n, rfl, by omega, by omega, ?_⟩
        refine for_range (lo := 0) (n := n) (fun j σ H' => Same H H' ∧ Dp K H' (.ref vbA) (dWeb n B) ∧ ∃ y3 y5 y6 y7 y8, σ = [some (.ref a), some (.ref kb), some (.ref vbA), y3, some (.int i), y5, y6, y7, y8, none, none])
          ⟨e8, db8, y3, y5, y6, y7, y8, rfl⟩ (fun j σ H9 hj h => ?_) (fun σ H9 h => ?_)
        · obtain ⟨e9, db9, y3, y5, y6, y7, y8, rfl⟩ := h
          rw [Int.zero_add]
          -- led, back = ((), ())
          refine ⟨Nat.zero_le _, fun g1 n1 => ⟨Nat.zero_le _, fun g2 n2 => ⟨by show 2 ≤ sizeLine; decide, fun g3 n3 => ?_⟩⟩⟩
          have f1 : SqT K (upd (upd (upd H9 g1 (.tup [])) g2 (.tup [])) g3 (.tup [.ref g1, .ref g2])) g1 [] := same_tup (same_new n3) (same_tup (same_new n2) (SqT.of upd_same))
          have f2 : SqT K (upd (upd (upd H9 g1 (.tup [])) g2 (.tup [])) g3 (.tup [.ref g1, .ref g2])) g2 [] := same_tup (same_new n3) (SqT.of upd_same)
          have e10 : Same H9 (upd (upd (upd H9 g1 (.tup [])) g2 (.tup [])) g3 (.tup [.ref g1, .ref g2])) := ((same_new n1).trans (same_new n2)).trans (same_new n3)
          refine ⟨g3, [.ref g1, .ref g2], rfl, SqT.of upd_same, rfl, .ref g1, _, rfl, .ref g2, _, rfl, rfl, ?_⟩
          generalize upd _ g3 _ = H10 at f1 f2 e10
          -- for elder in range(3)
          refine ⟨3, rfl, by decide, by decide, ?_⟩
          refine for_range (lo := 0) (n := 3) (fun z σ H' => Same H10 H' ∧ ∃ g1 g2 y8, σ = [some (.ref a), some (.ref kb), some (.ref vbA), y3, some (.int i), some (.int j), some (.ref g1), some (.ref g2), y8, none, none] ∧
              SqT K H' g1 ((kin ks A i j true z).map V.int) ∧ SqT K H' g2 ((kin ks A i j false z).map V.int))
            ⟨Same.refl _, g1, g2, y8, rfl, f1, f2⟩ (fun z σ H11 hz h => ?_) (fun σ H11 h => ?_)
          · obtain ⟨e11, g1, g2, y8, rfl, f1, f2⟩ := h
            rw [Int.zero_add]
            have eH11 := (e9.trans e10).trans e11
            refine ⟨.ref kb, rfl, .int z, rfl, kb, _, z, _, rfl, rfl, same_tup eH11 hkb, get_kind h3 (by omega) (by omega), .int i, rfl, rfl, _, rfl, ?_⟩
            rw [dec_vint]
            refine ite2 (fun c => ?_) (fun c => ?_)
            · have c1 : ks.getD z 0 = (i : Int) := of_decide_eq_true c
              have da11 := dp_same eH11 _ _ hd
              have k1 := kin_len (ks := ks) ok i j true z
              have k2 := kin_len (ks := ks) ok i j false z
              have b1 : n * z ≤ 10 := Nat.le_trans (Nat.mul_le_mul (n₁ := n) (m₁ := z) (n₂ := 5) (m₂ := 2) hn5 (by omega)) (by decide)
              refine ⟨.ref g1, rfl, .ref a, rfl, .int z, rfl, .int j, rfl, .ref a, n, A, z, j, rfl, da11, ok, hn5, fun H12 r e12 hr => ?_⟩
              have fw1 := ledS_few ok (z : Int) (j : Int)
              refine ⟨g1, r, _, _, rfl, rfl, same_tup e12 f1, hr, ?_, fun p1 H13 e13 hp1 => ?_⟩
              · rw [List.length_map, List.length_map]
                exact Nat.le_of_lt (small (m := 1000) (by omega))
              have e123 := e12.trans e13
              refine ⟨.ref g2, rfl, .ref a, rfl, 1, rfl, .int z, rfl, -1, z, rfl, rfl, .int j, rfl, .ref a, n, A, -1 - z, j, rfl, dp_same e123 _ _ da11, ok, hn5, fun H14 r2 e14 hr2 => ?_⟩
              have fw2 := ledS_few ok (-1 - (z : Int)) (j : Int)
              refine ⟨g2, r2, _, _, rfl, rfl, same_tup (e123.trans e14) f2, hr2, ?_, fun p2 H15 e15 hp2 => ?_⟩
              · rw [List.length_map, List.length_map]
                exact Nat.le_of_lt (small (m := 1000) (by omega))
              refine ⟨.ref p1, .ref p2, rfl, e11.trans ((e123.trans e14).trans e15), p1, p2, _, rfl, ?_, ?_⟩
              · have et : kin ks A i j true (z + 1) = kin ks A i j true z ++ ledS A (z : Int) j := by
                  show (if _ then _ else _ : List Int) = _
                  rw [if_pos c1]
                  rfl
                rw [et, List.map_append]
                exact same_tup (e14.trans e15) hp1
              · have et : kin ks A i j false (z + 1) = kin ks A i j false z ++ ledS A (-1 - (z : Int)) j := by
                  show (if _ then _ else _ : List Int) = _
                  rw [if_pos c1]
                  rfl
                rw [et, List.map_append]
                exact hp2
            · have c1 : ¬ ks.getD z 0 = (i : Int) := fun e => c (decide_eq_true e)
              refine ⟨e11, g1, g2, _, rfl, ?_, ?_⟩
              · have et : kin ks A i j true (z + 1) = kin ks A i j true z := by
                  show (if _ then _ else _ : List Int) = _
                  rw [if_neg c1]
                rw [et]
                exact f1
              · have et : kin ks A i j false (z + 1) = kin ks A i j false z := by
                  show (if _ then _ else _ : List Int) = _
                  rw [if_neg c1]
                rw [et]
                exact f2
          · obtain ⟨e11, g1, g2, y8, rfl, f1, f2⟩ := h
            have k1 := kin_len (ks := ks) ok i j true 3
            have k2 := kin_len (ks := ks) ok i j false 3
            -- due = [tuple(sorted(set(led))), tuple(sorted(set(back)))]
            refine ⟨.ref g1, rfl, g1, _, rfl, .inr f1, by omega, fun u m nu hm => ?_⟩
            dsimp only [tNil]
            refine sortedN upd_same (by omega) fun ms p H12 e12 hp asc memb => ?_
            have e : ms = ledS B i j := ints_uniq asc (ledS_asc okB.asc _ _) fun x => (memb x).trans (rek_led ok mem (by omega) _ _)
            rw [e] at hp
            refine ⟨p, _, rfl, .inl ⟨SqL.of hp, fun l nl => ?_⟩⟩
            have f3 : SqT K (upd H12 l (.tup ((ledS B i j).map V.int))) l ((ledS B i j).map V.int) := SqT.of upd_same
            have e13 := ((same_new (o := SetO w u (fun j_1 => decide (j_1 ∈ kin ks A i j true 3)) m) nu).trans e12).trans (same_new (o := .tup ((ledS B i j).map V.int)) nl)
            generalize upd H12 l _ = H13 at f3 e13
            refine ⟨.ref g2, rfl, g2, _, rfl, .inr (same_tup e13 f2), by omega, fun u2 m2 nu2 hm2 => ?_⟩
            dsimp only [tNil]
            refine sortedN upd_same (by omega) fun ms2 p2 H14 e14 hp2 asc2 memb2 => ?_
            have e2 : ms2 = ledS B (-1 - i) j := ints_uniq asc2 (ledS_asc okB.asc _ _) fun x => (memb2 x).trans (rek_back ok mem (by omega) _ _)
            rw [e2] at hp2
            refine ⟨p2, _, rfl, .inl ⟨SqL.of hp2, fun l2 nl2 => ?_⟩⟩
            have f4 : SqT K (upd H14 l2 (.tup ((ledS B (-1 - (i : Int)) j).map V.int))) l2 ((ledS B (-1 - (i : Int)) j).map V.int) := SqT.of upd_same
            have e15 := ((same_new (o := SetO w u2 (fun j_1 => decide (j_1 ∈ kin ks A i j false 3)) m2) nu2).trans e14).trans (same_new (o := .tup ((ledS B (-1 - (i : Int)) j).map V.int)) nl2)
            generalize upd H14 l2 _ = H15 at f4 e15
            refine ⟨by show 2 ≤ sizeLine; decide, fun g ng => ?_⟩
            have l1 := dp_mkl (K := K) (p := g) ng (.cons (dp_of_ints (same_tup e15 f3)) (.cons (dp_of_ints f4) .nil))
            have e16 := (((e10.trans e11).trans e13).trans e15).trans (same_new (o := .lst [.ref l, .ref l2]) ng)
            have db16 := dp_same e16 _ _ db9
            generalize upd H15 g _ = H16 at l1 e16 db16
            -- if not _law_like([led_to(..), led_to(..)], due)
            refine ⟨.ref vbA, rfl, .int i, rfl, .int j, rfl, .ref vbA, n, B, i, j, rfl, db16, okB, ⟨by omega, by omega⟩, hj, fun H17 r1 e17 hr1 => ?_⟩
            have db17 := dp_same e17 _ _ db16
            refine ⟨.ref vbA, rfl, 1, rfl, .int i, rfl, -1, i, rfl, rfl, .int j, rfl, .ref vbA, n, B, -1 - i, j, rfl, db17, okB, ⟨by omega, by omega⟩, hj, fun H18 r2 e18 hr2 => ?_⟩
            refine ⟨by show 2 ≤ sizeLine; decide, fun g' ng' => ?_⟩
            have l2 := dp_mkl (K := K) (p := g') ng' (.cons (dp_of_ints (same_tup e18 hr1)) (.cons (dp_of_ints hr2) .nil))
            have e19 := (e17.trans e18).trans (same_new (o := .lst [.ref r1, .ref r2]) ng')
            refine ⟨.ref g, rfl, g', g, _, rfl, l2, dp_same e19 _ _ l1, fine_two (fine_led okB _ _) (fine_led okB _ _), true, rfl, ?_⟩
            exact ⟨e9.trans (e16.trans e19), dp_same e19 _ _ db16, _, _, _, _, _, rfl⟩
        · obtain ⟨e9, db9, y3, y5, y6, y7, y8, rfl⟩ := h
          exact ⟨e9, db9, _, _, _, _, _, _, rfl⟩
      · exact q _ h.1
end
end K0

namespace K0
open PySem PySem.Spec PyProof.Rows L2 W0 W1 W2 W5 W6
/-! ### a web of 200 worlds -/
def gRow (s : Nat) : List T3 := (List.range 200).map fun (x : Nat) => ((0 : Int), (x : Int), ((x : Int) + s) % 200)
def gAll : Nat → List T3
  | 0 => []
  | s + 1 => gAll s ++ gRow s
theorem gRow_len (s : Nat) : (gRow s).length = 200 := by
  unfold gRow
  rw [List.length_map, List.length_range]
theorem gAll_len : ∀ s, (gAll s).length = 200 * s
  | 0 => rfl
  | s + 1 => by
    show (gAll s ++ gRow s).length = _
    rw [List.length_append, gAll_len s, gRow_len]
    omega
theorem gRow_mem {s : Nat} {t : T3} : t ∈ gRow s ↔ ∃ x : Nat, x < 200 ∧ t = (0, (x : Int), ((x : Int) + s) % 200) := by
  unfold gRow
  rw [List.mem_map]
  constructor
  · rintro ⟨x, hx, rfl⟩
    exact ⟨x, List.mem_range.mp hx, rfl⟩
  · rintro ⟨x, hx, rfl⟩
    exact ⟨x, List.mem_range.mpr hx, rfl⟩
theorem gAll_mem {t : T3} : ∀ {k : Nat}, t ∈ gAll k ↔ ∃ s : Nat, s < k ∧ ∃ x : Nat, x < 200 ∧ t = (0, (x : Int), ((x : Int) + s) % 200)
  | 0 => by
    constructor
    · intro z
      exact (List.not_mem_nil z).elim
    · rintro ⟨s, h, _⟩
      exact absurd h (Nat.not_lt_zero _)
  | k + 1 => by
    show t ∈ gAll k ++ gRow k ↔ _
    rw [List.mem_append, gAll_mem (k := k), gRow_mem]
    constructor
    · rintro (⟨s, h1, h2⟩ | h)
      · exact ⟨s, by omega, h2⟩
      · exact ⟨k, by omega, h⟩
    · rintro ⟨s, h1, h2⟩
      by_cases e : s = k
      · rw [e] at h2
        exact Or.inr h2
      · exact Or.inl ⟨s, by omega, h2⟩
theorem gRow_nodup (s : Nat) : (gRow s).Nodup := by
  unfold gRow
  refine List.pairwise_map.mpr (List.Pairwise.imp (fun {a b} h e => h ?_) List.nodup_range)
  have e1 := congrArg (·.2.1) e
  dsimp only at e1
  omega
theorem gAll_nodup : ∀ {k : Nat}, k ≤ 5 → (gAll k).Nodup
  | 0, _ => List.nodup_nil
  | k + 1, h => by
    refine List.nodup_append.mpr ⟨gAll_nodup (by omega), gRow_nodup k, fun a ha b hb e => ?_⟩
    obtain ⟨s, hs, x, hx, ex⟩ := gAll_mem.mp ha
    obtain ⟨y, hy, ey⟩ := gRow_mem.mp hb
    rw [ex, ey] at e
    have e1 := congrArg (·.2.1) e
    have e2 := congrArg (·.2.2) e
    dsimp only at e1 e2
    omega
theorem wok_great {C : List T3} (pm : C.Perm (gAll 5)) (srt : C.Pairwise le3) : WOk 200 C := by
  refine ⟨by decide, by decide, ?_, fun t ht => ?_, asc_of srt (pm.nodup_iff.mpr (gAll_nodup (Nat.le_refl _)))⟩
  · rw [pm.length_eq, gAll_len]
    decide
  · obtain ⟨s, hs, x, hx, rfl⟩ := gAll_mem.mp (pm.mem_iff.mp ht)
    refine ⟨?_, ?_, ?_, ?_, ?_, ?_⟩
    all_goals dsimp only
    all_goals omega
theorem great_a {C : List T3} (pm : C.Perm (gAll 5)) (srt : C.Pairwise le3) : ledS C 0 199 = [0, 1, 2, 3, 199] := by
  refine ints_uniq (ledS_asc (wok_great pm srt).asc _ _) (by decide) fun e => ?_
  rw [mem_ledS]
  constructor
  · rintro ⟨t, ht, f⟩
    rw [ledF_pos (by decide)] at f
    obtain ⟨s, hs, x, hx, e1⟩ := gAll_mem.mp (pm.mem_iff.mp ht)
    rw [f] at e1
    have e2 := congrArg (·.2.1) e1
    have e3 := congrArg (·.2.2) e1
    dsimp only at e2 e3
    have : e = 0 ∨ e = 1 ∨ e = 2 ∨ e = 3 ∨ e = 199 := by omega
    rcases this with rfl | rfl | rfl | rfl | rfl <;> decide
  · intro h
    have h1 : e = 199 ∨ e = 0 ∨ e = 1 ∨ e = 2 ∨ e = 3 := by
      simp at h
      omega
    refine ⟨(0, 199, e), pm.mem_iff.mpr (gAll_mem.mpr ?_), (ledF_pos (by decide)).mpr rfl⟩
    rcases h1 with rfl | rfl | rfl | rfl | rfl
    · exact ⟨0, by decide, 199, by decide, rfl⟩
    · exact ⟨1, by decide, 199, by decide, rfl⟩
    · exact ⟨2, by decide, 199, by decide, rfl⟩
    · exact ⟨3, by decide, 199, by decide, rfl⟩
    · exact ⟨4, by decide, 199, by decide, rfl⟩
theorem great_b {C : List T3} (pm : C.Perm (gAll 5)) (srt : C.Pairwise le3) : ledS C (-1) 0 = [0, 196, 197, 198, 199] := by
  refine ints_uniq (ledS_asc (wok_great pm srt).asc _ _) (by decide) fun e => ?_
  rw [mem_ledS]
  constructor
  · rintro ⟨t, ht, f⟩
    rw [ledF_neg (by decide)] at f
    obtain ⟨s, hs, x, hx, e1⟩ := gAll_mem.mp (pm.mem_iff.mp ht)
    rw [f] at e1
    have e2 := congrArg (·.2.1) e1
    have e3 := congrArg (·.2.2) e1
    dsimp only at e2 e3
    have : e = 0 ∨ e = 196 ∨ e = 197 ∨ e = 198 ∨ e = 199 := by omega
    rcases this with rfl | rfl | rfl | rfl | rfl <;> decide
  · intro h
    have h1 : e = 0 ∨ e = 199 ∨ e = 198 ∨ e = 197 ∨ e = 196 := by
      simp at h
      omega
    refine ⟨(0, e, 0), pm.mem_iff.mpr (gAll_mem.mpr ?_), (ledF_neg (by decide)).mpr rfl⟩
    rcases h1 with rfl | rfl | rfl | rfl | rfl
    · exact ⟨0, by decide, 0, by decide, rfl⟩
    · exact ⟨1, by decide, 199, by decide, rfl⟩
    · exact ⟨2, by decide, 198, by decide, rfl⟩
    · exact ⟨3, by decide, 197, by decide, rfl⟩
    · exact ⟨4, by decide, 196, by decide, rfl⟩
theorem great_c {C : List T3} (pm : C.Perm (gAll 5)) : ledS C 2 7 = [] := by
  refine List.eq_nil_iff_forall_not_mem.mpr fun e h => ?_
  obtain ⟨t, ht, f⟩ := mem_ledS.mp h
  rw [ledF_pos (by decide)] at f
  obtain ⟨s, hs, x, hx, e1⟩ := gAll_mem.mp (pm.mem_iff.mp ht)
  rw [f] at e1
  have e2 := congrArg (·.1) e1
  dsimp only at e2
  omega
theorem wok_none : WOk 1 [] := ⟨by decide, by decide, by decide, fun t h => (List.not_mem_nil h).elim, List.Pairwise.nil⟩
theorem wok_one : WOk 1 [((2 : Int), (0 : Int), (0 : Int))] := by
  refine ⟨by decide, by decide, by decide, fun t h => ?_, List.pairwise_singleton _ _⟩
  rw [List.mem_singleton.mp h]
  exact ⟨by decide, by decide, by decide, by decide, by decide, by decide⟩
def tA : List T3 := [(0, 0, 1), (1, 0, 1), (2, 1, 1)]
def tB' : List T3 := [(0, 1, 1), (2, 0, 1)]
theorem wok_tA : WOk 2 tA := by
  refine ⟨by decide, by decide, by decide, fun t h => ?_, ?_⟩
  · rcases List.mem_cons.mp h with rfl | h
    · exact ⟨by decide, by decide, by decide, by decide, by decide, by decide⟩
    rcases List.mem_cons.mp h with rfl | h
    · exact ⟨by decide, by decide, by decide, by decide, by decide, by decide⟩
    rw [List.mem_singleton.mp h]
    exact ⟨by decide, by decide, by decide, by decide, by decide, by decide⟩
  · unfold tA lt3
    decide
theorem asc_tB : tB'.Pairwise lt3 := by
  unfold tB' lt3
  decide
theorem rek_tA {B : List T3} (okB : WOk 2 B) (mem : ∀ t, t ∈ B ↔ t ∈ tA.map (rek [2, 2, 0])) : B = tB' := by
  refine t3_uniq okB.asc asc_tB fun t => (mem t).trans ?_
  have e : tA.map (rek [2, 2, 0]) = [(2, 0, 1), (2, 0, 1), (0, 1, 1)] := rfl
  rw [e]
  unfold tB'
  constructor
  · intro h
    rcases List.mem_cons.mp h with rfl | h
    · decide
    rcases List.mem_cons.mp h with rfl | h
    · decide
    rw [List.mem_singleton.mp h]
    decide
  · intro h
    rcases List.mem_cons.mp h with rfl | h
    · decide
    rw [List.mem_singleton.mp h]
    decide
end K0

namespace K0
open PySem PySem.Spec PyProof.Rows L2 W0 W1 W2 W5 W6
theorem trs_join {K : PySem.W.Frag} {H : Hp} {D D2 p : Addr} {A C : List T3} {xs zs : List V} (t : Trs K H D A) (u : Trs K H D2 C) (e1 : H D = some (.lst xs)) (e2 : H D2 = some (.lst zs)) (np : H p = none) : Trs K (upd H p (.lst (xs ++ zs))) p (A ++ C) := Trs.join t u e1 e2 np
mutual
def noL : PyData → Bool
  | .list _ => false
  | .tuple ds => noLs ds
  | .dict _ => false
  | .none => true
  | .bool _ => true
  | .int _ => true
  | .str _ => true
def noLs : List PyData → Bool
  | [] => true
  | d :: ds => noL d && noLs ds
end
mutual
theorem dp_put {K : PySem.W.Frag} {H : Hp} {D : Addr} {acc : List V} {o : HO} (e : H D = some (.lst acc)) : ∀ (d : PyData) (v : V), noL d = true → Dp K H v d → Dp K (upd H D o) v d
  | .none, _, _, h => by cases h; exact .non
  | .bool b, _, _, h => by cases h; exact .bl b
  | .int i, _, _, h => by cases h; exact .int i
  | .str x, _, _, h => by cases h; exact .str x
  | .list ds, _, z, _ => Bool.noConfusion z
  | .tuple ds, _, z, h => by
    cases h with
    | tup hs ha => exact .tup (sqT_upd e hs) (dps_put e ds _ z ha)
  | .dict _, _, z, _ => Bool.noConfusion z
theorem dps_put {K : PySem.W.Frag} {H : Hp} {D : Addr} {acc : List V} {o : HO} (e : H D = some (.lst acc)) : ∀ (ds : List PyData) (vs : List V), noLs ds = true → DpAll K H vs ds → DpAll K (upd H D o) vs ds
  | [], _, _, h => by cases h; exact .nil
  | d :: ds, _, z, h => by
    have z1 := (Bool.and_eq_true _ _).mp z
    cases h with
    | cons h1 h2 => exact .cons (dp_put e d _ z1.1 h1) (dps_put e ds _ z1.2 h2)
end
theorem wok_tB : WOk 2 tB' := by
  refine ⟨by decide, by decide, by decide, fun t h => ?_, asc_tB⟩
  rcases List.mem_cons.mp h with rfl | h
  · exact ⟨by decide, by decide, by decide, by decide, by decide, by decide⟩
  rw [List.mem_singleton.mp h]
  exact ⟨by decide, by decide, by decide, by decide, by decide, by decide⟩
theorem mk_ints {K : PySem.W.Frag} {H : Hp} {p : Addr} (l : List Int) (np : H p = none) : Dp K (upd H p (.tup (l.map V.int))) (.ref p) (dInts l) := dp_mk np (dps_ints l)
section
variable {P : Program} {w : World} {K : PySem.W.Frag} {mg : Str → Option Value} {base : Heap}
def sp_great : Sp := fun vs H Q _ => vs = [] ∧ ∀ H', Same H H' → Q (.bl true) H'
theorem ok__law_great (T : Tops K mg) : FnG P w K mg base 6 T.a__law_great T.fd__law_great p__law_great sp_great := by
  have S := sc__law_great
  refine of_body T.F__law_great S (fun vs H Q E h => ?_) (fun cdv AA outer s H vs Q E hgd hr h => ?_)
  · obtain ⟨rfl, _⟩ := h
    rfl
  · obtain ⟨rfl, q⟩ := h
    refine ⟨_, (pss_cons (ps_set (i := 0) S.nd rfl (Or.inl rfl) (pe_lst pa_nil))
      (pss_cons (ps_for PassesOwn.never rfl (pi_range1 (by rfl) T.m_range (pa_cons pe_int pa_nil)) (pg_name (i := 1) S.nd rfl (Or.inr rfl)) (pss_one (ps_set (i := 0) S.nd rfl (Or.inl rfl) (pe_op op_cat (pv 0) (pe_lc (own := [("spot", 5)]) rfl S.nd (pi_range1 (by rfl) T.m_range (pa_cons pe_int pa_nil)) (blkOk_by (N := n__law_great) (sc := defScope s__law_great) (by decide +kernel)) (fun _ _ _ _ _ => (pg_name (i := 5) S.nd rfl (Or.inl rfl))) (fun _ _ _ _ _ => pts_nil) (fun _ _ _ _ _ => (pe_tup (pa_cons pe_int (pa_cons (pv 5) (pa_cons (pe_op op_mod (pe_op op_add (pv 5) (pv 1)) pe_int) pa_nil))))))))))
      (pss_cons (ps_set (i := 2) S.nd rfl (Or.inl rfl) (pe_tup (pa_cons pe_int (pa_cons (pe_callTy (call_tupleK (K := K)) (by rfl) T.m_tuple (by decide +kernel) (pa_cons (pe_callB (cr_sortTK (K := K)) (by rfl) T.m_sorted (by decide +kernel) (pa_cons (pv 0) pa_nil)) pa_nil)) pa_nil))))
      (pss_cons (ps_set (i := 3) S.nd rfl (Or.inl rfl) (pe_lst (pa_cons (pe_cmpR (op_eqD hr.units) (pe_call (ok_need_web T) (hr.mono (by decide)) (by rfl) T.g_need_web T.F_need_web.kp T.b_need_web .nil pass0 (pa_cons (pv 2) pa_nil)) (pv 2) (nomark _)) (pa_cons (pe_call (ok_led_to T) (hr.mono (by decide)) (by rfl) T.g_led_to T.F_led_to.kp T.b_led_to .nil pass0 (pa_cons (pv 2) (pa_cons pe_int (pa_cons pe_int pa_nil)))) (pa_cons (pe_call (ok_led_to T) (hr.mono (by decide)) (by rfl) T.g_led_to T.F_led_to.kp T.b_led_to .nil pass0 (pa_cons (pv 2) (pa_cons (pe_un un_neg pe_int) (pa_cons pe_int pa_nil)))) (pa_cons (pe_call (ok_led_to T) (hr.mono (by decide)) (by rfl) T.g_led_to T.F_led_to.kp T.b_led_to .nil pass0 (pa_cons (pv 2) (pa_cons pe_int (pa_cons pe_int pa_nil)))) pa_nil))))))
      (pss_cons (ps_set (i := 3) S.nd rfl (Or.inl rfl) (pe_op op_cat (pv 3) (pe_lst (pa_cons (pe_call (ok_need_web T) (hr.mono (by decide)) (by rfl) T.g_need_web T.F_need_web.kp T.b_need_web .nil pass0 (pa_cons (pe_tup (pa_cons pe_int (pa_cons (pe_tup pa_nil) pa_nil))) pa_nil)) (pa_cons (pe_call (ok_web_turned T) (hr.mono (by decide)) (by rfl) T.g_web_turned T.F_web_turned.kp T.b_web_turned .nil pass0 (pa_cons (pe_tup (pa_cons pe_int (pa_cons (pe_tup pa_nil) pa_nil))) pa_nil)) (pa_cons (pe_call (ok_led_to T) (hr.mono (by decide)) (by rfl) T.g_led_to T.F_led_to.kp T.b_led_to .nil pass0 (pa_cons (pe_tup (pa_cons pe_int (pa_cons (pe_tup (pa_cons (pe_tup (pa_cons pe_int (pa_cons pe_int (pa_cons pe_int pa_nil)))) pa_nil)) pa_nil))) (pa_cons (pe_un un_neg pe_int) (pa_cons pe_int pa_nil)))) pa_nil))))))
      (pss_cons (ps_expr (pe_bm PySem.F.plainAttrs_list PySem.F.slot_list_append PySem.F.type_list_append mt_append (pv 3) (pa_cons (pe_call (ok_kinds_changed T) (hr.mono (by decide)) (by rfl) T.g_kinds_changed T.F_kinds_changed.kp T.b_kinds_changed .nil pass0 (pa_cons (pe_tup (pa_cons pe_int (pa_cons (pe_tup (pa_cons (pe_tup (pa_cons pe_int (pa_cons pe_int (pa_cons pe_int pa_nil)))) (pa_cons (pe_tup (pa_cons pe_int (pa_cons pe_int (pa_cons pe_int pa_nil)))) (pa_cons (pe_tup (pa_cons pe_int (pa_cons pe_int (pa_cons pe_int pa_nil)))) pa_nil)))) pa_nil))) (pa_cons (pe_tup (pa_cons pe_int (pa_cons pe_int (pa_cons pe_int pa_nil)))) pa_nil))) pa_nil)))
      (pss_cons (ps_set (i := 4) S.nd rfl (Or.inl rfl) (pe_lst (pa_cons pe_bl (pa_cons (pe_tup (pa_cons pe_int (pa_cons pe_int (pa_cons pe_int (pa_cons pe_int (pa_cons pe_int pa_nil)))))) (pa_cons (pe_tup (pa_cons pe_int (pa_cons pe_int (pa_cons pe_int (pa_cons pe_int (pa_cons pe_int pa_nil)))))) (pa_cons (pe_tup pa_nil) (pa_cons (pe_tup (pa_cons pe_int (pa_cons (pe_tup pa_nil) pa_nil))) (pa_cons (pe_tup (pa_cons pe_int (pa_cons (pe_tup pa_nil) pa_nil))) (pa_cons (pe_tup (pa_cons pe_int pa_nil)) pa_nil)))))))))
      (pss_one (ps_ret (pe_callG (ok__law_like T) (hr.mono (by decide)) hgd (by rfl) T.g__law_like T.F__law_like.kp T.b__law_like .nil pass0 (pa_cons (pv 3) (pa_cons (pe_op op_cat (pv 4) (pe_lst (pa_cons (pe_tup (pa_cons pe_int (pa_cons (pe_tup (pa_cons (pe_tup (pa_cons pe_int (pa_cons pe_int (pa_cons pe_int pa_nil)))) (pa_cons (pe_tup (pa_cons pe_int (pa_cons pe_int (pa_cons pe_int pa_nil)))) pa_nil))) pa_nil))) pa_nil))) pa_nil)))))))))))), ?_⟩
    refine ⟨Nat.zero_le _, fun F nF => ?_⟩
    refine ⟨5, rfl, by decide, by decide, ?_⟩
    refine for_range (lo := 0) (n := 5) (fun s σ H' => Same H H' ∧ ∃ f y1, σ = [some (.ref f), y1, none, none, none, none] ∧ Trs K H' f (gAll s))
      ⟨same_new nF, F, none, rfl, Trs.nil⟩ (fun s σ H' hs h => ?_) (fun σ H' h => ?_)
    · obtain ⟨e1, f, y1, rfl, t1⟩ := h
      rw [Int.zero_add]
      refine ⟨.ref f, rfl, 200, rfl, by decide, by decide, fun D nD => ?_⟩
      refine lc_range (lo := 0) (n := 200) (fun j H'' => Same H' H'' ∧ Trs K H'' D ((gRow s).take j)) ⟨same_new nD, Trs.nil⟩ (fun j H5 hj hp => ?_) (fun H5 hp => ?_)
      · obtain ⟨e5, t5⟩ := hp
        rw [Int.zero_add]
        refine ⟨rfl, .int j, rfl, .int j, rfl, .int s, rfl, j, s, rfl, rfl, (j : Int) + s, 200, rfl, rfl, (by decide : (0 : Int) < 200), by show 3 ≤ sizeLine; decide, fun y ny => ?_⟩
        have t6 := t5.same (same_new (o := .tup [.int 0, .int j, .int (((j : Int) + s) % 200)]) ny)
        obtain ⟨acc, hacc, hal⟩ := t6.acc
        have hnx := t6.push (t := (0, (j : Int), ((j : Int) + s) % 200)) hacc (SqT.of (K := K) upd_same)
        refine ⟨acc, hacc, ?_, same_upd_new (e5.trans (same_new ny)) nD, ?_⟩
        · rw [hal]
          refine small (m := 1000) (Nat.le_trans (List.length_take_le' _ _) ?_)
          rw [gRow_len]
          decide
        · have et : (gRow s).take (j + 1) = (gRow s).take j ++ [(0, (j : Int), ((j : Int) + s) % 200)] := by
            rw [List.take_add_one]
            congr 1
            unfold gRow
            rw [List.getElem?_map, range_get hj]
            rfl
          rw [et]
          exact hnx
      · obtain ⟨e5, t5⟩ := hp
        have er : (gRow s).take 200 = gRow s := by
          have := gRow_len s
          conv => lhs; rw [← this]
          exact List.take_length
        rw [er] at t5
        have t6 := t1.same e5
        obtain ⟨acc, hacc, hal⟩ := t6.acc
        obtain ⟨acd, hacd, had⟩ := t5.acc
        refine ⟨f, D, acc, acd, rfl, rfl, hacc, hacd, ?_, fun p np => ?_⟩
        · rw [hal, had, gAll_len, gRow_len]
          exact Nat.le_trans (m := 1200) (by omega) (by decide)
        · exact ⟨(e1.trans e5).trans (same_new np), p, _, rfl, Trs.join t6 t5 hacc hacd np⟩
    · obtain ⟨e1, f, y1, rfl, t1⟩ := h
      refine ⟨.ref f, rfl, ?_⟩
      dsimp only [tNil]
      refine sorted_trs t1 fun p C H2 e2 t2 pm srt => ?_
      refine tuple_trs t2 fun t H3 e3 d3 => ?_
      refine ⟨by show 2 ≤ sizeLine; decide, fun g ng => ?_⟩
      have dg := dp_mkweb (n := 200) ng d3
      have eH := ((e1.trans e2).trans e3).trans (same_new (o := .tup [.int 200, .ref t]) ng)
      have okC := wok_great pm srt
      have fC := fine_web okC
      generalize upd H3 g _ = H4 at dg eH
      -- got
      refine ⟨.ref g, rfl, .ref g, 200, C, rfl, dg, okC, fun H5 e5 => ?_⟩
      replace dg := dp_same e5 _ _ dg
      replace eH := eH.trans e5
      refine ⟨.ref g, rfl, _, _, dg, dg, fC.shaped (by decide), fC.shaped (by decide), ?_⟩
      rw [SeqAt.eqv_refl _ fC.lay]
      refine ⟨.ref g, rfl, .ref g, 200, C, 0, 199, rfl, dg, okC, ⟨by decide, by decide⟩, by decide, fun H6 r1 e6 h1 => ?_⟩
      replace dg := dp_same e6 _ _ dg
      replace eH := eH.trans e6
      rw [show ((199 : Nat) : Int) = 199 from rfl, great_a pm srt] at h1
      refine ⟨.ref g, rfl, 1, rfl, .ref g, 200, C, -1, 0, rfl, dg, okC, ⟨by decide, by decide⟩, by decide, fun H7 r2 e7 h2 => ?_⟩
      replace dg := dp_same e7 _ _ dg
      replace eH := eH.trans e7
      rw [show ((0 : Nat) : Int) = 0 from rfl, great_b pm srt] at h2
      refine ⟨.ref g, rfl, .ref g, 200, C, 2, 7, rfl, dg, okC, ⟨by decide, by decide⟩, by decide, fun H8 r3 e8 h3 => ?_⟩
      replace eH := eH.trans e8
      rw [show ((7 : Nat) : Int) = 7 from rfl, great_c pm] at h3
      refine ⟨by show 4 ≤ sizeLine; decide, fun G nG => ?_⟩
      have dG : DpAll K H8 [.bl true, .ref r1, .ref r2, .ref r3] [.bool true, dInts [0, 1, 2, 3, 199], dInts [0, 196, 197, 198, 199], dInts []] :=
        .cons (.bl true) (.cons (dp_of_ints (same_tup (e7.trans e8) h1)) (.cons (dp_of_ints (same_tup e8 h2)) (.cons (dp_of_ints h3) .nil)))
      replace dG := dps_same (same_new (o := .lst [.bl true, .ref r1, .ref r2, .ref r3]) nG) _ _ dG
      replace eH := eH.trans (same_new (o := .lst [.bl true, .ref r1, .ref r2, .ref r3]) nG)
      have hG : upd H8 G (.lst [.bl true, .ref r1, .ref r2, .ref r3]) G = some (.lst [.bl true, .ref r1, .ref r2, .ref r3]) := upd_same
      clear h1 h2 h3 dg e5 e6 e7 e8
      generalize upd H8 G _ = H9 at dG eH hG
      -- got = got + [..]
      refine ⟨.ref G, rfl, ?_⟩
      refine ⟨Nat.zero_le _, fun u1 m1 => ⟨by show 2 ≤ sizeLine; decide, fun u2 m2 => ?_⟩⟩
      have dw : Dp K (upd (upd H9 u1 (.tup [])) u2 (.tup [.int 1, .ref u1])) (.ref u2) (dWeb 1 []) := dp_mkweb m2 (mk_ints [] m1)
      have e10 := (same_new (o := .tup []) m1).trans (same_new (o := .tup [.int 1, .ref u1]) m2)
      replace dG := dps_same e10 _ _ dG
      replace eH := eH.trans e10
      replace hG := e10 _ _ hG
      clear e10
      generalize upd _ u2 _ = H10 at dw dG eH hG
      refine ⟨.ref u2, 1, [], rfl, dw, wok_none, fun H11 e11 => ?_⟩
      replace dw := dp_same e11 _ _ dw
      replace dG := dps_same e11 _ _ dG
      replace eH := eH.trans e11
      replace hG := e11 _ _ hG
      refine ⟨Nat.zero_le _, fun u3 m3 => ⟨by show 2 ≤ sizeLine; decide, fun u4 m4 => ?_⟩⟩
      have dw2 : Dp K (upd (upd H11 u3 (.tup [])) u4 (.tup [.int 1, .ref u3])) (.ref u4) (dWeb 1 []) := dp_mkweb m4 (mk_ints [] m3)
      have e12 := (same_new (o := .tup []) m3).trans (same_new (o := .tup [.int 1, .ref u3]) m4)
      replace dw := dp_same e12 _ _ dw
      replace dG := dps_same e12 _ _ dG
      replace eH := eH.trans e12
      replace hG := e12 _ _ hG
      clear e11 e12
      generalize upd _ u4 _ = H12 at dw dw2 dG eH hG
      refine ⟨.ref u4, 1, [], rfl, dw2, wok_none, fun H13 v2 B2 e13 dB2 pmB _ => ?_⟩
      rw [List.Perm.eq_nil pmB] at dB2
      replace dw := dp_same e13 _ _ dw
      replace dG := dps_same e13 _ _ dG
      replace eH := eH.trans e13
      replace hG := e13 _ _ hG
      refine ⟨by show 3 ≤ sizeLine; decide, fun u5 m5 => ⟨by show 1 ≤ sizeLine; decide, fun u6 m6 => ⟨by show 2 ≤ sizeLine; decide, fun u7 m7 => ?_⟩⟩⟩
      have dw3 : Dp K (upd (upd (upd H13 u5 (.tup [.int 2, .int 0, .int 0])) u6 (.tup [.ref u5])) u7 (.tup [.int 1, .ref u6])) (.ref u7) (dWeb 1 [(2, 0, 0)]) := dp_mkweb m7 (dp_mk m6 (.cons (mk_ints [2, 0, 0] m5) .nil))
      have e14 := ((same_new (o := .tup [.int 2, .int 0, .int 0]) m5).trans (same_new (o := .tup [.ref u5]) m6)).trans (same_new (o := .tup [.int 1, .ref u6]) m7)
      replace dw := dp_same e14 _ _ dw
      replace dB2 := dp_same e14 _ _ dB2
      replace dG := dps_same e14 _ _ dG
      replace eH := eH.trans e14
      replace hG := e14 _ _ hG
      clear e13 e14
      generalize upd _ u7 _ = H14 at dw dB2 dw3 dG eH hG
      refine ⟨3, rfl, .ref u7, 1, [(2, 0, 0)], -3, 0, rfl, dw3, wok_one, ⟨by decide, by decide⟩, by decide, fun H15 r5 e15 h5 => ?_⟩
      rw [show ledS [((2 : Int), (0 : Int), (0 : Int))] (-3) ((0 : Nat) : Int) = [0] from rfl] at h5
      replace dw := dp_same e15 _ _ dw
      replace dB2 := dp_same e15 _ _ dB2
      replace dG := dps_same e15 _ _ dG
      replace eH := eH.trans e15
      replace hG := e15 _ _ hG
      refine ⟨by show 3 ≤ sizeLine; decide, fun G2 nG2 => ?_⟩
      have dG2 : DpAll K H15 ([.bl true, .ref r1, .ref r2, .ref r3] ++ [.ref u2, v2, .ref r5]) _ := dps_app dG (.cons dw (.cons dB2 (.cons (dp_of_ints h5) .nil)))
      have e16 := same_new (o := .lst [.ref u2, v2, .ref r5]) nG2
      replace dG2 := dps_same e16 _ _ dG2
      replace eH := eH.trans e16
      replace hG := e16 _ _ hG
      have hG2 : upd H15 G2 (.lst [.ref u2, v2, .ref r5]) G2 = some (.lst [.ref u2, v2, .ref r5]) := upd_same
      clear e15 e16 h5 dw dB2 dw2 dw3 dG nG2
      generalize upd H15 G2 _ = H16 at dG2 eH hG hG2
      refine ⟨G, G2, _, _, rfl, rfl, hG, hG2, by show 4 + 3 ≤ sizeLine; decide, fun L nL => ?_⟩
      have freeL := eH.free nL
      have e17 := same_new (o := .lst ([.bl true, .ref r1, .ref r2, .ref r3] ++ [.ref u2, v2, .ref r5])) nL
      replace dG2 := dps_same e17 _ _ dG2
      replace eH := eH.trans e17
      have hL : upd H16 L (.lst ([.bl true, .ref r1, .ref r2, .ref r3] ++ [.ref u2, v2, .ref r5])) L = some (.lst ([.bl true, .ref r1, .ref r2, .ref r3] ++ [.ref u2, v2, .ref r5])) := upd_same
      clear hG hG2 e17
      generalize upd H16 L _ = H17 at dG2 eH hL
      -- got.append(kinds_changed(..))
      refine ⟨.ref L, rfl, .inl ⟨rfl, _, SqL.of hL⟩, ?_⟩
      refine ⟨by show 3 ≤ sizeLine; decide, fun a1 x1 => ⟨by show 3 ≤ sizeLine; decide, fun a2 x2 => ⟨by show 3 ≤ sizeLine; decide, fun a3 x3 => ⟨by show 3 ≤ sizeLine; decide, fun a4 x4 => ⟨by show 2 ≤ sizeLine; decide, fun a5 x5 => ⟨by show 3 ≤ sizeLine; decide, fun a6 x6 => ?_⟩⟩⟩⟩⟩⟩
      have n1 := same_new (o := .tup [.int 0, .int 0, .int 1]) x1
      have n2 := same_new (o := .tup [.int 1, .int 0, .int 1]) x2
      have n3 := same_new (o := .tup [.int 2, .int 1, .int 1]) x3
      have n4 := same_new (o := .tup [.ref a1, .ref a2, .ref a3]) x4
      have n5 := same_new (o := .tup [.int 2, .ref a4]) x5
      have n6 := same_new (o := .tup [.int 2, .int 2, .int 0]) x6
      have y1 := dp_same (n2.trans n3) _ _ (mk_ints (K := K) [0, 0, 1] x1)
      have y2 := dp_same n3 _ _ (mk_ints (K := K) [1, 0, 1] x2)
      have dwA := dp_mkweb (n := 2) (C := tA) x5 (dp_mk x4 (.cons y1 (.cons y2 (.cons (mk_ints (K := K) [2, 1, 1] x3) .nil))))
      replace dwA := dp_same n6 _ _ dwA
      have e18 := ((n1.trans n2).trans n3).trans ((n4.trans n5).trans n6)
      obtain ⟨_, z6, hks⟩ := dp_ints (mk_ints (K := K) [2, 2, 0] x6)
      cases z6
      dsimp only [List.map] at hks
      replace dG2 := dps_same e18 _ _ dG2
      replace eH := eH.trans e18
      replace hL := e18 _ _ hL
      clear n1 n2 n3 n4 n5 n6 y1 y2 e18
      generalize upd _ a6 _ = H18 at dwA hks dG2 eH hL
      refine ⟨.ref a5, 2, tA, a6, [2, 2, 0], rfl, dwA, wok_tA, by decide, hks, rfl, by decide, fun H19 v3 B3 e19 d19 ok19 mem19 => ?_⟩
      rw [rek_tA ok19 mem19] at d19
      replace dG2 := dps_same e19 _ _ dG2
      replace eH := eH.trans e19
      replace hL := e19 _ _ hL
      refine ⟨L, _, v3, rfl, rfl, hL, by show 7 < sizeLine; decide, ?_⟩
      have dL := dps_app (dps_put (o := .lst ([.bl true, .ref r1, .ref r2, .ref r3] ++ [.ref u2, v2, .ref r5] ++ [v3])) hL _ _ rfl dG2) (dps_one (dp_put hL _ _ rfl d19))
      replace eH := same_upd_new (o := .lst ([.bl true, .ref r1, .ref r2, .ref r3] ++ [.ref u2, v2, .ref r5] ++ [v3])) eH freeL
      clear hL d19 dG2
      have hL20 : upd H19 L (.lst ([.bl true, .ref r1, .ref r2, .ref r3] ++ [.ref u2, v2, .ref r5] ++ [v3])) L = some (.lst ([.bl true, .ref r1, .ref r2, .ref r3] ++ [.ref u2, v2, .ref r5] ++ [v3])) := upd_same
      generalize upd H19 L _ = H20 at dL eH hL20
      -- due
      refine ⟨by show 5 ≤ sizeLine; decide, fun b1 w1 => ⟨by show 5 ≤ sizeLine; decide, fun b2 w2 => ⟨Nat.zero_le _, fun b3 w3 => ⟨Nat.zero_le _, fun b4 w4 => ⟨by show 2 ≤ sizeLine; decide, fun b5 w5 => ⟨Nat.zero_le _, fun b6 w6 => ⟨by show 2 ≤ sizeLine; decide, fun b7 w7 => ⟨by show 1 ≤ sizeLine; decide, fun b8 w8 => ⟨by show 7 ≤ sizeLine; decide, fun D nD => ?_⟩⟩⟩⟩⟩⟩⟩⟩⟩
      have n1 := same_new (o := .tup [.int 0, .int 1, .int 2, .int 3, .int 199]) w1
      have n2 := same_new (o := .tup [.int 0, .int 196, .int 197, .int 198, .int 199]) w2
      have n3 := same_new (o := .tup []) w3
      have n4 := same_new (o := .tup []) w4
      have n5 := same_new (o := .tup [.int 1, .ref b4]) w5
      have n6 := same_new (o := .tup []) w6
      have n7 := same_new (o := .tup [.int 1, .ref b6]) w7
      have n8 := same_new (o := .tup [.int 0]) w8
      have z1 := dp_same ((((((n2.trans n3).trans n4).trans n5).trans n6).trans n7).trans n8) _ _ (mk_ints (K := K) [0, 1, 2, 3, 199] w1)
      have z2 := dp_same (((((n3.trans n4).trans n5).trans n6).trans n7).trans n8) _ _ (mk_ints (K := K) [0, 196, 197, 198, 199] w2)
      have z3 := dp_same ((((n4.trans n5).trans n6).trans n7).trans n8) _ _ (mk_ints (K := K) [] w3)
      have z5 := dp_same ((n6.trans n7).trans n8) _ _ (dp_mkweb (n := 1) (C := []) w5 (mk_ints (K := K) [] w4))
      have z7 := dp_same n8 _ _ (dp_mkweb (n := 1) (C := []) w7 (mk_ints (K := K) [] w6))
      have z8 := mk_ints (K := K) [0] w8
      have dD := dps_same (same_new (o := .lst [.bl true, .ref b1, .ref b2, .ref b3, .ref b5, .ref b7, .ref b8]) nD) _ _ (.cons (.bl true) (.cons z1 (.cons z2 (.cons z3 (.cons z5 (.cons z7 (.cons z8 .nil)))))))
      have e20 := (((((((n1.trans n2).trans n3).trans n4).trans n5).trans n6).trans n7).trans n8).trans (same_new (o := .lst [.bl true, .ref b1, .ref b2, .ref b3, .ref b5, .ref b7, .ref b8]) nD)
      replace dL := dps_same e20 _ _ dL
      replace eH := eH.trans e20
      replace hL20 := e20 _ _ hL20
      obtain ⟨HX, eHX⟩ : ∃ HX, upd (upd (upd (upd (upd (upd (upd (upd (upd H20 b1 (.tup [.int 0, .int 1, .int 2, .int 3, .int 199])) b2 (.tup [.int 0, .int 196, .int 197, .int 198, .int 199])) b3 (.tup [])) b4 (.tup [])) b5 (.tup [.int 1, .ref b4])) b6 (.tup [])) b7 (.tup [.int 1, .ref b6])) b8 (.tup [.int 0])) D (.lst [.bl true, .ref b1, .ref b2, .ref b3, .ref b5, .ref b7, .ref b8]) = HX := ⟨_, rfl⟩
      have hD : HX D = some (.lst [.bl true, .ref b1, .ref b2, .ref b3, .ref b5, .ref b7, .ref b8]) := by
        rw [← eHX]
        exact upd_same
      rw [eHX] at dL eH hL20 dD ⊢
      clear n1 n2 n3 n4 n5 n6 n7 n8 z1 z2 z3 z5 z7 z8 e20 eHX
      refine ⟨.ref L, rfl, .ref D, rfl, ?_⟩
      refine ⟨by show 3 ≤ sizeLine; decide, fun c1 k1 => ⟨by show 3 ≤ sizeLine; decide, fun c2 k2 => ⟨by show 2 ≤ sizeLine; decide, fun c3 k3 => ⟨by show 2 ≤ sizeLine; decide, fun c4 k4 => ⟨by show 1 ≤ sizeLine; decide, fun M nM => ?_⟩⟩⟩⟩⟩
      have n1 := same_new (o := .tup [.int 0, .int 1, .int 1]) k1
      have n2 := same_new (o := .tup [.int 2, .int 0, .int 1]) k2
      have n3 := same_new (o := .tup [.ref c1, .ref c2]) k3
      have n4 := same_new (o := .tup [.int 2, .ref c3]) k4
      have n5 := same_new (o := .lst [.ref c4]) nM
      have y1 := dp_same n2 _ _ (mk_ints (K := K) [0, 1, 1] k1)
      have dwB := dp_same n5 _ _ (dp_mkweb (n := 2) (C := tB') k4 (dp_mk k3 (.cons y1 (.cons (mk_ints (K := K) [2, 0, 1] k2) .nil))))
      have e21 := (((n1.trans n2).trans n3).trans n4).trans n5
      obtain ⟨HY, eHY⟩ : ∃ HY, upd (upd (upd (upd (upd HX c1 (.tup [.int 0, .int 1, .int 1])) c2 (.tup [.int 2, .int 0, .int 1])) c3 (.tup [.ref c1, .ref c2])) c4 (.tup [.int 2, .ref c3])) M (.lst [.ref c4]) = HY := ⟨_, rfl⟩
      have hM : HY M = some (.lst [.ref c4]) := by
        rw [← eHY]
        exact upd_same
      replace dL := dps_same e21 _ _ dL
      replace dD := dps_same e21 _ _ dD
      replace eH := eH.trans e21
      replace hL20 := e21 _ _ hL20
      replace hD := e21 _ _ hD
      rw [eHY] at dL eH hL20 dD hD dwB ⊢
      refine ⟨D, M, _, _, rfl, rfl, hD, hM, by show 7 + 1 ≤ sizeLine; decide, fun N nN => ?_⟩
      have e22 := same_new (o := .lst ([.bl true, .ref b1, .ref b2, .ref b3, .ref b5, .ref b7, .ref b8] ++ [.ref c4])) nN
      refine ⟨L, N, .list _, rfl, .lst (SqL.of (e22 _ _ hL20)) (dps_same e22 _ _ dL), .lst (SqL.of upd_same) (dps_same e22 _ _ (dps_app dD (dps_one dwB))), ?_, q _ (eH.trans e22)⟩
      refine Fine.mono (Fine.lst (k := 3) (n := 8002) (m := 8) (fun d hd => ?_) (Nat.le_refl _)) (by decide) (by decide)
      have hd' : d = .bool true ∨ d = dInts [0, 1, 2, 3, 199] ∨ d = dInts [0, 196, 197, 198, 199] ∨ d = dInts [] ∨ d = dWeb 1 [] ∨ d = dInts [0] ∨ d = dWeb 2 tB' := by
        simp at hd
        omega
      rcases hd' with rfl | rfl | rfl | rfl | rfl | rfl | rfl
      · exact (Fine.bl true).mono (by decide) (by decide)
      · exact (fine_ints' (by decide) (by decide)).mono (by decide) (by decide)
      · exact (fine_ints' (by decide) (by decide)).mono (by decide) (by decide)
      · exact (fine_ints' (by decide) (by decide)).mono (by decide) (by decide)
      · exact fine_web wok_none
      · exact (fine_ints' (by decide) (by decide)).mono (by decide) (by decide)
      · exact fine_web wok_tB
end
end K0

namespace K0
open PySem PySem.Spec PyProof.Rows L2 W0 W1 W2 W5 W6
mutual
theorem dp_mv {K : PySem.W.Frag} {H H' : Hp} (e : ∀ p xs, SqT K H p xs → SqT K H' p xs) : ∀ (d : PyData) (v : V), noL d = true → Dp K H v d → Dp K H' v d
  | .none, _, _, h => by cases h; exact .non
  | .bool b, _, _, h => by cases h; exact .bl b
  | .int i, _, _, h => by cases h; exact .int i
  | .str x, _, _, h => by cases h; exact .str x
  | .list ds, _, z, _ => Bool.noConfusion z
  | .tuple ds, _, z, h => by
    cases h with
    | tup hs ha => exact .tup (e _ _ hs) (dps_mv e ds _ z ha)
  | .dict _, _, z, _ => Bool.noConfusion z
theorem dps_mv {K : PySem.W.Frag} {H H' : Hp} (e : ∀ p xs, SqT K H p xs → SqT K H' p xs) : ∀ (ds : List PyData) (vs : List V), noLs ds = true → DpAll K H vs ds → DpAll K H' vs ds
  | [], _, _, h => by cases h; exact .nil
  | d :: ds, _, z, h => by
    have z1 := (Bool.and_eq_true _ _).mp z
    cases h with
    | cons h1 h2 => exact .cons (dp_mv e d _ z1.1 h1) (dps_mv e ds _ z1.2 h2)
end
theorem noL_arr : ∀ A : List T3, noLs (A.map dTri) = true
  | [] => rfl
  | t :: A => by
    show (true && noLs (A.map dTri)) = true
    rw [noL_arr A]
    rfl
theorem noL_web (n : Int) (A : List T3) : noL (dWeb n A) = true := by
  show (true && (noLs (A.map dTri) && true)) = true
  rw [noL_arr A]
  rfl
theorem web_x {K : PySem.W.Frag} {H H' : Hp} {st c l : Addr} {B : Nat} {v : V} {n : Int} {A : List T3} (h : StAt K H st c l B) (e : SameX st l H H') (d : Dp K H v (dWeb n A)) : Dp K H' v (dWeb n A) := dp_mv (fun _ _ q => sqT_x h e q) _ _ (noL_web n A) d
section
variable {P : Program} {w : World} {K : PySem.W.Frag} {mg : Str → Option Value} {base : Heap}
def sp_law (K : PySem.W.Frag) : Sp := fun vs H Q _ => ∃ (a : Addr) (ns : List Int), vs = [.ref a] ∧ SqL K H a (ns.map V.int) ∧ ns.length ≤ 63 ∧ ∀ H', Q (.bl true) H'
theorem ok_law (T : Tops K mg) : FnG P w K mg base 8 T.a_law T.fd_law p_law (sp_law K) := by
  have S := sc_law
  refine of_body T.F_law S (fun vs H Q E h => ?_) (fun cdv AA outer s H vs Q E hgd hr h => ?_)
  · obtain ⟨a, ns, rfl, _⟩ := h
    rfl
  · obtain ⟨a, ns, rfl, hs, hn, q⟩ := h
    refine ⟨_, (pss_cons (ps_set (i := 1) S.nd rfl (Or.inr rfl) (pe_call (ok__law_begin T) (hr.mono (by decide)) (by rfl) T.g__law_begin T.F__law_begin.kp T.b__law_begin .nil pass0 (pa_cons (pv 0) pa_nil)))
      (pss_cons (ps_for PassesOwn.never rfl (pi_range1 (by rfl) T.m_range (pa_cons pe_int pa_nil)) (pg_name (i := 2) S.nd rfl (Or.inl rfl)) (pss_cons (ps_set (i := 3) S.nd rfl (Or.inl rfl) (pe_call (ok__law_web T) (hr.mono (by decide)) (by rfl) T.g__law_web T.F__law_web.kp T.b__law_web .nil pass0 (pa_cons (pv 1) (pa_cons pe_int (pa_cons pe_int pa_nil)))))
      (pss_cons (ps_if (pt_not (pt_val (pe_callG (ok__law_ways_right T) (hr.mono (by decide)) hgd (by rfl) T.g__law_ways_right T.F__law_ways_right.kp T.b__law_ways_right .nil pass0 (pa_cons (pv 3) pa_nil)))) (pss_one (ps_ret pe_bl)) pss_nil)
      (pss_one (ps_if (pt_not (pt_val (pe_callG (ok__law_kinds_right T) (hr.mono (by decide)) hgd (by rfl) T.g__law_kinds_right T.F__law_kinds_right.kp T.b__law_kinds_right .nil pass0 (pa_cons (pv 3) (pa_cons (pe_callTy (call_tupleK (K := K)) (by rfl) T.m_tuple (by decide +kernel) (pa_cons (pe_lc (own := [("step", 4)]) rfl S.nd (pi_range1 (by rfl) T.m_range (pa_cons pe_int pa_nil)) (blkOk_by (N := n_law) (sc := defScope s_law) (by decide +kernel)) (fun _ _ _ _ _ => (pg_name (i := 4) S.nd rfl (Or.inl rfl))) (fun _ _ _ _ _ => pts_nil) (fun _ _ _ _ _ => (pe_call (ok__law_draw T) (hr.mono (by decide)) (by rfl) T.g__law_draw T.F__law_draw.kp T.b__law_draw .nil pass0 (pa_cons (pv 1) (pa_cons pe_int pa_nil))))) pa_nil)) pa_nil))))) (pss_one (ps_ret pe_bl)) pss_nil)))))
      (pss_one (ps_ret (pe_callG0 (ok__law_great T) (hr.mono (by decide)) hgd (by rfl) T.g__law_great T.F__law_great.kp T.b__law_great .nil))))), ?_⟩
    refine ⟨.ref a, rfl, a, ns, rfl, hs, hn, fun H1 st c l e1 h1 _ _ => ?_⟩
    refine ⟨2, rfl, by decide, by decide, ?_⟩
    refine for_range (lo := 0) (n := 2) (fun t σ H' => StAt K H' st c l (103 * t) ∧ ∃ y2 y3, σ = [some (.ref a), some (.ref st), y2, y3, none]) ⟨h1, none, none, rfl⟩ (fun t σ H2 ht h => ?_) (fun σ H2 h => ?_)
    · obtain ⟨st2, y2, y3, rfl⟩ := h
      rw [Int.zero_add]
      refine ⟨.ref st, rfl, st, c, l, 103 * t, 5, 3, rfl, by decide, by decide, by decide, st2, by omega, fun H3 v n A st3 e3 d3 ok n5 h75 => ?_⟩
      refine ⟨v, rfl, v, n, A, rfl, d3, ok, n5, fun H4 e4 => ⟨true, rfl, ?_⟩⟩
      have st4 := st3.same e4
      have d4 := dp_same e4 _ _ d3
      refine ⟨v, rfl, 3, rfl, by decide, by decide, fun D nD => ?_⟩
      have Dl : D ≠ l := fun z => by
        obtain ⟨_, ⟨ls, h2⟩⟩ := st4.two
        rw [z, h2] at nD
        cases nD
      have Ds : D ≠ st := fun z => by
        obtain ⟨⟨ls, h2⟩, _⟩ := st4.two
        rw [z, h2] at nD
        cases nD
      refine lc_range (lo := 0) (n := 3) (fun j H' => StAt K H' st c l (103 * t + 100 + j) ∧ SameX st l H4 H' ∧ ∃ ks : List Int, ks.length = j ∧ H' D = some (.lst (ks.map V.int)) ∧ ∀ x ∈ ks, 0 ≤ x ∧ x ≤ 2)
        ⟨st4.same (same_new nD), SameX.of (same_new nD), [], rfl, upd_same, fun x h => (List.not_mem_nil h).elim⟩ (fun j H5 hj hp => ?_) (fun H5 hp => ?_)
      · obtain ⟨st5, e5, ks, hk, hD, hks⟩ := hp
        refine ⟨rfl, .ref st, rfl, st, c, l, _, 3, rfl, by decide, by decide, st5, by omega, fun H6 z hz0 hz1 st6 off6 => ?_⟩
        have hD6 : H6 D = some (.lst (ks.map V.int)) := (off6 D Ds Dl).trans hD
        refine ⟨_, hD6, ?_, ?_, ?_, ks ++ [z], ?_, ?_, ?_⟩
        · rw [List.length_map, hk]
          exact small (m := 63) (by omega)
        · obtain ⟨kvs, cells, lefts, at', g1, g2, g3, g4, g5, g6, g7, g8, g9, g10⟩ := st6.ex
          have Dc : D ≠ c := fun z => by
            obtain ⟨kvs', cells', lefts', a', f1, f2, f3, f4, f5, f6, f7, f8, f9, f10⟩ := st4.ex
            rw [z, f6] at nD
            cases nD
          exact ⟨⟨kvs, cells, lefts, at', (upd_ne Ds.symm).trans g1, g2, g3, g4, g5, (upd_ne Dc.symm).trans g6, (upd_ne Dl.symm).trans g7, g8, g9, g10⟩, st6.apart⟩
        · intro b o hb n1 n2
          rw [upd_ne (ne_of_none hb nD)]
          exact (SameX.off off6) _ _ (e5 _ _ hb n1 n2) n1 n2
        · rw [List.length_append, hk]
          rfl
        · rw [upd_same, List.map_append]
          rfl
        · intro x hx
          rcases List.mem_append.mp hx with hx | hx
          · exact hks x hx
          · rw [List.mem_singleton.mp hx]
            omega
      · obtain ⟨st5, e5, ks, hk, hD, hks⟩ := hp
        refine ⟨D, _, rfl, .inl ⟨SqL.of hD, fun kb nkb => ?_⟩⟩
        have d5 := dp_same (same_new (o := .tup (ks.map V.int)) nkb) _ _ (web_x st4 e5 d4)
        refine ⟨v, n, A, kb, ks, rfl, d5, ok, n5, h75, SqT.of upd_same, hk, hks, fun H6 e6 => ⟨true, rfl, ?_⟩⟩
        exact ⟨(st5.same ((same_new nkb).trans e6)).mono (by omega), _, _, rfl⟩
    · exact ⟨rfl, fun H3 _ => q H3⟩
end
end K0

namespace K0
open PySem PySem.Spec PyProof.Rows L2 W0 W1 W2 W5 W6
set_option maxHeartbeats 0 in
theorem all_mk {l : PySem.W.OpenLaw} {w : World} {K : PySem.W.Frag} {h : Heap} {mg : Str → Option Value} {fa : Addr} (X : K.In h) (G : h.Ns mainGlobals mg) (hfa : mg "law" = some (.ref fa))
    {f0 : Addr} {od0 an0 : Option Addr} {sl0 : Array (Option Value)} {oc0 kV0 dc0 pm0 cd0 ct0 : Value}
    (a0 : PySem.W.nsIn K mainGlobals "is_number" = some (some (.ref f0))) (l0 : K.lookup f0 = some ⟨oc0, od0, .func (PySem.W.fnOf "is_number" "is_number" (defArgs s_is_number) (defBody s_is_number) (defScope s_is_number) .none kV0 dc0 pm0 an0 cd0 ct0), sl0⟩) (c0 : PySem.W.codeIn K cd0 "is_number" = true) (k0 : PySem.W.keepIn K (.ref f0) = true)
    {f1 : Addr} {od1 an1 : Option Addr} {sl1 : Array (Option Value)} {oc1 kV1 dc1 pm1 cd1 ct1 : Value}
    (a1 : PySem.W.nsIn K mainGlobals "is_tuple" = some (some (.ref f1))) (l1 : K.lookup f1 = some ⟨oc1, od1, .func (PySem.W.fnOf "is_tuple" "is_tuple" (defArgs s_is_tuple) (defBody s_is_tuple) (defScope s_is_tuple) .none kV1 dc1 pm1 an1 cd1 ct1), sl1⟩) (c1 : PySem.W.codeIn K cd1 "is_tuple" = true) (k1 : PySem.W.keepIn K (.ref f1) = true)
    {f2 : Addr} {od2 an2 : Option Addr} {sl2 : Array (Option Value)} {oc2 kV2 dc2 pm2 cd2 ct2 : Value}
    (a2 : PySem.W.nsIn K mainGlobals "are_numbers" = some (some (.ref f2))) (l2 : K.lookup f2 = some ⟨oc2, od2, .func (PySem.W.fnOf "are_numbers" "are_numbers" (defArgs s_are_numbers) (defBody s_are_numbers) (defScope s_are_numbers) .none kV2 dc2 pm2 an2 cd2 ct2), sl2⟩) (c2 : PySem.W.codeIn K cd2 "are_numbers" = true) (k2 : PySem.W.keepIn K (.ref f2) = true)
    {f3 : Addr} {od3 an3 : Option Addr} {sl3 : Array (Option Value)} {oc3 kV3 dc3 pm3 cd3 ct3 : Value}
    (a3 : PySem.W.nsIn K mainGlobals "is_ascending" = some (some (.ref f3))) (l3 : K.lookup f3 = some ⟨oc3, od3, .func (PySem.W.fnOf "is_ascending" "is_ascending" (defArgs s_is_ascending) (defBody s_is_ascending) (defScope s_is_ascending) .none kV3 dc3 pm3 an3 cd3 ct3), sl3⟩) (c3 : PySem.W.codeIn K cd3 "is_ascending" = true) (k3 : PySem.W.keepIn K (.ref f3) = true)
    {f4 : Addr} {od4 an4 : Option Addr} {sl4 : Array (Option Value)} {oc4 kV4 dc4 pm4 cd4 ct4 : Value}
    (a4 : PySem.W.nsIn K mainGlobals "need_web" = some (some (.ref f4))) (l4 : K.lookup f4 = some ⟨oc4, od4, .func (PySem.W.fnOf "need_web" "need_web" (defArgs s_need_web) (defBody s_need_web) (defScope s_need_web) .none kV4 dc4 pm4 an4 cd4 ct4), sl4⟩) (c4 : PySem.W.codeIn K cd4 "need_web" = true) (k4 : PySem.W.keepIn K (.ref f4) = true)
    {f5 : Addr} {od5 an5 : Option Addr} {sl5 : Array (Option Value)} {oc5 kV5 dc5 pm5 cd5 ct5 : Value}
    (a5 : PySem.W.nsIn K mainGlobals "_is_web" = some (some (.ref f5))) (l5 : K.lookup f5 = some ⟨oc5, od5, .func (PySem.W.fnOf "_is_web" "_is_web" (defArgs s__is_web) (defBody s__is_web) (defScope s__is_web) .none kV5 dc5 pm5 an5 cd5 ct5), sl5⟩) (c5 : PySem.W.codeIn K cd5 "_is_web" = true) (k5 : PySem.W.keepIn K (.ref f5) = true)
    {f6 : Addr} {od6 an6 : Option Addr} {sl6 : Array (Option Value)} {oc6 kV6 dc6 pm6 cd6 ct6 : Value}
    (a6 : PySem.W.nsIn K mainGlobals "_is_arrow" = some (some (.ref f6))) (l6 : K.lookup f6 = some ⟨oc6, od6, .func (PySem.W.fnOf "_is_arrow" "_is_arrow" (defArgs s__is_arrow) (defBody s__is_arrow) (defScope s__is_arrow) .none kV6 dc6 pm6 an6 cd6 ct6), sl6⟩) (c6 : PySem.W.codeIn K cd6 "_is_arrow" = true) (k6 : PySem.W.keepIn K (.ref f6) = true)
    {f7 : Addr} {od7 an7 : Option Addr} {sl7 : Array (Option Value)} {oc7 kV7 dc7 pm7 cd7 ct7 : Value}
    (a7 : PySem.W.nsIn K mainGlobals "is_way" = some (some (.ref f7))) (l7 : K.lookup f7 = some ⟨oc7, od7, .func (PySem.W.fnOf "is_way" "is_way" (defArgs s_is_way) (defBody s_is_way) (defScope s_is_way) .none kV7 dc7 pm7 an7 cd7 ct7), sl7⟩) (c7 : PySem.W.codeIn K cd7 "is_way" = true) (k7 : PySem.W.keepIn K (.ref f7) = true)
    {f8 : Addr} {od8 an8 : Option Addr} {sl8 : Array (Option Value)} {oc8 kV8 dc8 pm8 cd8 ct8 : Value}
    (a8 : PySem.W.nsIn K mainGlobals "turned_way" = some (some (.ref f8))) (l8 : K.lookup f8 = some ⟨oc8, od8, .func (PySem.W.fnOf "turned_way" "turned_way" (defArgs s_turned_way) (defBody s_turned_way) (defScope s_turned_way) .none kV8 dc8 pm8 an8 cd8 ct8), sl8⟩) (c8 : PySem.W.codeIn K cd8 "turned_way" = true) (k8 : PySem.W.keepIn K (.ref f8) = true)
    {f9 : Addr} {od9 an9 : Option Addr} {sl9 : Array (Option Value)} {oc9 kV9 dc9 pm9 cd9 ct9 : Value}
    (a9 : PySem.W.nsIn K mainGlobals "need_world" = some (some (.ref f9))) (l9 : K.lookup f9 = some ⟨oc9, od9, .func (PySem.W.fnOf "need_world" "need_world" (defArgs s_need_world) (defBody s_need_world) (defScope s_need_world) .none kV9 dc9 pm9 an9 cd9 ct9), sl9⟩) (c9 : PySem.W.codeIn K cd9 "need_world" = true) (k9 : PySem.W.keepIn K (.ref f9) = true)
    {f10 : Addr} {od10 an10 : Option Addr} {sl10 : Array (Option Value)} {oc10 kV10 dc10 pm10 cd10 ct10 : Value}
    (a10 : PySem.W.nsIn K mainGlobals "leads_of" = some (some (.ref f10))) (l10 : K.lookup f10 = some ⟨oc10, od10, .func (PySem.W.fnOf "leads_of" "leads_of" (defArgs s_leads_of) (defBody s_leads_of) (defScope s_leads_of) .none kV10 dc10 pm10 an10 cd10 ct10), sl10⟩) (c10 : PySem.W.codeIn K cd10 "leads_of" = true) (k10 : PySem.W.keepIn K (.ref f10) = true)
    {f11 : Addr} {od11 an11 : Option Addr} {sl11 : Array (Option Value)} {oc11 kV11 dc11 pm11 cd11 ct11 : Value}
    (a11 : PySem.W.nsIn K mainGlobals "led_to" = some (some (.ref f11))) (l11 : K.lookup f11 = some ⟨oc11, od11, .func (PySem.W.fnOf "led_to" "led_to" (defArgs s_led_to) (defBody s_led_to) (defScope s_led_to) .none kV11 dc11 pm11 an11 cd11 ct11), sl11⟩) (c11 : PySem.W.codeIn K cd11 "led_to" = true) (k11 : PySem.W.keepIn K (.ref f11) = true)
    {f12 : Addr} {od12 an12 : Option Addr} {sl12 : Array (Option Value)} {oc12 kV12 dc12 pm12 cd12 ct12 : Value}
    (a12 : PySem.W.nsIn K mainGlobals "web_turned" = some (some (.ref f12))) (l12 : K.lookup f12 = some ⟨oc12, od12, .func (PySem.W.fnOf "web_turned" "web_turned" (defArgs s_web_turned) (defBody s_web_turned) (defScope s_web_turned) .none kV12 dc12 pm12 an12 cd12 ct12), sl12⟩) (c12 : PySem.W.codeIn K cd12 "web_turned" = true) (k12 : PySem.W.keepIn K (.ref f12) = true)
    {f13 : Addr} {od13 an13 : Option Addr} {sl13 : Array (Option Value)} {oc13 kV13 dc13 pm13 cd13 ct13 : Value}
    (a13 : PySem.W.nsIn K mainGlobals "kinds_changed" = some (some (.ref f13))) (l13 : K.lookup f13 = some ⟨oc13, od13, .func (PySem.W.fnOf "kinds_changed" "kinds_changed" (defArgs s_kinds_changed) (defBody s_kinds_changed) (defScope s_kinds_changed) .none kV13 dc13 pm13 an13 cd13 ct13), sl13⟩) (c13 : PySem.W.codeIn K cd13 "kinds_changed" = true) (k13 : PySem.W.keepIn K (.ref f13) = true)
    {f14 : Addr} {od14 an14 : Option Addr} {sl14 : Array (Option Value)} {oc14 kV14 dc14 pm14 cd14 ct14 : Value}
    (a14 : PySem.W.nsIn K mainGlobals "_law_mixed" = some (some (.ref f14))) (l14 : K.lookup f14 = some ⟨oc14, od14, .func (PySem.W.fnOf "_law_mixed" "_law_mixed" (defArgs s__law_mixed) (defBody s__law_mixed) (defScope s__law_mixed) .none kV14 dc14 pm14 an14 cd14 ct14), sl14⟩) (c14 : PySem.W.codeIn K cd14 "_law_mixed" = true) (k14 : PySem.W.keepIn K (.ref f14) = true)
    {f15 : Addr} {od15 an15 : Option Addr} {sl15 : Array (Option Value)} {oc15 kV15 dc15 pm15 cd15 ct15 : Value}
    (a15 : PySem.W.nsIn K mainGlobals "_law_begin" = some (some (.ref f15))) (l15 : K.lookup f15 = some ⟨oc15, od15, .func (PySem.W.fnOf "_law_begin" "_law_begin" (defArgs s__law_begin) (defBody s__law_begin) (defScope s__law_begin) .none kV15 dc15 pm15 an15 cd15 ct15), sl15⟩) (c15 : PySem.W.codeIn K cd15 "_law_begin" = true) (k15 : PySem.W.keepIn K (.ref f15) = true)
    {f16 : Addr} {od16 an16 : Option Addr} {sl16 : Array (Option Value)} {oc16 kV16 dc16 pm16 cd16 ct16 : Value}
    (a16 : PySem.W.nsIn K mainGlobals "_law_draw" = some (some (.ref f16))) (l16 : K.lookup f16 = some ⟨oc16, od16, .func (PySem.W.fnOf "_law_draw" "_law_draw" (defArgs s__law_draw) (defBody s__law_draw) (defScope s__law_draw) .none kV16 dc16 pm16 an16 cd16 ct16), sl16⟩) (c16 : PySem.W.codeIn K cd16 "_law_draw" = true) (k16 : PySem.W.keepIn K (.ref f16) = true)
    {f17 : Addr} {od17 an17 : Option Addr} {sl17 : Array (Option Value)} {oc17 kV17 dc17 pm17 cd17 ct17 : Value}
    (a17 : PySem.W.nsIn K mainGlobals "_law_web" = some (some (.ref f17))) (l17 : K.lookup f17 = some ⟨oc17, od17, .func (PySem.W.fnOf "_law_web" "_law_web" (defArgs s__law_web) (defBody s__law_web) (defScope s__law_web) .none kV17 dc17 pm17 an17 cd17 ct17), sl17⟩) (c17 : PySem.W.codeIn K cd17 "_law_web" = true) (k17 : PySem.W.keepIn K (.ref f17) = true)
    {f18 : Addr} {od18 an18 : Option Addr} {sl18 : Array (Option Value)} {oc18 kV18 dc18 pm18 cd18 ct18 : Value}
    (a18 : PySem.W.nsIn K mainGlobals "_law_led" = some (some (.ref f18))) (l18 : K.lookup f18 = some ⟨oc18, od18, .func (PySem.W.fnOf "_law_led" "_law_led" (defArgs s__law_led) (defBody s__law_led) (defScope s__law_led) .none kV18 dc18 pm18 an18 cd18 ct18), sl18⟩) (c18 : PySem.W.codeIn K cd18 "_law_led" = true) (k18 : PySem.W.keepIn K (.ref f18) = true)
    {f19 : Addr} {od19 an19 : Option Addr} {sl19 : Array (Option Value)} {oc19 kV19 dc19 pm19 cd19 ct19 : Value}
    (a19 : PySem.W.nsIn K mainGlobals "_law_like" = some (some (.ref f19))) (l19 : K.lookup f19 = some ⟨oc19, od19, .func (PySem.W.fnOf "_law_like" "_law_like" (defArgs s__law_like) (defBody s__law_like) (defScope s__law_like) .none kV19 dc19 pm19 an19 cd19 ct19), sl19⟩) (c19 : PySem.W.codeIn K cd19 "_law_like" = true) (k19 : PySem.W.keepIn K (.ref f19) = true)
    {f20 : Addr} {od20 an20 : Option Addr} {sl20 : Array (Option Value)} {oc20 kV20 dc20 pm20 cd20 ct20 : Value}
    (a20 : PySem.W.nsIn K mainGlobals "_law_ways_right" = some (some (.ref f20))) (l20 : K.lookup f20 = some ⟨oc20, od20, .func (PySem.W.fnOf "_law_ways_right" "_law_ways_right" (defArgs s__law_ways_right) (defBody s__law_ways_right) (defScope s__law_ways_right) .none kV20 dc20 pm20 an20 cd20 ct20), sl20⟩) (c20 : PySem.W.codeIn K cd20 "_law_ways_right" = true) (k20 : PySem.W.keepIn K (.ref f20) = true)
    {f21 : Addr} {od21 an21 : Option Addr} {sl21 : Array (Option Value)} {oc21 kV21 dc21 pm21 cd21 ct21 : Value}
    (a21 : PySem.W.nsIn K mainGlobals "_law_kinds_right" = some (some (.ref f21))) (l21 : K.lookup f21 = some ⟨oc21, od21, .func (PySem.W.fnOf "_law_kinds_right" "_law_kinds_right" (defArgs s__law_kinds_right) (defBody s__law_kinds_right) (defScope s__law_kinds_right) .none kV21 dc21 pm21 an21 cd21 ct21), sl21⟩) (c21 : PySem.W.codeIn K cd21 "_law_kinds_right" = true) (k21 : PySem.W.keepIn K (.ref f21) = true)
    {f22 : Addr} {od22 an22 : Option Addr} {sl22 : Array (Option Value)} {oc22 kV22 dc22 pm22 cd22 ct22 : Value}
    (a22 : PySem.W.nsIn K mainGlobals "_law_great" = some (some (.ref f22))) (l22 : K.lookup f22 = some ⟨oc22, od22, .func (PySem.W.fnOf "_law_great" "_law_great" (defArgs s__law_great) (defBody s__law_great) (defScope s__law_great) .none kV22 dc22 pm22 an22 cd22 ct22), sl22⟩) (c22 : PySem.W.codeIn K cd22 "_law_great" = true) (k22 : PySem.W.keepIn K (.ref f22) = true)
    {f23 : Addr} {od23 an23 : Option Addr} {sl23 : Array (Option Value)} {oc23 kV23 dc23 pm23 cd23 ct23 : Value}
    (a23 : PySem.W.nsIn K mainGlobals "law" = some (some (.ref f23))) (l23 : K.lookup f23 = some ⟨oc23, od23, .func (PySem.W.fnOf "law" "law" (defArgs s_law) (defBody s_law) (defScope s_law) .none kV23 dc23 pm23 an23 cd23 ct23), sl23⟩) (c23 : PySem.W.codeIn K cd23 "law" = true) (k23 : PySem.W.keepIn K (.ref f23) = true)
    (z0 : PySem.W.nsIn K mainGlobals "all" = some none)
    (z1 : PySem.W.nsIn K mainGlobals "int" = some none)
    (z2 : PySem.W.nsIn K mainGlobals "len" = some none)
    (z3 : PySem.W.nsIn K mainGlobals "list" = some none)
    (z4 : PySem.W.nsIn K mainGlobals "range" = some none)
    (z5 : PySem.W.nsIn K mainGlobals "repr" = some none)
    (z6 : PySem.W.nsIn K mainGlobals "set" = some none)
    (z7 : PySem.W.nsIn K mainGlobals "sorted" = some none)
    (z8 : PySem.W.nsIn K mainGlobals "tuple" = some none)
    (z9 : PySem.W.nsIn K mainGlobals "type" = some none)
    (z10 : PySem.W.nsIn K mainGlobals "zip" = some none)
    {t0 : Tok} (v0 : PySem.W.nsIn K mainGlobals "MOST_WORLDS" = some (some (.int (200) t0)))
    {t1 : Tok} (v1 : PySem.W.nsIn K mainGlobals "MOST_ARROWS" = some (some (.int (1000) t1)))
    {t2 : Tok} (v2 : PySem.W.nsIn K mainGlobals "LAST_KIND" = some (some (.int (2) t2)))
    {t3 : Tok} (v3 : PySem.W.nsIn K mainGlobals "FIRST_WAY" = some (some (.int (-3) t3)))
    : ∃ fd : FuncData, (∀ (s : Shared) (v : Value), BindsTo s fd ⟨[v], []⟩ [("script", v)]) ∧ ∀ base : Heap, K.In base → base.Ns mainGlobals mg → FnG l.prog w K mg base 8 fa fd ["script"] (sp_law K) := by
  have e := hfa.symm.trans (PySem.W.mg_of X G a23)
  cases e
  have F0 := fun_mk (st := s_is_number) l0 c0 k0
  have b0 := F0.binds (ps := p_is_number) fun _ _ _ _ _ _ us hl => match us, hl with | [_, _, _], _ => rfl
  have F1 := fun_mk (st := s_is_tuple) l1 c1 k1
  have b1 := F1.binds (ps := p_is_tuple) fun _ _ _ _ _ _ us hl => match us, hl with | [_, _, _], _ => rfl
  have F2 := fun_mk (st := s_are_numbers) l2 c2 k2
  have b2 := F2.binds (ps := p_are_numbers) fun _ _ _ _ _ _ us hl => match us, hl with | [_, _, _, _], _ => rfl
  have F3 := fun_mk (st := s_is_ascending) l3 c3 k3
  have b3 := F3.binds (ps := p_is_ascending) fun _ _ _ _ _ _ us hl => match us, hl with | [_], _ => rfl
  have F4 := fun_mk (st := s_need_web) l4 c4 k4
  have b4 := F4.binds (ps := p_need_web) fun _ _ _ _ _ _ us hl => match us, hl with | [_], _ => rfl
  have F5 := fun_mk (st := s__is_web) l5 c5 k5
  have b5 := F5.binds (ps := p__is_web) fun _ _ _ _ _ _ us hl => match us, hl with | [_], _ => rfl
  have F6 := fun_mk (st := s__is_arrow) l6 c6 k6
  have b6 := F6.binds (ps := p__is_arrow) fun _ _ _ _ _ _ us hl => match us, hl with | [_, _], _ => rfl
  have F7 := fun_mk (st := s_is_way) l7 c7 k7
  have b7 := F7.binds (ps := p_is_way) fun _ _ _ _ _ _ us hl => match us, hl with | [_], _ => rfl
  have F8 := fun_mk (st := s_turned_way) l8 c8 k8
  have b8 := F8.binds (ps := p_turned_way) fun _ _ _ _ _ _ us hl => match us, hl with | [_], _ => rfl
  have F9 := fun_mk (st := s_need_world) l9 c9 k9
  have b9 := F9.binds (ps := p_need_world) fun _ _ _ _ _ _ us hl => match us, hl with | [_, _], _ => rfl
  have F10 := fun_mk (st := s_leads_of) l10 c10 k10
  have b10 := F10.binds (ps := p_leads_of) fun _ _ _ _ _ _ us hl => match us, hl with | [_], _ => rfl
  have F11 := fun_mk (st := s_led_to) l11 c11 k11
  have b11 := F11.binds (ps := p_led_to) fun _ _ _ _ _ _ us hl => match us, hl with | [_, _, _], _ => rfl
  have F12 := fun_mk (st := s_web_turned) l12 c12 k12
  have b12 := F12.binds (ps := p_web_turned) fun _ _ _ _ _ _ us hl => match us, hl with | [_], _ => rfl
  have F13 := fun_mk (st := s_kinds_changed) l13 c13 k13
  have b13 := F13.binds (ps := p_kinds_changed) fun _ _ _ _ _ _ us hl => match us, hl with | [_, _], _ => rfl
  have F14 := fun_mk (st := s__law_mixed) l14 c14 k14
  have b14 := F14.binds (ps := p__law_mixed) fun _ _ _ _ _ _ us hl => match us, hl with | [_, _], _ => rfl
  have F15 := fun_mk (st := s__law_begin) l15 c15 k15
  have b15 := F15.binds (ps := p__law_begin) fun _ _ _ _ _ _ us hl => match us, hl with | [_], _ => rfl
  have F16 := fun_mk (st := s__law_draw) l16 c16 k16
  have b16 := F16.binds (ps := p__law_draw) fun _ _ _ _ _ _ us hl => match us, hl with | [_, _], _ => rfl
  have F17 := fun_mk (st := s__law_web) l17 c17 k17
  have b17 := F17.binds (ps := p__law_web) fun _ _ _ _ _ _ us hl => match us, hl with | [_, _, _], _ => rfl
  have F18 := fun_mk (st := s__law_led) l18 c18 k18
  have b18 := F18.binds (ps := p__law_led) fun _ _ _ _ _ _ us hl => match us, hl with | [_, _, _], _ => rfl
  have F19 := fun_mk (st := s__law_like) l19 c19 k19
  have b19 := F19.binds (ps := p__law_like) fun _ _ _ _ _ _ us hl => match us, hl with | [_, _], _ => rfl
  have F20 := fun_mk (st := s__law_ways_right) l20 c20 k20
  have b20 := F20.binds (ps := p__law_ways_right) fun _ _ _ _ _ _ us hl => match us, hl with | [_], _ => rfl
  have F21 := fun_mk (st := s__law_kinds_right) l21 c21 k21
  have b21 := F21.binds (ps := p__law_kinds_right) fun _ _ _ _ _ _ us hl => match us, hl with | [_, _], _ => rfl
  have F22 := fun_mk (st := s__law_great) l22 c22 k22
  have b22 := F22.binds (ps := p__law_great) fun _ _ _ _ _ _ us hl => match us, hl with | [], _ => rfl
  have F23 := fun_mk (st := s_law) l23 c23 k23
  have b23 := F23.binds (ps := p_law) fun _ _ _ _ _ _ us hl => match us, hl with | [_], _ => rfl
  exact ⟨_, fun s v => .of_eq rfl, fun base _ _ => ok_law (T := {
    a_is_number := _, fd_is_number := _, F_is_number := F0, b_is_number := b0, g_is_number := PySem.W.mg_of X G a0,
    a_is_tuple := _, fd_is_tuple := _, F_is_tuple := F1, b_is_tuple := b1, g_is_tuple := PySem.W.mg_of X G a1,
    a_are_numbers := _, fd_are_numbers := _, F_are_numbers := F2, b_are_numbers := b2, g_are_numbers := PySem.W.mg_of X G a2,
    a_is_ascending := _, fd_is_ascending := _, F_is_ascending := F3, b_is_ascending := b3, g_is_ascending := PySem.W.mg_of X G a3,
    a_need_web := _, fd_need_web := _, F_need_web := F4, b_need_web := b4, g_need_web := PySem.W.mg_of X G a4,
    a__is_web := _, fd__is_web := _, F__is_web := F5, b__is_web := b5, g__is_web := PySem.W.mg_of X G a5,
    a__is_arrow := _, fd__is_arrow := _, F__is_arrow := F6, b__is_arrow := b6, g__is_arrow := PySem.W.mg_of X G a6,
    a_is_way := _, fd_is_way := _, F_is_way := F7, b_is_way := b7, g_is_way := PySem.W.mg_of X G a7,
    a_turned_way := _, fd_turned_way := _, F_turned_way := F8, b_turned_way := b8, g_turned_way := PySem.W.mg_of X G a8,
    a_need_world := _, fd_need_world := _, F_need_world := F9, b_need_world := b9, g_need_world := PySem.W.mg_of X G a9,
    a_leads_of := _, fd_leads_of := _, F_leads_of := F10, b_leads_of := b10, g_leads_of := PySem.W.mg_of X G a10,
    a_led_to := _, fd_led_to := _, F_led_to := F11, b_led_to := b11, g_led_to := PySem.W.mg_of X G a11,
    a_web_turned := _, fd_web_turned := _, F_web_turned := F12, b_web_turned := b12, g_web_turned := PySem.W.mg_of X G a12,
    a_kinds_changed := _, fd_kinds_changed := _, F_kinds_changed := F13, b_kinds_changed := b13, g_kinds_changed := PySem.W.mg_of X G a13,
    a__law_mixed := _, fd__law_mixed := _, F__law_mixed := F14, b__law_mixed := b14, g__law_mixed := PySem.W.mg_of X G a14,
    a__law_begin := _, fd__law_begin := _, F__law_begin := F15, b__law_begin := b15, g__law_begin := PySem.W.mg_of X G a15,
    a__law_draw := _, fd__law_draw := _, F__law_draw := F16, b__law_draw := b16, g__law_draw := PySem.W.mg_of X G a16,
    a__law_web := _, fd__law_web := _, F__law_web := F17, b__law_web := b17, g__law_web := PySem.W.mg_of X G a17,
    a__law_led := _, fd__law_led := _, F__law_led := F18, b__law_led := b18, g__law_led := PySem.W.mg_of X G a18,
    a__law_like := _, fd__law_like := _, F__law_like := F19, b__law_like := b19, g__law_like := PySem.W.mg_of X G a19,
    a__law_ways_right := _, fd__law_ways_right := _, F__law_ways_right := F20, b__law_ways_right := b20, g__law_ways_right := PySem.W.mg_of X G a20,
    a__law_kinds_right := _, fd__law_kinds_right := _, F__law_kinds_right := F21, b__law_kinds_right := b21, g__law_kinds_right := PySem.W.mg_of X G a21,
    a__law_great := _, fd__law_great := _, F__law_great := F22, b__law_great := b22, g__law_great := PySem.W.mg_of X G a22,
    a_law := _, fd_law := _, F_law := F23, b_law := b23, g_law := PySem.W.mg_of X G a23,
    m_all := PySem.W.mg_none_of X G z0,
    m_int := PySem.W.mg_none_of X G z1,
    m_len := PySem.W.mg_none_of X G z2,
    m_list := PySem.W.mg_none_of X G z3,
    m_range := PySem.W.mg_none_of X G z4,
    m_repr := PySem.W.mg_none_of X G z5,
    m_set := PySem.W.mg_none_of X G z6,
    m_sorted := PySem.W.mg_none_of X G z7,
    m_tuple := PySem.W.mg_none_of X G z8,
    m_type := PySem.W.mg_none_of X G z9,
    m_zip := PySem.W.mg_none_of X G z10,
    t_MOST_WORLDS := t0, c_MOST_WORLDS := PySem.W.mg_of X G v0,
    t_MOST_ARROWS := t1, c_MOST_ARROWS := PySem.W.mg_of X G v1,
    t_LAST_KIND := t2, c_LAST_KIND := PySem.W.mg_of X G v2,
    t_FIRST_WAY := t3, c_FIRST_WAY := PySem.W.mg_of X G v3
  })⟩
end K0
open PySem PySem.W PyProof.Rows
set_option maxHeartbeats 0 in
theorem PySem.Challenge.cw_anymarks_k00_ways_and_webs_turned_holds : PySem.Challenge.rw_anymarks_k00_ways_and_webs_turned.Holds := by
  w_on; o_law; k_head; (case hw => w_witness2)
  k_fill
  refine W0.walk_g (l := PySem.Challenge.rw_anymarks_k00_ways_and_webs_turned) (n := 63) (k := 8) (x := "script") (sp := fun K => K0.sp_law K) rfl (by decide) rfl ⟨rfl, by decide, by decide⟩ (fun w h Y => PySem.W.kIn_of Y) ?F (fun K H a ns hl hS _ => ⟨a, ns, rfl, hS, hl, fun _ => rfl⟩)
  case F =>
    intro w mg fa h KX G hmg
    refine' K0.all_mk KX G hmg ?a0 ?l0 ?c0 ?k0 ?a1 ?l1 ?c1 ?k1 ?a2 ?l2 ?c2 ?k2 ?a3 ?l3 ?c3 ?k3 ?a4 ?l4 ?c4 ?k4 ?a5 ?l5 ?c5 ?k5 ?a6 ?l6 ?c6 ?k6 ?a7 ?l7 ?c7 ?k7 ?a8 ?l8 ?c8 ?k8 ?a9 ?l9 ?c9 ?k9 ?a10 ?l10 ?c10 ?k10 ?a11 ?l11 ?c11 ?k11 ?a12 ?l12 ?c12 ?k12 ?a13 ?l13 ?c13 ?k13 ?a14 ?l14 ?c14 ?k14 ?a15 ?l15 ?c15 ?k15 ?a16 ?l16 ?c16 ?k16 ?a17 ?l17 ?c17 ?k17 ?a18 ?l18 ?c18 ?k18 ?a19 ?l19 ?c19 ?k19 ?a20 ?l20 ?c20 ?k20 ?a21 ?l21 ?c21 ?k21 ?a22 ?l22 ?c22 ?k22 ?a23 ?l23 ?c23 ?k23 ?z0 ?z1 ?z2 ?z3 ?z4 ?z5 ?z6 ?z7 ?z8 ?z9 ?z10 ?v0 ?v1 ?v2 ?v3
    (case a0 => k_is); (case l0 => k_is); (case c0 => k_is); (case k0 => k_is); (case a1 => k_is); (case l1 => k_is); (case c1 => k_is); (case k1 => k_is); (case a2 => k_is); (case l2 => k_is); (case c2 => k_is); (case k2 => k_is); (case a3 => k_is); (case l3 => k_is); (case c3 => k_is); (case k3 => k_is); (case a4 => k_is); (case l4 => k_is); (case c4 => k_is); (case k4 => k_is); (case a5 => k_is); (case l5 => k_is); (case c5 => k_is); (case k5 => k_is); (case a6 => k_is); (case l6 => k_is); (case c6 => k_is); (case k6 => k_is); (case a7 => k_is); (case l7 => k_is); (case c7 => k_is); (case k7 => k_is); (case a8 => k_is); (case l8 => k_is); (case c8 => k_is); (case k8 => k_is); (case a9 => k_is); (case l9 => k_is); (case c9 => k_is); (case k9 => k_is); (case a10 => k_is); (case l10 => k_is); (case c10 => k_is); (case k10 => k_is); (case a11 => k_is); (case l11 => k_is); (case c11 => k_is); (case k11 => k_is); (case a12 => k_is); (case l12 => k_is); (case c12 => k_is); (case k12 => k_is); (case a13 => k_is); (case l13 => k_is); (case c13 => k_is); (case k13 => k_is); (case a14 => k_is); (case l14 => k_is); (case c14 => k_is); (case k14 => k_is); (case a15 => k_is); (case l15 => k_is); (case c15 => k_is); (case k15 => k_is); (case a16 => k_is); (case l16 => k_is); (case c16 => k_is); (case k16 => k_is); (case a17 => k_is); (case l17 => k_is); (case c17 => k_is); (case k17 => k_is); (case a18 => k_is); (case l18 => k_is); (case c18 => k_is); (case k18 => k_is); (case a19 => k_is); (case l19 => k_is); (case c19 => k_is); (case k19 => k_is); (case a20 => k_is); (case l20 => k_is); (case c20 => k_is); (case k20 => k_is); (case a21 => k_is); (case l21 => k_is); (case c21 => k_is); (case k21 => k_is); (case a22 => k_is); (case l22 => k_is); (case c22 => k_is); (case k22 => k_is); (case a23 => k_is); (case l23 => k_is); (case c23 => k_is); (case k23 => k_is); (case z0 => k_is); (case z1 => k_is); (case z2 => k_is); (case z3 => k_is); (case z4 => k_is); (case z5 => k_is); (case z6 => k_is); (case z7 => k_is); (case z8 => k_is); (case z9 => k_is); (case z10 => k_is); (case v0 => k_is); (case v1 => k_is); (case v2 => k_is); (case v3 => k_is)
