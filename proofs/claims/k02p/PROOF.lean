import PyProof.Rows.All
import HandS.ForMost
import HandS.Zip
import HandS.More
import HandS.DictComp
import HandS.TupAny
import HandS.Strs
import HandS.Walk
import HandS.TupSets
import HandS.SetFor
import KE.KSortTupG
import PySem.Challenge.RW_anymarks_k02_turned_inward_and_about
import KE.GoesSet
import HandS.SetBool
import HandS.SortKw
import HandS.Style
import HandS.WrittenGet
import KE.DataMinMax
import KE.GoesEnum
import KE.DataFind
import KE.KDictKeyed
import HandS.Iter
import HandS.Conv
import HandS.Text
import HandS.IsInst
import HandS.Words
import HandS.TupMul
set_option Elab.async false
set_option linter.all false
set_option maxRecDepth 100000
/-! W0: defs whose frames run with no open repr above them; repr of data; the law's own end for such. -/
namespace W0
open PySem PySem.Spec PyProof.Rows L2

/-- a promise that holds where no repr is open -/
structure FnG (P : Program) (w : World) (K : PySem.W.Frag) (mg : Str → Option Value) (base : Heap) (k : Nat) (f : Addr) (fd : FuncData) (ps : List Str) (sp : Sp) : Prop where
  many : ∀ vs H Q E, sp vs H Q E → vs.length = ps.length
  runs : ∀ (A : Around), A.guards = some [] → Room k A → ∀ (frames : List Env) (s : Shared) (H : Hp), Env0 P w K mg base A frames s H → ∀ (given : Args) (us : List Value) (vs : List V), BindsTo s fd given (ps.zip us) → Vals vs us →
    ∀ (Q : VK) (E : XK), sp vs H Q E → codeAny (model P w) A (.call (.ref f) given) (CR CX0 frames P w H s Q E) s

section
variable {P : Program} {w : World} {K : PySem.W.Frag} {mg : Str → Option Value} {base : Heap} {k j : Nat} {f : Addr} {fd : FuncData} {ps : List Str} {sp : Sp}
theorem FnG.of (F : FnOk P w K mg base CX0 k f fd ps sp) : FnG P w K mg base k f fd ps sp where
  many := F.len
  runs := fun A _ room frames s H e0 given us vs hb hv Q E q => F.run A frames s H given us vs Q E room e0 hb hv q
theorem FnG.up (F : FnG P w K mg base j f fd ps sp) (h : j ≤ k) : FnG P w K mg base k f fd ps sp where
  many := F.many
  runs := fun A g room => F.runs A g (room.mono h)

/-- by the def's body -/
theorem of_body {x qual : Str} {st : Stmt} {N : List Str} (F : Fun K x qual st f fd) (S : FnScope N ps (defScope st)) (many : ∀ vs H Q E, sp vs H Q E → vs.length = ps.length)
    (body : ∀ (cdv : Value) (A : Around) (frames : List Env) (s : Shared) (H : Hp) (vs : List V) (Q : VK) (E : XK), (A.deeper (envOfC qual (defScope st) s.heap.objs.size f cdv)).guards = some [] →
      Room k (A.deeper (envOfC qual (defScope st) s.heap.objs.size f cdv)) → sp vs H Q E →
      ∃ t, PSs (cxOf CX0 P w K mg base N qual (defScope st) f cdv A frames s H E).nox (defBody st) t ∧ t { nx := fun _ H' => Q .non H', rt := Q } (start N vs) H) : FnG P w K mg base (k + 1) f fd ps sp := by
  refine ⟨many, fun A hg room frames s H e0 given us vs hb hv Q E q => ?_⟩
  obtain ⟨oc, od, kV, doc, pm, an, cdv, ct, osl, rfl, look, code⟩ := F.ex
  have old : ∀ b o, base.get? b = some o → s.heap.get? b = some o := fun b o e => (e0.bs b o e).1
  have kin : K.In s.heap := e0.mod.kin.keeps old
  have free : s.heap.NoLimit := e0.mod.nolimit.keeps old
  have kinds : ∀ y ∈ ps.zip us, (defScope st).names.lookup y.1 = some .local ∨ ((defScope st).names.lookup y.1 = some .cell ∧ ((cellsFrom (s.heap.objs.size + 1) (defScope st).names []).lookup y.1).isSome = true) := by
    intro y hy
    obtain ⟨n, v⟩ := y
    rcases S.par n (List.of_mem_zip hy).1 with z | z
    · exact Or.inl z
    · exact Or.inr ⟨z, PySem.W.cellsFrom_some _ _ _ (Or.inl z)⟩
  obtain ⟨t, pt, ht⟩ := body cdv A frames s H vs Q E hg (room.deeper _) q
  refine codeAny_call_function room.depth (kin _ _ look) rfl S.co S.gen rfl (PySem.W.codeRec_of kin code) (hb _ _ _ _ (wpAny_newFunctionEnv_cells S.kind kinds fun env ee s1 fresh => ?_))
  subst ee
  refine ⟨free.keeps fresh.toInCall.keep, codeAny_func ?_⟩
  have I0 := inv_start (CX := CX0) (P := P) (w := w) (E := E) S room.hd e0 (many _ _ _ _ q) hv fresh
  refine wpAny_mono (pt.nox.run [] s1 (start N vs) H _ I0 ht) ?_ (fun _ _ z => z)
  intro fl s2 hs
  match fl, hs with
  | .ret u, ⟨v, _, H2, J, rv, z⟩ => exact ⟨v, H2, J.os, J.bare, J.base, J.hok, rv, z⟩
  | .next, ⟨_, H2, J, z⟩ => exact ⟨V.non, H2, J.os, J.bare, J.base, J.hok, rfl, z⟩
  | .brk, ⟨_, _, _, z⟩ => exact z.elim
  | .cont, ⟨_, _, _, z⟩ => exact z.elim
end

section
variable {X : Cx} {k : Nat} {f : Addr} {fd : FuncData} {ps : List Str} {sp : Sp} {ds : List Value} {dvs : List V} {x : Str} {p pos : Pos} {e : Expr} {es : List Expr} {t : TA}
theorem run_g {pins : List (Addr × Obj)} {σ : L2.St} {H : Hp} {s : Shared} {Q : VK} {us : List Value} {vs : List V} (F : FnG X.prog X.w X.K X.mg X.base k f fd ps sp) (room : Room k X.A) (hg : X.A.guards = some []) (hb : Binds X.K fd ps ds) (hd : Vals dvs ds)
    (I : Inv X pins σ H s) (hv : Vals vs us) (q : sp (vs ++ dvs) H Q E0) : wpAny (model X.prog X.w) X.A (call (.ref f) us) (EP X pins σ Q) X.xe s := by
  have all := hv.append hd
  have n : (us ++ ds).length = ps.length := all.length.symm.trans (F.many _ _ _ _ q)
  refine wpAny_call (codeAny_mono (F.runs X.A hg room X.stack s H I.env0 ⟨us, []⟩ (us ++ ds) (vs ++ dvs) (hb s us I.kIn n) all Q E0 q) ?_)
  intro r s2 h
  match r, h with
  | .error _, h => exact False.elim h
  | .ok (.ret u), h => exact I.after h
  | .ok .next, h => exact False.elim h
  | .ok .brk, h => exact False.elim h
  | .ok .cont, h => exact False.elim h
/-- a call of such a def -/
theorem pe_callG (F : FnG X.prog X.w X.K X.mg X.base k f fd ps sp) (room : Room k X.A) (hgd : X.A.guards = some []) (hg : Gl X x) (hm : X.mg x = some (.ref f)) (kp : PySem.W.keepIn X.K (.ref f) = true) (hb : Binds X.K fd ps ds) (hd : Vals dvs ds) (_hx : Passes CX0 X E0)
    (ha : PA X (e :: es) t) (hdb : (x == ("__debug__" : Str)) = false := by decide) (he : starEach (e :: es) X.env = (false, eval e X.env) :: starEach es X.env := by rfl) (hpl : (backTo pos (starEach es X.env)).any (·.1) = false := by rfl) :
    PE X (.Call (.Name x p) (e :: es) [] pos) (tCall sp dvs E0 t) := by
  refine ⟨fun pins s σ H Q I h => wpAny_Call_Name_kw (ld_glob I hg hm ?_ hdb)⟩
  exact PySem.W.callWith_K (h₀ := X.base) I.ok.mod.kin kp (thn (ha.run pos pins s σ H _ I h) fun us s1 ⟨vs, H1, I1, rv, q⟩ => ⟨I1.kIn, run_g F room hgd hb hd I1 rv q⟩) he hpl
theorem pe_callG0 (F : FnG X.prog X.w X.K X.mg X.base k f fd ps sp) (room : Room k X.A) (hgd : X.A.guards = some []) (hg : Gl X x) (hm : X.mg x = some (.ref f)) (kp : PySem.W.keepIn X.K (.ref f) = true) (hb : Binds X.K fd ps ds) (hd : Vals dvs ds)
    (hdb : (x == ("__debug__" : Str)) = false := by decide) : PE X (.Call (.Name x p) [] [] pos) (tCall sp dvs E0 tNil) := by
  refine ⟨fun pins s σ H Q I h => wpAny_Call_Name_kw (ld_glob I hg hm ?_ hdb)⟩
  exact PySem.W.callWith_K0 I.kIn kp (run_g F room hgd hb hd I .nil h)
end

/-! ### repr of data -/
theorem call_repr {X : Cx} (hgd : X.A.guards = some []) (hu : X.A.units + 64 < cLine) : CallR X (.builtin "repr") (fun vs H Q => ∃ (a : Addr) (d : PyData), vs = [.ref a] ∧ Dp X.K H (.ref a) d ∧ d.showable = true ∧ d.hasDict = false ∧ d.depth ≤ 50 ∧ d.shown.length ≤ sizeLine ∧ Q (.str d.shown) H) := by
  intro pins s σ H vs us Q I r h
  obtain ⟨a, d, rfl, hd, h1, h2, h3, h4, q⟩ := h
  rw [Vals.ref1 r]
  obtain ⟨as, rd⟩ := Dp.reads I d (.ref a) (.ref a) hd rfl
  refine repr_of_reads' rd h1 (fun z => by rw [h2] at z; cases z) hgd (by omega) (fun _ _ e => e) (fun h' u tk keep => ?_) h4
  exact ⟨.str d.shown, H, I.kept (t' := tk) keep, ⟨u, rfl⟩, q⟩

/-! ### the end of a law's row -/
/-- the one tracked thing, if any: the script's list, locked -/
def only (c : Bool) (a : Addr) (o : Obj) (xs : List V) : Hp := fun b => if c = true ∧ b = a then some (.frz o (.lst xs)) else none
theorem only_at {a : Addr} {o : Obj} {xs : List V} : only true a o xs a = some (.frz o (.lst xs)) := if_pos ⟨rfl, rfl⟩
theorem only_off {c : Bool} {a b : Addr} {o : Obj} {xs : List V} (h : b ≠ a) : only c a o xs b = none := if_neg fun z => h z.2
theorem only_no {a b : Addr} {o : Obj} {xs : List V} : only false a o xs b = none := if_neg fun z => Bool.noConfusion z.1
theorem only_some {c : Bool} {a b : Addr} {o : Obj} {xs : List V} {u : HO} (h : only c a o xs b = some u) : c = true ∧ b = a ∧ u = .frz o (.lst xs) := by
  unfold only at h
  split at h
  · rename_i e
    exact ⟨e.1, e.2, (Option.some.inj h).symm⟩
  · cases h

theorem enter {P : Program} {w : World} {K : PySem.W.Frag} {mg mb : Str → Option Value} {k : Nat} {fa a : Addr} {fd : FuncData} {x : Str} {sp : Sp} {s : Shared} {vs : List Value} {ns : List Int}
    (kin : K.In s.heap) (hm : s.heap.Ns mainGlobals mg) (hb : s.heap.Ns builtinsNs mb) (hbb : ∀ x : Str, x ≠ "__name__" → mb x = bootBuiltins x) (lim : s.heap.NoLimit) (gens : s.gens = #[])
    (there : s.heap.get? a = some { cls := .type "list", data := .seq vs.toArray }) (nums : IntsAre vs ns) (many : ns.length ≤ sizeLine) (room : Room k callerA)
    (F : ∀ base : Heap, K.In base → base.Ns mainGlobals mg → FnG P w K mg base k fa fd [x] sp) (bind : ∀ (s : Shared) (u : Value), BindsTo s fd ⟨[u], []⟩ [(x, u)])
    (hsp : ∀ H : Hp, SqL K H a (ns.map V.int) → (∀ b, b ≠ a → H b = none) → sp [.ref a] H (fun v _ => v = .bl true) E0) :
    codeAny (model P w) callerA (.call (.ref fa) ⟨[.ref a], []⟩) (fun r s' => r = .ok (.ret (.bool true)) ∧ OldK s.heap s'.heap ∧ s'.os = s.os ∧ AllBare s'.gens) s := by
  let ob : Obj := { cls := .type "list", data := .seq vs.toArray }
  obtain ⟨c, apart, hS⟩ : ∃ c : Bool, (c = true → K.lookup a = none) ∧ SqL K (only c a ob (ns.map V.int)) a (ns.map V.int) := by
    cases look : K.lookup a with
    | none => exact ⟨true, fun _ => rfl, Or.inl (Or.inr ⟨ob, only_at⟩)⟩
    | some o =>
      have e := kin a o look
      rw [there] at e
      cases e
      refine ⟨false, fun z => (by cases z), Or.inr ⟨ob, vs.toArray, _, look, rfl, rfl, rfl, ?_, by simpa using vals_ints nums⟩⟩
      rw [List.size_toArray, nums.length]
      exact many
  have held : HOk P w (only c a ob (ns.map V.int)) s.heap := by
    intro b u e
    obtain ⟨_, rfl, rfl⟩ := only_some e
    exact ⟨there, by rw [List.length_map]; exact many, vs, _, vals_ints nums, there⟩
  generalize hH : only c a ob (ns.map V.int) = H0 at hS held
  have off : ∀ {b : Addr} {o : Obj}, s.heap.get? b = some o → H0 b = none → (hidT s.heap H0).get? b = some o := fun e n => hidT_get e n
  have dictOff : ∀ {b : Addr} {m : Str → Option Value}, s.heap.Ns b m → (hidT s.heap H0).Ns b m := by
    intro b m hn
    obtain ⟨o, es, ep, e, d, r⟩ := hn
    refine ⟨o, es, ep, off e ?_, d, r⟩
    rw [← hH]
    refine only_off ?_
    rintro rfl
    rw [there] at e
    cases e
    cases d
  have kin0 : K.In (hidT s.heap H0) := by
    intro b o e
    refine off (kin b o e) ?_
    cases h0 : H0 b with
    | none => rfl
    | some u =>
      rw [← hH] at h0
      obtain ⟨z1, rfl, _⟩ := only_some h0
      rw [apart z1] at e
      cases e
  have md : Mod K mg (hidT s.heap H0) := ⟨kin0, dictOff hm, ⟨mb, dictOff hb, hbb⟩, by
    obtain ⟨mc, c1, c2⟩ := lim
    exact ⟨mc, dictOff c1, c2⟩⟩
  have e0 : Env0 P w K mg (hidT s.heap H0) callerA [] s H0 := ⟨rfl, md, fun b o e => of_hidT e, Nat.le_of_eq (hidT_size _ _), trivial, fun b z => (List.not_mem_nil z).elim, held, .of_eq gens⟩
  have run := (F _ kin0 (dictOff hm)).runs callerA rfl room [] s H0 e0 ⟨[.ref a], []⟩ [.ref a] [.ref a] (bind s (.ref a)) (.cons rfl .nil) (fun v _ => v = .bl true) E0 (hsp H0 hS fun b n => by rw [← hH]; exact only_off n)
  refine codeAny_mono run fun r s2 h => ?_
  match r, h with
  | .error _, h => exact False.elim h
  | .ok .next, h => exact False.elim h
  | .ok .brk, h => exact False.elim h
  | .ok .cont, h => exact False.elim h
  | .ok (.ret u), ⟨v, H2, os, bare, un, held2, rv, q⟩ =>
    subst q
    cases rv
    refine ⟨rfl, OldK.of_keep fun b o e => ?_, os, bare⟩
    cases h0 : H0 b with
    | none => exact un.keep b o e h0 (fun z => (List.not_mem_nil z).elim) (fun z => (List.not_mem_nil z).elim)
    | some u =>
      have h1 := h0
      rw [← hH] at h1
      obtain ⟨_, rfl, rfl⟩ := only_some h1
      obtain ⟨e2, _⟩ := held2 b _ (un.frzs b ob _ h0)
      rw [there] at e
      cases e
      exact e2

theorem walk_g {l : PySem.W.OpenLaw} {n k : Nat} {q : Program} {loose : List Str} {XP : (Str → Option Value) → Heap → Prop} {YP : World → Heap → Prop} {d : DefRec} {K : Params → PySem.W.Frag} {sp : PySem.W.Frag → Sp} {x : Str}
    (hn : l.most = some n) (hn2 : n ≤ sizeLine) (hdf : d.params.defaults = []) (room : Room k callerA) (hY : ∀ (w : World) (h : Heap), YP w h → (K w.params).In h)
    (F : ∀ (w : World) (mg : Str → Option Value) (fa : Addr) (h : Heap), (K w.params).In h → h.Ns mainGlobals mg → mg d.name = some (.ref fa) →
      ∃ fd : FuncData, (∀ (s : Shared) (u : Value), BindsTo s fd ⟨[u], []⟩ [(x, u)]) ∧ ∀ base : Heap, (K w.params).In base → base.Ns mainGlobals mg → FnG l.prog w (K w.params) mg base k fa fd [x] (sp (K w.params)))
    (hsp : ∀ (K : PySem.W.Frag) (H : Hp) (a : Addr) (ns : List Int), ns.length ≤ n → SqL K H a (ns.map V.int) → (∀ b, b ≠ a → H b = none) → sp K [.ref a] H (fun v _ => v = .bl true) E0) :
    PySem.W.WalkO q loose XP YP l.row.toRowW d [] (fun f vs => PySem.call f vs) := by
  refine Att.attach_call hn hdf fun w s₀ s₁ mg mb fa o pm cd doc a vs ns G Y ho hd hcd hmg there nums many gens => ?_
  have kin := hY w _ Y
  obtain ⟨fd, bind, hF⟩ := F w mg fa _ kin G.T.g hmg
  exact enter kin G.T.g G.T.b G.T.builtins G.T.nolimit gens there nums (Nat.le_trans many hn2) room hF bind fun H h1 h2 => hsp _ H a ns many h1 h2
end W0

/-! W1: data in the abstract heap, its size as text; type(x); sorted lists of triples of ints. -/
namespace W1
open PySem PySem.Spec PyProof.Rows L2

/-! ### data stays -/
theorem same_tup {K : PySem.W.Frag} {H H' : Hp} {a : Addr} {xs : List V} (e : Same H H') (h : SqT K H a xs) : SqT K H' a xs := by
  rcases h with (h | ⟨o, h⟩) | h
  · exact .inl (.inl (e _ _ h))
  · exact .inl (.inr ⟨o, e _ _ h⟩)
  · exact .inr h
theorem same_new {H : Hp} {p : Addr} {o : HO} (h : H p = none) : Same H (upd H p o) := fun b x e => by
  rw [upd_ne (ne_of_none e h)]
  exact e
mutual
theorem dp_same {K : PySem.W.Frag} {H H' : Hp} (e : Same H H') : ∀ (d : PyData) (v : V), Dp K H v d → Dp K H' v d
  | .none, _, h => by cases h; exact .non
  | .bool b, _, h => by cases h; exact .bl b
  | .int i, _, h => by cases h; exact .int i
  | .str x, _, h => by cases h; exact .str x
  | .list ds, _, h => by
    cases h with
    | lst hs ha => exact .lst (e.seq hs) (dps_same e ds _ ha)
  | .tuple ds, _, h => by
    cases h with
    | tup hs ha => exact .tup (same_tup e hs) (dps_same e ds _ ha)
  | .dict _, _, h => by cases h
theorem dps_same {K : PySem.W.Frag} {H H' : Hp} (e : Same H H') : ∀ (ds : List PyData) (vs : List V), DpAll K H vs ds → DpAll K H' vs ds
  | [], _, h => by cases h; exact .nil
  | d :: ds, _, h => by
    cases h with
    | cons h1 h2 => exact .cons (dp_same e d _ h1) (dps_same e ds _ h2)
end
section
variable {K : PySem.W.Frag} {H : Hp}
theorem dps_len : ∀ {vs : List V} {ds : List PyData}, DpAll K H vs ds → vs.length = ds.length
  | _, _, .nil => rfl
  | _, _, .cons _ t => by rw [List.length_cons, List.length_cons, dps_len t]
theorem dps_get : ∀ {vs : List V} {ds : List PyData} {i : Nat} {d : PyData}, DpAll K H vs ds → ds[i]? = some d → ∃ v, vs[i]? = some v ∧ Dp K H v d
  | _, _, _, _, .nil, e => by simp at e
  | _, _, 0, _, .cons h _, e => by
    simp at e
    subst e
    exact ⟨_, rfl, h⟩
  | _, _, i + 1, d, .cons _ t, e => by
    obtain ⟨v, h1, h2⟩ := dps_get (i := i) t (by simpa using e)
    exact ⟨v, by simpa using h1, h2⟩
theorem dps_app : ∀ {vs ws : List V} {ds es : List PyData}, DpAll K H vs ds → DpAll K H ws es → DpAll K H (vs ++ ws) (ds ++ es)
  | _, _, _, _, .nil, h => h
  | _, _, _, _, .cons h t, g => .cons h (dps_app t g)
theorem dps_one {v : V} {d : PyData} (h : Dp K H v d) : DpAll K H [v] [d] := .cons h .nil
theorem dp_tup {v : V} {ds : List PyData} (h : Dp K H v (.tuple ds)) : ∃ a xs, v = .ref a ∧ SqT K H a xs ∧ DpAll K H xs ds := by
  cases h with
  | tup hs ha => exact ⟨_, _, rfl, hs, ha⟩
theorem dp_lst {v : V} {ds : List PyData} (h : Dp K H v (.list ds)) : ∃ a xs, v = .ref a ∧ SqL K H a xs ∧ DpAll K H xs ds := by
  cases h with
  | lst hs ha => exact ⟨_, _, rfl, hs, ha⟩
theorem dp_int {v : V} {i : Int} (h : Dp K H v (.int i)) : v = .int i := by cases h; rfl
theorem dp_bl {v : V} {b : Bool} (h : Dp K H v (.bool b)) : v = .bl b := by cases h; rfl
theorem dp_mk {p : Addr} {xs : List V} {ds : List PyData} (hp : H p = none) (h : DpAll K H xs ds) : Dp K (upd H p (.tup xs)) (.ref p) (.tuple ds) := .tup (SqT.of upd_same) (dps_same (same_new hp) ds xs h)
theorem dp_mkl {p : Addr} {xs : List V} {ds : List PyData} (hp : H p = none) (h : DpAll K H xs ds) : Dp K (upd H p (.lst xs)) (.ref p) (.list ds) := .lst (SqL.of upd_same) (dps_same (same_new hp) ds xs h)
theorem dps_ints : ∀ ns : List Int, DpAll K H (ns.map V.int) (ns.map PyData.int)
  | [] => .nil
  | n :: ns => .cons (.int n) (dps_ints ns)
theorem dps_ints_inv : ∀ {ns : List Int} {vs : List V}, DpAll K H vs (ns.map PyData.int) → vs = ns.map V.int
  | [], _, .nil => rfl
  | n :: ns, _, .cons h t => by
    rw [dp_int h, dps_ints_inv t]
    rfl
end

/-! ### data small enough to be shown -/
structure Fine (k n : Nat) (d : PyData) : Prop where
  leaf : d.leavesShort 13 = true
  vis : d.showable = true
  nod : d.hasDict = false
  lay : d.canLay0 = true
  dep : d.depth ≤ k
  blk : d.bulk ≤ n
theorem all_leaf : ∀ {ds : List PyData}, (∀ d ∈ ds, d.leavesShort 13 = true) → PyData.leavesShortAll 13 ds = true
  | [], _ => rfl
  | d :: ds, h => by
    show (PyData.leavesShort 13 d && PyData.leavesShortAll 13 ds) = true
    rw [h d List.mem_cons_self, all_leaf fun e m => h e (List.mem_cons_of_mem _ m)]
    rfl
theorem all_vis : ∀ {ds : List PyData}, (∀ d ∈ ds, d.showable = true) → PyData.showableAll ds = true
  | [], _ => rfl
  | d :: ds, h => by
    show (PyData.showable d && PyData.showableAll ds) = true
    rw [h d List.mem_cons_self, all_vis fun e m => h e (List.mem_cons_of_mem _ m)]
    rfl
theorem all_nod : ∀ {ds : List PyData}, (∀ d ∈ ds, d.hasDict = false) → PyData.hasDictAll ds = false
  | [], _ => rfl
  | d :: ds, h => by
    show (PyData.hasDict d || PyData.hasDictAll ds) = false
    rw [h d List.mem_cons_self, all_nod fun e m => h e (List.mem_cons_of_mem _ m)]
    rfl
theorem all_lay : ∀ {ds : List PyData}, (∀ d ∈ ds, d.canLay0 = true) → PyData.canLayAll0 ds = true
  | [], _ => rfl
  | d :: ds, h => by
    show (PyData.canLay0 d && PyData.canLayAll0 ds) = true
    rw [h d List.mem_cons_self, all_lay fun e m => h e (List.mem_cons_of_mem _ m)]
    rfl
theorem all_dep {k : Nat} : ∀ {ds : List PyData}, (∀ d ∈ ds, d.depth ≤ k) → PyData.depthAll ds ≤ k
  | [], _ => Nat.zero_le _
  | d :: ds, h => by
    show max (PyData.depth d) (PyData.depthAll ds) ≤ k
    exact Nat.max_le.mpr ⟨h d List.mem_cons_self, all_dep fun e m => h e (List.mem_cons_of_mem _ m)⟩
theorem all_blk {n : Nat} : ∀ {ds : List PyData}, (∀ d ∈ ds, d.bulk ≤ n) → PyData.bulkAll ds ≤ ds.length * (n + 1)
  | [], _ => Nat.zero_le _
  | d :: ds, h => by
    show PyData.bulk d + 1 + PyData.bulkAll ds ≤ (ds.length + 1) * (n + 1)
    have h1 := h d List.mem_cons_self
    have h2 := all_blk fun e m => h e (List.mem_cons_of_mem _ m)
    rw [Nat.add_mul]
    omega
theorem Fine.mono {k n k' n' : Nat} {d : PyData} (f : Fine k n d) (h1 : k ≤ k') (h2 : n ≤ n') : Fine k' n' d := ⟨f.leaf, f.vis, f.nod, f.lay, Nat.le_trans f.dep h1, Nat.le_trans f.blk h2⟩
theorem Fine.int {i : Int} (h : i.natAbs < 10 ^ 12) : Fine 0 0 (.int i) := by
  refine ⟨decide_eq_true (PyData.shown_int_le h), decide_eq_true ?_, rfl, rfl, Nat.le_refl _, Nat.le_refl _⟩
  rcases Nat.eq_zero_or_pos i.natAbs with z | z
  · rw [z]
    decide
  · have h2 : i.natAbs < 2 ^ 40 := Nat.lt_of_lt_of_le h (by decide)
    have := (Nat.log2_lt (by omega)).mpr h2
    omega
theorem Fine.bl (b : Bool) : Fine 0 0 (.bool b) := ⟨rfl, rfl, rfl, rfl, Nat.le_refl _, Nat.le_refl _⟩
theorem Fine.tup {k n m : Nat} {ds : List PyData} (h : ∀ d ∈ ds, Fine k n d) (hm : ds.length ≤ m) : Fine (k + 1) (m * (n + 1)) (.tuple ds) :=
  ⟨all_leaf fun d m => (h d m).leaf, all_vis fun d m => (h d m).vis, all_nod fun d m => (h d m).nod, all_lay fun d m => (h d m).lay, Nat.succ_le_succ (all_dep fun d m => (h d m).dep), Nat.le_trans (all_blk fun d m => (h d m).blk) (Nat.mul_le_mul_right _ hm)⟩
theorem Fine.lst {k n m : Nat} {ds : List PyData} (h : ∀ d ∈ ds, Fine k n d) (hm : ds.length ≤ m) : Fine (k + 1) (m * (n + 1)) (.list ds) :=
  ⟨all_leaf fun d m => (h d m).leaf, all_vis fun d m => (h d m).vis, all_nod fun d m => (h d m).nod, all_lay fun d m => (h d m).lay, Nat.succ_le_succ (all_dep fun d m => (h d m).dep), Nat.le_trans (all_blk fun d m => (h d m).blk) (Nat.mul_le_mul_right _ hm)⟩
theorem Fine.fits {k n : Nat} {d : PyData} (f : Fine k n d) (h : n ≤ 2 ^ 20) : d.shown.length ≤ sizeLine := PyData.shown_fits_bulk (B := 13) (by decide) (by decide) f.leaf (Nat.le_trans f.blk h)
theorem Fine.shaped {k n : Nat} {d : PyData} (f : Fine k n d) (h : k ≤ 64) : SeqAt.shaped d = true := by
  unfold SeqAt.shaped
  rw [f.lay, Bool.true_and]
  exact decide_eq_true (Nat.le_trans f.dep h)

/-! ### rules with the written part named (within a comprehension) -/
theorem pg_tupK {X : Cx} {K : PySem.W.Frag} {es : List Expr} {k n : Nat} {pos : Pos} {t : TGs} (hc : X.calm = true) (h : PGs X es t) (hK : X.K = K := by rfl) (hn : (assignEach es X.env).length = n := by rfl) (hs : (assignEach es X.env).findIdx? (·.1) = none := by rfl) :
    PG X (.Tuple es k pos) (gTup K n t) := hK ▸ pg_tup hc h hn hs
theorem op_ltK {X : Cx} {K : PySem.W.Frag} (hu : X.A.units < cLine) (hK : X.K = K := by rfl) : OpR X (compareOp .Lt) (rLtT K) := hK ▸ op_ltT hu
theorem ix_tupK {X : Cx} {K : PySem.W.Frag} (hK : X.K = K := by rfl) : IxR X (rIxT K) := hK ▸ ix_tup
theorem ix_listK {X : Cx} {K : PySem.W.Frag} (hK : X.K = K := by rfl) : IxR X (rIxL K) := hK ▸ ix_list

/-- a comprehension's block within another's: it captures nothing -/
theorem blk_any {N : List Str} {sc scope : Scope} {own : List (Str × Nat)} (sc0 : Scope) (h : BlkOk N sc0 scope own) (nf : (scope.names.all fun y => decide (y.2 ≠ .free)) = true) : BlkOk N sc scope own :=
  ⟨h.kind, h.uniq, h.ix, fun y hy e => absurd e (of_decide_eq_true (List.all_eq_true.mp nf y hy)), h.own⟩
section
variable {X : Cx}
theorem sw_dict {kx vx : Expr} {gs : List Comprehension} {scope : Scope} {pos py : Pos} {y : Str} {l : Nat} {env : Env} (hk : env.scope.kind = .function) (hy : env.scope.names.lookup y = some .local) (hl : (py.line == pos.line) = true)
    (ha : (scope.names.any fun (n, k) => n == y && (k == .local || k == .cell)) = false) : swapsWith (.DictComp kx vx gs scope pos) (some (.Name y py)) l env = pure true := by
  have k1 : env.kindOf y = some .local := hy
  have k2 : env.blockKind = .function := by
    unfold Env.blockKind
    rw [hk]
    rfl
  unfold swapsWith
  simp only [k1, k2, ha, Expr.pos, hl]
  rfl
/-- name = {k: v for ..}, the name a local -/
theorem ps_setDc {i : Nat} {y : Str} {py : Pos} {kx vx tg iter : Expr} {ifs : List Expr} {scope : Scope} {own : List (Str × Nat)} {pos spos : Pos} {wi : TI} {g : TG} {tt : TT} {tk tv : TE} (hc : X.calm = true) (hN : X.N.Nodup) (hy : X.N[i]? = some y) (hyl : X.env.scope.names.lookup y = some .local)
    (hsw : swapsWith (.DictComp kx vx [⟨tg, iter, ifs, 0⟩] scope pos) (some (.Name y py)) spos.line X.env = pure true) (hi : PI X tg iter wi) (ok : BlkOk X.N X.env.scope scope own)
    (hg : ∀ (s : Shared) (H : Hp) (C : Addr) (cl : List (Str × Addr)) (fp : List Addr), PG (X.blk s H scope (compEnvC scope cl C X.env) fp) tg g) (ht : ∀ (s : Shared) (H : Hp) (C : Addr) (cl : List (Str × Addr)) (fp : List Addr), PTs (X.blk s H scope (compEnvC scope cl C X.env) fp) ifs tt)
    (hk : ∀ (s : Shared) (H : Hp) (C : Addr) (cl : List (Str × Addr)) (fp : List Addr), PE (X.blk s H scope (compEnvC scope cl C X.env) fp) kx tk)
    (he : ∀ (s : Shared) (H : Hp) (C : Addr) (cl : List (Str × Addr)) (fp : List Addr), PE (X.blk s H scope (compEnvC scope cl C X.env) fp) vx tv) (hs : ∀ x, foldedSetIterable iter X.env x = pure x := by intro _; rfl) :
    PS X (.Assign [.Name y py] (.DictComp kx vx [⟨tg, iter, ifs, 0⟩] scope pos) spos) (tAsg (tDc wi g tt tk tv (own.map (·.2))) (gName i)) := by
  refine ⟨fun pins s σ H D I h => ?_⟩
  have h1 : tDc wi g tt tk tv (own.map (·.2)) σ H (fun x H1 => gName i x σ H1 D.nx) := h
  rw [exec_Assign_Name_used _ _ _ _ hsw]
  refine wpAny_bind (wpAny_standAt (wpAny_bind ?_))
  show wpAny _ X.A (do let _ ← comprehension (.DictComp kx vx [⟨tg, iter, ifs, 0⟩] scope pos) scope X.env (firstIterPos [⟨tg, iter, ifs, 0⟩] pos) newDict false (eval iter X.env) (some (assign (.Name y py) X.env))) _ _ s
  refine wpAny_bind (thn (dc_core (Qf := fun _ s2 => SP X pins D .next s2) hc hN I hi ok hg ht hk he hs h1 fun L C s2 m H2 I2 q hn f => ?_) fun _ s2 hq => wpAny_pure (wpAny_pure hq))
  show wpAny _ _ (assign (.Name y py) X.env (.ref L)) _ _ _
  obtain ⟨f0, f1, f2, f3, f4, f5⟩ := f
  refine wpAny_assign_Name (store_ok2 (v := V.ref L) I2 hN hy (.inl hyl) rfl (fun s3 I3 cell => ?_) (.inr hyl))
  obtain ⟨a, sb, ha⟩ := cell
  have apart : C ≠ a := by
    rcases ha with z | z
    · rw [z]
      exact f1
    · intro e
      exact f4 y a z e.symm
  exact ⟨m, hn.sameBut sb apart, fun h3 sb3 => ⟨_, H2, I3.turned (t' := s3.toks) (fun b o hb e => (sb3.2 b hb).trans e) f0 f1 f3 f4 f5, q⟩⟩
end
/-- t[lo:hi], as one promise -/
def rSlW (K : PySem.W.Frag) : V → Option Int → Option Int → Hp → VK → Prop := fun x lo hi H Q => ∃ a xs, x = .ref a ∧ SqT K H a xs ∧ ∀ b H1, Same H H1 → SqT K H1 b (cutV xs lo hi) → Q (.ref b) H1
theorem sl_tupK {X : Cx} {K : PySem.W.Frag} (hK : X.K = K := by rfl) : SlR X (rSlW K) := by
  subst hK
  intro pins s σ H x v vl vu lo hi sl Q I rx hs pl pu h
  obtain ⟨a, xs, rfl, hx, q⟩ := h
  refine sl_tupA pins s σ H _ v vl vu lo hi sl Q I rx hs pl pu ⟨a, xs, rfl, hx, fun hw => ?_, fun _ p np => q p _ (same_new np) (SqT.of upd_same)⟩
  refine q a H (Same.refl H) ?_
  have e : cutV xs lo hi = xs := by
    unfold cutV
    rw [hw.1, hw.2, List.drop_zero, Nat.sub_zero, List.take_length]
  rw [e]
  exact hx
/-- t + u, as one promise -/
def rCatW (K : PySem.W.Frag) : R2 := fun x y H Q => ∃ a b xs ys, x = .ref a ∧ y = .ref b ∧ SqT K H a xs ∧ SqT K H b ys ∧ xs.length + ys.length ≤ sizeLine ∧ ∀ p H1, Same H H1 → SqT K H1 p (xs ++ ys) → Q (.ref p) H1
theorem op_catK {X : Cx} {K : PySem.W.Frag} (hK : X.K = K := by rfl) : OpR X (binaryOp .Add) (rCatW K) := by
  subst hK
  intro pins s σ H x y v u Q I rx ry h
  obtain ⟨a, b, xs, ys, rfl, rfl, ha, hb, hz, q⟩ := h
  refine op_catA pins s σ H _ _ v u Q I rx ry ⟨a, b, xs, ys, rfl, rfl, ha, hb, hz, fun e => ?_, fun _ e => ?_, fun _ _ p np => q p _ (same_new np) (SqT.of upd_same)⟩
  · subst e
    exact q b H (Same.refl H) hb
  · subst e
    refine q a H (Same.refl H) ?_
    rw [List.append_nil]
    exact ha

/-- tuple(x) -/
def rTup (K : PySem.W.Frag) : List V → Hp → VK → Prop := fun vs H Q => ∃ p ys, vs = [.ref p] ∧ ((SqL K H p ys ∧ ∀ l, H l = none → Q (.ref l) (upd H l (.tup ys))) ∨ (SqT K H p ys ∧ Q (.ref p) H))
theorem call_tupleK {X : Cx} {K : PySem.W.Frag} (hK : X.K = K := by rfl) : CallR X (.type "tuple") (rTup K) := by
  subst hK
  exact call_tuple_of

/-! ### type(x) -/
inductive TyS (K : PySem.W.Frag) (H : Hp) : V → String → Prop
  | int (i : Int) : TyS K H (.int i) "int"
  | bl (b : Bool) : TyS K H (.bl b) "bool"
  | str (x : Str) : TyS K H (.str x) "str"
  | lst {a : Addr} {xs : List V} (e : SqL K H a xs) : TyS K H (.ref a) "list"
  | tup {a : Addr} {xs : List V} (e : SqT K H a xs) : TyS K H (.ref a) "tuple"
theorem call_typeS {X : Cx} : CallR X (.type "type") (fun vs H Q => ∃ x T, vs = [x] ∧ TyS X.K H x T ∧ Q (.ty T) H) := by
  intro pins s σ H vs us Q I r h
  obtain ⟨x, T, rfl, t, q⟩ := h
  obtain ⟨u, rfl, rx⟩ := vals1 r
  have both : s.TypeIs u T ∧ (Value.type T == Value.type "builtin_function_or_method") = false := by
    cases t with
    | int i =>
      obtain ⟨k, rfl⟩ := rx
      exact ⟨typeIs_int s i k, by decide +kernel⟩
    | bl b =>
      cases rx
      exact ⟨PySem.typeIs_bool s b, by decide +kernel⟩
    | str z =>
      obtain ⟨k, rfl⟩ := rx
      exact ⟨typeIs_str s z k, by decide +kernel⟩
    | lst e =>
      cases rx
      obtain ⟨its, _, p, _⟩ := I.list e
      exact ⟨p.isList.typeIs, by decide +kernel⟩
    | tup e =>
      cases rx
      obtain ⟨its, _, p, _⟩ := I.tuple e
      exact ⟨p.typeIs, by decide +kernel⟩
  exact call_type_of both.1 both.2 ⟨.ty T, H, I, rfl, q⟩
end W1

/-! W2: sorted(xs), xs a list of tuples of ints, of any length. -/
namespace W2
open PySem PySem.Spec PyProof.Rows L2

/-- the shape: no texts -/
def nums : Nat → Bool := fun _ => false
/-- the ints behind a key -/
def unKey : Option (List (Int ⊕ List Nat)) → List Int
  | some l => l.map fun x => match x with
    | .inl i => i
    | .inr _ => 0
  | none => []
theorem unKey_inl (ks : List Int) : unKey (some (ks.map Sum.inl)) = ks := by
  show (ks.map Sum.inl).map _ = ks
  rw [List.map_map]
  exact List.map_id'' (fun _ => rfl) ks
theorem items_key : ∀ {ks : List Int} {us : List Value} (i : Nat), IntsAre us ks → PyProof.Rows.tupItems nums i us = some (ks.map Sum.inl) := by
  intro ks us i h
  induction h generalizing i with
  | nil => rfl
  | cons n t r ih =>
    show (if nums i = true then none else (PyProof.Rows.tupItems nums (i + 1) _).map (Sum.inl n :: ·)) = _
    rw [if_neg (show ¬ nums i = true by intro z; cases z), ih]
    rfl
theorem lex_same : ∀ ks ms : List Int, PyProof.Rows.lexLt PyProof.Rows.itemOrd (ks.map Sum.inl) (ms.map Sum.inl) = HT.lexLt ks ms
  | [], [] => rfl
  | [], _ :: _ => rfl
  | _ :: _, [] => rfl
  | x :: ks, y :: ms => by
    show (decide (x < y) || (!decide (y < x) && PyProof.Rows.lexLt PyProof.Rows.itemOrd (ks.map Sum.inl) (ms.map Sum.inl))) = HT.lexLt (x :: ks) (y :: ms)
    rw [lex_same ks ms, HT.lexLt_cons]
    by_cases e : x = y
    · subst e
      simp
    · rw [if_neg e]
      rcases Int.lt_or_gt_of_ne e with c | c
      · simp [c]
      · have c1 : ¬ x < y := by omega
        simp [c, c1]

/-- the address and the ints of a value -/
def back (h : Heap) (v : Value) : Addr × List Int := (match v with
  | .ref a => a
  | _ => 0, unKey (PyProof.Rows.G.tupKeyC h nums v))
def rSortT (K : PySem.W.Frag) : List V → Hp → VK → Prop := fun vs H Q => ∃ (a : Addr) (ts : List (Addr × List Int)), vs = [.ref a] ∧ SqL K H a (ts.map fun p => V.ref p.1) ∧ (∀ p ∈ ts, SqT K H p.1 (p.2.map V.int) ∧ p.2 ≠ []) ∧
  ∀ (us : List (Addr × List Int)) (p : Addr), us.Perm ts → (us.map (·.2)).Pairwise (fun x y => HT.lexLt y x = false) → H p = none → Q (.ref p) (upd H p (.lst (us.map fun q => V.ref q.1)))
theorem refs_vals {ts : List (Addr × List Int)} : ∀ {us : List Value}, Vals (ts.map fun p => V.ref p.1) us → us = ts.map fun p => Value.ref p.1 := by
  induction ts with
  | nil =>
    intro us h
    cases h
    rfl
  | cons p ts ih =>
    intro us h
    cases h with
    | cons r t =>
      cases r
      rw [ih t]
      rfl
theorem vals_refs : ∀ ts : List (Addr × List Int), Vals (ts.map fun p => V.ref p.1) (ts.map fun p => Value.ref p.1)
  | [] => .nil
  | p :: ts => .cons rfl (vals_refs ts)
section
variable {X : Cx}
theorem tup_raw {pins : List (Addr × Obj)} {σ : L2.St} {H : Hp} {s : Shared} {t : Addr} {ks : List Int} (I : Inv X pins σ H s) (h : SqT X.K H t (ks.map V.int)) :
    ∃ o xs n, s.heap.get? t = some o ∧ o.cls = .type "tuple" ∧ o.data = .seq xs n ∧ IntsAre xs.toList ks := by
  obtain ⟨its, rv, ⟨o, ho, hc, n, hd⟩, _⟩ := I.tuple h
  exact ⟨o, its.toArray, n, ho, hc, hd, by simpa using rv.ints⟩
theorem key_raw {h : Heap} {t : Addr} {ks : List Int} {o : Obj} {xs : Array Value} {n : Nat} (ho : h.get? t = some o) (hc : o.cls = .type "tuple") (hd : o.data = .seq xs n) (hi : IntsAre xs.toList ks) : PyProof.Rows.G.tupKeyC h nums (.ref t) = some (ks.map Sum.inl) := by
  unfold PyProof.Rows.G.tupKeyC
  have e1 : PyProof.Rows.G.isTupObj h (.ref t) = true := by
    unfold PyProof.Rows.G.isTupObj
    simp only [ho, hc]
    decide
  rw [if_pos e1]
  show (match h.get? t with
    | some o => match o.data with
      | .seq xs _ => PyProof.Rows.tupItems nums 0 xs.toList
      | _ => none
    | none => none) = _
  rw [ho]
  simp only [hd]
  exact items_key 0 hi
/-- what a sort of the values leaves, told of the tuples -/
theorem sort_back {h : Heap} {ts : List (Addr × List Int)} (raw : ∀ p ∈ ts, PyProof.Rows.G.tupKeyC h nums (.ref p.1) = some (p.2.map Sum.inl)) {xs : Array Keyed} (pm : xs.Perm (pairsOf (ts.map fun p => Value.ref p.1)))
    (srt : SortedToK (PyProof.Rows.G.tupKindC h nums) xs (pairsOf (ts.map fun p => Value.ref p.1)).size) :
    ∃ us : List (Addr × List Int), us.Perm ts ∧ us.map (fun q => Value.ref q.1) = xs.toList.map (·.2) ∧ (us.map (·.2)).Pairwise (fun x y => HT.lexLt y x = false) := by
  have bk : ∀ p ∈ ts, back h (.ref p.1) = p := by
    intro p hp
    show (p.1, unKey (PyProof.Rows.G.tupKeyC h nums (.ref p.1))) = p
    rw [raw p hp, unKey_inl]
  have pml : xs.toList.Perm ((ts.map fun p => Value.ref p.1).zip (ts.map fun p => Value.ref p.1)) := by
    rw [← pairsOf_toList]
    exact pm.toList
  have mem : ∀ p ∈ xs.toList, p.1 = p.2 ∧ ∃ t ∈ ts, p.2 = Value.ref t.1 := by
    intro p hp
    obtain ⟨e, m⟩ := mem_zip_self (pml.mem_iff.mp hp)
    obtain ⟨t, ht, e2⟩ := List.mem_map.mp m
    exact ⟨e, t, ht, by rw [← e, e2]⟩
  refine ⟨xs.toList.map fun p => back h p.2, ?_, ?_, ?_⟩
  · have h1 := pml.map fun p => back h p.2
    have h2 : ((ts.map fun p => Value.ref p.1).zip (ts.map fun p => Value.ref p.1)).map (fun p => back h p.2) = ts := by
      rw [List.zip_eq_zipWith, List.map_zipWith, List.zipWith_map, List.zipWith_self]
      conv => rhs; rw [← List.map_id ts]
      exact List.map_congr_left fun p hp => bk p hp
    rw [h2] at h1
    exact h1
  · rw [List.map_map]
    refine List.map_congr_left fun p hp => ?_
    obtain ⟨_, t, ht, e⟩ := mem p hp
    show Value.ref (back h p.2).1 = p.2
    rw [e, bk t ht]
  · have keys : ∀ i (hi : i < xs.toList.length), KK (PyProof.Rows.G.tupKindC h nums) xs i = (back h xs.toList[i].2).2.map Sum.inl := by
      intro i hi
      have e : xs[i]? = some xs.toList[i] := by rw [← Array.getElem?_toList, List.getElem?_eq_getElem hi]
      obtain ⟨e1, t, ht, e2⟩ := mem _ (List.getElem_mem hi)
      unfold KK
      rw [e]
      show (PyProof.Rows.G.tupKeyC h nums xs.toList[i].1).getD [] = _
      rw [e1, e2, raw t ht, bk t ht]
      rfl
    rw [List.map_map]
    refine List.pairwise_map.mpr (List.pairwise_iff_getElem.mpr fun i j hi hj hij => ?_)
    have hsz : xs.toList.length = (pairsOf (ts.map fun p => Value.ref p.1)).size := by rw [pml.length_eq, ← pairsOf_toList, Array.length_toList]
    have h := srt i j (Nat.le_of_lt hij) (by rw [← hsz]; exact hj)
    rw [keys i hi, keys j hj] at h
    show HT.lexLt (back _ xs.toList[j].2).2 (back _ xs.toList[i].2).2 = false
    rw [← lex_same]
    exact h
theorem firsts_of {h : Heap} {ts : List (Addr × List Int)} (raw : ∀ p ∈ ts, ∃ f, PyProof.Rows.TupOf h nums (.ref p.1) f) : ∃ fs, PyProof.Rows.TupsOf h nums (ts.map fun p => Value.ref p.1) fs := by
  have all : ∀ l : List (Addr × List Int), (∀ p ∈ l, p ∈ ts) → ∃ fs, PyProof.Rows.TupsOf h nums (l.map fun p => Value.ref p.1) fs := by
    intro l
    induction l with
    | nil => intro _; exact ⟨[], .nil⟩
    | cons p l ih =>
      intro hs
      obtain ⟨fs, hfs⟩ := ih fun q hq => hs q (List.mem_cons_of_mem _ hq)
      obtain ⟨f, hf⟩ := raw p (hs p List.mem_cons_self)
      exact ⟨f :: fs, .cons hf hfs⟩
  exact all ts fun _ h => h
/-- a tuple of ints in the heap: its key, its first item -/
theorem raw_of {h : Heap} {t : Addr} {ks : List Int} {o : Obj} {xs : Array Value} {n : Nat} (ho : h.get? t = some o) (hc : o.cls = .type "tuple") (hd : o.data = .seq xs n) (hi : IntsAre xs.toList ks) (hne : ks ≠ []) :
    PyProof.Rows.G.tupKeyC h nums (.ref t) = some (ks.map Sum.inl) ∧ ∃ f, PyProof.Rows.TupOf h nums (.ref t) f := by
  refine ⟨key_raw ho hc hd hi, ?_⟩
  cases hi' : xs.toList with
  | nil =>
    rw [hi'] at hi
    cases hi
    exact absurd rfl hne
  | cons f rest =>
    have hf : xs[0]? = some f := by rw [← Array.getElem?_toList, hi']; rfl
    refine ⟨f, t, o, xs, n, rfl, ho, hc, hd, hf, fun _ => ?_, fun z => by cases z⟩
    rw [hi'] at hi
    cases hi with
    | cons n t r => exact ⟨_, _, rfl⟩
theorem cr_sortT : CallR X (.builtin "sorted") (rSortT X.K) := by
  intro pins s σ H vs us Q I r h
  obtain ⟨a, ts, rfl, hl, ht, q⟩ := h
  rw [Vals.ref1 r]
  obtain ⟨its, rv, pl, hz⟩ := I.list hl
  have eits := refs_vals rv
  have raw : ∀ p ∈ ts, PyProof.Rows.G.tupKeyC s.heap nums (.ref p.1) = some (p.2.map Sum.inl) ∧ ∃ f, PyProof.Rows.TupOf s.heap nums (.ref p.1) f := by
    intro p hp
    obtain ⟨o, xs, n, ho, hc, hd, hi⟩ := tup_raw I (ht p hp).1
    exact raw_of ho hc hd hi (ht p hp).2
  obtain ⟨fs, hfs⟩ := firsts_of fun p hp => (raw p hp).2
  subst eits
  refine PyProof.Rows.G.sorted_tups (fs := fs) pl.isList hfs (fun v hv => ?_) (by rw [← rv.length]; exact hz) fun st pm srt stb => ?_
  · obtain ⟨p, hp, rfl⟩ := List.mem_map.mp hv
    exact ⟨_, (raw p hp).1⟩
  · generalize arrOf st = xs at pm srt stb
    obtain ⟨us, pmu, vals, srt'⟩ := sort_back (fun p hp => (raw p hp).1) pm srt
    obtain ⟨ep, he'⟩ := sortedAll_at s.heap (ts.map fun p => Value.ref p.1) (xs.map (·.2))
    have hlen : (us.map fun q => V.ref q.1).length ≤ sizeLine := by
      rw [List.length_map, pmu.length_eq, ← List.length_map (as := ts) (f := fun p => V.ref p.1)]
      exact hz
    have hv : Vals (us.map fun q => V.ref q.1) (xs.map (·.2)).toList := by
      rw [Array.toList_map, ← vals]
      exact vals_refs us
    have hd : (sortedAll s.heap (ts.map fun p => Value.ref p.1) (xs.map (·.2))).get? (s.heap.objs.size + 1) = some { cls := .type "list", data := .seq (xs.map (·.2)).toList.toArray ep } := by
      rw [Array.toArray_toList]
      exact he'
    exact ⟨.ref _, upd H (s.heap.objs.size + 1) (.lst (us.map fun q => V.ref q.1)), I.laid (t' := s.toks) (fun _ _ => sortedAll_old) (Nat.le_succ _) ⟨hlen, _, ep, hv, hd⟩, rfl, q us _ pmu srt' (I.hok.fresh (Nat.le_succ _))⟩
theorem cr_sortTK {K : PySem.W.Frag} (hK : X.K = K := by rfl) : CallR X (.builtin "sorted") (rSortT K) := hK ▸ cr_sortT
end
end W2

/-! K0: the text's defs, what the top leaves of them; small checks of webs. -/
namespace K0
open PySem PySem.Spec PyProof.Rows L2 W0 W1 W2

def topS (i : Nat) : Stmt := PySem.Challenge.pw_anymarks_k02_turned_inward_and_about.main.body.getD i (.Pass ⟨0, 0, 0, 0⟩)
abbrev s_is_number : Stmt := topS 1
abbrev n_is_number : List Str := ["value", "low", "high"]
abbrev p_is_number : List Str := ["value", "low", "high"]
theorem sc_is_number : FnScope n_is_number p_is_number (defScope s_is_number) := ⟨rfl, rfl, rfl, by decide +kernel, rfl, by decide +kernel, by decide +kernel⟩
abbrev s_is_tuple : Stmt := topS 2
abbrev n_is_tuple : List Str := ["value", "least", "most"]
abbrev p_is_tuple : List Str := ["value", "least", "most"]
theorem sc_is_tuple : FnScope n_is_tuple p_is_tuple (defScope s_is_tuple) := ⟨rfl, rfl, rfl, by decide +kernel, rfl, by decide +kernel, by decide +kernel⟩
abbrev s_is_ascending : Stmt := topS 3
abbrev n_is_ascending : List Str := ["things", "first", "second"]
abbrev p_is_ascending : List Str := ["things"]
theorem sc_is_ascending : FnScope n_is_ascending p_is_ascending (defScope s_is_ascending) := ⟨rfl, rfl, rfl, by decide +kernel, rfl, by decide +kernel, by decide +kernel⟩
abbrev s_need_web : Stmt := topS 15
abbrev n_need_web : List Str := ["web"]
abbrev p_need_web : List Str := ["web"]
theorem sc_need_web : FnScope n_need_web p_need_web (defScope s_need_web) := ⟨rfl, rfl, rfl, by decide +kernel, rfl, by decide +kernel, by decide +kernel⟩
abbrev s__is_web : Stmt := topS 16
abbrev n__is_web : List Str := ["value", "size", "arrows", "arrow"]
abbrev p__is_web : List Str := ["value"]
theorem sc__is_web : FnScope n__is_web p__is_web (defScope s__is_web) := ⟨rfl, rfl, rfl, by decide +kernel, rfl, by decide +kernel, by decide +kernel⟩
abbrev s__is_arrow : Stmt := topS 17
abbrev n__is_arrow : List Str := ["value", "size", "kind", "start", "end"]
abbrev p__is_arrow : List Str := ["value", "size"]
theorem sc__is_arrow : FnScope n__is_arrow p__is_arrow (defScope s__is_arrow) := ⟨rfl, rfl, rfl, by decide +kernel, rfl, by decide +kernel, by decide +kernel⟩
abbrev s_turned_way : Stmt := topS 18
abbrev n_turned_way : List Str := ["way"]
abbrev p_turned_way : List Str := ["way"]
theorem sc_turned_way : FnScope n_turned_way p_turned_way (defScope s_turned_way) := ⟨rfl, rfl, rfl, by decide +kernel, rfl, by decide +kernel, by decide +kernel⟩
abbrev s_are_worlds : Stmt := topS 19
abbrev n_are_worlds : List Str := ["web", "value", "size", "world"]
abbrev p_are_worlds : List Str := ["web", "value"]
theorem sc_are_worlds : FnScope n_are_worlds p_are_worlds (defScope s_are_worlds) := ⟨rfl, rfl, rfl, by decide +kernel, rfl, by decide +kernel, by decide +kernel⟩
abbrev s_leads_of : Stmt := topS 20
abbrev n_leads_of : List Str := ["web", "size", "arrows", "leads", "kind", "start", "end", "way", "_"]
abbrev p_leads_of : List Str := ["web"]
theorem sc_leads_of : FnScope n_leads_of p_leads_of (defScope s_leads_of) := ⟨rfl, rfl, rfl, by decide +kernel, rfl, by decide +kernel, by decide +kernel⟩
abbrev s_Walk___init__ : Stmt := inClass (topS 23) 0
abbrev n_Walk___init__ : List Str := ["self", "letters", "denying", "most_deep", "most_words"]
abbrev p_Walk___init__ : List Str := ["self", "letters", "denying", "most_deep", "most_words"]
theorem sc_Walk___init__ : FnScope n_Walk___init__ p_Walk___init__ (defScope s_Walk___init__) := ⟨rfl, rfl, rfl, by decide +kernel, rfl, by decide +kernel, by decide +kernel⟩
abbrev s_Walk_wrong_path : Stmt := inClass (topS 23) 1
abbrev n_Walk_wrong_path : List Str := ["self", "value", "heres", "numbers", "met"]
abbrev p_Walk_wrong_path : List Str := ["self", "value", "heres"]
theorem sc_Walk_wrong_path : FnScope n_Walk_wrong_path p_Walk_wrong_path (defScope s_Walk_wrong_path) := ⟨rfl, rfl, rfl, by decide +kernel, rfl, by decide +kernel, by decide +kernel⟩
abbrev s_Walk__met_if_right : Stmt := inClass (topS 23) 2
abbrev n_Walk__met_if_right : List Str := ["self", "value", "numbers", "met", "deep", "level"]
abbrev p_Walk__met_if_right : List Str := ["self", "value", "numbers"]
theorem sc_Walk__met_if_right : FnScope n_Walk__met_if_right p_Walk__met_if_right (defScope s_Walk__met_if_right) := ⟨rfl, rfl, rfl, by decide +kernel, rfl, by decide +kernel, by decide +kernel⟩
abbrev s_Walk__first_wrong : Stmt := inClass (topS 23) 3
abbrev n_Walk__first_wrong : List Str := ["self", "value", "numbers", "waiting", "path", "thing", "parts", "first", "further", "index", "part"]
abbrev p_Walk__first_wrong : List Str := ["self", "value", "numbers"]
theorem sc_Walk__first_wrong : FnScope n_Walk__first_wrong p_Walk__first_wrong (defScope s_Walk__first_wrong) := ⟨rfl, rfl, rfl, by decide +kernel, rfl, by decide +kernel, by decide +kernel⟩
abbrev s__parts_if_right : Stmt := topS 24
abbrev n__parts_if_right : List Str := ["things", "numbers", "denying", "parts", "thing", "word", "many"]
abbrev p__parts_if_right : List Str := ["things", "numbers", "denying"]
theorem sc__parts_if_right : FnScope n__parts_if_right p__parts_if_right (defScope s__parts_if_right) := ⟨rfl, rfl, rfl, by decide +kernel, rfl, by decide +kernel, by decide +kernel⟩
abbrev s_levels_of : Stmt := topS 25
abbrev n_levels_of : List Str := ["saying", "levels", "level", "word", "part"]
abbrev p_levels_of : List Str := ["saying"]
theorem sc_levels_of : FnScope n_levels_of p_levels_of (defScope s_levels_of) := ⟨rfl, rfl, rfl, by decide +kernel, rfl, by decide +kernel, by decide +kernel⟩
abbrev s_words_of : Stmt := topS 26
abbrev n_words_of : List Str := ["saying", "level", "word"]
abbrev p_words_of : List Str := ["saying"]
theorem sc_words_of : FnScope n_words_of p_words_of (defScope s_words_of) := ⟨rfl, rfl, rfl, by decide +kernel, rfl, by decide +kernel, by decide +kernel⟩
abbrev s_need_saying : Stmt := topS 30
abbrev n_need_saying : List Str := ["saying", "path"]
abbrev p_need_saying : List Str := ["saying"]
theorem sc_need_saying : FnScope n_need_saying p_need_saying (defScope s_need_saying) := ⟨rfl, rfl, rfl, by decide +kernel, rfl, by decide +kernel, by decide +kernel⟩
abbrev s_need_marking : Stmt := topS 31
abbrev n_need_marking : List Str := ["web", "marking", "item"]
abbrev p_need_marking : List Str := ["web", "marking"]
theorem sc_need_marking : FnScope n_need_marking p_need_marking (defScope s_need_marking) := ⟨rfl, rfl, rfl, by decide +kernel, rfl, by decide +kernel, by decide +kernel⟩
abbrev s_Cases___init__ : Stmt := inClass (topS 32) 0
abbrev n_Cases___init__ : List Str := ["self", "leads", "marks", "heres", "full"]
abbrev p_Cases___init__ : List Str := ["self", "leads", "marks", "heres", "full"]
theorem sc_Cases___init__ : FnScope n_Cases___init__ p_Cases___init__ (defScope s_Cases___init__) := ⟨rfl, rfl, rfl, by decide +kernel, rfl, by decide +kernel, by decide +kernel⟩
abbrev s_Cases_answers : Stmt := inClass (topS 32) 1
abbrev n_Cases_answers : List Str := ["self", "saying", "word", "first", "second", "here", "other"]
abbrev p_Cases_answers : List Str := ["self", "saying"]
theorem sc_Cases_answers : FnScope n_Cases_answers p_Cases_answers (defScope s_Cases_answers) := ⟨rfl, rfl, rfl, by decide +kernel, rfl, by decide +kernel, by decide +kernel⟩
abbrev s__everywhere : Stmt := topS 33
abbrev n__everywhere : List Str := ["full", "rows", "inner", "told", "row", "found", "there"]
abbrev p__everywhere : List Str := ["full", "rows", "inner"]
theorem sc__everywhere : FnScope n__everywhere p__everywhere (defScope s__everywhere) := ⟨rfl, rfl, rfl, by decide +kernel, rfl, by decide +kernel, by decide +kernel⟩
abbrev s_somewhere : Stmt := topS 34
abbrev n_somewhere : List Str := ["rows", "inner", "told", "row", "found", "there"]
abbrev p_somewhere : List Str := ["rows", "inner"]
theorem sc_somewhere : FnScope n_somewhere p_somewhere (defScope s_somewhere) := ⟨rfl, rfl, rfl, by decide +kernel, rfl, by decide +kernel, by decide +kernel⟩
abbrev s_marked_where : Stmt := topS 35
abbrev n_marked_where : List Str := ["web", "worlds", "marks", "world"]
abbrev p_marked_where : List Str := ["web", "worlds"]
theorem sc_marked_where : FnScope n_marked_where p_marked_where (defScope s_marked_where) := ⟨rfl, rfl, rfl, by decide +kernel, rfl, by decide +kernel, by decide +kernel⟩
abbrev s_worlds_where : Stmt := topS 36
abbrev n_worlds_where : List Str := ["answers", "world", "answer"]
abbrev p_worlds_where : List Str := ["answers"]
theorem sc_worlds_where : FnScope n_worlds_where p_worlds_where (defScope s_worlds_where) := ⟨rfl, rfl, rfl, by decide +kernel, rfl, by decide +kernel, by decide +kernel⟩
abbrev s_holding : Stmt := topS 37
abbrev n_holding : List Str := ["web", "marking", "saying"]
abbrev p_holding : List Str := ["web", "marking", "saying"]
theorem sc_holding : FnScope n_holding p_holding (defScope s_holding) := ⟨rfl, rfl, rfl, by decide +kernel, rfl, by decide +kernel, by decide +kernel⟩
abbrev s__answers : Stmt := topS 38
abbrev n__answers : List Str := ["web", "marking", "saying"]
abbrev p__answers : List Str := ["web", "marking", "saying"]
theorem sc__answers : FnScope n__answers p__answers (defScope s__answers) := ⟨rfl, rfl, rfl, by decide +kernel, rfl, by decide +kernel, by decide +kernel⟩
abbrev s_marks_of : Stmt := topS 39
abbrev n_marks_of : List Str := ["web", "marking", "beyond", "worlds"]
abbrev p_marks_of : List Str := ["web", "marking"]
theorem sc_marks_of : FnScope n_marks_of p_marks_of (defScope s_marks_of) := ⟨rfl, rfl, rfl, by decide +kernel, rfl, by decide +kernel, by decide +kernel⟩
abbrev s_inward : Stmt := topS 42
abbrev n_inward : List Str := ["saying"]
abbrev p_inward : List Str := ["saying"]
theorem sc_inward : FnScope n_inward p_inward (defScope s_inward) := ⟨rfl, rfl, rfl, by decide +kernel, rfl, by decide +kernel, by decide +kernel⟩
abbrev s_turned_about : Stmt := topS 43
abbrev n_turned_about : List Str := ["saying"]
abbrev p_turned_about : List Str := ["saying"]
theorem sc_turned_about : FnScope n_turned_about p_turned_about (defScope s_turned_about) := ⟨rfl, rfl, rfl, by decide +kernel, rfl, by decide +kernel, by decide +kernel⟩
abbrev s_turned : Stmt := topS 44
abbrev n_turned : List Str := ["saying", "beneath"]
abbrev p_turned : List Str := ["saying", "beneath"]
theorem sc_turned : FnScope n_turned p_turned (defScope s_turned) := ⟨rfl, rfl, rfl, by decide +kernel, rfl, by decide +kernel, by decide +kernel⟩
abbrev s_judged : Stmt := topS 45
abbrev n_judged : List Str := ["saying", "beneath", "word", "second", "first", "outer", "inner"]
abbrev p_judged : List Str := ["saying", "beneath"]
theorem sc_judged : FnScope n_judged p_judged (defScope s_judged) := ⟨rfl, rfl, rfl, by decide +kernel, rfl, by decide +kernel, by decide +kernel⟩
abbrev s_is_positive : Stmt := topS 46
abbrev n_is_positive : List Str := ["saying", "word"]
abbrev p_is_positive : List Str := ["saying"]
theorem sc_is_positive : FnScope n_is_positive p_is_positive (defScope s_is_positive) := ⟨rfl, rfl, rfl, by decide +kernel, rfl, by decide +kernel, by decide +kernel⟩
abbrev s_is_negative : Stmt := topS 47
abbrev n_is_negative : List Str := ["saying"]
abbrev p_is_negative : List Str := ["saying"]
theorem sc_is_negative : FnScope n_is_negative p_is_negative (defScope s_is_negative) := ⟨rfl, rfl, rfl, by decide +kernel, rfl, by decide +kernel, by decide +kernel⟩
abbrev s__law_mixed : Stmt := topS 49
abbrev n__law_mixed : List Str := ["cell", "k"]
abbrev p__law_mixed : List Str := ["cell", "k"]
theorem sc__law_mixed : FnScope n__law_mixed p__law_mixed (defScope s__law_mixed) := ⟨rfl, rfl, rfl, by decide +kernel, rfl, by decide +kernel, by decide +kernel⟩
abbrev s__law_begin : Stmt := topS 50
abbrev n__law_begin : List Str := ["script", "cells_so", "cell"]
abbrev p__law_begin : List Str := ["script"]
theorem sc__law_begin : FnScope n__law_begin p__law_begin (defScope s__law_begin) := ⟨rfl, rfl, rfl, by decide +kernel, rfl, by decide +kernel, by decide +kernel⟩
abbrev s__law_draw : Stmt := topS 51
abbrev n__law_draw : List Str := ["state", "limit", "at", "spot", "left", "mixed"]
abbrev p__law_draw : List Str := ["state", "limit"]
theorem sc__law_draw : FnScope n__law_draw p__law_draw (defScope s__law_draw) := ⟨rfl, rfl, rfl, by decide +kernel, rfl, by decide +kernel, by decide +kernel⟩
abbrev s__law_web : Stmt := topS 52
abbrev n__law_web : List Str := ["state", "most", "sorts", "size", "found", "sort", "here", "there"]
abbrev p__law_web : List Str := ["state", "most", "sorts"]
theorem sc__law_web : FnScope n__law_web p__law_web (defScope s__law_web) := ⟨rfl, rfl, rfl, by decide +kernel, rfl, by decide +kernel, by decide +kernel⟩
abbrev s__law_saying : Stmt := topS 53
abbrev n__law_saying : List Str := ["state", "deep", "names", "pick", "head", "toward", "near"]
abbrev p__law_saying : List Str := ["state", "deep", "names"]
theorem sc__law_saying : FnScope n__law_saying p__law_saying (defScope s__law_saying) := ⟨rfl, rfl, rfl, by decide +kernel, rfl, by decide +kernel, by decide +kernel⟩
abbrev s__law_bent : Stmt := topS 54
abbrev n__law_bent : List Str := ["told", "about", "head", "pair"]
abbrev p__law_bent : List Str := ["told", "about"]
theorem sc__law_bent : FnScope n__law_bent p__law_bent (defScope s__law_bent) := ⟨rfl, rfl, rfl, by decide +kernel, rfl, by decide +kernel, by decide +kernel⟩
abbrev s__law_signs : Stmt := topS 55
abbrev n__law_signs : List Str := ["told", "head", "found", "more"]
abbrev p__law_signs : List Str := ["told"]
theorem sc__law_signs : FnScope n__law_signs p__law_signs (defScope s__law_signs) := ⟨rfl, rfl, rfl, by decide +kernel, rfl, by decide +kernel, by decide +kernel⟩
abbrev s__law_rows_of : Stmt := topS 56
abbrev n__law_rows_of : List Str := ["size", "found", "spot", "row"]
abbrev p__law_rows_of : List Str := ["size"]
theorem sc__law_rows_of : FnScope n__law_rows_of p__law_rows_of (defScope s__law_rows_of) := ⟨rfl, rfl, rfl, by decide +kernel, rfl, by decide +kernel, by decide +kernel⟩
abbrev s__law_like : Stmt := topS 57
abbrev n__law_like : List Str := ["got", "due"]
abbrev p__law_like : List Str := ["got", "due"]
theorem sc__law_like : FnScope n__law_like p__law_like (defScope s__law_like) := ⟨rfl, rfl, rfl, by decide +kernel, rfl, by decide +kernel, by decide +kernel⟩
abbrev s__law_words_right : Stmt := topS 58
abbrev n__law_words_right : List Str := ["told", "due", "about", "signs"]
abbrev p__law_words_right : List Str := ["told", "due", "about"]
theorem sc__law_words_right : FnScope n__law_words_right p__law_words_right (defScope s__law_words_right) := ⟨rfl, rfl, rfl, by decide +kernel, rfl, by decide +kernel, by decide +kernel⟩
abbrev s__law_all_markings : Stmt := topS 59
abbrev n__law_all_markings : List Str := ["web_so", "told", "due", "about", "size", "signs", "whole", "rows", "table", "near", "far", "spot", "got", "more", "lost", "gained", "there"]
abbrev p__law_all_markings : List Str := ["web_so", "told", "due", "about"]
theorem sc__law_all_markings : FnScope n__law_all_markings p__law_all_markings (defScope s__law_all_markings) := ⟨rfl, rfl, rfl, by decide +kernel, rfl, by decide +kernel, by decide +kernel⟩
abbrev s_law : Stmt := topS 60
abbrev n_law : List Str := ["script", "state", "turn", "told", "back", "step", "got", "plain", "due", "about"]
abbrev p_law : List Str := ["script"]
theorem sc_law : FnScope n_law p_law (defScope s_law) := ⟨rfl, rfl, rfl, by decide +kernel, rfl, by decide +kernel, by decide +kernel⟩

set_option maxHeartbeats 0 in
structure Tops (K : PySem.W.Frag) (w : World) (mg : Str → Option Value) where
  a_is_number : Addr
  fd_is_number : FuncData
  F_is_number : Fun K "is_number" "is_number" s_is_number a_is_number fd_is_number
  b_is_number : Binds K fd_is_number p_is_number []
  g_is_number : mg "is_number" = some (.ref a_is_number)
  a_is_tuple : Addr
  fd_is_tuple : FuncData
  F_is_tuple : Fun K "is_tuple" "is_tuple" s_is_tuple a_is_tuple fd_is_tuple
  b_is_tuple : Binds K fd_is_tuple p_is_tuple []
  g_is_tuple : mg "is_tuple" = some (.ref a_is_tuple)
  a_is_ascending : Addr
  fd_is_ascending : FuncData
  F_is_ascending : Fun K "is_ascending" "is_ascending" s_is_ascending a_is_ascending fd_is_ascending
  b_is_ascending : Binds K fd_is_ascending p_is_ascending []
  g_is_ascending : mg "is_ascending" = some (.ref a_is_ascending)
  a_need_web : Addr
  fd_need_web : FuncData
  F_need_web : Fun K "need_web" "need_web" s_need_web a_need_web fd_need_web
  b_need_web : Binds K fd_need_web p_need_web []
  g_need_web : mg "need_web" = some (.ref a_need_web)
  a__is_web : Addr
  fd__is_web : FuncData
  F__is_web : Fun K "_is_web" "_is_web" s__is_web a__is_web fd__is_web
  b__is_web : Binds K fd__is_web p__is_web []
  g__is_web : mg "_is_web" = some (.ref a__is_web)
  a__is_arrow : Addr
  fd__is_arrow : FuncData
  F__is_arrow : Fun K "_is_arrow" "_is_arrow" s__is_arrow a__is_arrow fd__is_arrow
  b__is_arrow : Binds K fd__is_arrow p__is_arrow []
  g__is_arrow : mg "_is_arrow" = some (.ref a__is_arrow)
  a_turned_way : Addr
  fd_turned_way : FuncData
  F_turned_way : Fun K "turned_way" "turned_way" s_turned_way a_turned_way fd_turned_way
  b_turned_way : Binds K fd_turned_way p_turned_way []
  g_turned_way : mg "turned_way" = some (.ref a_turned_way)
  a_are_worlds : Addr
  fd_are_worlds : FuncData
  F_are_worlds : Fun K "are_worlds" "are_worlds" s_are_worlds a_are_worlds fd_are_worlds
  b_are_worlds : Binds K fd_are_worlds p_are_worlds []
  g_are_worlds : mg "are_worlds" = some (.ref a_are_worlds)
  a_leads_of : Addr
  fd_leads_of : FuncData
  F_leads_of : Fun K "leads_of" "leads_of" s_leads_of a_leads_of fd_leads_of
  b_leads_of : Binds K fd_leads_of p_leads_of []
  g_leads_of : mg "leads_of" = some (.ref a_leads_of)
  a_Walk___init__ : Addr
  fd_Walk___init__ : FuncData
  F_Walk___init__ : Fun K "__init__" "Walk.__init__" s_Walk___init__ a_Walk___init__ fd_Walk___init__
  b_Walk___init__ : Binds K fd_Walk___init__ p_Walk___init__ []
  a_Walk_wrong_path : Addr
  fd_Walk_wrong_path : FuncData
  F_Walk_wrong_path : Fun K "wrong_path" "Walk.wrong_path" s_Walk_wrong_path a_Walk_wrong_path fd_Walk_wrong_path
  b_Walk_wrong_path : Binds K fd_Walk_wrong_path p_Walk_wrong_path []
  a_Walk__met_if_right : Addr
  fd_Walk__met_if_right : FuncData
  F_Walk__met_if_right : Fun K "_met_if_right" "Walk._met_if_right" s_Walk__met_if_right a_Walk__met_if_right fd_Walk__met_if_right
  b_Walk__met_if_right : Binds K fd_Walk__met_if_right p_Walk__met_if_right []
  a_Walk__first_wrong : Addr
  fd_Walk__first_wrong : FuncData
  F_Walk__first_wrong : Fun K "_first_wrong" "Walk._first_wrong" s_Walk__first_wrong a_Walk__first_wrong fd_Walk__first_wrong
  b_Walk__first_wrong : Binds K fd_Walk__first_wrong p_Walk__first_wrong []
  a__parts_if_right : Addr
  fd__parts_if_right : FuncData
  F__parts_if_right : Fun K "_parts_if_right" "_parts_if_right" s__parts_if_right a__parts_if_right fd__parts_if_right
  b__parts_if_right : Binds K fd__parts_if_right p__parts_if_right []
  g__parts_if_right : mg "_parts_if_right" = some (.ref a__parts_if_right)
  a_levels_of : Addr
  fd_levels_of : FuncData
  F_levels_of : Fun K "levels_of" "levels_of" s_levels_of a_levels_of fd_levels_of
  b_levels_of : Binds K fd_levels_of p_levels_of []
  g_levels_of : mg "levels_of" = some (.ref a_levels_of)
  a_words_of : Addr
  fd_words_of : FuncData
  F_words_of : Fun K "words_of" "words_of" s_words_of a_words_of fd_words_of
  b_words_of : Binds K fd_words_of p_words_of []
  g_words_of : mg "words_of" = some (.ref a_words_of)
  a_need_saying : Addr
  fd_need_saying : FuncData
  F_need_saying : Fun K "need_saying" "need_saying" s_need_saying a_need_saying fd_need_saying
  b_need_saying : Binds K fd_need_saying p_need_saying []
  g_need_saying : mg "need_saying" = some (.ref a_need_saying)
  a_need_marking : Addr
  fd_need_marking : FuncData
  F_need_marking : Fun K "need_marking" "need_marking" s_need_marking a_need_marking fd_need_marking
  b_need_marking : Binds K fd_need_marking p_need_marking []
  g_need_marking : mg "need_marking" = some (.ref a_need_marking)
  a_Cases___init__ : Addr
  fd_Cases___init__ : FuncData
  F_Cases___init__ : Fun K "__init__" "Cases.__init__" s_Cases___init__ a_Cases___init__ fd_Cases___init__
  b_Cases___init__ : Binds K fd_Cases___init__ p_Cases___init__ []
  a_Cases_answers : Addr
  fd_Cases_answers : FuncData
  F_Cases_answers : Fun K "answers" "Cases.answers" s_Cases_answers a_Cases_answers fd_Cases_answers
  b_Cases_answers : Binds K fd_Cases_answers p_Cases_answers []
  a__everywhere : Addr
  fd__everywhere : FuncData
  F__everywhere : Fun K "_everywhere" "_everywhere" s__everywhere a__everywhere fd__everywhere
  b__everywhere : Binds K fd__everywhere p__everywhere []
  g__everywhere : mg "_everywhere" = some (.ref a__everywhere)
  a_somewhere : Addr
  fd_somewhere : FuncData
  F_somewhere : Fun K "somewhere" "somewhere" s_somewhere a_somewhere fd_somewhere
  b_somewhere : Binds K fd_somewhere p_somewhere []
  g_somewhere : mg "somewhere" = some (.ref a_somewhere)
  a_marked_where : Addr
  fd_marked_where : FuncData
  F_marked_where : Fun K "marked_where" "marked_where" s_marked_where a_marked_where fd_marked_where
  b_marked_where : Binds K fd_marked_where p_marked_where []
  g_marked_where : mg "marked_where" = some (.ref a_marked_where)
  a_worlds_where : Addr
  fd_worlds_where : FuncData
  F_worlds_where : Fun K "worlds_where" "worlds_where" s_worlds_where a_worlds_where fd_worlds_where
  b_worlds_where : Binds K fd_worlds_where p_worlds_where []
  g_worlds_where : mg "worlds_where" = some (.ref a_worlds_where)
  a_holding : Addr
  fd_holding : FuncData
  F_holding : Fun K "holding" "holding" s_holding a_holding fd_holding
  b_holding : Binds K fd_holding p_holding []
  g_holding : mg "holding" = some (.ref a_holding)
  a__answers : Addr
  fd__answers : FuncData
  F__answers : Fun K "_answers" "_answers" s__answers a__answers fd__answers
  b__answers : Binds K fd__answers p__answers []
  g__answers : mg "_answers" = some (.ref a__answers)
  a_marks_of : Addr
  fd_marks_of : FuncData
  F_marks_of : Fun K "marks_of" "marks_of" s_marks_of a_marks_of fd_marks_of
  b_marks_of : Binds K fd_marks_of p_marks_of []
  g_marks_of : mg "marks_of" = some (.ref a_marks_of)
  a_inward : Addr
  fd_inward : FuncData
  F_inward : Fun K "inward" "inward" s_inward a_inward fd_inward
  b_inward : Binds K fd_inward p_inward []
  g_inward : mg "inward" = some (.ref a_inward)
  a_turned_about : Addr
  fd_turned_about : FuncData
  F_turned_about : Fun K "turned_about" "turned_about" s_turned_about a_turned_about fd_turned_about
  b_turned_about : Binds K fd_turned_about p_turned_about []
  g_turned_about : mg "turned_about" = some (.ref a_turned_about)
  a_turned : Addr
  fd_turned : FuncData
  F_turned : Fun K "turned" "turned" s_turned a_turned fd_turned
  b_turned : Binds K fd_turned p_turned []
  g_turned : mg "turned" = some (.ref a_turned)
  a_judged : Addr
  fd_judged : FuncData
  F_judged : Fun K "judged" "judged" s_judged a_judged fd_judged
  b_judged : Binds K fd_judged p_judged []
  g_judged : mg "judged" = some (.ref a_judged)
  a_is_positive : Addr
  fd_is_positive : FuncData
  F_is_positive : Fun K "is_positive" "is_positive" s_is_positive a_is_positive fd_is_positive
  b_is_positive : Binds K fd_is_positive p_is_positive []
  g_is_positive : mg "is_positive" = some (.ref a_is_positive)
  a_is_negative : Addr
  fd_is_negative : FuncData
  F_is_negative : Fun K "is_negative" "is_negative" s_is_negative a_is_negative fd_is_negative
  b_is_negative : Binds K fd_is_negative p_is_negative []
  g_is_negative : mg "is_negative" = some (.ref a_is_negative)
  a__law_mixed : Addr
  fd__law_mixed : FuncData
  F__law_mixed : Fun K "_law_mixed" "_law_mixed" s__law_mixed a__law_mixed fd__law_mixed
  b__law_mixed : Binds K fd__law_mixed p__law_mixed []
  g__law_mixed : mg "_law_mixed" = some (.ref a__law_mixed)
  a__law_begin : Addr
  fd__law_begin : FuncData
  F__law_begin : Fun K "_law_begin" "_law_begin" s__law_begin a__law_begin fd__law_begin
  b__law_begin : Binds K fd__law_begin p__law_begin []
  g__law_begin : mg "_law_begin" = some (.ref a__law_begin)
  a__law_draw : Addr
  fd__law_draw : FuncData
  F__law_draw : Fun K "_law_draw" "_law_draw" s__law_draw a__law_draw fd__law_draw
  b__law_draw : Binds K fd__law_draw p__law_draw []
  g__law_draw : mg "_law_draw" = some (.ref a__law_draw)
  a__law_web : Addr
  fd__law_web : FuncData
  F__law_web : Fun K "_law_web" "_law_web" s__law_web a__law_web fd__law_web
  b__law_web : Binds K fd__law_web p__law_web []
  g__law_web : mg "_law_web" = some (.ref a__law_web)
  a__law_saying : Addr
  fd__law_saying : FuncData
  F__law_saying : Fun K "_law_saying" "_law_saying" s__law_saying a__law_saying fd__law_saying
  b__law_saying : Binds K fd__law_saying p__law_saying []
  g__law_saying : mg "_law_saying" = some (.ref a__law_saying)
  a__law_bent : Addr
  fd__law_bent : FuncData
  F__law_bent : Fun K "_law_bent" "_law_bent" s__law_bent a__law_bent fd__law_bent
  b__law_bent : Binds K fd__law_bent p__law_bent []
  g__law_bent : mg "_law_bent" = some (.ref a__law_bent)
  a__law_signs : Addr
  fd__law_signs : FuncData
  F__law_signs : Fun K "_law_signs" "_law_signs" s__law_signs a__law_signs fd__law_signs
  b__law_signs : Binds K fd__law_signs p__law_signs []
  g__law_signs : mg "_law_signs" = some (.ref a__law_signs)
  a__law_rows_of : Addr
  fd__law_rows_of : FuncData
  F__law_rows_of : Fun K "_law_rows_of" "_law_rows_of" s__law_rows_of a__law_rows_of fd__law_rows_of
  b__law_rows_of : Binds K fd__law_rows_of p__law_rows_of []
  g__law_rows_of : mg "_law_rows_of" = some (.ref a__law_rows_of)
  a__law_like : Addr
  fd__law_like : FuncData
  F__law_like : Fun K "_law_like" "_law_like" s__law_like a__law_like fd__law_like
  b__law_like : Binds K fd__law_like p__law_like []
  g__law_like : mg "_law_like" = some (.ref a__law_like)
  a__law_words_right : Addr
  fd__law_words_right : FuncData
  F__law_words_right : Fun K "_law_words_right" "_law_words_right" s__law_words_right a__law_words_right fd__law_words_right
  b__law_words_right : Binds K fd__law_words_right p__law_words_right []
  g__law_words_right : mg "_law_words_right" = some (.ref a__law_words_right)
  a__law_all_markings : Addr
  fd__law_all_markings : FuncData
  F__law_all_markings : Fun K "_law_all_markings" "_law_all_markings" s__law_all_markings a__law_all_markings fd__law_all_markings
  b__law_all_markings : Binds K fd__law_all_markings p__law_all_markings []
  g__law_all_markings : mg "_law_all_markings" = some (.ref a__law_all_markings)
  a_law : Addr
  fd_law : FuncData
  F_law : Fun K "law" "law" s_law a_law fd_law
  b_law : Binds K fd_law p_law []
  g_law : mg "law" = some (.ref a_law)
  C_Walk : Addr
  c_Walk : mg "Walk" = some (.ref C_Walk)
  cl_Walk : Cls K C_Walk
  mk_Walk : Mk K C_Walk a_Walk___init__
  me_Walk_wrong_path : Meth K C_Walk "wrong_path" a_Walk_wrong_path
  me_Walk__met_if_right : Meth K C_Walk "_met_if_right" a_Walk__met_if_right
  me_Walk__first_wrong : Meth K C_Walk "_first_wrong" a_Walk__first_wrong
  na_Walk_letters : NoAttr K C_Walk "letters"
  na_Walk_denying : NoAttr K C_Walk "denying"
  na_Walk_most_deep : NoAttr K C_Walk "most_deep"
  na_Walk_most_words : NoAttr K C_Walk "most_words"
  na_Walk_met : NoAttr K C_Walk "met"
  C_Cases : Addr
  c_Cases : mg "Cases" = some (.ref C_Cases)
  cl_Cases : Cls K C_Cases
  mk_Cases : Mk K C_Cases a_Cases___init__
  me_Cases_answers : Meth K C_Cases "answers" a_Cases_answers
  na_Cases_leads : NoAttr K C_Cases "leads"
  na_Cases_marks : NoAttr K C_Cases "marks"
  na_Cases_heres : NoAttr K C_Cases "heres"
  na_Cases_full : NoAttr K C_Cases "full"
  m_all : mg "all" = none
  m_enumerate : mg "enumerate" = none
  m_int : mg "int" = none
  m_len : mg "len" = none
  m_list : mg "list" = none
  m_range : mg "range" = none
  m_repr : mg "repr" = none
  m_set : mg "set" = none
  m_sorted : mg "sorted" = none
  m_str : mg "str" = none
  m_tuple : mg "tuple" = none
  m_type : mg "type" = none
  m_zip : mg "zip" = none
  t_MOST_WORLDS : Tok
  c_MOST_WORLDS : mg "MOST_WORLDS" = some (.int (200) t_MOST_WORLDS)
  t_MOST_ARROWS : Tok
  c_MOST_ARROWS : mg "MOST_ARROWS" = some (.int (1000) t_MOST_ARROWS)
  t_LAST_KIND : Tok
  c_LAST_KIND : mg "LAST_KIND" = some (.int (2) t_LAST_KIND)
  t_FIRST_WAY : Tok
  c_FIRST_WAY : mg "FIRST_WAY" = some (.int (-3) t_FIRST_WAY)
  t_LETTERS : Tok
  c_LETTERS : mg "LETTERS" = some (.int (8) t_LETTERS)
  t_MOST_WORDS : Tok
  c_MOST_WORDS : mg "MOST_WORDS" = some (.int (400) t_MOST_WORDS)
  t_MOST_DEEP : Tok
  c_MOST_DEEP : mg "MOST_DEEP" = some (.int (40) t_MOST_DEEP)
  t_TURNED : Addr
  e_TURNED : Array DictEntry
  n_TURNED : Nat
  c_TURNED : mg "TURNED" = some (.ref t_TURNED)
  D_TURNED : KDict K w t_TURNED e_TURNED n_TURNED
  q_TURNED_yes : ∃ z, PySem.W.nsIn K t_TURNED "yes" = some (some (.str "no" z))
  q_TURNED_no : ∃ z, PySem.W.nsIn K t_TURNED "no" = some (some (.str "yes" z))
  q_TURNED_and : ∃ z, PySem.W.nsIn K t_TURNED "and" = some (some (.str "or" z))
  q_TURNED_or : ∃ z, PySem.W.nsIn K t_TURNED "or" = some (some (.str "and" z))
  q_TURNED_each : ∃ z, PySem.W.nsIn K t_TURNED "each" = some (some (.str "some" z))
  q_TURNED_some : ∃ z, PySem.W.nsIn K t_TURNED "some" = some (some (.str "each" z))

/-! ### the data -/
abbrev T3 := Int × Int × Int
def tri (t : T3) : List Int := [t.1, t.2.1, t.2.2]
def dTri (t : T3) : PyData := .tuple ((tri t).map PyData.int)
def dArr (A : List T3) : PyData := .tuple (A.map dTri)
def dWeb (n : Int) (A : List T3) : PyData := .tuple [.int n, dArr A]
def dInts (l : List Int) : PyData := .tuple (l.map PyData.int)
structure InW (n : Int) (t : T3) : Prop where
  k0 : 0 ≤ t.1
  k2 : t.1 ≤ 2
  f0 : 0 ≤ t.2.1
  fn : t.2.1 < n
  e0 : 0 ≤ t.2.2
  en : t.2.2 < n
def lt3 (s t : T3) : Prop := HT.lexLt (tri s) (tri t) = true
structure WOk (n : Int) (A : List T3) : Prop where
  n1 : 1 ≤ n
  n2 : n ≤ 200
  len : A.length ≤ 1000
  all : ∀ t ∈ A, InW n t
  asc : A.Pairwise lt3
theorem dp_tri {K : PySem.W.Frag} {H : Hp} {v : V} {t : T3} (h : Dp K H v (dTri t)) : ∃ a, v = .ref a ∧ SqT K H a ((tri t).map V.int) := by
  obtain ⟨a, xs, e, hs, hd⟩ := dp_tup h
  rw [dps_ints_inv hd] at hs
  exact ⟨a, e, hs⟩
theorem dp_ints {K : PySem.W.Frag} {H : Hp} {v : V} {l : List Int} (h : Dp K H v (dInts l)) : ∃ a, v = .ref a ∧ SqT K H a (l.map V.int) := by
  obtain ⟨a, xs, e, hs, hd⟩ := dp_tup h
  rw [dps_ints_inv hd] at hs
  exact ⟨a, e, hs⟩
theorem dp_of_ints {K : PySem.W.Frag} {H : Hp} {a : Addr} {l : List Int} (h : SqT K H a (l.map V.int)) : Dp K H (.ref a) (dInts l) := .tup h (dps_ints l)
theorem dp_web {K : PySem.W.Frag} {H : Hp} {v : V} {n : Int} {A : List T3} (h : Dp K H v (dWeb n A)) : ∃ a b xs, v = .ref a ∧ SqT K H a [.int n, .ref b] ∧ SqT K H b xs ∧ DpAll K H xs (A.map dTri) := by
  obtain ⟨a, xs, e, hs, hd⟩ := dp_tup h
  cases hd with
  | cons h1 h2 =>
    cases h2 with
    | cons h2 h3 =>
      cases h3
      obtain ⟨b, ys, e2, hs2, hd2⟩ := dp_tup h2
      rw [dp_int h1, e2] at hs
      exact ⟨a, b, ys, e, hs, hs2, hd2⟩
theorem get_tri {K : PySem.W.Frag} {H : Hp} {xs : List V} {A : List T3} {i : Nat} {x : V} (h : DpAll K H xs (A.map dTri)) (hx : xs[i]? = some x) : ∃ t, A[i]? = some t ∧ t ∈ A ∧ Dp K H x (dTri t) := by
  have hl := dps_len h
  rw [List.length_map] at hl
  have hi : i < A.length := by
    have := (List.getElem?_eq_some_iff.mp hx).1
    omega
  have e : A[i]? = some A[i] := List.getElem?_eq_getElem hi
  obtain ⟨y, hy, hd⟩ := dps_get (i := i) (d := dTri A[i]) h (by rw [List.getElem?_map, e]; rfl)
  rw [hx] at hy
  cases hy
  exact ⟨A[i], e, List.getElem_mem hi, hd⟩

section
variable {P : Program} {w : World} {K : PySem.W.Frag} {mg : Str → Option Value} {base : Heap}

/-! ### is_number, is_tuple -/
def sp_is_number : Sp := fun vs H Q _ => ∃ i lo hi : Int, vs = [.int i, .int lo, .int hi] ∧ Q (.bl (decide (lo ≤ i) && decide (i ≤ hi))) H
theorem ok_is_number (T : Tops K w mg) : FnOk P w K mg base CX0 1 T.a_is_number T.fd_is_number p_is_number sp_is_number := by
  have S := sc_is_number
  refine T.F_is_number.ok S (fun vs H Q E h => ?_) (fun cdv A outer s H vs Q E hr h => ?_)
  · obtain ⟨i, lo, hi, rfl, _⟩ := h
    rfl
  · obtain ⟨i, lo, hi, rfl, q⟩ := h
    refine ⟨_, (pss_one (ps_ret (pe_and (pe_cmpR op_isTyB (pe_callTy call_typeS (by rfl) T.m_type (by decide +kernel) (pa_cons (pv 0) pa_nil)) (pe_bltn (v := .ty "int") (by rfl) T.m_int (by decide +kernel) rfl) (nomark _)) (pe_one (pe_chain op_le op_le (pv 1) (pv 0) (pv 2)))))), ?_⟩
    refine ⟨.int i, rfl, .int i, "int", rfl, .int i, "int", "int", rfl, rfl, _, rfl, ?_⟩
    rw [decide_eq_true (rfl : ("int" : String) = "int")]
    refine iteT ⟨.int lo, rfl, .int i, rfl, lo, i, rfl, rfl, _, rfl, ?_⟩
    by_cases h1 : lo ≤ i
    · rw [decide_eq_true h1]
      refine iteT ⟨.int hi, rfl, i, hi, rfl, rfl, ?_⟩
      rw [decide_eq_true h1] at q
      exact q
    · rw [decide_eq_false h1]
      rw [decide_eq_false h1] at q
      exact iteF q
def sp_is_tuple (K : PySem.W.Frag) : Sp := fun vs H Q _ => ∃ (a : Addr) (xs : List V) (lo hi : Int), vs = [.ref a, .int lo, .int hi] ∧ SqT K H a xs ∧ Q (.bl (decide (lo ≤ (xs.length : Int)) && decide ((xs.length : Int) ≤ hi))) H
theorem ok_is_tuple (T : Tops K w mg) : FnOk P w K mg base CX0 1 T.a_is_tuple T.fd_is_tuple p_is_tuple (sp_is_tuple K) := by
  have S := sc_is_tuple
  refine T.F_is_tuple.ok S (fun vs H Q E h => ?_) (fun cdv A outer s H vs Q E hr h => ?_)
  · obtain ⟨a, xs, lo, hi, rfl, _⟩ := h
    rfl
  · obtain ⟨a, xs, lo, hi, rfl, hs, q⟩ := h
    refine ⟨_, (pss_one (ps_ret (pe_and (pe_cmpR op_isTyB (pe_callTy call_typeS (by rfl) T.m_type (by decide +kernel) (pa_cons (pv 0) pa_nil)) (pe_bltn (v := .ty "tuple") (by rfl) T.m_tuple (by decide +kernel) rfl) (nomark _)) (pe_one (pe_chain op_le op_le (pv 1) (pe_callB call_len_seq (by rfl) T.m_len (by decide +kernel) (pa_cons (pv 0) pa_nil)) (pv 2)))))), ?_⟩
    refine ⟨.ref a, rfl, .ref a, "tuple", rfl, .tup hs, "tuple", "tuple", rfl, rfl, _, rfl, ?_⟩
    rw [decide_eq_true (rfl : ("tuple" : String) = "tuple")]
    refine iteT ⟨.int lo, rfl, .ref a, rfl, a, xs, rfl, .inr hs, lo, xs.length, rfl, rfl, _, rfl, ?_⟩
    by_cases h1 : lo ≤ (xs.length : Int)
    · rw [decide_eq_true h1]
      refine iteT ⟨.int hi, rfl, xs.length, hi, rfl, rfl, ?_⟩
      rw [decide_eq_true h1] at q
      exact q
    · rw [decide_eq_false h1]
      rw [decide_eq_false h1] at q
      exact iteF q
end
end K0

namespace K0
open PySem PySem.Spec PyProof.Rows L2 W0 W1 W2
theorem all_true (n : Nat) : (List.replicate n true).all id = true := by
  induction n with
  | zero => rfl
  | succ n ih => rw [List.replicate_succ, List.all_cons, ih]; rfl
theorem rep_snoc (n : Nat) (x : V) : List.replicate n x ++ [x] = List.replicate (n + 1) x := by
  rw [List.replicate_succ']
theorem rep_bl (n : Nat) : List.replicate n (V.bl true) = (List.replicate n true).map V.bl := by rw [List.map_replicate]
theorem same_upd_new {H H1 : Hp} {D : Addr} {o : HO} (e : Same H H1) (h : H D = none) : Same H (upd H1 D o) := fun b x z => by
  rw [upd_ne (ne_of_none z h)]
  exact e b x z
theorem small {n m : Nat} (h : n ≤ m) (hm : m < 16777216 := by decide) : n < sizeLine := by
  rw [sizeLine_eq]
  omega
section
variable {P : Program} {w : World} {K : PySem.W.Frag} {mg : Str → Option Value} {base : Heap}
def sp_are_numbers (K : PySem.W.Frag) : Sp := fun vs H Q _ => ∃ (a : Addr) (ns : List Int) (m : Nat) (lo hi : Int), vs = [.ref a, .int m, .int lo, .int hi] ∧ SqT K H a (ns.map V.int) ∧ ns.length = m ∧ m ≤ 1000 ∧ (∀ x ∈ ns, lo ≤ x ∧ x ≤ hi) ∧ ∀ H', Same H H' → Q (.bl true) H'
def sp_is_ascending (K : PySem.W.Frag) : Sp := fun vs H Q _ => ∃ (a : Addr) (xs : List V) (A : List T3), vs = [.ref a] ∧ SqT K H a xs ∧ DpAll K H xs (A.map dTri) ∧ A.Pairwise lt3 ∧ A.length ≤ 1000 ∧ ∀ H', Same H H' → Q (.bl true) H'
theorem cutT (xs : List V) : cutV xs (some 1) none = xs.drop 1 := by
  unfold cutV
  rw [show HT.sIx xs.length 0 (some 1) = min 1 xs.length from HT.sIx_nat xs.length 0 1, HT.sIx_none]
  cases xs with
  | nil => rfl
  | cons x r =>
    have e : min 1 (x :: r).length = 1 := by
      rw [List.length_cons]
      omega
    rw [e]
    show List.take ((x :: r).length - 1) r = r
    rw [List.length_cons, Nat.add_sub_cancel]
    exact List.take_length
theorem walk_zipT {K : PySem.W.Frag} {a b : Addr} {xs ys : List V} {n : Nat} (hn : n = min xs.length ys.length) : Walk (RZ.ItzT K a b) n (fun H => SqT K H a xs ∧ SqT K H b ys) (YPair (fun i => xs[i]?) (fun i => ys[i]?)) := by
  subst hn
  refine ⟨fun i _ hi q => ?_, fun _ q => ⟨xs, ys, q.1, q.2, by omega⟩, fun i H v H' _ q y => ?_⟩
  · have h1 : i < xs.length := by omega
    have h2 : i < ys.length := by omega
    exact ⟨xs, ys, xs[i], ys[i], q.1, q.2, List.getElem?_eq_getElem h1, List.getElem?_eq_getElem h2⟩
  · obtain ⟨T, x, z, h1, h2, h3, h4, h5⟩ := y
    exact ⟨T, x, z, h1, h2, h3, h4 xs q.1, h5 ys q.2⟩
theorem ok_is_ascending (T : Tops K w mg) : FnOk P w K mg base CX0 1 T.a_is_ascending T.fd_is_ascending p_is_ascending (sp_is_ascending K) := by
  have S := sc_is_ascending
  refine T.F_is_ascending.ok S (fun vs H Q E h => ?_) (fun cdv A outer s H vs Q E hr h => ?_)
  · obtain ⟨a, xs, A, rfl, _⟩ := h
    rfl
  · obtain ⟨a, xs, A, rfl, hs, hd, hp, h1000, q⟩ := h
    refine ⟨_, (pss_one (ps_ret (pe_callB (cr_all rfl) (by rfl) T.m_all (by decide +kernel) (pa_cons (pe_lc (own := [("first", 1), ("second", 2)]) rfl S.nd (RZ.pi_zipA (by rfl) T.m_zip (pa_cons (pv 0) (pa_cons (pe_slice (sl_tupK (K := K)) (pv 0) (po_some pe_int) po_none) pa_nil))) (blkOk_by (N := n_is_ascending) (sc := defScope s_is_ascending) (by decide +kernel)) (fun _ _ _ _ _ => (pg_tupK (K := K) (n := 2) rfl (pgs_cons (pg_name (i := 1) S.nd rfl (Or.inl rfl)) (pgs_cons (pg_name (i := 2) S.nd rfl (Or.inl rfl)) pgs_nil)))) (fun _ _ _ _ _ => pts_nil) (fun _ _ _ _ _ => (pe_cmpR (op_ltK (K := K) hr.units0) (pv 1) (pv 2) (nomark _)))) pa_nil)))), ?_⟩
    have hlen := dps_len hd
    rw [List.length_map] at hlen
    refine ⟨.ref a, rfl, .ref a, rfl, 1, rfl, a, xs, rfl, hs, fun b H1 e1 hb => ?_⟩
    rw [cutT] at hb
    refine ⟨a, b, xs, xs.drop 1, rfl, .inr ⟨same_tup e1 hs, hb, fun D nD => ?_⟩⟩
    refine lc_it (walk_zipT (K := K) (a := a) (b := b) (xs := xs) (ys := xs.drop 1) (n := xs.length - 1) (by rw [List.length_drop]; omega)) (D := D) (H1 := H1) (fun i H' => Same H H' ∧ Same H1 H' ∧ H' D = some (.lst (List.replicate i (.bl true))))
        ⟨same_upd_new e1 (e1.free nD), same_new nD, upd_same⟩ (fun i H' _ h => ⟨same_tup h.1 hs, same_tup h.2.1 hb⟩) (fun i x H' H2 hi hp' hy => ?step) (fun H' hp' => ?fin)
    case step =>
      obtain ⟨TT, x1, x2, rfl, nT, rfl, g1, g2⟩ := hy
      have g2' : xs[i + 1]? = some x2 := by
        have g3 : (xs.drop 1)[i]? = some x2 := g2
        rw [List.getElem?_drop, Nat.add_comm] at g3
        exact g3
      obtain ⟨t1, k1, _, d1⟩ := get_tri hd g1
      obtain ⟨t2, k2, _, d2⟩ := get_tri hd g2'
      have eT : Same H (upd H' TT (.tup [x1, x2])) := hp'.1.trans (same_new nT)
      obtain ⟨b1, rfl, s1⟩ := dp_tri (dp_same eT _ _ d1)
      obtain ⟨b2, rfl, s2⟩ := dp_tri (dp_same eT _ _ d2)
      have lt : lt3 t1 t2 := by
        have hi1 := (List.getElem?_eq_some_iff.mp k1)
        have hi2 := (List.getElem?_eq_some_iff.mp k2)
        obtain ⟨l1, rfl⟩ := hi1
        obtain ⟨l2, rfl⟩ := hi2
        exact List.pairwise_iff_getElem.mp hp i (i + 1) l1 l2 (Nat.lt_succ_self i)
      have nDT : D ≠ TT := ne_of_none hp'.2.2 nT
      refine ⟨TT, [.ref b1, .ref b2], rfl, SqT.of upd_same, rfl, .ref b1, [.ref b2], rfl, .ref b2, [], rfl, rfl, ?_⟩
      refine ⟨rfl, .ref b1, rfl, .ref b2, rfl, b1, b2, tri t1, tri t2, rfl, rfl, s1, s2, _, (upd_ne nDT).trans hp'.2.2, ?_, same_upd_new eT (e1.free nD), same_upd_new (hp'.2.1.trans (same_new nT)) nD, ?_⟩
      · rw [List.length_replicate]
        exact small (m := 1000) (by omega)
      · rw [upd_same, show HT.lexLt (tri t1) (tri t2) = true from lt, rep_snoc]
    case fin =>
      refine ⟨D, List.replicate (xs.length - 1) true, rfl, ?_, ?_⟩
      · rw [← rep_bl]
        exact SqL.of hp'.2.2
      · rw [all_true]
        exact q H' hp'.1
end
end K0

namespace K0
open PySem PySem.Spec PyProof.Rows L2 W0 W1 W2
section
variable {P : Program} {w : World} {K : PySem.W.Frag} {mg : Str → Option Value} {base : Heap}
def sp_is_arrow (K : PySem.W.Frag) : Sp := fun vs H Q _ => ∃ (v : V) (n : Int) (t : T3), vs = [v, .int n] ∧ Dp K H v (dTri t) ∧ InW n t ∧ Q (.bl true) H
theorem ok__is_arrow (T : Tops K w mg) : FnOk P w K mg base CX0 2 T.a__is_arrow T.fd__is_arrow p__is_arrow (sp_is_arrow K) := by
  have S := sc__is_arrow
  refine T.F__is_arrow.ok S (fun vs H Q E h => ?_) (fun cdv A outer s H vs Q E hr h => ?_)
  · obtain ⟨v, n, t, rfl, _⟩ := h
    rfl
  · obtain ⟨v, n, ⟨k, f, e⟩, rfl, hd, hi, q⟩ := h
    refine ⟨_, (pss_cons (ps_if (pt_not (pt_val (pe_call (ok_is_tuple T) (hr.mono (by first | decide | omega)) (by rfl) T.g_is_tuple T.F_is_tuple.kp T.b_is_tuple .nil pass0 (pa_cons (pv 0) (pa_cons pe_int (pa_cons pe_int pa_nil)))))) (pss_one (ps_ret pe_bl)) pss_nil)
      (pss_cons (ps_asg (pv 0) (pg_tupK (K := K) (n := 3) rfl (pgs_cons (pg_name (i := 2) S.nd rfl (Or.inl rfl)) (pgs_cons (pg_name (i := 3) S.nd rfl (Or.inl rfl)) (pgs_cons (pg_name (i := 4) S.nd rfl (Or.inl rfl)) pgs_nil)))))
      (pss_cons (ps_if (pt_not (pt_val (pe_call (ok_is_number T) (hr.mono (by first | decide | omega)) (by rfl) T.g_is_number T.F_is_number.kp T.b_is_number .nil pass0 (pa_cons (pv 2) (pa_cons pe_int (pa_cons (pe_glob (v := .int (2)) (by rfl) T.c_LAST_KIND ⟨_, rfl⟩) pa_nil)))))) (pss_one (ps_ret pe_bl)) pss_nil)
      (pss_one (ps_ret (pe_and (pe_call (ok_is_number T) (hr.mono (by first | decide | omega)) (by rfl) T.g_is_number T.F_is_number.kp T.b_is_number .nil pass0 (pa_cons (pv 3) (pa_cons pe_int (pa_cons (pe_op op_sub (pv 1) pe_int) pa_nil)))) (pe_one (pe_call (ok_is_number T) (hr.mono (by first | decide | omega)) (by rfl) T.g_is_number T.F_is_number.kp T.b_is_number .nil pass0 (pa_cons (pv 4) (pa_cons pe_int (pa_cons (pe_op op_sub (pv 1) pe_int) pa_nil))))))))))), ?_⟩
    obtain ⟨a, rfl, hs⟩ := dp_tri hd
    have a1 : decide ((0 : Int) ≤ k) = true := decide_eq_true hi.k0
    have a2 : decide (k ≤ (2 : Int)) = true := decide_eq_true hi.k2
    have a3 : decide ((0 : Int) ≤ f) = true := decide_eq_true hi.f0
    have a4 : decide (f ≤ n - 1) = true := decide_eq_true (Int.le_sub_one_of_lt hi.fn)
    have a5 : decide ((0 : Int) ≤ e) = true := decide_eq_true hi.e0
    have a6 : decide (e ≤ n - 1) = true := decide_eq_true (Int.le_sub_one_of_lt hi.en)
    refine ⟨.ref a, rfl, a, _, 3, 3, rfl, hs, true, rfl, ?_⟩
    refine ⟨.ref a, rfl, a, [.int k, .int f, .int e], rfl, hs, rfl, .int k, _, rfl, .int f, _, rfl, .int e, _, rfl, rfl, ?_⟩
    refine ⟨.int k, rfl, k, 0, 2, rfl, true, by rw [a1, a2]; rfl, ?_⟩
    refine ⟨.int f, rfl, .int n, rfl, n, 1, rfl, rfl, f, 0, n - 1, rfl, true, by rw [a3, a4]; rfl, ?_⟩
    refine ⟨.int e, rfl, .int n, rfl, n, 1, rfl, rfl, e, 0, n - 1, rfl, ?_⟩
    rw [a5, a6]
    exact q
def sp_is_web (K : PySem.W.Frag) : Sp := fun vs H Q _ => ∃ (v : V) (n : Int) (A : List T3), vs = [v] ∧ Dp K H v (dWeb n A) ∧ WOk n A ∧ ∀ H', Same H H' → Q (.bl true) H'
theorem ok__is_web (T : Tops K w mg) : FnOk P w K mg base CX0 3 T.a__is_web T.fd__is_web p__is_web (sp_is_web K) := by
  have S := sc__is_web
  refine T.F__is_web.ok S (fun vs H Q E h => ?_) (fun cdv AA outer s H vs Q E hr h => ?_)
  · obtain ⟨v, n, A, rfl, _⟩ := h
    rfl
  · obtain ⟨v, n, A, rfl, hd, ok, q⟩ := h
    refine ⟨_, (pss_cons (ps_if (pt_not (pt_val (pe_call (ok_is_tuple T) (hr.mono (by first | decide | omega)) (by rfl) T.g_is_tuple T.F_is_tuple.kp T.b_is_tuple .nil pass0 (pa_cons (pv 0) (pa_cons pe_int (pa_cons pe_int pa_nil)))))) (pss_one (ps_ret pe_bl)) pss_nil)
      (pss_cons (ps_asg (pv 0) (pg_tupK (K := K) (n := 2) rfl (pgs_cons (pg_name (i := 1) S.nd rfl (Or.inr rfl)) (pgs_cons (pg_name (i := 2) S.nd rfl (Or.inl rfl)) pgs_nil))))
      (pss_cons (ps_if ((pw_or (pt_not (pt_val (pe_call (ok_is_number T) (hr.mono (by first | decide | omega)) (by rfl) T.g_is_number T.F_is_number.kp T.b_is_number .nil pass0 (pa_cons (pv 1) (pa_cons pe_int (pa_cons (pe_glob (v := .int (200)) (by rfl) T.c_MOST_WORLDS ⟨_, rfl⟩) pa_nil)))))) (pw_or1 (pt_not (pt_val (pe_call (ok_is_tuple T) (hr.mono (by first | decide | omega)) (by rfl) T.g_is_tuple T.F_is_tuple.kp T.b_is_tuple .nil pass0 (pa_cons (pv 2) (pa_cons pe_int (pa_cons (pe_glob (v := .int (1000)) (by rfl) T.c_MOST_ARROWS ⟨_, rfl⟩) pa_nil))))))))).pt (pss_one (ps_ret pe_bl)) pss_nil)
      (pss_one (ps_ret (pe_and (pe_callB (cr_all rfl) (by rfl) T.m_all (by decide +kernel) (pa_cons (pe_lc (own := [("arrow", 3)]) rfl S.nd (pi_tup (pv 2)) (blkOk_by (N := n__is_web) (sc := defScope s__is_web) (by decide +kernel)) (fun _ _ _ _ _ => (pg_name (i := 3) S.nd rfl (Or.inl rfl))) (fun _ _ _ _ _ => pts_nil) (fun _ _ _ _ _ => (pe_call (ok__is_arrow T) (hr.mono (by first | decide | omega)) (by rfl) T.g__is_arrow T.F__is_arrow.kp T.b__is_arrow .nil pass0 (pa_cons (pv 3) (pa_cons (pv 1) pa_nil))))) pa_nil)) (pe_one (pe_call (ok_is_ascending T) (hr.mono (by first | decide | omega)) (by rfl) T.g_is_ascending T.F_is_ascending.kp T.b_is_ascending .nil pass0 (pa_cons (pv 2) pa_nil))))))))), ?_⟩
    obtain ⟨a, b, xs, rfl, hs, ht, hda⟩ := dp_web hd
    have hlen := dps_len hda
    rw [List.length_map] at hlen
    have h1000 := ok.len
    have a1 : decide ((1 : Int) ≤ n) = true := decide_eq_true ok.n1
    have a2 : decide (n ≤ (200 : Int)) = true := decide_eq_true ok.n2
    have a3 : decide ((0 : Int) ≤ (xs.length : Int)) = true := decide_eq_true (by omega)
    have a4 : decide ((xs.length : Int) ≤ (1000 : Int)) = true := decide_eq_true (by omega)
    refine ⟨.ref a, rfl, a, _, 2, 2, rfl, hs, true, rfl, ?_⟩
    refine ⟨.ref a, rfl, a, [.int n, .ref b], rfl, hs, rfl, .int n, _, rfl, .ref b, _, rfl, rfl, ?_⟩
    refine ⟨.int n, rfl, n, 1, 200, rfl, true, by rw [a1, a2]; rfl, ?_⟩
    refine ⟨.ref b, rfl, b, xs, 0, 1000, rfl, ht, true, by rw [a3, a4]; rfl, ?_⟩
    refine ⟨.ref b, rfl, b, rfl, ⟨_, ht⟩, fun D nD => lc_tup (K := K) (a := b) (xs := xs) (fun i H' => Same H H' ∧ H' D = some (.lst (List.replicate i (.bl true)))) ⟨same_new nD, upd_same⟩ (fun i H' _ h => same_tup h.1 ht) (fun i x H' hx hp => ?_) (fun H' hp => ?_)⟩
    · obtain ⟨t, k1, km, d1⟩ := get_tri hda hx
      have hi : i < xs.length := (List.getElem?_eq_some_iff.mp hx).1
      refine ⟨rfl, x, rfl, .int n, rfl, x, n, t, rfl, dp_same hp.1 _ _ d1, ok.all t km, _, hp.2, ?_, same_upd_new hp.1 nD, ?_⟩
      · rw [List.length_replicate]
        exact small (m := 1000) (by omega)
      · rw [upd_same, rep_snoc]
    · refine ⟨D, List.replicate xs.length true, rfl, ?_, ?_⟩
      · rw [← rep_bl]
        exact SqL.of hp.2
      · rw [all_true]
        refine ⟨true, rfl, .ref b, rfl, b, xs, A, rfl, same_tup hp.1 ht, dps_same hp.1 _ _ hda, ok.asc, ok.len, fun H2 e2 => q H2 (hp.1.trans e2)⟩
def sp_need_web (K : PySem.W.Frag) : Sp := fun vs H Q _ => ∃ (v : V) (n : Int) (A : List T3), vs = [v] ∧ Dp K H v (dWeb n A) ∧ WOk n A ∧ ∀ H', Same H H' → Q v H'
theorem ok_need_web (T : Tops K w mg) : FnOk P w K mg base CX0 4 T.a_need_web T.fd_need_web p_need_web (sp_need_web K) := by
  have S := sc_need_web
  refine T.F_need_web.ok S (fun vs H Q E h => ?_) (fun cdv AA outer s H vs Q E hr h => ?_)
  · obtain ⟨v, n, A, rfl, _⟩ := h
    rfl
  · obtain ⟨v, n, A, rfl, hd, ok, q⟩ := h
    refine ⟨_, (pss_cons (ps_if (pt_not (pt_val (pe_call (ok__is_web T) (hr.mono (by first | decide | omega)) (by rfl) T.g__is_web T.F__is_web.kp T.b__is_web .nil pass0 (pa_cons (pv 0) pa_nil)))) (pss_one ps_never) pss_nil)
      (pss_one (ps_ret (pv 0)))), ?_⟩
    exact ⟨v, rfl, v, n, A, rfl, hd, ok, fun H' e => ⟨true, rfl, v, rfl, q H' e⟩⟩
def sp_is_way : Sp := fun vs H Q _ => ∃ i : Int, vs = [.int i] ∧ -3 ≤ i ∧ i ≤ 2 ∧ Q (.bl true) H
def sp_turned_way : Sp := fun vs H Q _ => ∃ i : Int, vs = [.int i] ∧ Q (.int (-1 - i)) H
theorem ok_turned_way (T : Tops K w mg) : FnOk P w K mg base CX0 1 T.a_turned_way T.fd_turned_way p_turned_way sp_turned_way := by
  have S := sc_turned_way
  refine T.F_turned_way.ok S (fun vs H Q E h => ?_) (fun cdv AA outer s H vs Q E hr h => ?_)
  · obtain ⟨i, rfl, _⟩ := h
    rfl
  · obtain ⟨i, rfl, q⟩ := h
    refine ⟨_, (pss_one (ps_ret (pe_op op_sub (pe_un un_neg pe_int) (pv 0)))), ?_⟩
    exact ⟨1, rfl, .int i, rfl, -1, i, rfl, rfl, q⟩
def sp_need_world (K : PySem.W.Frag) : Sp := fun vs H Q _ => ∃ (v : V) (n : Int) (A : List T3) (x : Int), vs = [v, .int x] ∧ Dp K H v (dWeb n A) ∧ 0 ≤ x ∧ x < n ∧ Q (.int x) H
end
end K0

namespace K0
open PySem PySem.Spec PyProof.Rows L2 W0 W1 W2

/-! ### a dict comprehension over anything walked -/
theorem dc_it {J : It} {n : Nat} {G : Hp → Prop} {Y : Nat → Hp → V → Hp → Prop} (wk : Walk J n G Y) {g : TG} {tt : TT} {tk tv : TE} {vs : List Nat} {σ : L2.St} {H1 : Hp} {D : Addr} {Qd : Hp → Prop} (Pv : Nat → Hp → Prop) (h0 : Pv 0 (upd H1 D (.dK []))) (hG : ∀ i H, i ≤ n → Pv i H → G H)
    (hs : ∀ i x H H', i < n → Pv i H → Y i H x H' → g x (wipe σ vs) H' fun σ2 H2 => wipe σ2 vs = wipe σ vs ∧ tt σ2 H2 fun b H3 =>
      if b = true then tk σ2 H3 fun y H4 => tv σ2 H4 fun z H5 => ∃ kvs k, y = kV k ∧ H5 D = some (.dK kvs) ∧ kvs.length < sizeLine ∧ Pv (i + 1) (upd H5 D (.dK (putK kvs k z))) else Pv (i + 1) H3) (hd : ∀ H, Pv n H → Qd H) :
    ∃ W : Nat → Nat → Hp → Prop, (∃ m, W 0 m (upd H1 D (.dK []))) ∧ ∀ i m H, W i m H →
      (J.stop i H ∧ Qd H) ∨ (J.go i H ∧ ∃ Nx : Hp → Prop, (∀ H', Nx H' → ∃ m', m' < m ∧ W (i + 1) m' H') ∧ ∀ x H', J.yld i H x H' → g x (wipe σ vs) H' fun σ2 H2 => wipe σ2 vs = wipe σ vs ∧ tt σ2 H2 fun b H3 =>
        if b = true then tk σ2 H3 fun y H4 => tv σ2 H4 fun z H5 => ∃ kvs k, y = kV k ∧ H5 D = some (.dK kvs) ∧ kvs.length < sizeLine ∧ Nx (upd H5 D (.dK (putK kvs k z))) else Nx H3) := by
  refine ⟨fun i left H => left + i = n ∧ Pv i H, ⟨n, rfl, h0⟩, fun i left H hw => ?_⟩
  obtain ⟨e, p⟩ := hw
  cases left with
  | zero =>
    obtain rfl : i = n := by omega
    exact Or.inl ⟨wk.stops H (hG i H (Nat.le_refl _) p), hd H p⟩
  | succ left =>
    have hi : i < n := by omega
    have hg := hG i H (Nat.le_of_lt hi) p
    exact Or.inr ⟨wk.goes i H hi hg, Pv (i + 1), fun H' p' => ⟨left, Nat.lt_succ_self _, by omega, p'⟩, fun x H' y => hs i x H H' hi p (wk.yields i H x H' hi hg y)⟩

/-! ### where ways lead -/
def ledF (w x : Int) (t : T3) : Option Int := if 0 ≤ w then (if t.1 = w ∧ t.2.1 = x then some t.2.2 else none) else (if t.1 = -1 - w ∧ t.2.2 = x then some t.2.1 else none)
def ledS (A : List T3) (w x : Int) : List Int := A.filterMap (ledF w x)
theorem ledS_snoc (A : List T3) (t : T3) (w x : Int) : ledS (A ++ [t]) w x = ledS A w x ++ (ledF w x t).toList := by
  unfold ledS
  rw [List.filterMap_append]
  congr 1
abbrev In (i : Nat) (w : Int) : Prop := -3 ≤ w ∧ w < -3 + (i : Int)
structure Lay (H0 H : Hp) (d : Addr) (n i : Nat) (r : Int → Addr) (c : Int → Nat → Addr) (L : Int → Nat → List Int) : Prop where
  dict : ∃ kvs, H d = some (.dK kvs) ∧ kvs.length ≤ i ∧ ∀ w, In i w → valV kvs (Sum.inl w) = some (.ref (r w))
  row : ∀ w, In i w → H (r w) = some (.lst ((List.range n).map fun x => V.ref (c w x)))
  cell : ∀ w x, In i w → x < n → H (c w x) = some (.lst ((L w x).map V.int))
  inj : ∀ w x w' x', In i w → In i w' → x < n → x' < n → c w x = c w' x' → w = w' ∧ x = x'
  apart : ∀ w x w', In i w → In i w' → x < n → c w x ≠ r w'
  newd : H0 d = none
  newr : ∀ w, In i w → H0 (r w) = none
  newc : ∀ w x, In i w → x < n → H0 (c w x) = none
  same : Same H0 H
/-- one more at the end of a cell -/
theorem Lay.add {H0 H : Hp} {d : Addr} {n i : Nat} {r : Int → Addr} {c : Int → Nat → Addr} {L : Int → Nat → List Int} (l : Lay H0 H d n i r c L) {w : Int} {x : Nat} (hw : In i w) (hx : x < n) (e : Int) :
    Lay H0 (upd H (c w x) (.lst ((L w x).map V.int ++ [.int e]))) d n i r c (fun w' x' => if w' = w ∧ x' = x then L w' x' ++ [e] else L w' x') := by
  have hc := l.cell w x hw hx
  obtain ⟨kvs, hd, h1, h2⟩ := l.dict
  have ndc : d ≠ c w x := ne_of hd hc (by intro z; cases z)
  refine ⟨⟨kvs, (upd_ne ndc).trans hd, h1, h2⟩, fun w' h => ?_, fun w' x' h h' => ?_, l.inj, l.apart, l.newd, l.newr, l.newc, same_upd_new l.same (l.newc w x hw hx)⟩
  · rw [upd_ne (l.apart w x w' hw h hx).symm]
    exact l.row w' h
  · by_cases q : w' = w ∧ x' = x
    · obtain ⟨rfl, rfl⟩ := q
      rw [upd_same, if_pos ⟨rfl, rfl⟩, List.map_append]
      rfl
    · rw [if_neg q, upd_ne ?_]
      · exact l.cell w' x' h h'
      · intro z
        exact q (l.inj w' x' w x h hw h' hx z)
theorem dget {H : Hp} {d : Addr} {kvs : List (Key × V)} {k : Int} {v : V} (h : H d = some (.dK kvs)) (e : valV kvs (Sum.inl k) = some v) : DGet H d (.int k) (some v) := by
  rw [← e]
  exact DGet.k (k := Sum.inl k) h
theorem range_get {n x : Nat} (h : x < n) : (List.range n)[x]? = some x := by
  rw [List.getElem?_range h]

section
variable {P : Program} {w : World} {K : PySem.W.Frag} {mg : Str → Option Value} {base : Heap}
def sp_leads_of (K : PySem.W.Frag) : Sp := fun vs H Q _ => ∃ (v : V) (n : Nat) (A : List T3), vs = [v] ∧ Dp K H v (dWeb n A) ∧ WOk n A ∧ ∀ H' d r c L, Lay H H' d n 6 r c L → (∀ w x, In 6 w → x < n → L w x = ledS A w x) → Q (.ref d) H'
theorem ok_leads_of (T : Tops K w mg) : FnOk P w K mg base CX0 2 T.a_leads_of T.fd_leads_of p_leads_of (sp_leads_of K) := by
  have S := sc_leads_of
  refine T.F_leads_of.ok S (fun vs H Q E h => ?_) (fun cdv AA outer s H vs Q E hr h => ?_)
  · obtain ⟨v, n, A, rfl, _⟩ := h
    rfl
  · obtain ⟨v, n, A, rfl, hd, ok, q⟩ := h
    refine ⟨_, (pss_cons (ps_asg (pv 0) (pg_tupK (K := K) (n := 2) rfl (pgs_cons (pg_name (i := 1) S.nd rfl (Or.inr rfl)) (pgs_cons (pg_name (i := 2) S.nd rfl (Or.inl rfl)) pgs_nil))))
      (pss_cons (ps_setDc (i := 3) (own := [("way", 7)]) rfl S.nd rfl rfl (sw_dict rfl rfl rfl (by decide +kernel)) (pi_range2 (by rfl) T.m_range (pa_cons (pe_glob (v := .int (-3)) (by rfl) T.c_FIRST_WAY ⟨_, rfl⟩) (pa_cons (pe_op op_add (pe_glob (v := .int (2)) (by rfl) T.c_LAST_KIND ⟨_, rfl⟩) pe_int) pa_nil))) (blkOk_by (N := n_leads_of) (sc := defScope s_leads_of) (by decide +kernel)) (fun _ _ _ _ _ => (pg_name (i := 7) S.nd rfl (Or.inl rfl))) (fun _ _ _ _ _ => pts_nil) (fun _ _ _ _ _ => (pv 7)) (fun _ _ _ _ _ => (pe_lc (own := [("_", 8)]) rfl S.nd (pi_range1 (by rfl) T.m_range (pa_cons (pv 1) pa_nil)) (blk_any (defScope s_leads_of) (blkOk_by (N := n_leads_of) (sc := defScope s_leads_of) (by decide +kernel)) (by decide +kernel)) (fun _ _ _ _ _ => (pg_name (i := 8) S.nd rfl (Or.inl rfl))) (fun _ _ _ _ _ => pts_nil) (fun _ _ _ _ _ => (pe_lst pa_nil)))))
      (pss_cons (ps_for PassesOwn.never rfl (pi_tup (pv 2)) (pg_tupK (K := K) (n := 3) rfl (pgs_cons (pg_name (i := 4) S.nd rfl (Or.inl rfl)) (pgs_cons (pg_name (i := 5) S.nd rfl (Or.inl rfl)) (pgs_cons (pg_name (i := 6) S.nd rfl (Or.inl rfl)) pgs_nil)))) (pss_cons (ps_expr (pe_bm PySem.F.plainAttrs_list PySem.F.slot_list_append PySem.F.type_list_append mt_append (pe_ix (ix_listK (K := K)) (pe_dget (hu_of hr) (pv 3) (pv 4) (fun _ _ => rfl)) (pv 5) (fun _ _ => rfl)) (pa_cons (pv 6) pa_nil)))
      (pss_one (ps_expr (pe_bm PySem.F.plainAttrs_list PySem.F.slot_list_append PySem.F.type_list_append mt_append (pe_ix (ix_listK (K := K)) (pe_dget (hu_of hr) (pv 3) (pe_call (ok_turned_way T) (hr.mono (by first | decide | omega)) (by rfl) T.g_turned_way T.F_turned_way.kp T.b_turned_way .nil pass0 (pa_cons (pv 4) pa_nil)) (fun _ _ => rfl)) (pv 6) (fun _ _ => rfl)) (pa_cons (pv 5) pa_nil))))))
      (pss_one (ps_ret (pv 3)))))), ?_⟩
    obtain ⟨a, b, xs, rfl, hs, ht, hda⟩ := dp_web hd
    have hn1 := ok.n1
    have hn2 := ok.n2
    -- size, arrows = web
    refine ⟨.ref a, rfl, a, [.int n, .ref b], rfl, hs, rfl, .int n, _, rfl, .ref b, _, rfl, rfl, ?_⟩
    -- leads = {way: [[] for _ in range(size)] for way in range(FIRST_WAY, LAST_KIND + 1)}
    refine ⟨2, 1, rfl, rfl, -3, 3, rfl, ⟨by decide, by decide, by decide, by decide⟩, fun d nd => ?_⟩
    refine dc_it (walk_range (lo := -3) (n := 6)) (D := d) (H1 := H) (fun i H' => ∃ r c, Lay H H' d n i r c fun _ _ => [])
      ⟨fun _ => 0, fun _ _ => 0, ⟨[], upd_same, Nat.le_refl _, fun w h => absurd h.2 (by have := h.1; omega)⟩, fun w h => absurd h.2 (by have := h.1; omega), fun w x h => absurd h.2 (by have := h.1; omega), fun w x w' x' h => absurd h.2 (by have := h.1; omega),
        fun w x w' h => absurd h.2 (by have := h.1; omega), nd, fun w h => absurd h.2 (by have := h.1; omega), fun w x h => absurd h.2 (by have := h.1; omega), same_new nd⟩
      (fun _ _ _ _ => trivial) (fun i x H1 H2 hi hp hy => ?_) (fun H1 hp => ?_)
    · obtain ⟨rfl, rfl⟩ := hy
      obtain ⟨r, c, l⟩ := hp
      refine ⟨rfl, .int (-3 + i), rfl, .int n, rfl, n, rfl, by omega, by omega, fun D2 n2 => ?_⟩
      have en : ((n : Int)).toNat = n := rfl
      refine lc_range (lo := 0) (n := n) (fun j H' => Same H2 H' ∧ ∃ cs : List Addr, cs.length = j ∧ H' D2 = some (.lst (cs.map V.ref)) ∧ cs.Nodup ∧ ∀ y ∈ cs, H' y = some (.lst []) ∧ H2 y = none ∧ y ≠ D2)
        ⟨same_new n2, [], rfl, upd_same, List.nodup_nil, fun y hy => (List.not_mem_nil hy).elim⟩ (fun j H' hj hq => ?_) (fun H' hq => ?_)
      · obtain ⟨e1, cs, hcl, hcd, hcn, hca⟩ := hq
        refine ⟨rfl, Nat.zero_le _, fun y ny => ?_⟩
        have ny2 : H2 y = none := e1.free ny
        have nyD : y ≠ D2 := fun z => by
          rw [z, hcd] at ny
          cases ny
        have nyc : y ∉ cs := fun z => by
          rw [(hca y z).1] at ny
          cases ny
        refine ⟨cs.map V.ref, (upd_ne nyD.symm).trans hcd, ?_, same_upd_new (same_upd_new e1 ny2) n2, cs ++ [y], ?_, ?_, ?_, fun z hz => ?_⟩
        · rw [List.length_map, hcl]
          exact small (m := 1000) (by omega)
        · rw [List.length_append, hcl]
          rfl
        · rw [upd_same, List.map_append]
          rfl
        · refine List.nodup_append.mpr ⟨hcn, by simp, fun z hz u hu e => ?_⟩
          rw [List.mem_singleton.mp hu] at e
          rw [e] at hz
          exact nyc hz
        · rcases List.mem_append.mp hz with hz | hz
          · obtain ⟨g1, g2, g3⟩ := hca z hz
            refine ⟨?_, g2, g3⟩
            rw [upd_ne g3, upd_ne (fun e => nyc (by rw [← e]; exact hz))]
            exact g1
          · rw [List.mem_singleton.mp hz]
            refine ⟨?_, ny2, nyD⟩
            rw [upd_ne nyD]
            exact upd_same
      · obtain ⟨e1, cs, hcl, hcd, hcn, hca⟩ := hq
        obtain ⟨kvs, hkd, hkl, hkv⟩ := l.dict
        have hkd' : H' d = some (.dK kvs) := e1 _ _ hkd
        have hk : ¬ In i (-3 + (i : Int)) := fun z => by have := z.2; omega
        have dD : d ≠ D2 := ne_of_none hkd n2
        refine ⟨kvs, Sum.inl (-3 + (i : Int)), rfl, hkd', small (m := 1000) (by omega), fun w => if w = -3 + (i : Int) then D2 else r w, fun w x => if w = -3 + (i : Int) then cs.getD x 0 else c w x, ?_⟩
        have step : ∀ w, In (i + 1) w → w = -3 + (i : Int) ∨ (In i w ∧ w ≠ -3 + (i : Int)) := fun w h => by
          have h1 := h.1
          have h2 := h.2
          rw [Int.natCast_add] at h2
          by_cases z : w = -3 + (i : Int)
          · exact Or.inl z
          · exact Or.inr ⟨⟨h1, by omega⟩, z⟩
        have getc : ∀ x, x < n → cs.getD x 0 ∈ cs := fun x hx => by
          rw [List.getD_eq_getElem?_getD, List.getElem?_eq_getElem (by omega)]
          exact List.getElem_mem _
        have dc : ∀ y ∈ cs, y ≠ d := fun y hy z => by
          have h2 := (hca y hy).2.1
          rw [z, hkd] at h2
          cases h2
        refine ⟨⟨_, upd_same, ?_, fun w h => ?_⟩, fun w h => ?_, fun w x h hx => ?_, fun w x w' x' h h' hx hx' z => ?_, fun w x w' h h' hx => ?_, l.newd, fun w h => ?_, fun w x h hx => ?_, same_upd_new (l.same.trans e1) l.newd⟩
        · exact Nat.le_trans (length_putK _ _ _) (Nat.succ_le_succ hkl)
        · rw [valV_put]
          rcases step w h with rfl | ⟨h1, h2⟩
          · rw [if_pos rfl, if_pos rfl]
          · rw [if_neg (fun z => h2 (Sum.inl.inj z)), if_neg h2]
            exact hkv w h1
        · rcases step w h with rfl | ⟨h1, h2⟩
          · rw [if_pos rfl, upd_ne dD.symm, hcd]
            congr 2
            refine List.ext_getElem (by rw [List.length_map, List.length_map, List.length_range, hcl]) fun j g1 g2 => ?_
            rw [List.length_map] at g1
            rw [List.getElem_map, List.getElem_map, List.getElem_range, if_pos rfl, List.getD_eq_getElem?_getD, List.getElem?_eq_getElem g1]
            rfl
          · have hrow := l.row w h1
            rw [if_neg h2, upd_ne (ne_of hrow hkd (by intro z; cases z)), e1 _ _ hrow]
            congr 2
            refine List.map_congr_left fun x _ => ?_
            rw [if_neg h2]
        · rcases step w h with rfl | ⟨h1, h2⟩
          · rw [if_pos rfl, upd_ne (dc _ (getc x hx))]
            exact (hca _ (getc x hx)).1
          · have hcell := l.cell w x h1 hx
            rw [if_neg h2, upd_ne (ne_of hcell hkd (by intro z; cases z))]
            exact e1 _ _ hcell
        · rcases step w h with rfl | ⟨h1, h2⟩
          · rcases step w' h' with rfl | ⟨h3, h4⟩
            · rw [if_pos rfl, if_pos rfl, List.getD_eq_getElem?_getD, List.getD_eq_getElem?_getD, List.getElem?_eq_getElem (by omega), List.getElem?_eq_getElem (by omega)] at z
              exact ⟨rfl, (List.getElem_inj hcn).mp z⟩
            · rw [if_pos rfl, if_neg h4] at z
              have g := (hca _ (getc x hx)).2.1
              rw [z, l.cell w' x' h3 hx'] at g
              cases g
          · rcases step w' h' with rfl | ⟨h3, h4⟩
            · rw [if_neg h2, if_pos rfl] at z
              have g := (hca _ (getc x' hx')).2.1
              rw [← z, l.cell w x h1 hx] at g
              cases g
            · rw [if_neg h2, if_neg h4] at z
              exact l.inj w x w' x' h1 h3 hx hx' z
        · rcases step w h with rfl | ⟨h1, h2⟩
          · rw [if_pos rfl]
            rcases step w' h' with rfl | ⟨h3, h4⟩
            · rw [if_pos rfl]
              exact (hca _ (getc x hx)).2.2
            · rw [if_neg h4]
              intro z
              have g := (hca _ (getc x hx)).2.1
              rw [z, l.row w' h3] at g
              cases g
          · rw [if_neg h2]
            rcases step w' h' with rfl | ⟨h3, h4⟩
            · rw [if_pos rfl]
              exact ne_of_none (l.cell w x h1 hx) n2
            · rw [if_neg h4]
              exact l.apart w x w' h1 h3 hx
        · rcases step w h with rfl | ⟨h1, h2⟩
          · rw [if_pos rfl]
            exact l.same.free n2
          · rw [if_neg h2]
            exact l.newr w h1
        · rcases step w h with rfl | ⟨h1, h2⟩
          · rw [if_pos rfl]
            exact l.same.free (hca _ (getc x hx)).2.1
          · rw [if_neg h2]
            exact l.newc w x h1 hx
    · -- for kind, start, end in arrows
      obtain ⟨r, c, l⟩ := hp
      refine ⟨.ref b, rfl, b, rfl, ⟨_, same_tup l.same ht⟩, ?_⟩
      refine for_tup (K := K) (a := b) (xs := xs) (fun i σ H' => ∃ y4 y5 y6, σ = [some (.ref a), some (.int n), some (.ref b), some (.ref d), y4, y5, y6, none, none] ∧ ∃ L, Lay H H' d n 6 r c L ∧ ∀ w x, In 6 w → x < n → L w x = ledS (A.take i) w x)
        ⟨none, none, none, rfl, _, l, fun w x _ _ => rfl⟩ (fun i σ H' _ h => ?_) (fun i x σ H' hx h => ?_) (fun σ H' h => ?_)
      · obtain ⟨_, _, _, _, L, l', _⟩ := h
        exact same_tup l'.same ht
      · obtain ⟨y4, y5, y6, rfl, L, l', hL⟩ := h
        obtain ⟨⟨k, f, e⟩, k1, km, d1⟩ := get_tri hda hx
        obtain ⟨p, rfl, hp⟩ := dp_tri (dp_same l'.same _ _ d1)
        have iw := ok.all _ km
        obtain ⟨f', rfl⟩ : ∃ m : Nat, f = m := ⟨f.toNat, (Int.toNat_of_nonneg iw.f0).symm⟩
        obtain ⟨e', rfl⟩ : ∃ m : Nat, e = m := ⟨e.toNat, (Int.toNat_of_nonneg iw.e0).symm⟩
        have hf : f' < n := Int.ofNat_lt.mp iw.fn
        have he : e' < n := Int.ofNat_lt.mp iw.en
        have hk1 : In 6 k := ⟨by have : (0 : Int) ≤ k := iw.k0; omega, by have : k ≤ 2 := iw.k2; omega⟩
        have hk2 : In 6 (-1 - k) := ⟨by have : k ≤ 2 := iw.k2; omega, by have : (0 : Int) ≤ k := iw.k0; omega⟩
        refine ⟨p, [.int k, .int f', .int e'], rfl, hp, rfl, .int k, _, rfl, .int f', _, rfl, .int e', _, rfl, rfl, ?_⟩
        obtain ⟨kvs, hkd, _, hkv⟩ := l'.dict
        have len0 : ∀ (L : Int → Nat → List Int) (w : Int) (x : Nat) (j : Nat), L w x = ledS (A.take j) w x → ((L w x).map V.int).length ≤ 1000 := fun L w x j h => by
          rw [List.length_map, h]
          exact Nat.le_trans (List.length_filterMap_le _ _) (Nat.le_trans (List.length_take_le' _ _) ok.len)
        refine ⟨.ref d, rfl, .int k, rfl, d, .ref (r k), rfl, dget hkd (hkv k hk1), .int f', rfl, r k, _, f', .ref (c k f'), rfl, rfl, SqL.of (l'.row k hk1), atI_nat (by rw [List.getElem?_map, range_get hf]; rfl), ?_⟩
        refine ⟨.inl ⟨rfl, _, SqL.of (l'.cell k f' hk1 hf)⟩, .int e', rfl, c k f', _, .int e', rfl, rfl, l'.cell k f' hk1 hf, small (m := 1000) (len0 L k f' i (hL k f' hk1 hf)), ?_⟩
        have l2 := l'.add hk1 hf (e' : Int)
        obtain ⟨kvs2, hkd2, _, hkv2⟩ := l2.dict
        refine ⟨.ref d, rfl, .int k, rfl, k, rfl, d, .ref (r (-1 - k)), rfl, dget hkd2 (hkv2 (-1 - k) hk2), .int e', rfl, r (-1 - k), _, e', .ref (c (-1 - k) e'), rfl, rfl, SqL.of (l2.row (-1 - k) hk2), atI_nat (by rw [List.getElem?_map, range_get he]; rfl), ?_⟩
        have hne : ¬ (-1 - k = k ∧ e' = f') := fun z => by have := z.1; omega
        refine ⟨.inl ⟨rfl, _, SqL.of (l2.cell (-1 - k) e' hk2 he)⟩, .int f', rfl, c (-1 - k) e', _, .int f', rfl, rfl, l2.cell (-1 - k) e' hk2 he, ?_, ?_⟩
        · rw [if_neg hne]
          exact small (m := 1000) (len0 L (-1 - k) e' i (hL (-1 - k) e' hk2 he))
        · refine ⟨_, _, _, rfl, _, l2.add hk2 he (f' : Int), fun w x hw hx => ?_⟩
          have et : A.take (i + 1) = A.take i ++ [(k, (f' : Int), (e' : Int))] := by
            rw [List.take_add_one, k1]
            rfl
          rw [et, ledS_snoc, ← hL w x hw hx]
          have k0 : (0 : Int) ≤ k := iw.k0
          unfold ledF
          by_cases h0 : 0 ≤ w
          · rw [if_pos h0]
            have z2 : ¬ (w = -1 - k ∧ x = e') := fun z => by have := z.1; omega
            rw [if_neg z2]
            by_cases z1 : w = k ∧ x = f'
            · rw [if_pos z1, if_pos ⟨z1.1.symm, by show (f' : Int) = (x : Int); rw [z1.2]⟩]
              rfl
            · rw [if_neg z1, if_neg (fun z => z1 ⟨z.1.symm, (Int.ofNat.inj z.2).symm⟩)]
              exact (List.append_nil _).symm
          · rw [if_neg h0]
            have z1 : ¬ (w = k ∧ x = f') := fun z => by have := z.1; omega
            by_cases z2 : w = -1 - k ∧ x = e'
            · rw [if_pos z2, if_neg z1, if_pos ⟨by show k = -1 - w; have := z2.1; omega, by show (e' : Int) = (x : Int); rw [z2.2]⟩]
              rfl
            · rw [if_neg z2, if_neg z1, if_neg (fun z => z2 ⟨by have h1 : k = -1 - w := z.1; omega, (Int.ofNat.inj z.2).symm⟩)]
              exact (List.append_nil _).symm
      · obtain ⟨y4, y5, y6, rfl, L, l', hL⟩ := h
        have hlen := dps_len hda
        rw [List.length_map] at hlen
        refine ⟨.ref d, rfl, q H' d r c L l' fun w x hw hx => ?_⟩
        rw [hL w x hw hx, hlen, List.take_length]
end
end K0

namespace K0
open PySem PySem.Spec PyProof.Rows L2 W0 W1 W2

/-! ### triples in order -/
theorem lt3_iff {s t : T3} : lt3 s t ↔ s.1 < t.1 ∨ (s.1 = t.1 ∧ (s.2.1 < t.2.1 ∨ (s.2.1 = t.2.1 ∧ s.2.2 < t.2.2))) := by
  unfold lt3 tri
  rw [HT.lexLt_cons, HT.lexLt_cons, HT.lexLt_cons, HT.lexLt_nil_nil]
  by_cases a : s.1 = t.1
  · rw [if_pos a]
    by_cases b : s.2.1 = t.2.1
    · rw [if_pos b]
      by_cases c : s.2.2 = t.2.2
      · rw [if_pos c]
        constructor
        · intro z
          cases z
        · intro z
          omega
      · rw [if_neg c, decide_eq_true_eq]
        omega
    · rw [if_neg b, decide_eq_true_eq]
      omega
  · rw [if_neg a, decide_eq_true_eq]
    omega
def le3 (s t : T3) : Prop := HT.lexLt (tri t) (tri s) = false
theorem le3_iff {s t : T3} : le3 s t ↔ ¬ lt3 t s := by
  unfold le3 lt3
  cases HT.lexLt (tri t) (tri s) <;> simp
theorem T3.ext' {s t : T3} (a : s.1 = t.1) (b : s.2.1 = t.2.1) (c : s.2.2 = t.2.2) : s = t := Prod.ext a (Prod.ext b c)
theorem lt_of_le {s t : T3} (h : le3 s t) (n : s ≠ t) : lt3 s t := by
  have h1 := mt lt3_iff.mpr (le3_iff.mp h)
  refine lt3_iff.mpr ?_
  have h2 : ¬ (s.1 = t.1 ∧ s.2.1 = t.2.1 ∧ s.2.2 = t.2.2) := fun z => n (T3.ext' z.1 z.2.1 z.2.2)
  omega
theorem lt3_ne {s t : T3} (h : lt3 s t) : s ≠ t := by
  intro e
  subst e
  have := lt3_iff.mp h
  omega
theorem asc_nodup {A : List T3} (h : A.Pairwise lt3) : A.Nodup := List.Pairwise.imp (fun h => lt3_ne h) h
theorem asc_of {A : List T3} (h : A.Pairwise le3) (n : A.Nodup) : A.Pairwise lt3 := by
  refine List.Pairwise.imp₂ (fun a b h1 h2 => lt_of_le h1 h2) h n
def turn (t : T3) : T3 := (t.1, t.2.2, t.2.1)
theorem turn_turn (t : T3) : turn (turn t) = t := rfl
theorem map_nodup {α β : Type} {f : α → β} (inj : ∀ a b, f a = f b → a = b) : ∀ {l : List α}, l.Nodup → (l.map f).Nodup
  | [], _ => List.nodup_nil
  | a :: l, h => by
    obtain ⟨h1, h2⟩ := List.nodup_cons.mp h
    refine List.nodup_cons.mpr ⟨fun m => ?_, map_nodup inj h2⟩
    obtain ⟨b, hb, e⟩ := List.mem_map.mp m
    rw [inj b a e] at hb
    exact h1 hb
theorem wok_turned {n : Int} {A B : List T3} (ok : WOk n A) (p : B.Perm (A.map turn)) (h : B.Pairwise le3) : WOk n B := by
  refine ⟨ok.n1, ok.n2, by rw [p.length_eq, List.length_map]; exact ok.len, fun t ht => ?_, asc_of h (p.nodup_iff.mpr (map_nodup (fun a b e => by rw [← turn_turn a, e, turn_turn]) (asc_nodup ok.asc)))⟩
  obtain ⟨s, hs, rfl⟩ := List.mem_map.mp (p.mem_iff.mp ht)
  have i := ok.all s hs
  exact ⟨i.k0, i.k2, i.e0, i.en, i.f0, i.fn⟩

/-! ### lists of triples in the heap -/
def Trs (K : PySem.W.Frag) (H : Hp) (D : Addr) (B : List T3) : Prop := ∃ ts : List (Addr × List Int), H D = some (.lst (ts.map fun p => V.ref p.1)) ∧ ts.map (·.2) = B.map tri ∧ ∀ p ∈ ts, SqT K H p.1 (p.2.map V.int)
theorem Trs.nil {K : PySem.W.Frag} {H : Hp} {D : Addr} : Trs K (upd H D (.lst [])) D [] := ⟨[], upd_same, rfl, fun p h => (List.not_mem_nil h).elim⟩
theorem Trs.len {K : PySem.W.Frag} {H : Hp} {D : Addr} {B : List T3} {acc : List V} (h : Trs K H D B) (e : H D = some (.lst acc)) : acc.length = B.length := by
  obtain ⟨ts, e2, m, _⟩ := h
  rw [e] at e2
  cases e2
  have := congrArg List.length m
  rw [List.length_map, List.length_map] at this
  rw [List.length_map, this]
theorem Trs.acc {K : PySem.W.Frag} {H : Hp} {D : Addr} {B : List T3} (h : Trs K H D B) : ∃ acc, H D = some (.lst acc) ∧ acc.length = B.length := by
  obtain ⟨ts, e2, m, r⟩ := id h
  exact ⟨_, e2, h.len e2⟩
theorem sqT_upd {K : PySem.W.Frag} {H : Hp} {D p : Addr} {acc : List V} {o : HO} {xs : List V} (e : H D = some (.lst acc)) (h : SqT K H p xs) : SqT K (upd H D o) p xs := by
  rcases h with (h | ⟨ob, h⟩) | h
  · exact .inl (.inl ((upd_ne (ne_of h e (by intro z; cases z))).trans h))
  · exact .inl (.inr ⟨ob, (upd_ne (ne_of h e (by intro z; cases z))).trans h⟩)
  · exact .inr h
theorem Trs.same {K : PySem.W.Frag} {H H' : Hp} {D : Addr} {B : List T3} (h : Trs K H D B) (e : Same H H') : Trs K H' D B := by
  obtain ⟨ts, e2, m, r⟩ := h
  exact ⟨ts, e _ _ e2, m, fun p hp => same_tup e (r p hp)⟩
theorem Trs.push {K : PySem.W.Frag} {H : Hp} {D p : Addr} {B : List T3} {acc : List V} {t : T3} (h : Trs K H D B) (e : H D = some (.lst acc)) (hp : SqT K H p ((tri t).map V.int)) : Trs K (upd H D (.lst (acc ++ [.ref p]))) D (B ++ [t]) := by
  obtain ⟨ts, e2, m, r⟩ := h
  rw [e] at e2
  cases e2
  refine ⟨ts ++ [(p, tri t)], ?_, ?_, fun q hq => ?_⟩
  · rw [upd_same, List.map_append]
    rfl
  · rw [List.map_append, List.map_append, m]
    rfl
  · refine sqT_upd e ?_
    rcases List.mem_append.mp hq with hq | hq
    · exact r q hq
    · rw [List.mem_singleton.mp hq]
      exact hp
def unTri (l : List Int) : T3 := (l.getD 0 0, l.getD 1 0, l.getD 2 0)
theorem unTri_tri (t : T3) : unTri (tri t) = t := rfl
theorem trs_data {K : PySem.W.Frag} {H : Hp} {B : List T3} : ∀ {ts : List (Addr × List Int)}, ts.map (·.2) = B.map tri → (∀ p ∈ ts, SqT K H p.1 (p.2.map V.int)) → DpAll K H (ts.map fun p => V.ref p.1) (B.map dTri) := by
  induction B with
  | nil =>
    intro ts m _
    rw [List.map_eq_nil_iff.mp m]
    exact .nil
  | cons t B ih =>
    intro ts m r
    cases ts with
    | nil => cases m
    | cons p ts =>
      have m1 : p.2 = tri t := (List.cons.inj m).1
      refine .cons (dp_of_ints (l := tri t) ?_) (ih (List.cons.inj m).2 fun q hq => r q (List.mem_cons_of_mem _ hq))
      rw [← m1]
      exact r p List.mem_cons_self
theorem sorted_trs {K : PySem.W.Frag} {H : Hp} {D : Addr} {B : List T3} {Q : VK} (h : Trs K H D B) (q : ∀ p C H', Same H H' → Trs K H' p C → C.Perm B → C.Pairwise le3 → Q (.ref p) H') : rSortT K [.ref D] H Q := by
  obtain ⟨ts, e, m, r⟩ := h
  have tr : ∀ p ∈ ts, ∃ t ∈ B, p.2 = tri t := fun p hp => by
    have h1 : p.2 ∈ ts.map (·.2) := List.mem_map.mpr ⟨p, hp, rfl⟩
    rw [m] at h1
    obtain ⟨t, ht, e⟩ := List.mem_map.mp h1
    exact ⟨t, ht, e.symm⟩
  refine ⟨D, ts, rfl, SqL.of e, fun p hp => ⟨r p hp, ?_⟩, fun us p pm srt np => ?_⟩
  · obtain ⟨t, _, e⟩ := tr p hp
    rw [e]
    exact List.cons_ne_nil _ _
  · have e1 : us.map (·.2) = ((us.map (·.2)).map unTri).map tri := by
      rw [List.map_map]
      conv => lhs; rw [← List.map_id (us.map (·.2))]
      refine List.map_congr_left fun l hl => ?_
      obtain ⟨p, hp, e⟩ := List.mem_map.mp hl
      obtain ⟨t, _, e2⟩ := tr p (pm.mem_iff.mp hp)
      rw [← e, e2]
      rfl
    have e2 : ((us.map (·.2)).map unTri).Perm B := by
      have h1 := (pm.map (·.2)).map unTri
      have h2 : (B.map tri).map unTri = B := by
        rw [List.map_map]
        exact List.map_id'' (fun t => unTri_tri t) B
      rw [m, h2] at h1
      exact h1
    refine q p _ _ (same_new np) ⟨us, upd_same, e1, fun x hx => same_tup (same_new np) (r x (pm.mem_iff.mp hx))⟩ e2 ?_
    rw [e1] at srt
    have h3 := List.pairwise_map.mp srt
    exact h3
theorem tuple_trs {K : PySem.W.Frag} {H : Hp} {D : Addr} {C : List T3} {Q : VK} (h : Trs K H D C) (q : ∀ t H', Same H H' → Dp K H' (.ref t) (dArr C) → Q (.ref t) H') :
    rTup K [V.ref D] H Q := by
  obtain ⟨ts, e, m, r⟩ := h
  refine ⟨D, _, rfl, .inl ⟨SqL.of e, fun l nl => q l _ (same_new nl) ?_⟩⟩
  exact dp_mk nl (trs_data m r)
theorem dp_mkweb {K : PySem.W.Frag} {H : Hp} {p b : Addr} {n : Int} {C : List T3} (np : H p = none) (h : Dp K H (.ref b) (dArr C)) : Dp K (upd H p (.tup [.int n, .ref b])) (.ref p) (dWeb n C) := dp_mk np (.cons (.int n) (.cons h .nil))

section
variable {P : Program} {w : World} {K : PySem.W.Frag} {mg : Str → Option Value} {base : Heap}
def sp_led_to (K : PySem.W.Frag) : Sp := fun vs H Q _ => ∃ (v : V) (n : Nat) (A : List T3) (w : Int) (x : Nat), vs = [v, .int w, .int x] ∧ Dp K H v (dWeb n A) ∧ WOk n A ∧ In 6 w ∧ x < n ∧ ∀ H' p, Same H H' → SqT K H' p ((ledS A w x).map V.int) → Q (.ref p) H'
def sp_web_turned (K : PySem.W.Frag) : Sp := fun vs H Q _ => ∃ (v : V) (n : Int) (A : List T3), vs = [v] ∧ Dp K H v (dWeb n A) ∧ WOk n A ∧ ∀ H' v' B, Same H H' → Dp K H' v' (dWeb n B) → B.Perm (A.map turn) → B.Pairwise le3 → Q v' H'
end
end K0

namespace K0
open PySem PySem.Spec PyProof.Rows L2 W0 W1 W2

/-! ### the draws' state -/
structure StAt (K : PySem.W.Frag) (H : Hp) (st c l : Addr) (B : Nat) : Prop where
  ex : ∃ (kvs : List (Key × V)) (cells lefts : List Int) (at' : Nat), H st = some (.dK kvs) ∧ kvs.length ≤ 3 ∧ valV kvs (Sum.inr "cells") = some (.ref c) ∧ valV kvs (Sum.inr "lefts") = some (.ref l) ∧ valV kvs (Sum.inr "at") = some (.int at') ∧
    H c = some (.lst (cells.map V.int)) ∧ H l = some (.lst (lefts.map V.int)) ∧ cells ≠ [] ∧ lefts.length = cells.length ∧ at' ≤ B
  apart : c ≠ l
theorem StAt.mono {K : PySem.W.Frag} {H : Hp} {st c l : Addr} {B B' : Nat} (h : StAt K H st c l B) (hb : B ≤ B') : StAt K H st c l B' := by
  obtain ⟨kvs, cells, lefts, a, h1, h2, h3, h4, h5, h6, h7, h8, h9, h10⟩ := h.ex
  exact ⟨⟨kvs, cells, lefts, a, h1, h2, h3, h4, h5, h6, h7, h8, h9, Nat.le_trans h10 hb⟩, h.apart⟩
theorem StAt.same {K : PySem.W.Frag} {H H' : Hp} {st c l : Addr} {B : Nat} (h : StAt K H st c l B) (e : Same H H') : StAt K H' st c l B := by
  obtain ⟨kvs, cells, lefts, a, h1, h2, h3, h4, h5, h6, h7, h8, h9, h10⟩ := h.ex
  exact ⟨⟨kvs, cells, lefts, a, e _ _ h1, h2, h3, h4, h5, e _ _ h6, e _ _ h7, h8, h9, h10⟩, h.apart⟩
/-- all but the state's dict and its list -/
def Off (st l : Addr) (H H' : Hp) : Prop := ∀ b, b ≠ st → b ≠ l → H' b = H b
theorem sget {H : Hp} {d : Addr} {kvs : List (Key × V)} {k : Str} {v : V} (h : H d = some (.dK kvs)) (e : valV kvs (Sum.inr k) = some v) : DGet H d (.str k) (some v) := by
  rw [← e]
  exact DGet.k (k := Sum.inr k) h

section
variable {P : Program} {w : World} {K : PySem.W.Frag} {mg : Str → Option Value} {base : Heap}
def sp_mixed : Sp := fun vs H Q _ => ∃ (c : Int) (k : Nat), vs = [.int c, .int k] ∧ k ≤ 1000000 ∧ ∀ r : Int, 0 ≤ r → r < 2147483629 → Q (.int r) H
theorem ok__law_mixed (T : Tops K w mg) : FnOk P w K mg base CX0 1 T.a__law_mixed T.fd__law_mixed p__law_mixed sp_mixed := by
  have S := sc__law_mixed
  refine T.F__law_mixed.ok S (fun vs H Q E h => ?_) (fun cdv AA outer s H vs Q E hr h => ?_)
  · obtain ⟨c, k, rfl, _⟩ := h
    rfl
  · obtain ⟨c, k, rfl, hk, q⟩ := h
    refine ⟨_, (pss_cons (ps_set (i := 0) S.nd rfl (Or.inl rfl) (pe_op op_mod (pe_callTy call_int1 (by rfl) T.m_int (by decide +kernel) (pa_cons (pv 0) pa_nil)) pe_int))
      (pss_one (ps_ret (pe_op op_mod (pe_op op_mul (pe_op op_mod (pe_op op_add (pe_op op_add (pe_op op_mul (pv 0) (pe_op op_add pe_int (pe_op op_mul (pe_op op_mul pe_int (pv 1)) (pv 1)))) (pe_op op_mul pe_int (pv 1))) pe_int) pe_int) pe_int) pe_int)))), ?_⟩
    have h1 : 0 ≤ c % 2147483647 := Int.emod_nonneg _ (by decide)
    have h2 : c % 2147483647 < 2147483647 := Int.emod_lt_of_pos _ (by decide)
    have hk' : (k : Int) ≤ 1000000 := by omega
    have g1 : ∀ z : Int, 0 ≤ z % 2147483647 := fun z => Int.emod_nonneg _ (by decide)
    have g2 : ∀ z : Int, z % 2147483647 < 2147483647 := fun z => Int.emod_lt_of_pos _ (by decide)
    have p1 : (0 : Int) < 2147483647 := by decide
    have p2 : (0 : Int) < 2147483629 := by decide
    refine ⟨.int c, rfl, .inl ⟨c, rfl, _, _, rfl, rfl, p1, ?_⟩⟩
    refine ⟨.int (c % 2147483647), rfl, .int k, rfl, 2, k, rfl, rfl, .inl ⟨by decide, by decide⟩, .int k, rfl, 2 * k, k, rfl, rfl, .inl ⟨by omega, by omega⟩, 48271, _, rfl, rfl, c % 2147483647, _, rfl, rfl, .inl ⟨by omega, by omega⟩, .int k, rfl, 69621, k, rfl, rfl, .inl ⟨by decide, by decide⟩, _, _, rfl, rfl, _, 11, rfl, rfl, _, 2147483647, rfl, rfl, p1, ?_⟩
    refine ⟨_, 69621, rfl, rfl, .inl ⟨?_, ?_⟩, _, 2147483629, rfl, rfl, p2, q _ (Int.emod_nonneg _ (by decide)) (Int.emod_lt_of_pos _ (by decide))⟩
    · exact Int.lt_of_lt_of_le (by decide) (g1 _)
    · exact Int.lt_trans (g2 _) (by decide)

def sp_draw (K : PySem.W.Frag) : Sp := fun vs H Q _ => ∃ (st c l : Addr) (B : Nat) (m : Int), vs = [.ref st, .int m] ∧ 0 < m ∧ m < 1000 ∧ StAt K H st c l B ∧ B ≤ 100000 ∧ ∀ H' (i : Int), 0 ≤ i → i < m → StAt K H' st c l (B + 1) → Off st l H H' → Q (.int i) H'
theorem ok__law_draw (T : Tops K w mg) : FnOk P w K mg base CX0 2 T.a__law_draw T.fd__law_draw p__law_draw (sp_draw K) := by
  have S := sc__law_draw
  refine T.F__law_draw.ok S (fun vs H Q E h => ?_) (fun cdv AA outer s H vs Q E hr h => ?_)
  · obtain ⟨st, c, l, B, m, rfl, _⟩ := h
    rfl
  · obtain ⟨st, c, l, B, m, rfl, hm0, hm1, hst, hB, q⟩ := h
    refine ⟨_, (pss_cons (ps_set (i := 2) S.nd rfl (Or.inl rfl) (pe_dget (hu_of hr) (pv 0) pe_str (fun _ _ => rfl)))
      (pss_cons (ps_dput (hu_of hr) (pv 0) pe_str (pe_op op_add (pv 2) pe_int) rfl)
      (pss_cons (ps_set (i := 3) S.nd rfl (Or.inl rfl) (pe_op op_mod (pe_callTy call_int1 (by rfl) T.m_int (by decide +kernel) (pa_cons (pv 2) pa_nil)) (pe_callB call_len_seq (by rfl) T.m_len (by decide +kernel) (pa_cons (pe_dget (hu_of hr) (pv 0) pe_str (fun _ _ => rfl)) pa_nil))))
      (pss_cons (ps_set (i := 4) S.nd rfl (Or.inl rfl) (pe_ix (ix_listK (K := K)) (pe_dget (hu_of hr) (pv 0) pe_str (fun _ _ => rfl)) (pv 3) (fun _ _ => rfl)))
      (pss_cons (ps_if (pt_cmpR op_gt (pv 4) pe_int (nomark _)) (pss_cons (ps_asg (pe_op op_fdiv (pv 4) (pv 1)) (pg_sub (pe_dget (hu_of hr) (pv 0) pe_str (fun _ _ => rfl)) (pv 3) set_list))
      (pss_one (ps_ret (pe_op op_mod (pe_callTy call_int1 (by rfl) T.m_int (by decide +kernel) (pa_cons (pv 4) pa_nil)) (pv 1))))) pss_nil)
      (pss_cons (ps_set (i := 5) S.nd rfl (Or.inl rfl) (pe_call (ok__law_mixed T) (hr.mono (by first | decide | omega)) (by rfl) T.g__law_mixed T.F__law_mixed.kp T.b__law_mixed .nil pass0 (pa_cons (pe_call (ok__law_mixed T) (hr.mono (by first | decide | omega)) (by rfl) T.g__law_mixed T.F__law_mixed.kp T.b__law_mixed .nil pass0 (pa_cons (pe_ix (ix_listK (K := K)) (pe_dget (hu_of hr) (pv 0) pe_str (fun _ _ => rfl)) (pv 3) (fun _ _ => rfl)) (pa_cons (pv 2) pa_nil))) (pa_cons (pe_op op_add pe_int (pv 2)) pa_nil))))
      (pss_one (ps_ret (pe_op op_mod (pe_op op_fdiv (pe_callTy call_int1 (by rfl) T.m_int (by decide +kernel) (pa_cons (pe_op op_add (pe_op op_mul (pv 5) pe_int) (pe_call (ok__law_mixed T) (hr.mono (by first | decide | omega)) (by rfl) T.g__law_mixed T.F__law_mixed.kp T.b__law_mixed .nil pass0 (pa_cons (pv 5) (pa_cons (pe_op op_add pe_int (pv 2)) pa_nil)))) pa_nil)) pe_int) (pv 1)))))))))), ?_⟩
    obtain ⟨kvs, cells, lefts, a, h1, h2, h3, h4, h5, h6, h7, h8, h9, h10⟩ := hst.ex
    have nsc : st ≠ c := ne_of h1 h6 (by intro z; cases z)
    have nsl : st ≠ l := ne_of h1 h7 (by intro z; cases z)
    have hpos : 0 < cells.length := List.length_pos_iff.mpr h8
    -- at = state['at']; state['at'] = at + 1
    refine ⟨.ref st, rfl, st, .int a, rfl, sget h1 h5, ?_⟩
    refine ⟨.int a, rfl, a, 1, rfl, rfl, .ref st, rfl, st, _, rfl, DPut.k (k := Sum.inr "at") h1 (small (m := 3) h2), ?_⟩
    generalize hk2 : putK kvs (Sum.inr "at") (.int ((a : Int) + 1)) = kvs2
    have v1 : valV kvs2 (Sum.inr "cells") = some (.ref c) := by
      rw [← hk2, valV_put, if_neg (by decide), h3]
    have v2 : valV kvs2 (Sum.inr "lefts") = some (.ref l) := by
      rw [← hk2, valV_put, if_neg (by decide), h4]
    have v3 : valV kvs2 (Sum.inr "at") = some (.int ((a + 1 : Nat) : Int)) := by
      rw [← hk2, valV_put, if_pos rfl]
      rfl
    have hk3 : kvs2.length ≤ 3 := by
      rw [← hk2]
      unfold putK
      rw [valV_any, h5]
      simp only [Option.isSome_some, if_true, List.length_map]
      exact h2
    have e1 : upd H st (.dK kvs2) st = some (.dK kvs2) := upd_same
    have ec : upd H st (.dK kvs2) c = some (.lst (cells.map V.int)) := (upd_ne nsc.symm).trans h6
    have el : upd H st (.dK kvs2) l = some (.lst (lefts.map V.int)) := (upd_ne nsl.symm).trans h7
    have off1 : Off st l H (upd H st (.dK kvs2)) := fun b hb _ => upd_ne hb
    have st1 : StAt K (upd H st (.dK kvs2)) st c l (B + 1) := ⟨⟨kvs2, cells, lefts, a + 1, e1, hk3, v1, v2, v3, ec, el, h8, h9, Nat.succ_le_succ h10⟩, hst.apart⟩
    generalize upd H st (.dK kvs2) = H1 at e1 ec el off1 st1 ⊢
    -- spot
    refine ⟨.int a, rfl, .inl ⟨a, rfl, .ref st, rfl, st, .ref c, rfl, sget e1 v1, c, _, rfl, .inl (SqL.of ec), a, _, rfl, rfl, ?_, ?_⟩⟩
    · rw [List.length_map]
      show (0 : Int) < (cells.length : Int)
      omega
    rw [List.length_map]
    dsimp only
    have hs0 : 0 ≤ (a : Int) % (cells.length : Int) := Int.emod_nonneg _ (by omega)
    have hs1 : (a : Int) % (cells.length : Int) < cells.length := Int.emod_lt_of_pos _ (by omega)
    generalize (a : Int) % (cells.length : Int) = sp at hs0 hs1
    obtain ⟨j, rfl⟩ : ∃ j : Nat, sp = j := ⟨sp.toNat, (Int.toNat_of_nonneg hs0).symm⟩
    have hj : j < cells.length := by omega
    have hjl : j < lefts.length := by omega
    -- left
    refine ⟨.ref st, rfl, st, .ref l, rfl, sget e1 v2, .int j, rfl, l, _, j, .int lefts[j], rfl, rfl, SqL.of el, atI_nat (by rw [List.getElem?_map, List.getElem?_eq_getElem hjl]; rfl), ?_⟩
    refine ⟨.int lefts[j], rfl, lefts[j], 0, rfl, rfl, _, rfl, ite2 (fun hp => ?_) (fun hp => ?_)⟩
    · -- state['lefts'][spot] = left // limit
      refine ⟨.int lefts[j], rfl, .int m, rfl, lefts[j], m, rfl, rfl, ⟨hm0, by omega⟩, .ref st, rfl, st, .ref l, rfl, sget e1 v2, .int j, rfl, l, _, j, j, rfl, rfl, el, ?_, ?_⟩
      · unfold ixN
        rw [if_pos (Int.natCast_nonneg j), List.length_map, if_pos (Int.ofNat_lt.mpr hjl)]
        rfl
      · refine ⟨.int lefts[j], rfl, .inl ⟨lefts[j], rfl, .int m, rfl, _, m, rfl, rfl, hm0, q _ _ (Int.emod_nonneg _ (by omega)) (Int.emod_lt_of_pos _ hm0) ?_ ?_⟩⟩
        · refine ⟨⟨kvs2, cells, lefts.set j (lefts[j] / m), a + 1, (upd_ne nsl).trans e1, hk3, v1, v2, v3, (upd_ne hst.apart).trans ec, ?_, h8, ?_, Nat.succ_le_succ h10⟩, hst.apart⟩
          · rw [upd_same, List.map_set]
          · rw [List.length_set]
            exact h9
        · intro b hb hb2
          rw [upd_ne hb2]
          exact off1 b hb hb2
    · -- by the number of the draw
      have ha : (a : Int) ≤ 100000 := by omega
      refine ⟨.ref st, rfl, st, .ref c, rfl, sget e1 v1, .int j, rfl, c, _, j, .int cells[j], rfl, rfl, SqL.of ec, atI_nat (by rw [List.getElem?_map, List.getElem?_eq_getElem hj]; rfl), ?_⟩
      refine ⟨.int a, rfl, cells[j], a, rfl, by omega, fun r hr0 hr1 => ?_⟩
      refine ⟨.int a, rfl, 40, a, rfl, rfl, r, 40 + a, by rw [Int.natCast_add]; rfl, by omega, fun r2 h20 h21 => ?_⟩
      refine ⟨.int r2, rfl, r2, 2147483647, rfl, rfl, .inl ⟨by omega, by omega⟩, .int r2, rfl, .int a, rfl, 7, a, rfl, rfl, r2, 7 + a, by rw [Int.natCast_add]; rfl, by omega, fun r3 h30 h31 => ?_⟩
      refine ⟨_, r3, rfl, rfl, .inl ⟨_, rfl, _, 64, rfl, rfl, ⟨by decide, by decide⟩, .int m, rfl, _, m, rfl, rfl, hm0, ?_⟩⟩
      exact q H1 _ (Int.emod_nonneg _ (by omega)) (Int.emod_lt_of_pos _ hm0) st1 off1
end
end K0

namespace K0
open PySem PySem.Spec PyProof.Rows L2 W0 W1 W2
theorem fine_ints (ns : List Int) : (PyData.list (ns.map PyData.int)).canLay0 = true ∧ (PyData.list (ns.map PyData.int)).depth ≤ 64 := by
  refine ⟨all_lay fun d h => ?_, Nat.le_trans (Nat.succ_le_succ (all_dep (k := 0) fun d h => ?_)) (by decide)⟩
  · obtain ⟨i, _, rfl⟩ := List.mem_map.mp h
    rfl
  · obtain ⟨i, _, rfl⟩ := List.mem_map.mp h
    exact Nat.le_refl _
theorem shaped_ints (ns : List Int) : SeqAt.shaped (PyData.list (ns.map PyData.int)) = true := by
  unfold SeqAt.shaped
  rw [(fine_ints ns).1, Bool.true_and]
  exact decide_eq_true (fine_ints ns).2
def begun (c l : Addr) : List (Key × V) := [(Sum.inr "cells", V.ref c), (Sum.inr "lefts", V.ref l), (Sum.inr "at", V.int 0)]
theorem begun_facts (c l : Addr) : (mergeK [] (begun c l)).length ≤ 3 ∧ valV (mergeK [] (begun c l)) (Sum.inr "cells") = some (.ref c) ∧ valV (mergeK [] (begun c l)) (Sum.inr "lefts") = some (.ref l) ∧ valV (mergeK [] (begun c l)) (Sum.inr "at") = some (.int 0) := by
  have e : mergeK [] (begun c l) = putK (putK (putK ([] : List (Key × V)) (Sum.inr "cells") (.ref c)) (Sum.inr "lefts") (.ref l)) (Sum.inr "at") (.int 0) := rfl
  rw [e]
  refine ⟨?_, ?_, ?_, ?_⟩
  · exact Nat.le_trans (length_putK _ _ _) (Nat.succ_le_succ (Nat.le_trans (length_putK _ _ _) (Nat.succ_le_succ (length_putK _ _ _))))
  · rw [valV_put, if_neg (by decide), valV_put, if_neg (by decide), valV_put, if_pos rfl]
  · rw [valV_put, if_neg (by decide), valV_put, if_pos rfl]
  · rw [valV_put, if_pos rfl]
section
variable {P : Program} {w : World} {K : PySem.W.Frag} {mg : Str → Option Value} {base : Heap}
def sp_begin (K : PySem.W.Frag) : Sp := fun vs H Q _ => ∃ (a : Addr) (ns : List Int), vs = [.ref a] ∧ SqL K H a (ns.map V.int) ∧ ns.length ≤ 63 ∧ ∀ H' st c l, Same H H' → StAt K H' st c l 0 → H st = none → H l = none → Q (.ref st) H'
theorem ok__law_begin (T : Tops K w mg) : FnOk P w K mg base CX0 1 T.a__law_begin T.fd__law_begin p__law_begin (sp_begin K) := by
  have S := sc__law_begin
  refine T.F__law_begin.ok S (fun vs H Q E h => ?_) (fun cdv AA outer s H vs Q E hr h => ?_)
  · obtain ⟨a, ns, rfl, _⟩ := h
    rfl
  · obtain ⟨a, ns, rfl, hs, hn, q⟩ := h
    refine ⟨_, (pss_cons (ps_set (i := 1) S.nd rfl (Or.inl rfl) (pe_ifExp (pt_cmpR (op_neD hr.units) (pv 0) (pe_lst pa_nil) (nomark _)) (pe_callTy call_list_of (by rfl) T.m_list (by decide +kernel) (pa_cons (pv 0) pa_nil)) (pe_lst (pa_cons pe_int pa_nil))))
      (pss_one (ps_ret (pe_disp (pps_cons pe_str (pv 1) (pps_cons pe_str (pe_lc (own := [("cell", 2)]) rfl S.nd (pi_list (pv 1)) (blkOk_by (N := n__law_begin) (sc := defScope s__law_begin) (by decide +kernel)) (fun _ _ _ _ _ => (pg_name (i := 2) S.nd rfl (Or.inl rfl))) (fun _ _ _ _ _ => pts_nil) (fun _ _ _ _ _ => (pe_ifExp (pt_cmpR op_ge (pv 2) (pe_op op_pow pe_int pe_int) (nomark _)) (pv 2) pe_int))) (pps_cons pe_str pe_int pps_nil))) (by rfl) (by rfl) (fun z => by cases z) (by decide))))), ?_⟩
    have rest : ∀ (c : Addr) (H1 : Hp) (cells : List Int), Same H H1 → H1 c = some (.lst (cells.map V.int)) → cells ≠ [] → cells.length ≤ 63 →
        tRet (tDisp [(tC (V.str "cells"), tVar 1), (tC (V.str "lefts"), tLc (iList K (tVar 1)) (gName 2) tYes (tIf (tTest (tOp (rI0 fun i j => V.bl (decide (j ≤ i))) (tVar 2) (tOp (rI CPow fun i j => V.int (i ^ j.toNat)) (tC (V.int 10)) (tC (V.int 18))))) (tVar 2) (tC (V.int 0))) [2]), (tC (V.str "at"), tC (V.int 0))])
          { nx := fun _ H' => Q .non H', rt := Q } [some (.ref a), some (.ref c), none] H1 := by
      intro c H1 cells e1 hcc hne hl63 st nst
      refine ⟨.ref c, rfl, .ref c, rfl, c, rfl, ⟨_, SqL.of ((upd_ne (ne_of_none hcc nst)).trans hcc)⟩, fun l nl => ?_⟩
      have hcc2 : upd H1 st (.dK []) c = some (.lst (cells.map V.int)) := (upd_ne (ne_of_none hcc nst)).trans hcc
      have hst2 : upd H1 st (.dK []) st = some (.dK []) := upd_same
      have e2 : Same H (upd H1 st (.dK [])) := e1.trans (same_new nst)
      have nstH : H st = none := e1.free nst
      generalize upd H1 st (.dK []) = H2 at nl hcc2 hst2 e2
      refine lc_list (K := K) (a := c) (xs := cells.map V.int) (fun i H' => Same H2 H' ∧ ∃ ls : List Int, ls.length = i ∧ H' l = some (.lst (ls.map V.int))) ⟨same_new nl, [], rfl, upd_same⟩ (fun i H' _ h => SqL.of (h.1 _ _ hcc2)) (fun i x H' hx hp => ?_) (fun H' hp => ?_)
      · rw [List.getElem?_map] at hx
        obtain ⟨k, hk, rfl⟩ := Option.map_eq_some_iff.mp hx
        obtain ⟨e3, ls, hls, hll⟩ := hp
        have hi : i < cells.length := (List.getElem?_eq_some_iff.mp hk).1
        have fin : ∀ z : Int, ∃ acc, H' l = some (HO.lst acc) ∧ acc.length < sizeLine ∧ Same H2 (upd H' l (HO.lst (acc ++ [V.int z]))) ∧ ∃ ls : List Int, ls.length = i + 1 ∧ upd H' l (HO.lst (acc ++ [V.int z])) l = some (.lst (ls.map V.int)) := fun z => by
          refine ⟨_, hll, ?_, same_upd_new e3 nl, ls ++ [z], ?_, ?_⟩
          · rw [List.length_map, hls]
            exact small (m := 63) (by omega)
          · rw [List.length_append, hls]
            rfl
          · rw [upd_same, List.map_append]
            rfl
        refine ⟨rfl, .int k, rfl, 10, 18, rfl, rfl, ⟨by decide, by decide, by decide⟩, k, _, rfl, rfl, _, rfl, ite2 (fun _ => ⟨.int k, rfl, fin k⟩) (fun _ => fin 0)⟩
      · obtain ⟨e3, ls, hls, hll⟩ := hp
        rw [List.length_map] at hls
        have nlst : l ≠ st := fun z => by
          rw [z, hst2] at nl
          cases nl
        have ncl : c ≠ l := ne_of_none hcc2 nl
        have ncst : c ≠ st := ne_of hcc2 hst2 (by intro z; cases z)
        obtain ⟨b1, b2, b3, b4⟩ := begun_facts c l
        refine ⟨e3 _ _ hst2, begun c l, rfl, by show 3 ≤ 15; decide, ?_⟩
        exact q _ st c l (same_upd_new (e2.trans e3) nstH) ⟨⟨_, cells, ls, 0, upd_same, b1, b2, b3, b4, (upd_ne ncst).trans (e3 _ _ hcc2), (upd_ne nlst).trans hll, hne, hls, Nat.le_refl _⟩, ncl⟩ nstH (e2.free nl)
    refine ⟨.ref a, rfl, Nat.zero_le _, fun p np => ?_⟩
    have sp : Same H (upd H p (.lst [])) := same_new np
    refine ⟨.list (ns.map PyData.int), .list [], .lst (sp.seq hs) (dps_ints ns), .lst (SqL.of upd_same) .nil, shaped_ints ns, shaped_ints [], _, rfl, ?_⟩
    cases hb : PyData.eqv (.list (ns.map PyData.int)) (.list []) with
    | false =>
      have hne : ns ≠ [] := by
        intro z
        subst z
        rw [show PyData.eqv (.list (([] : List Int).map PyData.int)) (.list []) = true from SeqAt.eqv_refl _ (shaped_ints [])] at hb
        cases hb
      refine ⟨.ref a, rfl, a, _, rfl, .inl (sp.seq hs), fun c nc => ?_⟩
      exact rest c _ ns (sp.trans (same_new nc)) upd_same hne hn
    | true =>
      refine ⟨by show 1 ≤ sizeLine; decide, fun c nc => ?_⟩
      exact rest c _ [0] (sp.trans (same_new nc)) upd_same (by decide) (by decide)
end
end K0

namespace K0
open PySem PySem.Spec PyProof.Rows L2 W0 W1 W2
def SameX (st l : Addr) (H H' : Hp) : Prop := ∀ b o, H b = some o → b ≠ st → b ≠ l → H' b = some o
theorem SameX.refl (st l : Addr) (H : Hp) : SameX st l H H := fun _ _ h _ _ => h
theorem SameX.trans {st l : Addr} {H H1 H2 : Hp} (a : SameX st l H H1) (b : SameX st l H1 H2) : SameX st l H H2 := fun c o h n1 n2 => b c o (a c o h n1 n2) n1 n2
theorem SameX.of {st l : Addr} {H H' : Hp} (e : Same H H') : SameX st l H H' := fun b o h _ _ => e b o h
theorem SameX.off {st l : Addr} {H H' : Hp} (e : Off st l H H') : SameX st l H H' := fun b o h n1 n2 => (e b n1 n2).trans h
section
variable {K : PySem.W.Frag} {H H' : Hp} {st c l : Addr} {B : Nat}
theorem StAt.two (h : StAt K H st c l B) : (∃ kvs, H st = some (.dK kvs)) ∧ (∃ ls : List Int, H l = some (.lst (ls.map V.int))) := by
  obtain ⟨kvs, cells, lefts, a, h1, h2, h3, h4, h5, h6, h7, h8, h9, h10⟩ := h.ex
  exact ⟨⟨kvs, h1⟩, ⟨lefts, h7⟩⟩
theorem sqT_x {p : Addr} {xs : List V} (h : StAt K H st c l B) (e : SameX st l H H') (q : SqT K H p xs) : SqT K H' p xs := by
  obtain ⟨⟨kvs, h1⟩, ⟨ls, h2⟩⟩ := h.two
  rcases q with (q | ⟨o, q⟩) | q
  · exact .inl (.inl (e _ _ q (ne_of q h1 (by intro z; cases z)) (ne_of q h2 (by intro z; cases z))))
  · exact .inl (.inr ⟨o, e _ _ q (ne_of q h1 (by intro z; cases z)) (ne_of q h2 (by intro z; cases z))⟩)
  · exact .inr q
theorem trs_x {D : Addr} {A : List T3} (h : StAt K H st c l B) (e : SameX st l H H') (hD : D ≠ l) (t : Trs K H D A) : Trs K H' D A := by
  obtain ⟨⟨kvs, h1⟩, _⟩ := h.two
  obtain ⟨ts, e2, m, r⟩ := t
  exact ⟨ts, e _ _ e2 (ne_of e2 h1 (by intro z; cases z)) hD, m, fun p hp => sqT_x h e (r p hp)⟩
theorem free_x {p : Addr} (h : StAt K H' st c l B) (e : SameX st l H H') (n : H' p = none) : H p = none := by
  obtain ⟨⟨kvs, h1⟩, ⟨ls, h2⟩⟩ := h.two
  cases q : H p with
  | none => rfl
  | some o =>
    have a1 : p ≠ st := fun z => by
      rw [z, h1] at n
      cases n
    have a2 : p ≠ l := fun z => by
      rw [z, h2] at n
      cases n
    rw [e p o q a1 a2] at n
    cases n
theorem Trs.join {D D2 p : Addr} {A C : List T3} {xs zs : List V} (t : Trs K H D A) (u : Trs K H D2 C) (e1 : H D = some (.lst xs)) (e2 : H D2 = some (.lst zs)) (np : H p = none) : Trs K (upd H p (.lst (xs ++ zs))) p (A ++ C) := by
  obtain ⟨ts, a1, a2, a3⟩ := t
  obtain ⟨us, b1, b2, b3⟩ := u
  rw [e1] at a1
  rw [e2] at b1
  cases a1
  cases b1
  refine ⟨ts ++ us, ?_, ?_, fun q hq => same_tup (same_new np) ?_⟩
  · rw [upd_same, List.map_append]
  · rw [List.map_append, List.map_append, a2, b2]
  · rcases List.mem_append.mp hq with hq | hq
    · exact a3 q hq
    · exact b3 q hq
end
/-- the arrows met before kind s, world h -/
structure Upto (n : Int) (s h : Int) (A : List T3) : Prop where
  all : ∀ t ∈ A, InW n t
  asc : A.Pairwise lt3
  bef : ∀ t ∈ A, t.1 < s ∨ (t.1 = s ∧ t.2.1 < h)
theorem Upto.join {n s h : Int} {A T : List T3} (u : Upto n s h A) (s0 : 0 ≤ s) (s2 : s ≤ 2) (h0 : 0 ≤ h) (hn : h < n) (all : ∀ t ∈ T, t.1 = s ∧ t.2.1 = h ∧ 0 ≤ t.2.2 ∧ t.2.2 < n) (asc : T.Pairwise lt3) : Upto n s (h + 1) (A ++ T) := by
  refine ⟨fun t ht => ?_, List.pairwise_append.mpr ⟨u.asc, asc, fun a ha b hb => ?_⟩, fun t ht => ?_⟩
  · rcases List.mem_append.mp ht with m | m
    · exact u.all t m
    · obtain ⟨a1, a2, a3, a4⟩ := all t m
      exact ⟨by omega, by omega, by omega, by omega, a3, a4⟩
  · have := u.bef a ha
    obtain ⟨b1, b2, _, _⟩ := all b hb
    exact lt3_iff.mpr (by omega)
  · rcases List.mem_append.mp ht with m | m
    · have := u.bef t m
      omega
    · obtain ⟨a1, a2, _, _⟩ := all t m
      omega
theorem Upto.next {n s h : Int} {A : List T3} (u : Upto n s h A) : Upto n (s + 1) 0 A := ⟨u.all, u.asc, fun t ht => by have := u.bef t ht; omega⟩
section
variable {P : Program} {w : World} {K : PySem.W.Frag} {mg : Str → Option Value} {base : Heap}
def sp_web (K : PySem.W.Frag) : Sp := fun vs H Q _ => ∃ (st c l : Addr) (B m k : Nat), vs = [.ref st, .int m, .int k] ∧ 1 ≤ m ∧ m ≤ 5 ∧ k ≤ 3 ∧ StAt K H st c l B ∧ B ≤ 90000 ∧
  ∀ H' v (n : Nat) A, StAt K H' st c l (B + 100) → SameX st l H H' → Dp K H' v (dWeb n A) → WOk n A → n ≤ m → A.length ≤ 75 → Q v H'
theorem ok__law_web (T : Tops K w mg) : FnOk P w K mg base CX0 3 T.a__law_web T.fd__law_web p__law_web (sp_web K) := by
  have S := sc__law_web
  refine T.F__law_web.ok S (fun vs H Q E h => ?_) (fun cdv AA outer s H vs Q E hr h => ?_)
  · obtain ⟨st, c, l, B, m, k, rfl, _⟩ := h
    rfl
  · obtain ⟨st, c, l, B, m, k, rfl, hm1, hm5, hk3, hst, hB, q⟩ := h
    refine ⟨_, (pss_cons (ps_par (i := 3) (j := 4) rfl S.nd rfl rfl (by decide) rfl rfl (pa_cons (pe_op op_add pe_int (pe_call (ok__law_draw T) (hr.mono (by first | decide | omega)) (by rfl) T.g__law_draw T.F__law_draw.kp T.b__law_draw .nil pass0 (pa_cons (pv 0) (pa_cons (pv 1) pa_nil)))) (pa_cons (pe_lst pa_nil) pa_nil)) (by rfl))
      (pss_cons (ps_for PassesOwn.never rfl (pi_range1 (by rfl) T.m_range (pa_cons (pv 2) pa_nil)) (pg_name (i := 5) S.nd rfl (Or.inr rfl)) (pss_one (ps_for PassesOwn.never rfl (pi_range1 (by rfl) T.m_range (pa_cons (pv 3) pa_nil)) (pg_name (i := 6) S.nd rfl (Or.inr rfl)) (pss_one (ps_set (i := 4) S.nd rfl (Or.inl rfl) (pe_op op_cat (pv 4) (pe_lc (own := [("there", 7)]) rfl S.nd (pi_range1 (by rfl) T.m_range (pa_cons (pv 3) pa_nil)) (blkOk_by (N := n__law_web) (sc := defScope s__law_web) (by decide +kernel)) (fun _ _ _ _ _ => (pg_name (i := 7) S.nd rfl (Or.inl rfl))) (fun _ _ _ _ _ => (pts_one (pt_cmpR op_eq (pe_call (ok__law_draw T) (hr.mono (by first | decide | omega)) (by rfl) T.g__law_draw T.F__law_draw.kp T.b__law_draw .nil pass0 (pa_cons (pv 0) (pa_cons pe_int pa_nil))) pe_int (nomark _)))) (fun _ _ _ _ _ => (pe_tup (pa_cons (pv 5) (pa_cons (pv 6) (pa_cons (pv 7) pa_nil))))))))))))
      (pss_one (ps_ret (pe_tup (pa_cons (pv 3) (pa_cons (pe_callTy (call_tupleK (K := K)) (by rfl) T.m_tuple (by decide +kernel) (pa_cons (pv 4) pa_nil)) pa_nil))))))), ?_⟩
    -- size, found = (1 + draw, [])
    refine ⟨.ref st, rfl, .int m, rfl, st, c, l, B, m, rfl, by omega, by omega, hst, by omega, fun H1 i hi0 hi1 st1 off1 => ?_⟩
    refine ⟨1, i, rfl, rfl, Nat.zero_le _, fun F nF => ?_⟩
    obtain ⟨i, rfl⟩ : ∃ z : Nat, i = z := ⟨i.toNat, (Int.toNat_of_nonneg hi0).symm⟩
    have e2 : SameX st l H (upd H1 F (.lst [])) := (SameX.off off1).trans (SameX.of (same_new nF))
    have st2 : StAt K (upd H1 F (.lst [])) st c l (B + 1) := st1.same (same_new nF)
    have tr2 : Trs K (upd H1 F (.lst [])) F [] := Trs.nil
    have Fl : F ≠ l := fun z => by
      obtain ⟨_, ⟨ls, h2⟩⟩ := st1.two
      rw [z, h2] at nF
      cases nF
    generalize upd H1 F (.lst []) = H2 at e2 st2 tr2
    refine ⟨.int (1 + i), .ref F, rfl, ?_⟩
    obtain ⟨n, hn⟩ : ∃ n : Nat, n = 1 + i := ⟨_, rfl⟩
    have hnI : (1 + (i : Int)) = (n : Int) := by omega
    rw [hnI]
    have hn5 : n ≤ 5 := by omega
    -- for sort in range(sorts)
    refine ⟨.int k, rfl, k, rfl, by omega, by omega, ?_⟩
    refine for_range (lo := 0) (n := k) (fun s σ H' => ∃ y5 y6 f A, σ = [some (.ref st), some (.int m), some (.int k), some (.int n), some (.ref f), y5, y6, none] ∧ StAt K H' st c l (B + 1 + 25 * s) ∧ SameX st l H H' ∧ Trs K H' f A ∧ f ≠ l ∧ Upto n s 0 A ∧ A.length ≤ 25 * s)
      ⟨none, none, F, [], rfl, st2, e2, tr2, Fl, ⟨fun t h => (List.not_mem_nil h).elim, List.Pairwise.nil, fun t h => (List.not_mem_nil h).elim⟩, Nat.zero_le _⟩ (fun s σ H' hs h => ?_) (fun σ H' h => ?_)
    · obtain ⟨y5, y6, f, A, rfl, st3, e3, tr3, fl, up, al⟩ := h
      rw [Int.zero_add]
      -- for here in range(size)
      refine ⟨.int n, rfl, n, rfl, by omega, by omega, ?_⟩
      refine for_range (lo := 0) (n := n) (fun h σ H' => ∃ y6 f A, σ = [some (.ref st), some (.int m), some (.int k), some (.int n), some (.ref f), some (.int s), y6, none] ∧ StAt K H' st c l (B + 1 + 25 * s + 5 * h) ∧ SameX st l H H' ∧ Trs K H' f A ∧ f ≠ l ∧ Upto n s h A ∧ A.length ≤ 25 * s + 5 * h)
        ⟨y6, f, A, rfl, st3, e3, tr3, fl, up, al⟩ (fun h σ H' hh hp => ?_) (fun σ H' hp => ?_)
      · obtain ⟨y6, f, A, rfl, st4, e4, tr4, fl, up, al⟩ := hp
        rw [Int.zero_add]
        refine ⟨.ref f, rfl, .int n, rfl, n, rfl, by omega, by omega, fun D nD => ?_⟩
        have Dl : D ≠ l := fun z => by
          obtain ⟨_, ⟨ls, h2⟩⟩ := st4.two
          rw [z, h2] at nD
          cases nD
        have nfD : f ≠ D := by
          obtain ⟨acc, hacc, _⟩ := tr4.acc
          exact ne_of_none hacc nD
        refine lc_range (lo := 0) (n := n) (fun j H'' => StAt K H'' st c l (B + 1 + 25 * s + 5 * h + j) ∧ SameX st l H' H'' ∧ ∃ C : List T3, Trs K H'' D C ∧ C.length ≤ j ∧ (∀ t ∈ C, t.1 = s ∧ t.2.1 = h ∧ 0 ≤ t.2.2 ∧ t.2.2 < j) ∧ C.Pairwise lt3)
          ⟨st4.same (same_new nD), SameX.of (same_new nD), [], Trs.nil, Nat.le_refl _, fun t h => (List.not_mem_nil h).elim, List.Pairwise.nil⟩ (fun j H5 hj hp => ?_) (fun H5 hp => ?_)
        · obtain ⟨st5, e5, C, trC, cl, ca, cp⟩ := hp
          rw [Int.zero_add]
          refine ⟨rfl, .ref st, rfl, st, c, l, _, 3, rfl, by decide, by decide, st5, by omega, fun H6 z hz0 hz1 st6 off6 => ?_⟩
          have e6 := SameX.off off6
          have trC6 := trs_x st5 e6 Dl trC
          refine ⟨rfl, _, rfl, ite2 (fun hz => ?_) (fun hz => ?_)⟩
          · refine ⟨.int s, rfl, .int h, rfl, .int j, rfl, by show 3 ≤ sizeLine; decide, fun y ny => ?_⟩
            have t1 := trC6.same (same_new (o := .tup [.int s, .int h, .int j]) ny)
            obtain ⟨acc, hacc, hal⟩ := t1.acc
            have st7 := st6.same (same_new (o := .tup [.int s, .int h, .int j]) ny)
            have nDH5 : H' D = none := nD
            refine ⟨acc, hacc, ?_, ?_, ?_, C ++ [((s : Int), (h : Int), (j : Int))], t1.push hacc (SqT.of (K := K) upd_same), ?_, fun t ht => ?_, ?_⟩
            · rw [hal]
              exact small (m := 1000) (by omega)
            · obtain ⟨kvs, cells, lefts, a, h1, h2, h3, h4, h5, h6, h7, h8, h9, h10⟩ := st7.ex
              refine ⟨⟨kvs, cells, lefts, a, (upd_ne (ne_of h1 hacc (by intro z; cases z))).trans h1, h2, h3, h4, h5, ?_, (upd_ne Dl.symm).trans h7, h8, h9, h10⟩, st7.apart⟩
              refine (upd_ne ?_).trans h6
              obtain ⟨kvs', cells', lefts', a', g1, g2, g3, g4, g5, g6, g7, g8, g9, g10⟩ := st4.ex
              exact ne_of_none g6 nD
            · intro b o hb n1 n2
              rw [upd_ne (ne_of_none hb nD)]
              exact same_new ny _ _ (e6 _ _ (e5 _ _ hb n1 n2) n1 n2)
            · rw [List.length_append]
              exact Nat.succ_le_succ cl
            · rcases List.mem_append.mp ht with mm | mm
              · obtain ⟨a1, a2, a3, a4⟩ := ca t mm
                exact ⟨a1, a2, a3, by omega⟩
              · rw [List.mem_singleton.mp mm]
                exact ⟨rfl, rfl, by show (0 : Int) ≤ (j : Int); omega, by show (j : Int) < ((j + 1 : Nat) : Int); omega⟩
            · refine List.pairwise_append.mpr ⟨cp, List.pairwise_singleton _ _, fun a ha b hb => ?_⟩
              rw [List.mem_singleton.mp hb]
              obtain ⟨a1, a2, a3, a4⟩ := ca a ha
              exact lt3_iff.mpr (Or.inr ⟨a1, Or.inr ⟨a2, a4⟩⟩)
          · exact ⟨st6, e5.trans e6, C, trC6, Nat.le_succ_of_le cl, fun t ht => by
              obtain ⟨a1, a2, a3, a4⟩ := ca t ht
              exact ⟨a1, a2, a3, by omega⟩, cp⟩
        · obtain ⟨st5, e5, C, trC, cl, ca, cp⟩ := hp
          have trf := trs_x st4 e5 fl tr4
          obtain ⟨acc, hacc, hal⟩ := trf.acc
          obtain ⟨acd, hacd, had⟩ := trC.acc
          refine ⟨f, D, acc, acd, rfl, rfl, hacc, hacd, ?_, fun p np => ?_⟩
          · rw [hal, had]
            exact Nat.le_of_lt (small (m := 1000) (by omega))
          · have pl : p ≠ l := fun z => by
              obtain ⟨_, ⟨ls, h2⟩⟩ := st5.two
              rw [z, h2] at np
              cases np
            refine ⟨_, p, A ++ C, rfl, (st5.mono (by omega)).same (same_new np), e4.trans (e5.trans (SameX.of (same_new np))), Trs.join trf trC hacc hacd np, pl, ?_, ?_⟩
            · rw [Int.natCast_add]
              exact up.join (by omega) (by omega) (by omega) (by omega) (fun t ht => by
                obtain ⟨a1, a2, a3, a4⟩ := ca t ht
                exact ⟨a1, a2, a3, by omega⟩) cp
            · rw [List.length_append]
              omega
      · obtain ⟨y6, f, A, rfl, st4, e4, tr4, fl, up, al⟩ := hp
        refine ⟨_, y6, f, A, rfl, st4.mono (by omega), e4, tr4, fl, ?_, by omega⟩
        rw [Int.natCast_add]
        exact up.next
    · obtain ⟨y5, y6, f, A, rfl, st3, e3, tr3, fl, up, al⟩ := h
      refine ⟨.int n, rfl, .ref f, rfl, ?_⟩
      dsimp only [tNil]
      refine tuple_trs tr3 fun t H4 e4 d4 => ?_
      refine ⟨by show 2 ≤ sizeLine; decide, fun y ny => ?_⟩
      refine q _ _ n A (((st3.mono (by omega)).same e4).same (same_new ny)) (e3.trans (SameX.of (e4.trans (same_new ny)))) (dp_mkweb ny d4) ⟨by omega, by omega, by omega, up.all, up.asc⟩ (by omega) (by omega)
end
end K0

/-! W3: sets of tuples of ints with up to seventy-six members; sets of ints from lists and tuples. -/
namespace W3
open PySem PySem.Spec PyProof.Rows L2 W2

/-- the table at a holds the tuples L (their addresses, their ints) -/
structure Held (P : Program) (w : World) (h : Heap) (a : Addr) (L : List (Addr × List Int)) (es : Array (Int × Value)) (ep : Nat) (t : SetTable) : Prop where
  obj : ∃ o, h.get? a = some o ∧ o.ExactSet ∧ o.data = .set es ep t
  rows : es.toList = rowsOf P w L
  tab : TabOk t (L.map fun p => thash P w p.2)
  uniq : (L.map (·.2)).Nodup
  plain : t.plain = true
  led : w.params.followText "set-order" = true ∨ t.led = true
  room : L.length * 5 < t.mask * 3

section
variable {P : Program} {w : World} {A : Around} {E : Value → Shared → Prop} {s : Shared} {a : Addr} {L : List (Addr × List Int)} {es : Array (Int × Value)} {ep : Nat} {t : SetTable}
theorem Held.few (R : Held P w s.heap a L es ep t) (tup : ∀ p ∈ L, IsT P w s.heap p.2 p.1) (h : L.length < 64) : SetTR P w s.heap a L es ep t := ⟨R.obj, R.rows, R.tab, R.uniq, tup, R.plain, R.led, R.room, h⟩
theorem Held.of {h : Heap} (R : SetTR P w h a L es ep t) : Held P w h a L es ep t := ⟨R.ob, R.rows, R.tab, R.nd, R.plain, R.led, R.room⟩
theorem Held.many {h : Heap} (R : Held P w h a L es ep t) : es.size = L.length := by
  have e := congrArg List.length R.rows
  rw [Array.length_toList] at e
  rw [e]
  exact List.length_map _
theorem Held.most {h : Heap} (R : Held P w h a L es ep t) : L.length ≤ 76 := by
  have r := R.room
  rcases R.tab.mok with e | e | e <;> rw [e] at r <;> omega
theorem Held.fits {h : Heap} (R : Held P w h a L es ep t) : t.fits es.size = true := by
  have n1 : t.place.size = es.size := by
    rw [R.many, R.tab.sz]
    exact List.length_map _
  have n2 : es.size ≤ t.mask := by
    have r := R.room
    rw [R.many]
    omega
  show (t.place.size == es.size && decide (t.place.size + t.dummies.size ≤ t.mask)) = true
  rw [R.tab.dm, n1]
  simpa using n2
theorem Held.row {h : Heap} (R : Held P w h a L es ep t) {i : Nat} {p : Addr × List Int} (e : L[i]? = some p) : es[i]? = some (thash P w p.2, Value.ref p.1) := by
  have q : (rowsOf P w L)[i]? = some (thash P w p.2, Value.ref p.1) := by
    show (L.map _)[i]? = _
    rw [List.getElem?_map, e]
    rfl
  rw [← R.rows, Array.getElem?_toList] at q
  exact q
theorem Held.placed {h : Heap} (R : Held P w h a L es ep t) : t.place.toList.length = L.length := by
  rw [Array.length_toList, R.tab.sz]
  exact List.length_map _

/-- the state of the probe after c steps -/
abbrev probeAt (t : SetTable) (h : Int) (c : Nat) : SetTable.Probe := nth t.mask (runAt t.mask (SetTable.bits h % (t.mask + 1)) (SetTable.bits h)) c
theorem undummied (t : SetTable) (h : Int) : ∀ c, (probeAt t h c).dummy = none := by
  have step : ∀ p : SetTable.Probe, p.dummy = none → (adv t.mask p).dummy = none := by
    intro p hp
    unfold adv
    split <;> exact hp
  have all : ∀ (c : Nat) (p : SetTable.Probe), p.dummy = none → (nth t.mask p c).dummy = none := by
    intro c
    induction c with
    | zero => exact fun p hp => hp
    | succ c ih => exact fun p hp => ih _ (step p hp)
  exact fun c => all c _ rfl
theorem probe_on (t : SetTable) (h : Int) (c q : Nat) : nth t.mask (probeAt t h c) q = probeAt t h (c + q) := (nth_add t.mask c _ q).symm

/-- from the c-th step on: the first row of that hash, or the empty slot -/
theorem probe_from {h : Heap} (R : Held P w h a L es ep t) (hs : Int) {K c : Nat} (hK : K < 10 * SetTable.turns t.mask) (empty : way t.mask hs K ∉ t.place.toList) (full : ∀ k, k < K → way t.mask hs k ∈ t.place.toList) (hc : c ≤ K) :
    (∃ (q i : Nat) (p : Addr × List Int), c ≤ q ∧ q < K ∧ L[i]? = some p ∧ thash P w p.2 = hs ∧ t.place.toList[i]? = some (way t.mask hs q) ∧ (∀ (q' i' : Nat) (p' : Addr × List Int), c ≤ q' → q' < q → t.place.toList[i']? = some (way t.mask hs q') → L[i']? = some p' → thash P w p'.2 ≠ hs) ∧
        t.probe (fun i => (es[i]?.map (·.1)).getD 0) hs (probeAt t hs c) = some (.candidate (way t.mask hs q) i (probeAt t hs (q + 1)))) ∨
      ((∀ (q' i' : Nat) (p' : Addr × List Int), c ≤ q' → q' < K → t.place.toList[i']? = some (way t.mask hs q') → L[i']? = some p' → thash P w p'.2 ≠ hs) ∧ t.probe (fun i => (es[i]?.map (·.1)).getD 0) hs (probeAt t hs c) = some (.empty (way t.mask hs K) none)) := by
  have at' : ∀ q, (nth t.mask (probeAt t hs c) q).j = way t.mask hs (c + q) := fun q => by rw [probe_on]
  have hashOf : ∀ {i : Nat} {p : Addr × List Int}, L[i]? = some p → (fun i => (es[i]?.map (·.1)).getD 0) i = thash P w p.2 := by
    intro i p e
    show (es[i]?.map (·.1)).getD 0 = _
    rw [R.row e]
    rfl
  have found := go_spec t R.tab.ris R.tab.dm (fun i => (es[i]?.map (·.1)).getD 0) hs (10 * SetTable.turns t.mask) (K - c) (probeAt t hs c) (undummied t hs c) (by omega)
    (fun q hq => by rw [at']; exact full _ (by omega)) (by rw [at', Nat.add_sub_cancel' hc]; exact empty)
  rcases found with ⟨q, i, hq, hi, hh, first, met⟩ | ⟨none', met⟩
  · left
    rw [at'] at hi met
    have il : i < L.length := by
      rw [← R.placed]
      exact (List.getElem?_eq_some_iff.mp hi).1
    have ei : L[i]? = some L[i] := List.getElem?_eq_getElem il
    refine ⟨c + q, i, L[i], by omega, by omega, ei, (hashOf ei).symm.trans hh, hi, fun q' i' p' h1 h2 h3 h4 => ?_, ?_⟩
    · intro z
      refine first (q' - c) i' (by omega) ?_ ((hashOf h4).trans z)
      rw [at', Nat.add_sub_cancel' h1]
      exact h3
    · rw [probe_on] at met
      exact met
  · right
    refine ⟨fun q' i' p' h1 h2 h3 h4 z => ?_, ?_⟩
    · refine none' (q' - c) i' (by omega) ?_ ((hashOf h4).trans z)
      rw [at', Nat.add_sub_cancel' h1]
      exact h3
    · rw [at', Nat.add_sub_cancel' hc] at met
      exact met

/-- the search of a tuple that is to be added -/
theorem search3 (R : Held P w s.heap a L es ep t) (tup : ∀ p ∈ L, IsT P w s.heap p.2 p.1) {x : Addr} {k : List Int} (hx : IsT P w s.heap k x) (hu : A.units < cLine) {Q : SetFound → Shared → Prop}
    (isin : k ∈ L.map (·.2) → Q (.there none) s)
    (out : ∀ K, k ∉ L.map (·.2) → way t.mask (thash P w k) K ∉ t.place.toList → (∀ c, c < K → way t.mask (thash P w k) c ∈ t.place.toList) → Q (.free (way t.mask (thash P w k) K) false) s) :
    wpAny (model P w) A (setSearch a (.ref x) (thash P w k) true) Q E s := by
  have room := R.room
  obtain ⟨K, hK, empty, full⟩ := R.tab.first (h := thash P w k) (by rw [List.length_map]; omega)
  have hK' : K < 2000 := by
    have e : 10 * SetTable.turns t.mask ≤ 1420 := by
      unfold SetTable.turns
      rcases R.tab.mok with e | e | e <;> omega
    omega
  obtain ⟨o, ho, _, hd⟩ := R.obj
  have main : ∀ (f c : Nat) (stand : Option SetTable.Probe), stand.getD (t.probeStart (thash P w k)) = probeAt t (thash P w k) c → c ≤ K → K - c < f →
      (∀ (i : Nat) p, L[i]? = some p → p.2 = k → ∃ q, c ≤ q ∧ q < K ∧ t.place.toList[i]? = some (way t.mask (thash P w k) q)) → wpAny (model P w) A (setSearchFrom a (.ref x) (thash P w k) true f stand) Q E s := by
    intro f
    induction f with
    | zero => exact fun _ _ _ _ z => (Nat.not_lt_zero _ z).elim
    | succ f ih =>
      intro c stand hst hc hf ahead
      rw [setSearchFrom_succ]
      refine wpAny_bind (wpAny_setState_of ho hd R.fits ?_)
      dsimp only
      have standing : ¬ t.gaveWay = true := by
        intro z
        unfold SetTable.gaveWay at z
        rw [mask_odd R.tab.mok] at z
        exact absurd z (by decide)
      refine wp_if_neg standing ?_
      try refine wpAny_bind (wpAny_pure ?_)
      rw [hst]
      rcases probe_from R (thash P w k) hK empty full hc with ⟨q, i, p, h1, h2, hp, hh, hi, first, met⟩ | ⟨none', met⟩
      · rw [met]
        dsimp only
        have pm : p ∈ L := List.mem_of_getElem? hp
        have rest : wpAny (model P w) A (searchRest a (.ref x) (thash P w k) true f es t (way t.mask (thash P w k) q) i (probeAt t (thash P w k) (q + 1))) Q E s := by
          unfold searchRest
          rw [R.row hp]
          dsimp only
          refine wpAny_bind (wpAny_holding (wpAny_eqBool_tuple hu (tup p pm) hx ?_))
          refine wpAny_bind (wpAny_setState_of ho hd R.fits ?_)
          dsimp only
          by_cases same : p.2 = k
          · refine wp_if_pos (by rw [decide_eq_true same]; rfl) ?_
            exact wpAny_pure (isin (List.mem_map.mpr ⟨p, pm, same⟩))
          · refine wp_if_neg (by rw [decide_eq_false same]; decide) ?_
            try refine wpAny_bind (wpAny_pure ?_)
            rw [sameMem]
            dsimp only
            have live : t.slot (way t.mask (thash P w k) q) = .live i := slot_live R.tab.ris hi
            simp only [if_true, live, R.row hp]
            refine wpAny_bind (wpAny_isSame_ref_self (wpAny_bind (wpAny_pure ?_)))
            simp only [if_true]
            refine wp_if_neg (by rw [decide_eq_false same]; decide) ?_
            refine ih (q + 1) _ rfl h2 (by omega) fun j r hj hr => ?_
            obtain ⟨q', a1, a2, a3⟩ := ahead j r hj hr
            refine ⟨q', ?_, a2, a3⟩
            rcases Nat.lt_trichotomy q' q with z | z | z
            · exact absurd (by rw [hr]) (first q' j r a1 z a3 hj)
            · subst z
              have l2 := slot_live R.tab.ris a3
              rw [live] at l2
              injection l2 with l2
              rw [← l2, hp] at hj
              cases hj
              exact absurd hr same
            · exact z
        by_cases led : t.led = true
        · refine wp_if_neg (by rw [led]; decide) ?_
          try refine wpAny_bind (wpAny_pure ?_)
          exact rest
        · refine wp_if_pos (by cases z : t.led with
            | true => exact absurd z led
            | false => rfl) ?_
          refine wpAny_bind (seen_tup hx (fun y hy => ?_) ?_)
          · obtain ⟨e, he, rfl⟩ := List.mem_map.mp hy
            have he1 : e ∈ es.toList := by
              have he2 : e ∈ es ∧ e.1 = thash P w k := by simpa using he
              simpa using he2.1
            rw [R.rows] at he1
            obtain ⟨r, hr, rfl⟩ := List.mem_map.mp he1
            exact ⟨r.2, r.1, rfl, tup r hr⟩
          · refine wp_if_neg Bool.false_ne_true ?_
            try refine wpAny_bind (wpAny_pure ?_)
            exact rest
      · rw [met]
        dsimp only
        refine wpAny_pure (out K (fun m => ?_) empty full)
        obtain ⟨p, pm, e⟩ := List.mem_map.mp m
        obtain ⟨i, il, ei⟩ := List.getElem_of_mem pm
        have hp : L[i]? = some p := by rw [List.getElem?_eq_getElem il, ei]
        obtain ⟨q, a1, a2, a3⟩ := ahead i p hp e
        exact none' q i p a1 a2 a3 hp (by rw [e])
  unfold setSearch
  refine main 100000 0 none rfl (Nat.zero_le _) (by omega) fun i p hp e => ?_
  have il : i < t.place.toList.length := by
    rw [R.placed]
    exact (List.getElem?_eq_some_iff.mp hp).1
  obtain ⟨q, hq, e2⟩ := R.tab.before empty (i := i) (h := thash P w k) (j := t.place.toList[i]) (by rw [List.getElem?_map, hp, ← e]; rfl) (List.getElem?_eq_getElem il)
  exact ⟨q, Nat.zero_le _, hq, by rw [List.getElem?_eq_getElem il, e2]⟩

/-- a tuple added where the table needn't grow any more -/
theorem add_late (R : Held P w s.heap a L es ep t) (tup : ∀ p ∈ L, IsT P w s.heap p.2 p.1) {x : Addr} {k : List Int} (hx : IsT P w s.heap k x) (hu : A.units < cLine) (many : 63 ≤ L.length) (less : L.length < 76) {Q : Bool → Shared → Prop}
    (hQ : ∀ b h' L' es' ep' t', Heap.SameBut a s.heap h' → Held P w h' a L' es' ep' t' → (k ∈ L.map (·.2) → L' = L) → (k ∉ L.map (·.2) → L'.Perm ((x, k) :: L)) → Q b { s with heap := h' }) :
    wpAny (model P w) A (setAddHashed a (.ref x) (thash P w k)) Q E s := by
  obtain ⟨o, ho, exact', hd⟩ := R.obj
  have big : t.mask = 127 := by
    have r := R.room
    rcases R.tab.mok with e | e | e
    · rw [e] at r
      omega
    · rw [e] at r
      omega
    · exact e
  unfold setAddHashed
  refine wpAny_holding ?_
  rw [show (100000 : Nat) = 99999 + 1 from rfl, setAddHashedIn_succ]
  refine wpAny_bind (wpAny_setState_of ho hd R.fits ?_)
  dsimp only
  refine wp_if_neg (by simp [byScan, Value.scannable]) ?_
  try refine wpAny_bind (wpAny_pure ?_)
  refine wpAny_bind (search3 R tup hx hu (fun isin => ?_) fun K new empty full => ?_)
  · dsimp only
    exact wpAny_pure (hQ false s.heap L es ep t (Heap.SameBut.refl a s.heap) R (fun _ => rfl) fun z => absurd isin z)
  · dsimp only
    refine wpAny_bind (wpAny_setState_of ho hd R.fits ?_)
    dsimp only
    have put := R.tab.put empty full
    generalize t.put (way t.mask (thash P w k) K) = two at put ⊢
    obtain ⟨t1, p⟩ := two
    dsimp only at put ⊢
    obtain ⟨ep1, _, tab1, mask1, led1, plain1, _, _, fill1⟩ := put
    rw [← ep1] at tab1
    have pl : t1.plain = true := plain1.trans R.plain
    first
      | (refine wpAny_bind ?_; refine wp_if_pos pl ?_; refine hashBy_tup hx ?_)
      | refine wp_if_pos pl (wpAny_bind (hashBy_tup hx ?_))
    simp only [if_true]
    have perm := put_perm L p (x, k)
    have rows1 : (SetTable.insertAt es p (thash P w k, Value.ref x)).toList = rowsOf P w (L.take p ++ (x, k) :: L.drop p) := by
      rw [SetTable.toList_insertAt, rows_put, R.rows]
    have hashes : (L.take p ++ (x, k) :: L.drop p).map (fun q => thash P w q.2) = (L.map fun q => thash P w q.2).take p ++ thash P w k :: (L.map fun q => thash P w q.2).drop p := by
      rw [List.map_append, List.map_cons, List.map_take, List.map_drop]
    rw [← hashes] at tab1
    have len1 := perm.length_eq
    have uniq1 : ((L.take p ++ (x, k) :: L.drop p).map (·.2)).Nodup := (perm.map (·.2)).nodup_iff.mpr (List.nodup_cons.mpr ⟨new, R.uniq⟩)
    generalize L.take p ++ (x, k) :: L.drop p = L1 at perm rows1 tab1 len1 uniq1
    rw [List.length_cons] at len1
    have size1 : (SetTable.insertAt es p (thash P w k, Value.ref x)).size = L.length + 1 := by
      have e := congrArg List.length rows1
      rw [Array.length_toList] at e
      rw [e, ← len1]
      exact List.length_map _
    generalize SetTable.insertAt es p (thash P w k, Value.ref x) = es1 at rows1 size1 ⊢
    refine wpAny_bind (wpAny_storeSet_of ho hd ?_ (by rw [size1, sizeLine_eq]; omega))
    have sb : Heap.SameBut a s.heap (s.heap.update a (Obj.putSet es1 t1)) := Heap.SameBut.update ..
    have ho1 := store_at (es' := es1) (t' := t1) ho hd
    have calm : ¬ t1.tooFull = true := by
      intro z
      unfold SetTable.tooFull at z
      rw [decide_eq_true_eq, fill1, List.length_map, mask1, big] at z
      omega
    have fin : Q true { s with heap := s.heap.update a (Obj.putSet es1 t1) } := by
      refine hQ true _ L1 es1 (ep + 1) t1 sb ⟨⟨_, ho1, ⟨exact'.1, exact'.2.1, exact'.2.2⟩, rfl⟩, rows1, tab1, uniq1, pl, by rw [led1]; exact R.led, by rw [len1, mask1, big]; omega⟩ (fun z => absurd z new) fun _ => perm
    first
      | exact wp_if_neg (by simp [calm]) (wpAny_pure fin)
      | exact wpAny_bind (wp_if_neg (by simp [calm]) (wpAny_pure (wpAny_pure fin)))
      | exact wp_if_neg (by simp [calm]) (wpAny_bind (wpAny_pure (wpAny_pure fin)))
/-- adding a tuple -/
theorem add3 (R : Held P w s.heap a L es ep t) (tup : ∀ p ∈ L, IsT P w s.heap p.2 p.1) {x : Addr} {k : List Int} (hx : IsT P w s.heap k x) (hu : A.units < cLine) (less : L.length < 76) {Q : Bool → Shared → Prop}
    (hQ : ∀ b h' L' es' ep' t', Heap.SameBut a s.heap h' → Held P w h' a L' es' ep' t' → (k ∈ L.map (·.2) → L' = L) → (k ∉ L.map (·.2) → L'.Perm ((x, k) :: L)) → Q b { s with heap := h' }) :
    wpAny (model P w) A (setAddHashed a (.ref x) (thash P w k)) Q E s := by
  by_cases c : L.length + 1 < 64
  · exact add_at (R.few tup (by omega)) hx hu c fun b h' L' es' ep' t' sb r => hQ b h' L' es' ep' t' sb (Held.of r)
  · exact add_late R tup hx hu (by omega) less hQ
end
end W3

/-! W4: set(xs) of a list, whatever is added; sorted of such sets; the set comprehension. -/
namespace W4
open PySem PySem.Spec PyProof.Rows L2 W1 W2 W3

section
variable {P : Program} {w : World} {A : Around} {E : Value → Shared → Prop} {s : Shared}
/-- set.update's loop, by an invariant of the set at S -/
theorem update_by {I S : Addr} {fp wr : List Addr} {G : Array GenState → Array GenState → Prop} {n : Nat} {Pv : Nat → Value → Prop} {St : Nat → Shared → Prop} {R : Result → Shared → Prop} {old : Heap}
    (W : WalksS P w A.in1 I fp wr G n Pv St) (far : S ∉ fp) (newS : old.get? S = none) (newW : ∀ b ∈ wr, old.get? b = none) (J : Nat → Heap → Prop)
    (stay : ∀ i h h', J i h → (∀ o, h.get? S = some o → h'.get? S = some o) → (∀ b o, old.get? b = some o → h'.get? b = some o) → J i h')
    (add : ∀ i v (s : Shared) (Q : Bool → Shared → Prop) (E : Value → Shared → Prop), i < n → Pv i v → J i s.heap → (∀ b o, old.get? b = some o → s.heap.get? b = some o) →
      (∀ b h' tk, s.toks ≤ tk → Heap.SameBut S s.heap h' → J (i + 1) h' → Q b { s with heap := h', toks := tk }) → wpAny (model P w) A.in1 (setAdd S v) Q E s) :
    ∀ (left i : Nat) (s : Shared), i + left = n → St i s → (∀ b o, old.get? b = some o → s.heap.get? b = some o) → J i s.heap →
      (∀ s', Moved (S :: wr) G s s' → J n s'.heap → (∀ b o, old.get? b = some o → s'.heap.get? b = some o) → R (.ok (.ret .none)) s') →
      codeAny (model P w) A (.builtin "set.update.loop" ⟨[.ref S, .ref I], []⟩) R s := by
  have notW : S ∉ wr := fun z => far (W.sub S z)
  have wider : ∀ b ∈ wr, b ∈ S :: wr := fun b z => List.mem_cons_of_mem S z
  have later : ∀ {s1 s2 : Shared}, Moved wr G s1 s2 → (∀ b o, old.get? b = some o → s1.heap.get? b = some o) → ∀ b o, old.get? b = some o → s2.heap.get? b = some o := by
    intro s1 s2 m k b o e
    refine m.heap b o (fun z => ?_) (k b o e)
    rw [newW b z] at e
    cases e
  intro left
  induction left with
  | zero =>
    intro i s hi hst keep hJ hR
    obtain rfl : i = n := hi
    refine codeAny_builtin F.entry_set_update_loop ?_
    rw [Around.under_plainId F.plain_set_update_loop _]
    show wpAny _ A.in1 (pyNext (.ref I) >>= _) _ _ s
    refine wpAny_bind (W.done s _ _ hst fun s1 m => ?_)
    exact wpAny_pure (hR s1 (m.mono wider) (stay _ _ _ hJ (fun o e => m.heap S o notW e) (later m keep)) (later m keep))
  | succ left ih =>
    intro i s hi hst keep hJ hR
    refine codeAny_builtin F.entry_set_update_loop ?_
    rw [Around.under_plainId F.plain_set_update_loop _]
    show wpAny _ A.in1 (pyNext (.ref I) >>= _) _ _ s
    refine wpAny_bind (W.item i s _ _ (by omega) hst fun v s1 hv hst1 m => ?_)
    have keep1 := later m keep
    have J1 := stay _ _ _ hJ (fun o e => m.heap S o notW e) keep1
    show wpAny _ A.in1 (holding [v] (setAdd S v) >>= _) _ _ s1
    refine wpAny_bind (wpAny_holding (add i v s1 _ _ (by omega) hv J1 keep1 fun b h2 tk htk sb J2 => ?_))
    have keep2 : ∀ b o, old.get? b = some o → h2.get? b = some o := by
      intro b o e
      refine (sb.2 b ?_).trans (keep1 b o e)
      rintro rfl
      rw [newS] at e
      cases e
    refine wpAny_pure ⟨plainId_quiet F.plain_set_update_loop _, ih (i + 1) _ (by omega) (W.frame _ s1 h2 tk hst1 htk fun b hb o e => ?_) keep2 J2 fun s3 m3 J3 keep3 => ?_⟩
    · refine (sb.2 b ?_).trans e
      rintro rfl
      exact far hb
    · refine hR s3 (Moved.trans W.gtrans ((m.mono wider).then_heap htk fun b o hb e => ?_) m3) J3 keep3
      refine (sb.2 b ?_).trans e
      rintro rfl
      exact hb List.mem_cons_self

/-- a fresh set's object -/
abbrev bare (w : World) : Obj := { cls := .type "set", dict := none, data := .set #[] 0 (.fresh 0 0 (!w.params.followText "set-order")) }
set_option maxHeartbeats 3200000 in
/-- set(xs), xs a list -/
theorem set_of_list {l : Addr} {items : Array Value} {Q : Value → Shared → Prop} (calm : A.handled = none) (hl : s.heap.IsList l items) (J : Nat → Heap → Prop)
    (begin : ∀ h, h.get? s.heap.objs.size = some (bare w) → (∀ b o, s.heap.get? b = some o → h.get? b = some o) → J 0 h)
    (stay : ∀ i h h', J i h → (∀ o, h.get? s.heap.objs.size = some o → h'.get? s.heap.objs.size = some o) → (∀ b o, s.heap.get? b = some o → h'.get? b = some o) → J i h')
    (add : ∀ i v (s1 : Shared) (R : Bool → Shared → Prop) (E : Value → Shared → Prop), i < items.size → items[i]? = some v → J i s1.heap → (∀ b o, s.heap.get? b = some o → s1.heap.get? b = some o) →
      (∀ b h' tk, s1.toks ≤ tk → Heap.SameBut s.heap.objs.size s1.heap h' → J (i + 1) h' → R b { s1 with heap := h', toks := tk }) → wpAny (model P w) A.in1.in1.in1 (setAdd s.heap.objs.size v) R E s1)
    (fin : ∀ (h : Heap) (tk : Nat), J items.size h → (∀ b o, s.heap.get? b = some o → h.get? b = some o) → Q (.ref s.heap.objs.size) { s with heap := h, toks := tk }) :
    wpAny (model P w) A (call (.type "set") [.ref l]) Q E s := by
  obtain ⟨c, tl, hmro⟩ := F.called_set.mro
  have made := F.called_set.made
  have sub := F.called_set.sub
  have isNot := F.called_set.notType
  have can := F.called_set.canCreate
  have tcall := F.typeCall_set_1 (.ref l)
  have none_at : ∀ b, s.heap.objs.size ≤ b → s.heap.get? b = none := fun b hb => Heap.get?_none_of_le hb
  refine wpAny_call (codeAny_of_tree ?_)
  show wpAny _ _ (callAny (.type "set") _) _ _ _
  refine wpAny_pure ⟨Code.quiet_builtin _ (by decide +kernel), codeAny_builtin F.entry_type_call ?_⟩
  rw [Around.under_plain (weight_type_call_type "set" [.ref l] []) rfl]
  repeat (any_goals (first | assumption | wp_step))
  refine codeAny_mono (code_set_led1 (.ref l) (E := E) (Q₁ := fun u s1 => u = .ref s.heap.objs.size ∧ s1 = { s with heap := s.heap.push (bare w) }) ⟨rfl, rfl⟩) fun r s1 hr => ?_
  match r, hr with
  | .error _, hr => exact hr
  | .ok .next, hr => exact hr.elim
  | .ok .brk, hr => exact hr.elim
  | .ok .cont, hr => exact hr.elim
  | .ok (.ret u), hr =>
    obtain ⟨rfl, rfl⟩ := hr
    have there : (s.heap.push (bare w)).get? s.heap.objs.size = some (bare w) := Heap.get?_push_size _ rfl
    have isSet : Shared.TypeIs { s with heap := s.heap.push (bare w) } (.ref s.heap.objs.size) "set" := ⟨_, there, rfl⟩
    have ilook := F.called_set.init.lookup
    have ibind := F.called_set.init.bind (.ref s.heap.objs.size)
    repeat (any_goals (first | assumption | wp_step))
    refine codeAny_mono (codeAny_call_builtin (R := wants (fun r s2 => r = .none ∧ ∃ h tk, s2 = { s with heap := h, toks := tk } ∧ J items.size h ∧ ∀ b o, s.heap.get? b = some o → h.get? b = some o) E) F.called_set.init.plain F.entry_set_init (check_set_init_1 isSet ?_)) fun r2 s2 hr2 => ?_
    · obtain ⟨⟨ocls, odict, odata, oslots⟩, hol, hcl, nl, hdl⟩ := hl
      simp only at hcl hdl
      subst hcl
      subst hdl
      have lt : l < s.heap.objs.size := Heap.lt_size hol
      have hol1 : (s.heap.push (bare w)).get? l = some { cls := .type "list", dict := odict, data := .seq items nl, slots := oslots } := Heap.get?_push_of_some _ hol
      have isList : (s.heap.push (bare w)).IsList l items := ⟨_, hol1, rfl, nl, rfl⟩
      have s1 := F.sub_list_set
      have s2 := F.sub_list_frozenset
      have s3 : (Value.type "list" == Value.type "dict") = false := by decide
      unfold Builtin.«set.__init__» noKeywords Builtin.Frozenset.updateFrom
      generalize hPI : pyIter = PI
      wp_walk
      subst hPI
      refine wpAny_pyIter_list isList (wpAny_bind (wpAny_runValue ?_))
      have calm3 : A.in1.in1.in1.handled = none := by simp [calm]
      have size1 : (s.heap.push (bare w)).objs.size = s.heap.objs.size + 1 := Heap.size_push ..
      have ne1 : l ≠ (s.heap.push (bare w)).objs.size := by
        rw [size1]
        exact Nat.ne_of_lt (Nat.lt_succ_of_lt lt)
      have far : s.heap.objs.size ∉ [(s.heap.push (bare w)).objs.size, l] := by
        rw [size1]
        intro z
        rcases List.mem_cons.mp z with z | z
        · exact Nat.ne_of_lt (Nat.lt_succ_self _) z
        · exact Nat.ne_of_gt lt (List.mem_singleton.mp z)
      have oldkept : ∀ b o, s.heap.get? b = some o → ((s.heap.push (bare w)).push { cls := .type "list_iterator", data := .fields #[.ref l, .int 0 0] }).get? b = some o := fun b o e => Heap.get?_push_of_some _ (Heap.get?_push_of_some _ e)
      refine update_by (old := s.heap) (Walks.list calm3 _ l ne1 items).toS far (none_at _ (Nat.le_refl _)) (fun b hb => none_at b ?_) J stay add items.size 0 _ (Nat.zero_add _) ⟨⟨_, Heap.get?_push_size _ rfl, rfl, rfl⟩, isList.push _⟩ oldkept
        (begin _ (Heap.get?_push_of_some _ there) oldkept) (fun s4 m J4 keep4 => ?_)
      · rw [List.mem_singleton.mp hb, size1]
        exact Nat.le_succ _
      · obtain ⟨h4, g4, d4, t4, o4⟩ := s4
        obtain rfl : g4 = s.gens := m.gens
        obtain rfl : d4 = s.drawn := m.drawn
        obtain rfl : o4 = s.os := m.os
        refine wpAny_pure ?_
        show wpAny _ _ (ret Value.none) _ _ _
        exact wpAny_pure ⟨rfl, h4, t4, rfl, J4, keep4⟩
    · match r2, hr2 with
      | .error _, hr2 => exact hr2
      | .ok .next, hr2 => exact hr2.elim
      | .ok .brk, hr2 => exact hr2.elim
      | .ok .cont, hr2 => exact hr2.elim
      | .ok (.ret v), hr2 =>
        obtain ⟨rfl, h, tk, rfl, hJ, keep⟩ := hr2
        repeat (any_goals (first | assumption | wp_step))
        exact fin h tk hJ keep
end
end W4

/-! W5: set(..) and sorted(..) of sets, as rules; the set comprehension of tuples. -/
namespace W5
open PySem PySem.Spec PyProof.Rows L2 W1 W2 W3 W4

/-! ### sets of ints -/
def rSetN (K : PySem.W.Frag) (w : World) : List V → Hp → VK → Prop := fun vs H Q => ∃ (l : Addr) (ns : List Int), vs = [.ref l] ∧ (SqL K H l (ns.map V.int) ∨ SqT K H l (ns.map V.int)) ∧ ns.length ≤ 60 ∧
  ∀ a n, H a = none → n ≤ ns.length → Q (.ref a) (upd H a (SetO w a (fun j => decide (j ∈ ns)) n))
section
variable {X : Cx}
theorem cr_setN (hc : X.calm = true) : CallR X (.type "set") (rSetN X.K X.w) := by
  intro pins s σ H vs us Q I r h
  obtain ⟨l, ns, rfl, hs, h60, q⟩ := h
  rw [Vals.ref1 r]
  have fresh : H s.heap.objs.size = none := I.hok.fresh (Nat.le_refl _)
  rcases hs with hs | hs
  · obtain ⟨its, rv, pl, _⟩ := I.list hs
    have are : IntsAre its ns := by simpa using rv.ints
    have size : its.toArray.size = ns.length := by rw [List.size_toArray, are.length]
    refine set_of_list (I.ok.hd hc) pl.isList (fun i h => ∃ c, c ≤ i ∧ SetR X.w h s.heap.objs.size (fun j => decide (j ∈ ns.take i)) c) (fun h e _ => ⟨0, Nat.le_refl _, setR_new_at e⟩) (fun i h h' hJ k _ => ?_) (fun i v s1 R E hi hv hJ _ hR => ?_) (fun h tk hJ keep => ?_)
    · obtain ⟨c, c1, c2⟩ := hJ
      exact ⟨c, c1, c2.at k⟩
    · obtain ⟨c, c1, c2⟩ := hJ
      have hil : i < ns.length := by rw [← size]; exact hi
      obtain ⟨t, e⟩ := PyProof.Rows.IntsAre.int_at are i v (by simpa using hv)
      rw [List.getD_eq_getElem?_getD, List.getElem?_eq_getElem hil] at e
      subst e
      unfold setAdd
      refine wpAny_holding (wpAny_bind ((intKind X.prog X.w).pyHash (k := ns[i]) (intKind_is _ _ _ _) ?_))
      refine setR_add_hashed (s := { s1 with toks := s1.toks + 1 }) c2 (by unfold scanBound; omega) fun h' sb r => ?_
      refine hR _ h' (s1.toks + 1) (Nat.le_succ _) sb ⟨_, ?_, r.congr fun j => ?_⟩
      · split <;> omega
      · have et : ns.take (i + 1) = ns.take i ++ [ns[i]] := by
          rw [List.take_add_one, List.getElem?_eq_getElem hil]
          rfl
        rw [et]
        show decide (j ∈ ns.take i ++ [ns[i]]) = (decide (j ∈ ns.take i) || decide (j = ns[i]))
        by_cases m : j ∈ ns.take i
        · rw [decide_eq_true m, decide_eq_true (List.mem_append_left _ m)]
          rfl
        · rw [decide_eq_false m, Bool.false_or]
          by_cases e : j = ns[i]
          · rw [decide_eq_true e, decide_eq_true (List.mem_append_right _ (by rw [e]; exact List.mem_singleton.mpr rfl))]
          · rw [decide_eq_false e, decide_eq_false (fun z => (List.mem_append.mp z).elim m fun y => e (List.mem_singleton.mp y))]
    · obtain ⟨c, c1, c2⟩ := hJ
      rw [size] at c1 c2
      rw [List.take_length] at c2
      exact ⟨.ref s.heap.objs.size, _, I.laid (t' := tk) keep (Nat.le_refl _) (setO_new c2), rfl, q _ c fresh c1⟩
  · obtain ⟨its, rv, pl, _⟩ := I.tuple hs
    have are : IntsAre its ns := by simpa using rv.ints
    refine call_set_tupI ns (I.ok.hd hc) (show s.heap.IsTuple l its.toArray from pl) (by simpa using are) (by unfold scanBound; omega) fun h tk c c2 c1 keep => ?_
    exact ⟨.ref s.heap.objs.size, _, I.laid (t' := tk) keep (Nat.le_refl _) (setO_new c2), rfl, q _ c fresh c1⟩
end
/-- sorted(set of ints): the members, ascending -/
theorem sortedN {w : World} {H : Hp} {a : Addr} {ns : List Int} {n : Nat} {Q : VK} (h : H a = some (SetO w a (fun j => decide (j ∈ ns)) n)) (hn : n < 64)
    (q : ∀ (ms : List Int) p H', Same H H' → H' p = some (.lst (ms.map V.int)) → ms.Pairwise (· < ·) → (∀ k, k ∈ ms ↔ k ∈ ns) → Q (.ref p) H') : rSortedSet w [.ref a] H Q :=
  ⟨a, _, n, rfl, h, hn, fun ms p asc mem _ np => q ms p _ (same_new np) upd_same asc fun k => (mem k).trans (by simp)⟩

/-! ### sets of tuples of ints -/
def Set3 (P : Program) (w : World) (a : Addr) (L : List (Addr × List Int)) : HO := .ext fun h => ∃ es ep t, Held P w h a L es ep t
theorem held_at {P : Program} {w : World} {h h' : Heap} {a : Addr} {L : List (Addr × List Int)} {es : Array (Int × Value)} {ep : Nat} {t : SetTable} (R : Held P w h a L es ep t) (k : ∀ o, h.get? a = some o → h'.get? a = some o) : Held P w h' a L es ep t := by
  obtain ⟨o, ho, r⟩ := R.obj
  exact ⟨⟨o, k o ho, r⟩, R.rows, R.tab, R.uniq, R.plain, R.led, R.room⟩
theorem set3_ok {P : Program} {w : World} {H : Hp} {h : Heap} {a : Addr} {L : List (Addr × List Int)} {es : Array (Int × Value)} {ep : Nat} {t : SetTable} (R : Held P w h a L es ep t) : ObjOk P w H h a (Set3 P w a L) := by
  obtain ⟨o, ho, _⟩ := R.obj
  refine ⟨⟨es, ep, t, R⟩, ⟨o, ho⟩, fun h1 h2 p k => ?_⟩
  obtain ⟨es', ep', t', R'⟩ := p
  exact ⟨es', ep', t', held_at R' k⟩
theorem held_new {P : Program} {w : World} {h : Heap} {a : Addr} (ho : h.get? a = some (bare w)) : Held P w h a [] #[] 0 (.fresh 0 0 (!w.params.followText "set-order")) :=
  Held.of (setTR_fresh ho)
/-- what has come of the first i -/
structure Come (ts : List (Addr × List Int)) (i : Nat) (L : List (Addr × List Int)) : Prop where
  sub : ∀ p ∈ L, p ∈ ts
  all : ∀ p ∈ ts.take i, p.2 ∈ L.map (·.2)
  len : L.length ≤ i
theorem Come.next {ts L L' : List (Addr × List Int)} {i : Nat} {x : Addr × List Int} (c : Come ts i L) (hx : ts[i]? = some x) (old : x.2 ∈ L.map (·.2) → L' = L) (new : x.2 ∉ L.map (·.2) → L'.Perm (x :: L)) : Come ts (i + 1) L' := by
  have et : ts.take (i + 1) = ts.take i ++ [x] := by
    rw [List.take_add_one, hx]
    rfl
  by_cases m : x.2 ∈ L.map (·.2)
  · rw [old m]
    refine ⟨c.sub, fun p hp => ?_, Nat.le_succ_of_le c.len⟩
    rw [et] at hp
    rcases List.mem_append.mp hp with hp | hp
    · exact c.all p hp
    · rw [List.mem_singleton.mp hp]
      exact m
  · have pm := new m
    refine ⟨fun p hp => ?_, fun p hp => ?_, ?_⟩
    · rcases List.mem_cons.mp (pm.mem_iff.mp hp) with e | hp
      · rw [e]
        exact List.mem_of_getElem? hx
      · exact c.sub p hp
    · rw [(pm.map (·.2)).mem_iff, List.map_cons]
      rw [et] at hp
      rcases List.mem_append.mp hp with hp | hp
      · exact List.mem_cons_of_mem _ (c.all p hp)
      · rw [List.mem_singleton.mp hp]
        exact List.mem_cons_self
    · rw [pm.length_eq, List.length_cons]
      exact Nat.succ_le_succ c.len
def rSet3 (K : PySem.W.Frag) (P : Program) (w : World) : List V → Hp → VK → Prop := fun vs H Q => ∃ (l : Addr) (ts : List (Addr × List Int)), vs = [.ref l] ∧ SqL K H l (ts.map fun p => V.ref p.1) ∧ (∀ p ∈ ts, SqT K H p.1 (p.2.map V.int)) ∧ ts.length ≤ 76 ∧
  ∀ a L, H a = none → (∀ p ∈ L, p ∈ ts) → (∀ p ∈ ts, p.2 ∈ L.map (·.2)) → (L.map (·.2)).Nodup → Q (.ref a) (upd H a (Set3 P w a L))
def rSorted3 (K : PySem.W.Frag) (P : Program) (w : World) : List V → Hp → VK → Prop := fun vs H Q => ∃ (a : Addr) (L : List (Addr × List Int)), vs = [.ref a] ∧ H a = some (Set3 P w a L) ∧ (∀ p ∈ L, SqT K H p.1 (p.2.map V.int) ∧ p.2 ≠ []) ∧
  ∀ (us : List (Addr × List Int)) (p : Addr), us.Perm L → (us.map (·.2)).Pairwise (fun x y => HT.lexLt y x = false) → (L.map (·.2)).Nodup → H p = none → Q (.ref p) (upd H p (.lst (us.map fun q => V.ref q.1)))
section
variable {X : Cx}
theorem cr_set3 (hc : X.calm = true) (hu : X.A.units + 64 < cLine) : CallR X (.type "set") (rSet3 X.K X.prog X.w) := by
  intro pins s σ H vs us Q I r h
  obtain ⟨l, ts, rfl, hs, ht, h76, q⟩ := h
  rw [Vals.ref1 r]
  have fresh : H s.heap.objs.size = none := I.hok.fresh (Nat.le_refl _)
  obtain ⟨its, rv, pl, _⟩ := I.list hs
  have eits := W2.refs_vals rv
  subst eits
  have size : (ts.map fun p => Value.ref p.1).toArray.size = ts.length := by rw [List.size_toArray, List.length_map]
  refine set_of_list (I.ok.hd hc) pl.isList (fun i h => ∃ L es ep t, Held X.prog X.w h s.heap.objs.size L es ep t ∧ Come ts i L) (fun h e _ => ⟨[], _, _, _, held_new e, fun p z => (List.not_mem_nil z).elim, fun p z => (List.not_mem_nil z).elim, Nat.le_refl _⟩)
    (fun i h h' hJ k _ => ?_) (fun i v s1 R E hi hv hJ keep hR => ?_) (fun h tk hJ keep => ?_)
  · obtain ⟨L, es, ep, t, c1, c2⟩ := hJ
    exact ⟨L, es, ep, t, held_at c1 k, c2⟩
  · obtain ⟨L, es, ep, t, c1, c2⟩ := hJ
    have hil : i < ts.length := by rw [← size]; exact hi
    have ex : ts[i]? = some ts[i] := List.getElem?_eq_getElem hil
    have ev : v = .ref ts[i].1 := by
      have hv' : (ts.map fun p => Value.ref p.1)[i]? = some v := by simpa using hv
      rw [List.getElem?_map, ex] at hv'
      exact (Option.some.inj hv').symm
    have isT : ∀ p ∈ ts, IsT X.prog X.w s1.heap p.2 p.1 := fun p hp => isT_keep (I.isT (ht p hp)) keep
    rw [ev]
    unfold setAdd
    refine wpAny_holding (wpAny_bind (wpAny_pyHash_tuple (by show X.A.units + 1 + 1 + 1 < cLine; omega) (isT _ (List.getElem_mem hil)) ?_))
    refine add3 (s := { s1 with toks := s1.toks + (ts[i].2.length + 1) }) c1 (fun p hp => isT p (c2.sub p hp)) (isT _ (List.getElem_mem hil)) (by show X.A.units + 1 + 1 + 1 < cLine; omega) (by have := c2.len; omega) fun b h' L' es' ep' t' sb held old new => ?_
    exact hR b h' _ (Nat.le_add_right _ _) sb ⟨L', es', ep', t', held, c2.next ex old new⟩
  · obtain ⟨L, es, ep, t, c1, c2⟩ := hJ
    rw [size] at c2
    refine ⟨.ref s.heap.objs.size, _, I.laid (t' := tk) keep (Nat.le_refl _) (set3_ok c1), rfl, q _ L fresh c2.sub (fun p hp => c2.all p ?_) c1.uniq⟩
    rw [List.take_length]
    exact hp
theorem cr_sorted3 (hc : X.calm = true) : CallR X (.builtin "sorted") (rSorted3 X.K X.prog X.w) := by
  intro pins s σ H vs us Q I r h
  obtain ⟨a, L, rfl, ha, ht, q⟩ := h
  obtain ⟨es, ep, t, R⟩ := (show ∃ es ep t, Held X.prog X.w s.heap a L es ep t from (I.hok a _ ha).1)
  rw [Vals.ref1 r]
  obtain ⟨o, ho, ex, hd⟩ := R.obj
  have n1 := R.many
  have n2 := R.most
  have nodupL : L.Nodup := L2.nodup_of_map R.uniq
  refine Calls.call_function_entry kind_sorted plain_sorted entry_sorted (args_sorted1 _) ?_
  unfold Builtin.«sorted»
  refine wpAny_bind (m := checkCount "sorted" 1 1 _) (wpAny_pure ?_)
  refine wpAny_bind (collect_set (A := X.A.in1) (by exact I.ok.hd hc) ⟨o, ho, ex.1, hd⟩ R.fits (by unfold scanBound; omega) R.tab.ris R.led fun s1 vs k1 hz g1 o1 pm => ?_)
  have vals0 : es.toList.map (·.2) = L.map fun p => Value.ref p.1 := by
    rw [R.rows]
    show (L.map _).map _ = _
    rw [List.map_map]
    rfl
  rw [vals0] at pm
  -- the tuples in the order of the table
  obtain ⟨L1, pL, eL⟩ : ∃ L1 : List (Addr × List Int), L1.Perm L ∧ vs = L1.map fun p => Value.ref p.1 := by
    have key : ∀ p ∈ L, ∀ r ∈ L, p.1 = r.1 → p = r := by
      intro p hp r hr e
      have a1 := I.isT (ht p hp).1
      have a2 := I.isT (ht r hr).1
      rw [e] at a1
      exact Prod.ext e (a1.inj a2)
    let f : Value → Addr × List Int := fun v => (L.find? fun p => decide (Value.ref p.1 = v)).getD (0, [])
    have hf : ∀ p ∈ L, f (.ref p.1) = p := by
      intro p hp
      have some' : ((L.find? fun r => decide (Value.ref r.1 = Value.ref p.1))).isSome = true := by
        rw [List.find?_isSome]
        exact ⟨p, hp, decide_eq_true rfl⟩
      obtain ⟨r, hr⟩ := Option.isSome_iff_exists.mp some'
      have h1 := List.find?_some hr
      have h2 := List.mem_of_find?_eq_some hr
      show (L.find? _).getD (0, []) = p
      rw [hr]
      have h3 : r.1 = p.1 := by
        have h4 := of_decide_eq_true h1
        injection h4
      exact key r h2 p hp h3
    refine ⟨vs.map f, ?_, ?_⟩
    · have h1 := pm.map f
      have h2 : (L.map fun p => Value.ref p.1).map f = L := by
        rw [List.map_map]
        conv => rhs; rw [← List.map_id L]
        exact List.map_congr_left fun p hp => hf p hp
      rw [h2] at h1
      exact h1
    · rw [List.map_map]
      conv => lhs; rw [← List.map_id vs]
      refine List.map_congr_left fun v hv => ?_
      obtain ⟨p, hp, rfl⟩ := List.mem_map.mp (pm.mem_iff.mp hv)
      show Value.ref p.1 = Value.ref (f (.ref p.1)).1
      rw [hf p hp]
  subst eL
  have len1 : L1.length ≤ 76 := by rw [pL.length_eq]; exact n2
  refine wpAny_bind (wpAny_newList ?_ (by rw [List.length_map, sizeLine_eq]; omega))
  have hoL : (s1.heap.push (seqObj "list" (L1.map fun p => Value.ref p.1).toArray 0)).get? s1.heap.objs.size = some (seqObj "list" (L1.map fun p => Value.ref p.1).toArray 0) := Heap.get?_push_size _ rfl
  have raw : ∀ p ∈ L1, PyProof.Rows.G.tupKeyC (s1.heap.push (seqObj "list" (L1.map fun p => Value.ref p.1).toArray 0)) nums (.ref p.1) = some (p.2.map Sum.inl) ∧ ∃ f, PyProof.Rows.TupOf (s1.heap.push (seqObj "list" (L1.map fun p => Value.ref p.1).toArray 0)) nums (.ref p.1) f := by
    intro p hp
    have hpL := pL.mem_iff.mp hp
    obtain ⟨o2, xs, n, ho2, hc2, hd2, hi2⟩ := tup_raw I (ht p hpL).1
    exact raw_of (Heap.get?_push_of_some _ (k1 _ _ ho2)) hc2 hd2 hi2 (ht p hpL).2
  obtain ⟨fs, hfs⟩ := firsts_of fun p hp => (raw p hp).2
  refine wpAny_bind (wpAny_holding (wpAny_call_entry slot_list_sort ⟨_, hoL, rfl⟩ entry_list_sort
    (PyProof.Rows.G.list_sort_tups (s := { s1 with heap := s1.heap.push (seqObj "list" (L1.map fun p => Value.ref p.1).toArray 0) }) hoL hfs (fun v hv => ?_) (by rw [List.length_map, sizeLine_eq]; omega) fun st pm2 srt stb => ⟨_, rfl, ?_⟩) (args_list_sort _)))
  · obtain ⟨p, hp, rfl⟩ := List.mem_map.mp hv
    exact ⟨_, (raw p hp).1⟩
  · generalize arrOf st = xs at pm2 srt stb
    obtain ⟨us, pmu, vals, srt'⟩ := sort_back (fun p hp => (raw p hp).1) pm2 srt
    obtain ⟨c, hc2⟩ := sortedHeap_at (vs := L1.map fun p => Value.ref p.1) (out := xs.map (·.2)) hoL
    have kept : ∀ b u, s.heap.get? b = some u → (sortedHeap (s1.heap.push (seqObj "list" (L1.map fun p => Value.ref p.1).toArray 0)) s1.heap.objs.size (L1.map fun p => Value.ref p.1) (xs.map (·.2))).get? b = some u := by
      intro b u e
      have e1 := k1 b u e
      have lt := Heap.lt_size e1
      rw [sortedHeap_old (Nat.ne_of_lt lt) (by rw [size_push']; exact Nat.lt_succ_of_lt lt)]
      exact Heap.get?_push_of_some _ e1
    have fresh : H s1.heap.objs.size = none := I.hok.fresh hz
    have hv : Vals (us.map fun q => V.ref q.1) (xs.map (·.2)).toList := by
      rw [Array.toList_map, ← vals]
      exact vals_refs us
    have hlen : (us.map fun q => V.ref q.1).length ≤ sizeLine := by
      rw [List.length_map, pmu.length_eq, sizeLine_eq]
      omega
    obtain ⟨h1, g', d', t', o'⟩ := s1
    obtain rfl : g' = s.gens := g1
    obtain rfl : o' = s.os := o1
    have J := I.call (g' := s.gens) (d' := d') (t' := t') (ch := []) (Un.laid kept hz fresh) (I.hok.laid (o := .lst (us.map fun q => V.ref q.1)) kept hz ⟨hlen, _, c, hv, by rw [Array.toArray_toList]; exact hc2⟩) I.bare (fun _ z => nomatch z)
    exact wpAny_pure ⟨_, rfl, .ref h1.objs.size, _, J, rfl, q us _ (pmu.trans pL) srt' R.uniq fresh⟩
theorem cr_setNK {K : PySem.W.Frag} {w : World} (hc : X.calm = true) (hK : X.K = K := by rfl) (hw : X.w = w := by rfl) : CallR X (.type "set") (rSetN K w) := by
  subst hK
  subst hw
  exact cr_setN hc
theorem cr_sortedNK {w : World} (hc : X.calm = true) (hw : X.w = w := by rfl) : CallR X (.builtin "sorted") (rSortedSet w) := by
  subst hw
  exact cr_sortedSet hc
theorem cr_set3K {K : PySem.W.Frag} {P : Program} {w : World} (hc : X.calm = true) (hu : X.A.units + 64 < cLine) (hK : X.K = K := by rfl) (hP : X.prog = P := by rfl) (hw : X.w = w := by rfl) : CallR X (.type "set") (rSet3 K P w) := by
  subst hK
  subst hP
  subst hw
  exact cr_set3 hc hu
theorem cr_sorted3K {K : PySem.W.Frag} {P : Program} {w : World} (hc : X.calm = true) (hK : X.K = K := by rfl) (hP : X.prog = P := by rfl) (hw : X.w = w := by rfl) : CallR X (.builtin "sorted") (rSorted3 K P w) := by
  subst hK
  subst hP
  subst hw
  exact cr_sorted3 hc
end
end W5

/-! W6: {elt for target in iter if ..}, elt a tuple of ints. -/
namespace W6
open PySem PySem.Spec PyProof.Rows L2 W1 W2 W3 W4 W5

def tSc3 (K : PySem.W.Frag) (P : Program) (w : World) (wi : TI) (g : TG) (tt : TT) (te : TE) (vs : List Nat) : TE := fun σ H Q => wi σ H fun J H1 => ∀ D, H1 D = none → ∃ W : Nat → Nat → Hp → Prop, (∃ m, W 0 m (upd H1 D (Set3 P w D []))) ∧ ∀ i m H, W i m H →
  (J.stop i H ∧ Q (.ref D) H) ∨ (J.go i H ∧ ∃ Nx : Hp → Prop, (∀ H', Nx H' → ∃ m', m' < m ∧ W (i + 1) m' H') ∧ ∀ x H', J.yld i H x H' → g x (wipe σ vs) H' fun σ2 H2 => wipe σ2 vs = wipe σ vs ∧ tt σ2 H2 fun b H3 =>
    if b = true then te σ2 H3 fun y H4 => ∃ (p : Addr) (k : List Int) (L : List (Addr × List Int)), y = .ref p ∧ SqT K H4 p (k.map V.int) ∧ H4 D = some (Set3 P w D L) ∧ (∀ q ∈ L, SqT K H4 q.1 (q.2.map V.int)) ∧ L.length < 76 ∧
      ∀ L', (k ∈ L.map (·.2) → L' = L) → (k ∉ L.map (·.2) → L'.Perm ((p, k) :: L)) → (L'.map (·.2)).Nodup → Nx (upd H4 D (Set3 P w D L'))
    else Nx H3)
section
variable {X : Cx} {pins : List (Addr × Obj)} {σ : L2.St} {H : Hp} {s : Shared}
/-- set.add of a tuple -/
theorem add_ok {E : Value → Shared → Prop} {D p : Addr} {k : List Int} {L : List (Addr × List Int)} {Q : Value → Shared → Prop} (I : Inv X pins σ H s) (hu : X.A.units + 64 < cLine) (hD : H D = some (Set3 X.prog X.w D L)) (hp : SqT X.K H p (k.map V.int)) (hL : ∀ q ∈ L, SqT X.K H q.1 (q.2.map V.int)) (h76 : L.length < 76)
    (h : ∀ L' s', (k ∈ L.map (·.2) → L' = L) → (k ∉ L.map (·.2) → L'.Perm ((p, k) :: L)) → (L'.map (·.2)).Nodup → Inv X pins σ (upd H D (Set3 X.prog X.w D L')) s' → Q .none s') :
    wpAny (model X.prog X.w) X.A (call (.builtin "set.add") [.ref D, .ref p]) Q E s := by
  obtain ⟨es, ep, t, R⟩ := (show ∃ es ep t, Held X.prog X.w s.heap D L es ep t from (I.hok D _ hD).1)
  obtain ⟨o, ho, ex, hd⟩ := id R.obj
  have ty : s.TypeIs (.ref D) "set" := ⟨o, ho, ex.1⟩
  refine wpAny_call_entry F.slot_set_add ty F.entry_set_add ?_ (F.args_set_add_2 _ _)
  unfold Builtin.«set.add» Builtin.Frozenset.oneOther
  simp only [List.isEmpty_nil, bind_assoc]
  unfold Builtin.Frozenset.addrOf setAdd
  refine wpAny_bind (wpAny_pure ?_)
  try dsimp only
  refine wpAny_bind (wpAny_pure ?_)
  try dsimp only
  refine wpAny_bind (wpAny_holding (wpAny_bind (wpAny_pyHash_tuple (by first | (show X.A.units + 1 < cLine; omega) | (show X.A.units + 1 + 1 < cLine; omega)) (I.isT hp) ?_)))
  refine add3 (s := { s with toks := s.toks + (k.length + 1) }) R (fun q hq => I.isT (hL q hq)) (I.isT hp) (by first | (show X.A.units + 1 < cLine; omega) | (show X.A.units + 1 + 1 < cLine; omega)) h76 fun b h' L' es' ep' t' sb R' old new => ?_
  have there : ∃ u, h'.get? D = some u := by
    obtain ⟨o', ho', _⟩ := R'.obj
    exact ⟨o', ho'⟩
  show wpAny _ _ (ret Value.none) _ _ _
  refine wpAny_pure ⟨_, rfl, h L' _ old new R'.uniq ?_⟩
  exact I.write (e := D) (t' := s.toks + (k.length + 1)) (by rw [hD]; trivial) (.inl rfl) (fun b u hb hu => (sb.2 b hb).trans hu) there (set3_ok R')

theorem pe_sc3 {elt tg iter : Expr} {ifs : List Expr} {scope : Scope} {own : List (Str × Nat)} {pos : Pos} {wi : TI} {g : TG} {tt : TT} {te : TE} (hu : X.A.units + 64 < cLine) (hc : X.calm = true) (hN : X.N.Nodup) (hi : PI X tg iter wi) (ok : BlkOk X.N X.env.scope scope own)
    (hg : ∀ (s : Shared) (H : Hp) (C : Addr) (cl : List (Str × Addr)) (fp : List Addr), PG (X.blk s H scope (compEnvC scope cl C X.env) fp) tg g) (ht : ∀ (s : Shared) (H : Hp) (C : Addr) (cl : List (Str × Addr)) (fp : List Addr), PTs (X.blk s H scope (compEnvC scope cl C X.env) fp) ifs tt)
    (he : ∀ (s : Shared) (H : Hp) (C : Addr) (cl : List (Str × Addr)) (fp : List Addr), PE (X.blk s H scope (compEnvC scope cl C X.env) fp) elt te) (hs : ∀ x, foldedSetIterable iter X.env x = pure x := by intro _; rfl) :
    PE X (.SetComp elt [⟨tg, iter, ifs, 0⟩] scope pos) (tSc3 X.K X.prog X.w wi g tt te (own.map (·.2))) := by
  refine ⟨fun pins s σ H Q I h => ?_⟩
  rw [PpSet.eval_SetComp]
  have captured : ∀ y ∈ scope.names, y.2 = .free → ∃ c, X.env.cells.lookup y.1 = some c := fun y hy e => (ok.free y hy e).elim (fun k => I.ok.has _ (.inl k)) fun k => I.ok.has _ (.inr k)
  refine wpAny_comprehension_free (use := none) rfl hs (closure_ok captured) ok.kind (fun y hy e => by rw [ok.uniq y hy, e]) (thn (hi.run pins s σ H _ I h) fun _ s1 h1 => thn h1 fun _ s2 h2 => ?_)
  obtain ⟨it, fp, tn, J, H2, rfl, I2, T, st2, f2, q⟩ := h2
  refine PpSet.newSet_ok (newEnv_comp ?_)
  -- the new set at D
  generalize eD : s2.heap.objs.size = D
  obtain ⟨W, ⟨m0, w0⟩, turn⟩ := q D (I2.hok.fresh (Nat.le_of_eq eD))
  generalize e3 : ({ s2 with heap := s2.heap.push (bare X.w) } : Shared) = s3
  have h3 : s3.heap = s2.heap.push (bare X.w) := by rw [← e3]
  have I3 : Inv X pins σ (upd H2 D (Set3 X.prog X.w D [])) s3 := by
    rw [← e3]
    refine I2.laid (t' := s2.toks) (fun b o e => Heap.get?_push_of_some _ e) (Nat.le_of_eq eD) (set3_ok (held_new ?_))
    rw [← eD]
    exact Heap.get?_push_size _ rfl
  have below : ∀ b ∈ fp, b < s2.heap.objs.size := fun b hb => by
    obtain ⟨o, e, _⟩ := T.obj _ _ st2 b hb
    exact Heap.lt_size e
  have f3 : ∀ b ∈ fp, FpOk X pins (upd H2 D (Set3 X.prog X.w D [])) b ∧ b < s3.heap.objs.size := fun b hb => by
    have lt := below b hb
    refine ⟨⟨?_, (f2 b hb).2⟩, ?_⟩
    · rw [upd_ne (by rw [← eD]; exact Nat.ne_of_lt lt)]
      exact (f2 b hb).1
    · rw [h3, Heap.size_push]
      exact Nat.lt_succ_of_lt lt
  have st3 : tn 0 s3.heap := T.keep _ _ _ st2 fun b _ o e => by
    rw [h3]
    exact Heap.get?_push_of_some _ e
  have I4 := block_start I3 ok hN f3
  have pg := hg s3 (upd H2 D (Set3 X.prog X.w D [])) s3.heap.objs.size (cellsFrom (s3.heap.objs.size + 1) scope.names (cloFrom X.env.cells scope.names [])) fp
  have pt := ht s3 (upd H2 D (Set3 X.prog X.w D [])) s3.heap.objs.size (cellsFrom (s3.heap.objs.size + 1) scope.names (cloFrom X.env.cells scope.names [])) fp
  have pe := he s3 (upd H2 D (Set3 X.prog X.w D [])) s3.heap.objs.size (cellsFrom (s3.heap.objs.size + 1) scope.names (cloFrom X.env.cells scope.names [])) fp
  show codeAny _ _ (.compStart (.SetComp elt [⟨tg, iter, ifs, 0⟩] scope pos) 0 (.ref it) (.ref D) (compEnvC scope (cellsFrom (s3.heap.objs.size + 1) scope.names (cloFrom X.env.cells scope.names [])) s3.heap.objs.size X.env)) (compPost (model X.prog X.w) X.A X.xe none (EP X pins σ Q) (.ref D) s3.heap.objs.size) { s3 with heap := pushCells (s3.heap.push { cls := .type "dict", data := .dict #[] }) scope.names }
  have n3 : ∀ b ∈ fp, (upd H2 D (Set3 X.prog X.w D [])) b = none := fun b hb => (f3 b hb).1.1
  generalize eB : compEnvC scope (cellsFrom (s3.heap.objs.size + 1) scope.names (cloFrom X.env.cells scope.names [])) s3.heap.objs.size X.env = cenv at I4 pg pt pe ⊢
  have locals : cenv.locals = s3.heap.objs.size := by rw [← eB]; rfl
  generalize eH : upd H2 D (Set3 X.prog X.w D []) = H3 at I3 I4 pg pt pe w0 n3 f3
  generalize e4 : ({ s3 with heap := pushCells (s3.heap.push { cls := .type "dict", data := .dict #[] }) scope.names } : Shared) = s4 at I4 ⊢
  have st4 : tn 0 s4.heap := T.keep _ _ _ st3 fun b _ o e => by
    rw [← e4]
    exact pushCells_keeps _ _ _ _ (Heap.get?_push_of_some _ e)
  have still : ∀ {σ' : L2.St} {H' : Hp} {s' : Shared}, Inv (X.blk s3 H3 scope cenv fp) [] σ' H' s' → (∀ b ∈ fp, H' b = none) → ∀ b ∈ fp, FpOk (X.blk s3 H3 scope cenv fp) [] H' b := by
    intro σ' H' s' I' hn b hb
    refine ⟨hn b hb, (I'.ok.exf b hb).1, I'.ok.exfs b hb, .inl hb, fun x c e => (I'.ok.exf b hb).2 x c e, fun p hp => ?_⟩
    have hp' : p ∈ ([] : List (Addr × Obj)) ++ [] := hp
    exact (List.not_mem_nil hp').elim
  have loop : codeAny (model X.prog X.w) X.A (.compLoop (.SetComp elt [⟨tg, iter, ifs, 0⟩] scope pos) 0 (.ref it) (.ref D) cenv) (compPost (model X.prog X.w) X.A X.xe none (EP X pins σ Q) (.ref D) s3.heap.objs.size) s4 := by
    refine PpSet.compLoopS_any (fun n s' => ∃ i H', Inv (X.blk s3 H3 scope cenv fp) [] (wipe σ (own.map (·.2))) H' s' ∧ tn i s'.heap ∧ (∀ b ∈ fp, H' b = none) ∧ W i n H') (fun n s5 h5 => ?_) m0 ⟨0, H3, I4, st4, n3, w0⟩
    obtain ⟨i, H5, I5, st5, n5, w5⟩ := h5
    rcases turn i n H5 w5 with ⟨stop, fin⟩ | ⟨go, Nx, hNx, step⟩
    · refine thnF (T.done (X.blk s3 H3 scope cenv fp) rfl rfl rfl hc i [] s5 _ H5 (fun _ _ => False) I5 (still I5 n5) st5 stop) fun r s6 h6 => ?_
      obtain ⟨rfl, I6⟩ := h6
      have I7 : Inv X pins σ H5 s6 := I3.call' (ch := fp) I6.os I6.base I6.hok I6.bare fun b hb => ⟨(f3 b hb).1.2.2.2.1, (f3 b hb).1.2.1, (f3 b hb).1.2.2.2.2.1, (f3 b hb).1.2.2.2.2.2⟩
      have free : H5 s3.heap.objs.size = none := by
        rw [← locals]
        exact I6.free
      obtain ⟨m, hn, _⟩ := I6.loc
      rw [show (X.blk s3 H3 scope cenv fp).env.locals = s3.heap.objs.size from locals] at hn
      obtain ⟨g0, g1, g2, g3, g4, g5⟩ := I3.fpOk (Nat.le_refl _) free
      exact ⟨m, hn, fun h'' sb => ⟨.ref D, H5, I7.turned (t' := s6.toks) (fun b o hb e => (sb.2 b hb).trans e) g0 g1 g3 g4 g5, rfl, fin⟩⟩
    · refine thnF (T.item (X.blk s3 H3 scope cenv fp) rfl rfl rfl hc i [] s5 _ H5 (fun _ _ => False) I5 (still I5 n5) st5 go) fun r s6 h6 => ?_
      obtain ⟨u, rfl, h6⟩ := h6
      refine thnF h6 fun _ s7 h7 => ?_
      obtain ⟨x, H7, I7, r7, y7, st7, n7⟩ := h7
      have I7' := I7.pinned (still I7 n7) (T.obj _ _ st7)
      refine thnF (pg.run _ s7 _ H7 x u _ I7' r7 (step x H7 y7)) fun _ s8 h8 => ?_
      obtain ⟨σ8, H8, I8, hw8, q8⟩ := h8
      refine thnF (pt.run _ s8 σ8 H8 _ I8 q8) fun b s9 h9 => ?_
      obtain ⟨H9, I9, q9⟩ := h9
      have again : ∀ {s' : Shared} {H' : Hp}, Inv (X.blk s3 H3 scope cenv fp) ([] ++ pinsAt fp s7.heap) σ8 H' s' → Nx H' → ∃ m, m < n ∧ ∃ i H', Inv (X.blk s3 H3 scope cenv fp) [] (wipe σ (own.map (·.2))) H' s' ∧ tn i s'.heap ∧ (∀ b ∈ fp, H' b = none) ∧ W i m H' := by
        intro s' H' I' nx
        obtain ⟨m', hm, w'⟩ := hNx H' nx
        have pinned : ∀ b ∈ fp, ∀ o, s7.heap.get? b = some o → s'.heap.get? b = some o ∧ H' b = none := fun b hb o e =>
          let z := I'.pin (b, o) (List.mem_append_right _ (List.mem_append_right _ (mem_pinsAt hb e)))
          ⟨z.1, z.2.1⟩
        have len : (wipe σ (own.map (·.2))).length = σ8.length := by rw [← hw8, wipe_length]
        refine ⟨m', hm, i + 1, H', (I'.unpinned (pins := [])).weak len (fun j v e => ?_), T.keep _ _ _ st7 fun b hb o e => (pinned b hb o e).1, fun b hb => ?_, w'⟩
        · rw [← hw8] at e
          exact (wipe_some e).1
        · obtain ⟨o, e, _⟩ := T.obj _ _ st7 b hb
          exact (pinned b hb o e).2
      cases b with
      | false =>
        simp only [Bool.false_eq_true, if_false] at q9 ⊢
        exact again I9 q9
      | true =>
        simp only [if_true] at q9 ⊢
        refine thnF (pe.run _ s9 σ8 H9 _ I9 q9) fun z s10 h10 => ?_
        obtain ⟨y, H10, I10, r10, p, k, L, rfl, hp, hD, hL, h76, nx⟩ := h10
        cases r10
        exact add_ok (X := X.blk s3 H3 scope cenv fp) I10 hu hD hp hL h76 fun L' s11 old new uniq I11 => again I11 (nx L' old new uniq)
  exact PpSet.codeAny_compStart_set loop (T.self X.A 0 _ _ _ st4 loop)
end
/-- its reading over anything walked -/
theorem sc_it {K : PySem.W.Frag} {P : Program} {w : World} {J : It} {n : Nat} {G : Hp → Prop} {Y : Nat → Hp → V → Hp → Prop} (wk : Walk J n G Y) {g : TG} {tt : TT} {te : TE} {vs : List Nat} {σ : L2.St} {H1 : Hp} {D : Addr} {Qd : Hp → Prop} (Pv : Nat → Hp → Prop) (h0 : Pv 0 (upd H1 D (Set3 P w D []))) (hG : ∀ i H, i ≤ n → Pv i H → G H)
    (hs : ∀ i x H H', i < n → Pv i H → Y i H x H' → g x (wipe σ vs) H' fun σ2 H2 => wipe σ2 vs = wipe σ vs ∧ tt σ2 H2 fun b H3 =>
      if b = true then te σ2 H3 fun y H4 => ∃ (p : Addr) (k : List Int) (L : List (Addr × List Int)), y = .ref p ∧ SqT K H4 p (k.map V.int) ∧ H4 D = some (Set3 P w D L) ∧ (∀ q ∈ L, SqT K H4 q.1 (q.2.map V.int)) ∧ L.length < 76 ∧
        ∀ L', (k ∈ L.map (·.2) → L' = L) → (k ∉ L.map (·.2) → L'.Perm ((p, k) :: L)) → (L'.map (·.2)).Nodup → Pv (i + 1) (upd H4 D (Set3 P w D L'))
      else Pv (i + 1) H3) (hd : ∀ H, Pv n H → Qd H) :
    ∃ W : Nat → Nat → Hp → Prop, (∃ m, W 0 m (upd H1 D (Set3 P w D []))) ∧ ∀ i m H, W i m H →
      (J.stop i H ∧ Qd H) ∨ (J.go i H ∧ ∃ Nx : Hp → Prop, (∀ H', Nx H' → ∃ m', m' < m ∧ W (i + 1) m' H') ∧ ∀ x H', J.yld i H x H' → g x (wipe σ vs) H' fun σ2 H2 => wipe σ2 vs = wipe σ vs ∧ tt σ2 H2 fun b H3 =>
        if b = true then te σ2 H3 fun y H4 => ∃ (p : Addr) (k : List Int) (L : List (Addr × List Int)), y = .ref p ∧ SqT K H4 p (k.map V.int) ∧ H4 D = some (Set3 P w D L) ∧ (∀ q ∈ L, SqT K H4 q.1 (q.2.map V.int)) ∧ L.length < 76 ∧
          ∀ L', (k ∈ L.map (·.2) → L' = L) → (k ∉ L.map (·.2) → L'.Perm ((p, k) :: L)) → (L'.map (·.2)).Nodup → Nx (upd H4 D (Set3 P w D L'))
        else Nx H3) := by
  refine ⟨fun i left H => left + i = n ∧ Pv i H, ⟨n, rfl, h0⟩, fun i left H hw => ?_⟩
  obtain ⟨e, p⟩ := hw
  cases left with
  | zero =>
    obtain rfl : i = n := by omega
    exact Or.inl ⟨wk.stops H (hG i H (Nat.le_refl _) p), hd H p⟩
  | succ left =>
    have hi : i < n := by omega
    have hg := hG i H (Nat.le_of_lt hi) p
    exact Or.inr ⟨wk.goes i H hi hg, Pv (i + 1), fun H' p' => ⟨left, Nat.lt_succ_self _, by omega, p'⟩, fun x H' y => hs i x H H' hi p (wk.yields i H x H' hi hg y)⟩
end W6

namespace K0
open PySem PySem.Spec PyProof.Rows L2 W0 W1 W2 W5 W6

/-! ### ascending lists -/
theorem asc_uniq {α : Type} {lt : α → α → Prop} (irr : ∀ a, ¬ lt a a) (tr : ∀ a b c, lt a b → lt b c → lt a c) : ∀ {l m : List α}, l.Pairwise lt → m.Pairwise lt → (∀ x, x ∈ l ↔ x ∈ m) → l = m
  | [], [], _, _, _ => rfl
  | [], b :: m, _, _, h => absurd ((h b).mpr List.mem_cons_self) List.not_mem_nil
  | a :: l, [], _, _, h => absurd ((h a).mp List.mem_cons_self) List.not_mem_nil
  | a :: l, b :: m, hl, hm, h => by
    obtain ⟨hl1, hl2⟩ := List.pairwise_cons.mp hl
    obtain ⟨hm1, hm2⟩ := List.pairwise_cons.mp hm
    have e : a = b := by
      rcases List.mem_cons.mp ((h a).mp List.mem_cons_self) with e | ma
      · exact e
      · rcases List.mem_cons.mp ((h b).mpr List.mem_cons_self) with e | mb
        · exact e.symm
        · exact absurd (tr _ _ _ (hl1 b mb) (hm1 a ma)) (irr a)
    subst e
    rw [asc_uniq irr tr hl2 hm2 fun x => ?_]
    constructor
    · intro hx
      rcases List.mem_cons.mp ((h x).mp (List.mem_cons_of_mem _ hx)) with e | hx'
      · rw [e] at hx
        exact absurd (hl1 a hx) (irr a)
      · exact hx'
    · intro hx
      rcases List.mem_cons.mp ((h x).mpr (List.mem_cons_of_mem _ hx)) with e | hx'
      · rw [e] at hx
        exact absurd (hm1 a hx) (irr a)
      · exact hx'
theorem ints_uniq {l m : List Int} (hl : l.Pairwise (· < ·)) (hm : m.Pairwise (· < ·)) (h : ∀ x, x ∈ l ↔ x ∈ m) : l = m := asc_uniq (fun a => Int.lt_irrefl a) (fun a b c => Int.lt_trans) hl hm h
theorem lt3_trans {a b c : T3} (h : lt3 a b) (g : lt3 b c) : lt3 a c := by
  have h1 := lt3_iff.mp h
  have h2 := lt3_iff.mp g
  exact lt3_iff.mpr (by omega)
theorem lt3_irr (a : T3) : ¬ lt3 a a := fun h => lt3_ne h rfl
theorem t3_uniq {l m : List T3} (hl : l.Pairwise lt3) (hm : m.Pairwise lt3) (h : ∀ x, x ∈ l ↔ x ∈ m) : l = m := asc_uniq lt3_irr (fun _ _ _ => lt3_trans) hl hm h
theorem asc_below {n : Nat} : ∀ {l : List Int} {a : Nat}, l.Pairwise (· < ·) → (∀ x ∈ l, (a : Int) ≤ x ∧ x < n) → l.length + a ≤ n ∨ l = []
  | [], _, _, _ => Or.inr rfl
  | x :: l, a, h, b => by
    obtain ⟨h1, h2⟩ := List.pairwise_cons.mp h
    have hx := b x List.mem_cons_self
    rcases asc_below (a := a + 1) h2 (fun y hy => ⟨by have := h1 y hy; omega, (b y (List.mem_cons_of_mem _ hy)).2⟩) with e | e
    · left
      rw [List.length_cons]
      omega
    · left
      rw [e]
      show 1 + a ≤ n
      omega
/-! ### where ways lead, as ascending lists -/
theorem mem_ledS {A : List T3} {w x e : Int} : e ∈ ledS A w x ↔ ∃ t ∈ A, ledF w x t = some e := List.mem_filterMap
theorem ledF_pos {w x e : Int} {t : T3} (h : 0 ≤ w) : ledF w x t = some e ↔ t = (w, x, e) := by
  unfold ledF
  rw [if_pos h]
  by_cases c : t.1 = w ∧ t.2.1 = x
  · rw [if_pos c]
    constructor
    · intro z
      exact T3.ext' c.1 c.2 (Option.some.inj z)
    · intro z
      rw [z]
  · rw [if_neg c]
    constructor
    · intro z
      cases z
    · intro z
      exact absurd ⟨by rw [z], by rw [z]⟩ c
theorem ledF_neg {w x e : Int} {t : T3} (h : ¬ 0 ≤ w) : ledF w x t = some e ↔ t = (-1 - w, e, x) := by
  unfold ledF
  rw [if_neg h]
  by_cases c : t.1 = -1 - w ∧ t.2.2 = x
  · rw [if_pos c]
    constructor
    · intro z
      exact T3.ext' c.1 (Option.some.inj z) c.2
    · intro z
      rw [z]
  · rw [if_neg c]
    constructor
    · intro z
      cases z
    · intro z
      exact absurd ⟨by rw [z], by rw [z]⟩ c
theorem ledF_turn (w x : Int) (t : T3) : ledF (-1 - w) x (turn t) = ledF w x t := by
  unfold ledF turn
  by_cases h : 0 ≤ w
  · rw [if_neg (by omega), if_pos h]
    have e : -1 - (-1 - w) = w := by omega
    rw [e]
  · rw [if_pos (by omega), if_neg h]
theorem ledS_asc {A : List T3} (asc : A.Pairwise lt3) (w x : Int) : (ledS A w x).Pairwise (· < ·) := by
  refine List.pairwise_filterMap.mpr (List.Pairwise.imp (fun {a b} hab y hy z hz => ?_) asc)
  have h := lt3_iff.mp hab
  by_cases c : 0 ≤ w
  · rw [(ledF_pos c).mp hy, (ledF_pos c).mp hz] at h
    dsimp only at h
    omega
  · rw [(ledF_neg c).mp hy, (ledF_neg c).mp hz] at h
    dsimp only at h
    omega
theorem ledS_in {n : Int} {A : List T3} (ok : WOk n A) {w x e : Int} (h : e ∈ ledS A w x) : 0 ≤ e ∧ e < n := by
  obtain ⟨t, ht, f⟩ := mem_ledS.mp h
  have i := ok.all t ht
  by_cases c : 0 ≤ w
  · rw [(ledF_pos c).mp f] at i
    exact ⟨i.e0, i.en⟩
  · rw [(ledF_neg c).mp f] at i
    exact ⟨i.f0, i.fn⟩
theorem ledS_few {n : Nat} {A : List T3} (ok : WOk n A) (w x : Int) : (ledS A w x).length ≤ n := by
  rcases asc_below (n := n) (a := 0) (ledS_asc ok.asc w x) (fun e h => ledS_in ok h) with e | e
  · exact e
  · rw [e]
    exact Nat.zero_le _
theorem ledS_turned {n : Int} {A B : List T3} (okA : WOk n A) (okB : WOk n B) (p : B.Perm (A.map turn)) (w x : Int) : ledS B (-1 - w) x = ledS A w x := by
  refine ints_uniq (ledS_asc okB.asc _ _) (ledS_asc okA.asc _ _) fun e => ?_
  rw [mem_ledS, mem_ledS]
  constructor
  · rintro ⟨t, ht, f⟩
    obtain ⟨s, hs, rfl⟩ := List.mem_map.mp (p.mem_iff.mp ht)
    exact ⟨s, hs, by rw [← ledF_turn]; exact f⟩
  · rintro ⟨s, hs, f⟩
    exact ⟨turn s, p.mem_iff.mpr (List.mem_map.mpr ⟨s, hs, rfl⟩), by rw [ledF_turn]; exact f⟩
theorem turned_back {n : Int} {A B C : List T3} (okA : WOk n A) (p : B.Perm (A.map turn)) (q : C.Perm (B.map turn)) (h : C.Pairwise lt3) : C = A := by
  refine t3_uniq h okA.asc fun t => ?_
  rw [q.mem_iff, List.mem_map]
  constructor
  · rintro ⟨s, hs, rfl⟩
    obtain ⟨r, hr, rfl⟩ := List.mem_map.mp (p.mem_iff.mp hs)
    exact hr
  · intro ht
    exact ⟨turn t, p.mem_iff.mpr (List.mem_map.mpr ⟨t, ht, rfl⟩), rfl⟩
/-! ### data that can be shown -/
theorem fine_tri {n : Int} {t : T3} (h : InW n t) (hn : n ≤ 200) : Fine 1 3 (dTri t) := by
  have h1 := h.k0
  have h2 := h.k2
  have h3 := h.f0
  have h4 := h.fn
  have h5 := h.e0
  have h6 := h.en
  refine Fine.tup (k := 0) (n := 0) (m := 3) (fun d hd => ?_) (Nat.le_refl _)
  obtain ⟨i, hi, rfl⟩ := List.mem_map.mp hd
  refine Fine.int ?_
  rcases List.mem_cons.mp hi with rfl | hi
  · omega
  rcases List.mem_cons.mp hi with rfl | hi
  · omega
  rw [List.mem_singleton.mp hi]
  omega
theorem fine_arr {n : Int} {A : List T3} (ok : WOk n A) : Fine 2 4000 (dArr A) := by
  refine Fine.tup (k := 1) (n := 3) (m := 1000) (fun d hd => ?_) (by rw [List.length_map]; exact ok.len)
  obtain ⟨t, ht, rfl⟩ := List.mem_map.mp hd
  exact fine_tri (ok.all t ht) ok.n2
theorem fine_web {n : Int} {A : List T3} (ok : WOk n A) : Fine 3 8002 (dWeb n A) := by
  have h1 := ok.n1
  have h2 := ok.n2
  refine Fine.tup (k := 2) (n := 4000) (m := 2) (fun d hd => ?_) (Nat.le_refl _)
  rcases List.mem_cons.mp hd with rfl | hd
  · exact (Fine.int (by omega)).mono (Nat.zero_le _) (Nat.zero_le _)
  · rw [List.mem_singleton.mp hd]
    exact fine_arr ok
theorem fine_ints' {l : List Int} (h : ∀ x ∈ l, 0 ≤ x ∧ x < 200) (hl : l.length ≤ 200) : Fine 1 200 (dInts l) := by
  refine Fine.tup (k := 0) (n := 0) (m := 200) (fun d hd => ?_) (by rw [List.length_map]; exact hl)
  obtain ⟨i, hi, rfl⟩ := List.mem_map.mp hd
  have := h i hi
  exact Fine.int (by omega)
theorem fine_led {n : Nat} {A : List T3} (ok : WOk n A) (w x : Int) : Fine 1 200 (dInts (ledS A w x)) := by
  have h2 := ok.n2
  refine fine_ints' (fun e h => ?_) (Nat.le_trans (ledS_few ok w x) (by omega))
  have := ledS_in ok h
  omega

section
variable {P : Program} {w : World} {K : PySem.W.Frag} {mg : Str → Option Value} {base : Heap}
def sp_like (K : PySem.W.Frag) : Sp := fun vs H Q _ => ∃ (x y : Addr) (d : PyData), vs = [.ref x, .ref y] ∧ Dp K H (.ref x) d ∧ Dp K H (.ref y) d ∧ Fine 20 (2 ^ 20) d ∧ Q (.bl true) H
theorem ok__law_like (T : Tops K w mg) : FnG P w K mg base 1 T.a__law_like T.fd__law_like p__law_like (sp_like K) := by
  have S := sc__law_like
  refine of_body T.F__law_like S (fun vs H Q E h => ?_) (fun cdv AA outer s H vs Q E hgd hr h => ?_)
  · obtain ⟨x, y, d, rfl, _⟩ := h
    rfl
  · obtain ⟨x, y, d, rfl, hx, hy, f, q⟩ := h
    refine ⟨_, (pss_one (ps_ret (pe_cmpR op_eq (pe_callB (call_repr hgd hr.units) (by rfl) T.m_repr (by decide +kernel) (pa_cons (pv 0) pa_nil)) (pe_callB (call_repr hgd hr.units) (by rfl) T.m_repr (by decide +kernel) (pa_cons (pv 1) pa_nil)) (nomark _)))), ?_⟩
    have hd : d.depth ≤ 50 := Nat.le_trans f.dep (by decide)
    refine ⟨.ref x, rfl, x, d, rfl, hx, f.vis, f.nod, hd, f.fits (Nat.le_refl _), .ref y, rfl, y, d, rfl, hy, f.vis, f.nod, hd, f.fits (Nat.le_refl _), rfl, ?_⟩
    rw [decide_eq_true rfl]
    exact q
end
end K0

namespace K0
open PySem PySem.Spec PyProof.Rows L2 W0 W1 W2 W5 W6
mutual
def noL : PyData → Bool
  | .list _ => false
  | .tuple ds => noLs ds
  | .dict _ => false
  | .none => true
  | .bool _ => true
  | .int _ => true
  | .str _ => true
def noLs : List PyData → Bool
  | [] => true
  | d :: ds => noL d && noLs ds
end
mutual
theorem dp_put {K : PySem.W.Frag} {H : Hp} {D : Addr} {acc : List V} {o : HO} (e : H D = some (.lst acc)) : ∀ (d : PyData) (v : V), noL d = true → Dp K H v d → Dp K (upd H D o) v d
  | .none, _, _, h => by cases h; exact .non
  | .bool b, _, _, h => by cases h; exact .bl b
  | .int i, _, _, h => by cases h; exact .int i
  | .str x, _, _, h => by cases h; exact .str x
  | .list ds, _, z, _ => Bool.noConfusion z
  | .tuple ds, _, z, h => by
    cases h with
    | tup hs ha => exact .tup (sqT_upd e hs) (dps_put e ds _ z ha)
  | .dict _, _, z, _ => Bool.noConfusion z
theorem dps_put {K : PySem.W.Frag} {H : Hp} {D : Addr} {acc : List V} {o : HO} (e : H D = some (.lst acc)) : ∀ (ds : List PyData) (vs : List V), noLs ds = true → DpAll K H vs ds → DpAll K (upd H D o) vs ds
  | [], _, _, h => by cases h; exact .nil
  | d :: ds, _, z, h => by
    have z1 := (Bool.and_eq_true _ _).mp z
    cases h with
    | cons h1 h2 => exact .cons (dp_put e d _ z1.1 h1) (dps_put e ds _ z1.2 h2)
end
mutual
theorem dp_mv {K : PySem.W.Frag} {H H' : Hp} (e : ∀ p xs, SqT K H p xs → SqT K H' p xs) : ∀ (d : PyData) (v : V), noL d = true → Dp K H v d → Dp K H' v d
  | .none, _, _, h => by cases h; exact .non
  | .bool b, _, _, h => by cases h; exact .bl b
  | .int i, _, _, h => by cases h; exact .int i
  | .str x, _, _, h => by cases h; exact .str x
  | .list ds, _, z, _ => Bool.noConfusion z
  | .tuple ds, _, z, h => by
    cases h with
    | tup hs ha => exact .tup (e _ _ hs) (dps_mv e ds _ z ha)
  | .dict _, _, z, _ => Bool.noConfusion z
theorem dps_mv {K : PySem.W.Frag} {H H' : Hp} (e : ∀ p xs, SqT K H p xs → SqT K H' p xs) : ∀ (ds : List PyData) (vs : List V), noLs ds = true → DpAll K H vs ds → DpAll K H' vs ds
  | [], _, _, h => by cases h; exact .nil
  | d :: ds, _, z, h => by
    have z1 := (Bool.and_eq_true _ _).mp z
    cases h with
    | cons h1 h2 => exact .cons (dp_mv e d _ z1.1 h1) (dps_mv e ds _ z1.2 h2)
end
theorem noL_arr : ∀ A : List T3, noLs (A.map dTri) = true
  | [] => rfl
  | t :: A => by
    show (true && noLs (A.map dTri)) = true
    rw [noL_arr A]
    rfl
theorem noL_web (n : Int) (A : List T3) : noL (dWeb n A) = true := by
  show (true && (noLs (A.map dTri) && true)) = true
  rw [noL_arr A]
  rfl
theorem web_x {K : PySem.W.Frag} {H H' : Hp} {st c l : Addr} {B : Nat} {v : V} {n : Int} {A : List T3} (h : StAt K H st c l B) (e : SameX st l H H') (d : Dp K H v (dWeb n A)) : Dp K H' v (dWeb n A) := dp_mv (fun _ _ q => sqT_x h e q) _ _ (noL_web n A) d
end K0

/-! V0: NAME.get(word, x) of a written dict; max(list of ints, default=d). -/
namespace V0
open PySem PySem.Spec PyProof.Rows L2 W1
/-! ### a written dict's get, the key being there -/
def tKGet (K : PySem.W.Frag) (w : World) (td ty tx : TE) : TE := fun σ H Q => td σ H fun x H1 => ∃ (a : Addr) (es : Array DictEntry) (n : Nat), x = .ref a ∧ KDict K w a es n ∧
  ty σ H1 fun y H2 => tx σ H2 fun _ H3 => ∃ (z : Str) (v : V), y = .str z ∧ KDct K w a z v ∧ Q v H3
theorem pe_kget {X : Cx} {o e f : Expr} {apos cpos : Pos} {td ty tx : TE} (ho : PE X o td) (he : PE X e ty) (hf : PE X f tx) (m : M2 X o "get" apos e f cpos) : PE X (.Call (.Attribute o "get" apos) [e, f] [] cpos) (tKGet X.K X.w td ty tx) := by
  constructor
  intro pins s σ H Q I h
  refine wpAny_Call_method m.base m.few m.line PySem.F.plainAttrs_dict PySem.F.slot_dict_get PySem.F.type_dict_get ?_
  refine thn (ho.run pins s σ H _ I h) fun u s1 hu => ?_
  obtain ⟨x, H1, I1, rx, a, es, n, ex, D, q1⟩ := hu
  subst ex
  cases (show u = Value.ref a from rx)
  have mp := PySem.W.mapOf_K (prog := X.prog) (w := X.w) I1.kIn D.at_ D.lit
  refine ⟨mp.typeIs, fun b q => ?_, ?_⟩
  · cases q
    obtain ⟨o1, es1, n1, g1, g2, g3⟩ := mp
    exact ⟨o1, g1, g2.2.1⟩
  rw [m.trees]
  refine Calls.callWith_builtin rfl (Calls.evalArgs_plain ?_)
  refine Calls.spliced_cons (thn (he.run pins s1 σ H1 _ I1 q1) fun iv s2 h2 => ?_)
  obtain ⟨y, H2, I2, ry, q2⟩ := h2
  refine Calls.spliced_cons (thn (hf.run pins s2 σ H2 _ I2 q2) fun fv s3 h3 => Calls.spliced_nil ?_)
  obtain ⟨z3, H3, I3, rz, z, v, ey, kd, q3⟩ := h3
  subst ey
  obtain ⟨t, rfl⟩ := (show ∃ t, iv = Value.str z t from ry)
  obtain ⟨es', n', u0, hl, hk, e0, ru⟩ := kd
  have mp3 := PySem.W.mapOf_K (prog := X.prog) (w := X.w) I3.kIn hl hk
  refine call_meetsIn PySem.F.slot_dict_get mp3.typeIs PySem.F.entry_dict_get (PySem.F.args_dict_get_3 _ _ _) (meets_dict_get_default (strKind X.prog X.w) a (strKind_is X.prog X.w z t) D.low fv) ⟨_, mp3, ?_⟩
  rw [PySem.W.find_K hl e0]
  exact ⟨v, H3, I3.tok _, ru, q3⟩

/-! ### max(list, default=d) -/
def maxOr (d : Int) : List Int → Int
  | [] => d
  | n :: r => r.foldl (fun a y => if a < y then y else a) n
theorem maxD_int : ∀ (r : List Int) (n : Int), PySem.W.maxD (.int n) (r.map PyData.int) = .int (r.foldl (fun a y => if a < y then y else a) n)
  | [], n => rfl
  | y :: r, n => by
    have e : PySem.W.maxD (.int n) ((y :: r).map PyData.int) = PySem.W.maxD (if PySem.W.dataLt (.int n) (.int y) then .int y else .int n) (r.map PyData.int) := rfl
    have l : PySem.W.dataLt (.int n) (.int y) = decide (n < y) := PySem.W.dataLt_int n y
    rw [e, l]
    by_cases h : n < y
    · rw [decide_eq_true h, if_pos rfl, maxD_int r y, List.foldl_cons, if_pos h]
    · rw [decide_eq_false h, if_neg (by decide), maxD_int r n, List.foldl_cons, if_neg h]
def rMaxOr (K : PySem.W.Frag) : List V → List V → Hp → VK → Prop := fun xs zs H Q => ∃ (a : Addr) (ns : List Int) (d : Int), xs = [.ref a] ∧ zs = [.int d] ∧ SqL K H a (ns.map V.int) ∧ Q (.int (maxOr d ns)) H
theorem reads_int {h : Heap} {v : Value} {m : Int} {bs : List Addr} (r : Reads h v (.int m) bs) : ∃ t, v = .int m t := by
  cases r
  exact ⟨_, rfl⟩
theorem cr_maxOr {X : Cx} (hc : X.calm = true) (hu : X.A.units + 64 < cLine) : CallRK X (.builtin "max") ["default"] (rMaxOr X.K) := by
  intro pins s σ H xs zs us ws Q I r1 r2 h
  obtain ⟨a, ns, d, rfl, rfl, hs, q⟩ := h
  obtain ⟨its, rv, hl, _⟩ := I.list hs
  rw [Vals.ref1 r1]
  obtain ⟨z, rfl, rz⟩ := r2.one
  obtain ⟨t, rfl⟩ := (show ∃ t, z = Value.int d t from rz)
  have rd := Dp.readsAll I (ns.map PyData.int) (ns.map V.int) its (dps_ints ns) rv
  obtain ⟨as, rd⟩ := rd
  have dep : PyData.depthAll (ns.map PyData.int) ≤ 0 := all_dep fun x hx => by
    obtain ⟨i, _, rfl⟩ := List.mem_map.mp hx
    exact Nat.le_refl _
  have alk : PySem.W.AlikeAll (ns.map PyData.int) := by
    refine ⟨fun x hx y hy => ?_, fun x hx e => ?_⟩
    · obtain ⟨i, _, rfl⟩ := List.mem_map.mp hx
      obtain ⟨j, _, rfl⟩ := List.mem_map.mp hy
      rfl
    · obtain ⟨i, _, rfl⟩ := List.mem_map.mp hx
      cases e
  refine PySem.W.max_list_default (I.ok.hd hc) hl.isList (by simpa using rd) alk (by omega) (fun e h' tk hk => ?_) (fun y ys i v h' tk bs e _ rv' hk => ?_)
  · have en : ns = [] := List.map_eq_nil_iff.mp e
    rw [en] at q
    exact ⟨.int d, H, I.kept hk, ⟨t, rfl⟩, q⟩
  · cases ns with
    | nil => cases e
    | cons n r =>
      obtain ⟨rfl, rfl⟩ := List.cons.inj e
      rw [maxD_int] at rv'
      obtain ⟨t', rfl⟩ := reads_int rv'
      exact ⟨.int _, H, I.kept hk, ⟨t', rfl⟩, q⟩
end V0

/-! S0: sayings as data. -/
namespace K0
open PySem PySem.Spec PyProof.Rows L2 W0 W1 W2 W5 W6 V0
inductive Say where
  | lt (i : Nat)
  | hr (j : Nat)
  | yes
  | no
  | nt (s : Say)
  | an (a b : Say)
  | orr (a b : Say)
  | gv (a b : Say)
  | ea (w : Int) (s : Say)
  | so (w : Int) (s : Say)
namespace Say
def hd : Say → Str
  | .lt _ => "letter"
  | .hr _ => "here"
  | .yes => "yes"
  | .no => "no"
  | .nt _ => "not"
  | .an _ _ => "and"
  | .orr _ _ => "or"
  | .gv _ _ => "gives"
  | .ea _ _ => "each"
  | .so _ _ => "some"
def ex : Say → List Int
  | .lt i => [(i : Int)]
  | .hr j => [(j : Int)]
  | .ea w _ => [w]
  | .so w _ => [w]
  | _ => []
def parts : Say → List Say
  | .nt s => [s]
  | .an a b => [a, b]
  | .orr a b => [a, b]
  | .gv a b => [a, b]
  | .ea _ s => [s]
  | .so _ s => [s]
  | _ => []
def deep : Say → Nat
  | .nt s => s.deep + 1
  | .an a b => max a.deep b.deep + 1
  | .orr a b => max a.deep b.deep + 1
  | .gv a b => max a.deep b.deep + 1
  | .ea _ s => s.deep + 1
  | .so _ s => s.deep + 1
  | _ => 1
def words : Say → List Say
  | .nt s => .nt s :: s.words
  | .an a b => .an a b :: (a.words ++ b.words)
  | .orr a b => .orr a b :: (a.words ++ b.words)
  | .gv a b => .gv a b :: (a.words ++ b.words)
  | .ea w s => .ea w s :: s.words
  | .so w s => .so w s :: s.words
  | .lt i => [.lt i]
  | .hr j => [.hr j]
  | .yes => [.yes]
  | .no => [.no]
/-- its own word: what may stand there -/
def top : Say → Prop
  | .lt i => i < 8
  | .hr _ => False
  | .ea w _ => -3 ≤ w ∧ w ≤ 2
  | .so w _ => -3 ≤ w ∧ w ≤ 2
  | _ => True
def Ok : Say → Prop
  | .lt i => i < 8
  | .hr _ => False
  | .yes => True
  | .no => True
  | .nt s => s.Ok
  | .an a b => a.Ok ∧ b.Ok
  | .orr a b => a.Ok ∧ b.Ok
  | .gv a b => a.Ok ∧ b.Ok
  | .ea w s => (-3 ≤ w ∧ w ≤ 2) ∧ s.Ok
  | .so w s => (-3 ≤ w ∧ w ≤ 2) ∧ s.Ok
theorem Ok.top {s : Say} (h : s.Ok) : s.top := by
  cases s <;> first | exact h | exact h.1 | trivial
theorem Ok.part {s t : Say} (h : s.Ok) (m : t ∈ s.parts) : t.Ok := by
  cases s with
  | lt i => cases m
  | hr j => cases m
  | yes => cases m
  | no => cases m
  | nt a =>
    rw [List.mem_singleton.mp m]
    exact h
  | an a b =>
    rcases List.mem_cons.mp m with rfl | m
    · exact h.1
    · rw [List.mem_singleton.mp m]
      exact h.2
  | orr a b =>
    rcases List.mem_cons.mp m with rfl | m
    · exact h.1
    · rw [List.mem_singleton.mp m]
      exact h.2
  | gv a b =>
    rcases List.mem_cons.mp m with rfl | m
    · exact h.1
    · rw [List.mem_singleton.mp m]
      exact h.2
  | ea w a =>
    rw [List.mem_singleton.mp m]
    exact h.2
  | so w a =>
    rw [List.mem_singleton.mp m]
    exact h.2
theorem deep_part {s t : Say} (m : t ∈ s.parts) : t.deep + 1 ≤ s.deep := by
  cases s with
  | lt i => cases m
  | hr j => cases m
  | yes => cases m
  | no => cases m
  | nt a =>
    rw [List.mem_singleton.mp m]
    exact Nat.le_refl _
  | an a b =>
    rcases List.mem_cons.mp m with rfl | m
    · exact Nat.succ_le_succ (Nat.le_max_left _ _)
    · rw [List.mem_singleton.mp m]
      exact Nat.succ_le_succ (Nat.le_max_right _ _)
  | orr a b =>
    rcases List.mem_cons.mp m with rfl | m
    · exact Nat.succ_le_succ (Nat.le_max_left _ _)
    · rw [List.mem_singleton.mp m]
      exact Nat.succ_le_succ (Nat.le_max_right _ _)
  | gv a b =>
    rcases List.mem_cons.mp m with rfl | m
    · exact Nat.succ_le_succ (Nat.le_max_left _ _)
    · rw [List.mem_singleton.mp m]
      exact Nat.succ_le_succ (Nat.le_max_right _ _)
  | ea w a =>
    rw [List.mem_singleton.mp m]
    exact Nat.le_refl _
  | so w a =>
    rw [List.mem_singleton.mp m]
    exact Nat.le_refl _
theorem deep_pos (s : Say) : 1 ≤ s.deep := by
  cases s <;> first | exact Nat.le_refl _ | exact Nat.succ_le_succ (Nat.zero_le _)
theorem words_eq (s : Say) : s.words = s :: s.parts.flatMap words := by
  cases s <;> simp [words, parts]
/-- its own word: what may stand there, x_0 .. x_(m - 1) -/
def topW (m : Nat) : Say → Prop
  | .lt i => i < 8
  | .hr j => j < m
  | .ea w _ => -3 ≤ w ∧ w ≤ 2
  | .so w _ => -3 ≤ w ∧ w ≤ 2
  | _ => True
/-- all its words are of these and may stand there -/
def OkW (W : List Str) (m : Nat) (s : Say) : Prop := ∀ t ∈ s.words, t.hd ∈ W ∧ t.topW m
theorem self_word (s : Say) : s ∈ s.words := by
  rw [words_eq]
  exact List.mem_cons_self
theorem part_word {s t u : Say} (h : t ∈ s.parts) (hu : u ∈ t.words) : u ∈ s.words := by
  rw [words_eq]
  exact List.mem_cons_of_mem _ (List.mem_flatMap.mpr ⟨t, h, hu⟩)
theorem OkW.part {W : List Str} {m : Nat} {s t : Say} (h : OkW W m s) (p : t ∈ s.parts) : OkW W m t := fun u hu => h u (part_word p hu)
theorem OkW.own {W : List Str} {m : Nat} {s : Say} (h : OkW W m s) : s.hd ∈ W ∧ s.topW m := h s (self_word s)
def sayW : List Str := ["letter", "yes", "no", "not", "and", "or", "gives", "each", "some"]
def factW : List Str := ["yes", "no", "here", "and", "or", "each", "some"]
theorem Ok.w : ∀ {s : Say}, s.Ok → OkW sayW 0 s
  | .lt i, h => fun t m => by
    rw [List.mem_singleton.mp m]
    exact ⟨List.mem_cons_self, h⟩
  | .hr _, h => h.elim
  | .yes, _ => fun t m => by
    rw [List.mem_singleton.mp m]
    exact ⟨show ("yes" : Str) ∈ sayW by decide, trivial⟩
  | .no, _ => fun t m => by
    rw [List.mem_singleton.mp m]
    exact ⟨show ("no" : Str) ∈ sayW by decide, trivial⟩
  | .nt s, h => fun t m => by
    rcases List.mem_cons.mp m with rfl | m
    · exact ⟨show ("not" : Str) ∈ sayW by decide, trivial⟩
    · exact Ok.w (s := s) h t m
  | .an a b, h => fun t m => by
    rcases List.mem_cons.mp m with rfl | m
    · exact ⟨show ("and" : Str) ∈ sayW by decide, trivial⟩
    · exact (List.mem_append.mp m).elim (Ok.w h.1 t) (Ok.w h.2 t)
  | .orr a b, h => fun t m => by
    rcases List.mem_cons.mp m with rfl | m
    · exact ⟨show ("or" : Str) ∈ sayW by decide, trivial⟩
    · exact (List.mem_append.mp m).elim (Ok.w h.1 t) (Ok.w h.2 t)
  | .gv a b, h => fun t m => by
    rcases List.mem_cons.mp m with rfl | m
    · exact ⟨show ("gives" : Str) ∈ sayW by decide, trivial⟩
    · exact (List.mem_append.mp m).elim (Ok.w h.1 t) (Ok.w h.2 t)
  | .ea w s, h => fun t m => by
    rcases List.mem_cons.mp m with rfl | m
    · exact ⟨show ("each" : Str) ∈ sayW by decide, h.1⟩
    · exact Ok.w h.2 t m
  | .so w s, h => fun t m => by
    rcases List.mem_cons.mp m with rfl | m
    · exact ⟨show ("some" : Str) ∈ sayW by decide, h.1⟩
    · exact Ok.w h.2 t m
end Say
def dSay : Say → PyData
  | .lt i => .tuple [.str "letter", .int i]
  | .hr j => .tuple [.str "here", .int j]
  | .yes => .tuple [.str "yes"]
  | .no => .tuple [.str "no"]
  | .nt s => .tuple [.str "not", dSay s]
  | .an a b => .tuple [.str "and", dSay a, dSay b]
  | .orr a b => .tuple [.str "or", dSay a, dSay b]
  | .gv a b => .tuple [.str "gives", dSay a, dSay b]
  | .ea w s => .tuple [.str "each", .int w, dSay s]
  | .so w s => .tuple [.str "some", .int w, dSay s]
theorem dSay_eq (s : Say) : dSay s = .tuple (.str s.hd :: (s.ex.map PyData.int ++ s.parts.map dSay)) := by cases s <;> rfl
theorem noLs_of : ∀ {ds : List PyData}, (∀ d ∈ ds, noL d = true) → noLs ds = true
  | [], _ => rfl
  | d :: ds, h => by
    show (noL d && noLs ds) = true
    rw [h d List.mem_cons_self, noLs_of fun e m => h e (List.mem_cons_of_mem _ m)]
    rfl
theorem noL_say : ∀ s : Say, noL (dSay s) = true
  | .lt _ => rfl
  | .hr _ => rfl
  | .yes => rfl
  | .no => rfl
  | .nt s => by
    show (true && (noL (dSay s) && true)) = true
    rw [noL_say s]
    rfl
  | .an a b => by
    show (true && (noL (dSay a) && (noL (dSay b) && true))) = true
    rw [noL_say a, noL_say b]
    rfl
  | .orr a b => by
    show (true && (noL (dSay a) && (noL (dSay b) && true))) = true
    rw [noL_say a, noL_say b]
    rfl
  | .gv a b => by
    show (true && (noL (dSay a) && (noL (dSay b) && true))) = true
    rw [noL_say a, noL_say b]
    rfl
  | .ea w s => by
    show (true && (true && (noL (dSay s) && true))) = true
    rw [noL_say s]
    rfl
  | .so w s => by
    show (true && (true && (noL (dSay s) && true))) = true
    rw [noL_say s]
    rfl
theorem noLs_says (l : List Say) : noLs (l.map dSay) = true := noLs_of fun d m => by
  obtain ⟨s, _, rfl⟩ := List.mem_map.mp m
  exact noL_say s
section
variable {K : PySem.W.Frag} {H : Hp}
theorem dps_split : ∀ {ds es : List PyData} {xs : List V}, DpAll K H xs (ds ++ es) → ∃ ys zs, xs = ys ++ zs ∧ DpAll K H ys ds ∧ DpAll K H zs es
  | [], _, xs, h => ⟨[], xs, rfl, .nil, h⟩
  | d :: ds, es, _, h => by
    cases h with
    | cons h1 h2 =>
      obtain ⟨ys, zs, rfl, a, b⟩ := dps_split h2
      exact ⟨_ :: ys, zs, rfl, .cons h1 a, b⟩
theorem dp_str {v : V} {x : Str} (h : Dp K H v (.str x)) : v = .str x := by cases h; rfl
theorem say_at {v : V} {s : Say} (h : Dp K H v (dSay s)) : ∃ a xs, v = .ref a ∧ SqT K H a (.str s.hd :: (s.ex.map V.int ++ xs)) ∧ DpAll K H xs (s.parts.map dSay) := by
  rw [dSay_eq] at h
  obtain ⟨a, xs, rfl, hs, hd⟩ := dp_tup h
  cases hd with
  | cons h1 h2 =>
    obtain ⟨ys, zs, rfl, e1, e2⟩ := dps_split h2
    rw [dp_str h1, dps_ints_inv e1] at hs
    exact ⟨a, zs, rfl, hs, e2⟩
end
/-- its own word: letters below nl, worlds below nh, not and gives if dn -/
def Say.okN (nl nh : Nat) (dn : Bool) : Say → Prop
  | .lt i => i < nl
  | .hr j => j < nh
  | .nt _ => dn = true
  | .gv _ _ => dn = true
  | .ea w _ => -3 ≤ w ∧ w ≤ 2
  | .so w _ => -3 ≤ w ∧ w ≤ 2
  | _ => True
def Say.OkN (nl nh : Nat) (dn : Bool) (s : Say) : Prop := ∀ t ∈ s.words, t.okN nl nh dn
theorem Say.OkN.part {nl nh : Nat} {dn : Bool} {s t : Say} (h : s.OkN nl nh dn) (p : t ∈ s.parts) : t.OkN nl nh dn := fun u hu => h u (Say.part_word p hu)
theorem Say.OkN.own {nl nh : Nat} {dn : Bool} {s : Say} (h : s.OkN nl nh dn) : s.okN nl nh dn := h s (Say.self_word s)
theorem Say.OkW.say {s : Say} (h : s.OkW Say.sayW 0) : s.OkN 8 0 true := fun t m => by
  have := (h t m).2
  cases t with
  | nt a => rfl
  | gv a b => rfl
  | _ => exact this
theorem Say.Ok.n {s : Say} (h : s.Ok) : s.OkN 8 0 true := h.w.say
theorem Say.OkW.fact {s : Say} {m : Nat} (h : s.OkW Say.factW m) : s.OkN 0 m false := fun t k => by
  have := h t k
  cases t with
  | lt i => exact absurd (show ("letter" : Str) ∈ Say.factW from this.1) (by decide)
  | nt a => exact absurd (show ("not" : Str) ∈ Say.factW from this.1) (by decide)
  | gv a b => exact absurd (show ("gives" : Str) ∈ Say.factW from this.1) (by decide)
  | _ => exact this.2
/-! ### levels of words -/
def Say.lvls : Nat → List Say → List (List Say)
  | 0, _ => []
  | d + 1, l => if l = [] then [] else l :: Say.lvls d (l.flatMap Say.parts)
def Say.maxd : List Say → Nat
  | [] => 0
  | s :: l => max s.deep (Say.maxd l)
theorem Say.maxd_app (l m : List Say) : Say.maxd (l ++ m) = max (Say.maxd l) (Say.maxd m) := by
  induction l with
  | nil => show Say.maxd m = max 0 (Say.maxd m); omega
  | cons s l ih => show max s.deep (Say.maxd (l ++ m)) = max (max s.deep (Say.maxd l)) _; rw [ih]; omega
theorem Say.deep_maxd (s : Say) : s.deep = Say.maxd s.parts + 1 := by
  cases s <;> simp [Say.deep, Say.parts, Say.maxd]
theorem Say.maxd_parts : ∀ {l : List Say}, l ≠ [] → Say.maxd l = Say.maxd (l.flatMap Say.parts) + 1
  | [], h => absurd rfl h
  | [s], _ => by
    show max s.deep 0 = Say.maxd (s.parts ++ []) + 1
    rw [List.append_nil, Say.deep_maxd s]
    omega
  | s :: t :: l, _ => by
    have ih := Say.maxd_parts (l := t :: l) (fun z => by cases z)
    show max s.deep (Say.maxd (t :: l)) = _
    rw [List.flatMap_cons, Say.maxd_app, ih, Say.deep_maxd s]
    omega
theorem Say.maxd_mem {l : List Say} {s : Say} (h : s ∈ l) : s.deep ≤ Say.maxd l := by
  induction l with
  | nil => cases h
  | cons t l ih =>
    show _ ≤ max t.deep (Say.maxd l)
    rcases List.mem_cons.mp h with rfl | h
    · omega
    · have := ih h
      omega
theorem Say.maxd_le {l : List Say} {d : Nat} (h : ∀ s ∈ l, s.deep ≤ d) : Say.maxd l ≤ d := by
  induction l with
  | nil => exact Nat.zero_le _
  | cons t l ih =>
    have h1 := h t List.mem_cons_self
    have h2 := ih fun s m => h s (List.mem_cons_of_mem _ m)
    show max t.deep (Say.maxd l) ≤ d
    omega
theorem Say.lvls_len : ∀ (d : Nat) {l : List Say}, Say.maxd l ≤ d → (Say.lvls d l).length = Say.maxd l
  | 0, l, h => by
    have : Say.maxd l = 0 := by omega
    rw [this]
    rfl
  | d + 1, l, h => by
    show (if l = [] then [] else l :: Say.lvls d (l.flatMap Say.parts)).length = _
    by_cases e : l = []
    · rw [if_pos e, e]
      rfl
    · rw [if_neg e, List.length_cons, Say.lvls_len d (by have := Say.maxd_parts e; omega), Say.maxd_parts e]
theorem Say.flat_perm {α : Type} (f : α → List α) : ∀ l : List α, (l.flatMap fun s => s :: f s).Perm (l ++ l.flatMap f)
  | [] => List.Perm.refl _
  | s :: l => by
    rw [List.flatMap_cons, List.flatMap_cons, List.cons_append, List.cons_append]
    refine List.Perm.cons s ?_
    have ih := Say.flat_perm f l
    exact (List.Perm.append_left (f s) ih).trans (by
      rw [← List.append_assoc, ← List.append_assoc]
      exact List.Perm.append_right _ List.perm_append_comm)
theorem Say.lvls_perm : ∀ (d : Nat) {l : List Say}, Say.maxd l ≤ d → (Say.lvls d l).flatten.Perm (l.flatMap Say.words)
  | 0, l, h => by
    cases l with
    | nil => exact List.Perm.refl _
    | cons s l =>
      have := Say.deep_pos s
      have : s.deep ≤ 0 := Nat.le_trans (Say.maxd_mem List.mem_cons_self) h
      omega
  | d + 1, l, h => by
    show (if l = [] then [] else l :: Say.lvls d (l.flatMap Say.parts)).flatten.Perm _
    by_cases e : l = []
    · rw [if_pos e, e]
      exact List.Perm.refl _
    · rw [if_neg e, List.flatten_cons]
      have ih := Say.lvls_perm d (l := l.flatMap Say.parts) (by have := Say.maxd_parts e; omega)
      have e2 : (l.flatMap Say.words) = l.flatMap fun s => s :: s.parts.flatMap Say.words := congrArg (fun f => l.flatMap f) (funext Say.words_eq)
      rw [e2]
      refine (List.Perm.append_left l ih).trans ?_
      rw [List.flatMap_assoc]
      exact (Say.flat_perm _ l).symm
/-- the words, level by level -/
def Say.bfs (s : Say) : List Say := (Say.lvls s.deep [s]).flatten
theorem Say.maxd_one (s : Say) : Say.maxd [s] = s.deep := by
  show max s.deep 0 = _
  omega
theorem Say.bfs_perm (s : Say) : s.bfs.Perm s.words := by
  have := Say.lvls_perm s.deep (l := [s]) (by rw [Say.maxd_one]; exact Nat.le_refl _)
  rwa [List.flatMap_cons, List.flatMap_nil, List.append_nil] at this
theorem Say.lvl_words : ∀ (j d : Nat) {l : List Say} {t : Say} {k : List Say}, (Say.lvls d l)[j]? = some k → t ∈ k → ∃ s ∈ l, t ∈ s.words
  | j, 0, l, t, k, h, m => by cases h
  | j, d + 1, l, t, k, h, m => by
    have h' : (if l = [] then [] else l :: Say.lvls d (l.flatMap Say.parts))[j]? = some k := h
    by_cases e : l = []
    · rw [if_pos e] at h'
      cases h'
    · rw [if_neg e] at h'
      cases j with
      | zero =>
        cases h'
        exact ⟨t, m, Say.self_word t⟩
      | succ j =>
        obtain ⟨u, hu, hw⟩ := Say.lvl_words j d (show (Say.lvls d (l.flatMap Say.parts))[j]? = some k from h') m
        obtain ⟨s, hs, hp⟩ := List.mem_flatMap.mp hu
        exact ⟨s, hs, Say.part_word hp hw⟩
end K0

/-! V1: for i, x in enumerate(t), t a tuple. -/
namespace V1
open PySem PySem.Spec PyProof.Rows L2 W1
def EnT (K : PySem.W.Frag) (a : Addr) : It where
  go i H := ∃ (xs : List V) (x : V), SqT K H a xs ∧ xs[i]? = some x
  yld i H v H' := ∃ T x, v = .ref T ∧ H T = none ∧ H' = upd H T (.tup [.int (i : Nat), x]) ∧ ∀ xs, SqT K H a xs → xs[i]? = some x
  stop i H := ∃ xs : List V, SqT K H a xs ∧ xs.length = i
set_option maxHeartbeats 1000000 in
theorem new_enum {v : Value} {o : Obj} {Hs : Heap → Prop} (B : Begins v o Hs) :
    Meets (Builtin.«enumerate.__new__» ⟨[.type "enumerate", v], []⟩) (fun _ R s => Hs s.heap ∧
      R (.ok (.ret (.ref (s.heap.push o).objs.size)))
        { s with heap := (s.heap.push o).push { cls := .type "enumerate", data := .fields #[.none, .bool false, .ref s.heap.objs.size, rawInt 0, .none, .none] } }) := by
  refine .of_wp fun prog w A R s h => ?_
  obtain ⟨hp, gs, dr, tk, os⟩ := s
  obtain ⟨stands, h⟩ := h
  have isSub := sub_enumerate
  have goes : ∀ {A' : Around} {E : Value → Shared → Prop} {Q : Value → Shared → Prop}, Q (.ref hp.objs.size) ⟨hp.push o, gs, dr, tk, os⟩ → wpAny (model prog w) A' (pyIter v) Q E ⟨hp, gs, dr, tk, os⟩ :=
    fun q => B.iter prog w _ _ ⟨hp, gs, dr, tk, os⟩ _ stands q
  wp_walk using goes
  refine wpAny_stack_any fun st => wpAny_pure ?_
  split
  · rename_i c _ _ _ _ _
    cases (c == Value.type "enumerate") <;> (wp_walk using goes; exact ⟨_, rfl, h⟩)
  · wp_walk using goes
    exact ⟨_, rfl, h⟩
theorem call_enum {prog : Program} {w : World} {A : Around} {E : Value → Shared → Prop} {s : Shared} {v : Value} {o : Obj} {Hs : Heap → Prop} {Q : Value → Shared → Prop} (B : Begins v o Hs) (stands : Hs s.heap)
    (h : ∀ h', IsEnum h' (s.heap.objs.size + 1) s.heap.objs.size 0 .none → h'.get? s.heap.objs.size = some o → h'.objs.size = s.heap.objs.size + 2 → (∀ b u, s.heap.get? b = some u → h'.get? b = some u) → Q (.ref (s.heap.objs.size + 1)) { s with heap := h' }) :
    wpAny (model prog w) A (call (.type "enumerate") [v]) Q E s := by
  refine callType_new F.called_enumerate (by decide) (F.typeCall_enumerate_1 _) (F.newCall_enumerate_1 _) (fun z => F.args_object_init_2 z _) F.entry_enumerate_new (new_enum B) ⟨stands, ?_⟩
  have size : (s.heap.push o).objs.size = s.heap.objs.size + 1 := Heap.size_push ..
  show _ ∧ _
  rw [size]
  have at2 : IsEnum ((s.heap.push o).push { cls := .type "enumerate", data := .fields #[.none, .bool false, .ref s.heap.objs.size, rawInt 0, .none, .none] }) (s.heap.objs.size + 1) s.heap.objs.size 0 .none := by
    rw [← size]
    exact Heap.get?_push_size (s.heap.push o) rfl
  refine ⟨⟨_, at2, rfl⟩, h _ at2 (Heap.get?_push_of_some _ (Heap.get?_push_size _ B.free)) ?_ fun b u z => Heap.get?_push_of_some _ (Heap.get?_push_of_some _ z)⟩
  rw [Heap.size_push, size]
theorem turn_enT {P : Program} {w : World} {K : PySem.W.Frag} {elts : List Expr} {kk : Nat} {tpos : Pos} (a e it : Addr) :
    Turn P w K (.Tuple elts kk tpos) (EnT K a) [e, it] e (fun i h => (∃ old, IsEnum h e it ((i : Nat) : Int) old) ∧ h.IsTupleIter it a i ∧ e ≠ it ∧ a ≠ it ∧ e ≠ a) where
  mem := List.mem_cons_self
  obj := fun i h st b hb => by
    obtain ⟨⟨old, he⟩, ⟨o, ho, hc, hd⟩, _⟩ := st
    rcases List.mem_cons.mp hb with rfl | hb
    · exact ⟨_, he, fun v q => nomatch q⟩
    · rw [List.mem_singleton.mp hb]
      exact ⟨o, ho, fun v q => by rw [hd] at q; cases q⟩
  keep := fun i h h' st k => by
    obtain ⟨⟨old, he⟩, hi, hne⟩ := st
    exact ⟨⟨old, k e (by simp) _ he⟩, hi.at fun o q => k it (by simp) o q, hne⟩
  item := by
    intro X hP hw hK hc i pins s σ H E I hf st hg
    subst hP hw hK
    obtain ⟨⟨old, he⟩, hit, n1, n2, n3⟩ := st
    obtain ⟨xs, x, hq, hx⟩ := hg
    obtain ⟨its, rv, p, _⟩ := I.tuple hq
    obtain ⟨u, hu, ru⟩ := rv.get hx
    have hel : e < s.heap.objs.size := Heap.lt_size he
    have hil : it < s.heap.objs.size := by
      obtain ⟨_, q, _⟩ := hit
      exact Heap.lt_size q
    have hlt : i < its.toArray.size := by
      rw [List.size_toArray]
      exact (List.getElem?_eq_some_iff.mp hu).1
    have D := Draws.tuple (prog := X.prog) (w := X.w) (A := X.A.in1) (I.ok.hd hc) it a n2 its.toArray
    refine wpAny_pyNext_enum_itemD D he ⟨hit, p⟩ hlt n1 (by simp [n1, n3]) fun z h' tk hz ho hit' hT hsz hk => ?_
    have ez : z = u := by
      have q1 : its.toArray[i]? = some z := hz
      have q2 : its.toArray[i]? = some u := by simpa using hu
      exact Option.some.inj (q1.symm.trans q2)
    subst ez
    refine ⟨_, rfl, wpAny_letOwnedTupleGo_enum (s := { s with heap := h', toks := tk + 1 }) ho fun h'' he' sb => ?_⟩
    have there : h''.get? s.heap.objs.size = some { cls := .type "tuple", data := .seq #[.int i tk, z] } := (sb.2 _ (Nat.ne_of_gt hel)).trans hT
    have fresh : ObjOk X.prog X.w (upd H s.heap.objs.size (.tup [.int (i : Nat), x])) h'' s.heap.objs.size (.tup [.int (i : Nat), x]) :=
      ⟨by show 2 ≤ sizeLine; decide, [.int i tk, z], .cons ⟨_, rfl⟩ (.cons ru .nil), ⟨_, there, rfl, _, rfl⟩⟩
    have I1 : Inv X pins σ (upd H s.heap.objs.size (.tup [.int (i : Nat), x])) { s with heap := h'', toks := tk + 1 } := by
      refine I.turnedNew (ch := [e, it]) (fun b ob hb q => ?_) hf (Nat.le_refl _) fresh
      have b1 : b ≠ e := fun y => hb (by simp [y])
      have b2 : b ≠ it := fun y => hb (by simp [y])
      exact (sb.2 b b1).trans (hk b ob b1 b2 q)
    refine ⟨.ref s.heap.objs.size, _, I1, rfl, ⟨_, x, rfl, I.hok.fresh (Nat.le_refl _), rfl, fun ys hy => ?_⟩, ⟨⟨z, ?_⟩, hit'.1.at fun o q => (sb.2 it n1.symm).trans q, n1, n2, n3⟩, fun b hb => ?_⟩
    · rw [I.tuple_inj hy hq]
      exact hx
    · rw [show ((i + 1 : Nat) : Int) = (i : Int) + 1 by omega]
      exact he'
    · have lt : b < s.heap.objs.size := by
        rcases List.mem_cons.mp hb with rfl | hb
        · exact hel
        · rw [List.mem_singleton.mp hb]
          exact hil
      rw [upd_ne (Nat.ne_of_lt lt)]
      exact (hf b hb).1
  done := by
    intro X hP hw hK hc i pins s σ H E I hf st hg
    subst hP hw hK
    obtain ⟨⟨old, he⟩, hit, n1, n2, n3⟩ := st
    obtain ⟨xs, hq, hx⟩ := hg
    obtain ⟨its, rv, p, _⟩ := I.tuple hq
    have D := Draws.tuple (prog := X.prog) (w := X.w) (A := X.A.in1) (I.ok.hd hc) it a n2 its.toArray
    have e : its.toArray.size = i := by
      rw [List.size_toArray, ← rv.length, hx]
    obtain ⟨f0, f1, f2, f3, f4, f5⟩ := hf it (by simp)
    refine wpAny_pyNext_enum_endD D he ⟨e ▸ hit, p⟩ fun h' eb => ⟨rfl, ?_⟩
    exact I.turned (t' := s.toks) (fun b o hb q => eb b o hb q) f0 f1 f3 f4 f5
  self := fun A i s Q E st h => by
    obtain ⟨⟨_, he⟩, _⟩ := st
    exact wpAny_pyIter_enum he h
def iEnT (K : PySem.W.Frag) (ta : TA) : TI := fun σ H R => ta σ H fun vs H1 => ∃ a xs, vs = [.ref a] ∧ SqT K H1 a xs ∧ R (EnT K a) H1
theorem pi_enT {X : Cx} {e : Expr} {ta : TA} {p pos tpos : Pos} {elts : List Expr} {kk : Nat} (hg : Gl X "enumerate") (hm : X.mg "enumerate" = none) (ha : PA X [e] ta) (hs : starEach [e] X.env = [(false, eval e X.env)] := by rfl) :
    PI X (.Tuple elts kk tpos) (.Call (.Name "enumerate" p) [e] [] pos) (iEnT X.K ta) := by
  constructor
  intro pins s σ H R I h
  refine Call_ (ld_blt I hg hm boot_enumerate (PyProof.Rows.callWith_type1 ?_ hs rfl))
  refine thn (ha.run pos pins s σ H _ I h) fun us s1 h1 => ?_
  obtain ⟨vs, H1, I1, r1, a, xs, rfl, hq, q⟩ := h1
  rw [Vals.ref1 r1]
  obtain ⟨its, rv, pl, _⟩ := I1.tuple hq
  have la : a < s1.heap.objs.size := by
    obtain ⟨o, g, _⟩ := pl
    exact Heap.lt_size g
  refine call_enum (begins_tuple a its.toArray) pl fun h' he hit hz hk => wpAny_pyIter_enum he ?_
  have I2 : Inv X pins σ H1 { s1 with heap := h' } := I1.kept (t' := s1.toks) hk
  refine ⟨s1.heap.objs.size + 1, [s1.heap.objs.size + 1, s1.heap.objs.size], _, _, H1, rfl, I2, turn_enT a (s1.heap.objs.size + 1) s1.heap.objs.size, ⟨⟨.none, he⟩, ⟨_, hit, rfl, rfl⟩, Nat.succ_ne_self _, Nat.ne_of_lt la, (Nat.ne_of_lt (Nat.lt_succ_of_lt la)).symm⟩, fun b hb => ?_, q⟩
  have le : s1.heap.objs.size ≤ b := by
    rcases List.mem_cons.mp hb with rfl | hb
    · exact Nat.le_succ _
    · rw [List.mem_singleton.mp hb]
      exact Nat.le_refl _
  exact I1.fpOk le (I1.hok.fresh le)
/-- the pair of the i-th item -/
theorem walk_enT {K : PySem.W.Frag} {a : Addr} {xs : List V} : Walk (EnT K a) xs.length (fun H => SqT K H a xs) (fun i H v H' => ∃ T x, v = .ref T ∧ H T = none ∧ H' = upd H T (.tup [.int (i : Nat), x]) ∧ xs[i]? = some x) :=
  ⟨fun i _ hi q => ⟨xs, xs[i], q, List.getElem?_eq_getElem hi⟩, fun _ q => ⟨xs, q, rfl⟩, fun i H v H' hi q y => by
    obtain ⟨T, x, h1, h2, h3, h4⟩ := y
    exact ⟨T, x, h1, h2, h3, h4 xs q⟩⟩
end V1

/-! V2: blocks within blocks that read a name of the def; all, any within a block. -/
namespace V2
open PySem PySem.Spec PyProof.Rows L2 W1
theorem relabel_get {sc : Scope} {env : Env} {x : Str} {k : NameKind} (h : sc.names.lookup x = some k) : ∃ k', (relabel sc env).names.lookup x = some k' ∧ (k' = k ∨ k' = .cell) := by
  unfold relabel
  dsimp only
  generalize sc.names = ns at h
  induction ns with
  | nil => cases h
  | cons p r ih =>
    obtain ⟨n, j⟩ := p
    rw [List.map_cons]
    by_cases e : x = n
    · subst e
      rw [List.lookup_cons, beq_self_eq_true] at h
      cases h
      dsimp only
      split
      · exact ⟨.cell, by rw [List.lookup_cons, beq_self_eq_true], .inr rfl⟩
      · exact ⟨k, by rw [List.lookup_cons, beq_self_eq_true], .inl rfl⟩
    · have ne : (x == n) = false := beq_eq_false_iff_ne.mpr e
      rw [List.lookup_cons, ne] at h
      obtain ⟨k', h1, h2⟩ := ih h
      refine ⟨k', ?_, h2⟩
      dsimp only
      split
      · rw [List.lookup_cons, ne]
        exact h1
      · rw [List.lookup_cons, ne]
        exact h1
/-- a comprehension's block within another's -/
theorem blk_in {N : List Str} {sc scope : Scope} {own : List (Str × Nat)} {env : Env} (h : BlkOk N sc scope own) : BlkOk N (relabel sc env) scope own := by
  refine ⟨h.kind, h.uniq, h.ix, fun y hy e => ?_, h.own⟩
  rcases h.free y hy e with z | z
  · obtain ⟨k', h1, h2⟩ := relabel_get (env := env) z
    rcases h2 with rfl | rfl
    · exact .inl h1
    · exact .inl h1
  · obtain ⟨k', h1, h2⟩ := relabel_get (env := env) z
    rcases h2 with rfl | rfl
    · exact .inr h1
    · exact .inl h1
theorem cr_allK {X : Cx} {K : PySem.W.Frag} (hc : X.calm = true) (hK : X.K = K := by rfl) : CallR X (.builtin "all") (rAll K) := hK ▸ cr_all hc
theorem cr_anyK {X : Cx} {K : PySem.W.Frag} (hc : X.calm = true) (hK : X.K = K := by rfl) : CallR X (.builtin "any") (rAny K) := hK ▸ cr_any hc
theorem pi_listK {X : Cx} {K : PySem.W.Frag} {tg e : Expr} {te : TE} (he : PE X e te) (hK : X.K = K := by rfl) : PI X tg e (iList K te) := hK ▸ pi_list he
theorem pi_tupK {X : Cx} {K : PySem.W.Frag} {tg e : Expr} {te : TE} (he : PE X e te) (hK : X.K = K := by rfl) : PI X tg e (iTup K te) := hK ▸ pi_tup he
end V2

/-! V3: list.count of a text in a list of texts. -/
namespace V3
open PySem PySem.Spec PyProof.Rows L2 W1
theorem dps_strs {K : PySem.W.Frag} {H : Hp} : ∀ l : List Str, DpAll K H (l.map V.str) (l.map PyData.str)
  | [] => .nil
  | x :: l => .cons (.str x) (dps_strs l)
theorem count_strs (x : Str) (l : List Str) : (l.map PyData.str).countP (fun y => PyData.eqv y (.str x)) = l.count x := by
  rw [List.countP_map]
  unfold List.count
  congr 1
theorem plain_strs : ∀ l : List Str, PyData.plainAll (l.map PyData.str) = true
  | [] => rfl
  | y :: l => by
    show (true && PyData.plainAll (l.map PyData.str)) = true
    rw [plain_strs l]
    rfl
def rCntS (K : PySem.W.Frag) : V → List V → Hp → VK → Prop := fun x xs H Q => ∃ (p : Addr) (l : List Str) (k : Str), x = .ref p ∧ xs = [.str k] ∧ SqL K H p (l.map V.str) ∧ Q (.int (l.count k : Nat)) H
theorem mt_scount {X : Cx} (hu : X.A.units + 64 < cLine) : MtR X "list.count" (rCntS X.K) := by
  intro pins s σ H x xs v us Q I rx rxs h
  obtain ⟨p, l, k, rfl, rfl, hs, q⟩ := h
  cases rx
  obtain ⟨u, rfl, ru⟩ := rxs.one
  obtain ⟨t, rfl⟩ := ru
  obtain ⟨its, rv, pl, _⟩ := I.list hs
  obtain ⟨as, rd⟩ := Dp.readsAll I (l.map PyData.str) (l.map V.str) its (dps_strs l) rv
  obtain ⟨bs, rx⟩ := Dp.reads (X := X) I (.str k) (.str k) (.str k t) (.str k) ⟨t, rfl⟩
  have pl1 := plain_strs l
  refine SeqAt.count_list_data pl.isList (by simpa using rd) rx pl1 rfl ?_ ?_
  · have : PyData.depth (.str k) = 0 := rfl
    omega
  · rw [count_strs]
    exact ⟨.int (l.count k : Nat), H, I.tok _, ⟨s.toks, rfl⟩, q⟩
end V3

/-! V4: xs[b], xs a list, b a truth value. -/
namespace V4
open PySem PySem.Spec PyProof.Rows L2 W1
theorem bool_index : typeLookup (.type "bool") "__index__" = pure (some (.builtin "int.__index__")) := by
  rw [typeLookup_type, builtinLookup_eq_fast]
  kernel_rfl
def bN (b : Bool) : Nat := if b = true then 1 else 0
section
variable {prog : Program} {w : World} {A : Around} {E : Value → Shared → Prop} {s : Shared}
theorem sub_bool {b : Bool} {Q : Option Int → Shared → Prop} (h : Q (some (bN b)) s) : wpAny (model prog w) A (Builtin.List.listSubscript? (.bool b)) Q E s := by
  unfold Builtin.List.listSubscript?
  refine wpAny_bind (wpAny_specialOf (T := "bool") rfl bool_index ?_)
  show wpAny (model prog w) A (asIndex (.bool b) >>= _) Q E s
  cases b with
  | true =>
    refine wpAny_bind (wpAny_of_eq (a := (1 : Int)) rfl ?_)
    exact wpAny_pure h
  | false =>
    refine wpAny_bind (wpAny_of_eq (a := (0 : Int)) rfl ?_)
    exact wpAny_pure h
theorem get_bool {l : Addr} {items : Array Value} {b : Bool} {x : Value} {Q : Value → Shared → Prop} (isl : s.heap.IsList l items) (hx : items[bN b]? = some x) (h : Q x s) : wpAny (model prog w) A (getItem (.ref l) (.bool b)) Q E s := by
  obtain ⟨ob, look, _, _, dat⟩ := id isl
  unfold getItem
  (try with_reducible refine wpAny_holding ?_); (first | refine wpAny_bind (wpAny_pure ?_) | skip)
  refine wpAny_bind (wpAny_sequenceKey isl.typeIs (by decide) ?_)
  refine wpAny_bind (wpAny_callSpecial?_slot (name := Str.ofString "__getitem__") isl.typeIs slot_list_getitem ?_)
  refine wpAny_call_entry slot_list_getitem isl.typeIs entry_list_getitem ?_ (args_list_getitem _ _)
  show wpAny _ _ (Builtin.List.listSubscript? (.bool b) >>= _) _ _ s
  refine wpAny_bind (sub_bool ?_)
  show wpAny _ _ ((seqItemAt l (bN b) >>= fun r => pure (r.map (bN b, ·))) >>= _) _ _ s
  refine wpAny_bind (wpAny_bind (wpAny_seqItemAt look dat (wpAny_pure ?_)))
  rw [hx]
  first | exact wpAny_bind (wpAny_pure (wpAny_pure ⟨x, rfl, wpAny_pure h⟩)) | exact wpAny_pure ⟨x, rfl, wpAny_pure h⟩
end
/-- xs[b] -/
def rIxB (K : PySem.W.Frag) : R2 := fun x y H Q => ∃ p xs b v, x = .ref p ∧ y = .bl b ∧ SqL K H p xs ∧ xs[bN b]? = some v ∧ Q v H
theorem ix_bool {X : Cx} {K : PySem.W.Frag} (hK : X.K = K := by rfl) : IxR X (rIxB K) := by
  subst hK
  intro value slice pins s σ H x y v u Q I rx ry h hs
  obtain ⟨p, xs, b, z, rfl, rfl, hq, he, q⟩ := h
  cases rx
  cases ry
  obtain ⟨its, r, pl, _⟩ := I.list hq
  obtain ⟨w', ew, rw'⟩ := r.get he
  refine subscriptTail_builtinR (x := w') pl.isList.typeIs slot_list_getitem.lookup ?_ hs
  exact get_bool (Q := fun r s' => r = w' ∧ EP X pins σ Q r s') pl.isList (by simpa using ew) ⟨rfl, z, H, I, rw', q⟩
end V4

/-! V5: dicts whose keys are pairs of tuples of ints: {}, d[a, b] = v (new), d[a, b] (there), for a, b in d. -/
namespace V5
open PySem PySem.Spec PyProof.Rows L2 W1
abbrev PK := List Int × List Int
def nk1 (l : List Int) : NestedKey := .tup (l.map NestedKey.num)
def nk (k : PK) : NestedKey := .tup [nk1 k.1, nk1 k.2]
def dI (l : List Int) : PyData := .tuple (l.map PyData.int)
def dK2 (k : PK) : PyData := .tuple [dI k.1, dI k.2]
theorem nums_inj : ∀ {a b : List Int}, a.map NestedKey.num = b.map NestedKey.num → a = b
  | [], [], _ => rfl
  | [], _ :: _, e => by simp at e
  | _ :: _, [], e => by simp at e
  | x :: xs, y :: ys, e => by
    rw [List.map_cons, List.map_cons] at e
    injection e with e1 e2
    injection e1 with e1
    rw [e1, nums_inj e2]
theorem nk1_inj {a b : List Int} (e : nk1 a = nk1 b) : a = b := by
  unfold nk1 at e
  injection e with e
  exact nums_inj e
theorem nk_inj {a b : PK} (e : nk a = nk b) : a = b := by
  unfold nk at e
  injection e with e
  injection e with e1 e2
  injection e2 with e2 _
  exact Prod.ext (nk1_inj e1) (nk1_inj e2)
theorem depth_nums : ∀ l : List Int, NestedKey.depthAll (l.map NestedKey.num) = 0
  | [] => rfl
  | x :: l => by
    show max 0 (NestedKey.depthAll (l.map NestedKey.num)) = 0
    rw [depth_nums l]
    rfl
theorem nk_deep (k : PK) : (nk k).depth ≤ 8 := by
  show max (NestedKey.depthAll (k.1.map NestedKey.num) + 1) (max (NestedKey.depthAll (k.2.map NestedKey.num) + 1) 0) + 1 ≤ 8
  rw [depth_nums, depth_nums]
  decide
theorem nested_ints {h : Heap} : ∀ {l : List Int} {us : List Value}, Vals (l.map V.int) us → NestedAll h (l.map NestedKey.num) us
  | [], _, r => by
    rw [List.map_nil] at r
    cases r
    exact .nil
  | n :: l, _, r => by
    rw [List.map_cons] at r
    cases r with
    | cons h t =>
      obtain ⟨tk, rfl⟩ := h
      exact .cons (.int _ _) (nested_ints t)
section
variable {X : Cx} {pins : List (Addr × Obj)} {σ : L2.St} {H : Hp} {s : Shared}
theorem nested_one {v : V} {u : Value} {l : List Int} (I : Inv X pins σ H s) (d : Dp X.K H v (dI l)) (r : RelV v u) : NestedIs s.heap (nk1 l) u := by
  obtain ⟨a, xs, rfl, hs, hd⟩ := dp_tup d
  rw [dps_ints_inv hd] at hs
  obtain ⟨its, rv, ⟨o, e, c, n, dd⟩, _⟩ := I.tuple hs
  cases (show u = Value.ref a from r)
  exact .tup e c dd (by simpa using nested_ints rv)
/-- a tracked pair of tuples of ints is a key -/
theorem key_is {b : Addr} {k : PK} (I : Inv X pins σ H s) (d : Dp X.K H (.ref b) (dK2 k)) : (nestedKind X.prog X.w).is s.heap (nk k) b := by
  obtain ⟨a, xs, ea, hs, hd⟩ := dp_tup d
  cases ea
  cases hd with
  | cons h1 h2 =>
    cases h2 with
    | cons h2 h3 =>
      cases h3
      obtain ⟨its, rv, ⟨o, e, c, n, dd⟩, _⟩ := I.tuple hs
      cases rv with
      | cons r1 r2 =>
        cases r2 with
        | cons r2 r3 =>
          cases r3
          exact ⟨.tup e c dd (.cons (nested_one I h1 r1) (.cons (nested_one I h2 r2) .nil)), nk_deep k⟩
end
/-- the entries: key, the key's tuple, value -/
abbrev Ent := PK × Addr × V
def EntR : Ent → NestedKey × Addr × Value → Prop := fun p q => nk p.1 = q.1 ∧ p.2.1 = q.2.1 ∧ RelV p.2.2 q.2.2
def HN (P : Program) (w : World) (a : Addr) (kvs : List Ent) : HO := .ext fun h => kvs.length ≤ 1000 ∧ (a == sysModules) = false ∧ ∃ xs : List (NestedKey × Addr × Value), Paired EntR kvs xs ∧
  ∃ o es ep, h.get? a = some o ∧ o.ExactDict ∧ o.data = .dict es ep ∧ es.toList = xs.map (entryOfKey (nestedKind P w)) ∧ (xs.map (·.1)).Nodup
def Keys2 (K : PySem.W.Frag) (H : Hp) (kvs : List Ent) : Prop := ∀ e ∈ kvs, Dp K H (.ref e.2.1) (dK2 e.1)
theorem hn_ok {P : Program} {w : World} {H : Hp} {h : Heap} {a : Addr} {kvs : List Ent} (hl : kvs.length ≤ 1000) (hs : (a == sysModules) = false) {xs : List (NestedKey × Addr × Value)} (pr : Paired EntR kvs xs)
    {o : Obj} {es : Array DictEntry} {ep : Nat} (e : h.get? a = some o) (c : o.ExactDict) (dd : o.data = .dict es ep) (le : es.toList = xs.map (entryOfKey (nestedKind P w))) (nd : (xs.map (·.1)).Nodup) : ObjOk P w H h a (HN P w a kvs) := by
  refine ⟨⟨hl, hs, xs, pr, o, es, ep, e, c, dd, le, nd⟩, ⟨o, e⟩, fun h1 h2 q k => ?_⟩
  obtain ⟨hl, hs, xs, pr, o, es, ep, e, c⟩ := q
  exact ⟨hl, hs, xs, pr, o, es, ep, k o e, c⟩
theorem paired_at {α β : Type} {F : α → β → Prop} : ∀ {l : List α} {m : List β} {i : Nat} {x : α}, Paired F l m → l[i]? = some x → ∃ y, m[i]? = some y ∧ F x y
  | _, _, _, _, .nil, e => by simp at e
  | _, _, 0, _, .cons h _, e => by
    simp at e
    subst e
    exact ⟨_, rfl, h⟩
  | _, _, i + 1, x, .cons _ t, e => by
    obtain ⟨y, h1, h2⟩ := paired_at (i := i) t (by simpa using e)
    exact ⟨y, by simpa using h1, h2⟩
theorem paired_from {α β : Type} {F : α → β → Prop} : ∀ {l : List α} {m : List β} {y : β}, Paired F l m → y ∈ m → ∃ x ∈ l, F x y
  | _, _, _, .nil, e => (List.not_mem_nil e).elim
  | _, _, y, .cons h t, e => by
    rcases List.mem_cons.mp e with rfl | e
    · exact ⟨_, List.mem_cons_self, h⟩
    · obtain ⟨x, hx, hF⟩ := paired_from t e
      exact ⟨x, List.mem_cons_of_mem _ hx, hF⟩
section
variable {X : Cx} {pins : List (Addr × Obj)} {σ : L2.St} {H : Hp} {s : Shared} {a : Addr} {kvs : List Ent}
/-- what the entry says -/
theorem hn_rd (I : Inv X pins σ H s) (r : Rd H a (HN X.prog X.w a kvs)) (ky : Keys2 X.K H kvs) : kvs.length ≤ 1000 ∧ (a == sysModules) = false ∧ ∃ xs, Paired EntR kvs xs ∧ s.heap.DictOfH (nestedKind X.prog X.w) a xs := by
  obtain ⟨⟨hl, hs, xs, pr, o, es, ep, e, c, dd, le, nd⟩, _⟩ := (show ObjOk X.prog X.w H s.heap a (HN X.prog X.w a kvs) from r.ok I.hok)
  refine ⟨hl, hs, xs, pr, o, es, ep, e, c, dd, le, fun x hx => ?_, nd⟩
  obtain ⟨y, hy, h1, h2, _⟩ := paired_from pr hx
  rw [← h1, ← h2]
  exact key_is I (ky y hy)
theorem hn_at {xs : List (NestedKey × Addr × Value)} {k : PK} {c : Addr} {v : V} (pr : Paired EntR kvs xs) (nd : (xs.map (·.1)).Nodup) (m : (k, c, v) ∈ kvs) : ∃ w', atKey xs (nk k) = some (c, w') ∧ RelV v w' := by
  obtain ⟨i, il, ei⟩ := List.getElem_of_mem m
  obtain ⟨⟨k', c', w'⟩, hy, h1, h2, h3⟩ := paired_at (i := i) pr (by rw [List.getElem?_eq_getElem il, ei])
  have h1' : nk k = k' := h1
  have h2' : c = c' := h2
  subst h1' h2'
  exact ⟨w', atKey_of_get nd hy, h3⟩
theorem hn_off {xs : List (NestedKey × Addr × Value)} {k : PK} (pr : Paired EntR kvs xs) (no : ∀ e ∈ kvs, e.1 ≠ k) : atKey xs (nk k) = none := by
  refine atKey_none_of_get fun j p e => ?_
  obtain ⟨x, hx, h1, _⟩ := paired_from pr (List.mem_of_getElem? e)
  exact no x hx (nk_inj h1)
end
/-- d[k] -/
def tNGet (P : Program) (w : World) (K : PySem.W.Frag) (td ty : TE) : TE := fun σ H Q => td σ H fun x H1 => ty σ H1 fun y H2 => ∃ a kvs k b c v, x = .ref a ∧ Rd H2 a (HN P w a kvs) ∧ Keys2 K H2 kvs ∧ y = .ref b ∧ Dp K H2 (.ref b) (dK2 k) ∧ (k, c, v) ∈ kvs ∧ Q v H2
/-- d[k] = v, k not there yet -/
def sNPut (P : Program) (w : World) (K : PySem.W.Frag) (td ty tv : TE) : TS := fun D σ H => tv σ H fun v H1 => td σ H1 fun x H2 => ty σ H2 fun y H3 => ∃ a kvs k b, x = .ref a ∧ H3 a = some (HN P w a kvs) ∧ Keys2 K H3 kvs ∧ y = .ref b ∧ Dp K H3 (.ref b) (dK2 k) ∧
  (∀ e ∈ kvs, e.1 ≠ k) ∧ kvs.length < 1000 ∧ D.nx σ (upd H3 a (HN P w a (kvs ++ [(k, b, v)])))
def tNNew (P : Program) (w : World) : TE := fun _ H Q => ∀ p, H p = none → Q (.ref p) (upd H p (HN P w p []))
section
variable {X : Cx} {P : Program} {w : World} {K : PySem.W.Frag} {o i value : Expr} {pos pos' : Pos} {td ty tv : TE}
theorem pe_nnew (hP : X.prog = P := by rfl) (hw : X.w = w := by rfl) : PE X (.Dict [] [] pos) (tNNew P w) := by
  subst hP
  subst hw
  refine ⟨fun pins s σ H Q I h => ?_⟩
  refine wpAny_Dict_empty ⟨.ref s.heap.objs.size, _, I.laid (a := s.heap.objs.size) (o := HN X.prog X.w s.heap.objs.size []) (t' := s.toks) (fun _ _ q => Heap.get?_push_of_some _ q) (Nat.le_refl _) ?_, rfl, h _ (I.hok.fresh (Nat.le_refl _))⟩
  exact hn_ok (Nat.zero_le _) (beq_eq_false_iff_ne.mpr (Ne.symm (Nat.ne_of_lt I.big))) .nil (Heap.get?_push_size _ rfl) ⟨rfl, rfl, rfl⟩ rfl rfl List.nodup_nil
theorem pe_nget (hu : X.A.units + 9 < cLine) (ho : PE X o td) (hi : PE X i ty) (hs : NoSl i) (hP : X.prog = P := by rfl) (hw : X.w = w := by rfl) (hK : X.K = K := by rfl) : PE X (.Subscript o i pos) (tNGet P w K td ty) := by
  subst hP
  subst hw
  subst hK
  refine ⟨fun pins s σ H Q I h => ?_⟩
  refine subD_of PySem.F.slot_dict_getitem.lookup hs (thn (ho.run pins s σ H _ I h) fun u s1 ⟨x, H1, I1, rx, q1⟩ => thn (hi.run pins s1 σ H1 _ I1 q1) fun iv s2 ⟨y, H2, I2, ry, a, kvs, k, b, c, v, ex, g, ky, ey, dk, m, q2⟩ => ?_)
  subst ex
  subst ey
  obtain rfl : u = Value.ref a := rx
  obtain rfl : iv = Value.ref b := ry
  obtain ⟨hl, hsy, xs, pr, dd⟩ := hn_rd I2 g ky
  obtain ⟨w', e1, r1⟩ := hn_at pr (by obtain ⟨_, _, _, _, _, _, _, _, nd⟩ := id dd; exact nd) m
  refine ⟨dd.typeIs, ?_⟩
  refine wpAny_getItem_heap (show X.A.in1.units + 8 < cLine from ?_) (key_is I2 dk) dd e1 ?_
  · show X.A.units + 1 + 8 < cLine
    omega
  · exact ⟨v, H2, I2.tok _, r1, q2⟩
theorem ps_nput (hu : X.A.units + 9 < cLine) (ho : PE X o td) (hi : PE X i ty) (hv : PE X value tv) (hs : swapsWith value (some (.Subscript o i pos')) pos.line X.env = pure false) (hP : X.prog = P := by rfl) (hw : X.w = w := by rfl) (hK : X.K = K := by rfl) :
    PS X (.Assign [.Subscript o i pos'] value pos) (sNPut P w K td ty tv) := by
  subst hP
  subst hw
  subst hK
  refine ⟨fun pins s σ H D I h => ?_⟩
  refine wpAny_Assign_Subscript (thn (hv.run pins s σ H _ I h) fun r s1 ⟨v, H1, I1, rv, q1⟩ => thn (ho.run pins s1 σ H1 _ I1 q1) fun u s2 ⟨x, H2, I2, rx, q2⟩ => thn (hi.run pins s2 σ H2 _ I2 q2) fun iv s3 ⟨y, H3, I3, ry, a, kvs, k, b, ex, ha, ky, ey, dk, no, few, q3⟩ => ?_) hs
  subst ex
  subst ey
  obtain rfl : u = Value.ref a := rx
  obtain rfl : iv = Value.ref b := ry
  obtain ⟨hl, hsy, xs, pr, dd⟩ := hn_rd I3 (.inl ha) ky
  have len := Paired.length pr
  have off := hn_off pr no
  refine wpAny_setItem_heap (hsz := by rw [sizeLine_eq]; omega) (show X.A.in1.units + 8 < cLine from ?_) (key_is I3 dk) dd fun h' dd' sb => ?_
  · show X.A.units + 1 + 8 < cLine
    omega
  · rw [storedH_new off] at dd'
    obtain ⟨ob, es, ep, hq, h2, h3, h4, _, h5⟩ := dd'
    refine ⟨σ, _, d_write I3 (by rw [ha]; exact True.intro) sb ⟨ob, hq⟩ (hn_ok (by rw [List.length_append]; exact few) hsy (Paired.snoc pr ⟨rfl, rfl, rv⟩) hq h2 h3 h4 h5), q3⟩
end
/-! ### the walk over its keys -/
def ItN (P : Program) (w : World) (d : Addr) (o : Obj) (kvs : List Ent) : It :=
  ⟨fun i H => H d = some (.frz o (HN P w d kvs)) ∧ i < kvs.length, fun i H x H' => H' = H ∧ ∃ (k : PK) (c : Addr) (v : V), kvs[i]? = some (k, c, v) ∧ x = .ref c, fun i H => H d = some (.frz o (HN P w d kvs)) ∧ kvs.length ≤ i⟩
section
variable {X : Cx} {pins : List (Addr × Obj)} {σ : L2.St} {H : Hp} {s : Shared} {d : Addr} {kvs : List Ent} {o : Obj}
theorem frzN (I : Inv X pins σ H s) (h : H d = some (.frz o (HN X.prog X.w d kvs))) : (d == sysModules) = false ∧ s.heap.get? d = some o ∧ o.ExactDict ∧ ∃ (es : Array DictEntry) (ep : Nat), o.data = .dict es ep ∧ es.size = kvs.length ∧
    ∀ (i : Nat) (k : PK) (c : Addr) (v : V), kvs[i]? = some (k, c, v) → ∃ en : DictEntry, es[i]? = some en ∧ en.key = .ref c := by
  obtain ⟨hd, ⟨hl, hs, xs, pr, o', es, ep, ho, hx, hdt, he, _⟩, _⟩ := I.hok d _ h
  rw [hd] at ho
  cases ho
  refine ⟨hs, hd, hx, es, ep, hdt, ?_, fun i k c v e => ?_⟩
  · have l1 : es.size = xs.length := size_of_entries he
    have l2 : kvs.length = xs.length := Paired.length pr
    omega
  · obtain ⟨b, hb, e1, e2, _⟩ := paired_at pr e
    have q := entry_at he i
    rw [hb] at q
    have e2' : c = b.2.1 := e2
    exact ⟨_, q, by rw [e2']; rfl⟩
end
theorem turn_keysN {P : Program} {w : World} {K : PySem.W.Frag} {tg : Expr} {d : Addr} {o : Obj} {es : Array DictEntry} {ep : Nat} {kvs : List Ent} (it : Addr) (hod : o.data = .dict es ep) : Turn P w K tg (ItN P w d o kvs) [it] it (fun i h => h.IsKeyIter it d i kvs.length ep) where
  mem := by simp
  obj := fun i h st b hb => by
    have e : b = it := by simpa using hb
    subst e
    obtain ⟨oi, e, c, dd⟩ := st
    exact ⟨oi, e, fun v z => by rw [dd] at z; cases z⟩
  keep := fun i h h' st k => st.at fun oi e => k it (by simp) oi e
  item := by
    intro X hP hw hK hc i pins s σ H E I hf st hg
    subst hP hw hK
    obtain ⟨hd, hi⟩ := hg
    obtain ⟨f0, f1, f2, f3, f4, f5⟩ := hf it (by simp)
    obtain ⟨hs, hgd, hx, es', ep', hdt, hsz, ent⟩ := frzN I hd
    obtain ⟨rfl, rfl⟩ := dict_ep hod hdt
    obtain ⟨⟨k, c, v⟩, hkv⟩ : ∃ p, kvs[i]? = some p := ⟨kvs[i], List.getElem?_eq_getElem hi⟩
    obtain ⟨en, hen, hkey⟩ := ent i k c v hkv
    refine next_key_item st hgd hdt hsz hen fun h' st' sb => ?_
    have I1 : Inv X pins σ H { s with heap := h' } := I.turned (t' := s.toks) (fun b ob hb e => (sb.2 b hb).trans e) f0 f1 f3 f4 f5
    obtain ⟨oi, e, cc, dd⟩ := id st'
    exact ⟨en.key, rfl, go_of (s := { s with heap := h' }) e cc dd (by decide) ⟨.ref c, H, I1, hkey, ⟨rfl, k, c, v, hkv, rfl⟩, st', fun b hb => (hf b hb).1⟩⟩
  done := by
    intro X hP hw hK hc i pins s σ H E I hf st hg
    subst hP hw hK
    obtain ⟨hd, hi⟩ := hg
    obtain ⟨f0, f1, f2, f3, f4, f5⟩ := hf it (by simp)
    obtain ⟨hs, hgd, hx, es', ep', hdt, hsz, ent⟩ := frzN I hd
    obtain ⟨rfl, rfl⟩ := dict_ep hod hdt
    exact next_key_end (I.ok.hd hc) st hgd hdt hsz hi fun h' eb => ⟨rfl, I.turned (t' := s.toks) (fun b ob hb e => eb b ob hb e) f0 f1 f3 f4 f5⟩
  self := fun A i s Q E st h => by
    refine wpAny_pyIter_slot st.typeIs PySem.F.slot_dict_keyiterator_iter (wpAny_call_entry PySem.F.slot_dict_keyiterator_iter st.typeIs PySem.F.entry_dict_keyiterator_iter ?_ (PySem.F.args_dict_keyiterator_iter_1 _))
    show wpAny _ _ (ret (.ref it)) _ _ s
    exact wpAny_pure ⟨_, rfl, "dict_keyiterator", _, st.typeIs, PySem.F.slot_dict_keyiterator_next.lookup, h⟩
def iKeysN (P : Program) (w : World) (td : TE) : TI := fun σ H R => td σ H fun x H1 => ∃ d o kvs, x = .ref d ∧ H1 d = some (.frz o (HN P w d kvs)) ∧ R (ItN P w d o kvs) H1
theorem pi_keysN {X : Cx} {P : Program} {w : World} {tg e : Expr} {td : TE} (he : PE X e td) (hP : X.prog = P := by rfl) (hw : X.w = w := by rfl) : PI X tg e (iKeysN P w td) := by
  subst hP
  subst hw
  refine ⟨fun pins s σ H R I h => ?_⟩
  refine thn (he.run pins s σ H _ I h) fun u s1 ⟨x, H1, I1, rx, d, o, kvs, ex, hd, q⟩ => ?_
  subst ex
  obtain rfl : u = Value.ref d := rx
  obtain ⟨hs, hgd, hx, es, ep, hdt, hsz, ent⟩ := frzN I1 hd
  refine iter_keys hs hgd hx hdt (pi_one (tk := s1.toks) I1 _ (turn_keysN _ hdt) ⟨_, Heap.get?_push_size _ rfl, rfl, ?_⟩ q)
  rw [hsz] <;> rfl
theorem walk_keysN {P : Program} {w : World} {d : Addr} {o : Obj} {kvs : List Ent} : Walk (ItN P w d o kvs) kvs.length (fun H => H d = some (.frz o (HN P w d kvs)))
    (fun i H x H' => H' = H ∧ ∃ (k : PK) (c : Addr) (v : V), kvs[i]? = some (k, c, v) ∧ x = .ref c) :=
  ⟨fun _ _ hi q => ⟨q, hi⟩, fun _ q => ⟨q, Nat.le_refl _⟩, fun _ _ _ _ _ _ y => y⟩
theorem op_notInK {X : Cx} {K : PySem.W.Frag} (hK : X.K = K := by rfl) : OpR X (compareOp .NotIn) (rIn K true) := hK ▸ op_notIn_seq
end V5

/-! V6: fields within a comprehension; bits of ints. -/
namespace V6
open PySem PySem.Spec PyProof.Rows L2 W1
theorem pe_fldK {X : Cx} {K : PySem.W.Frag} {e : Expr} {f : Str} {pos : Pos} {ta : TE} (he : PE X e ta) (hb : attributeBase e f X.env (eval e X.env) = eval e X.env) (hK : X.K = K := by rfl) : PE X (.Attribute e f pos) (tFld K ta f) := hK ▸ pe_fld he hb
def tTru (K : PySem.W.Frag) (ta : TE) : TT := fun σ H Q => ta σ H fun x H' => ∃ k, TruV K x H' k ∧ Q k H'
theorem pt_truthK {X : Cx} {K : PySem.W.Frag} {a : Expr} {ta : TE} (ha : PE X a ta) (he : ∀ whole, isTrue a X.env whole = (do let v ← whole; standAt a.pos; holding [v] (truthy v))) (hK : X.K = K := by rfl) : PT X a (tTru K ta) := hK ▸ pt_truth ha he
/-- the number whose bits below N are f -/
def bitsN : Nat → (Nat → Bool) → Nat
  | 0, _ => 0
  | N + 1, f => (if f 0 = true then 1 else 0) + 2 * bitsN N fun i => f (i + 1)
theorem bits_test : ∀ (N : Nat) (f : Nat → Bool) (i : Nat), (bitsN N f).testBit i = (decide (i < N) && f i)
  | 0, f, i => by
    rw [decide_eq_false (Nat.not_lt_zero i)]
    exact Nat.zero_testBit i
  | N + 1, f, 0 => by
    rw [decide_eq_true (Nat.succ_pos N), Bool.true_and]
    show ((if f 0 = true then 1 else 0) + 2 * bitsN N _).testBit 0 = f 0
    rw [Nat.testBit_zero]
    cases f 0 with
    | true =>
      rw [if_pos rfl]
      exact decide_eq_true (by omega)
    | false =>
      rw [if_neg Bool.false_ne_true]
      exact decide_eq_false (by omega)
  | N + 1, f, i + 1 => by
    show ((if f 0 = true then 1 else 0) + 2 * bitsN N _).testBit (i + 1) = _
    rw [Nat.testBit_succ]
    have e : ((if f 0 = true then 1 else 0) + 2 * bitsN N fun i => f (i + 1)) / 2 = bitsN N fun i => f (i + 1) := by
      split <;> omega
    rw [e, bits_test N _ i]
    by_cases h : i < N
    · rw [decide_eq_true h, decide_eq_true (by omega : i + 1 < N + 1)]
    · rw [decide_eq_false h, decide_eq_false (by omega : ¬ i + 1 < N + 1)]
theorem bits_ext {m N : Nat} {f : Nat → Bool} (h : ∀ i, m.testBit i = (decide (i < N) && f i)) : m = bitsN N f := Nat.eq_of_testBit_eq fun i => by rw [h, bits_test]
theorem bits_and (N : Nat) (f g : Nat → Bool) : bitsN N f &&& bitsN N g = bitsN N fun i => f i && g i := bits_ext fun i => by
  rw [Nat.testBit_and, bits_test, bits_test]
  cases decide (i < N) <;> simp
theorem bits_or (N : Nat) (f g : Nat → Bool) : bitsN N f ||| bitsN N g = bitsN N fun i => f i || g i := bits_ext fun i => by
  rw [Nat.testBit_or, bits_test, bits_test]
  cases decide (i < N) <;> simp
theorem bits_xor (N : Nat) (f : Nat → Bool) : bitsN N (fun _ => true) ^^^ bitsN N f = bitsN N fun i => !f i := bits_ext fun i => by
  rw [Nat.testBit_xor, bits_test, bits_test]
  cases decide (i < N) <;> cases f i <;> rfl
theorem bits_none (N : Nat) : bitsN N (fun _ => false) = 0 := (bits_ext fun i => by rw [Nat.zero_testBit, Bool.and_false]).symm
theorem bits_one (b : Nat → Bool) : bitsN 1 b = if b 0 = true then 1 else 0 := rfl
def rBit (f : Nat → Nat → Nat) : R2 := fun x y H Q => ∃ a b : Nat, x = .int (a : Int) ∧ y = .int (b : Int) ∧ Q (.int ((f a b : Nat) : Int)) H
theorem op_andB {X : Cx} : OpR X (binaryOp .BitAnd) (rBit (· &&& ·)) := by
  intro pins s σ H x y v u Q I rx ry h
  obtain ⟨a, b, rfl, rfl, q⟩ := h
  refine op_and pins s σ H _ _ v u Q I rx ry ⟨_, _, rfl, rfl, ?_⟩
  show Q (V.int (Builtin.bitAnd (a : Int) (b : Int))) H
  rw [bitAnd_pp (Int.natCast_nonneg a) (Int.natCast_nonneg b), Int.toNat_natCast, Int.toNat_natCast]
  exact q
theorem op_orB {X : Cx} : OpR X (binaryOp .BitOr) (rBit (· ||| ·)) := by
  intro pins s σ H x y v u Q I rx ry h
  obtain ⟨a, b, rfl, rfl, q⟩ := h
  refine op_or pins s σ H _ _ v u Q I rx ry ⟨_, _, rfl, rfl, ?_⟩
  show Q (V.int (Builtin.bitOr (a : Int) (b : Int))) H
  rw [Bits.bitOr_pp (Int.natCast_nonneg a) (Int.natCast_nonneg b), Int.toNat_natCast, Int.toNat_natCast]
  exact q
theorem op_xorB {X : Cx} : OpR X (binaryOp .BitXor) (rBit (· ^^^ ·)) := by
  intro pins s σ H x y v u Q I rx ry h
  obtain ⟨a, b, rfl, rfl, q⟩ := h
  refine op_xor pins s σ H _ _ v u Q I rx ry ⟨_, _, rfl, rfl, ?_⟩
  show Q (V.int (Builtin.bitXor (a : Int) (b : Int))) H
  rw [Bits.bitXor_pp (Int.natCast_nonneg a) (Int.natCast_nonneg b), Int.toNat_natCast, Int.toNat_natCast]
  exact q
end V6

/-! V7: t.index(x) of a tuple of flat values; isinstance(x, tuple). -/
namespace V7
open PySem PySem.Spec PyProof.Rows L2 W1
def rIndexT (K : PySem.W.Frag) : V → List V → Hp → VK → Prop := fun x xs H Q => ∃ (a : Addr) (ys : List V) (y : V) (j : Nat) (z : V), x = V.ref a ∧ xs = [y] ∧ SqT K H a ys ∧ flatV y = true ∧ ys.all flatV = true ∧ ys[j]? = some z ∧ eqV z y = true ∧
  (∀ (m : Nat) (z' : V), m < j → ys[m]? = some z' → eqV z' y = false) ∧ Q (.int (j : Nat)) H
theorem mt_tup_index {X : Cx} {K : PySem.W.Frag} (hK : X.K = K := by rfl) : MtR X "tuple.index" (rIndexT K) := by
  subst hK
  intro pins s σ H x xs v us Q I rx rxs h
  obtain ⟨a, ys, y, j, z, rfl, rfl, hs, fy, fys, hz, hzj, hno, q⟩ := h
  cases rx
  cases rxs with
  | cons ry rt =>
    rename_i uy ut
    cases rt
    obtain ⟨its, rv, ⟨⟨cls, dd, data, sl⟩, ho, hc, n, hd⟩, hlen⟩ := I.tuple hs
    simp only at hc hd
    subst hc hd
    obtain ⟨u, hu, ru⟩ := rv.get hz
    obtain ⟨hjl, hje⟩ := List.getElem?_eq_some_iff.mp hu
    have hvl := rv.length
    have hj : j < its.toArray.size := by simpa using hjl
    refine call_meets PySem.F.slot_tuple_index ⟨_, ho, rfl⟩ PySem.F.entry_tuple_index (PySem.F.args_tuple_index_2 _ _)
      (TI.tuple_indexAt a its.toArray n dd sl uy (eqU y) j hj ?_ ?_) ⟨ho, fun u' hu' => mem_eqAt ry fy rv fys u' (by simpa using hu'), ?_⟩
    · have e1 : its.toArray[j] = u := by simpa using hje
      rw [e1, eqU_of ru (flat_at fys hz)]
      exact hzj
    · intro m hm hmj
      have hml : m < its.length := by simpa using hm
      have hmy : m < ys.length := by omega
      have hy' : ys[m]? = some ys[m] := List.getElem?_eq_getElem hmy
      obtain ⟨u2, hu2, ru2⟩ := rv.get hy'
      obtain ⟨_, hme⟩ := List.getElem?_eq_some_iff.mp hu2
      have e1 : its.toArray[m] = u2 := by simpa using hme
      rw [e1, eqU_of ru2 (flat_at fys hy')]
      exact hno m _ hmj hy'
    · exact ⟨.int (j : Nat), H, I.tok _, ⟨_, rfl⟩, q⟩
theorem op_repTK {X : Cx} {K : PySem.W.Frag} (hK : X.K = K := by rfl) : OpR X (binaryOp .Mult) (rRepT K) := hK ▸ op_repT
def rTupF (K : PySem.W.Frag) : List V → Hp → VK → Prop := fun vs H Q => ∃ p ys, vs = [.ref p] ∧ SqL K H p ys ∧ ∀ l (o : Obj), H l = none → o.dict = none → o.cls = .type "tuple" → Q (.ref l) (upd H l (.frz o (.tup ys)))
theorem call_tupleF {X : Cx} {K : PySem.W.Frag} (hK : X.K = K := by rfl) : CallR X (.type "tuple") (rTupF K) := by
  subst hK
  intro pins s σ H xs us Q I r h
  obtain ⟨p, ys, rfl, hq, q⟩ := h
  obtain ⟨u, rfl, rx⟩ := vals1 r
  cases rx
  obtain ⟨its, r', pl, hz⟩ := I.list hq
  have hlen := r'.length
  refine call_tuple_list pl.isList (fun h' kp => ?_) (by simp only [List.size_toArray] <;> omega)
  have I1 : Inv X pins σ H { s with heap := h' } := I.kept (t' := s.toks) kp
  have I2 : Inv X pins σ (upd H h'.objs.size (.frz { cls := .type "tuple", data := .seq its.toArray } (.tup ys))) { s with heap := h'.push { cls := .type "tuple", data := .seq its.toArray } } :=
    I1.laid (t' := s.toks) (fun b o e => Heap.get?_push_of_some _ e) (Nat.le_refl _) (show ObjOk X.prog X.w _ _ _ (.frz _ (.tup ys)) from ⟨Heap.get?_push_size _ rfl, hz, its, r', IsTup.new _ _⟩)
  exact ⟨.ref h'.objs.size, _, I2, rfl, q _ _ (I1.hok.fresh (Nat.le_refl _)) rfl rfl⟩
def tBMF (K : PySem.W.Frag) (r : V → List V → Hp → VK → Prop) (to : TE) (t : TA) : TE := fun σ H Q => to σ H fun x H1 => (∃ p o ys, x = .ref p ∧ H1 p = some (.frz o (.tup ys)) ∧ o.dict = none ∧ o.cls = .type "tuple") ∧ t σ H1 fun xs H2 => r x xs H2 Q
theorem pe_idx {X : Cx} {K : PySem.W.Frag} {o e : Expr} {es : List Expr} {to : TE} {t : TA} {apos cpos : Pos} (ho : PE X o to) (ha : PA X (e :: es) t)
    (hbase : attributeBase o "index" X.env (eval o X.env) = eval o X.env := by rfl)
    (hfew : ((backTo cpos (starEach (e :: es) X.env)).all (fun x => !x.1) && (backToKw cpos (keywordEach [] X.env)).all (fun x => x.1.isSome)
      && decide ((e :: es).length + ([] : List Keyword).length + (if ([] : List Keyword).isEmpty then 0 else 1) < 30)) = true := by rfl)
    (hline : (apos.endLine == cpos.line) = true := by rfl) (hs : starEach (e :: es) X.env = (false, eval e X.env) :: starEach es X.env := by rfl) (hplain : (backTo cpos (starEach es X.env)).any (·.1) = false := by rfl) (hK : X.K = K := by rfl) :
    PE X (.Call (.Attribute o "index" apos) (e :: es) [] cpos) (tBMF K (rIndexT K) to t) := by
  subst hK
  refine ⟨fun pins s σ H Q I h => ?_⟩
  refine wpAny_Call_method_late hbase hfew hline rfl (thn (ho.run pins s σ H _ I h) fun v s1 ⟨x, H1, I1, r1, ty, q1⟩ => ?_)
  obtain ⟨p, ob, ys, rfl, hp, hd, hc⟩ := ty
  cases r1
  obtain ⟨g1, _⟩ := (show ObjOk X.prog X.w H1 s1.heap p (.frz ob (.tup ys)) from I1.hok p _ hp)
  refine ⟨"tuple", "tuple.index", PySem.F.plainAttrs_tuple, PySem.F.slot_tuple_index, PySem.F.type_tuple_index, ⟨ob, g1, hc⟩, fun a e => by cases e; exact ⟨ob, g1, hd⟩, ?_⟩
  have hA := ha.run cpos pins s1 σ H1 _ I1 q1
  rw [hs] at hA ⊢
  refine Calls.callWith_builtin (by show (false || (backTo cpos (starEach es X.env)).any (·.1)) = false; rw [hplain] <;> rfl) (Calls.evalArgs_plain ?_)
  exact thn hA fun us s2 ⟨vs, H2, I2, r2, q2⟩ => mt_tup_index (K := X.K) rfl pins s2 σ H2 (.ref p) vs (.ref p) us Q I2 rfl r2 q2
def rIsTup (K : PySem.W.Frag) : List V → Hp → VK → Prop := fun xs H Q => ∃ x, xs = [x, .ty "tuple"] ∧ (((∃ t ys, x = .ref t ∧ SqT K H t ys) ∧ Q (.bl true) H) ∨ (((∃ s, x = .str s) ∨ ∃ i, x = .int i) ∧ Q (.bl false) H))
theorem call_isTup {X : Cx} {K : PySem.W.Frag} (hK : X.K = K := by rfl) : CallR X (.builtin "isinstance") (rIsTup K) := by
  subst hK
  intro pins s σ H xs us Q I r h
  refine call_isi pins s σ H xs us Q I r ?_
  obtain ⟨x, rfl, ⟨⟨t, ys, rfl, hs⟩, q⟩ | ⟨⟨y, rfl⟩ | ⟨i, rfl⟩, q⟩⟩ := h
  · have ty : TyX X.K H (.ref t) (.type "tuple") := by
      rcases hs with hs | ⟨o, its, n, h1, h2, _⟩
      · rcases hs with hs | ⟨o, hs⟩
        · exact .base (.tup hs)
        · exact .fTuple hs
      · exact .kTuple h1 h2
    exact ⟨_, _, _, _, true, rfl, .ty "tuple", ty, kit_ty (by decide +kernel), q⟩
  · exact ⟨_, _, _, _, false, rfl, .ty "tuple", .base (.str y), kit_ty (by decide +kernel), q⟩
  · exact ⟨_, _, _, _, false, rfl, .ty "tuple", .base (.int i), kit_ty (by decide +kernel), q⟩
/-- f(a = x, b = y, ..), all parameters by their names, in the def's order -/
def KB0 (K : PySem.W.Frag) (fd : FuncData) (ps : List Str) : Prop := ∀ (s : Shared) (ws : List Value), K.In s.heap → ws.length = ps.length → BindsTo s fd ⟨[], ps.zip ws⟩ (ps.zip ws)
theorem kb0_of {K : PySem.W.Frag} {x qual : Str} {st : Stmt} {f : Addr} {fd : FuncData} {ps : List Str} (F : Fun K x qual st f fd)
    (h : ∀ (kV doc pm : Value) (an : Option Addr) (cdv ct : Value) (us : List Value), us.length = ps.length → bindArgs (PySem.W.fnOf x qual (defArgs st) (defBody st) (defScope st) .none kV doc pm an cdv ct) ⟨[], ps.zip us⟩ = pure (ps.zip us)) : KB0 K fd ps := by
  obtain ⟨⟨oc, od, kV, doc, pm, an, cdv, ct, osl, rfl, l, c⟩, k⟩ := F
  exact fun s ws _ hl => .of_eq (h _ _ _ _ _ _ _ hl)
def tCall0K (sp : Sp) (E : XK) (tk : TA) : TE := fun σ H Q => tk σ H fun zs H2 => sp zs H2 Q E
section
variable {X : Cx} {CX : CXT} {k : Nat} {f : Addr} {fd : FuncData} {ps : List Str} {sp : Sp} {E : XK} {x : Str} {p pos : Pos} {kws : List Keyword} {tk : TA}
theorem pe_call0K (F : FnOk X.prog X.w X.K X.mg X.base CX k f fd ps sp) (hr : Room k X.A) (hg : Gl X x) (hm : X.mg x = some (.ref f)) (hk : PySem.W.keepIn X.K (.ref f) = true) (hb : KB0 X.K fd ps) (hx : Passes CX X E)
    (hkw : PK X kws tk) (hall : (backToKw pos (keywordEach kws X.env)).all (·.1.isSome) = true := by rfl) (hks : (backToKw pos (keywordEach kws X.env)).filterMap (·.1) = ps := by rfl)
    (hdb : (x == ("__debug__" : Str)) = false := by decide)
    (hpl : ((backTo pos (starEach [] X.env)).any (·.1) || (backToKw pos (keywordEach kws X.env)).any (·.1.isNone)) = false := by rfl) :
    PE X (.Call (.Name x p) [] kws pos) (tCall0K sp E tk) := by
  refine ⟨fun pins s σ H Q I h => ?_⟩
  refine wpAny_Call_Name_kw (ld_glob I hg hm ?_ hdb)
  refine PySem.W.callWith_KW0 (h₀ := X.base) I.ok.mod.kin hk hall ?_ hpl
  refine thn (hkw.run pos pins s σ H _ I h) fun ws s2 ⟨zs, H2, I2, rz, q2⟩ => ⟨I2.kIn, ?_⟩
  rw [hks]
  have hl : ws.length = ps.length := by rw [← rz.length]; exact F.len _ _ _ _ q2
  show wpAny _ _ (call (.ref f) [] (ps.zip ws)) _ _ _
  refine wpAny_call (codeAny_mono (F.run X.A X.stack s2 H2 ⟨[], ps.zip ws⟩ ws zs Q E hr I2.env0 (hb s2 ws I2.kIn hl) rz q2) fun r s' hq => ?_)
  cases r with
  | error e => exact hx pins σ H2 s2 e s' I2 hq
  | ok fl =>
    cases fl with
    | ret u => exact I2.after hq
    | next => exact False.elim hq
    | brk => exact False.elim hq
    | cont => exact False.elim hq
end
end V7

/-! V8: t * k, k from 0, as one promise. -/
namespace V8
open PySem PySem.Spec PyProof.Rows L2 W1
theorem mul_one (l : Addr) (items : Array Value) (n : Nat) (dd : Option Addr) (sl : Array (Option Value)) (u : Tok) :
    Meets (Builtin.«tuple.__mul__» ⟨[.ref l, .int 1 u], []⟩) (fun _ R s => s.heap.get? l = some { cls := .type "tuple", dict := dd, data := .seq items n, slots := sl } ∧ R (.ok (.ret (Value.ref l))) s) :=
  .of_wp fun prog w A R s h => by
    obtain ⟨hp, g, d, tk, os⟩ := s
    obtain ⟨hl, h⟩ := h
    have f1 := AutoSeq1.idx_int
    have c1 : (items.isEmpty || (1 : Int) == 1) = true := by simp
    have c0 : (decide ((1 : Int) < -(2 ^ 63)) || decide ((1 : Int) ≥ 2 ^ 63)) = false := by decide
    wp_walk using wpAny_loadPart' hl
    repeat (first
      | (refine wpAny_ite_false (decide_eq_false (by rw [c0]; exact Bool.false_ne_true)) ?_; wp_walk using wpAny_loadPart' hl)
      | (refine wpAny_ite_true (decide_eq_true c1) ?_; wp_walk using wpAny_loadPart' hl))
    exact ⟨_, rfl, h⟩
theorem mul_zero (l : Addr) (items : Array Value) (n : Nat) (dd : Option Addr) (sl : Array (Option Value)) (u : Tok) (c1 : (items.isEmpty || (0 : Int) == 1) = false) :
    Meets (Builtin.«tuple.__mul__» ⟨[.ref l, .int 0 u], []⟩) (fun _ R s => s.heap.get? l = some { cls := .type "tuple", dict := dd, data := .seq items n, slots := sl } ∧
      R (.ok (.ret (Value.ref s.heap.objs.size))) { s with heap := s.heap.push { cls := Value.type "tuple", data := Data.seq #[] }, toks := s.toks }) :=
  .of_wp fun prog w A R s h => by
    obtain ⟨hp, g, d, tk, os⟩ := s
    obtain ⟨hl, h⟩ := h
    have f1 := AutoSeq1.idx_int
    have c2 : (decide ((0 : Int) ≤ 0) || items.isEmpty) = true := by simp
    have c0 : (decide ((0 : Int) < -(2 ^ 63)) || decide ((0 : Int) ≥ 2 ^ 63)) = false := by decide
    wp_walk using wpAny_loadPart' hl
    repeat (first
      | (refine wpAny_ite_false (decide_eq_false (by rw [c0]; exact Bool.false_ne_true)) ?_; wp_walk using wpAny_loadPart' hl)
      | (refine wpAny_ite_false (decide_eq_false (by rw [c1]; exact Bool.false_ne_true)) ?_; wp_walk using wpAny_loadPart' hl)
      | (refine wpAny_ite_true (decide_eq_true c2) ?_; wp_walk using wpAny_loadPart' hl))
    exact ⟨_, rfl, h⟩
/-- t * k -/
def rRepW (K : PySem.W.Frag) : R2 := fun x y H Q => ∃ (l : Addr) (k : Nat) (xs : List V), x = .ref l ∧ y = .int (k : Int) ∧ SqT K H l xs ∧ xs ≠ [] ∧ k ≤ 1000 ∧ xs.length ≤ 1000 ∧ ∀ p H1, Same H H1 → SqT K H1 p (List.replicate k xs).flatten → Q (.ref p) H1
theorem op_repW {X : Cx} {K : PySem.W.Frag} (hK : X.K = K := by rfl) : OpR X (binaryOp .Mult) (rRepW K) := by
  subst hK
  intro pins s σ H x y v u Q I rx ry h
  obtain ⟨l, k, xs, rfl, rfl, hT, hne, h2, hz, q⟩ := h
  match k with
  | k + 2 =>
    refine op_repT pins s σ H _ _ v u Q I rx ry ⟨l, ((k + 2 : Nat) : Int), xs, rfl, rfl, hT, hne, by omega, by omega, hz, fun p np => ?_⟩
    rw [Int.toNat_natCast]
    exact q p _ (same_new np) (SqT.of upd_same)
  | 1 =>
    cases rx
    obtain ⟨t, rfl⟩ := ry
    obtain ⟨its, r, ⟨⟨cls, dd, data, sl⟩, ho, hc, n, hd⟩, hs⟩ := I.tuple hT
    simp only at hc hd
    subst hc hd
    refine wpAny_binaryOp_repeat_ref (T := "tuple") (U := "int") (by decide) ⟨_, ho, rfl⟩ (fun s' => typeIs_int s' 1 t) noFill_tuple_mul F.fills_int_mul F.slot_int_rmul repeat_tuple F.slot_int_index.lookup
      (call_meets F.slot_int_rmul (typeIs_int s 1 t) F.entry_int_rmul (F.args_int_rmul_2 _ _) (int_rmul_tuple 1 t l its.toArray n dd sl)
        ⟨ho, rfl, ⟨_, ho, rfl⟩, call_meets F.slot_tuple_mul ⟨_, ho, rfl⟩ F.entry_tuple_mul (F.args_tuple_mul_2 _ _) (mul_one l its.toArray n dd sl t) ⟨ho, ?_⟩⟩)
    refine ⟨.ref l, H, I, rfl, q l H (Same.refl H) ?_⟩
    rw [show (List.replicate 1 xs).flatten = xs by simp]
    exact hT
  | 0 =>
    cases rx
    obtain ⟨t, rfl⟩ := ry
    obtain ⟨its, r, ⟨⟨cls, dd, data, sl⟩, ho, hc, n, hd⟩, hs⟩ := I.tuple hT
    simp only at hc hd
    subst hc hd
    have c1 : (its.toArray.isEmpty || (0 : Int) == 1) = false := by
      cases its with
      | nil => exact absurd (List.eq_nil_of_length_eq_zero r.length) hne
      | cons a b => rfl
    refine wpAny_binaryOp_repeat_ref (T := "tuple") (U := "int") (by decide) ⟨_, ho, rfl⟩ (fun s' => typeIs_int s' 0 t) noFill_tuple_mul F.fills_int_mul F.slot_int_rmul repeat_tuple F.slot_int_index.lookup
      (call_meets F.slot_int_rmul (typeIs_int s 0 t) F.entry_int_rmul (F.args_int_rmul_2 _ _) (int_rmul_tuple 0 t l its.toArray n dd sl)
        ⟨ho, rfl, ⟨_, ho, rfl⟩, call_meets F.slot_tuple_mul ⟨_, ho, rfl⟩ F.entry_tuple_mul (F.args_tuple_mul_2 _ _) (mul_zero l its.toArray n dd sl t c1) ⟨ho, ?_⟩⟩)
    refine ⟨.ref s.heap.objs.size, _, I.laid (t' := s.toks) (o := .tup []) (fun b ob q => Heap.get?_push_of_some _ q) (Nat.le_refl _) ?_, rfl, q _ _ (same_new (I.hok.fresh (Nat.le_refl _))) (SqT.of upd_same)⟩
    exact ⟨by show 0 ≤ sizeLine; exact Nat.zero_le _, [], .nil, IsTup.new _ _⟩
end V8

/-! V9: [y for .. for ..], outer and inner walk. -/
namespace V9
open PySem PySem.Spec PyProof.Rows L2 W1
section
variable {J J1 : It} {n n1 : Nat} {G G1 : Hp → Prop} {Y Y1 : Nat → Hp → V → Hp → Prop}
theorem lc2_out (wk : Walk J n G Y) {wi1 : TI} {g g1 : TG} {tt tt1 : TT} {te : TE} {vs vs1 : List Nat} {σ : L2.St} {H1 : Hp} {D : Addr} {Qd : Hp → Prop} (Pv : Nat → Hp → Prop) (h0 : Pv 0 (upd H1 D (.lst []))) (hG : ∀ i H, i ≤ n → Pv i H → G H)
    (hs : ∀ i x H H', i < n → Pv i H → Y i H x H' → g x (wipe σ vs) H' fun σ2 H2 => wipe σ2 vs = wipe σ vs ∧ tt σ2 H2 fun b H3 =>
      if b = true then wi1 σ2 H3 fun J1 H4 => ∃ W1 : Nat → Nat → Hp → Prop, (∃ m, W1 0 m H4) ∧ ∀ j k H, W1 j k H →
        (J1.stop j H ∧ Pv (i + 1) H) ∨ (J1.go j H ∧ ∃ Nx1 : Hp → Prop, (∀ H', Nx1 H' → ∃ k', k' < k ∧ W1 (j + 1) k' H') ∧ ∀ x H', J1.yld j H x H' → g1 x (wipe σ2 vs1) H' fun σ3 H5 => wipe σ3 vs1 = wipe σ2 vs1 ∧ tt1 σ3 H5 fun b H6 =>
          if b = true then te σ3 H6 fun y H7 => ∃ acc, H7 D = some (.lst acc) ∧ acc.length < sizeLine ∧ Nx1 (upd H7 D (.lst (acc ++ [y]))) else Nx1 H6)
      else Pv (i + 1) H3) (hd : ∀ H, Pv n H → Qd H) :
    ∃ W : Nat → Nat → Hp → Prop, (∃ m, W 0 m (upd H1 D (.lst []))) ∧ ∀ i m H, W i m H →
      (J.stop i H ∧ Qd H) ∨ (J.go i H ∧ ∃ Nx : Hp → Prop, (∀ H', Nx H' → ∃ m', m' < m ∧ W (i + 1) m' H') ∧ ∀ x H', J.yld i H x H' → g x (wipe σ vs) H' fun σ2 H2 => wipe σ2 vs = wipe σ vs ∧ tt σ2 H2 fun b H3 =>
        if b = true then wi1 σ2 H3 fun J1 H4 => ∃ W1 : Nat → Nat → Hp → Prop, (∃ m, W1 0 m H4) ∧ ∀ j k H, W1 j k H →
          (J1.stop j H ∧ Nx H) ∨ (J1.go j H ∧ ∃ Nx1 : Hp → Prop, (∀ H', Nx1 H' → ∃ k', k' < k ∧ W1 (j + 1) k' H') ∧ ∀ x H', J1.yld j H x H' → g1 x (wipe σ2 vs1) H' fun σ3 H5 => wipe σ3 vs1 = wipe σ2 vs1 ∧ tt1 σ3 H5 fun b H6 =>
            if b = true then te σ3 H6 fun y H7 => ∃ acc, H7 D = some (.lst acc) ∧ acc.length < sizeLine ∧ Nx1 (upd H7 D (.lst (acc ++ [y]))) else Nx1 H6)
        else Nx H3) := by
  refine ⟨fun i left H => left + i = n ∧ Pv i H, ⟨n, rfl, h0⟩, fun i left H hw => ?_⟩
  obtain ⟨e, p⟩ := hw
  have q := hG i H (by omega) p
  cases left with
  | zero =>
    obtain rfl : i = n := by omega
    exact .inl ⟨wk.stops H q, hd H p⟩
  | succ left => exact .inr ⟨wk.goes i H (by omega) q, Pv (i + 1), fun H' p' => ⟨left, Nat.lt_succ_self _, by omega, p'⟩, fun x H' y => hs i x H H' (by omega) p (wk.yields i H x H' (by omega) q y)⟩
theorem lc2_in (wk : Walk J1 n1 G1 Y1) {g1 : TG} {tt1 : TT} {te : TE} {vs1 : List Nat} {σ2 : L2.St} {H4 : Hp} {D : Addr} {Nx : Hp → Prop} (Pj : Nat → Hp → Prop) (h0 : Pj 0 H4) (hG : ∀ i H, i ≤ n1 → Pj i H → G1 H)
    (hs : ∀ j x H H', j < n1 → Pj j H → Y1 j H x H' → g1 x (wipe σ2 vs1) H' fun σ3 H5 => wipe σ3 vs1 = wipe σ2 vs1 ∧ tt1 σ3 H5 fun b H6 =>
      if b = true then te σ3 H6 fun y H7 => ∃ acc, H7 D = some (.lst acc) ∧ acc.length < sizeLine ∧ Pj (j + 1) (upd H7 D (.lst (acc ++ [y]))) else Pj (j + 1) H6) (hd : ∀ H, Pj n1 H → Nx H) :
    ∃ W1 : Nat → Nat → Hp → Prop, (∃ m, W1 0 m H4) ∧ ∀ j k H, W1 j k H →
      (J1.stop j H ∧ Nx H) ∨ (J1.go j H ∧ ∃ Nx1 : Hp → Prop, (∀ H', Nx1 H' → ∃ k', k' < k ∧ W1 (j + 1) k' H') ∧ ∀ x H', J1.yld j H x H' → g1 x (wipe σ2 vs1) H' fun σ3 H5 => wipe σ3 vs1 = wipe σ2 vs1 ∧ tt1 σ3 H5 fun b H6 =>
        if b = true then te σ3 H6 fun y H7 => ∃ acc, H7 D = some (.lst acc) ∧ acc.length < sizeLine ∧ Nx1 (upd H7 D (.lst (acc ++ [y]))) else Nx1 H6) := by
  refine ⟨fun i left H => left + i = n1 ∧ Pj i H, ⟨n1, rfl, h0⟩, fun i left H hw => ?_⟩
  obtain ⟨e, p⟩ := hw
  have q := hG i H (by omega) p
  cases left with
  | zero =>
    obtain rfl : i = n1 := by omega
    exact .inl ⟨wk.stops H q, hd H p⟩
  | succ left => exact .inr ⟨wk.goes i H (by omega) q, Pj (i + 1), fun H' p' => ⟨left, Nat.lt_succ_self _, by omega, p'⟩, fun x H' y => hs i x H H' (by omega) p (wk.yields i H x H' (by omega) q y)⟩
end
end V9

/-! V10: the mask of a place in all cases at once: full // ((1 << run) + 1). -/
namespace V10
open V6
theorem bits_add : ∀ (N : Nat) (f g : Nat → Bool), (∀ c, c < N → ¬ (f c = true ∧ g c = true)) → bitsN N f + bitsN N g = bitsN N fun c => f c || g c
  | 0, _, _, _ => rfl
  | N + 1, f, g, h => by
    have ih := bits_add N (fun i => f (i + 1)) (fun i => g (i + 1)) fun c hc => h (c + 1) (by omega)
    have h0 := h 0 (Nat.succ_pos N)
    show ((if f 0 = true then 1 else 0) + 2 * bitsN N _) + ((if g 0 = true then 1 else 0) + 2 * bitsN N _) = (if (f 0 || g 0) = true then 1 else 0) + 2 * bitsN N _
    rw [← ih]
    cases hf : f 0 <;> cases hg : g 0 <;> simp [hf, hg] at h0 ⊢ <;> omega
theorem flip (k c : Nat) : (c + 2 ^ k).testBit k = !c.testBit k := by
  rw [Nat.testBit_eq_decide_div_mod_eq, Nat.testBit_eq_decide_div_mod_eq, Nat.add_div_right _ (Nat.two_pow_pos k)]
  by_cases h : c / 2 ^ k % 2 = 1
  · rw [decide_eq_true h, decide_eq_false (by omega)]
    rfl
  · rw [decide_eq_false h, decide_eq_true (by omega)]
    rfl
theorem stays {k b c : Nat} (hk : k < b) (hc : c < 2 ^ b) (h : c.testBit k = false) : c + 2 ^ k < 2 ^ b := by
  rw [Nat.testBit_eq_decide_div_mod_eq] at h
  have h := of_decide_eq_false h
  have eb : 2 ^ b = 2 ^ k * (2 * 2 ^ (b - k - 1)) := by
    rw [← Nat.pow_succ', ← Nat.pow_add]
    congr 1
    omega
  rw [eb] at hc ⊢
  have q1 : c / 2 ^ k < 2 * 2 ^ (b - k - 1) := Nat.div_lt_of_lt_mul hc
  have q2 : c / 2 ^ k + 1 < 2 * 2 ^ (b - k - 1) := by omega
  have q3 := Nat.lt_mul_div_succ c (Nat.two_pow_pos k)
  have q4 : 2 ^ k * (c / 2 ^ k + 1 + 1) ≤ 2 ^ k * (2 * 2 ^ (b - k - 1)) := Nat.mul_le_mul_left _ q2
  rw [Nat.mul_add, Nat.mul_one] at q4
  omega
theorem shifted {k b : Nat} (hk : k < b) : 2 ^ (2 ^ k) * bitsN (2 ^ b) (fun c => !c.testBit k) = bitsN (2 ^ b) fun c => c.testBit k := bits_ext fun j => by
  rw [Nat.testBit_two_pow_mul, bits_test]
  by_cases h : 2 ^ k ≤ j
  · obtain ⟨c, rfl⟩ : ∃ c, j = c + 2 ^ k := ⟨j - 2 ^ k, by omega⟩
    rw [decide_eq_true h, Nat.add_sub_cancel, Bool.true_and, flip]
    cases hb : c.testBit k with
    | true => rw [Bool.not_true, Bool.and_false, Bool.and_false]
    | false =>
      rw [Bool.not_false, Bool.and_true, Bool.and_true]
      by_cases hc : c < 2 ^ b
      · rw [decide_eq_true hc, decide_eq_true (stays hk hc hb)]
      · have p := Nat.le_add_right c (2 ^ k)
        rw [decide_eq_false hc, decide_eq_false (fun z => hc (Nat.lt_of_le_of_lt p z))]
  · rw [decide_eq_false h, Bool.false_and]
    have : j.testBit k = false := Nat.testBit_lt_two_pow (by omega)
    rw [this, Bool.and_false]
theorem bits_full (N : Nat) : 2 ^ N - 1 = bitsN N fun _ => true := bits_ext fun i => by
  rw [Nat.testBit_two_pow_sub_one, Bool.and_true]
/-- full // ((1 << run) + 1), run = 2 ** k: the cases whose k-th place is not marked -/
theorem mask_div {k b : Nat} (hk : k < b) : (2 ^ (2 ^ b) - 1) / (2 ^ (2 ^ k) + 1) = bitsN (2 ^ b) fun c => !c.testBit k := by
  have e : (2 ^ (2 ^ k) + 1) * bitsN (2 ^ b) (fun c => !c.testBit k) = 2 ^ (2 ^ b) - 1 := by
    rw [Nat.add_mul, Nat.one_mul, shifted hk, bits_add _ _ _ (fun c _ h => by
      have h2 := h.2
      rw [h.1] at h2
      cases h2), bits_full]
    refine congrArg (bitsN (2 ^ b)) (funext fun c => ?_)
    cases c.testBit k <;> rfl
  rw [← e, Nat.mul_div_cancel_left _ (Nat.succ_pos _)]
/-- full ^ full // ((1 << run) + 1): those whose k-th place is marked -/
theorem mask_of {k b : Nat} (hk : k < b) : (2 ^ (2 ^ b) - 1) ^^^ ((2 ^ (2 ^ b) - 1) / (2 ^ (2 ^ k) + 1)) = bitsN (2 ^ b) fun c => c.testBit k := by
  rw [mask_div hk, bits_full, bits_xor]
  refine congrArg (bitsN (2 ^ b)) (funext fun c => ?_)
  exact Bool.not_not _
end V10

/-! V11: type(x) within a comprehension. -/
namespace V11
open PySem PySem.Spec PyProof.Rows L2 W1
theorem call_typeSK {X : Cx} {K : PySem.W.Frag} (hK : X.K = K := by rfl) : CallR X (.type "type") (fun vs H Q => ∃ x T, vs = [x] ∧ TyS K H x T ∧ Q (.ty T) H) := hK ▸ call_typeS
end V11

namespace K0
open PySem PySem.Spec PyProof.Rows L2 W0 W1 W2 W5 W6 V0
theorem get_say {K : PySem.W.Frag} {H : Hp} {xs : List V} {l : List Say} {i : Nat} {x : V} (h : DpAll K H xs (l.map dSay)) (hx : xs[i]? = some x) : ∃ t, l[i]? = some t ∧ t ∈ l ∧ Dp K H x (dSay t) := by
  have hl := dps_len h
  rw [List.length_map] at hl
  have hi : i < l.length := by
    have := (List.getElem?_eq_some_iff.mp hx).1
    omega
  have e : l[i]? = some l[i] := List.getElem?_eq_getElem hi
  obtain ⟨y, hy, hd⟩ := dps_get (i := i) (d := dSay l[i]) h (by rw [List.getElem?_map, e]; rfl)
  rw [hx] at hy
  cases hy
  exact ⟨l[i], e, List.getElem_mem hi, hd⟩
theorem part_words {s t : Say} (m : t ∈ s.parts) : t.words.length + 1 ≤ s.words.length := by
  rw [Say.words_eq s, List.length_cons]
  refine Nat.succ_le_succ ?_
  obtain ⟨a, b, e⟩ := List.append_of_mem m
  rw [e, List.flatMap_append, List.flatMap_cons, List.length_append, List.length_append]
  omega
theorem take_words (s : Say) (i : Nat) : ((s.parts.take i).flatMap Say.words).length + 1 ≤ s.words.length := by
  rw [Say.words_eq s, List.length_cons]
  refine Nat.succ_le_succ ?_
  conv => rhs; rw [← List.take_append_drop i s.parts]
  rw [List.flatMap_append, List.length_append]
  omega
theorem dec_vstr {a b : Str} : decide (V.str a = V.str b) = decide (a = b) := by
  by_cases h : a = b
  · rw [decide_eq_true h, decide_eq_true (congrArg V.str h)]
  · rw [decide_eq_false h, decide_eq_false (fun z => h (V.str.inj z))]
section
variable {P : Program} {w : World} {K : PySem.W.Frag} {mg : Str → Option Value} {base : Heap}
def sp_is_letter : Sp := fun vs H Q _ => ∃ i : Nat, vs = [.int i] ∧ i < 8 ∧ Q (.bl true) H
theorem inV_strs (x : Str) : ∀ l : List Str, L2.inV (V.str x) (l.map V.str) = decide (x ∈ l)
  | [] => rfl
  | y :: l => by
    have ih := inV_strs x l
    show (L2.eqV (.str y) (.str x) || L2.inV (V.str x) (l.map V.str)) = _
    rw [ih]
    show (decide (y = x) || decide (x ∈ l)) = decide (x ∈ y :: l)
    by_cases e : y = x
    · subst e
      rw [decide_eq_true rfl, Bool.true_or, decide_eq_true List.mem_cons_self]
    · rw [decide_eq_false e, Bool.false_or]
      by_cases m : x ∈ l
      · rw [decide_eq_true m, decide_eq_true (List.mem_cons_of_mem _ m)]
      · rw [decide_eq_false m, decide_eq_false fun z => (List.mem_cons.mp z).elim (fun q => e q.symm) m]
theorem flat_strs : ∀ l : List Str, (l.map V.str).all flatV = true
  | [] => rfl
  | x :: l => by
    rw [List.map_cons, List.all_cons, flat_strs l]
    rfl
theorem cut_from (xs : List V) (n : Nat) : cutV xs (some (n : Int)) none = xs.drop n := by
  unfold cutV
  rw [show HT.sIx xs.length 0 (some (n : Int)) = min n xs.length from HT.sIx_nat xs.length 0 n, HT.sIx_none]
  by_cases h : n ≤ xs.length
  · rw [Nat.min_eq_left h]
    refine List.take_of_length_le ?_
    rw [List.length_drop]
    exact Nat.le_refl _
  · rw [Nat.min_eq_right (by omega), List.drop_of_length_le (Nat.le_refl _), List.drop_of_length_le (by omega), List.take_nil]
/-! ### words as tuples, written out -/
theorem say_lt {K : PySem.W.Frag} {H : Hp} {v : V} {i : Nat} (h : Dp K H v (dSay (.lt i))) : ∃ a, v = .ref a ∧ SqT K H a [.str "letter", .int (i : Int)] := by
  obtain ⟨a, xs, e, hs, hd⟩ := say_at h
  cases hd
  exact ⟨a, e, hs⟩
theorem say_hr {K : PySem.W.Frag} {H : Hp} {v : V} {i : Nat} (h : Dp K H v (dSay (.hr i))) : ∃ a, v = .ref a ∧ SqT K H a [.str "here", .int (i : Int)] := by
  obtain ⟨a, xs, e, hs, hd⟩ := say_at h
  cases hd
  exact ⟨a, e, hs⟩
theorem say_yes {K : PySem.W.Frag} {H : Hp} {v : V} (h : Dp K H v (dSay .yes)) : ∃ a, v = .ref a ∧ SqT K H a [.str "yes"] := by
  obtain ⟨a, xs, e, hs, hd⟩ := say_at h
  cases hd
  exact ⟨a, e, hs⟩
theorem say_no {K : PySem.W.Frag} {H : Hp} {v : V} (h : Dp K H v (dSay .no)) : ∃ a, v = .ref a ∧ SqT K H a [.str "no"] := by
  obtain ⟨a, xs, e, hs, hd⟩ := say_at h
  cases hd
  exact ⟨a, e, hs⟩
theorem dpq_one {K : PySem.W.Frag} {H : Hp} {xs : List V} {d : PyData} (h : DpAll K H xs [d]) : ∃ x, xs = [x] ∧ Dp K H x d := by
  cases h with
  | cons h1 h2 =>
    cases h2
    exact ⟨_, rfl, h1⟩
theorem dpq_two {K : PySem.W.Frag} {H : Hp} {xs : List V} {d e : PyData} (h : DpAll K H xs [d, e]) : ∃ x y, xs = [x, y] ∧ Dp K H x d ∧ Dp K H y e := by
  cases h with
  | cons h1 h2 =>
    obtain ⟨y, rfl, h3⟩ := dpq_one h2
    exact ⟨_, y, rfl, h1, h3⟩
theorem say_nt {K : PySem.W.Frag} {H : Hp} {v : V} {s : Say} (h : Dp K H v (dSay (.nt s))) : ∃ a x, v = .ref a ∧ SqT K H a [.str "not", x] ∧ Dp K H x (dSay s) := by
  obtain ⟨a, xs, e, hs, hd⟩ := say_at h
  obtain ⟨x, rfl, hx⟩ := dpq_one hd
  exact ⟨a, x, e, hs, hx⟩
theorem say_an {K : PySem.W.Frag} {H : Hp} {v : V} {s t : Say} (h : Dp K H v (dSay (.an s t))) : ∃ a x y, v = .ref a ∧ SqT K H a [.str "and", x, y] ∧ Dp K H x (dSay s) ∧ Dp K H y (dSay t) := by
  obtain ⟨a, xs, e, hs, hd⟩ := say_at h
  obtain ⟨x, y, rfl, hx, hy⟩ := dpq_two hd
  exact ⟨a, x, y, e, hs, hx, hy⟩
theorem say_orr {K : PySem.W.Frag} {H : Hp} {v : V} {s t : Say} (h : Dp K H v (dSay (.orr s t))) : ∃ a x y, v = .ref a ∧ SqT K H a [.str "or", x, y] ∧ Dp K H x (dSay s) ∧ Dp K H y (dSay t) := by
  obtain ⟨a, xs, e, hs, hd⟩ := say_at h
  obtain ⟨x, y, rfl, hx, hy⟩ := dpq_two hd
  exact ⟨a, x, y, e, hs, hx, hy⟩
theorem say_gv {K : PySem.W.Frag} {H : Hp} {v : V} {s t : Say} (h : Dp K H v (dSay (.gv s t))) : ∃ a x y, v = .ref a ∧ SqT K H a [.str "gives", x, y] ∧ Dp K H x (dSay s) ∧ Dp K H y (dSay t) := by
  obtain ⟨a, xs, e, hs, hd⟩ := say_at h
  obtain ⟨x, y, rfl, hx, hy⟩ := dpq_two hd
  exact ⟨a, x, y, e, hs, hx, hy⟩
theorem say_ea {K : PySem.W.Frag} {H : Hp} {v : V} {w : Int} {s : Say} (h : Dp K H v (dSay (.ea w s))) : ∃ a x, v = .ref a ∧ SqT K H a [.str "each", .int w, x] ∧ Dp K H x (dSay s) := by
  obtain ⟨a, xs, e, hs, hd⟩ := say_at h
  obtain ⟨x, rfl, hx⟩ := dpq_one hd
  exact ⟨a, x, e, hs, hx⟩
theorem say_so {K : PySem.W.Frag} {H : Hp} {v : V} {w : Int} {s : Say} (h : Dp K H v (dSay (.so w s))) : ∃ a x, v = .ref a ∧ SqT K H a [.str "some", .int w, x] ∧ Dp K H x (dSay s) := by
  obtain ⟨a, xs, e, hs, hd⟩ := say_at h
  obtain ⟨x, rfl, hx⟩ := dpq_one hd
  exact ⟨a, x, e, hs, hx⟩
theorem dec_vint' {a b : Int} : decide (V.int a = V.int b) = decide (a = b) := by
  by_cases h : a = b
  · rw [decide_eq_true h, decide_eq_true (congrArg V.int h)]
  · rw [decide_eq_false h, decide_eq_false (fun z => h (V.int.inj z))]
abbrev lets : Str := "letter"
/-- a dict of two texts' numbers -/
def Nums (H : Hp) (d : Addr) (nl nh : Nat) : Prop := H d = some (.dK [(Sum.inr "letter", V.int (nl : Int)), (Sum.inr "here", V.int (nh : Int))])
theorem sqT_len {xs : List V} {n : Nat} (h : xs.length = n) : ((xs.length : Nat) : Int) = (n : Int) := by rw [h]
theorem notT : (!decide (("tuple" : String) = "tuple")) = false := by rw [decide_eq_true rfl]; rfl
theorem notS : (!decide (("str" : String) = "str")) = false := by rw [decide_eq_true rfl]; rfl
theorem notI : (!decide (("int" : String) = "int")) = false := by rw [decide_eq_true rfl]; rfl
theorem nums_letter (a b : V) : valV [((Sum.inr "letter" : Key), a), (Sum.inr "here", b)] (Sum.inr "letter") = some a := valV_pos rfl
theorem nums_here (a b : V) : valV [((Sum.inr "letter" : Key), a), (Sum.inr "here", b)] (Sum.inr "here") = some b := by
  rw [valV_neg (by intro z; exact absurd (Sum.inr.inj z) (show ¬ ("letter" : Str) = "here" by decide))]
  exact valV_pos rfl
theorem noLs_app {a b : List PyData} (h : noLs a = true) (g : noLs b = true) : noLs (a ++ b) = true := by
  induction a with
  | nil => exact g
  | cons d a ih =>
    have h' : (noL d && noLs a) = true := h
    show (noL d && noLs (a ++ b)) = true
    rw [Bool.and_eq_true] at h' ⊢
    exact ⟨h'.1, ih h'.2⟩
def sp_parts_if_right (K : PySem.W.Frag) : Sp := fun vs H Q _ => ∃ (p d : Addr) (xs : List V) (l : List Say) (nl nh : Nat) (dn : Bool), vs = [.ref p, .ref d, .bl dn] ∧ H p = some (.lst xs) ∧ DpAll K H xs (l.map dSay) ∧ Nums H d nl nh ∧ (∀ s ∈ l, s.okN nl nh dn) ∧ l.length ≤ 5000 ∧
  ∀ H' g ys, Same H H' → H g = none → H' g = some (.lst ys) → DpAll K H' ys ((l.flatMap Say.parts).map dSay) → Q (.ref g) H'
theorem parts_two (l : List Say) : (l.flatMap Say.parts).length ≤ 2 * l.length := by
  induction l with
  | nil => exact Nat.zero_le _
  | cons s l ih =>
    rw [List.flatMap_cons, List.length_append, List.length_cons]
    have : s.parts.length ≤ 2 := by cases s <;> simp [Say.parts]
    omega
theorem parts_step {l : List Say} {j : Nat} {s : Say} (h : l[j]? = some s) : ((l.take (j + 1)).flatMap Say.parts).map dSay = ((l.take j).flatMap Say.parts).map dSay ++ s.parts.map dSay := by
  rw [List.take_add_one, h, List.flatMap_append, List.map_append]
  show _ ++ ((s.parts ++ []).map dSay) = _
  rw [List.append_nil]
theorem dps_snoc {K : PySem.W.Frag} {H : Hp} {D : Addr} {us : List V} {x : V} {l : List Say} {t : Say} (hD : H D = some (.lst us)) (hu : DpAll K H us (l.map dSay)) (hx : Dp K H x (dSay t)) : DpAll K (upd H D (.lst (us ++ [x]))) (us ++ [x]) (l.map dSay ++ [dSay t]) :=
  dps_app (dps_mv (fun b zs hb => sqT_upd hD hb) _ _ (noLs_says _) hu) (.cons (dp_mv (fun b zs hb => sqT_upd hD hb) _ _ (noL_say _) hx) .nil)
set_option maxHeartbeats 4000000 in
theorem ok__parts_if_right (T : Tops K w mg) : FnOk P w K mg base CX0 1 T.a__parts_if_right T.fd__parts_if_right p__parts_if_right (sp_parts_if_right K) := by
  have S := sc__parts_if_right
  refine T.F__parts_if_right.ok S (fun vs H Q E h => ?_) (fun cdv A outer s0 H vs Q E hr h => ?_)
  · obtain ⟨p, d, xs, l, nl, nh, dn, rfl, _⟩ := h
    rfl
  · obtain ⟨p, d, xs, l, nl, nh, dn, rfl, hp, hx, hn, ok, l5, q⟩ := h
    refine ⟨_, (pss_cons (ps_set (i := 3) S.nd rfl (Or.inl rfl) (pe_lst pa_nil))
      (pss_cons (ps_for PassesOwn.never rfl (pi_list (pv 0)) (pg_name (i := 4) S.nd rfl (Or.inl rfl)) (pss_cons (ps_if ((pw_or (pt_cmpR op_notTyB (pe_callTy call_typeS (by rfl) T.m_type (by decide +kernel) (pa_cons (pv 4) pa_nil)) (pe_bltn (v := .ty "tuple") (by rfl) T.m_tuple (by decide +kernel) rfl) (nomark _)) (pw_or (pt_not (V6.pt_truthK (K := K) (pv 4) (by intro _; rfl))) (pw_or1 (pt_cmpR op_notTyB (pe_callTy call_typeS (by rfl) T.m_type (by decide +kernel) (pa_cons (pe_ix (ix_tupK (K := K)) (pv 4) pe_int (fun _ _ => rfl)) pa_nil)) (pe_bltn (v := .ty "str") (by rfl) T.m_str (by decide +kernel) rfl) (nomark _)))))).pt (pss_one (ps_ret pe_non)) pss_nil)
      (pss_cons (ps_set (i := 5) S.nd rfl (Or.inl rfl) (pe_ix (ix_tupK (K := K)) (pv 4) pe_int (fun _ _ => rfl)))
      (pss_cons (ps_set (i := 6) S.nd rfl (Or.inl rfl) (pe_callB call_len_seq (by rfl) T.m_len (by decide +kernel) (pa_cons (pv 4) pa_nil)))
      (pss_one (ps_if ((pw_and (pt_cmpR op_eq (pv 6) pe_int (nomark _)) (pw_and1 ((pw_or (pt_cmpR op_eq (pv 5) pe_str (nomark _)) (pw_or1 (pt_cmpR op_eq (pv 5) pe_str (nomark _))))).pt))).pt (pss_cons (ps_if ((pw_or (pt_cmpR op_notTyB (pe_callTy call_typeS (by rfl) T.m_type (by decide +kernel) (pa_cons (pe_ix (ix_tupK (K := K)) (pv 4) pe_int (fun _ _ => rfl)) pa_nil)) (pe_bltn (v := .ty "int") (by rfl) T.m_int (by decide +kernel) rfl) (nomark _)) (pw_or1 (pt_not (pt_chain op_le op_le (pe_glob (v := .int (-3)) (by rfl) T.c_FIRST_WAY ⟨_, rfl⟩) (pe_ix (ix_tupK (K := K)) (pv 4) pe_int (fun _ _ => rfl)) (pe_glob (v := .int (2)) (by rfl) T.c_LAST_KIND ⟨_, rfl⟩)))))).pt (pss_one (ps_ret pe_non)) pss_nil)
      (pss_one (ps_expr (pe_bm PySem.F.plainAttrs_list PySem.F.slot_list_append PySem.F.type_list_append mt_append (pv 3) (pa_cons (pe_ix (ix_tupK (K := K)) (pv 4) pe_int (fun _ _ => rfl)) pa_nil))))) (pss_one (ps_if ((pw_and (pt_cmpR op_eq (pv 6) pe_int (nomark _)) (pw_and1 ((pw_or (pt_cmpR op_eq (pv 5) pe_str (nomark _)) (pw_or (pt_cmpR op_eq (pv 5) pe_str (nomark _)) (pw_or1 ((pw_and (pt_cmpR op_eq (pv 5) pe_str (nomark _)) (pw_and1 (pt_val (pv 2))))).pt)))).pt))).pt (pss_cons (ps_expr (pe_bm PySem.F.plainAttrs_list PySem.F.slot_list_append PySem.F.type_list_append mt_append (pv 3) (pa_cons (pe_ix (ix_tupK (K := K)) (pv 4) pe_int (fun _ _ => rfl)) pa_nil)))
      (pss_one (ps_expr (pe_bm PySem.F.plainAttrs_list PySem.F.slot_list_append PySem.F.type_list_append mt_append (pv 3) (pa_cons (pe_ix (ix_tupK (K := K)) (pv 4) pe_int (fun _ _ => rfl)) pa_nil))))) (pss_one (ps_if ((pw_and (pt_cmpR op_eq (pv 6) pe_int (nomark _)) (pw_and (pt_cmpR op_eq (pv 5) pe_str (nomark _)) (pw_and1 (pt_val (pv 2)))))).pt (pss_one (ps_expr (pe_bm PySem.F.plainAttrs_list PySem.F.slot_list_append PySem.F.type_list_append mt_append (pv 3) (pa_cons (pe_ix (ix_tupK (K := K)) (pv 4) pe_int (fun _ _ => rfl)) pa_nil)))) (pss_one (ps_if ((pw_and (pt_cmpR op_eq (pv 6) pe_int (nomark _)) (pw_and1 (pt_cmp (pc_din (hu_of hr) (pv 5) (pv 1)))))).pt (pss_one (ps_if ((pw_or (pt_cmpR op_notTyB (pe_callTy call_typeS (by rfl) T.m_type (by decide +kernel) (pa_cons (pe_ix (ix_tupK (K := K)) (pv 4) pe_int (fun _ _ => rfl)) pa_nil)) (pe_bltn (v := .ty "int") (by rfl) T.m_int (by decide +kernel) rfl) (nomark _)) (pw_or1 (pt_not (pt_chain op_le op_lt pe_int (pe_ix (ix_tupK (K := K)) (pv 4) pe_int (fun _ _ => rfl)) (pe_dget (hu_of hr) (pv 1) (pv 5) (fun _ _ => rfl))))))).pt (pss_one (ps_ret pe_non)) pss_nil)) (pss_one (ps_if ((pw_or (pt_cmpR op_ne (pv 6) pe_int (nomark _)) (pw_or1 (pt_cmpR op_notIn_seq (pv 5) (pe_tup (pa_cons pe_str (pa_cons pe_str pa_nil))) (by rfl))))).pt (pss_one (ps_ret pe_non)) pss_nil))))))))))))))
      (pss_one (ps_ret (pv 3))))), ?_⟩
    have lx := dps_len hx
    rw [List.length_map] at lx
    refine ⟨Nat.zero_le _, fun D nD => ?_⟩
    have e1 := same_new (o := .lst []) nD
    have hD1 : upd H D (.lst []) D = some (.lst []) := upd_same
    show (gName 3 (V.ref D) _ (upd H D (.lst [])) _)
    generalize upd H D (.lst []) = H1 at e1 hD1
    refine ⟨.ref p, rfl, p, rfl, ⟨_, SqL.of (e1 _ _ hp)⟩, ?_⟩
    refine for_list (K := K) (a := p) (xs := xs) (fun j σ H' => ∃ y4 y5 y6 us, σ = [some (.ref p), some (.ref d), some (.bl dn), some (.ref D), y4, y5, y6] ∧ Same H H' ∧ H' D = some (.lst us) ∧ DpAll K H' us (((l.take j).flatMap Say.parts).map dSay))
      ⟨none, none, none, [], rfl, e1, hD1, .nil⟩ (fun j σ H' _ h => by obtain ⟨_, _, _, _, _, e, _⟩ := h; exact SqL.of (e _ _ hp)) (fun j x σ H2 hxj h => ?_) (fun σ H2 h => ?_)
    · obtain ⟨y4, y5, y6, us, rfl, e2, hD, hus⟩ := h
      obtain ⟨s, sj, sm, ds⟩ := get_say (dps_same e2 _ _ hx) hxj
      have oks := ok s sm
      have stp := parts_step sj
      have lu := dps_len hus
      rw [List.length_map] at lu
      have lt2 := parts_two (l.take j)
      have lt1 := List.length_take_le' j l
      have us_s : us.length + 1 < sizeLine := small (m := 20000) (by omega)
      rw [stp]
      clear stp
      cases s with
      | ea i t =>
        obtain ⟨a, z, rfl, hs, dz⟩ := say_ea ds
        refine ⟨.ref a, rfl, .ref a, "tuple", rfl, .tup hs, "tuple", "tuple", rfl, rfl, _, rfl, ?_⟩
        rw [notT]
        refine iteF ⟨.ref a, rfl, true, .inr (.inl ⟨_, hs, rfl⟩), ?_⟩
        refine iteF ⟨.ref a, rfl, a, _, 0, .str "each", rfl, rfl, hs, atI_nat (j := 0) rfl, .str "each", "str", rfl, .str _, "str", "str", rfl, rfl, _, rfl, ?_⟩
        rw [notS]
        refine iteF ?_
        refine ⟨.ref a, rfl, a, _, 0, .str "each", rfl, rfl, hs, atI_nat (j := 0) rfl, ?_⟩
        refine ⟨.ref a, rfl, a, _, rfl, .inr hs, ?_⟩
        refine ⟨.int 3, rfl, rfl, _, rfl, ?_⟩
        rw [dec_vint', decide_eq_true (by decide)]
        refine iteT ⟨.str "each", rfl, rfl, _, rfl, ?_⟩
        rw [dec_vstr, decide_eq_true (by decide)]
        refine iteT ⟨.ref a, rfl, a, _, 1, .int i, rfl, rfl, hs, atI_nat (j := 1) rfl, .int i, "int", rfl, .int _, "int", "int", rfl, rfl, _, rfl, ?_⟩
        rw [notI]
        refine iteF ⟨.ref a, rfl, a, _, 1, .int i, rfl, rfl, hs, atI_nat (j := 1) rfl, -3, i, rfl, rfl, _, rfl, ?_⟩
        rw [decide_eq_true oks.1]
        refine iteT ⟨i, 2, rfl, rfl, _, rfl, ?_⟩
        rw [decide_eq_true oks.2]
        refine iteF ?_
        refine ⟨.ref D, rfl, .inl ⟨rfl, _, SqL.of hD⟩, .ref a, rfl, a, _, 2, z, rfl, rfl, hs, atI_nat (j := 2) rfl, D, _, _, rfl, rfl, hD, small (m := 20000) (by omega), ?_⟩
        exact ⟨_, _, _, us ++ [z], rfl, same_upd_new e2 nD, upd_same, dps_snoc hD hus dz⟩
      | so i t =>
        obtain ⟨a, z, rfl, hs, dz⟩ := say_so ds
        refine ⟨.ref a, rfl, .ref a, "tuple", rfl, .tup hs, "tuple", "tuple", rfl, rfl, _, rfl, ?_⟩
        rw [notT]
        refine iteF ⟨.ref a, rfl, true, .inr (.inl ⟨_, hs, rfl⟩), ?_⟩
        refine iteF ⟨.ref a, rfl, a, _, 0, .str "some", rfl, rfl, hs, atI_nat (j := 0) rfl, .str "some", "str", rfl, .str _, "str", "str", rfl, rfl, _, rfl, ?_⟩
        rw [notS]
        refine iteF ?_
        refine ⟨.ref a, rfl, a, _, 0, .str "some", rfl, rfl, hs, atI_nat (j := 0) rfl, ?_⟩
        refine ⟨.ref a, rfl, a, _, rfl, .inr hs, ?_⟩
        refine ⟨.int 3, rfl, rfl, _, rfl, ?_⟩
        rw [dec_vint', decide_eq_true (by decide)]
        refine iteT ⟨.str "some", rfl, rfl, _, rfl, ?_⟩
        rw [dec_vstr, decide_eq_false (by decide)]
        refine iteF ⟨.str "some", rfl, rfl, _, rfl, ?_⟩
        rw [dec_vstr, decide_eq_true (by decide)]
        refine iteT ⟨.ref a, rfl, a, _, 1, .int i, rfl, rfl, hs, atI_nat (j := 1) rfl, .int i, "int", rfl, .int _, "int", "int", rfl, rfl, _, rfl, ?_⟩
        rw [notI]
        refine iteF ⟨.ref a, rfl, a, _, 1, .int i, rfl, rfl, hs, atI_nat (j := 1) rfl, -3, i, rfl, rfl, _, rfl, ?_⟩
        rw [decide_eq_true oks.1]
        refine iteT ⟨i, 2, rfl, rfl, _, rfl, ?_⟩
        rw [decide_eq_true oks.2]
        refine iteF ?_
        refine ⟨.ref D, rfl, .inl ⟨rfl, _, SqL.of hD⟩, .ref a, rfl, a, _, 2, z, rfl, rfl, hs, atI_nat (j := 2) rfl, D, _, _, rfl, rfl, hD, small (m := 20000) (by omega), ?_⟩
        exact ⟨_, _, _, us ++ [z], rfl, same_upd_new e2 nD, upd_same, dps_snoc hD hus dz⟩
      | an t u =>
        obtain ⟨a, z1, z2, rfl, hs, dz1, dz2⟩ := say_an ds
        refine ⟨.ref a, rfl, .ref a, "tuple", rfl, .tup hs, "tuple", "tuple", rfl, rfl, _, rfl, ?_⟩
        rw [notT]
        refine iteF ⟨.ref a, rfl, true, .inr (.inl ⟨_, hs, rfl⟩), ?_⟩
        refine iteF ⟨.ref a, rfl, a, _, 0, .str "and", rfl, rfl, hs, atI_nat (j := 0) rfl, .str "and", "str", rfl, .str _, "str", "str", rfl, rfl, _, rfl, ?_⟩
        rw [notS]
        refine iteF ?_
        refine ⟨.ref a, rfl, a, _, 0, .str "and", rfl, rfl, hs, atI_nat (j := 0) rfl, ?_⟩
        refine ⟨.ref a, rfl, a, _, rfl, .inr hs, ?_⟩
        refine ⟨.int 3, rfl, rfl, _, rfl, ?_⟩
        rw [dec_vint', decide_eq_true (by decide)]
        refine iteT ⟨.str "and", rfl, rfl, _, rfl, ?_⟩
        rw [dec_vstr, decide_eq_false (by decide)]
        refine iteF ⟨.str "and", rfl, rfl, _, rfl, ?_⟩
        rw [dec_vstr, decide_eq_false (by decide)]
        refine iteF ⟨.int 3, rfl, rfl, _, rfl, ?_⟩
        rw [dec_vint', decide_eq_true (by decide)]
        refine iteT ⟨.str "and", rfl, rfl, _, rfl, ?_⟩
        rw [dec_vstr, decide_eq_true (by decide)]
        refine iteT ?_
        refine ⟨.ref D, rfl, .inl ⟨rfl, _, SqL.of hD⟩, .ref a, rfl, a, _, 1, z1, rfl, rfl, hs, atI_nat (j := 1) rfl, D, _, _, rfl, rfl, hD, small (m := 20000) (by omega), ?_⟩
        have hs2 := sqT_upd (o := .lst (us ++ [z1])) hD hs
        refine ⟨.ref D, rfl, .inl ⟨rfl, _, SqL.of upd_same⟩, .ref a, rfl, a, _, 2, z2, rfl, rfl, hs2, atI_nat (j := 2) rfl, D, _, _, rfl, rfl, upd_same, small (m := 20000) (by rw [List.length_append]; show us.length + 1 ≤ 20000; omega), ?_⟩
        have d1 := dps_snoc hD hus dz1
        have d2 := dp_put (o := .lst (us ++ [z1])) hD _ _ (noL_say u) dz2
        refine ⟨_, _, _, us ++ [z1] ++ [z2], rfl, same_upd_new (same_upd_new e2 nD) nD, upd_same, ?_⟩
        have d3 := dps_app (dps_put (o := .lst (us ++ [z1] ++ [z2])) upd_same _ _ (noLs_app (noLs_says _) (noLs_says [t])) d1) (DpAll.cons (dp_put (o := .lst (us ++ [z1] ++ [z2])) upd_same _ _ (noL_say u) d2) .nil)
        rw [show ((Say.an t u).parts.map dSay) = [dSay t] ++ [dSay u] from rfl, ← List.append_assoc]
        exact d3
      | orr t u =>
        obtain ⟨a, z1, z2, rfl, hs, dz1, dz2⟩ := say_orr ds
        refine ⟨.ref a, rfl, .ref a, "tuple", rfl, .tup hs, "tuple", "tuple", rfl, rfl, _, rfl, ?_⟩
        rw [notT]
        refine iteF ⟨.ref a, rfl, true, .inr (.inl ⟨_, hs, rfl⟩), ?_⟩
        refine iteF ⟨.ref a, rfl, a, _, 0, .str "or", rfl, rfl, hs, atI_nat (j := 0) rfl, .str "or", "str", rfl, .str _, "str", "str", rfl, rfl, _, rfl, ?_⟩
        rw [notS]
        refine iteF ?_
        refine ⟨.ref a, rfl, a, _, 0, .str "or", rfl, rfl, hs, atI_nat (j := 0) rfl, ?_⟩
        refine ⟨.ref a, rfl, a, _, rfl, .inr hs, ?_⟩
        refine ⟨.int 3, rfl, rfl, _, rfl, ?_⟩
        rw [dec_vint', decide_eq_true (by decide)]
        refine iteT ⟨.str "or", rfl, rfl, _, rfl, ?_⟩
        rw [dec_vstr, decide_eq_false (by decide)]
        refine iteF ⟨.str "or", rfl, rfl, _, rfl, ?_⟩
        rw [dec_vstr, decide_eq_false (by decide)]
        refine iteF ⟨.int 3, rfl, rfl, _, rfl, ?_⟩
        rw [dec_vint', decide_eq_true (by decide)]
        refine iteT ⟨.str "or", rfl, rfl, _, rfl, ?_⟩
        rw [dec_vstr, decide_eq_false (by decide)]
        refine iteF ⟨.str "or", rfl, rfl, _, rfl, ?_⟩
        rw [dec_vstr, decide_eq_true (by decide)]
        refine iteT ?_
        refine ⟨.ref D, rfl, .inl ⟨rfl, _, SqL.of hD⟩, .ref a, rfl, a, _, 1, z1, rfl, rfl, hs, atI_nat (j := 1) rfl, D, _, _, rfl, rfl, hD, small (m := 20000) (by omega), ?_⟩
        have hs2 := sqT_upd (o := .lst (us ++ [z1])) hD hs
        refine ⟨.ref D, rfl, .inl ⟨rfl, _, SqL.of upd_same⟩, .ref a, rfl, a, _, 2, z2, rfl, rfl, hs2, atI_nat (j := 2) rfl, D, _, _, rfl, rfl, upd_same, small (m := 20000) (by rw [List.length_append]; show us.length + 1 ≤ 20000; omega), ?_⟩
        have d1 := dps_snoc hD hus dz1
        have d2 := dp_put (o := .lst (us ++ [z1])) hD _ _ (noL_say u) dz2
        refine ⟨_, _, _, us ++ [z1] ++ [z2], rfl, same_upd_new (same_upd_new e2 nD) nD, upd_same, ?_⟩
        have d3 := dps_app (dps_put (o := .lst (us ++ [z1] ++ [z2])) upd_same _ _ (noLs_app (noLs_says _) (noLs_says [t])) d1) (DpAll.cons (dp_put (o := .lst (us ++ [z1] ++ [z2])) upd_same _ _ (noL_say u) d2) .nil)
        rw [show ((Say.orr t u).parts.map dSay) = [dSay t] ++ [dSay u] from rfl, ← List.append_assoc]
        exact d3
      | gv t u =>
        obtain ⟨a, z1, z2, rfl, hs, dz1, dz2⟩ := say_gv ds
        refine ⟨.ref a, rfl, .ref a, "tuple", rfl, .tup hs, "tuple", "tuple", rfl, rfl, _, rfl, ?_⟩
        rw [notT]
        refine iteF ⟨.ref a, rfl, true, .inr (.inl ⟨_, hs, rfl⟩), ?_⟩
        refine iteF ⟨.ref a, rfl, a, _, 0, .str "gives", rfl, rfl, hs, atI_nat (j := 0) rfl, .str "gives", "str", rfl, .str _, "str", "str", rfl, rfl, _, rfl, ?_⟩
        rw [notS]
        refine iteF ?_
        refine ⟨.ref a, rfl, a, _, 0, .str "gives", rfl, rfl, hs, atI_nat (j := 0) rfl, ?_⟩
        refine ⟨.ref a, rfl, a, _, rfl, .inr hs, ?_⟩
        refine ⟨.int 3, rfl, rfl, _, rfl, ?_⟩
        rw [dec_vint', decide_eq_true (by decide)]
        refine iteT ⟨.str "gives", rfl, rfl, _, rfl, ?_⟩
        rw [dec_vstr, decide_eq_false (by decide)]
        refine iteF ⟨.str "gives", rfl, rfl, _, rfl, ?_⟩
        rw [dec_vstr, decide_eq_false (by decide)]
        refine iteF ⟨.int 3, rfl, rfl, _, rfl, ?_⟩
        rw [dec_vint', decide_eq_true (by decide)]
        refine iteT ⟨.str "gives", rfl, rfl, _, rfl, ?_⟩
        rw [dec_vstr, decide_eq_false (by decide)]
        refine iteF ⟨.str "gives", rfl, rfl, _, rfl, ?_⟩
        rw [dec_vstr, decide_eq_false (by decide)]
        refine iteF ⟨.str "gives", rfl, rfl, _, rfl, ?_⟩
        rw [dec_vstr, decide_eq_true (by decide)]
        refine iteT ⟨.bl dn, rfl, dn, rfl, ?_⟩
        rw [show dn = true from oks]
        refine iteT ?_
        refine ⟨.ref D, rfl, .inl ⟨rfl, _, SqL.of hD⟩, .ref a, rfl, a, _, 1, z1, rfl, rfl, hs, atI_nat (j := 1) rfl, D, _, _, rfl, rfl, hD, small (m := 20000) (by omega), ?_⟩
        have hs2 := sqT_upd (o := .lst (us ++ [z1])) hD hs
        refine ⟨.ref D, rfl, .inl ⟨rfl, _, SqL.of upd_same⟩, .ref a, rfl, a, _, 2, z2, rfl, rfl, hs2, atI_nat (j := 2) rfl, D, _, _, rfl, rfl, upd_same, small (m := 20000) (by rw [List.length_append]; show us.length + 1 ≤ 20000; omega), ?_⟩
        have d1 := dps_snoc hD hus dz1
        have d2 := dp_put (o := .lst (us ++ [z1])) hD _ _ (noL_say u) dz2
        refine ⟨_, _, _, us ++ [z1] ++ [z2], rfl, same_upd_new (same_upd_new e2 nD) nD, upd_same, ?_⟩
        have d3 := dps_app (dps_put (o := .lst (us ++ [z1] ++ [z2])) upd_same _ _ (noLs_app (noLs_says _) (noLs_says [t])) d1) (DpAll.cons (dp_put (o := .lst (us ++ [z1] ++ [z2])) upd_same _ _ (noL_say u) d2) .nil)
        rw [show ((Say.gv t u).parts.map dSay) = [dSay t] ++ [dSay u] from rfl, ← List.append_assoc]
        exact d3
      | nt t =>
        obtain ⟨a, z, rfl, hs, dz⟩ := say_nt ds
        refine ⟨.ref a, rfl, .ref a, "tuple", rfl, .tup hs, "tuple", "tuple", rfl, rfl, _, rfl, ?_⟩
        rw [notT]
        refine iteF ⟨.ref a, rfl, true, .inr (.inl ⟨_, hs, rfl⟩), ?_⟩
        refine iteF ⟨.ref a, rfl, a, _, 0, .str "not", rfl, rfl, hs, atI_nat (j := 0) rfl, .str "not", "str", rfl, .str _, "str", "str", rfl, rfl, _, rfl, ?_⟩
        rw [notS]
        refine iteF ?_
        refine ⟨.ref a, rfl, a, _, 0, .str "not", rfl, rfl, hs, atI_nat (j := 0) rfl, ?_⟩
        refine ⟨.ref a, rfl, a, _, rfl, .inr hs, ?_⟩
        refine ⟨.int 2, rfl, rfl, _, rfl, ?_⟩
        rw [dec_vint', decide_eq_false (by decide)]
        refine iteF ⟨.int 2, rfl, rfl, _, rfl, ?_⟩
        rw [dec_vint', decide_eq_false (by decide)]
        refine iteF ⟨.int 2, rfl, rfl, _, rfl, ?_⟩
        rw [dec_vint', decide_eq_true (by decide)]
        refine iteT ⟨.str "not", rfl, rfl, _, rfl, ?_⟩
        rw [dec_vstr, decide_eq_true (by decide)]
        refine iteT ⟨.bl dn, rfl, dn, rfl, ?_⟩
        rw [show dn = true from oks]
        refine iteT ?_
        refine ⟨.ref D, rfl, .inl ⟨rfl, _, SqL.of hD⟩, .ref a, rfl, a, _, 1, z, rfl, rfl, hs, atI_nat (j := 1) rfl, D, _, _, rfl, rfl, hD, small (m := 20000) (by omega), ?_⟩
        exact ⟨_, _, _, us ++ [z], rfl, same_upd_new e2 nD, upd_same, dps_snoc hD hus dz⟩
      | lt i =>
        obtain ⟨a, rfl, hs⟩ := say_lt ds
        have hn2 : Nums H2 d nl nh := e2 _ _ hn
        refine ⟨.ref a, rfl, .ref a, "tuple", rfl, .tup hs, "tuple", "tuple", rfl, rfl, _, rfl, ?_⟩
        rw [notT]
        refine iteF ⟨.ref a, rfl, true, .inr (.inl ⟨_, hs, rfl⟩), ?_⟩
        refine iteF ⟨.ref a, rfl, a, _, 0, .str "letter", rfl, rfl, hs, atI_nat (j := 0) rfl, .str "letter", "str", rfl, .str _, "str", "str", rfl, rfl, _, rfl, ?_⟩
        rw [notS]
        refine iteF ?_
        refine ⟨.ref a, rfl, a, _, 0, .str "letter", rfl, rfl, hs, atI_nat (j := 0) rfl, ?_⟩
        refine ⟨.ref a, rfl, a, _, rfl, .inr hs, ?_⟩
        refine ⟨.int 2, rfl, rfl, _, rfl, ?_⟩
        rw [dec_vint', decide_eq_false (by decide)]
        refine iteF ⟨.int 2, rfl, rfl, _, rfl, ?_⟩
        rw [dec_vint', decide_eq_false (by decide)]
        refine iteF ⟨.int 2, rfl, rfl, _, rfl, ?_⟩
        rw [dec_vint', decide_eq_true (by decide)]
        refine iteT ⟨.str "letter", rfl, rfl, _, rfl, ?_⟩
        rw [dec_vstr, decide_eq_false (by decide)]
        refine iteF ⟨.int 2, rfl, rfl, _, rfl, ?_⟩
        rw [dec_vint', decide_eq_true (by decide)]
        have hg : DGet H2 d (.str "letter") (some (.int (nl : Int))) := by
          have h := DGet.k (k := Sum.inr "letter") hn2
          rwa [nums_letter] at h
        refine iteT ⟨.str "letter", rfl, .ref d, rfl, d, _, rfl, hg, _, rfl, ?_⟩
        refine iteT ⟨.ref a, rfl, a, _, 1, .int (i : Int), rfl, rfl, hs, atI_nat (j := 1) rfl, .int (i : Int), "int", rfl, .int _, "int", "int", rfl, rfl, _, rfl, ?_⟩
        rw [notI]
        refine iteF ⟨.ref a, rfl, a, _, 1, .int (i : Int), rfl, rfl, hs, atI_nat (j := 1) rfl, 0, i, rfl, rfl, _, rfl, ?_⟩
        rw [decide_eq_true (Int.natCast_nonneg i)]
        refine iteT ⟨.ref d, rfl, .str "letter", rfl, d, _, rfl, hg, i, nl, rfl, rfl, _, rfl, ?_⟩
        rw [decide_eq_true (show (i : Int) < nl from by have : i < nl := oks; omega)]
        refine iteF ?_
        refine ⟨_, _, _, us, rfl, e2, hD, ?_⟩
        rw [show ((Say.lt i).parts.map dSay) = [] from rfl, List.append_nil]
        exact hus
      | hr i =>
        obtain ⟨a, rfl, hs⟩ := say_hr ds
        have hn2 : Nums H2 d nl nh := e2 _ _ hn
        refine ⟨.ref a, rfl, .ref a, "tuple", rfl, .tup hs, "tuple", "tuple", rfl, rfl, _, rfl, ?_⟩
        rw [notT]
        refine iteF ⟨.ref a, rfl, true, .inr (.inl ⟨_, hs, rfl⟩), ?_⟩
        refine iteF ⟨.ref a, rfl, a, _, 0, .str "here", rfl, rfl, hs, atI_nat (j := 0) rfl, .str "here", "str", rfl, .str _, "str", "str", rfl, rfl, _, rfl, ?_⟩
        rw [notS]
        refine iteF ?_
        refine ⟨.ref a, rfl, a, _, 0, .str "here", rfl, rfl, hs, atI_nat (j := 0) rfl, ?_⟩
        refine ⟨.ref a, rfl, a, _, rfl, .inr hs, ?_⟩
        refine ⟨.int 2, rfl, rfl, _, rfl, ?_⟩
        rw [dec_vint', decide_eq_false (by decide)]
        refine iteF ⟨.int 2, rfl, rfl, _, rfl, ?_⟩
        rw [dec_vint', decide_eq_false (by decide)]
        refine iteF ⟨.int 2, rfl, rfl, _, rfl, ?_⟩
        rw [dec_vint', decide_eq_true (by decide)]
        refine iteT ⟨.str "here", rfl, rfl, _, rfl, ?_⟩
        rw [dec_vstr, decide_eq_false (by decide)]
        refine iteF ⟨.int 2, rfl, rfl, _, rfl, ?_⟩
        rw [dec_vint', decide_eq_true (by decide)]
        have hg : DGet H2 d (.str "here") (some (.int (nh : Int))) := by
          have h := DGet.k (k := Sum.inr "here") hn2
          rwa [nums_here] at h
        refine iteT ⟨.str "here", rfl, .ref d, rfl, d, _, rfl, hg, _, rfl, ?_⟩
        refine iteT ⟨.ref a, rfl, a, _, 1, .int (i : Int), rfl, rfl, hs, atI_nat (j := 1) rfl, .int (i : Int), "int", rfl, .int _, "int", "int", rfl, rfl, _, rfl, ?_⟩
        rw [notI]
        refine iteF ⟨.ref a, rfl, a, _, 1, .int (i : Int), rfl, rfl, hs, atI_nat (j := 1) rfl, 0, i, rfl, rfl, _, rfl, ?_⟩
        rw [decide_eq_true (Int.natCast_nonneg i)]
        refine iteT ⟨.ref d, rfl, .str "here", rfl, d, _, rfl, hg, i, nh, rfl, rfl, _, rfl, ?_⟩
        rw [decide_eq_true (show (i : Int) < nh from by have : i < nh := oks; omega)]
        refine iteF ?_
        refine ⟨_, _, _, us, rfl, e2, hD, ?_⟩
        rw [show ((Say.hr i).parts.map dSay) = [] from rfl, List.append_nil]
        exact hus
      | yes =>
        obtain ⟨a, rfl, hs⟩ := say_yes ds
        refine ⟨.ref a, rfl, .ref a, "tuple", rfl, .tup hs, "tuple", "tuple", rfl, rfl, _, rfl, ?_⟩
        rw [notT]
        refine iteF ⟨.ref a, rfl, true, .inr (.inl ⟨_, hs, rfl⟩), ?_⟩
        refine iteF ⟨.ref a, rfl, a, _, 0, .str "yes", rfl, rfl, hs, atI_nat (j := 0) rfl, .str "yes", "str", rfl, .str _, "str", "str", rfl, rfl, _, rfl, ?_⟩
        rw [notS]
        refine iteF ?_
        refine ⟨.ref a, rfl, a, _, 0, .str "yes", rfl, rfl, hs, atI_nat (j := 0) rfl, ?_⟩
        refine ⟨.ref a, rfl, a, _, rfl, .inr hs, ?_⟩
        refine ⟨.int 1, rfl, rfl, _, rfl, ?_⟩
        rw [dec_vint', decide_eq_false (by decide)]
        refine iteF ⟨.int 1, rfl, rfl, _, rfl, ?_⟩
        rw [dec_vint', decide_eq_false (by decide)]
        refine iteF ⟨.int 1, rfl, rfl, _, rfl, ?_⟩
        rw [dec_vint', decide_eq_false (by decide)]
        refine iteF ⟨.int 1, rfl, rfl, _, rfl, ?_⟩
        rw [dec_vint', decide_eq_false (by decide)]
        refine iteF ⟨.int 1, rfl, rfl, _, rfl, ?_⟩
        rw [show (!decide (V.int 1 = V.int 1)) = false from by rw [decide_eq_true rfl]; rfl]
        refine iteF ⟨.str "yes", rfl, by show 2 ≤ sizeLine; decide, fun g ng => ⟨g, _, rfl, .inr (SqT.of upd_same), rfl, rfl, _, rfl, ?_⟩⟩
        rw [show (!L2.inV (.str "yes") [.str "yes", .str "no"]) = false by decide]
        refine iteF ?_
        refine ⟨_, _, _, us, rfl, e2.trans (same_new ng), same_new ng _ _ hD, ?_⟩
        rw [show (Say.yes.parts.map dSay) = [] from rfl, List.append_nil]
        exact dps_same (same_new ng) _ _ hus
      | no =>
        obtain ⟨a, rfl, hs⟩ := say_no ds
        refine ⟨.ref a, rfl, .ref a, "tuple", rfl, .tup hs, "tuple", "tuple", rfl, rfl, _, rfl, ?_⟩
        rw [notT]
        refine iteF ⟨.ref a, rfl, true, .inr (.inl ⟨_, hs, rfl⟩), ?_⟩
        refine iteF ⟨.ref a, rfl, a, _, 0, .str "no", rfl, rfl, hs, atI_nat (j := 0) rfl, .str "no", "str", rfl, .str _, "str", "str", rfl, rfl, _, rfl, ?_⟩
        rw [notS]
        refine iteF ?_
        refine ⟨.ref a, rfl, a, _, 0, .str "no", rfl, rfl, hs, atI_nat (j := 0) rfl, ?_⟩
        refine ⟨.ref a, rfl, a, _, rfl, .inr hs, ?_⟩
        refine ⟨.int 1, rfl, rfl, _, rfl, ?_⟩
        rw [dec_vint', decide_eq_false (by decide)]
        refine iteF ⟨.int 1, rfl, rfl, _, rfl, ?_⟩
        rw [dec_vint', decide_eq_false (by decide)]
        refine iteF ⟨.int 1, rfl, rfl, _, rfl, ?_⟩
        rw [dec_vint', decide_eq_false (by decide)]
        refine iteF ⟨.int 1, rfl, rfl, _, rfl, ?_⟩
        rw [dec_vint', decide_eq_false (by decide)]
        refine iteF ⟨.int 1, rfl, rfl, _, rfl, ?_⟩
        rw [show (!decide (V.int 1 = V.int 1)) = false from by rw [decide_eq_true rfl]; rfl]
        refine iteF ⟨.str "no", rfl, by show 2 ≤ sizeLine; decide, fun g ng => ⟨g, _, rfl, .inr (SqT.of upd_same), rfl, rfl, _, rfl, ?_⟩⟩
        rw [show (!L2.inV (.str "no") [.str "yes", .str "no"]) = false by decide]
        refine iteF ?_
        refine ⟨_, _, _, us, rfl, e2.trans (same_new ng), same_new ng _ _ hD, ?_⟩
        rw [show (Say.no.parts.map dSay) = [] from rfl, List.append_nil]
        exact dps_same (same_new ng) _ _ hus
    · obtain ⟨y4, y5, y6, us, rfl, e2, hD, hus⟩ := h
      rw [lx, List.take_length] at hus
      exact ⟨.ref D, rfl, q H2 D us e2 nD hD hus⟩
end
end K0

namespace K0
open PySem PySem.Spec PyProof.Rows L2 W0 W1 W2 W5 W6 V0
/-- lists of sayings at these addresses -/
def LvAt (K : PySem.W.Frag) (H : Hp) (ps : List Addr) (ls : List (List Say)) : Prop := ps.length = ls.length ∧ ∀ (i : Nat) p l, ps[i]? = some p → ls[i]? = some l → ∃ xs, H p = some (.lst xs) ∧ DpAll K H xs (l.map dSay)
theorem LvAt.same {K : PySem.W.Frag} {H H' : Hp} {ps : List Addr} {ls : List (List Say)} (h : LvAt K H ps ls) (e : Same H H') : LvAt K H' ps ls := ⟨h.1, fun i p l hp hl => by
  obtain ⟨xs, h1, h2⟩ := h.2 i p l hp hl
  exact ⟨xs, e _ _ h1, dps_same e _ _ h2⟩⟩
theorem LvAt.put {K : PySem.W.Frag} {H : Hp} {ps : List Addr} {ls : List (List Say)} {D : Addr} {us : List V} {o : HO} (h : LvAt K H ps ls) (hD : H D = some (.lst us)) (n : ∀ p ∈ ps, p ≠ D) : LvAt K (upd H D o) ps ls := ⟨h.1, fun i p l hp hl => by
  obtain ⟨xs, h1, h2⟩ := h.2 i p l hp hl
  exact ⟨xs, (upd_ne (n p (List.mem_of_getElem? hp))).trans h1, dps_mv (fun b zs hb => sqT_upd hD hb) _ _ (noLs_says _) h2⟩⟩
theorem LvAt.snoc {K : PySem.W.Frag} {H : Hp} {ps : List Addr} {ls : List (List Say)} {p : Addr} {l : List Say} {xs : List V} (h : LvAt K H ps ls) (hp : H p = some (.lst xs)) (hx : DpAll K H xs (l.map dSay)) : LvAt K H (ps ++ [p]) (ls ++ [l]) := by
  refine ⟨by rw [List.length_append, List.length_append, h.1]; rfl, fun i q m hq hm => ?_⟩
  by_cases c : i < ps.length
  · rw [List.getElem?_append_left c] at hq
    rw [List.getElem?_append_left (by rw [← h.1]; exact c)] at hm
    exact h.2 i q m hq hm
  · rw [List.getElem?_append_right (by omega)] at hq
    rw [List.getElem?_append_right (by rw [← h.1]; omega)] at hm
    have i0 : i - ps.length = 0 := by
      have := (List.getElem?_eq_some_iff.mp hq).1
      rw [List.length_singleton] at this
      omega
    rw [i0] at hq
    rw [← h.1, i0] at hm
    cases hq
    cases hm
    exact ⟨xs, hp, hx⟩
theorem lvls_sum {s : Say} {d : List (List Say)} {l : List Say} (h : d ++ Say.lvls (Say.maxd l) l = Say.lvls s.deep [s]) : l.length ≤ s.words.length := by
  by_cases e : l = []
  · rw [e]
    exact Nat.zero_le _
  · have p := (Say.bfs_perm s).length_eq
    unfold Say.bfs at p
    rw [← h, Say.maxd_parts e] at p
    have q : Say.lvls (Say.maxd (l.flatMap Say.parts) + 1) l = l :: Say.lvls (Say.maxd (l.flatMap Say.parts)) (l.flatMap Say.parts) := if_neg e
    rw [q, List.flatten_append, List.flatten_cons, List.length_append, List.length_append] at p
    omega
theorem lvls_next {s : Say} {d : List (List Say)} {l : List Say} (e : l ≠ []) (h : d ++ Say.lvls (Say.maxd l) l = Say.lvls s.deep [s]) : (d ++ [l]) ++ Say.lvls (Say.maxd (l.flatMap Say.parts)) (l.flatMap Say.parts) = Say.lvls s.deep [s] := by
  rw [← h, Say.maxd_parts e]
  have q : Say.lvls (Say.maxd (l.flatMap Say.parts) + 1) l = l :: Say.lvls (Say.maxd (l.flatMap Say.parts)) (l.flatMap Say.parts) := if_neg e
  rw [q, List.append_assoc]
  rfl
theorem lvls_deep {s : Say} {d : List (List Say)} {l : List Say} (h : d ++ Say.lvls (Say.maxd l) l = Say.lvls s.deep [s]) : d.length + Say.maxd l = s.deep := by
  have := congrArg List.length h
  rw [List.length_append, Say.lvls_len _ (Nat.le_refl _), Say.lvls_len _ (by rw [Say.maxd_one]; exact Nat.le_refl _), Say.maxd_one] at this
  exact this
section
variable {P : Program} {w : World} {K : PySem.W.Frag} {mg : Str → Option Value} {base : Heap}
def sp_levels_of (K : PySem.W.Frag) : Sp := fun vs H Q _ => ∃ (v : V) (s : Say), vs = [v] ∧ Dp K H v (dSay s) ∧ s.deep ≤ 200 ∧ s.words.length ≤ 5000 ∧ ∀ H' g ps, Same H H' → H g = none → H' g = some (.lst (ps.map V.ref)) → LvAt K H' ps (Say.lvls s.deep [s]) → Q (.ref g) H'
set_option maxHeartbeats 1000000 in
theorem ok_levels_of (T : Tops K w mg) : FnOk P w K mg base CX0 1 T.a_levels_of T.fd_levels_of p_levels_of (sp_levels_of K) := by
  have S := sc_levels_of
  refine T.F_levels_of.ok S (fun vs H Q E h => ?_) (fun cdv A outer s0 H vs Q E hr h => ?_)
  · obtain ⟨v, s, rfl, _⟩ := h
    rfl
  · obtain ⟨v, s, rfl, hd, dp, hw, q⟩ := h
    refine ⟨_, (pss_cons (ps_set (i := 1) S.nd rfl (Or.inl rfl) (pe_lst pa_nil))
      (pss_cons (ps_set (i := 2) S.nd rfl (Or.inl rfl) (pe_lst (pa_cons (pv 0) pa_nil)))
      (pss_cons (ps_while PassesOwn.never (pt_truth (pv 2) (by intro _; rfl)) (pss_cons (ps_expr (pe_bm PySem.F.plainAttrs_list PySem.F.slot_list_append PySem.F.type_list_append mt_append (pv 1) (pa_cons (pv 2) pa_nil)))
      (pss_one (ps_setLc2 (i := 2) (own := [("word", 3), ("part", 4)]) (vs1 := [4]) rfl S.nd rfl rfl (sw_true rfl rfl rfl (by decide +kernel)) (pi_list (pv 2)) (blkOk_by (N := n_levels_of) (sc := defScope s_levels_of) (by decide +kernel)) (by decide) (fun _ _ _ _ _ => (pg_name (i := 3) S.nd rfl (Or.inl rfl))) (fun _ _ _ _ _ => pts_nil) (fun _ _ _ _ _ => (V2.pi_tupK (K := K) (pv 3))) (fun _ _ _ _ _ => (pg_name (i := 4) S.nd rfl (Or.inl rfl))) (fun _ _ _ _ _ => (pts_one (pt_cmpR op_isTyB (pe_callTy (V11.call_typeSK (K := K)) (by rfl) T.m_type (by decide +kernel) (pa_cons (pv 4) pa_nil)) (pe_bltn (v := .ty "tuple") (by rfl) T.m_tuple (by decide +kernel) rfl) (nomark _)))) (fun _ _ _ _ _ => (pv 4))))))
      (pss_one (ps_ret (pv 1)))))), ?_⟩
    refine ⟨Nat.zero_le _, fun L nL => ⟨v, rfl, by show 1 ≤ sizeLine; decide, fun G nG => ?_⟩⟩
    have e1 := same_new (o := .lst []) nL
    have nGH : H G = none := e1.free nG
    have e2 := e1.trans (same_new (o := .lst [v]) nG)
    have LG : G ≠ L := fun z => by rw [z, upd_same] at nG; cases nG
    refine ⟨fun z σ H' => ∃ (g : Addr) (ps : List Addr) (d : List (List Say)) (l : List Say) (xs : List V) (y3 y4 : Option V), z = Say.maxd l ∧ σ = [some v, some (.ref L), some (.ref g), y3, y4] ∧ Same H H' ∧ H' L = some (.lst (ps.map V.ref)) ∧ LvAt K H' ps d ∧ (∀ p ∈ ps, p ≠ L) ∧ g ≠ L ∧ H' g = some (.lst xs) ∧ DpAll K H' xs (l.map dSay) ∧ d ++ Say.lvls (Say.maxd l) l = Say.lvls s.deep [s],
      ⟨_, G, [], [], [s], [v], none, none, rfl, rfl, e2, ?_, ⟨rfl, fun i p l h => by cases h⟩, fun p h => (List.not_mem_nil h).elim, LG, upd_same, .cons (dp_same e2 _ _ hd) .nil, ?_⟩, ?_⟩
    · rw [upd_ne (Ne.symm LG), upd_same]
      rfl
    · rw [Say.maxd_one]
      rfl
    · rintro z σ H2 ⟨g, ps, d, l, xs, y3, y4, rfl, rfl, e3, hL, lv, npL, gL, hg, hx, eq⟩
      have lx := dps_len hx
      rw [List.length_map] at lx
      have sml := lvls_sum eq
      refine ⟨.ref g, rfl, _, .inl ⟨_, SqL.of hg, rfl⟩, ?_⟩
      by_cases en : l = []
      · subst en
        have xs0 : xs = [] := List.length_eq_zero_iff.mp lx
        subst xs0
        have eq' : d ++ [] = Say.lvls s.deep [s] := eq
        rw [List.append_nil] at eq'
        rw [← eq'] at q
        exact ⟨.ref L, rfl, q H2 L ps e3 nL hL lv⟩
      · have hk : (!xs.isEmpty) = true := by
          cases xs with
          | nil => exact absurd (List.length_eq_zero_iff.mp lx.symm) en
          | cons _ _ => rfl
        rw [hk]
        have dlen := lvls_deep eq
        have mx := Say.maxd_parts en
        refine ⟨fun σ' H' => ∃ z', z' < Say.maxd l ∧ ∃ (g : Addr) (ps : List Addr) (d : List (List Say)) (l : List Say) (xs : List V) (y3 y4 : Option V), z' = Say.maxd l ∧ σ' = [some v, some (.ref L), some (.ref g), y3, y4] ∧ Same H H' ∧ H' L = some (.lst (ps.map V.ref)) ∧ LvAt K H' ps d ∧ (∀ p ∈ ps, p ≠ L) ∧ g ≠ L ∧ H' g = some (.lst xs) ∧ DpAll K H' xs (l.map dSay) ∧ d ++ Say.lvls (Say.maxd l) l = Say.lvls s.deep [s], fun σ' H' z => z, ?_⟩
        refine ⟨.ref L, rfl, .inl ⟨rfl, _, SqL.of hL⟩, .ref g, rfl, L, _, _, rfl, rfl, hL, ?_, ?_⟩
        · rw [List.length_map, lv.1]
          exact small (m := 300) (by omega)
        have e4 : Same H (upd H2 L (.lst (ps.map V.ref ++ [.ref g]))) := same_upd_new e3 nL
        have lv4 := (lv.put (o := .lst (ps.map V.ref ++ [.ref g])) hL npL).snoc ((upd_ne gL).trans hg) (dps_mv (fun b zs hb => sqT_upd hL hb) _ _ (noLs_says _) hx)
        have hg4 : upd H2 L (.lst (ps.map V.ref ++ [.ref g])) g = some (.lst xs) := (upd_ne gL).trans hg
        have hx4 := dps_mv (H' := upd H2 L (.lst (ps.map V.ref ++ [.ref g]))) (fun b zs hb => sqT_upd hL hb) _ _ (noLs_says _) hx
        have hL4 : upd H2 L (.lst (ps.map V.ref ++ [.ref g])) L = some (.lst ((ps ++ [g]).map V.ref)) := by rw [upd_same, List.map_append]; rfl
        generalize upd H2 L _ = H4 at e4 lv4 hg4 hx4 hL4
        have l2 := parts_two l
        refine ⟨.ref g, rfl, g, rfl, ⟨_, SqL.of hg4⟩, fun D nD => ?_⟩
        have DL : D ≠ L := fun z => by rw [z, hL4] at nD; cases nD
        have nDH : H D = none := e4.free nD
        refine V9.lc2_out (walk_list (K := K) (a := g) (xs := xs)) (fun i H' => Same H4 H' ∧ ∃ us, H' D = some (.lst us) ∧ DpAll K H' us (((l.take i).flatMap Say.parts).map dSay)) ⟨same_new nD, [], upd_same, .nil⟩ (fun i H' _ h => SqL.of (h.1 _ _ hg4)) (fun i x H5 H6 hi h hy => ?_) (fun H5 h => ?_)
        · obtain ⟨rfl, hxi⟩ := hy
          obtain ⟨e5, us, hD, hus⟩ := h
          obtain ⟨t, ti, tm, dt⟩ := get_say (dps_same e5 _ _ hx4) hxi
          obtain ⟨a, zs, rfl, hs, hz⟩ := say_at dt
          have lz := dps_len hz
          rw [List.length_map] at lz
          refine ⟨rfl, .ref a, rfl, a, rfl, ⟨_, hs⟩, ?_⟩
          have ex2 : t.ex.length ≤ 1 := by cases t <;> simp [Say.ex]
          have pt2 : t.parts.length ≤ 2 := by cases t <;> simp [Say.parts]
          refine V9.lc2_in (walk_tup (K := K) (a := a) (xs := .str t.hd :: (t.ex.map V.int ++ zs))) (fun j H' => Same H4 H' ∧ SqT K H' a (.str t.hd :: (t.ex.map V.int ++ zs)) ∧ DpAll K H' zs (t.parts.map dSay) ∧ ∃ us, H' D = some (.lst us) ∧ DpAll K H' us (((l.take i).flatMap Say.parts ++ t.parts.take (j - (1 + t.ex.length))).map dSay))
            ⟨e5, hs, hz, us, hD, by rw [show 0 - (1 + t.ex.length) = 0 by omega, List.take_zero, List.append_nil]; exact hus⟩ (fun j H' _ h => h.2.1) (fun j x H6 H7 hj h hy => ?_) (fun H6 h => ?_)
          · obtain ⟨rfl, hxj⟩ := hy
            obtain ⟨e6, hs6, hz6, us6, hD6, hus6⟩ := h
            have lu := dps_len hus6
            rw [List.length_map, List.length_append] at lu
            have lt1 := parts_two (l.take i)
            have lt2 := List.length_take_le' i l
            have lt3 := List.length_take_le' (j - (1 + t.ex.length)) t.parts
            by_cases c : j < 1 + t.ex.length
            · have nt : ∃ ty, TyS K H7 x ty ∧ decide (ty = "tuple") = false := by
                cases j with
                | zero =>
                  cases hxj
                  exact ⟨"str", .str _, by decide⟩
                | succ j =>
                  rw [List.getElem?_cons_succ, List.getElem?_append_left (by rw [List.length_map]; omega), List.getElem?_map] at hxj
                  obtain ⟨k, _, rfl⟩ := Option.map_eq_some_iff.mp hxj
                  exact ⟨"int", .int _, by decide⟩
              obtain ⟨ty, ht1, ht2⟩ := nt
              refine ⟨rfl, x, rfl, x, ty, rfl, ht1, ty, "tuple", rfl, rfl, _, rfl, ?_⟩
              rw [ht2]
              refine iteF ⟨e6, hs6, hz6, us6, hD6, ?_⟩
              rw [show j + 1 - (1 + t.ex.length) = j - (1 + t.ex.length) by omega]
              exact hus6
            · have hj' : j = 1 + t.ex.length + (j - (1 + t.ex.length)) := by omega
              generalize hk : j - (1 + t.ex.length) = k at hj' hus6 lu lt3
              subst hj'
              have hzk : zs[k]? = some x := by
                rw [show 1 + t.ex.length + k = t.ex.length + k + 1 by omega, List.getElem?_cons_succ, List.getElem?_append_right (by rw [List.length_map]; omega), List.length_map, Nat.add_sub_cancel_left] at hxj
                exact hxj
              obtain ⟨u, ui, um, du⟩ := get_say hz6 hzk
              obtain ⟨b, ws, rfl, hb, _⟩ := say_at du
              refine ⟨rfl, .ref b, rfl, .ref b, "tuple", rfl, .tup hb, "tuple", "tuple", rfl, rfl, _, rfl, ?_⟩
              rw [decide_eq_true (rfl : ("tuple" : String) = "tuple")]
              refine iteT ⟨.ref b, rfl, us6, hD6, small (m := 20000) (by omega), same_upd_new e6 (e4.free nD |> fun _ => nD), sqT_upd hD6 hs6, dps_mv (fun b zs hb => sqT_upd hD6 hb) _ _ (noLs_says _) hz6, us6 ++ [.ref b], upd_same, ?_⟩
              rw [show 1 + t.ex.length + k + 1 - (1 + t.ex.length) = k + 1 by omega, List.take_add_one, ui, ← List.append_assoc, List.map_append]
              exact dps_app (dps_mv (fun b zs hb => sqT_upd hD6 hb) _ _ (noLs_says _) hus6) (.cons (dp_mv (fun b zs hb => sqT_upd hD6 hb) _ _ (noL_say _) du) .nil)
          · obtain ⟨e6, hs6, hz6, us6, hD6, hus6⟩ := h
            refine ⟨e6, us6, hD6, ?_⟩
            rw [List.length_cons, List.length_append, List.length_map, lz, show t.ex.length + t.parts.length + 1 - (1 + t.ex.length) = t.parts.length by omega, List.take_length] at hus6
            rw [List.take_add_one, ti, List.flatMap_append]
            show DpAll K H6 us6 ((((l.take i).flatMap Say.parts) ++ (t.parts ++ [])).map dSay)
            rw [List.append_nil]
            exact hus6
        · obtain ⟨e5, us, hD, hus⟩ := h
          rw [lx, List.take_length] at hus
          refine ⟨_, ?_, D, ps ++ [g], d ++ [l], l.flatMap Say.parts, us, _, _, rfl, rfl, e4.trans e5, e5 _ _ hL4, lv4.same e5, fun p hp => ?_, DL, hD, hus, lvls_next en eq⟩
          · omega
          · rcases List.mem_append.mp hp with hp | hp
            · exact npL p hp
            · rw [List.mem_singleton.mp hp]
              exact gL
end
end K0

namespace K0
open PySem PySem.Spec PyProof.Rows L2 W0 W1 W2 W5 W6 V0
/-! ### a walk's object -/
def walkF (nl : Int) (dn : Bool) (md : Int) (mw : Int) (met : Int) : List (Str × V) := [(("letters" : Str), V.int nl), (("denying" : Str), V.bl dn), (("most_deep" : Str), V.int md), (("most_words" : Str), V.int mw), (("met" : Str), V.int met)]
theorem walkF_n01 : ¬ (("letters" : Str) = "denying") := by decide +kernel
theorem walkF_n02 : ¬ (("letters" : Str) = "most_deep") := by decide +kernel
theorem walkF_n03 : ¬ (("letters" : Str) = "most_words") := by decide +kernel
theorem walkF_n04 : ¬ (("letters" : Str) = "met") := by decide +kernel
theorem walkF_n12 : ¬ (("denying" : Str) = "most_deep") := by decide +kernel
theorem walkF_n13 : ¬ (("denying" : Str) = "most_words") := by decide +kernel
theorem walkF_n14 : ¬ (("denying" : Str) = "met") := by decide +kernel
theorem walkF_n23 : ¬ (("most_deep" : Str) = "most_words") := by decide +kernel
theorem walkF_n24 : ¬ (("most_deep" : Str) = "met") := by decide +kernel
theorem walkF_n34 : ¬ (("most_words" : Str) = "met") := by decide +kernel
theorem walkF_new (nl : Int) (dn : Bool) (md : Int) (mw : Int) (met : Int) : putF "met" (V.int met) (putF "most_words" (V.int mw) (putF "most_deep" (V.int md) (putF "denying" (V.bl dn) (putF "letters" (V.int nl) [])))) = walkF nl dn md mw met := by
  have e0 : putF "letters" (V.int nl) [] = [(("letters" : Str), V.int nl)] := rfl
  have e1 : putF "denying" (V.bl dn) [(("letters" : Str), V.int nl)] = [(("letters" : Str), V.int nl), (("denying" : Str), V.bl dn)] := by
    show (if ("letters" : Str) = "denying" then _ else (("letters" : Str), V.int nl) :: putF "denying" (V.bl dn) []) = _
    rw [if_neg walkF_n01]
    rfl
  have e2 : putF "most_deep" (V.int md) [(("letters" : Str), V.int nl), (("denying" : Str), V.bl dn)] = [(("letters" : Str), V.int nl), (("denying" : Str), V.bl dn), (("most_deep" : Str), V.int md)] := by
    show (if ("letters" : Str) = "most_deep" then _ else (("letters" : Str), V.int nl) :: (if ("denying" : Str) = "most_deep" then _ else (("denying" : Str), V.bl dn) :: putF "most_deep" (V.int md) [])) = _
    rw [if_neg walkF_n02, if_neg walkF_n12]
    rfl
  have e3 : putF "most_words" (V.int mw) [(("letters" : Str), V.int nl), (("denying" : Str), V.bl dn), (("most_deep" : Str), V.int md)] = [(("letters" : Str), V.int nl), (("denying" : Str), V.bl dn), (("most_deep" : Str), V.int md), (("most_words" : Str), V.int mw)] := by
    show (if ("letters" : Str) = "most_words" then _ else (("letters" : Str), V.int nl) :: (if ("denying" : Str) = "most_words" then _ else (("denying" : Str), V.bl dn) :: (if ("most_deep" : Str) = "most_words" then _ else (("most_deep" : Str), V.int md) :: putF "most_words" (V.int mw) []))) = _
    rw [if_neg walkF_n03, if_neg walkF_n13, if_neg walkF_n23]
    rfl
  have e4 : putF "met" (V.int met) [(("letters" : Str), V.int nl), (("denying" : Str), V.bl dn), (("most_deep" : Str), V.int md), (("most_words" : Str), V.int mw)] = [(("letters" : Str), V.int nl), (("denying" : Str), V.bl dn), (("most_deep" : Str), V.int md), (("most_words" : Str), V.int mw), (("met" : Str), V.int met)] := by
    show (if ("letters" : Str) = "met" then _ else (("letters" : Str), V.int nl) :: (if ("denying" : Str) = "met" then _ else (("denying" : Str), V.bl dn) :: (if ("most_deep" : Str) = "met" then _ else (("most_deep" : Str), V.int md) :: (if ("most_words" : Str) = "met" then _ else (("most_words" : Str), V.int mw) :: putF "met" (V.int met) [])))) = _
    rw [if_neg walkF_n04, if_neg walkF_n14, if_neg walkF_n24, if_neg walkF_n34]
    rfl
  rw [e0, e1, e2, e3, e4]
  rfl
theorem walkF_letters (nl : Int) (dn : Bool) (md : Int) (mw : Int) (met : Int) : (walkF nl dn md mw met).lookup ("letters" : Str) = some (V.int nl) := by
  rw [← walkF_new, lookup_putF, if_neg walkF_n04, lookup_putF, if_neg walkF_n03, lookup_putF, if_neg walkF_n02, lookup_putF, if_neg walkF_n01, lookup_putF, if_pos rfl]
theorem walkF_denying (nl : Int) (dn : Bool) (md : Int) (mw : Int) (met : Int) : (walkF nl dn md mw met).lookup ("denying" : Str) = some (V.bl dn) := by
  rw [← walkF_new, lookup_putF, if_neg walkF_n14, lookup_putF, if_neg walkF_n13, lookup_putF, if_neg walkF_n12, lookup_putF, if_pos rfl]
theorem walkF_most_deep (nl : Int) (dn : Bool) (md : Int) (mw : Int) (met : Int) : (walkF nl dn md mw met).lookup ("most_deep" : Str) = some (V.int md) := by
  rw [← walkF_new, lookup_putF, if_neg walkF_n24, lookup_putF, if_neg walkF_n23, lookup_putF, if_pos rfl]
theorem walkF_most_words (nl : Int) (dn : Bool) (md : Int) (mw : Int) (met : Int) : (walkF nl dn md mw met).lookup ("most_words" : Str) = some (V.int mw) := by
  rw [← walkF_new, lookup_putF, if_neg walkF_n34, lookup_putF, if_pos rfl]
theorem walkF_met (nl : Int) (dn : Bool) (md : Int) (mw : Int) (met : Int) : (walkF nl dn md mw met).lookup ("met" : Str) = some (V.int met) := by
  rw [← walkF_new, lookup_putF, if_pos rfl]
theorem walkF_no (nl : Int) (dn : Bool) (md : Int) (mw : Int) (met : Int) {m : Str} (h0 : ¬ m = ("letters" : Str)) (h1 : ¬ m = ("denying" : Str)) (h2 : ¬ m = ("most_deep" : Str)) (h3 : ¬ m = ("most_words" : Str)) (h4 : ¬ m = ("met" : Str)) : (walkF nl dn md mw met).lookup m = none := by
  rw [← walkF_new, lookup_putF, if_neg h4, lookup_putF, if_neg h3, lookup_putF, if_neg h2, lookup_putF, if_neg h1, lookup_putF, if_neg h0]
  rfl
theorem walkF_put_met (nl : Int) (dn : Bool) (md : Int) (mw : Int) (met : Int) (y : Int) : putF "met" (V.int y) (walkF nl dn md mw met) = walkF nl dn md mw y := by
  show (if ("letters" : Str) = "met" then _ else (("letters" : Str), V.int nl) :: (if ("denying" : Str) = "met" then _ else (("denying" : Str), V.bl dn) :: (if ("most_deep" : Str) = "met" then _ else (("most_deep" : Str), V.int md) :: (if ("most_words" : Str) = "met" then _ else (("most_words" : Str), V.int mw) :: (if ("met" : Str) = "met" then _ else _))))) = _
  rw [if_neg walkF_n04, if_neg walkF_n14, if_neg walkF_n24, if_neg walkF_n34, if_pos rfl]
  rfl
/-- all but the thing at p stays -/
def ButP (p : Addr) (H H' : Hp) : Prop := ∀ c o, c ≠ p → H c = some o → H' c = some o
theorem ButP.of {p : Addr} {H H' : Hp} (e : Same H H') : ButP p H H' := fun c o _ h => e c o h
theorem ButP.trans {p : Addr} {H H1 H2 : Hp} (a : ButP p H H1) (b : ButP p H1 H2) : ButP p H H2 := fun c o n h => b c o n (a c o n h)
theorem ButP.own {p : Addr} {H H1 : Hp} {o : HO} (a : ButP p H H1) : ButP p H (upd H1 p o) := fun c u n h => by
  rw [upd_ne n]
  exact a c u n h
theorem ButP.new {p D : Addr} {H H1 : Hp} {o : HO} (a : ButP p H H1) (h : H D = none) : ButP p H (upd H1 D o) := fun c u n e => by
  rw [upd_ne (ne_of_none e h)]
  exact a c u n e
/-- with p new all stays -/
theorem ButP.same {p : Addr} {H H1 H2 : Hp} (a : ButP p H1 H2) (e : Same H H1) (n : H p = none) : Same H H2 := fun c u h => a c u (ne_of_none h n) (e c u h)
theorem sqT_ins {K : PySem.W.Frag} {H : Hp} {p C dx : Addr} {fs : List (Str × V)} {u : HO} (h : H p = some (.ins C dx fs)) {a : Addr} {xs : List V} (q : SqT K H a xs) : SqT K (upd H p u) a xs := by
  rcases q with (q | ⟨b, q⟩) | q
  · refine .inl (.inl ?_)
    rw [upd_ne (ne_of q h (fun z => by cases z))]
    exact q
  · refine .inl (.inr ⟨b, ?_⟩)
    rw [upd_ne (ne_of q h (fun z => by cases z))]
    exact q
  · exact .inr q
theorem say_ins {K : PySem.W.Frag} {H : Hp} {p C dx : Addr} {fs : List (Str × V)} {u : HO} (h : H p = some (.ins C dx fs)) {v : V} {s : Say} (q : Dp K H v (dSay s)) : Dp K (upd H p u) v (dSay s) := dp_mv (fun _ _ z => sqT_ins h z) _ _ (noL_say s) q
section
variable {P : Program} {w : World} {K : PySem.W.Frag} {mg : Str → Option Value} {base : Heap}
def sp_Walk_init (C : Addr) : Sp := fun vs H Q _ => ∃ (p dx : Addr) (nl : Int) (dn : Bool) (md mw : Int), vs = [.ref p, .int nl, .bl dn, .int md, .int mw] ∧ H p = some (.ins C dx []) ∧ ∀ H', ButP p H H' → H' p = some (.ins C dx (walkF nl dn md mw 0)) → Q .non H'
theorem ok_Walk___init__ (T : Tops K w mg) : FnOk P w K mg base CX0 1 T.a_Walk___init__ T.fd_Walk___init__ p_Walk___init__ (sp_Walk_init T.C_Walk) := by
  have S := sc_Walk___init__
  refine T.F_Walk___init__.ok S (fun vs H Q E h => ?_) (fun cdv A outer s0 H vs Q E hr h => ?_)
  · obtain ⟨p, dx, nl, dn, md, mw, rfl, _⟩ := h
    rfl
  · obtain ⟨p, dx, nl, dn, md, mw, rfl, hp, q⟩ := h
    refine ⟨_, (pss_cons (ps_fld (pv 0) (pv 1) rfl)
      (pss_cons (ps_fld (pv 0) (pv 2) rfl)
      (pss_cons (ps_fld (pv 0) (pv 3) rfl)
      (pss_cons (ps_fld (pv 0) (pv 4) rfl)
      (pss_one (ps_fld (pv 0) pe_int rfl)))))), ?_⟩
    have l1 : (putF "letters" (V.int nl) []).length = 1 := rfl
    have l2 := length_putF "denying" (V.bl dn) (putF "letters" (V.int nl) [])
    have l3 := length_putF "most_deep" (V.int md) (putF "denying" (V.bl dn) (putF "letters" (V.int nl) []))
    have l4 := length_putF "most_words" (V.int mw) (putF "most_deep" (V.int md) (putF "denying" (V.bl dn) (putF "letters" (V.int nl) [])))
    refine ⟨.int nl, rfl, .ref p, rfl, p, T.C_Walk, dx, [], rfl, hp, T.cl_Walk, T.na_Walk_letters, by decide, ?_⟩
    refine ⟨.bl dn, rfl, .ref p, rfl, p, T.C_Walk, dx, _, rfl, upd_same, T.cl_Walk, T.na_Walk_denying, by omega, ?_⟩
    refine ⟨.int md, rfl, .ref p, rfl, p, T.C_Walk, dx, _, rfl, upd_same, T.cl_Walk, T.na_Walk_most_deep, by omega, ?_⟩
    refine ⟨.int mw, rfl, .ref p, rfl, p, T.C_Walk, dx, _, rfl, upd_same, T.cl_Walk, T.na_Walk_most_words, by omega, ?_⟩
    refine ⟨.ref p, rfl, p, T.C_Walk, dx, _, rfl, upd_same, T.cl_Walk, T.na_Walk_met, by omega, ?_⟩
    rw [walkF_new]
    exact q _ (((((ButP.of (Same.refl H)).own).own).own).own).own upd_same
theorem walkF_wp (nl : Int) (dn : Bool) (md mw met : Int) : (walkF nl dn md mw met).lookup ("wrong_path" : Str) = none := walkF_no _ _ _ _ _ (by decide +kernel) (by decide +kernel) (by decide +kernel) (by decide +kernel) (by decide +kernel)
theorem walkF_mr (nl : Int) (dn : Bool) (md mw met : Int) : (walkF nl dn md mw met).lookup ("_met_if_right" : Str) = none := walkF_no _ _ _ _ _ (by decide +kernel) (by decide +kernel) (by decide +kernel) (by decide +kernel) (by decide +kernel)
def sp_met_if_right (K : PySem.W.Frag) (C : Addr) : Sp := fun vs H Q _ => ∃ (p dx d : Addr) (v : V) (nl nh md mw met : Nat) (dn : Bool) (s : Say), vs = [.ref p, v, .ref d] ∧ H p = some (.ins C dx (walkF (nl : Int) dn md mw (met : Int))) ∧ Nums H d nl nh ∧ Dp K H v (dSay s) ∧ s.OkN nl nh dn ∧ s.deep ≤ md ∧ met + s.words.length ≤ mw ∧ md ≤ 200 ∧ mw ≤ 5000 ∧
  ∀ H', Same H H' → Q (.int ((met + s.words.length : Nat) : Int)) H'
theorem lvls_next_len {s : Say} {d : List (List Say)} {l : List Say} (h : d ++ Say.lvls (Say.maxd l) l = Say.lvls s.deep [s]) : d.flatten.length + l.length ≤ s.words.length := by
  by_cases e : l = []
  · subst e
    have p := (Say.bfs_perm s).length_eq
    unfold Say.bfs at p
    have h' : d ++ [] = Say.lvls s.deep [s] := h
    rw [List.append_nil] at h'
    rw [← h'] at p
    rw [p]
    exact Nat.le_refl _
  · have h2 := lvls_next e h
    have p := (Say.bfs_perm s).length_eq
    unfold Say.bfs at p
    rw [← h2, List.flatten_append, List.flatten_append, List.length_append, List.length_append] at p
    have : ([l] : List (List Say)).flatten.length = l.length := by simp
    omega
theorem lvls_mem {s : Say} {d : List (List Say)} {l : List Say} (h : d ++ Say.lvls (Say.maxd l) l = Say.lvls s.deep [s]) : ∀ t ∈ l, t ∈ s.words := fun t m => by
  have e : l ≠ [] := fun z => by rw [z] at m; cases m
  have h2 := lvls_next e h
  refine (Say.bfs_perm s).mem_iff.mp ?_
  unfold Say.bfs
  rw [← h2]
  exact List.mem_flatten.mpr ⟨l, List.mem_append_left _ (List.mem_append_right _ List.mem_cons_self), m⟩
set_option maxHeartbeats 1000000 in
theorem ok_Walk__met_if_right (T : Tops K w mg) : FnOk P w K mg base CX0 2 T.a_Walk__met_if_right T.fd_Walk__met_if_right p_Walk__met_if_right (sp_met_if_right K T.C_Walk) := by
  have S := sc_Walk__met_if_right
  refine T.F_Walk__met_if_right.ok S (fun vs H Q E h => ?_) (fun cdv A outer s0 H vs Q E hr h => ?_)
  · obtain ⟨p, dx, d, v, nl, nh, md, mw, met, dn, s, rfl, _⟩ := h
    rfl
  · obtain ⟨p, dx, d, v, nl, nh, md, mw, met, dn, s, rfl, hp, hn, hd, ok, hdeep, hmw, md1, mw1, q⟩ := h
    refine ⟨_, (pss_cons (ps_set (i := 3) S.nd rfl (Or.inl rfl) (V6.pe_fldK (K := K) (pv 0) rfl))
      (pss_cons (ps_set (i := 4) S.nd rfl (Or.inl rfl) pe_int)
      (pss_cons (ps_set (i := 5) S.nd rfl (Or.inl rfl) (pe_lst (pa_cons (pv 1) pa_nil)))
      (pss_cons (ps_while PassesOwn.never (pt_truth (pv 5) (by intro _; rfl)) (pss_cons (ps_set (i := 4) S.nd rfl (Or.inl rfl) (pe_op op_add (pv 4) pe_int))
      (pss_cons (ps_set (i := 3) S.nd rfl (Or.inl rfl) (pe_op op_add (pv 3) (pe_callB call_len_seq (by rfl) T.m_len (by decide +kernel) (pa_cons (pv 5) pa_nil))))
      (pss_cons (ps_if ((pw_or (pt_cmpR op_gt (pv 4) (V6.pe_fldK (K := K) (pv 0) rfl) (nomark _)) (pw_or1 (pt_cmpR op_gt (pv 3) (V6.pe_fldK (K := K) (pv 0) rfl) (nomark _))))).pt (pss_one (ps_ret pe_non)) pss_nil)
      (pss_one (ps_set (i := 5) S.nd rfl (Or.inl rfl) (pe_call (ok__parts_if_right T) (hr.mono (by first | decide | omega)) (by rfl) T.g__parts_if_right T.F__parts_if_right.kp T.b__parts_if_right .nil pass0 (pa_cons (pv 5) (pa_cons (pv 2) (pa_cons (V6.pe_fldK (K := K) (pv 0) rfl) pa_nil))))))))))
      (pss_one (ps_ret (pe_ifExp (pt_cmpR op_isN (pv 5) pe_non (nomark _)) pe_non (pv 3)))))))), ?_⟩
    refine ⟨.ref p, rfl, p, T.C_Walk, dx, _, _, rfl, hp, T.cl_Walk, T.na_Walk_met, walkF_met _ _ _ _ _, ?_⟩
    refine ⟨v, rfl, by show 1 ≤ sizeLine; decide, fun G nG => ?_⟩
    have e1 := same_new (o := .lst [v]) nG
    refine ⟨fun z σ H' => ∃ (g : Addr) (dl : List (List Say)) (l : List Say) (xs : List V), z = Say.maxd l ∧ σ = [some (.ref p), some v, some (.ref d), some (.int ((met + dl.flatten.length : Nat) : Int)), some (.int (dl.length : Int)), some (.ref g)] ∧ Same H H' ∧ H' g = some (.lst xs) ∧ DpAll K H' xs (l.map dSay) ∧ dl ++ Say.lvls (Say.maxd l) l = Say.lvls s.deep [s],
      ⟨_, G, [], [s], [v], rfl, rfl, e1, upd_same, .cons (dp_same e1 _ _ hd) .nil, by rw [Say.maxd_one]; rfl⟩, ?_⟩
    rintro z σ H2 ⟨g, dl, l, xs, rfl, rfl, e3, hg, hx, eq⟩
    have lx := dps_len hx
    rw [List.length_map] at lx
    refine ⟨.ref g, rfl, _, .inl ⟨_, SqL.of hg, rfl⟩, ?_⟩
    have dlen := lvls_deep eq
    have wlen := lvls_next_len eq
    by_cases en : l = []
    · subst en
      have xs0 : xs = [] := List.length_eq_zero_iff.mp lx
      subst xs0
      have eq' : dl ++ [] = Say.lvls s.deep [s] := eq
      rw [List.append_nil] at eq'
      have full : dl.flatten.length = s.words.length := by
        rw [eq']
        exact (Say.bfs_perm s).length_eq
      rw [full]
      refine iteF ?_
      refine ⟨.ref g, rfl, rfl, _, rfl, ?_⟩
      rw [show decide (V.ref g = V.non) = false from decide_eq_false (fun z => by cases z)]
      exact iteF ⟨_, rfl, q H2 e3⟩
    · have hk : (!xs.isEmpty) = true := by
        cases xs with
        | nil => exact absurd (List.length_eq_zero_iff.mp lx.symm) en
        | cons _ _ => rfl
      rw [hk]
      have mx := Say.maxd_parts en
      have hp2 := e3 _ _ hp
      refine ⟨fun σ' H' => ∃ z', z' < Say.maxd l ∧ ∃ (g : Addr) (dl : List (List Say)) (l : List Say) (xs : List V), z' = Say.maxd l ∧ σ' = [some (.ref p), some v, some (.ref d), some (.int ((met + dl.flatten.length : Nat) : Int)), some (.int (dl.length : Int)), some (.ref g)] ∧ Same H H' ∧ H' g = some (.lst xs) ∧ DpAll K H' xs (l.map dSay) ∧ dl ++ Say.lvls (Say.maxd l) l = Say.lvls s.deep [s], fun σ' H' z => z, ?_⟩
      refine ⟨_, rfl, _, _, rfl, rfl, ?_⟩
      refine ⟨_, rfl, .ref g, rfl, g, _, rfl, .inl (SqL.of hg), _, _, rfl, rfl, ?_⟩
      have n1 : ((met + dl.flatten.length : Nat) : Int) + (xs.length : Int) = ((met + (dl ++ [l]).flatten.length : Nat) : Int) := by
        rw [List.flatten_append, List.length_append, show ([l] : List (List Say)).flatten.length = l.length by simp, lx]
        omega
      have n2 : (dl.length : Int) + 1 = ((dl ++ [l]).length : Int) := by
        rw [List.length_append]
        rfl
      rw [show ((fun (i j : Int) => V.int (i + j)) (dl.length : Int) 1) = V.int ((dl ++ [l]).length : Int) from congrArg V.int n2, show ((fun (i j : Int) => V.int (i + j)) ((met + dl.flatten.length : Nat) : Int) (xs.length : Int)) = V.int ((met + (dl ++ [l]).flatten.length : Nat) : Int) from congrArg V.int n1]
      have n3 : (dl ++ [l]).flatten.length = dl.flatten.length + l.length := by
        rw [List.flatten_append, List.length_append]
        simp
      have n4 : (dl ++ [l]).length = dl.length + 1 := by rw [List.length_append]; rfl
      refine ⟨_, rfl, .ref p, rfl, p, T.C_Walk, dx, _, _, rfl, hp2, T.cl_Walk, T.na_Walk_most_deep, walkF_most_deep _ _ _ _ _, _, _, rfl, rfl, _, rfl, ?_⟩
      rw [decide_eq_false (by omega : ¬ ((md : Int) < ((dl ++ [l]).length : Int)))]
      refine iteF ⟨_, rfl, .ref p, rfl, p, T.C_Walk, dx, _, _, rfl, hp2, T.cl_Walk, T.na_Walk_most_words, walkF_most_words _ _ _ _ _, _, _, rfl, rfl, _, rfl, ?_⟩
      rw [decide_eq_false (by omega : ¬ ((mw : Int) < ((met + (dl ++ [l]).flatten.length : Nat) : Int)))]
      refine iteF ?_
      have mem := lvls_mem eq
      refine ⟨.ref g, rfl, .ref d, rfl, .ref p, rfl, p, T.C_Walk, dx, _, _, rfl, hp2, T.cl_Walk, T.na_Walk_denying, walkF_denying _ _ _ _ _, g, d, xs, l, nl, nh, dn, rfl, hg, hx, e3 _ _ hn, fun t m => ok t (mem t m), by omega, fun H3 G3 ys e4 nG3 hG3 hy => ?_⟩
      exact ⟨_, by omega, G3, dl ++ [l], l.flatMap Say.parts, ys, rfl, rfl, e3.trans e4, hG3, hy, lvls_next en eq⟩
def sp_wrong_path (K : PySem.W.Frag) (C : Addr) : Sp := fun vs H Q _ => ∃ (p dx : Addr) (v : V) (nl nh md mw met : Nat) (dn : Bool) (s : Say), vs = [.ref p, v, .int nh] ∧ H p = some (.ins C dx (walkF (nl : Int) dn md mw (met : Int))) ∧ Dp K H v (dSay s) ∧ s.OkN nl nh dn ∧ s.deep ≤ md ∧ met + s.words.length ≤ mw ∧ md ≤ 200 ∧ mw ≤ 5000 ∧
  ∀ H', ButP p H H' → H' p = some (.ins C dx (walkF (nl : Int) dn md mw ((met + s.words.length : Nat) : Int))) → Q .non H'
theorem merge2 (a b : V) : mergeK [] [((Sum.inr "letter" : Key), a), (Sum.inr "here", b)] = [((Sum.inr "letter" : Key), a), (Sum.inr "here", b)] := by
  show putK (putK [] (Sum.inr "letter" : Key) a) (Sum.inr "here") b = _
  have e1 : putK ([] : List (Key × V)) (Sum.inr "letter" : Key) a = [((Sum.inr "letter" : Key), a)] := rfl
  rw [e1]
  unfold putK
  rw [if_neg]
  · rfl
  · intro z
    have z' : (decide ((Sum.inr "letter" : Key) = (Sum.inr "here" : Key)) || false) = true := z
    rw [Bool.or_false] at z'
    exact absurd (Sum.inr.inj (of_decide_eq_true z')) (show ¬ ("letter" : Str) = "here" by decide)
theorem ok_Walk_wrong_path (T : Tops K w mg) : FnOk P w K mg base CX0 4 T.a_Walk_wrong_path T.fd_Walk_wrong_path p_Walk_wrong_path (sp_wrong_path K T.C_Walk) := by
  have S := sc_Walk_wrong_path
  refine T.F_Walk_wrong_path.ok S (fun vs H Q E h => ?_) (fun cdv A outer s0 H vs Q E hr h => ?_)
  · obtain ⟨p, dx, v, nl, nh, md, mw, met, dn, s, rfl, _⟩ := h
    rfl
  · obtain ⟨p, dx, v, nl, nh, md, mw, met, dn, s, rfl, hp, hd, ok, hdeep, hmw, md1, mw1, q⟩ := h
    refine ⟨_, (pss_cons (ps_set (i := 3) S.nd rfl (Or.inl rfl) (pe_disp (pps_cons pe_str (V6.pe_fldK (K := K) (pv 0) rfl) (pps_cons pe_str (pv 2) pps_nil)) (by rfl) (by rfl) (fun z => by cases z) (by decide)))
      (pss_cons (ps_set (i := 4) S.nd rfl (Or.inl rfl) (pe_meth (pv 0) T.cl_Walk T.me_Walk__met_if_right (ok_Walk__met_if_right T) (hr.mono (by first | decide | omega)) T.b_Walk__met_if_right .nil pass0 (pa_cons (pv 1) (pa_cons (pv 3) pa_nil))))
      (pss_cons (ps_if (pt_cmpR op_isN (pv 4) pe_non (nomark _)) (pss_one ps_never) pss_nil)
      (pss_cons (ps_fld (pv 0) (pv 4) rfl)
      (pss_one (ps_ret pe_non)))))), ?_⟩
    intro d nd
    have e1 := same_new (o := .dK []) nd
    refine ⟨.ref p, rfl, p, T.C_Walk, dx, _, _, rfl, e1 _ _ hp, T.cl_Walk, T.na_Walk_letters, walkF_letters _ _ _ _ _, .int nh, rfl, ?_⟩
    refine ⟨upd_same, [((Sum.inr "letter" : Key), .int nl), (Sum.inr "here", .int nh)], rfl, (by show 2 ≤ 15; decide), ?_⟩
    rw [merge2]
    have e2 := same_upd_new (o := .dK [((Sum.inr "letter" : Key), V.int (nl : Int)), (Sum.inr "here", V.int (nh : Int))]) e1 nd
    have hn : Nums (upd (upd H d (.dK [])) d (.dK [((Sum.inr "letter" : Key), V.int (nl : Int)), (Sum.inr "here", V.int (nh : Int))])) d nl nh := upd_same
    generalize upd _ d (.dK [((Sum.inr "letter" : Key), V.int (nl : Int)), (Sum.inr "here", V.int (nh : Int))]) = H1 at e2 hn
    have hp1 := e2 _ _ hp
    refine ⟨.ref p, rfl, p, dx, _, rfl, hp1, walkF_mr _ _ _ _ _, v, rfl, .ref d, rfl, p, dx, d, v, nl, nh, md, mw, met, dn, s, rfl, hp1, hn, dp_same e2 _ _ hd, ok, hdeep, hmw, md1, mw1, fun H2 e3 => ?_⟩
    refine ⟨_, rfl, rfl, _, rfl, ?_⟩
    rw [show decide (V.int ((met + s.words.length : Nat) : Int) = V.non) = false from decide_eq_false (fun z => by cases z)]
    refine iteF ⟨_, rfl, .ref p, rfl, p, T.C_Walk, dx, _, rfl, e3 _ _ hp1, T.cl_Walk, T.na_Walk_met, (by show 5 < 1000; decide), ?_⟩
    rw [walkF_put_met]
    exact q _ ((ButP.of (e2.trans e3)).own) upd_same
end
end K0

namespace K0
open PySem PySem.Spec PyProof.Rows L2 W0 W1 W2 W5 W6 V0
section
variable {P : Program} {w : World} {K : PySem.W.Frag} {mg : Str → Option Value} {base : Heap}
def sp_need_saying (K : PySem.W.Frag) : Sp := fun vs H Q _ => ∃ (v : V) (s : Say), vs = [v] ∧ Dp K H v (dSay s) ∧ s.Ok ∧ s.deep ≤ 40 ∧ s.words.length ≤ 400 ∧ ∀ H', Same H H' → Q v H'
theorem ok_need_saying (T : Tops K w mg) : FnOk P w K mg base CX0 5 T.a_need_saying T.fd_need_saying p_need_saying (sp_need_saying K) := by
  have S := sc_need_saying
  refine T.F_need_saying.ok S (fun vs H Q E h => ?_) (fun cdv A outer s0 H vs Q E hr h => ?_)
  · obtain ⟨v, s, rfl, _⟩ := h
    rfl
  · obtain ⟨v, s, rfl, hd, ok, hdeep, hw, q⟩ := h
    refine ⟨_, (pss_cons (ps_set (i := 1) S.nd rfl (Or.inl rfl) (pe_meth (pe_make T.mk_Walk (ok_Walk___init__ T) (hr.mono (by first | decide | omega)) (by rfl) T.c_Walk T.b_Walk___init__ .nil pass0 (pa_cons (pe_glob (v := .int (8)) (by rfl) T.c_LETTERS ⟨_, rfl⟩) (pa_cons pe_bl (pa_cons (pe_glob (v := .int (40)) (by rfl) T.c_MOST_DEEP ⟨_, rfl⟩) (pa_cons (pe_glob (v := .int (400)) (by rfl) T.c_MOST_WORDS ⟨_, rfl⟩) pa_nil))))) T.cl_Walk T.me_Walk_wrong_path (ok_Walk_wrong_path T) (hr.mono (by first | decide | omega)) T.b_Walk_wrong_path .nil pass0 (pa_cons (pv 0) (pa_cons pe_int pa_nil))))
      (pss_cons (ps_if (pt_cmpR op_notN (pv 1) pe_non (nomark _)) (pss_one ps_never) pss_nil)
      (pss_one (ps_ret (pv 0))))), ?_⟩
    intro x dx nx ndx nex
    refine ⟨x, dx, 8, true, 40, 400, rfl, upd_same, fun H1 bp hp1 => ⟨rfl, ?_⟩⟩
    have e0 : Same H (upd (upd H dx (.own x)) x (.ins T.C_Walk dx [])) := same_upd_new (same_new ndx) nx
    have e1 : Same H H1 := bp.same e0 nx
    refine ⟨x, dx, _, rfl, hp1, walkF_wp _ _ _ _ _, v, rfl, x, dx, v, 8, 0, 40, 400, 0, true, s, rfl, hp1, dp_same e1 _ _ hd, ok.n, hdeep, by omega, by decide, by decide, fun H2 bp2 hp2 => ?_⟩
    have e2 : Same H H2 := bp2.same e1 nx
    exact ⟨.non, rfl, rfl, _, rfl, v, rfl, q H2 e2⟩
def sp_fact_walk (K : PySem.W.Frag) (C : Addr) : Sp := fun vs H Q _ => vs = [] ∧ ∀ H' p dx, Same H H' → H p = none → H' p = some (.ins C dx (walkF 0 false 100 2000 0)) → Q (.ref p) H'
def sp_need_fact (K : PySem.W.Frag) : Sp := fun vs H Q _ => ∃ (v : V) (m : Nat) (s : Say), vs = [v, .int m] ∧ Dp K H v (dSay s) ∧ s.OkW Say.factW m ∧ 1 ≤ m ∧ m ≤ 8 ∧ s.deep ≤ 100 ∧ s.words.length ≤ 2000 ∧ ∀ H', Same H H' → Q v H'
end
end K0

/-! W7: {elt for target in iter if ..}, elt an int. -/
namespace W7
open PySem PySem.Spec PyProof.Rows L2 W1 W2 W3 W4 W5

def tScN (w : World) (wi : TI) (g : TG) (tt : TT) (te : TE) (vs : List Nat) : TE := fun σ H Q => wi σ H fun J H1 => ∀ D, H1 D = none → ∃ W : Nat → Nat → Hp → Prop, (∃ m, W 0 m (upd H1 D (SetO w D (fun _ => false) 0))) ∧ ∀ i m H, W i m H →
  (J.stop i H ∧ Q (.ref D) H) ∨ (J.go i H ∧ ∃ Nx : Hp → Prop, (∀ H', Nx H' → ∃ m', m' < m ∧ W (i + 1) m' H') ∧ ∀ x H', J.yld i H x H' → g x (wipe σ vs) H' fun σ2 H2 => wipe σ2 vs = wipe σ vs ∧ tt σ2 H2 fun b H3 =>
    if b = true then te σ2 H3 fun y H4 => ∃ (c : Int) (S : Int → Bool) (k : Nat), y = .int c ∧ H4 D = some (SetO w D S k) ∧ k + 1 < scanBound ∧
      Nx (upd H4 D (SetO w D (fun j => S j || decide (j = c)) (if S c = true then k else k + 1)))
    else Nx H3)
section
variable {X : Cx} {pins : List (Addr × Obj)} {σ : L2.St} {H : Hp} {s : Shared}
/-- set.add of an int -/
theorem addN_ok {E : Value → Shared → Prop} {D : Addr} {S : Int → Bool} {n : Nat} {c : Int} {t : Tok} {Q : Value → Shared → Prop} (I : Inv X pins σ H s) (hD : H D = some (SetO X.w D S n)) (room : n + 1 < scanBound)
    (h : ∀ s', Inv X pins σ (upd H D (SetO X.w D (fun j => S j || decide (j = c)) (if S c = true then n else n + 1))) s' → Q .none s') :
    wpAny (model X.prog X.w) X.A (call (.builtin "set.add") [.ref D, .int c t]) Q E s := by
  refine setR_add (setO_get I hD) room fun h' sb R' => h _ ?_
  have there : ∃ u, h'.get? D = some u := by
    obtain ⟨o, _, _, _, ho, _⟩ := R'
    exact ⟨o, ho⟩
  refine I.write (e := D) (t' := s.toks + 1) ?_ (.inl rfl) (fun b u hb hu => (sb.2 b hb).trans hu) there (setO_new R')
  rw [hD]
  trivial

theorem pe_scN {elt tg iter : Expr} {ifs : List Expr} {scope : Scope} {own : List (Str × Nat)} {pos : Pos} {wi : TI} {g : TG} {tt : TT} {te : TE} (hc : X.calm = true) (hN : X.N.Nodup) (hi : PI X tg iter wi) (ok : BlkOk X.N X.env.scope scope own)
    (hg : ∀ (s : Shared) (H : Hp) (C : Addr) (cl : List (Str × Addr)) (fp : List Addr), PG (X.blk s H scope (compEnvC scope cl C X.env) fp) tg g) (ht : ∀ (s : Shared) (H : Hp) (C : Addr) (cl : List (Str × Addr)) (fp : List Addr), PTs (X.blk s H scope (compEnvC scope cl C X.env) fp) ifs tt)
    (he : ∀ (s : Shared) (H : Hp) (C : Addr) (cl : List (Str × Addr)) (fp : List Addr), PE (X.blk s H scope (compEnvC scope cl C X.env) fp) elt te) (hs : ∀ x, foldedSetIterable iter X.env x = pure x := by intro _; rfl) :
    PE X (.SetComp elt [⟨tg, iter, ifs, 0⟩] scope pos) (tScN X.w wi g tt te (own.map (·.2))) := by
  refine ⟨fun pins s σ H Q I h => ?_⟩
  rw [PpSet.eval_SetComp]
  have captured : ∀ y ∈ scope.names, y.2 = .free → ∃ c, X.env.cells.lookup y.1 = some c := fun y hy e => (ok.free y hy e).elim (fun k => I.ok.has _ (.inl k)) fun k => I.ok.has _ (.inr k)
  refine wpAny_comprehension_free (use := none) rfl hs (closure_ok captured) ok.kind (fun y hy e => by rw [ok.uniq y hy, e]) (thn (hi.run pins s σ H _ I h) fun _ s1 h1 => thn h1 fun _ s2 h2 => ?_)
  obtain ⟨it, fp, tn, J, H2, rfl, I2, T, st2, f2, q⟩ := h2
  refine PpSet.newSet_ok (newEnv_comp ?_)
  -- the new set at D
  generalize eD : s2.heap.objs.size = D
  obtain ⟨W, ⟨m0, w0⟩, turn⟩ := q D (I2.hok.fresh (Nat.le_of_eq eD))
  generalize e3 : ({ s2 with heap := s2.heap.push (bare X.w) } : Shared) = s3
  have h3 : s3.heap = s2.heap.push (bare X.w) := by rw [← e3]
  have I3 : Inv X pins σ (upd H2 D (SetO X.w D (fun _ => false) 0)) s3 := by
    rw [← e3]
    refine I2.laid (t' := s2.toks) (fun b o e => Heap.get?_push_of_some _ e) (Nat.le_of_eq eD) (setO_new ?_)
    rw [← eD]
    exact (setR_new_at (ns := []) (Heap.get?_push_size _ rfl)).congr fun j => by simp
  have below : ∀ b ∈ fp, b < s2.heap.objs.size := fun b hb => by
    obtain ⟨o, e, _⟩ := T.obj _ _ st2 b hb
    exact Heap.lt_size e
  have f3 : ∀ b ∈ fp, FpOk X pins (upd H2 D (SetO X.w D (fun _ => false) 0)) b ∧ b < s3.heap.objs.size := fun b hb => by
    have lt := below b hb
    refine ⟨⟨?_, (f2 b hb).2⟩, ?_⟩
    · rw [upd_ne (by rw [← eD]; exact Nat.ne_of_lt lt)]
      exact (f2 b hb).1
    · rw [h3, Heap.size_push]
      exact Nat.lt_succ_of_lt lt
  have st3 : tn 0 s3.heap := T.keep _ _ _ st2 fun b _ o e => by
    rw [h3]
    exact Heap.get?_push_of_some _ e
  have I4 := block_start I3 ok hN f3
  have pg := hg s3 (upd H2 D (SetO X.w D (fun _ => false) 0)) s3.heap.objs.size (cellsFrom (s3.heap.objs.size + 1) scope.names (cloFrom X.env.cells scope.names [])) fp
  have pt := ht s3 (upd H2 D (SetO X.w D (fun _ => false) 0)) s3.heap.objs.size (cellsFrom (s3.heap.objs.size + 1) scope.names (cloFrom X.env.cells scope.names [])) fp
  have pe := he s3 (upd H2 D (SetO X.w D (fun _ => false) 0)) s3.heap.objs.size (cellsFrom (s3.heap.objs.size + 1) scope.names (cloFrom X.env.cells scope.names [])) fp
  show codeAny _ _ (.compStart (.SetComp elt [⟨tg, iter, ifs, 0⟩] scope pos) 0 (.ref it) (.ref D) (compEnvC scope (cellsFrom (s3.heap.objs.size + 1) scope.names (cloFrom X.env.cells scope.names [])) s3.heap.objs.size X.env)) (compPost (model X.prog X.w) X.A X.xe none (EP X pins σ Q) (.ref D) s3.heap.objs.size) { s3 with heap := pushCells (s3.heap.push { cls := .type "dict", data := .dict #[] }) scope.names }
  have n3 : ∀ b ∈ fp, (upd H2 D (SetO X.w D (fun _ => false) 0)) b = none := fun b hb => (f3 b hb).1.1
  generalize eB : compEnvC scope (cellsFrom (s3.heap.objs.size + 1) scope.names (cloFrom X.env.cells scope.names [])) s3.heap.objs.size X.env = cenv at I4 pg pt pe ⊢
  have locals : cenv.locals = s3.heap.objs.size := by rw [← eB]; rfl
  generalize eH : upd H2 D (SetO X.w D (fun _ => false) 0) = H3 at I3 I4 pg pt pe w0 n3 f3
  generalize e4 : ({ s3 with heap := pushCells (s3.heap.push { cls := .type "dict", data := .dict #[] }) scope.names } : Shared) = s4 at I4 ⊢
  have st4 : tn 0 s4.heap := T.keep _ _ _ st3 fun b _ o e => by
    rw [← e4]
    exact pushCells_keeps _ _ _ _ (Heap.get?_push_of_some _ e)
  have still : ∀ {σ' : L2.St} {H' : Hp} {s' : Shared}, Inv (X.blk s3 H3 scope cenv fp) [] σ' H' s' → (∀ b ∈ fp, H' b = none) → ∀ b ∈ fp, FpOk (X.blk s3 H3 scope cenv fp) [] H' b := by
    intro σ' H' s' I' hn b hb
    refine ⟨hn b hb, (I'.ok.exf b hb).1, I'.ok.exfs b hb, .inl hb, fun x c e => (I'.ok.exf b hb).2 x c e, fun p hp => ?_⟩
    have hp' : p ∈ ([] : List (Addr × Obj)) ++ [] := hp
    exact (List.not_mem_nil hp').elim
  have loop : codeAny (model X.prog X.w) X.A (.compLoop (.SetComp elt [⟨tg, iter, ifs, 0⟩] scope pos) 0 (.ref it) (.ref D) cenv) (compPost (model X.prog X.w) X.A X.xe none (EP X pins σ Q) (.ref D) s3.heap.objs.size) s4 := by
    refine PpSet.compLoopS_any (fun n s' => ∃ i H', Inv (X.blk s3 H3 scope cenv fp) [] (wipe σ (own.map (·.2))) H' s' ∧ tn i s'.heap ∧ (∀ b ∈ fp, H' b = none) ∧ W i n H') (fun n s5 h5 => ?_) m0 ⟨0, H3, I4, st4, n3, w0⟩
    obtain ⟨i, H5, I5, st5, n5, w5⟩ := h5
    rcases turn i n H5 w5 with ⟨stop, fin⟩ | ⟨go, Nx, hNx, step⟩
    · refine thnF (T.done (X.blk s3 H3 scope cenv fp) rfl rfl rfl hc i [] s5 _ H5 (fun _ _ => False) I5 (still I5 n5) st5 stop) fun r s6 h6 => ?_
      obtain ⟨rfl, I6⟩ := h6
      have I7 : Inv X pins σ H5 s6 := I3.call' (ch := fp) I6.os I6.base I6.hok I6.bare fun b hb => ⟨(f3 b hb).1.2.2.2.1, (f3 b hb).1.2.1, (f3 b hb).1.2.2.2.2.1, (f3 b hb).1.2.2.2.2.2⟩
      have free : H5 s3.heap.objs.size = none := by
        rw [← locals]
        exact I6.free
      obtain ⟨m, hn, _⟩ := I6.loc
      rw [show (X.blk s3 H3 scope cenv fp).env.locals = s3.heap.objs.size from locals] at hn
      obtain ⟨g0, g1, g2, g3, g4, g5⟩ := I3.fpOk (Nat.le_refl _) free
      exact ⟨m, hn, fun h'' sb => ⟨.ref D, H5, I7.turned (t' := s6.toks) (fun b o hb e => (sb.2 b hb).trans e) g0 g1 g3 g4 g5, rfl, fin⟩⟩
    · refine thnF (T.item (X.blk s3 H3 scope cenv fp) rfl rfl rfl hc i [] s5 _ H5 (fun _ _ => False) I5 (still I5 n5) st5 go) fun r s6 h6 => ?_
      obtain ⟨u, rfl, h6⟩ := h6
      refine thnF h6 fun _ s7 h7 => ?_
      obtain ⟨x, H7, I7, r7, y7, st7, n7⟩ := h7
      have I7' := I7.pinned (still I7 n7) (T.obj _ _ st7)
      refine thnF (pg.run _ s7 _ H7 x u _ I7' r7 (step x H7 y7)) fun _ s8 h8 => ?_
      obtain ⟨σ8, H8, I8, hw8, q8⟩ := h8
      refine thnF (pt.run _ s8 σ8 H8 _ I8 q8) fun b s9 h9 => ?_
      obtain ⟨H9, I9, q9⟩ := h9
      have again : ∀ {s' : Shared} {H' : Hp}, Inv (X.blk s3 H3 scope cenv fp) ([] ++ pinsAt fp s7.heap) σ8 H' s' → Nx H' → ∃ m, m < n ∧ ∃ i H', Inv (X.blk s3 H3 scope cenv fp) [] (wipe σ (own.map (·.2))) H' s' ∧ tn i s'.heap ∧ (∀ b ∈ fp, H' b = none) ∧ W i m H' := by
        intro s' H' I' nx
        obtain ⟨m', hm, w'⟩ := hNx H' nx
        have pinned : ∀ b ∈ fp, ∀ o, s7.heap.get? b = some o → s'.heap.get? b = some o ∧ H' b = none := fun b hb o e =>
          let z := I'.pin (b, o) (List.mem_append_right _ (List.mem_append_right _ (mem_pinsAt hb e)))
          ⟨z.1, z.2.1⟩
        have len : (wipe σ (own.map (·.2))).length = σ8.length := by rw [← hw8, wipe_length]
        refine ⟨m', hm, i + 1, H', (I'.unpinned (pins := [])).weak len (fun j v e => ?_), T.keep _ _ _ st7 fun b hb o e => (pinned b hb o e).1, fun b hb => ?_, w'⟩
        · rw [← hw8] at e
          exact (wipe_some e).1
        · obtain ⟨o, e, _⟩ := T.obj _ _ st7 b hb
          exact (pinned b hb o e).2
      cases b with
      | false =>
        simp only [Bool.false_eq_true, if_false] at q9 ⊢
        exact again I9 q9
      | true =>
        simp only [if_true] at q9 ⊢
        refine thnF (pe.run _ s9 σ8 H9 _ I9 q9) fun z s10 h10 => ?_
        obtain ⟨y, H10, I10, r10, c, S, k, rfl, hD, room, nx⟩ := h10
        obtain ⟨t, rfl⟩ := (show ∃ t, z = Value.int c t from r10)
        exact addN_ok (X := X.blk s3 H3 scope cenv fp) I10 hD room fun s11 I11 => again I11 nx
  exact PpSet.codeAny_compStart_set loop (T.self X.A 0 _ _ _ st4 loop)
end
/-- its reading over anything walked -/
theorem scN_it {w : World} {J : It} {n : Nat} {G : Hp → Prop} {Y : Nat → Hp → V → Hp → Prop} (wk : Walk J n G Y) {g : TG} {tt : TT} {te : TE} {vs : List Nat} {σ : L2.St} {H1 : Hp} {D : Addr} {Qd : Hp → Prop} (Pv : Nat → Hp → Prop) (h0 : Pv 0 (upd H1 D (SetO w D (fun _ => false) 0))) (hG : ∀ i H, i ≤ n → Pv i H → G H)
    (hs : ∀ i x H H', i < n → Pv i H → Y i H x H' → g x (wipe σ vs) H' fun σ2 H2 => wipe σ2 vs = wipe σ vs ∧ tt σ2 H2 fun b H3 =>
      if b = true then te σ2 H3 fun y H4 => ∃ (c : Int) (S : Int → Bool) (k : Nat), y = .int c ∧ H4 D = some (SetO w D S k) ∧ k + 1 < scanBound ∧
        Pv (i + 1) (upd H4 D (SetO w D (fun j => S j || decide (j = c)) (if S c = true then k else k + 1)))
      else Pv (i + 1) H3) (hd : ∀ H, Pv n H → Qd H) :
    ∃ W : Nat → Nat → Hp → Prop, (∃ m, W 0 m (upd H1 D (SetO w D (fun _ => false) 0))) ∧ ∀ i m H, W i m H →
      (J.stop i H ∧ Qd H) ∨ (J.go i H ∧ ∃ Nx : Hp → Prop, (∀ H', Nx H' → ∃ m', m' < m ∧ W (i + 1) m' H') ∧ ∀ x H', J.yld i H x H' → g x (wipe σ vs) H' fun σ2 H2 => wipe σ2 vs = wipe σ vs ∧ tt σ2 H2 fun b H3 =>
        if b = true then te σ2 H3 fun y H4 => ∃ (c : Int) (S : Int → Bool) (k : Nat), y = .int c ∧ H4 D = some (SetO w D S k) ∧ k + 1 < scanBound ∧
          Nx (upd H4 D (SetO w D (fun j => S j || decide (j = c)) (if S c = true then k else k + 1)))
        else Nx H3) := by
  refine ⟨fun i left H => left + i = n ∧ Pv i H, ⟨n, rfl, h0⟩, fun i left H hw => ?_⟩
  obtain ⟨e, p⟩ := hw
  cases left with
  | zero =>
    obtain rfl : i = n := by omega
    exact Or.inl ⟨wk.stops H (hG i H (Nat.le_refl _) p), hd H p⟩
  | succ left =>
    have hi : i < n := by omega
    have hg := hG i H (Nat.le_of_lt hi) p
    exact Or.inr ⟨wk.goes i H hi hg, Pv (i + 1), fun H' p' => ⟨left, Nat.lt_succ_self _, by omega, p'⟩, fun x H' y => hs i x H H' hi p (wk.yields i H x H' hi hg y)⟩
end W7

namespace K0
open PySem PySem.Spec PyProof.Rows L2 W0 W1 W2 W5 W6 V0
namespace Say
theorem hd_letter {s : Say} (h : s.hd = "letter") : ∃ i, s = .lt i := by
  cases s with
  | lt i => exact ⟨i, rfl⟩
  | hr j => exact absurd (show ("here" : Str) = "letter" from h) (by decide)
  | yes => exact absurd h (by decide)
  | no => exact absurd h (by decide)
  | nt a => exact absurd (show ("not" : Str) = "letter" from h) (by decide)
  | an a b => exact absurd (show ("and" : Str) = "letter" from h) (by decide)
  | orr a b => exact absurd (show ("or" : Str) = "letter" from h) (by decide)
  | gv a b => exact absurd (show ("gives" : Str) = "letter" from h) (by decide)
  | ea w a => exact absurd (show ("each" : Str) = "letter" from h) (by decide)
  | so w a => exact absurd (show ("some" : Str) = "letter" from h) (by decide)
end Say
theorem dps_app' {K : PySem.W.Frag} {H : Hp} : ∀ {xs ys : List V} {ds es : List PyData}, DpAll K H xs ds → DpAll K H ys es → DpAll K H (xs ++ ys) (ds ++ es)
  | _, _, _, _, .nil, h => h
  | _, _, _, _, .cons a b, h => .cons a (dps_app' b h)
section
variable {P : Program} {w : World} {K : PySem.W.Frag} {mg : Str → Option Value} {base : Heap}
theorem bfs_part (s : Say) (i : Nat) : ((Say.lvls s.deep [s]).take i).flatten.length ≤ s.words.length := by
  rw [← (Say.bfs_perm s).length_eq]
  unfold Say.bfs
  conv => rhs; rw [← List.take_append_drop i (Say.lvls s.deep [s])]
  rw [List.flatten_append, List.length_append]
  omega
def sp_words_of (K : PySem.W.Frag) : Sp := fun vs H Q _ => ∃ (v : V) (s : Say), vs = [v] ∧ Dp K H v (dSay s) ∧ s.deep ≤ 200 ∧ s.words.length ≤ 5000 ∧ ∀ H' p xs, Same H H' → H p = none → H' p = some (.lst xs) → DpAll K H' xs (s.bfs.map dSay) → Q (.ref p) H'
set_option maxHeartbeats 1000000 in
theorem ok_words_of (T : Tops K w mg) : FnOk P w K mg base CX0 2 T.a_words_of T.fd_words_of p_words_of (sp_words_of K) := by
  have S := sc_words_of
  refine T.F_words_of.ok S (fun vs H Q E h => ?_) (fun cdv A outer s0 H vs Q E hr h => ?_)
  · obtain ⟨v, s, rfl, _⟩ := h
    rfl
  · obtain ⟨v, s, rfl, hd, hdeep, hw, q⟩ := h
    refine ⟨_, (pss_one (ps_ret (pe_lc2 (own := [("level", 1), ("word", 2)]) (vs1 := [2]) rfl S.nd (pi_list (pe_call (ok_levels_of T) (hr.mono (by first | decide | omega)) (by rfl) T.g_levels_of T.F_levels_of.kp T.b_levels_of .nil pass0 (pa_cons (pv 0) pa_nil))) (blkOk_by (N := n_words_of) (sc := defScope s_words_of) (by decide +kernel)) (by decide) (fun _ _ _ _ _ => (pg_name (i := 1) S.nd rfl (Or.inl rfl))) (fun _ _ _ _ _ => pts_nil) (fun _ _ _ _ _ => (V2.pi_listK (K := K) (pv 1))) (fun _ _ _ _ _ => (pg_name (i := 2) S.nd rfl (Or.inl rfl))) (fun _ _ _ _ _ => pts_nil) (fun _ _ _ _ _ => (pv 2))))), ?_⟩
    refine ⟨v, rfl, v, s, rfl, hd, hdeep, hw, fun H1 g ps e1 ng hg lv => ?_⟩
    refine ⟨g, rfl, ⟨_, SqL.of hg⟩, fun D nD => ?_⟩
    have lp := lv.1
    refine V9.lc2_out (walk_list (K := K) (a := g) (xs := ps.map V.ref)) (fun i H' => Same H1 H' ∧ ∃ us, H' D = some (.lst us) ∧ DpAll K H' us ((((Say.lvls s.deep [s]).take i).flatten).map dSay)) ⟨same_new nD, [], upd_same, .nil⟩ (fun i H' _ h => SqL.of (h.1 _ _ hg)) (fun i x H3 H4 hi h hy => ?_) (fun H2 h => ?_)
    · obtain ⟨rfl, hxi⟩ := hy
      obtain ⟨e3, us, hD, hus⟩ := h
      rw [List.getElem?_map] at hxi
      obtain ⟨p, hpi, rfl⟩ := Option.map_eq_some_iff.mp hxi
      have il : i < (Say.lvls s.deep [s]).length := by
        rw [← lp]
        exact (List.getElem?_eq_some_iff.mp hpi).1
      have hli : (Say.lvls s.deep [s])[i]? = some (Say.lvls s.deep [s])[i] := List.getElem?_eq_getElem il
      generalize (Say.lvls s.deep [s])[i] = l at hli
      obtain ⟨ws, hpw, hws⟩ := lv.2 i p l hpi hli
      replace hpw := e3 _ _ hpw
      replace hws := dps_same e3 _ _ hws
      have lw := dps_len hws
      rw [List.length_map] at lw
      refine ⟨rfl, .ref p, rfl, p, rfl, ⟨_, SqL.of hpw⟩, ?_⟩
      have pD : p ≠ D := fun z => by
        have hp1 := lv.2 i p l hpi hli
        obtain ⟨_, h1, _⟩ := hp1
        rw [z, nD] at h1
        cases h1
      have stp : ((Say.lvls s.deep [s]).take (i + 1)).flatten = ((Say.lvls s.deep [s]).take i).flatten ++ l := by
        rw [List.take_add_one, hli, List.flatten_append]
        simp
      refine V9.lc2_in (walk_list (K := K) (a := p) (xs := ws)) (fun j H' => Same H1 H' ∧ H' p = some (.lst ws) ∧ DpAll K H' ws (l.map dSay) ∧ ∃ us, H' D = some (.lst us) ∧ DpAll K H' us ((((Say.lvls s.deep [s]).take i).flatten ++ l.take j).map dSay))
        ⟨e3, hpw, hws, us, hD, by rw [List.take_zero, List.append_nil]; exact hus⟩ (fun j H' _ h => SqL.of h.2.1) (fun j x H6 H7 hj h hy => ?_) (fun H6 h => ?_)
      · obtain ⟨rfl, hxj⟩ := hy
        obtain ⟨e6, hpw6, hws6, us6, hD6, hus6⟩ := h
        obtain ⟨u, ui, um, du⟩ := get_say hws6 hxj
        have lu := dps_len hus6
        have b1 := bfs_part s (i + 1)
        rw [stp, List.length_append] at b1
        rw [List.length_map, List.length_append] at lu
        have lt' := List.length_take_le' j l
        refine ⟨rfl, x, rfl, us6, hD6, small (m := 9000) (by omega), same_upd_new e6 nD, (upd_ne pD).trans hpw6, dps_mv (fun b zs hb => sqT_upd hD6 hb) _ _ (noLs_says _) hws6, us6 ++ [x], upd_same, ?_⟩
        rw [List.take_add_one, ui, ← List.append_assoc, List.map_append]
        exact dps_app' (dps_mv (fun b zs hb => sqT_upd hD6 hb) _ _ (noLs_says _) hus6) (.cons (dp_mv (fun b zs hb => sqT_upd hD6 hb) _ _ (noL_say _) du) .nil)
      · obtain ⟨e6, hpw6, hws6, us6, hD6, hus6⟩ := h
        rw [lw, List.take_length, ← stp] at hus6
        exact ⟨e6, us6, hD6, hus6⟩
    · obtain ⟨e3, us, hD, hus⟩ := h
      rw [List.length_map, lp, List.take_length] at hus
      exact q H2 D us (e1.trans e3) (e1.free nD) hD hus
def sp_words_in (K : PySem.W.Frag) : Sp := fun vs H Q _ => ∃ (v : V) (s : Say), vs = [v] ∧ Dp K H v (dSay s) ∧ s.Ok ∧ s.deep ≤ 40 ∧ s.words.length ≤ 400 ∧ ∀ H', Same H H' → Q (.int s.words.length) H'
def sp_deep_of (K : PySem.W.Frag) : Sp := fun vs H Q _ => ∃ (v : V) (s : Say), vs = [v] ∧ Dp K H v (dSay s) ∧ s.deep ≤ 200 ∧ s.words.length ≤ 5000 ∧ ∀ H', Same H H' → Q (.int s.deep) H'
def sp_deep_in (K : PySem.W.Frag) : Sp := fun vs H Q _ => ∃ (v : V) (s : Say), vs = [v] ∧ Dp K H v (dSay s) ∧ s.Ok ∧ s.deep ≤ 40 ∧ s.words.length ≤ 400 ∧ ∀ H', Same H H' → Q (.int s.deep) H'
theorem nodup_le {α : Type} [BEq α] [LawfulBEq α] : ∀ (l m : List α), l.Nodup → (∀ x ∈ l, x ∈ m) → l.length ≤ m.length
  | [], _, _, _ => Nat.zero_le _
  | a :: l, m, hn, hs => by
    obtain ⟨h1, h2⟩ := List.nodup_cons.mp hn
    have ha := hs a List.mem_cons_self
    have h4 := nodup_le l (m.erase a) h2 fun x hx => (List.mem_erase_of_ne (fun e => h1 (by rw [← e]; exact hx))).mpr (hs x (List.mem_cons_of_mem _ hx))
    rw [List.length_erase_of_mem ha] at h4
    have h5 := List.length_pos_of_mem ha
    rw [List.length_cons]
    omega
theorem small8 {ls : List Int} (hn : ls.Nodup) (h : ∀ k ∈ ls, 0 ≤ k ∧ k < 8) : ls.length ≤ 8 :=
  nodup_le ls [0, 1, 2, 3, 4, 5, 6, 7] hn fun k hk => by
    have := h k hk
    simp
    omega
/-- the letters that stand in a saying -/
def Say.letters (s : Say) : List Int := s.words.filterMap fun t => match t with
  | .lt i => some (i : Int)
  | _ => none
theorem Say.letters8 {s : Say} (ok : s.Ok) : ∀ t ∈ s.words, t.Ok := by
  induction s with
  | lt i => intro t m; rw [List.mem_singleton.mp m]; exact ok
  | hr j => exact ok.elim
  | yes => intro t m; rw [List.mem_singleton.mp m]; exact ok
  | no => intro t m; rw [List.mem_singleton.mp m]; exact ok
  | nt a ih =>
    intro t m
    rcases List.mem_cons.mp m with rfl | m
    · exact ok
    · exact ih ok t m
  | an a b iha ihb =>
    intro t m
    rcases List.mem_cons.mp m with rfl | m
    · exact ok
    · rcases List.mem_append.mp m with m | m
      · exact iha ok.1 t m
      · exact ihb ok.2 t m
  | orr a b iha ihb =>
    intro t m
    rcases List.mem_cons.mp m with rfl | m
    · exact ok
    · rcases List.mem_append.mp m with m | m
      · exact iha ok.1 t m
      · exact ihb ok.2 t m
  | gv a b iha ihb =>
    intro t m
    rcases List.mem_cons.mp m with rfl | m
    · exact ok
    · rcases List.mem_append.mp m with m | m
      · exact iha ok.1 t m
      · exact ihb ok.2 t m
  | ea w a ih =>
    intro t m
    rcases List.mem_cons.mp m with rfl | m
    · exact ok
    · exact ih ok.2 t m
  | so w a ih =>
    intro t m
    rcases List.mem_cons.mp m with rfl | m
    · exact ok
    · exact ih ok.2 t m
theorem mem_letters {s : Say} {k : Int} : k ∈ s.letters ↔ ∃ i : Nat, Say.lt i ∈ s.words ∧ k = i := by
  unfold Say.letters
  rw [List.mem_filterMap]
  constructor
  · rintro ⟨t, m, h⟩
    cases t with
    | lt i => exact ⟨i, m, (Option.some.inj h).symm⟩
    | _ => cases h
  · rintro ⟨i, m, rfl⟩
    exact ⟨.lt i, m, rfl⟩
theorem few8 {ms : List Int} (asc : ms.Pairwise (· < ·)) (h : ∀ k ∈ ms, 0 ≤ k ∧ k < 8) : ms.length ≤ 8 := by
  rcases asc_below (n := 8) (a := 0) asc (fun e he => h e he) with e | e
  · exact e
  · rw [e]
    exact Nat.zero_le _
theorem WL_ok {l : List Say} (h : ∀ s ∈ l, s.Ok) {t : Say} (m : t ∈ l.flatMap Say.words) : t.Ok := by
  obtain ⟨s, hs, ht⟩ := List.mem_flatMap.mp m
  exact Say.letters8 (h s hs) t ht
theorem WL_len : ∀ {l : List Say} {b : Nat}, (∀ s ∈ l, s.words.length ≤ b) → (l.flatMap Say.words).length ≤ l.length * b
  | [], _, _ => Nat.zero_le _
  | s :: l, b, h => by
    have h1 := h s List.mem_cons_self
    have h2 := WL_len (l := l) fun t m => h t (List.mem_cons_of_mem _ m)
    rw [List.flatMap_cons, List.length_append, List.length_cons, Nat.add_mul, Nat.one_mul]
    omega
theorem BL_ok {l : List Say} (h : ∀ s ∈ l, s.Ok) {t : Say} (m : t ∈ l.flatMap Say.bfs) : t.Ok := by
  obtain ⟨s, hs, ht⟩ := List.mem_flatMap.mp m
  exact Say.letters8 (h s hs) t ((Say.bfs_perm s).mem_iff.mp ht)
theorem BL_len {l : List Say} {b : Nat} (h : ∀ s ∈ l, s.words.length ≤ b) : (l.flatMap Say.bfs).length ≤ l.length * b := by
  induction l with
  | nil => exact Nat.zero_le _
  | cons s l ih =>
    have h1 := h s List.mem_cons_self
    have h2 := ih fun t m => h t (List.mem_cons_of_mem _ m)
    rw [← (Say.bfs_perm s).length_eq] at h1
    rw [List.flatMap_cons, List.length_append, List.length_cons, Nat.add_mul, Nat.one_mul]
    omega
def sp_letters_of (K : PySem.W.Frag) : Sp := fun vs H Q _ => ∃ (p : Addr) (xs : List V) (l : List Say), vs = [.ref p] ∧ H p = some (.lst xs) ∧ DpAll K H xs (l.map dSay) ∧ (∀ s ∈ l, s.Ok ∧ s.deep ≤ 40 ∧ s.words.length ≤ 400) ∧ l.length ≤ 20 ∧ ∀ H' p (ms : List Int), Same H H' → SqT K H' p (ms.map V.int) → (∃ ob, H' p = some (.frz ob (.tup (ms.map V.int))) ∧ ob.dict = none ∧ ob.cls = .type "tuple") → ms.Pairwise (· < ·) → (∀ k, k ∈ ms ↔ ∃ s ∈ l, k ∈ s.letters) → Q (.ref p) H'
def sp_letters_in (K : PySem.W.Frag) : Sp := fun vs H Q _ => ∃ (v : V) (s : Say), vs = [v] ∧ Dp K H v (dSay s) ∧ s.Ok ∧ s.deep ≤ 40 ∧ s.words.length ≤ 400 ∧ ∀ H' p (ms : List Int), Same H H' → SqT K H' p (ms.map V.int) → (∃ ob, H' p = some (.frz ob (.tup (ms.map V.int))) ∧ ob.dict = none ∧ ob.cls = .type "tuple") → ms.Pairwise (· < ·) → (∀ k, k ∈ ms ↔ k ∈ s.letters) → Q (.ref p) H'
end
end K0

namespace K0
open PySem PySem.Spec PyProof.Rows L2 W0 W1 W2 W5 W6 V0 V1
/-- a row of worlds -/
structure Row (n : Int) (l : List Int) : Prop where
  all : ∀ x ∈ l, 0 ≤ x ∧ x < n
  asc : l.Pairwise (· < ·)
theorem Row.few {n : Nat} {l : List Int} (r : Row n l) : l.length ≤ n := by
  rcases asc_below (n := n) (a := 0) r.asc (fun e h => r.all e h) with e | e
  · exact e
  · rw [e]
    exact Nat.zero_le _
section
variable {P : Program} {w : World} {K : PySem.W.Frag} {mg : Str → Option Value} {base : Heap}
def sp_is_ascending_int (K : PySem.W.Frag) : Sp := fun vs H Q _ => ∃ (a : Addr) (l : List Int), vs = [.ref a] ∧ SqT K H a (l.map V.int) ∧ l.Pairwise (· < ·) ∧ l.length ≤ 1000 ∧ ∀ H', Same H H' → Q (.bl true) H'
theorem ok_is_ascending_int (T : Tops K w mg) : FnOk P w K mg base CX0 1 T.a_is_ascending T.fd_is_ascending p_is_ascending (sp_is_ascending_int K) := by
  have S := sc_is_ascending
  refine T.F_is_ascending.ok S (fun vs H Q E h => ?_) (fun cdv A outer s H vs Q E hr h => ?_)
  · obtain ⟨a, l, rfl, _⟩ := h
    rfl
  · obtain ⟨a, l, rfl, hs, hp, h1000, q⟩ := h
    refine ⟨_, (pss_one (ps_ret (pe_callB (cr_all rfl) (by rfl) T.m_all (by decide +kernel) (pa_cons (pe_lc (own := [("first", 1), ("second", 2)]) rfl S.nd (RZ.pi_zipA (by rfl) T.m_zip (pa_cons (pv 0) (pa_cons (pe_slice (sl_tupK (K := K)) (pv 0) (po_some pe_int) po_none) pa_nil))) (blkOk_by (N := n_is_ascending) (sc := defScope s_is_ascending) (by decide +kernel)) (fun _ _ _ _ _ => (pg_tupK (K := K) (n := 2) rfl (pgs_cons (pg_name (i := 1) S.nd rfl (Or.inl rfl)) (pgs_cons (pg_name (i := 2) S.nd rfl (Or.inl rfl)) pgs_nil)))) (fun _ _ _ _ _ => pts_nil) (fun _ _ _ _ _ => (pe_cmpR op_lt (pv 1) (pv 2) (nomark _)))) pa_nil)))), ?_⟩
    refine ⟨.ref a, rfl, .ref a, rfl, 1, rfl, a, _, rfl, hs, fun b H1 e1 hb => ?_⟩
    rw [cutT] at hb
    refine ⟨a, b, l.map V.int, (l.map V.int).drop 1, rfl, .inr ⟨same_tup e1 hs, hb, fun D nD => ?_⟩⟩
    refine lc_it (walk_zipT (K := K) (a := a) (b := b) (xs := l.map V.int) (ys := (l.map V.int).drop 1) (n := l.length - 1) (by rw [List.length_drop, List.length_map]; omega)) (D := D) (H1 := H1) (fun i H' => Same H H' ∧ Same H1 H' ∧ H' D = some (.lst (List.replicate i (.bl true))))
        ⟨same_upd_new e1 (e1.free nD), same_new nD, upd_same⟩ (fun i H' _ h => ⟨same_tup h.1 hs, same_tup h.2.1 hb⟩) (fun i x H' H2 hi hp' hy => ?step) (fun H' hp' => ?fin)
    case step =>
      obtain ⟨TT, x1, x2, rfl, nT, rfl, g1, g2⟩ := hy
      have g2' : (l.map V.int)[i + 1]? = some x2 := by
        have g3 : ((l.map V.int).drop 1)[i]? = some x2 := g2
        rw [List.getElem?_drop, Nat.add_comm] at g3
        exact g3
      have g1' : (l.map V.int)[i]? = some x1 := g1
      rw [List.getElem?_map] at g1' g2'
      obtain ⟨k1, q1, rfl⟩ := Option.map_eq_some_iff.mp g1'
      obtain ⟨k2, q2, rfl⟩ := Option.map_eq_some_iff.mp g2'
      have lt : k1 < k2 := by
        obtain ⟨l1, rfl⟩ := List.getElem?_eq_some_iff.mp q1
        obtain ⟨l2, rfl⟩ := List.getElem?_eq_some_iff.mp q2
        exact List.pairwise_iff_getElem.mp hp i (i + 1) l1 l2 (Nat.lt_succ_self i)
      have eT : Same H (upd H' TT (.tup [.int k1, .int k2])) := hp'.1.trans (same_new nT)
      have nDT : D ≠ TT := ne_of_none hp'.2.2 nT
      refine ⟨TT, [.int k1, .int k2], rfl, SqT.of upd_same, rfl, .int k1, [.int k2], rfl, .int k2, [], rfl, rfl, ?_⟩
      refine ⟨rfl, .int k1, rfl, .int k2, rfl, k1, k2, rfl, rfl, _, (upd_ne nDT).trans hp'.2.2, ?_, same_upd_new eT (e1.free nD), same_upd_new (hp'.2.1.trans (same_new nT)) nD, ?_⟩
      · rw [List.length_replicate]
        exact small (m := 1000) (by omega)
      · rw [upd_same]
        dsimp only
        rw [decide_eq_true lt, rep_snoc]
    case fin =>
      refine ⟨D, List.replicate (l.length - 1) true, rfl, ?_, ?_⟩
      · rw [← rep_bl]
        exact SqL.of hp'.2.2
      · rw [all_true]
        exact q _ hp'.1
def sp_are_worlds (K : PySem.W.Frag) : Sp := fun vs H Q _ => ∃ (v : V) (n : Nat) (A : List T3) (b : Addr) (l : List Int), vs = [v, .ref b] ∧ Dp K H v (dWeb n A) ∧ n ≤ 200 ∧ SqT K H b (l.map V.int) ∧ Row n l ∧ ∀ H', Same H H' → Q (.bl true) H'
theorem ok_are_worlds (T : Tops K w mg) : FnOk P w K mg base CX0 2 T.a_are_worlds T.fd_are_worlds p_are_worlds (sp_are_worlds K) := by
  have S := sc_are_worlds
  refine T.F_are_worlds.ok S (fun vs H Q E h => ?_) (fun cdv AA outer s H vs Q E hr h => ?_)
  · obtain ⟨v, n, A, b, l, rfl, _⟩ := h
    rfl
  · obtain ⟨v, n, A, b, l, rfl, hd, h200, hb, row, q⟩ := h
    refine ⟨_, (pss_cons (ps_set (i := 2) S.nd rfl (Or.inr rfl) (pe_ix (ix_tupK (K := K)) (pv 0) pe_int (fun _ _ => rfl)))
      (pss_cons (ps_if (pt_not (pt_val (pe_call (ok_is_tuple T) (hr.mono (by first | decide | omega)) (by rfl) T.g_is_tuple T.F_is_tuple.kp T.b_is_tuple .nil pass0 (pa_cons (pv 1) (pa_cons pe_int (pa_cons (pv 2) pa_nil)))))) (pss_one (ps_ret pe_bl)) pss_nil)
      (pss_one (ps_ret (pe_and (pe_callB (cr_all rfl) (by rfl) T.m_all (by decide +kernel) (pa_cons (pe_lc (own := [("world", 3)]) rfl S.nd (pi_tup (pv 1)) (blkOk_by (N := n_are_worlds) (sc := defScope s_are_worlds) (by decide +kernel)) (fun _ _ _ _ _ => (pg_name (i := 3) S.nd rfl (Or.inl rfl))) (fun _ _ _ _ _ => pts_nil) (fun _ _ _ _ _ => (pe_call (ok_is_number T) (hr.mono (by first | decide | omega)) (by rfl) T.g_is_number T.F_is_number.kp T.b_is_number .nil pass0 (pa_cons (pv 3) (pa_cons pe_int (pa_cons (pe_op op_sub (pv 2) pe_int) pa_nil)))))) pa_nil)) (pe_one (pe_call (ok_is_ascending_int T) (hr.mono (by first | decide | omega)) (by rfl) T.g_is_ascending T.F_is_ascending.kp T.b_is_ascending .nil pass0 (pa_cons (pv 1) pa_nil)))))))), ?_⟩
    obtain ⟨a, c, xs, rfl, hs, ht, hda⟩ := dp_web hd
    have few := row.few
    refine ⟨.ref a, rfl, a, [.int n, .ref c], 0, .int n, rfl, rfl, hs, atI_nat (j := 0) rfl, ?_⟩
    refine ⟨.ref b, rfl, .int n, rfl, b, _, 0, n, rfl, hb, ?_⟩
    rw [List.length_map, decide_eq_true (by omega : (0 : Int) ≤ (l.length : Int)), decide_eq_true (by omega : (l.length : Int) ≤ (n : Int))]
    refine ⟨true, rfl, ?_⟩
    refine ⟨.ref b, rfl, b, rfl, ⟨_, hb⟩, fun D nD => ?_⟩
    refine lc_tup (K := K) (a := b) (xs := l.map V.int) (fun j H' => Same H H' ∧ H' D = some (.lst (List.replicate j (.bl true)))) ⟨same_new nD, upd_same⟩ (fun i H' _ h => same_tup h.1 hb) (fun i x H2 hx h => ?_) (fun H2 h => ?_)
    · obtain ⟨e2, hD⟩ := h
      rw [List.getElem?_map] at hx
      obtain ⟨k, hk, rfl⟩ := Option.map_eq_some_iff.mp hx
      have r := row.all k (List.mem_of_getElem? hk)
      have hi := (List.getElem?_eq_some_iff.mp hk).1
      refine ⟨rfl, .int k, rfl, .int n, rfl, n, 1, rfl, rfl, k, 0, (n : Int) - 1, rfl, ?_⟩
      rw [decide_eq_true r.1, decide_eq_true (by omega : k ≤ (n : Int) - 1)]
      refine ⟨_, hD, ?_, same_upd_new e2 nD, ?_⟩
      · rw [List.length_replicate]
        exact small (m := 1000) (by omega)
      · rw [upd_same, ← rep_snoc]
        rfl
    · obtain ⟨e2, hD⟩ := h
      rw [List.length_map] at hD
      refine ⟨D, List.replicate l.length true, rfl, ?_, ?_⟩
      · rw [← rep_bl]
        exact SqL.of hD
      · rw [all_true]
        exact ⟨true, rfl, .ref b, rfl, b, l, rfl, same_tup e2 hb, row.asc, by omega, fun H3 e3 => q H3 (e2.trans e3)⟩
def dMark (M : List (List Int)) : PyData := .tuple (M.map dInts)
structure MOk (n : Int) (M : List (List Int)) : Prop where
  len : M.length ≤ 8
  all : ∀ l ∈ M, Row n l
theorem get_map {α : Type} {f : α → PyData} {H : Hp} {xs : List V} {L : List α} {i : Nat} {x : V} (h : DpAll K H xs (L.map f)) (hx : xs[i]? = some x) : ∃ t, L[i]? = some t ∧ t ∈ L ∧ Dp K H x (f t) := by
  have hl := dps_len h
  rw [List.length_map] at hl
  have hi : i < L.length := by
    have := (List.getElem?_eq_some_iff.mp hx).1
    omega
  have e : L[i]? = some L[i] := List.getElem?_eq_getElem hi
  obtain ⟨y, hy, hd⟩ := dps_get (i := i) (d := f L[i]) h (by rw [List.getElem?_map, e]; rfl)
  rw [hx] at hy
  cases hy
  exact ⟨L[i], e, List.getElem_mem hi, hd⟩
def sp_need_marking (K : PySem.W.Frag) : Sp := fun vs H Q _ => ∃ (v u : V) (n : Nat) (A : List T3) (M : List (List Int)), vs = [v, u] ∧ Dp K H v (dWeb n A) ∧ WOk n A ∧ Dp K H u (dMark M) ∧ MOk n M ∧ ∀ H', Same H H' → Q u H'
theorem ok_need_marking (T : Tops K w mg) : FnOk P w K mg base CX0 5 T.a_need_marking T.fd_need_marking p_need_marking (sp_need_marking K) := by
  have S := sc_need_marking
  refine T.F_need_marking.ok S (fun vs H Q E h => ?_) (fun cdv AA outer s H vs Q E hr h => ?_)
  · obtain ⟨v, u, n, A, M, rfl, _⟩ := h
    rfl
  · obtain ⟨v, u, n, A, M, rfl, hd, ok, hm, mok, q⟩ := h
    refine ⟨_, (pss_cons (ps_expr (pe_call (ok_need_web T) (hr.mono (by first | decide | omega)) (by rfl) T.g_need_web T.F_need_web.kp T.b_need_web .nil pass0 (pa_cons (pv 0) pa_nil)))
      (pss_cons (ps_if ((pw_or (pt_not (pt_val (pe_call (ok_is_tuple T) (hr.mono (by first | decide | omega)) (by rfl) T.g_is_tuple T.F_is_tuple.kp T.b_is_tuple .nil pass0 (pa_cons (pv 1) (pa_cons pe_int (pa_cons (pe_glob (v := .int (8)) (by rfl) T.c_LETTERS ⟨_, rfl⟩) pa_nil)))))) (pw_or1 (pt_not (pt_val (pe_callB (cr_all rfl) (by rfl) T.m_all (by decide +kernel) (pa_cons (pe_lc (own := [("item", 2)]) rfl S.nd (pi_tup (pv 1)) (blkOk_by (N := n_need_marking) (sc := defScope s_need_marking) (by decide +kernel)) (fun _ _ _ _ _ => (pg_name (i := 2) S.nd rfl (Or.inl rfl))) (fun _ _ _ _ _ => pts_nil) (fun _ _ _ _ _ => (pe_call (ok_are_worlds T) (hr.mono (by first | decide | omega)) (by rfl) T.g_are_worlds T.F_are_worlds.kp T.b_are_worlds .nil pass0 (pa_cons (pv 0) (pa_cons (pv 2) pa_nil))))) pa_nil))))))).pt (pss_one ps_never) pss_nil)
      (pss_one (ps_ret (pv 1))))), ?_⟩
    refine ⟨v, rfl, v, n, A, rfl, hd, ok, fun H1 e1 => ?_⟩
    obtain ⟨b, xs, rfl, hb, hx⟩ := dp_tup (dp_same e1 _ _ hm)
    have hlen := dps_len hx
    rw [List.length_map] at hlen
    have l8 := mok.len
    have n200 := ok.n2
    refine ⟨.ref b, rfl, b, _, 0, 8, rfl, hb, ?_⟩
    rw [hlen, decide_eq_true (by omega : (0 : Int) ≤ (M.length : Int)), decide_eq_true (by omega : (M.length : Int) ≤ 8)]
    refine ⟨true, rfl, ?_⟩
    refine ⟨.ref b, rfl, b, rfl, ⟨_, hb⟩, fun D nD => ?_⟩
    refine lc_tup (K := K) (a := b) (xs := xs) (fun j H' => Same H1 H' ∧ H' D = some (.lst (List.replicate j (.bl true)))) ⟨same_new nD, upd_same⟩ (fun i H' _ h => same_tup h.1 hb) (fun i x H2 hxi h => ?_) (fun H2 h => ?_)
    · obtain ⟨e2, hD⟩ := h
      obtain ⟨l, li, lm, dl⟩ := get_map (dps_same e2 _ _ hx) hxi
      obtain ⟨c, rfl, hc⟩ := dp_ints dl
      have hi := (List.getElem?_eq_some_iff.mp li).1
      refine ⟨rfl, v, rfl, .ref c, rfl, v, n, A, c, l, rfl, dp_same (e1.trans e2) _ _ hd, by omega, hc, mok.all l lm, fun H3 e3 => ?_⟩
      refine ⟨_, e3 _ _ hD, ?_, same_upd_new (e2.trans e3) nD, ?_⟩
      · rw [List.length_replicate]
        exact small (m := 1000) (by omega)
      · rw [upd_same, ← rep_snoc]
    · obtain ⟨e2, hD⟩ := h
      refine ⟨D, List.replicate xs.length true, rfl, ?_, ?_⟩
      · rw [← rep_bl]
        exact SqL.of hD
      · rw [all_true]
        exact ⟨true, rfl, .ref b, rfl, q H2 (e1.trans e2)⟩
end
end K0

namespace K0
open PySem PySem.Spec PyProof.Rows L2 W0 W1 W2 W5 W6 V0 V1
theorem ix_at {n j : Nat} (hj : j < n) : ixN n (j : Int) = some j := by
  unfold ixN
  rw [if_pos (Int.natCast_nonneg j), if_pos (by omega), Int.toNat_natCast]
theorem flat_rep (n : Nat) (x : V) : (List.replicate n [x]).flatten = List.replicate n x := by
  induction n with
  | zero => rfl
  | succ n ih => rw [List.replicate_succ, List.flatten_cons, ih, List.replicate_succ]; rfl
/-- an int for each world -/
def ansN (n : Nat) (g : Int → Nat) : List Int := (List.range n).map fun (x : Nat) => ((g x : Nat) : Int)
theorem ansN_len (n : Nat) (g : Int → Nat) : (ansN n g).length = n := by
  unfold ansN
  rw [List.length_map, List.length_range]
theorem ansN_get {n x : Nat} (g : Int → Nat) (h : x < n) : (ansN n g)[x]? = some ((g x : Nat) : Int) := by
  unfold ansN
  rw [List.getElem?_map, List.getElem?_range h]
  rfl
theorem ansN_at {n x : Nat} (g : Int → Nat) (h : x < n) : ((ansN n g).map V.int)[x]? = some (V.int ((g x : Nat) : Int)) := by
  rw [List.getElem?_map, ansN_get g h]
  rfl
theorem ansN_take {n j : Nat} (g : Int → Nat) (h : j < n) : (ansN n g).take (j + 1) = (ansN n g).take j ++ [((g j : Nat) : Int)] := by
  rw [List.take_add_one, ansN_get g h]
  rfl
theorem ansN_congr {n : Nat} {f g : Int → Nat} (h : ∀ x : Nat, x < n → f x = g x) : ansN n f = ansN n g := by
  unfold ansN
  refine List.map_congr_left fun x hx => ?_
  rw [h x (List.mem_range.mp hx)]
theorem ansN_zero (n : Nat) : ansN n (fun _ => 0) = List.replicate n 0 := by
  refine List.ext_getElem (by rw [ansN_len, List.length_replicate]) fun i h1 h2 => ?_
  rw [List.getElem_replicate]
  simp [ansN]
theorem ansN_step {n j : Nat} {g : Int → Nat} {H : Hp} {E : Addr} {b : Nat} (h : j < n) (e : b = g j) : upd H E (.lst (((ansN n g).take j).map V.int ++ [V.int (b : Int)])) E = some (.lst (((ansN n g).take (j + 1)).map V.int)) := by
  rw [upd_same, ansN_take g h, List.map_append, e]
  rfl
theorem ansN_few (n j : Nat) (g : Int → Nat) (h : n ≤ 200) : (((ansN n g).take j).map V.int).length < sizeLine := by
  rw [List.length_map]
  exact small (m := 200) (Nat.le_trans (List.length_take_le' _ _) (by rw [ansN_len]; exact h))
/-- one where it is marked -/
def one (l : List Int) : Int → Nat := fun x => if x ∈ l then 1 else 0
theorem one_set {n j : Nat} (l : List Int) (h : j < n) : (ansN n (one l)).set j 1 = ansN n (one (l ++ [(j : Int)])) := by
  refine List.ext_getElem (by rw [List.length_set, ansN_len, ansN_len]) fun i h1 h2 => ?_
  have g : ∀ (m : List Int) (z : i < (ansN n (one m)).length), (ansN n (one m))[i]'z = ((one m i : Nat) : Int) := fun m z => by simp [ansN]
  rw [List.getElem_set, g, g]
  unfold one
  by_cases e : j = i
  · rw [if_pos e, if_pos (List.mem_append.mpr (.inr (by rw [e]; exact List.mem_cons_self)))]
    rfl
  · rw [if_neg e]
    by_cases m : (i : Int) ∈ l
    · rw [if_pos m, if_pos (List.mem_append_left _ m)]
    · rw [if_neg m, if_neg fun z => ?_]
      rcases List.mem_append.mp z with z | z
      · exact m z
      · have := List.mem_singleton.mp z
        omega
section
variable {P : Program} {w : World} {K : PySem.W.Frag} {mg : Str → Option Value} {base : Heap}
def sp_marked_where (K : PySem.W.Frag) : Sp := fun vs H Q _ => ∃ (v : V) (f : Addr) (n : Nat) (A : List T3) (l : List Int), vs = [v, .ref f] ∧ Dp K H v (dWeb n A) ∧ n ≤ 200 ∧ SqT K H f (l.map V.int) ∧ (∀ x ∈ l, 0 ≤ x ∧ x < n) ∧
  ∀ H' D, Same H H' → H D = none → H' D = some (.lst ((ansN n (one l)).map V.int)) → Q (.ref D) H'
theorem ok_marked_where (T : Tops K w mg) : FnOk P w K mg base CX0 1 T.a_marked_where T.fd_marked_where p_marked_where (sp_marked_where K) := by
  have S := sc_marked_where
  refine T.F_marked_where.ok S (fun vs H Q E h => ?_) (fun cdv AA outer s H vs Q E hr h => ?_)
  · obtain ⟨v, f, n, A, l, rfl, _⟩ := h
    rfl
  · obtain ⟨v, f, n, A, l, rfl, hd, n2, hf, rng, q⟩ := h
    refine ⟨_, (pss_cons (ps_set (i := 2) S.nd rfl (Or.inl rfl) (pe_op op_rep (pe_lst (pa_cons pe_int pa_nil)) (pe_ix (ix_tupK (K := K)) (pv 0) pe_int (fun _ _ => rfl))))
      (pss_cons (ps_for PassesOwn.never rfl (pi_tup (pv 1)) (pg_name (i := 3) S.nd rfl (Or.inl rfl)) (pss_one (ps_asg pe_int (pg_sub (pv 2) (pv 3) set_list))))
      (pss_one (ps_ret (pv 2))))), ?_⟩
    obtain ⟨a, c, ys, rfl, hs, ht, hda⟩ := dp_web hd
    refine ⟨by show 1 ≤ sizeLine; decide, fun F nF => ?_⟩
    have eF := same_new (o := .lst [.int 0]) nF
    refine ⟨.ref a, rfl, a, [.int n, .ref c], 0, .int n, rfl, rfl, same_tup eF hs, atI_nat (j := 0) rfl, F, n, _, rfl, rfl, upd_same, by omega, by omega, ?_, fun D nD => ?_⟩
    · show 1 * ((n : Int)).toNat ≤ sizeLine
      rw [Int.toNat_natCast, Nat.one_mul]
      exact Nat.le_of_lt (small (m := 200) n2)
    have nDH : H D = none := eF.free nD
    have er : (List.replicate ((n : Int)).toNat [V.int 0]).flatten = (ansN n (one [])).map V.int := by
      rw [Int.toNat_natCast, flat_rep, show one [] = fun _ => 0 from funext fun x => if_neg (List.not_mem_nil), ansN_zero, List.map_replicate]
    rw [er]
    have eD := eF.trans (same_new (o := .lst ((ansN n (one [])).map V.int)) nD)
    have hD : upd (upd H F (.lst [.int 0])) D (.lst ((ansN n (one [])).map V.int)) D = some (.lst ((ansN n (one [])).map V.int)) := upd_same
    generalize upd _ D _ = H1 at eD hD
    refine ⟨.ref f, rfl, f, rfl, ⟨_, same_tup eD hf⟩, ?_⟩
    refine for_tup (K := K) (a := f) (xs := l.map V.int) (fun j σ H' => ∃ y3, σ = [some (.ref a), some (.ref f), some (.ref D), y3] ∧ Same H H' ∧ H' D = some (.lst ((ansN n (one (l.take j))).map V.int)))
      ⟨none, rfl, eD, hD⟩ (fun j σ H' _ h => by obtain ⟨_, _, e, _⟩ := h; exact same_tup e hf) (fun j x σ H2 hx h => ?_) (fun σ H2 h => ?_)
    · obtain ⟨y3, rfl, e2, hD2⟩ := h
      rw [List.getElem?_map] at hx
      obtain ⟨k, hk, rfl⟩ := Option.map_eq_some_iff.mp hx
      have rk := rng k (List.mem_of_getElem? hk)
      obtain ⟨k, rfl⟩ : ∃ z : Nat, k = z := ⟨k.toNat, (Int.toNat_of_nonneg rk.1).symm⟩
      have kn : k < n := by have := rk.2; omega
      refine ⟨.ref D, rfl, .int k, rfl, D, _, k, k, rfl, rfl, hD2, ix_at (by rw [List.length_map, ansN_len]; exact kn), _, rfl, same_upd_new e2 nDH, ?_⟩
      rw [upd_same, List.take_add_one, hk, show (some (k : Int)).toList = [(k : Int)] from rfl, ← one_set _ kn, List.map_set]
    · obtain ⟨y3, rfl, e2, hD2⟩ := h
      rw [List.length_map, List.take_length] at hD2
      exact ⟨.ref D, rfl, q H2 D e2 nDH hD2⟩
/-- the worlds with an answer other than 0 -/
def heldL (n : Nat) (f : Int → Bool) : List Int := ((List.range n).filter fun (x : Nat) => f x).map fun (x : Nat) => (x : Int)
theorem heldL_succ (n : Nat) (f : Int → Bool) : heldL (n + 1) f = if f n = true then heldL n f ++ [(n : Int)] else heldL n f := by
  unfold heldL
  rw [List.range_succ, List.filter_append, List.map_append]
  by_cases h : f n = true
  · rw [if_pos h, List.filter_cons_of_pos (by simpa using h)]
    rfl
  · rw [if_neg h, List.filter_cons_of_neg (by simpa using h)]
    exact List.append_nil _
theorem heldL_few (n : Nat) (f : Int → Bool) : (heldL n f).length ≤ n := by
  unfold heldL
  rw [List.length_map]
  exact Nat.le_trans (List.length_filter_le _ _) (by rw [List.length_range]; exact Nat.le_refl _)
theorem heldL_row (n : Nat) (f : Int → Bool) : Row n (heldL n f) := by
  refine ⟨fun x h => ?_, ?_⟩
  · unfold heldL at h
    obtain ⟨y, hy, rfl⟩ := List.mem_map.mp h
    have := List.mem_range.mp (List.mem_filter.mp hy).1
    exact ⟨by omega, by omega⟩
  · unfold heldL
    refine List.pairwise_map.mpr (List.Pairwise.imp (fun {a b} h => ?_) (List.Pairwise.filter _ List.pairwise_lt_range))
    omega
def sp_worlds_where (K : PySem.W.Frag) : Sp := fun vs H Q _ => ∃ (a : Addr) (n : Nat) (g : Int → Nat), vs = [.ref a] ∧ SqL K H a ((ansN n g).map V.int) ∧ n ≤ 200 ∧ ∀ H' p, Same H H' → SqT K H' p ((heldL n fun x => g x != 0).map V.int) → Q (.ref p) H'
theorem ok_worlds_where (T : Tops K w mg) : FnOk P w K mg base CX0 1 T.a_worlds_where T.fd_worlds_where p_worlds_where (sp_worlds_where K) := by
  have S := sc_worlds_where
  refine T.F_worlds_where.ok S (fun vs H Q E h => ?_) (fun cdv AA outer s H vs Q E hr h => ?_)
  · obtain ⟨a, n, g, rfl, _⟩ := h
    rfl
  · obtain ⟨a, n, g, rfl, ha, n2, q⟩ := h
    refine ⟨_, (pss_one (ps_ret (pe_callTy (call_tupleK (K := K)) (by rfl) T.m_tuple (by decide +kernel) (pa_cons (pe_lc (own := [("world", 1), ("answer", 2)]) rfl S.nd (pi_enum (by rfl) T.m_enumerate (pa_cons (pv 0) pa_nil)) (blkOk_by (N := n_worlds_where) (sc := defScope s_worlds_where) (by decide +kernel)) (fun _ _ _ _ _ => (pg_tupK (K := K) (n := 2) rfl (pgs_cons (pg_name (i := 1) S.nd rfl (Or.inl rfl)) (pgs_cons (pg_name (i := 2) S.nd rfl (Or.inl rfl)) pgs_nil)))) (fun _ _ _ _ _ => (pts_one (V6.pt_truthK (K := K) (pv 2) (by intro _; rfl)))) (fun _ _ _ _ _ => (pv 1))) pa_nil)))), ?_⟩
    refine ⟨.ref a, rfl, a, _, rfl, ha, fun E' nE => ?_⟩
    dsimp only [tNil]
    refine lc_it (walk_enum (K := K) (a := a) (xs := (ansN n g).map V.int)) (D := E') (H1 := H) (fun j H' => Same H H' ∧ H' E' = some (.lst ((heldL j fun x => g x != 0).map V.int)))
      ⟨same_new nE, upd_same⟩ (fun i H' _ h => h.1.seq ha) (fun j x H6 H7 hj h hy => ?_) (fun H6 h => ?_)
    · obtain ⟨e6, hE⟩ := h
      obtain ⟨TT, x1, x2, rfl, nT, rfl, w1, w2⟩ := hy
      rw [List.length_map, ansN_len] at hj
      obtain rfl : V.int (j : Nat) = x1 := Option.some.inj w1
      have w2' : ((ansN n g).map V.int)[j]? = some x2 := w2
      rw [ansN_at _ hj] at w2'
      obtain rfl : V.int ((g j : Nat) : Int) = x2 := Option.some.inj w2'
      have eT := same_new (o := .tup [V.int (j : Nat), V.int ((g j : Nat) : Int)]) nT
      refine ⟨TT, [.int (j : Nat), .int ((g j : Nat) : Int)], rfl, SqT.of upd_same, rfl, .int (j : Nat), _, rfl, .int ((g j : Nat) : Int), _, rfl, rfl, ?_⟩
      refine ⟨rfl, .int ((g j : Nat) : Int), rfl, _, rfl, ?_⟩
      have few := heldL_few j fun x => g x != 0
      have eb : (((g j : Nat) : Int) != 0) = (g j != 0) := by
        by_cases z : g j = 0
        · rw [z]
          rfl
        · have z' : ((g j : Nat) : Int) ≠ 0 := by omega
          rw [bne_iff_ne.mpr z, bne_iff_ne.mpr z']
      rw [eb]
      refine ite2 (fun hb => ?_) (fun hb => ?_)
      · refine ⟨.int (j : Nat), rfl, _, eT _ _ hE, ?_, same_upd_new (e6.trans eT) nE, ?_⟩
        · rw [List.length_map]
          exact small (m := 200) (by omega)
        · rw [upd_same, heldL_succ, if_pos hb, List.map_append]
          rfl
      · refine ⟨e6.trans eT, ?_⟩
        rw [heldL_succ, if_neg hb]
        exact eT _ _ hE
    · obtain ⟨e6, hE⟩ := h
      rw [List.length_map, ansN_len] at hE
      refine ⟨E', _, rfl, .inl ⟨SqL.of hE, fun p np => ?_⟩⟩
      exact q _ p (e6.trans (same_new np)) (SqT.of upd_same)
end
end K0

namespace K0
open PySem PySem.Spec PyProof.Rows L2 W0 W1 W2 W5 W6 V0 V1 V6
/-! ### where a saying or fact holds: v letter by letter, u world by world of the row -/
def holdV (A : List T3) (v u : Nat → Int → Bool) : Say → Int → Bool
  | .lt i, x => v i x
  | .hr j, x => u j x
  | .yes, _ => true
  | .no, _ => false
  | .nt s, x => !holdV A v u s x
  | .an a b, x => holdV A v u a x && holdV A v u b x
  | .orr a b, x => holdV A v u a x || holdV A v u b x
  | .gv a b, x => !holdV A v u a x || holdV A v u b x
  | .ea w s, x => (ledS A w x).all (holdV A v u s)
  | .so w s, x => (ledS A w x).any (holdV A v u s)
abbrev hold (A : List T3) (R : Nat → List Int) (s : Say) (x : Int) : Bool := holdV A (fun i y => decide (y ∈ R i)) (fun _ _ => false) s x
structure Leads (H : Hp) (d : Addr) (n : Nat) (A : List T3) : Prop where
  ex : ∃ kvs, H d = some (.dK kvs) ∧ ∀ w, In 6 w → ∃ (r : Addr) (cs : List Addr), valV kvs (Sum.inl w) = some (.ref r) ∧ H r = some (.lst (cs.map V.ref)) ∧ cs.length = n ∧ ∀ (x : Nat) c, cs[x]? = some c → H c = some (.lst ((ledS A w x).map V.int))
theorem Leads.on {H H' : Hp} {d : Addr} {n : Nat} {A : List T3} (l : Leads H d n A) (e : Same H H') : Leads H' d n A := by
  obtain ⟨kvs, h1, h2⟩ := l.ex
  refine ⟨kvs, e _ _ h1, fun w hw => ?_⟩
  obtain ⟨r, cs, g1, g2, g3, g4⟩ := h2 w hw
  exact ⟨r, cs, g1, e _ _ g2, g3, fun x c hx => e _ _ (g4 x c hx)⟩
theorem Lay.d {H0 H : Hp} {d : Addr} {n : Nat} {r : Int → Addr} {c : Int → Nat → Addr} {L : Int → Nat → List Int} {A : List T3} (l : Lay H0 H d n 6 r c L) (hL : ∀ w x, In 6 w → x < n → L w x = ledS A w x) : Leads H d n A := by
  obtain ⟨kvs, h1, _, h2⟩ := l.dict
  refine ⟨kvs, h1, fun w hw => ⟨r w, (List.range n).map (c w), h2 w hw, ?_, by rw [List.length_map, List.length_range], fun x y hx => ?_⟩⟩
  · rw [l.row w hw, List.map_map]
    rfl
  · rw [List.getElem?_map] at hx
    obtain ⟨z, hz, rfl⟩ := Option.map_eq_some_iff.mp hx
    obtain ⟨z1, z2⟩ := List.getElem?_eq_some_iff.mp hz
    rw [List.getElem_range] at z2
    subst z2
    rw [List.length_range] at z1
    rw [l.cell w _ hw z1, hL w _ hw z1]
def casesF (d : Addr) (D : Addr) (E : Addr) (f : Int) : List (Str × V) := [(("leads" : Str), V.ref d), (("marks" : Str), V.ref D), (("heres" : Str), V.ref E), (("full" : Str), V.int f)]
theorem casesF_n01 : ¬ (("leads" : Str) = "marks") := by decide +kernel
theorem casesF_n02 : ¬ (("leads" : Str) = "heres") := by decide +kernel
theorem casesF_n03 : ¬ (("leads" : Str) = "full") := by decide +kernel
theorem casesF_n12 : ¬ (("marks" : Str) = "heres") := by decide +kernel
theorem casesF_n13 : ¬ (("marks" : Str) = "full") := by decide +kernel
theorem casesF_n23 : ¬ (("heres" : Str) = "full") := by decide +kernel
theorem casesF_new (d : Addr) (D : Addr) (E : Addr) (f : Int) : putF "full" (V.int f) (putF "heres" (V.ref E) (putF "marks" (V.ref D) (putF "leads" (V.ref d) []))) = casesF d D E f := by
  have e1 : putF "marks" (V.ref D) [(("leads" : Str), V.ref d)] = [(("leads" : Str), V.ref d), (("marks" : Str), V.ref D)] := by
    show (if ("leads" : Str) = "marks" then _ else (("leads" : Str), V.ref d) :: putF "marks" (V.ref D) []) = _
    rw [if_neg casesF_n01]
    rfl
  have e2 : putF "heres" (V.ref E) [(("leads" : Str), V.ref d), (("marks" : Str), V.ref D)] = [(("leads" : Str), V.ref d), (("marks" : Str), V.ref D), (("heres" : Str), V.ref E)] := by
    show (if ("leads" : Str) = "heres" then _ else (("leads" : Str), V.ref d) :: (if ("marks" : Str) = "heres" then _ else (("marks" : Str), V.ref D) :: putF "heres" (V.ref E) [])) = _
    rw [if_neg casesF_n02, if_neg casesF_n12]
    rfl
  have e3 : putF "full" (V.int f) [(("leads" : Str), V.ref d), (("marks" : Str), V.ref D), (("heres" : Str), V.ref E)] = [(("leads" : Str), V.ref d), (("marks" : Str), V.ref D), (("heres" : Str), V.ref E), (("full" : Str), V.int f)] := by
    show (if ("leads" : Str) = "full" then _ else (("leads" : Str), V.ref d) :: (if ("marks" : Str) = "full" then _ else (("marks" : Str), V.ref D) :: (if ("heres" : Str) = "full" then _ else (("heres" : Str), V.ref E) :: putF "full" (V.int f) []))) = _
    rw [if_neg casesF_n03, if_neg casesF_n13, if_neg casesF_n23]
    rfl
  have e0 : putF "leads" (V.ref d) [] = [(("leads" : Str), V.ref d)] := rfl
  rw [e0, e1, e2, e3]
  rfl
theorem casesF_leads (d : Addr) (D : Addr) (E : Addr) (f : Int) : (casesF d D E f).lookup ("leads" : Str) = some (V.ref d) := by
  rw [← casesF_new, lookup_putF, if_neg casesF_n03, lookup_putF, if_neg casesF_n02, lookup_putF, if_neg casesF_n01, lookup_putF, if_pos rfl]
theorem casesF_marks (d : Addr) (D : Addr) (E : Addr) (f : Int) : (casesF d D E f).lookup ("marks" : Str) = some (V.ref D) := by
  rw [← casesF_new, lookup_putF, if_neg casesF_n13, lookup_putF, if_neg casesF_n12, lookup_putF, if_pos rfl]
theorem casesF_heres (d : Addr) (D : Addr) (E : Addr) (f : Int) : (casesF d D E f).lookup ("heres" : Str) = some (V.ref E) := by
  rw [← casesF_new, lookup_putF, if_neg casesF_n23, lookup_putF, if_pos rfl]
theorem casesF_full (d : Addr) (D : Addr) (E : Addr) (f : Int) : (casesF d D E f).lookup ("full" : Str) = some (V.int f) := by
  rw [← casesF_new, lookup_putF, if_pos rfl]
theorem casesF_no (d : Addr) (D : Addr) (E : Addr) (f : Int) {m : Str} (h0 : ¬ m = ("leads" : Str)) (h1 : ¬ m = ("marks" : Str)) (h2 : ¬ m = ("heres" : Str)) (h3 : ¬ m = ("full" : Str)) : (casesF d D E f).lookup m = none := by
  rw [← casesF_new, lookup_putF, if_neg h3, lookup_putF, if_neg h2, lookup_putF, if_neg h1, lookup_putF, if_neg h0]
  rfl
/-- all cases at once -/
abbrev ansB (N : Nat) (f : Nat → Int → Bool) : Int → Nat := fun x => bitsN N fun c => f c x
structure CaseEnv (H : Hp) (d D E : Addr) (n : Nat) (A : List T3) (N : Nat) (v u : Nat → Nat → Int → Bool) (s : Say) : Prop where
  ld : Leads H d n A
  ms : ∃ cs, H D = some (.lst cs) ∧ ∀ i, Say.lt i ∈ s.words → ∃ r, cs[i]? = some (.ref r) ∧ H r = some (.lst ((ansN n (ansB N fun c => v c i)).map V.int))
  hr : ∃ cs, H E = some (.lst cs) ∧ ∀ j, Say.hr j ∈ s.words → ∃ r, cs[j]? = some (.ref r) ∧ H r = some (.lst ((ansN n (ansB N fun c => u c j)).map V.int))
theorem CaseEnv.on {H H' : Hp} {d D E : Addr} {n : Nat} {A : List T3} {N : Nat} {v u : Nat → Nat → Int → Bool} {s : Say} (e : CaseEnv H d D E n A N v u s) (q : Same H H') : CaseEnv H' d D E n A N v u s := by
  obtain ⟨cs, h1, h2⟩ := e.ms
  obtain ⟨hs, g1, g2⟩ := e.hr
  exact ⟨e.ld.on q, ⟨cs, q _ _ h1, fun i m => let ⟨r, a, b⟩ := h2 i m; ⟨r, a, q _ _ b⟩⟩, ⟨hs, q _ _ g1, fun i m => let ⟨r, a, b⟩ := g2 i m; ⟨r, a, q _ _ b⟩⟩⟩
theorem CaseEnv.part {H : Hp} {d D E : Addr} {n : Nat} {A : List T3} {N : Nat} {v u : Nat → Nat → Int → Bool} {s t : Say} (e : CaseEnv H d D E n A N v u s) (p : t ∈ s.parts) : CaseEnv H d D E n A N v u t := by
  obtain ⟨cs, h1, h2⟩ := e.ms
  obtain ⟨hs, g1, g2⟩ := e.hr
  exact ⟨e.ld, ⟨cs, h1, fun i m => h2 i (Say.part_word p m)⟩, ⟨hs, g1, fun i m => g2 i (Say.part_word p m)⟩⟩
section
variable {P : Program} {w : World} {K : PySem.W.Frag} {mg : Str → Option Value} {base : Heap}
def sp_Cases_init (C : Addr) : Sp := fun vs H Q _ => ∃ (p dx d D E : Addr) (f : Int), vs = [.ref p, .ref d, .ref D, .ref E, .int f] ∧ H p = some (.ins C dx []) ∧ ∀ H', ButP p H H' → H' p = some (.ins C dx (casesF d D E f)) → Q .non H'
theorem ok_Cases___init__ (T : Tops K w mg) : FnOk P w K mg base CX0 1 T.a_Cases___init__ T.fd_Cases___init__ p_Cases___init__ (sp_Cases_init T.C_Cases) := by
  have S := sc_Cases___init__
  refine T.F_Cases___init__.ok S (fun vs H Q E h => ?_) (fun cdv A outer s0 H vs Q E hr h => ?_)
  · obtain ⟨p, dx, d, D, E, f, rfl, _⟩ := h
    rfl
  · obtain ⟨p, dx, d, D, E', f, rfl, hp, q⟩ := h
    refine ⟨_, (pss_cons (ps_fld (pv 0) (pv 1) rfl)
      (pss_cons (ps_fld (pv 0) (pv 2) rfl)
      (pss_cons (ps_fld (pv 0) (pv 3) rfl)
      (pss_one (ps_fld (pv 0) (pv 4) rfl))))), ?_⟩
    have l1 : (putF "leads" (.ref d) []).length = 1 := rfl
    have l2 := length_putF "marks" (.ref D) (putF "leads" (.ref d) [])
    have l3 := length_putF "heres" (.ref E') (putF "marks" (.ref D) (putF "leads" (.ref d) []))
    refine ⟨.ref d, rfl, .ref p, rfl, p, T.C_Cases, dx, [], rfl, hp, T.cl_Cases, T.na_Cases_leads, by decide, ?_⟩
    refine ⟨.ref D, rfl, .ref p, rfl, p, T.C_Cases, dx, _, rfl, upd_same, T.cl_Cases, T.na_Cases_marks, by omega, ?_⟩
    refine ⟨.ref E', rfl, .ref p, rfl, p, T.C_Cases, dx, _, rfl, upd_same, T.cl_Cases, T.na_Cases_heres, by omega, ?_⟩
    refine ⟨.int f, rfl, .ref p, rfl, p, T.C_Cases, dx, _, rfl, upd_same, T.cl_Cases, T.na_Cases_full, by omega, ?_⟩
    rw [casesF_new]
    exact q _ ((((ButP.of (Same.refl H)).own).own).own).own upd_same
/-- each, some: row by row -/
def sp_everywhere (K : PySem.W.Frag) : Sp := fun vs H Q _ => ∃ (f : Int) (r a : Addr) (n N : Nat) (cs : List Addr) (L : Nat → List Int) (g : Nat → Int → Bool), vs = [.int f, .ref r, .ref a] ∧ f = ((bitsN N fun _ => true : Nat) : Int) ∧ n ≤ 200 ∧ H r = some (.lst (cs.map V.ref)) ∧ cs.length = n ∧ (∀ (x : Nat) c, cs[x]? = some c → H c = some (.lst ((L x).map V.int))) ∧ (∀ x y, x < n → y ∈ L x → 0 ≤ y ∧ y < n) ∧
  H a = some (.lst ((ansN n (ansB N g)).map V.int)) ∧ ∀ H' p, Same H H' → H' p = some (.lst ((ansN n (ansB N fun c x => (L x.toNat).all (g c))).map V.int)) → Q (.ref p) H'
theorem ok__everywhere (T : Tops K w mg) : FnOk P w K mg base CX0 1 T.a__everywhere T.fd__everywhere p__everywhere (sp_everywhere K) := by
  have S := sc__everywhere
  refine T.F__everywhere.ok S (fun vs H Q E h => ?_) (fun cdv AA outer s0 H vs Q E hr h => ?_)
  · obtain ⟨f, r, a, n, N, cs, L, g, rfl, _⟩ := h
    rfl
  · obtain ⟨f, r, a, n, N, cs, L, g, rfl, rfl, n2, hr1, hcl, hc, rng, ha, q⟩ := h
    refine ⟨_, (pss_cons (ps_set (i := 3) S.nd rfl (Or.inl rfl) (pe_lst pa_nil))
      (pss_cons (ps_for PassesOwn.never rfl (pi_list (pv 1)) (pg_name (i := 4) S.nd rfl (Or.inl rfl)) (pss_cons (ps_set (i := 5) S.nd rfl (Or.inl rfl) (pv 0))
      (pss_cons (ps_for PassesOwn.never rfl (pi_list (pv 4)) (pg_name (i := 6) S.nd rfl (Or.inl rfl)) (pss_one (ps_set (i := 5) S.nd rfl (Or.inl rfl) (pe_op V6.op_andB (pv 5) (pe_ix (ix_listK (K := K)) (pv 2) (pv 6) (fun _ _ => rfl))))))
      (pss_one (ps_expr (pe_bm PySem.F.plainAttrs_list PySem.F.slot_list_append PySem.F.type_list_append mt_append (pv 3) (pa_cons (pv 5) pa_nil)))))))
      (pss_one (ps_ret (pv 3))))), ?_⟩
    refine ⟨Nat.zero_le _, fun D nD => ?_⟩
    have e0 := same_new (o := .lst []) nD
    refine ⟨.ref r, rfl, r, rfl, ⟨_, SqL.of (e0 _ _ hr1)⟩, ?_⟩
    refine for_list (K := K) (a := r) (xs := cs.map V.ref) (fun j σ H' => ∃ y4 y5 y6, σ = [some (.int ((bitsN N fun _ => true : Nat) : Int)), some (.ref r), some (.ref a), some (.ref D), y4, y5, y6] ∧ Same H H' ∧ H' D = some (.lst (((ansN n (ansB N fun c x => (L x.toNat).all (g c))).take j).map V.int)))
      ⟨none, none, none, rfl, e0, upd_same⟩ (fun j σ H' _ h => by obtain ⟨_, _, _, _, e, _⟩ := h; exact SqL.of (e _ _ hr1)) (fun j x σ H2 hx h => ?_) (fun σ H2 h => ?_)
    · obtain ⟨y4, y5, y6, rfl, e2, hD⟩ := h
      rw [List.getElem?_map] at hx
      obtain ⟨c, hcj, rfl⟩ := Option.map_eq_some_iff.mp hx
      have jn : j < n := by
        have := (List.getElem?_eq_some_iff.mp hcj).1
        omega
      have hcell := e2 _ _ (hc j c hcj)
      refine ⟨.int ((bitsN N fun _ => true : Nat) : Int), rfl, .ref c, rfl, c, rfl, ⟨_, SqL.of hcell⟩, ?_⟩
      refine for_list (K := K) (a := c) (xs := (L j).map V.int) (fun z σ H' => ∃ y6, σ = [some (.int ((bitsN N fun _ => true : Nat) : Int)), some (.ref r), some (.ref a), some (.ref D), some (.ref c), some (.int ((bitsN N fun k => ((L j).take z).all (g k) : Nat) : Int)), y6] ∧ H' = H2)
        ⟨y6, rfl, rfl⟩ (fun z σ H' _ h => by obtain ⟨_, _, rfl⟩ := h; exact SqL.of hcell) (fun z x σ H3 hx h => ?_) (fun σ H3 h => ?_)
      · obtain ⟨y6, rfl, rfl⟩ := h
        rw [List.getElem?_map] at hx
        obtain ⟨y, hy, rfl⟩ := Option.map_eq_some_iff.mp hx
        have ry := rng j y jn (List.mem_of_getElem? hy)
        obtain ⟨y, rfl⟩ : ∃ k : Nat, y = k := ⟨y.toNat, (Int.toNat_of_nonneg ry.1).symm⟩
        have yn : y < n := by have := ry.2; omega
        refine ⟨.int ((bitsN N fun k => ((L j).take z).all (g k) : Nat) : Int), rfl, .ref a, rfl, .int y, rfl, a, _, y, .int ((bitsN N fun k => g k y : Nat) : Int), rfl, rfl, SqL.of (e2 _ _ ha), atI_nat (ansN_at _ yn), _, _, rfl, rfl, ?_⟩
        have e : (bitsN N fun k => ((L j).take z).all (g k)) &&& (bitsN N fun k => g k y) = bitsN N fun k => ((L j).take (z + 1)).all (g k) := by
          rw [bits_and, List.take_add_one, hy]
          simp only [List.all_append, Option.toList_some, List.all_cons, List.all_nil, Bool.and_true]
        refine ⟨some (.int (y : Int)), ?_, rfl⟩
        rw [← e]
        rfl
      · obtain ⟨y6, rfl, rfl⟩ := h
        rw [List.length_map, List.take_length]
        refine ⟨.ref D, rfl, .inl ⟨rfl, _, SqL.of hD⟩, .int ((bitsN N fun k => (L j).all (g k) : Nat) : Int), rfl, D, _, _, rfl, rfl, hD, ansN_few n j _ n2, ?_⟩
        refine ⟨_, _, _, rfl, same_upd_new e2 nD, ?_⟩
        exact ansN_step jn (by show _ = bitsN N fun c => (L (j : Int).toNat).all (g c); rw [Int.toNat_natCast])
    · obtain ⟨y4, y5, y6, rfl, e2, hD⟩ := h
      rw [List.length_map, hcl, List.take_of_length_le (by rw [ansN_len]; exact Nat.le_refl _)] at hD
      exact ⟨.ref D, rfl, q H2 D e2 hD⟩
def sp_somewhere (K : PySem.W.Frag) : Sp := fun vs H Q _ => ∃ (r a : Addr) (n N : Nat) (cs : List Addr) (L : Nat → List Int) (g : Nat → Int → Bool), vs = [.ref r, .ref a] ∧ n ≤ 200 ∧ H r = some (.lst (cs.map V.ref)) ∧ cs.length = n ∧ (∀ (x : Nat) c, cs[x]? = some c → H c = some (.lst ((L x).map V.int))) ∧ (∀ x y, x < n → y ∈ L x → 0 ≤ y ∧ y < n) ∧
  H a = some (.lst ((ansN n (ansB N g)).map V.int)) ∧ ∀ H' p, Same H H' → H' p = some (.lst ((ansN n (ansB N fun c x => (L x.toNat).any (g c))).map V.int)) → Q (.ref p) H'
theorem ok_somewhere (T : Tops K w mg) : FnOk P w K mg base CX0 1 T.a_somewhere T.fd_somewhere p_somewhere (sp_somewhere K) := by
  have S := sc_somewhere
  refine T.F_somewhere.ok S (fun vs H Q E h => ?_) (fun cdv AA outer s0 H vs Q E hr h => ?_)
  · obtain ⟨r, a, n, N, cs, L, g, rfl, _⟩ := h
    rfl
  · obtain ⟨r, a, n, N, cs, L, g, rfl, n2, hr1, hcl, hc, rng, ha, q⟩ := h
    refine ⟨_, (pss_cons (ps_set (i := 2) S.nd rfl (Or.inl rfl) (pe_lst pa_nil))
      (pss_cons (ps_for PassesOwn.never rfl (pi_list (pv 0)) (pg_name (i := 3) S.nd rfl (Or.inl rfl)) (pss_cons (ps_set (i := 4) S.nd rfl (Or.inl rfl) pe_int)
      (pss_cons (ps_for PassesOwn.never rfl (pi_list (pv 3)) (pg_name (i := 5) S.nd rfl (Or.inl rfl)) (pss_one (ps_set (i := 4) S.nd rfl (Or.inl rfl) (pe_op V6.op_orB (pv 4) (pe_ix (ix_listK (K := K)) (pv 1) (pv 5) (fun _ _ => rfl))))))
      (pss_one (ps_expr (pe_bm PySem.F.plainAttrs_list PySem.F.slot_list_append PySem.F.type_list_append mt_append (pv 2) (pa_cons (pv 4) pa_nil)))))))
      (pss_one (ps_ret (pv 2))))), ?_⟩
    refine ⟨Nat.zero_le _, fun D nD => ?_⟩
    have e0 := same_new (o := .lst []) nD
    refine ⟨.ref r, rfl, r, rfl, ⟨_, SqL.of (e0 _ _ hr1)⟩, ?_⟩
    refine for_list (K := K) (a := r) (xs := cs.map V.ref) (fun j σ H' => ∃ y4 y5 y6, σ = [some (.ref r), some (.ref a), some (.ref D), y4, y5, y6] ∧ Same H H' ∧ H' D = some (.lst (((ansN n (ansB N fun c x => (L x.toNat).any (g c))).take j).map V.int)))
      ⟨none, none, none, rfl, e0, upd_same⟩ (fun j σ H' _ h => by obtain ⟨_, _, _, _, e, _⟩ := h; exact SqL.of (e _ _ hr1)) (fun j x σ H2 hx h => ?_) (fun σ H2 h => ?_)
    · obtain ⟨y4, y5, y6, rfl, e2, hD⟩ := h
      rw [List.getElem?_map] at hx
      obtain ⟨c, hcj, rfl⟩ := Option.map_eq_some_iff.mp hx
      have jn : j < n := by
        have := (List.getElem?_eq_some_iff.mp hcj).1
        omega
      have hcell := e2 _ _ (hc j c hcj)
      refine ⟨.ref c, rfl, c, rfl, ⟨_, SqL.of hcell⟩, ?_⟩
      have z0 : V.int 0 = V.int ((bitsN N fun k => ((L j).take 0).any (g k) : Nat) : Int) := by
        rw [show (fun k => ((L j).take 0).any (g k)) = fun _ => false from rfl, bits_none]
        rfl
      rw [z0]
      refine for_list (K := K) (a := c) (xs := (L j).map V.int) (fun z σ H' => ∃ y6, σ = [some (.ref r), some (.ref a), some (.ref D), some (.ref c), some (.int ((bitsN N fun k => ((L j).take z).any (g k) : Nat) : Int)), y6] ∧ H' = H2)
        ⟨y6, rfl, rfl⟩ (fun z σ H' _ h => by obtain ⟨_, _, rfl⟩ := h; exact SqL.of hcell) (fun z x σ H3 hx h => ?_) (fun σ H3 h => ?_)
      · obtain ⟨y6, rfl, rfl⟩ := h
        rw [List.getElem?_map] at hx
        obtain ⟨y, hy, rfl⟩ := Option.map_eq_some_iff.mp hx
        have ry := rng j y jn (List.mem_of_getElem? hy)
        obtain ⟨y, rfl⟩ : ∃ k : Nat, y = k := ⟨y.toNat, (Int.toNat_of_nonneg ry.1).symm⟩
        have yn : y < n := by have := ry.2; omega
        refine ⟨.int ((bitsN N fun k => ((L j).take z).any (g k) : Nat) : Int), rfl, .ref a, rfl, .int y, rfl, a, _, y, .int ((bitsN N fun k => g k y : Nat) : Int), rfl, rfl, SqL.of (e2 _ _ ha), atI_nat (ansN_at _ yn), _, _, rfl, rfl, ?_⟩
        have e : (bitsN N fun k => ((L j).take z).any (g k)) ||| (bitsN N fun k => g k y) = bitsN N fun k => ((L j).take (z + 1)).any (g k) := by
          rw [bits_or, List.take_add_one, hy]
          simp only [List.any_append, Option.toList_some, List.any_cons, List.any_nil, Bool.or_false]
        refine ⟨some (.int (y : Int)), ?_, rfl⟩
        rw [← e]
        rfl
      · obtain ⟨y6, rfl, rfl⟩ := h
        rw [List.length_map, List.take_length]
        refine ⟨.ref D, rfl, .inl ⟨rfl, _, SqL.of hD⟩, .int ((bitsN N fun k => (L j).any (g k) : Nat) : Int), rfl, D, _, _, rfl, rfl, hD, ansN_few n j _ n2, ?_⟩
        refine ⟨_, _, _, rfl, same_upd_new e2 nD, ?_⟩
        exact ansN_step jn (by show _ = bitsN N fun c => (L (j : Int).toNat).any (g c); rw [Int.toNat_natCast])
    · obtain ⟨y4, y5, y6, rfl, e2, hD⟩ := h
      rw [List.length_map, hcl, List.take_of_length_le (by rw [ansN_len]; exact Nat.le_refl _)] at hD
      exact ⟨.ref D, rfl, q H2 D e2 hD⟩
end
end K0

namespace K0
open PySem PySem.Spec PyProof.Rows L2 W0 W1 W2 W5 W6 V0 V1 V6
theorem casesF_ans (d D E : Addr) (f : Int) : (casesF d D E f).lookup ("answers" : Str) = none := casesF_no _ _ _ _ (by decide +kernel) (by decide +kernel) (by decide +kernel) (by decide +kernel)
theorem hd_here {s : Say} (h : s.hd = "here") : ∃ j, s = .hr j := by
  cases s with
  | hr j => exact ⟨j, rfl⟩
  | lt j => exact absurd (show ("letter" : Str) = "here" from h) (by decide)
  | yes  => exact absurd (show ("yes" : Str) = "here" from h) (by decide)
  | no  => exact absurd (show ("no" : Str) = "here" from h) (by decide)
  | nt t => exact absurd (show ("not" : Str) = "here" from h) (by decide)
  | an t t2 => exact absurd (show ("and" : Str) = "here" from h) (by decide)
  | orr t t2 => exact absurd (show ("or" : Str) = "here" from h) (by decide)
  | gv t t2 => exact absurd (show ("gives" : Str) = "here" from h) (by decide)
  | ea i t => exact absurd (show ("each" : Str) = "here" from h) (by decide)
  | so i t => exact absurd (show ("some" : Str) = "here" from h) (by decide)
/-- the answers of a saying at the address -/
def AnsAt (H : Hp) (p : Addr) (n N : Nat) (g : Nat → Int → Bool) : Prop := H p = some (.lst ((ansN n (ansB N g)).map V.int))
section
variable {P : Program} {w : World} {K : PySem.W.Frag} {mg : Str → Option Value} {base : Heap}
def sp_answers (K : PySem.W.Frag) (C : Addr) (e : Nat) : Sp := fun vs H Q _ => ∃ (o dx d D E : Addr) (y : V) (n : Nat) (A : List T3) (N : Nat) (v u : Nat → Nat → Int → Bool) (s : Say), vs = [.ref o, y] ∧ H o = some (.ins C dx (casesF d D E ((bitsN N fun _ => true : Nat) : Int))) ∧ CaseEnv H d D E n A N v u s ∧ Dp K H y (dSay s) ∧ (∃ nl nh dn, s.OkN nl nh dn) ∧ s.deep ≤ e ∧ WOk n A ∧
  ∀ H' p, Same H H' → AnsAt H' p n N (fun c => holdV A (v c) (u c) s) → Q (.ref p) H'
set_option maxHeartbeats 4000000 in
theorem ok_Cases_answers (T : Tops K w mg) : ∀ e : Nat, FnOk P w K mg base CX0 (e + 2) T.a_Cases_answers T.fd_Cases_answers p_Cases_answers (sp_answers K T.C_Cases e)
  | 0 => by
    have S := sc_Cases_answers
    refine T.F_Cases_answers.ok S (fun vs H Q E h => ?_) (fun cdv AA outer s0 H vs Q E hr h => ?_)
    · obtain ⟨o, dx, d, D, E, y, n, A, N, v, u, s, rfl, _⟩ := h
      rfl
    · obtain ⟨o, dx, d, D, E, y, n, A, N, v, u, s, rfl, _, _, _, _, h0, _⟩ := h
      exact absurd (Say.deep_pos s) (by omega)
  | e + 1 => by
    have ih := ok_Cases_answers T e
    have S := sc_Cases_answers
    refine T.F_Cases_answers.ok S (fun vs H Q E h => ?_) (fun cdv AA outer s0 H vs Q E' hr h => ?_)
    · obtain ⟨o, dx, d, D, E, y, n, A, N, v, u, s, rfl, _⟩ := h
      rfl
    · obtain ⟨o, dx, d, D, E, y, n, A, N, v, u, s, rfl, ho, env, hd, ⟨nl, nh, dn, ok⟩, hdeep, wok, q⟩ := h
      refine ⟨_, (pss_cons (ps_set (i := 2) S.nd rfl (Or.inl rfl) (pe_ix (ix_tupK (K := K)) (pv 1) pe_int (fun _ _ => rfl)))
      (pss_cons (ps_if (pt_cmpR op_eq (pv 2) pe_str (nomark _)) (pss_one (ps_ret (pe_ix (ix_listK (K := K)) (V6.pe_fldK (K := K) (pv 0) rfl) (pe_ix (ix_tupK (K := K)) (pv 1) pe_int (fun _ _ => rfl)) (fun _ _ => rfl)))) pss_nil)
      (pss_cons (ps_if (pt_cmpR op_eq (pv 2) pe_str (nomark _)) (pss_one (ps_ret (pe_ix (ix_listK (K := K)) (V6.pe_fldK (K := K) (pv 0) rfl) (pe_ix (ix_tupK (K := K)) (pv 1) pe_int (fun _ _ => rfl)) (fun _ _ => rfl)))) pss_nil)
      (pss_cons (ps_if (pt_cmpR op_eq (pe_callB call_len_seq (by rfl) T.m_len (by decide +kernel) (pa_cons (pv 1) pa_nil)) pe_int (nomark _)) (pss_one (ps_ret (pe_op op_rep (pe_lst (pa_cons (pe_ifExp (pt_cmpR op_eq (pv 2) pe_str (nomark _)) (V6.pe_fldK (K := K) (pv 0) rfl) pe_int) pa_nil)) (pe_callB call_len_seq (by rfl) T.m_len (by decide +kernel) (pa_cons (pe_dget (hu_of hr) (V6.pe_fldK (K := K) (pv 0) rfl) pe_int (fun _ _ => rfl)) pa_nil))))) pss_nil)
      (pss_cons (ps_if (pt_cmpR op_eq (pv 2) pe_str (nomark _)) (pss_one (ps_ret (pe_call (ok__everywhere T) (hr.mono (by first | decide | omega)) (by rfl) T.g__everywhere T.F__everywhere.kp T.b__everywhere .nil pass0 (pa_cons (V6.pe_fldK (K := K) (pv 0) rfl) (pa_cons (pe_dget (hu_of hr) (V6.pe_fldK (K := K) (pv 0) rfl) (pe_ix (ix_tupK (K := K)) (pv 1) pe_int (fun _ _ => rfl)) (fun _ _ => rfl)) (pa_cons (pe_meth (pv 0) T.cl_Cases T.me_Cases_answers ih (hr.mono (by omega)) T.b_Cases_answers .nil pass0 (pa_cons (pe_ix (ix_tupK (K := K)) (pv 1) pe_int (fun _ _ => rfl)) pa_nil)) pa_nil)))))) pss_nil)
      (pss_cons (ps_if (pt_cmpR op_eq (pv 2) pe_str (nomark _)) (pss_one (ps_ret (pe_call (ok_somewhere T) (hr.mono (by first | decide | omega)) (by rfl) T.g_somewhere T.F_somewhere.kp T.b_somewhere .nil pass0 (pa_cons (pe_dget (hu_of hr) (V6.pe_fldK (K := K) (pv 0) rfl) (pe_ix (ix_tupK (K := K)) (pv 1) pe_int (fun _ _ => rfl)) (fun _ _ => rfl)) (pa_cons (pe_meth (pv 0) T.cl_Cases T.me_Cases_answers ih (hr.mono (by omega)) T.b_Cases_answers .nil pass0 (pa_cons (pe_ix (ix_tupK (K := K)) (pv 1) pe_int (fun _ _ => rfl)) pa_nil)) pa_nil))))) pss_nil)
      (pss_cons (ps_set (i := 3) S.nd rfl (Or.inl rfl) (pe_meth (pv 0) T.cl_Cases T.me_Cases_answers ih (hr.mono (by omega)) T.b_Cases_answers .nil pass0 (pa_cons (pe_ix (ix_tupK (K := K)) (pv 1) pe_int (fun _ _ => rfl)) pa_nil)))
      (pss_cons (ps_if (pt_cmpR op_eq (pv 2) pe_str (nomark _)) (pss_one (ps_ret (pe_lc (own := [("here", 5)]) rfl S.nd (pi_list (pv 3)) (blkOk_by (N := n_Cases_answers) (sc := defScope s_Cases_answers) (by decide +kernel)) (fun _ _ _ _ _ => (pg_name (i := 5) S.nd rfl (Or.inl rfl))) (fun _ _ _ _ _ => pts_nil) (fun _ _ _ _ _ => (pe_op V6.op_xorB (V6.pe_fldK (K := K) (pv 0) rfl) (pv 5)))))) pss_nil)
      (pss_cons (ps_set (i := 4) S.nd rfl (Or.inl rfl) (pe_meth (pv 0) T.cl_Cases T.me_Cases_answers ih (hr.mono (by omega)) T.b_Cases_answers .nil pass0 (pa_cons (pe_ix (ix_tupK (K := K)) (pv 1) pe_int (fun _ _ => rfl)) pa_nil)))
      (pss_cons (ps_if (pt_cmpR op_eq (pv 2) pe_str (nomark _)) (pss_one (ps_ret (pe_lc (own := [("here", 5), ("other", 6)]) rfl S.nd (pi_zip (by rfl) T.m_zip (pa_cons (pv 3) (pa_cons (pv 4) pa_nil))) (blkOk_by (N := n_Cases_answers) (sc := defScope s_Cases_answers) (by decide +kernel)) (fun _ _ _ _ _ => (pg_tupK (K := K) (n := 2) rfl (pgs_cons (pg_name (i := 5) S.nd rfl (Or.inl rfl)) (pgs_cons (pg_name (i := 6) S.nd rfl (Or.inl rfl)) pgs_nil)))) (fun _ _ _ _ _ => pts_nil) (fun _ _ _ _ _ => (pe_op V6.op_andB (pv 5) (pv 6)))))) pss_nil)
      (pss_cons (ps_if (pt_cmpR op_eq (pv 2) pe_str (nomark _)) (pss_one (ps_ret (pe_lc (own := [("here", 5), ("other", 6)]) rfl S.nd (pi_zip (by rfl) T.m_zip (pa_cons (pv 3) (pa_cons (pv 4) pa_nil))) (blkOk_by (N := n_Cases_answers) (sc := defScope s_Cases_answers) (by decide +kernel)) (fun _ _ _ _ _ => (pg_tupK (K := K) (n := 2) rfl (pgs_cons (pg_name (i := 5) S.nd rfl (Or.inl rfl)) (pgs_cons (pg_name (i := 6) S.nd rfl (Or.inl rfl)) pgs_nil)))) (fun _ _ _ _ _ => pts_nil) (fun _ _ _ _ _ => (pe_op V6.op_orB (pv 5) (pv 6)))))) pss_nil)
      (pss_one (ps_ret (pe_lc (own := [("here", 5), ("other", 6)]) rfl S.nd (pi_zip (by rfl) T.m_zip (pa_cons (pv 3) (pa_cons (pv 4) pa_nil))) (blkOk_by (N := n_Cases_answers) (sc := defScope s_Cases_answers) (by decide +kernel)) (fun _ _ _ _ _ => (pg_tupK (K := K) (n := 2) rfl (pgs_cons (pg_name (i := 5) S.nd rfl (Or.inl rfl)) (pgs_cons (pg_name (i := 6) S.nd rfl (Or.inl rfl)) pgs_nil)))) (fun _ _ _ _ _ => pts_nil) (fun _ _ _ _ _ => (pe_op V6.op_orB (pe_op V6.op_xorB (V6.pe_fldK (K := K) (pv 0) rfl) (pv 5)) (pv 6))))))))))))))))), ?_⟩
      have n1 : 1 ≤ n := by have := wok.n1; omega
      have n2 : n ≤ 200 := by have := wok.n2; omega
      obtain ⟨kvs, hdd, hall⟩ := env.ld.ex
      have zipd : ∀ (a c0 c1 : Addr) (hd : Str) (H3 : Hp) (ta tb : Say) (tt : TE) (F : Nat → Nat → Nat), Same H H3 → AnsAt H3 c0 n N (fun c => holdV A (v c) (u c) ta) → AnsAt H3 c1 n N (fun c => holdV A (v c) (u c) tb) → (∀ x, F (bitsN N fun c => holdV A (v c) (u c) ta x) (bitsN N fun c => holdV A (v c) (u c) tb x) = bitsN N fun c => holdV A (v c) (u c) s x) →
          (∀ (b1 b2 : Nat) (H' : Hp) (Q' : VK), Same H3 H' → Q' (.int ((F b1 b2 : Nat) : Int)) H' → tt [some (.ref o), some (.ref a), some (.str hd), some (.ref c0), some (.ref c1), some (.int (b1 : Int)), some (.int (b2 : Int))] H' Q') →
          tRet (tLc (iZip K (tCons (tVar 3) (tCons (tVar 4) tNil))) (gTup K 2 (gCons (gName 5) (gCons (gName 6) gNil))) tYes tt [5, 6])
            { nx := fun _ H' => Q V.non H', rt := Q } [some (.ref o), some (.ref a), some (.str hd), some (.ref c0), some (.ref c1), none, none] H3 := fun a c0 c1 hd H3 ta tb tt F eH g0 g1 ej et => by
        refine ⟨.ref c0, rfl, .ref c1, rfl, c0, c1, _, _, rfl, SqL.of g0, SqL.of g1, fun E2 nE => ?_⟩
        refine lc_it (walk_zip (K := K) (a := c0) (b := c1) (xs := (ansN n (ansB N fun k => holdV A (v k) (u k) ta)).map V.int) (ys := (ansN n (ansB N fun k => holdV A (v k) (u k) tb)).map V.int) (n := n) (by rw [List.length_map, List.length_map, ansN_len, ansN_len, Nat.min_self])) (D := E2) (H1 := H3) (fun j H' => Same H3 H' ∧ H' E2 = some (.lst (((ansN n (ansB N fun c => holdV A (v c) (u c) s)).take j).map V.int)))
          ⟨same_new nE, upd_same⟩ (fun i H' _ h => ⟨SqL.of (h.1 _ _ g0), SqL.of (h.1 _ _ g1)⟩) (fun j x H4 H5 hj h hy => ?_) (fun H4 h => ?_)
        · obtain ⟨e4, hE⟩ := h
          obtain ⟨TT, x1, x2, rfl, nT, rfl, w1, w2⟩ := hy
          have w1' : ((ansN n (ansB N fun k => holdV A (v k) (u k) ta)).map V.int)[j]? = some x1 := w1
          have w2' : ((ansN n (ansB N fun k => holdV A (v k) (u k) tb)).map V.int)[j]? = some x2 := w2
          rw [ansN_at _ hj] at w1' w2'
          obtain rfl := Option.some.inj w1'
          obtain rfl := Option.some.inj w2'
          have eT := same_new (o := .tup [V.int ((bitsN N fun c => holdV A (v c) (u c) ta j : Nat) : Int), V.int ((bitsN N fun c => holdV A (v c) (u c) tb j : Nat) : Int)]) nT
          refine ⟨TT, [_, _], rfl, SqT.of upd_same, rfl, _, _, rfl, _, _, rfl, rfl, ?_⟩
          refine ⟨rfl, et _ _ _ _ (e4.trans eT) ?_⟩
          exact ⟨_, eT _ _ hE, ansN_few n j _ n2, same_upd_new (e4.trans eT) nE, ansN_step hj (ej j)⟩
        · obtain ⟨e4, hE⟩ := h
          refine q H4 E2 (eH.trans e4) ?_
          rw [List.take_of_length_le (by rw [ansN_len]; exact Nat.le_refl _)] at hE
          exact hE
      cases s with
      | lt i =>
        obtain ⟨a, rfl, hs⟩ := say_lt hd
        refine ⟨.ref a, rfl, a, _, 0, .str "letter", rfl, rfl, hs, atI_nat (j := 0) rfl, ?_⟩
        refine ⟨.str "letter", rfl, rfl, _, rfl, ?_⟩
        rw [dec_vstr, decide_eq_true (by decide)]
        obtain ⟨cs, hD, hcs⟩ := env.ms
        obtain ⟨r, hr1, hr2⟩ := hcs i (Say.self_word _)
        exact iteT ⟨.ref o, rfl, o, T.C_Cases, dx, _, _, rfl, ho, T.cl_Cases, T.na_Cases_marks, casesF_marks _ _ _ _, .ref a, rfl, a, _, 1, .int i, rfl, rfl, hs, atI_nat (j := 1) rfl, D, _, i, .ref r, rfl, rfl, SqL.of hD, atI_nat hr1, q H r (Same.refl H) hr2⟩
      | hr i =>
        obtain ⟨a, rfl, hs⟩ := say_hr hd
        refine ⟨.ref a, rfl, a, _, 0, .str "here", rfl, rfl, hs, atI_nat (j := 0) rfl, ?_⟩
        refine ⟨.str "here", rfl, rfl, _, rfl, ?_⟩
        rw [dec_vstr, decide_eq_false (by decide)]
        refine iteF ⟨.str "here", rfl, rfl, _, rfl, ?_⟩
        rw [dec_vstr, decide_eq_true (by decide)]
        obtain ⟨cs, hD, hcs⟩ := env.hr
        obtain ⟨r, hr1, hr2⟩ := hcs i (Say.self_word _)
        exact iteT ⟨.ref o, rfl, o, T.C_Cases, dx, _, _, rfl, ho, T.cl_Cases, T.na_Cases_heres, casesF_heres _ _ _ _, .ref a, rfl, a, _, 1, .int i, rfl, rfl, hs, atI_nat (j := 1) rfl, E, _, i, .ref r, rfl, rfl, SqL.of hD, atI_nat hr1, q H r (Same.refl H) hr2⟩
      | yes =>
        obtain ⟨a, rfl, hs⟩ := say_yes hd
        refine ⟨.ref a, rfl, a, _, 0, .str "yes", rfl, rfl, hs, atI_nat (j := 0) rfl, ?_⟩
        refine ⟨.str "yes", rfl, rfl, _, rfl, ?_⟩
        rw [dec_vstr, decide_eq_false (by decide)]
        refine iteF ⟨.str "yes", rfl, rfl, _, rfl, ?_⟩
        rw [dec_vstr, decide_eq_false (by decide)]
        refine iteF ⟨.ref a, rfl, a, _, rfl, .inr hs, rfl, _, rfl, ?_⟩
        rw [dec_vint', decide_eq_true (by show (1 : Int) = 1; decide)]
        obtain ⟨r, rs, hv, hr1, hr2, hr3⟩ := hall 0 ⟨by decide, by decide⟩
        have ln : (List.map V.ref rs).length = n := by rw [List.length_map]; exact hr2
        refine iteT ⟨.str "yes", rfl, rfl, _, rfl, ?_⟩
        rw [dec_vstr, decide_eq_true (by decide)]
        refine iteT ⟨.ref o, rfl, o, T.C_Cases, dx, _, _, rfl, ho, T.cl_Cases, T.na_Cases_full, casesF_full _ _ _ _, by show 1 ≤ sizeLine; decide, fun F nF => ?_⟩
        have eF := same_new (o := .lst [.int ((bitsN N fun _ => true : Nat) : Int)]) nF
        refine ⟨.ref o, rfl, o, T.C_Cases, dx, _, _, rfl, (eF _ _ ho), T.cl_Cases, T.na_Cases_leads, casesF_leads _ _ _ _, d, .ref r, rfl, dget (eF _ _ hdd) hv, r, _, rfl, .inl (SqL.of (eF _ _ hr1)), ?_⟩
        rw [ln]
        refine ⟨F, n, _, rfl, rfl, upd_same, by omega, by omega, ?_, fun p np => q _ p (eF.trans (same_new np)) ?_⟩
        · rw [Int.toNat_natCast]
          show 1 * n ≤ sizeLine
          rw [Nat.one_mul]
          exact Nat.le_of_lt (small (m := 200) n2)
        · unfold AnsAt
          rw [upd_same, Int.toNat_natCast, flat_rep]
          have e3 : ansN n (ansB N fun c => holdV A (v c) (u c) .yes) = List.replicate n ((bitsN N fun _ => true : Nat) : Int) := by
            refine List.ext_getElem (by rw [ansN_len, List.length_replicate]) fun i h1 h2 => ?_
            rw [List.getElem_replicate]
            have : (ansN n (ansB N fun c => holdV A (v c) (u c) .yes))[i]? = some (((ansB N fun c => holdV A (v c) (u c) .yes) i : Nat) : Int) := ansN_get _ (by rw [ansN_len] at h1; exact h1)
            rw [List.getElem?_eq_getElem h1] at this
            rw [Option.some.inj this]
            show ((bitsN N fun _ => true : Nat) : Int) = _
            rfl
          rw [e3, List.map_replicate]
      | no =>
        obtain ⟨a, rfl, hs⟩ := say_no hd
        refine ⟨.ref a, rfl, a, _, 0, .str "no", rfl, rfl, hs, atI_nat (j := 0) rfl, ?_⟩
        refine ⟨.str "no", rfl, rfl, _, rfl, ?_⟩
        rw [dec_vstr, decide_eq_false (by decide)]
        refine iteF ⟨.str "no", rfl, rfl, _, rfl, ?_⟩
        rw [dec_vstr, decide_eq_false (by decide)]
        refine iteF ⟨.ref a, rfl, a, _, rfl, .inr hs, rfl, _, rfl, ?_⟩
        rw [dec_vint', decide_eq_true (by show (1 : Int) = 1; decide)]
        obtain ⟨r, rs, hv, hr1, hr2, hr3⟩ := hall 0 ⟨by decide, by decide⟩
        have ln : (List.map V.ref rs).length = n := by rw [List.length_map]; exact hr2
        refine iteT ⟨.str "no", rfl, rfl, _, rfl, ?_⟩
        rw [dec_vstr, decide_eq_false (by decide)]
        refine iteF ⟨by show 1 ≤ sizeLine; decide, fun F nF => ?_⟩
        have eF := same_new (o := .lst [.int 0]) nF
        refine ⟨.ref o, rfl, o, T.C_Cases, dx, _, _, rfl, (eF _ _ ho), T.cl_Cases, T.na_Cases_leads, casesF_leads _ _ _ _, d, .ref r, rfl, dget (eF _ _ hdd) hv, r, _, rfl, .inl (SqL.of (eF _ _ hr1)), ?_⟩
        rw [ln]
        refine ⟨F, n, _, rfl, rfl, upd_same, by omega, by omega, ?_, fun p np => q _ p (eF.trans (same_new np)) ?_⟩
        · rw [Int.toNat_natCast]
          show 1 * n ≤ sizeLine
          rw [Nat.one_mul]
          exact Nat.le_of_lt (small (m := 200) n2)
        · unfold AnsAt
          rw [upd_same, Int.toNat_natCast, flat_rep]
          have e3 : ansN n (ansB N fun c => holdV A (v c) (u c) .no) = List.replicate n 0 := by
            refine List.ext_getElem (by rw [ansN_len, List.length_replicate]) fun i h1 h2 => ?_
            rw [List.getElem_replicate]
            have : (ansN n (ansB N fun c => holdV A (v c) (u c) .no))[i]? = some (((ansB N fun c => holdV A (v c) (u c) .no) i : Nat) : Int) := ansN_get _ (by rw [ansN_len] at h1; exact h1)
            rw [List.getElem?_eq_getElem h1] at this
            rw [Option.some.inj this]
            show ((bitsN N fun _ => false : Nat) : Int) = _
            rw [bits_none]; rfl
          rw [e3, List.map_replicate]
      | ea i t =>
        obtain ⟨a, z, rfl, hs, dz⟩ := say_ea hd
        refine ⟨.ref a, rfl, a, _, 0, .str "each", rfl, rfl, hs, atI_nat (j := 0) rfl, ?_⟩
        refine ⟨.str "each", rfl, rfl, _, rfl, ?_⟩
        rw [dec_vstr, decide_eq_false (by decide)]
        refine iteF ⟨.str "each", rfl, rfl, _, rfl, ?_⟩
        rw [dec_vstr, decide_eq_false (by decide)]
        refine iteF ⟨.ref a, rfl, a, _, rfl, .inr hs, rfl, _, rfl, ?_⟩
        rw [dec_vint', decide_eq_false (by show ¬ (3 : Int) = 1; decide)]
        refine iteF ⟨.str "each", rfl, rfl, _, rfl, ?_⟩
        rw [dec_vstr, decide_eq_true (by decide)]
        have wi : -3 ≤ i ∧ i ≤ 2 := ok.own
        obtain ⟨r, rs, hv, hr1, hr2, hr3⟩ := hall i ⟨wi.1, by omega⟩
        have pm : t ∈ (Say.ea i t).parts := List.mem_singleton.mpr rfl
        have pd := Say.deep_part pm
        refine iteT ⟨.ref o, rfl, o, T.C_Cases, dx, _, _, rfl, ho, T.cl_Cases, T.na_Cases_full, casesF_full _ _ _ _, .ref o, rfl, o, T.C_Cases, dx, _, _, rfl, ho, T.cl_Cases, T.na_Cases_leads, casesF_leads _ _ _ _, .ref a, rfl, a, _, 1, .int i, rfl, rfl, hs, atI_nat (j := 1) rfl, d, .ref r, rfl, dget hdd hv, .ref o, rfl, o, dx, _, rfl, ho, casesF_ans _ _ _ _, .ref a, rfl, a, _, 2, z, rfl, rfl, hs, atI_nat (j := 2) rfl, o, dx, d, D, E, z, n, A, N, v, u, t, rfl, ho, env.part pm, dz, ⟨nl, nh, dn, ok.part pm⟩, by omega, wok, fun H4 c e4 hc => ?_⟩
        refine ⟨_, r, c, n, N, rs, fun x => ledS A i x, fun c => holdV A (v c) (u c) t, rfl, rfl, n2, e4 _ _ hr1, hr2, fun x c hx => e4 _ _ (hr3 x c hx), fun x y _ hy => ledS_in wok hy, hc, fun H5 p5 e5 hp5 => q H5 p5 (e4.trans e5) ?_⟩
        exact hp5.trans (congrArg (fun l => some (HO.lst (List.map V.int l))) (ansN_congr fun x _ => rfl))
      | so i t =>
        obtain ⟨a, z, rfl, hs, dz⟩ := say_so hd
        refine ⟨.ref a, rfl, a, _, 0, .str "some", rfl, rfl, hs, atI_nat (j := 0) rfl, ?_⟩
        refine ⟨.str "some", rfl, rfl, _, rfl, ?_⟩
        rw [dec_vstr, decide_eq_false (by decide)]
        refine iteF ⟨.str "some", rfl, rfl, _, rfl, ?_⟩
        rw [dec_vstr, decide_eq_false (by decide)]
        refine iteF ⟨.ref a, rfl, a, _, rfl, .inr hs, rfl, _, rfl, ?_⟩
        rw [dec_vint', decide_eq_false (by show ¬ (3 : Int) = 1; decide)]
        refine iteF ⟨.str "some", rfl, rfl, _, rfl, ?_⟩
        rw [dec_vstr, decide_eq_false (by decide)]
        refine iteF ⟨.str "some", rfl, rfl, _, rfl, ?_⟩
        rw [dec_vstr, decide_eq_true (by decide)]
        have wi : -3 ≤ i ∧ i ≤ 2 := ok.own
        obtain ⟨r, rs, hv, hr1, hr2, hr3⟩ := hall i ⟨wi.1, by omega⟩
        have pm : t ∈ (Say.so i t).parts := List.mem_singleton.mpr rfl
        have pd := Say.deep_part pm
        refine iteT ⟨.ref o, rfl, o, T.C_Cases, dx, _, _, rfl, ho, T.cl_Cases, T.na_Cases_leads, casesF_leads _ _ _ _, .ref a, rfl, a, _, 1, .int i, rfl, rfl, hs, atI_nat (j := 1) rfl, d, .ref r, rfl, dget hdd hv, .ref o, rfl, o, dx, _, rfl, ho, casesF_ans _ _ _ _, .ref a, rfl, a, _, 2, z, rfl, rfl, hs, atI_nat (j := 2) rfl, o, dx, d, D, E, z, n, A, N, v, u, t, rfl, ho, env.part pm, dz, ⟨nl, nh, dn, ok.part pm⟩, by omega, wok, fun H4 c e4 hc => ?_⟩
        refine ⟨r, c, n, N, rs, fun x => ledS A i x, fun c => holdV A (v c) (u c) t, rfl, n2, e4 _ _ hr1, hr2, fun x c hx => e4 _ _ (hr3 x c hx), fun x y _ hy => ledS_in wok hy, hc, fun H5 p5 e5 hp5 => q H5 p5 (e4.trans e5) ?_⟩
        exact hp5.trans (congrArg (fun l => some (HO.lst (List.map V.int l))) (ansN_congr fun x _ => rfl))
      | nt t =>
        obtain ⟨a, z, rfl, hs, dz⟩ := say_nt hd
        refine ⟨.ref a, rfl, a, _, 0, .str "not", rfl, rfl, hs, atI_nat (j := 0) rfl, ?_⟩
        refine ⟨.str "not", rfl, rfl, _, rfl, ?_⟩
        rw [dec_vstr, decide_eq_false (by decide)]
        refine iteF ⟨.str "not", rfl, rfl, _, rfl, ?_⟩
        rw [dec_vstr, decide_eq_false (by decide)]
        refine iteF ⟨.ref a, rfl, a, _, rfl, .inr hs, rfl, _, rfl, ?_⟩
        rw [dec_vint', decide_eq_false (by show ¬ (2 : Int) = 1; decide)]
        refine iteF ⟨.str "not", rfl, rfl, _, rfl, ?_⟩
        rw [dec_vstr, decide_eq_false (by decide)]
        refine iteF ⟨.str "not", rfl, rfl, _, rfl, ?_⟩
        rw [dec_vstr, decide_eq_false (by decide)]
        have pm : t ∈ (Say.nt t).parts := List.mem_singleton.mpr rfl
        have pd := Say.deep_part pm
        refine iteF ⟨.ref o, rfl, o, dx, _, rfl, ho, casesF_ans _ _ _ _, .ref a, rfl, a, _, 1, z, rfl, rfl, hs, atI_nat (j := 1) rfl, o, dx, d, D, E, z, n, A, N, v, u, t, rfl, ho, env.part pm, dz, ⟨nl, nh, dn, ok.part pm⟩, by omega, wok, fun H4 c e4 hc => ?_⟩
        refine ⟨.str "not", rfl, rfl, _, rfl, ?_⟩
        rw [dec_vstr, decide_eq_true (by decide)]
        have ho3 := e4 _ _ ho
        refine iteT ⟨.ref c, rfl, c, rfl, ⟨_, SqL.of hc⟩, fun E2 nE => ?_⟩
        refine lc_list (K := K) (a := c) (xs := (ansN n (ansB N fun k => holdV A (v k) (u k) t)).map V.int) (fun j H' => Same H4 H' ∧ H' E2 = some (.lst (((ansN n (ansB N fun c => holdV A (v c) (u c) (.nt t))).take j).map V.int))) ⟨same_new nE, upd_same⟩ (fun i H' _ h => SqL.of (h.1 _ _ hc)) (fun j x H5 hx h => ?_) (fun H5 h => ?_)
        · obtain ⟨e5, hE⟩ := h
          have hj : j < n := by
            have := (List.getElem?_eq_some_iff.mp hx).1
            rw [List.length_map, ansN_len] at this
            exact this
          rw [ansN_at _ hj] at hx
          obtain rfl := Option.some.inj hx
          refine ⟨rfl, .ref o, rfl, o, T.C_Cases, dx, _, _, rfl, e5 _ _ ho3, T.cl_Cases, T.na_Cases_full, casesF_full _ _ _ _, _, rfl, _, _, rfl, rfl, ?_⟩
          refine ⟨_, hE, ansN_few n j _ n2, same_upd_new e5 nE, ansN_step hj ?_⟩
          exact bits_xor N _
        · obtain ⟨e5, hE⟩ := h
          refine q H5 E2 (e4.trans e5) ?_
          rw [List.length_map, ansN_len, List.take_of_length_le (by rw [ansN_len]; exact Nat.le_refl _)] at hE
          exact hE
      | an t1 t2 =>
        obtain ⟨a, z1, z2, rfl, hs, dz1, dz2⟩ := say_an hd
        refine ⟨.ref a, rfl, a, _, 0, .str "and", rfl, rfl, hs, atI_nat (j := 0) rfl, ?_⟩
        refine ⟨.str "and", rfl, rfl, _, rfl, ?_⟩
        rw [dec_vstr, decide_eq_false (by decide)]
        refine iteF ⟨.str "and", rfl, rfl, _, rfl, ?_⟩
        rw [dec_vstr, decide_eq_false (by decide)]
        refine iteF ⟨.ref a, rfl, a, _, rfl, .inr hs, rfl, _, rfl, ?_⟩
        rw [dec_vint', decide_eq_false (by show ¬ (3 : Int) = 1; decide)]
        refine iteF ⟨.str "and", rfl, rfl, _, rfl, ?_⟩
        rw [dec_vstr, decide_eq_false (by decide)]
        refine iteF ⟨.str "and", rfl, rfl, _, rfl, ?_⟩
        rw [dec_vstr, decide_eq_false (by decide)]
        have pm1 : t1 ∈ (Say.an t1 t2).parts := List.mem_cons_self
        have pm2 : t2 ∈ (Say.an t1 t2).parts := List.mem_cons_of_mem _ (List.mem_singleton.mpr rfl)
        have pd1 := Say.deep_part pm1
        have pd2 := Say.deep_part pm2
        refine iteF ⟨.ref o, rfl, o, dx, _, rfl, ho, casesF_ans _ _ _ _, .ref a, rfl, a, _, 1, z1, rfl, rfl, hs, atI_nat (j := 1) rfl, o, dx, d, D, E, z1, n, A, N, v, u, t1, rfl, ho, env.part pm1, dz1, ⟨nl, nh, dn, ok.part pm1⟩, by omega, wok, fun H4 c0 e4 hc0 => ?_⟩
        refine ⟨.str "and", rfl, rfl, _, rfl, ?_⟩
        rw [dec_vstr, decide_eq_false (by decide)]
        have hs4 := same_tup e4 hs
        have ho4 := e4 _ _ ho
        refine iteF ⟨.ref o, rfl, o, dx, _, rfl, ho4, casesF_ans _ _ _ _, .ref a, rfl, a, _, 2, z2, rfl, rfl, hs4, atI_nat (j := 2) rfl, o, dx, d, D, E, z2, n, A, N, v, u, t2, rfl, ho4, (env.on e4).part pm2, dp_same e4 _ _ dz2, ⟨nl, nh, dn, ok.part pm2⟩, by omega, wok, fun H5 c1 e5 hc1 => ?_⟩
        have hc0b : AnsAt H5 c0 n N (fun c => holdV A (v c) (u c) t1) := e5 _ _ hc0
        have ho5 := e5 _ _ ho4
        refine ⟨.str "and", rfl, rfl, _, rfl, ?_⟩
        rw [dec_vstr, decide_eq_true (by decide)]
        exact iteT (zipd a c0 c1 _ H5 t1 t2 _ (· &&& ·) (e4.trans e5) hc0b hc1 (fun x => bits_and N _ _) (fun b1 b2 H' Q' _ q' => ⟨_, rfl, _, rfl, b1, b2, rfl, rfl, q'⟩))
      | orr t1 t2 =>
        obtain ⟨a, z1, z2, rfl, hs, dz1, dz2⟩ := say_orr hd
        refine ⟨.ref a, rfl, a, _, 0, .str "or", rfl, rfl, hs, atI_nat (j := 0) rfl, ?_⟩
        refine ⟨.str "or", rfl, rfl, _, rfl, ?_⟩
        rw [dec_vstr, decide_eq_false (by decide)]
        refine iteF ⟨.str "or", rfl, rfl, _, rfl, ?_⟩
        rw [dec_vstr, decide_eq_false (by decide)]
        refine iteF ⟨.ref a, rfl, a, _, rfl, .inr hs, rfl, _, rfl, ?_⟩
        rw [dec_vint', decide_eq_false (by show ¬ (3 : Int) = 1; decide)]
        refine iteF ⟨.str "or", rfl, rfl, _, rfl, ?_⟩
        rw [dec_vstr, decide_eq_false (by decide)]
        refine iteF ⟨.str "or", rfl, rfl, _, rfl, ?_⟩
        rw [dec_vstr, decide_eq_false (by decide)]
        have pm1 : t1 ∈ (Say.orr t1 t2).parts := List.mem_cons_self
        have pm2 : t2 ∈ (Say.orr t1 t2).parts := List.mem_cons_of_mem _ (List.mem_singleton.mpr rfl)
        have pd1 := Say.deep_part pm1
        have pd2 := Say.deep_part pm2
        refine iteF ⟨.ref o, rfl, o, dx, _, rfl, ho, casesF_ans _ _ _ _, .ref a, rfl, a, _, 1, z1, rfl, rfl, hs, atI_nat (j := 1) rfl, o, dx, d, D, E, z1, n, A, N, v, u, t1, rfl, ho, env.part pm1, dz1, ⟨nl, nh, dn, ok.part pm1⟩, by omega, wok, fun H4 c0 e4 hc0 => ?_⟩
        refine ⟨.str "or", rfl, rfl, _, rfl, ?_⟩
        rw [dec_vstr, decide_eq_false (by decide)]
        have hs4 := same_tup e4 hs
        have ho4 := e4 _ _ ho
        refine iteF ⟨.ref o, rfl, o, dx, _, rfl, ho4, casesF_ans _ _ _ _, .ref a, rfl, a, _, 2, z2, rfl, rfl, hs4, atI_nat (j := 2) rfl, o, dx, d, D, E, z2, n, A, N, v, u, t2, rfl, ho4, (env.on e4).part pm2, dp_same e4 _ _ dz2, ⟨nl, nh, dn, ok.part pm2⟩, by omega, wok, fun H5 c1 e5 hc1 => ?_⟩
        have hc0b : AnsAt H5 c0 n N (fun c => holdV A (v c) (u c) t1) := e5 _ _ hc0
        have ho5 := e5 _ _ ho4
        refine ⟨.str "or", rfl, rfl, _, rfl, ?_⟩
        rw [dec_vstr, decide_eq_false (by decide)]
        refine iteF ⟨.str "or", rfl, rfl, _, rfl, ?_⟩
        rw [dec_vstr, decide_eq_true (by decide)]
        exact iteT (zipd a c0 c1 _ H5 t1 t2 _ (· ||| ·) (e4.trans e5) hc0b hc1 (fun x => bits_or N _ _) (fun b1 b2 H' Q' _ q' => ⟨_, rfl, _, rfl, b1, b2, rfl, rfl, q'⟩))
      | gv t1 t2 =>
        obtain ⟨a, z1, z2, rfl, hs, dz1, dz2⟩ := say_gv hd
        refine ⟨.ref a, rfl, a, _, 0, .str "gives", rfl, rfl, hs, atI_nat (j := 0) rfl, ?_⟩
        refine ⟨.str "gives", rfl, rfl, _, rfl, ?_⟩
        rw [dec_vstr, decide_eq_false (by decide)]
        refine iteF ⟨.str "gives", rfl, rfl, _, rfl, ?_⟩
        rw [dec_vstr, decide_eq_false (by decide)]
        refine iteF ⟨.ref a, rfl, a, _, rfl, .inr hs, rfl, _, rfl, ?_⟩
        rw [dec_vint', decide_eq_false (by show ¬ (3 : Int) = 1; decide)]
        refine iteF ⟨.str "gives", rfl, rfl, _, rfl, ?_⟩
        rw [dec_vstr, decide_eq_false (by decide)]
        refine iteF ⟨.str "gives", rfl, rfl, _, rfl, ?_⟩
        rw [dec_vstr, decide_eq_false (by decide)]
        have pm1 : t1 ∈ (Say.gv t1 t2).parts := List.mem_cons_self
        have pm2 : t2 ∈ (Say.gv t1 t2).parts := List.mem_cons_of_mem _ (List.mem_singleton.mpr rfl)
        have pd1 := Say.deep_part pm1
        have pd2 := Say.deep_part pm2
        refine iteF ⟨.ref o, rfl, o, dx, _, rfl, ho, casesF_ans _ _ _ _, .ref a, rfl, a, _, 1, z1, rfl, rfl, hs, atI_nat (j := 1) rfl, o, dx, d, D, E, z1, n, A, N, v, u, t1, rfl, ho, env.part pm1, dz1, ⟨nl, nh, dn, ok.part pm1⟩, by omega, wok, fun H4 c0 e4 hc0 => ?_⟩
        refine ⟨.str "gives", rfl, rfl, _, rfl, ?_⟩
        rw [dec_vstr, decide_eq_false (by decide)]
        have hs4 := same_tup e4 hs
        have ho4 := e4 _ _ ho
        refine iteF ⟨.ref o, rfl, o, dx, _, rfl, ho4, casesF_ans _ _ _ _, .ref a, rfl, a, _, 2, z2, rfl, rfl, hs4, atI_nat (j := 2) rfl, o, dx, d, D, E, z2, n, A, N, v, u, t2, rfl, ho4, (env.on e4).part pm2, dp_same e4 _ _ dz2, ⟨nl, nh, dn, ok.part pm2⟩, by omega, wok, fun H5 c1 e5 hc1 => ?_⟩
        have hc0b : AnsAt H5 c0 n N (fun c => holdV A (v c) (u c) t1) := e5 _ _ hc0
        have ho5 := e5 _ _ ho4
        refine ⟨.str "gives", rfl, rfl, _, rfl, ?_⟩
        rw [dec_vstr, decide_eq_false (by decide)]
        refine iteF ⟨.str "gives", rfl, rfl, _, rfl, ?_⟩
        rw [dec_vstr, decide_eq_false (by decide)]
        refine iteF (zipd a c0 c1 _ H5 t1 t2 _ (fun x y => ((bitsN N fun _ => true) ^^^ x) ||| y) (e4.trans e5) hc0b hc1 (fun x => ?_) (fun b1 b2 H' Q' e' q' => ⟨.ref o, rfl, o, T.C_Cases, dx, _, _, rfl, e' _ _ ho5, T.cl_Cases, T.na_Cases_full, casesF_full _ _ _ _, _, rfl, _, b1, rfl, rfl, _, rfl, _, b2, rfl, rfl, q'⟩))
        show ((bitsN N fun _ => true) ^^^ (bitsN N fun c => holdV A (v c) (u c) t1 x)) ||| (bitsN N fun c => holdV A (v c) (u c) t2 x) = _
        rw [bits_xor, bits_or]
        rfl
end
end K0

namespace K0
open PySem PySem.Spec PyProof.Rows L2 W0 W1 W2 W5 W6 V0 V1 V6
theorem held_of {n : Nat} {f : Int → Bool} : (heldL n fun x => (ansB 1 fun _ => f) x != 0) = heldL n f := by
  refine congrArg (heldL n) (funext fun x => ?_)
  show ((if f x = true then 1 else 0) + 2 * 0 != 0) = f x
  cases f x <;> rfl
def markR (M : List (List Int)) : Nat → List Int := fun i => M.getD i []
theorem one_mark {n : Nat} (L : List Int) : ansN n (one L) = ansN n (ansB 1 fun _ y => decide (y ∈ L)) := ansN_congr fun x _ => by
  show (if (x : Int) ∈ L then 1 else 0) = (if decide ((x : Int) ∈ L) = true then 1 else 0) + 2 * 0
  by_cases e : (x : Int) ∈ L
  · rw [if_pos e, if_pos (decide_eq_true e)]
  · rw [if_neg e, if_neg (fun z => e (of_decide_eq_true z))]
theorem mark_at {M : List (List Int)} {i : Nat} (h : i < 8) (l8 : M.length ≤ 8) : (M ++ List.replicate (8 - M.length) [])[i]? = some (markR M i) := by
  unfold markR
  rw [List.getD_eq_getElem?_getD]
  by_cases z : i < M.length
  · rw [List.getElem?_append_left z, List.getElem?_eq_getElem z]
    rfl
  · rw [List.getElem?_append_right (by omega), List.getElem?_replicate, if_pos (by omega), List.getElem?_eq_none (by omega)]
    rfl
theorem dps_rep {K : PySem.W.Frag} {H : Hp} {v : V} {d : PyData} (h : Dp K H v d) : ∀ k : Nat, DpAll K H (List.replicate k v) (List.replicate k d)
  | 0 => .nil
  | k + 1 => .cons h (dps_rep h k)
section
variable {P : Program} {w : World} {K : PySem.W.Frag} {mg : Str → Option Value} {base : Heap}
def sp_marks_of (K : PySem.W.Frag) : Sp := fun vs H Q _ => ∃ (v u : V) (n : Nat) (A : List T3) (M : List (List Int)), vs = [v, u] ∧ Dp K H v (dWeb n A) ∧ WOk n A ∧ Dp K H u (dMark M) ∧ MOk n M ∧
  ∀ H' D (ps : List Addr), Same H H' → H D = none → H' D = some (.lst (ps.map V.ref)) → ps.length = 8 → (∀ i r, ps[i]? = some r → i < 8 → H' r = some (.lst ((ansN n (one (markR M i))).map V.int))) → Q (.ref D) H'
set_option maxHeartbeats 1000000 in
theorem ok_marks_of (T : Tops K w mg) : FnOk P w K mg base CX0 2 T.a_marks_of T.fd_marks_of p_marks_of (sp_marks_of K) := by
  have S := sc_marks_of
  refine T.F_marks_of.ok S (fun vs H Q E h => ?_) (fun cdv AA outer s0 H vs Q E hr h => ?_)
  · obtain ⟨v, u, n, A, M, rfl, _⟩ := h
    rfl
  · obtain ⟨v, u, n, A, M, rfl, hd, wok, hm, mok, q⟩ := h
    refine ⟨_, (pss_cons (ps_set (i := 2) S.nd rfl (Or.inl rfl) (pe_op (V8.op_repW (K := K)) (pe_tup (pa_cons (pe_tup pa_nil) pa_nil)) (pe_op op_sub (pe_glob (v := .int (8)) (by rfl) T.c_LETTERS ⟨_, rfl⟩) (pe_callB call_len_seq (by rfl) T.m_len (by decide +kernel) (pa_cons (pv 1) pa_nil)))))
      (pss_one (ps_ret (pe_lc (own := [("worlds", 3)]) rfl S.nd (pi_tup (pe_op (op_catK (K := K)) (pv 1) (pv 2))) (blkOk_by (N := n_marks_of) (sc := defScope s_marks_of) (by decide +kernel)) (fun _ _ _ _ _ => (pg_name (i := 3) S.nd rfl (Or.inl rfl))) (fun _ _ _ _ _ => pts_nil) (fun _ _ _ _ _ => (pe_call (ok_marked_where T) (hr.mono (by first | decide | omega)) (by rfl) T.g_marked_where T.F_marked_where.kp T.b_marked_where .nil pass0 (pa_cons (pv 0) (pa_cons (pv 3) pa_nil)))))))), ?_⟩
    have n2 : n ≤ 200 := by have := wok.n2; omega
    obtain ⟨a, wc, ys, rfl, hs, _, _⟩ := dp_web hd
    obtain ⟨b, xs, rfl, hb, hx⟩ := dp_tup hm
    have hlen := dps_len hx
    rw [List.length_map] at hlen
    have l8 := mok.len
    refine ⟨Nat.zero_le _, fun y0 n0 => ⟨by show 1 ≤ sizeLine; decide, fun y1 n1 => ?_⟩⟩
    have e0 := same_new (o := .tup []) n0
    have e1 := same_new (o := .tup [.ref y0]) n1
    have d0 : Dp K _ (.ref y0) (dInts []) := dp_mk n0 .nil
    refine ⟨.ref b, rfl, b, xs, rfl, .inr (same_tup (e0.trans e1) hb), 8, _, rfl, rfl, y1, 8 - xs.length, [.ref y0], rfl, congrArg V.int (by omega), SqT.of upd_same, (by intro z; cases z), by omega, Nat.le_of_ble_eq_true rfl, fun p H1 e2 hp1 => ?_⟩
    have e01 := (e0.trans e1).trans e2
    rw [flat_rep] at hp1
    refine ⟨.ref b, rfl, .ref p, rfl, b, p, xs, _, rfl, rfl, same_tup e01 hb, hp1, ?_, fun c H2 e3 hc => ?_⟩
    · rw [List.length_replicate]
      exact Nat.le_of_lt (small (m := 100) (by omega))
    have e02 := e01.trans e3
    have hML : DpAll K H2 (xs ++ List.replicate (8 - xs.length) (.ref y0)) ((M ++ List.replicate (8 - M.length) []).map dInts) := by
      rw [List.map_append, List.map_replicate, ← hlen]
      exact dps_app' (dps_same e02 _ _ hx) (dps_rep (dp_same ((e1.trans e2).trans e3) _ _ d0) _)
    have lML := dps_len hML
    rw [List.length_map, List.length_append, List.length_append, List.length_replicate, List.length_replicate] at lML
    refine ⟨c, rfl, ⟨_, hc⟩, fun D nD => ?_⟩
    refine lc_tup (K := K) (a := c) (xs := xs ++ List.replicate (8 - xs.length) (.ref y0)) (fun j H' => Same H2 H' ∧ ∃ ps : List Addr, ps.length = j ∧ H' D = some (.lst (ps.map V.ref)) ∧ ∀ i r, ps[i]? = some r → i < 8 → r ≠ D ∧ H' r = some (.lst ((ansN n (one (markR M i))).map V.int)))
      ⟨same_new nD, [], rfl, upd_same, fun i c z _ => absurd (z.symm.trans (List.getElem?_nil)) (fun z => by cases z)⟩ (fun i H' _ h => same_tup h.1 hc) (fun j x H4 hxj h => ?_) (fun H4 h => ?_)
    · obtain ⟨e4, ps, hpl, hE, hps⟩ := h
      have jl := (List.getElem?_eq_some_iff.mp hxj).1
      rw [List.length_append, List.length_replicate] at jl
      have j8 : j < 8 := by omega
      obtain ⟨L, hL, lm, dl⟩ := get_map (dps_same e4 _ _ hML) hxj
      rw [mark_at j8 l8] at hL
      cases hL
      obtain ⟨r, rfl, hr1⟩ := dp_ints dl
      have rng : ∀ y ∈ markR M j, 0 ≤ y ∧ y < (n : Int) := by
        rcases List.mem_append.mp lm with h | h
        · exact fun y hy => (mok.all _ h).all y hy
        · rw [(List.mem_replicate.mp h).2]
          exact fun y hy => (List.not_mem_nil hy).elim
      refine ⟨rfl, .ref a, rfl, .ref r, rfl, .ref a, r, n, A, markR M j, rfl, dp_same (e02.trans e4) _ _ hd, n2, hr1, rng, fun H5 t e5 nt ht => ?_⟩
      have hE5 := e5 _ _ hE
      have ntD : t ≠ D := fun z => by
        rw [z, hE] at nt
        cases nt
      refine ⟨_, hE5, ?_, same_upd_new (e4.trans e5) nD, ps ++ [t], ?_, ?_, fun i c' hc' i8 => ?_⟩
      · rw [List.length_map]
        exact small (m := 100) (by omega)
      · rw [List.length_append, hpl]
        rfl
      · rw [upd_same, List.map_append]
        rfl
      · by_cases ij : i < ps.length
        · rw [List.getElem?_append_left ij] at hc'
          obtain ⟨ne, h5⟩ := hps i c' hc' i8
          exact ⟨ne, by rw [upd_ne ne]; exact e5 _ _ h5⟩
        · rw [List.getElem?_append_right (by omega)] at hc'
          have i0 : i - ps.length = 0 := by
            have := (List.getElem?_eq_some_iff.mp hc').1
            simp at this
            omega
          rw [i0] at hc'
          cases hc'
          have ij2 : i = j := by omega
          subst ij2
          exact ⟨ntD, by rw [upd_ne ntD]; exact ht⟩
    obtain ⟨e4, ps, hpl, hE, hps⟩ := h
    rw [List.length_append, List.length_replicate] at hpl
    exact q H4 D ps (e02.trans e4) (e02.free nD) hE (by omega) fun i r hi i8 => (hps i r hi i8).2
def sp__answers (K : PySem.W.Frag) : Sp := fun vs H Q _ => ∃ (v u z : V) (n : Nat) (A : List T3) (M : List (List Int)) (s : Say), vs = [v, u, z] ∧ Dp K H v (dWeb n A) ∧ WOk n A ∧ Dp K H u (dMark M) ∧ MOk n M ∧ Dp K H z (dSay s) ∧ s.Ok ∧ s.deep ≤ 40 ∧
  ∀ H' p, Same H H' → H' p = some (.lst ((ansN n (ansB 1 fun _ => hold A (markR M) s)).map V.int)) → Q (.ref p) H'
theorem ok__answers (T : Tops K w mg) : FnOk P w K mg base CX0 43 T.a__answers T.fd__answers p__answers (sp__answers K) := by
  have S := sc__answers
  refine T.F__answers.ok S (fun vs H Q E h => ?_) (fun cdv AA outer s0 H vs Q E hr h => ?_)
  · obtain ⟨v, u, z, n, A, M, s, rfl, _⟩ := h
    rfl
  · obtain ⟨v, u, z, n, A, M, s, rfl, hd, wok, hm, mok, hz, ok, hdeep, q⟩ := h
    refine ⟨_, (pss_one (ps_ret (pe_meth (pe_make T.mk_Cases (ok_Cases___init__ T) (hr.mono (by first | decide | omega)) (by rfl) T.c_Cases T.b_Cases___init__ .nil pass0 (pa_cons (pe_call (ok_leads_of T) (hr.mono (by first | decide | omega)) (by rfl) T.g_leads_of T.F_leads_of.kp T.b_leads_of .nil pass0 (pa_cons (pv 0) pa_nil)) (pa_cons (pe_call (ok_marks_of T) (hr.mono (by first | decide | omega)) (by rfl) T.g_marks_of T.F_marks_of.kp T.b_marks_of .nil pass0 (pa_cons (pv 0) (pa_cons (pv 1) pa_nil))) (pa_cons (pe_lst pa_nil) (pa_cons pe_int pa_nil))))) T.cl_Cases T.me_Cases_answers (ok_Cases_answers T 40) (hr.mono (by omega)) T.b_Cases_answers .nil pass0 (pa_cons (pv 2) pa_nil)))), ?_⟩
    refine ⟨v, rfl, v, n, A, rfl, hd, wok, fun H5 d r c' L lay hL => ?_⟩
    have ld := lay.d hL
    have e5 := lay.same
    refine ⟨v, rfl, u, rfl, v, u, n, A, M, rfl, dp_same e5 _ _ hd, wok, dp_same e5 _ _ hm, mok, fun H6 D ps e6 nD hD h8 hps => ?_⟩
    refine ⟨Nat.zero_le _, fun E2 nE2 => ?_⟩
    intro x dx nx ndx nex
    refine ⟨x, dx, d, D, E2, 1, rfl, upd_same, fun H7 bp hp7 => ⟨rfl, ?_⟩⟩
    have eD := same_new (o := .lst []) nE2
    have e0' : Same (upd H6 E2 (.lst [])) (upd (upd (upd H6 E2 (.lst [])) dx (.own x)) x (.ins T.C_Cases dx [])) := same_upd_new (same_new ndx) nx
    have e7 := bp.same e0' nx
    have e67 := eD.trans e7
    have e17 := e5.trans (e6.trans e67)
    have hE7 : H7 E2 = some (.lst []) := e7 _ _ upd_same
    have hD7 := e67 _ _ hD
    have env : CaseEnv H7 d D E2 n A 1 (fun _ i y => decide (y ∈ markR M i)) (fun _ _ _ => false) s := by
      refine ⟨(ld.on e6).on e67, ⟨_, hD7, fun i m => ?_⟩, ⟨_, hE7, fun j m => ?_⟩⟩
      · have i8 : i < 8 := (ok.w _ m).2
        have hc' : ps[i]? = some ps[i] := List.getElem?_eq_getElem (by omega)
        refine ⟨ps[i], by rw [List.getElem?_map, hc']; rfl, ?_⟩
        rw [← one_mark]
        exact e67 _ _ (hps i _ hc' i8)
      · have : j < 0 := (ok.w _ m).2
        omega
    refine ⟨x, dx, _, rfl, hp7, casesF_ans _ _ _ _, z, rfl, x, dx, d, D, E2, z, n, A, 1, _, _, s, rfl, hp7, env, dp_same e17 _ _ hz, ⟨_, _, _, ok.n⟩, hdeep, wok, fun H8 p7 e8 hp8 => ?_⟩
    exact q H8 p7 (e17.trans e8) hp8
def sp_holding (K : PySem.W.Frag) : Sp := fun vs H Q _ => ∃ (v u z : V) (n : Nat) (A : List T3) (M : List (List Int)) (s : Say), vs = [v, u, z] ∧ Dp K H v (dWeb n A) ∧ WOk n A ∧ Dp K H u (dMark M) ∧ MOk n M ∧ Dp K H z (dSay s) ∧ s.Ok ∧ s.deep ≤ 40 ∧ s.words.length ≤ 400 ∧
  ∀ H' p, Same H H' → SqT K H' p ((heldL n (hold A (markR M) s)).map V.int) → Q (.ref p) H'
theorem ok_holding (T : Tops K w mg) : FnOk P w K mg base CX0 44 T.a_holding T.fd_holding p_holding (sp_holding K) := by
  have S := sc_holding
  refine T.F_holding.ok S (fun vs H Q E h => ?_) (fun cdv AA outer s0 H vs Q E hr h => ?_)
  · obtain ⟨v, u, z, n, A, M, s, rfl, _⟩ := h
    rfl
  · obtain ⟨v, u, z, n, A, M, s, rfl, hd, wok, hm, mok, hz, ok, hdeep, hw, q⟩ := h
    refine ⟨_, (pss_cons (ps_expr (pe_call (ok_need_marking T) (hr.mono (by first | decide | omega)) (by rfl) T.g_need_marking T.F_need_marking.kp T.b_need_marking .nil pass0 (pa_cons (pv 0) (pa_cons (pv 1) pa_nil))))
      (pss_cons (ps_expr (pe_call (ok_need_saying T) (hr.mono (by first | decide | omega)) (by rfl) T.g_need_saying T.F_need_saying.kp T.b_need_saying .nil pass0 (pa_cons (pv 2) pa_nil)))
      (pss_one (ps_ret (pe_call (ok_worlds_where T) (hr.mono (by first | decide | omega)) (by rfl) T.g_worlds_where T.F_worlds_where.kp T.b_worlds_where .nil pass0 (pa_cons (pe_call (ok__answers T) (hr.mono (by first | decide | omega)) (by rfl) T.g__answers T.F__answers.kp T.b__answers .nil pass0 (pa_cons (pv 0) (pa_cons (pv 1) (pa_cons (pv 2) pa_nil)))) pa_nil)))))), ?_⟩
    have n2 : n ≤ 200 := by have := wok.n2; omega
    refine ⟨v, rfl, u, rfl, v, u, n, A, M, rfl, hd, wok, hm, mok, fun H1 e1 => ?_⟩
    refine ⟨z, rfl, z, s, rfl, dp_same e1 _ _ hz, ok, hdeep, hw, fun H2 e2 => ?_⟩
    have e12 := e1.trans e2
    refine ⟨v, rfl, u, rfl, z, rfl, v, u, z, n, A, M, s, rfl, dp_same e12 _ _ hd, wok, dp_same e12 _ _ hm, mok, dp_same e12 _ _ hz, ok, hdeep, fun H3 p e3 hp => ?_⟩
    refine ⟨p, n, _, rfl, SqL.of hp, n2, fun H4 p4 e4 hp4 => ?_⟩
    rw [held_of] at hp4
    exact q H4 p4 (e12.trans (e3.trans e4)) hp4
def sp_holds (K : PySem.W.Frag) : Sp := fun vs H Q _ => ∃ (v u z : V) (x : Nat) (n : Nat) (A : List T3) (M : List (List Int)) (s : Say), vs = [v, u, z, .int x] ∧ Dp K H v (dWeb n A) ∧ WOk n A ∧ Dp K H u (dMark M) ∧ MOk n M ∧ Dp K H z (dSay s) ∧ s.Ok ∧ s.deep ≤ 40 ∧ s.words.length ≤ 400 ∧ x < n ∧
  ∀ H', Same H H' → Q (.bl (hold A (markR M) s x)) H'
end
end K0

namespace K0
open PySem PySem.Spec PyProof.Rows L2 W0 W1 W2 W5 W6 V0 V1
/-- a saying with its nots led down, the whole of it denied if b -/
def turnS : Bool → Say → Say
  | b, .lt i => if b = true then .nt (.lt i) else .lt i
  | b, .hr j => if b = true then .nt (.hr j) else .hr j
  | b, .yes => if b = true then .no else .yes
  | b, .no => if b = true then .yes else .no
  | b, .nt s => turnS (!b) s
  | b, .an x y => if b = true then .orr (turnS b x) (turnS b y) else .an (turnS b x) (turnS b y)
  | b, .orr x y => if b = true then .an (turnS b x) (turnS b y) else .orr (turnS b x) (turnS b y)
  | b, .gv x y => if b = true then .an (turnS (!b) x) (turnS b y) else .orr (turnS (!b) x) (turnS b y)
  | b, .ea w s => if b = true then .so w (turnS b s) else .ea w (turnS b s)
  | b, .so w s => if b = true then .ea w (turnS b s) else .so w (turnS b s)
/-- whether it is negative then -/
def negS : Bool → Say → Bool
  | b, .lt _ => b
  | b, .hr _ => b
  | _, .yes => true
  | _, .no => true
  | b, .nt s => negS (!b) s
  | b, .an x y => negS b x && negS b y
  | b, .orr x y => negS b x && negS b y
  | b, .gv x y => negS (!b) x && negS b y
  | b, .ea _ s => negS b s
  | b, .so _ s => negS b s
/-- what judged tells -/
def dJ : Bool → Say → PyData
  | b, .lt i => .tuple [.bool b, dSay (turnS b (.lt i)), .tuple []]
  | b, .hr i => .tuple [.bool b, dSay (turnS b (.hr i)), .tuple []]
  | b, .yes => .tuple [.bool true, dSay (turnS b .yes), .tuple []]
  | b, .no => .tuple [.bool true, dSay (turnS b .no), .tuple []]
  | b, .nt s => dJ (!b) s
  | b, .an x y => .tuple [.bool (negS b x && negS b y), dSay (turnS b (.an x y)), .tuple [dJ b x, dJ b y]]
  | b, .orr x y => .tuple [.bool (negS b x && negS b y), dSay (turnS b (.orr x y)), .tuple [dJ b x, dJ b y]]
  | b, .gv x y => .tuple [.bool (negS (!b) x && negS b y), dSay (turnS b (.gv x y)), .tuple [dJ (!b) x, dJ b y]]
  | b, .ea w s => .tuple [.bool (negS b s), dSay (turnS b (.ea w s)), .tuple [dJ b s]]
  | b, .so w s => .tuple [.bool (negS b s), dSay (turnS b (.so w s)), .tuple [dJ b s]]
theorem dJ_eq : ∀ (b : Bool) (s : Say), ∃ l, dJ b s = .tuple [.bool (negS b s), dSay (turnS b s), .tuple l]
  | b, .lt i => ⟨_, rfl⟩
  | b, .hr i => ⟨_, rfl⟩
  | b, .yes => ⟨_, rfl⟩
  | b, .no => ⟨_, rfl⟩
  | b, .nt s => dJ_eq (!b) s
  | b, .an x y => ⟨_, rfl⟩
  | b, .orr x y => ⟨_, rfl⟩
  | b, .gv x y => ⟨_, rfl⟩
  | b, .ea w s => ⟨_, rfl⟩
  | b, .so w s => ⟨_, rfl⟩
theorem dJ_at {K : PySem.W.Frag} {H : Hp} {v : V} {b : Bool} {s : Say} (h : Dp K H v (dJ b s)) : ∃ a u p, v = .ref a ∧ SqT K H a [.bl (negS b s), u, p] ∧ Dp K H u (dSay (turnS b s)) := by
  obtain ⟨l, e⟩ := dJ_eq b s
  rw [e] at h
  obtain ⟨a, xs, rfl, hs, hd⟩ := dp_tup h
  cases hd with
  | cons h1 h2 =>
    obtain ⟨x, y, rfl, hx, hy⟩ := dpq_two h2
    rw [dp_bl h1] at hs
    exact ⟨a, x, y, rfl, hs, hx⟩
theorem Tops.turned {w : World} {K : PySem.W.Frag} {mg : Str → Option Value} (T : Tops K w mg) {k x : Str} (q : ∃ z, PySem.W.nsIn K T.t_TURNED k = some (some (.str x z))) : KDct K w T.t_TURNED k (.str x) := by
  obtain ⟨z, q⟩ := q
  exact ⟨_, _, .str _ z, T.D_TURNED.at_, T.D_TURNED.lit, q, ⟨z, rfl⟩⟩
section
variable {P : Program} {w : World} {K : PySem.W.Frag} {mg : Str → Option Value} {base : Heap}
def sp_judged (K : PySem.W.Frag) (d : Nat) : Sp := fun vs H Q _ => ∃ (v : V) (s : Say) (b : Bool), vs = [v, .bl b] ∧ Dp K H v (dSay s) ∧ s.deep ≤ d ∧ ∀ H' v', Same H H' → Dp K H' v' (dJ b s) → Q v' H'
set_option maxHeartbeats 2000000 in
theorem ok_judged (T : Tops K w mg) : ∀ d : Nat, FnOk P w K mg base CX0 (d + 1) T.a_judged T.fd_judged p_judged (sp_judged K d)
  | 0 => by
    have S := sc_judged
    refine T.F_judged.ok S (fun vs H Q E h => ?_) (fun cdv A outer s0 H vs Q E hr h => ?_)
    · obtain ⟨v, s, b, rfl, _⟩ := h
      rfl
    · obtain ⟨v, s, b, rfl, _, h0, _⟩ := h
      exact absurd (Say.deep_pos s) (by omega)
  | d + 1 => by
    have ih := ok_judged T d
    have S := sc_judged
    refine T.F_judged.ok S (fun vs H Q E h => ?_) (fun cdv A outer s0 H vs Q E hr h => ?_)
    · obtain ⟨v, s, b, rfl, _⟩ := h
      rfl
    · obtain ⟨v, s, b, rfl, hd, hdeep, q⟩ := h
      refine ⟨_, (pss_cons (ps_set (i := 2) S.nd rfl (Or.inl rfl) (pe_ix (ix_tupK (K := K)) (pv 0) pe_int (fun _ _ => rfl)))
      (pss_cons (ps_if ((pw_or (pt_cmpR op_eq (pv 2) pe_str (nomark _)) (pw_or1 (pt_cmpR op_eq (pv 2) pe_str (nomark _))))).pt (pss_one (ps_ret (pe_tup (pa_cons (pv 1) (pa_cons (pe_ifExp (pt_val (pv 1)) (pe_tup (pa_cons pe_str (pa_cons (pv 0) pa_nil))) (pv 0)) (pa_cons (pe_tup pa_nil) pa_nil)))))) pss_nil)
      (pss_cons (ps_if (pt_cmpR op_eq (pv 2) pe_str (nomark _)) (pss_one (ps_ret (pe_call ih (hr.mono (by omega)) (by rfl) T.g_judged T.F_judged.kp T.b_judged .nil pass0 (pa_cons (pe_ix (ix_tupK (K := K)) (pv 0) pe_int (fun _ _ => rfl)) (pa_cons (pe_not (pv 1)) pa_nil))))) pss_nil)
      (pss_cons (ps_if (pt_cmpR op_eq (pe_callB call_len_seq (by rfl) T.m_len (by decide +kernel) (pa_cons (pv 0) pa_nil)) pe_int (nomark _)) (pss_one (ps_ret (pe_tup (pa_cons pe_bl (pa_cons (pe_ifExp (pt_val (pv 1)) (pe_tup (pa_cons (pe_ix ix_kdict (pe_glob (v := .ref T.t_TURNED) (by rfl) T.c_TURNED rfl) (pv 2) (fun _ _ => rfl)) pa_nil)) (pv 0)) (pa_cons (pe_tup pa_nil) pa_nil)))))) pss_nil)
      (pss_cons (ps_if (pt_cmpR op_eq (pv 2) pe_str (nomark _)) (pss_cons (ps_set (i := 4) S.nd rfl (Or.inl rfl) (pe_call ih (hr.mono (by omega)) (by rfl) T.g_judged T.F_judged.kp T.b_judged .nil pass0 (pa_cons (pe_ix (ix_tupK (K := K)) (pv 0) pe_int (fun _ _ => rfl)) (pa_cons (pe_not (pv 1)) pa_nil))))
      (pss_one (ps_set (i := 5) S.nd rfl (Or.inl rfl) (pe_ifExp (pt_val (pv 1)) pe_str pe_str)))) (pss_one (ps_if ((pw_or (pt_cmpR op_eq (pv 2) pe_str (nomark _)) (pw_or1 (pt_cmpR op_eq (pv 2) pe_str (nomark _))))).pt (pss_cons (ps_set (i := 6) S.nd rfl (Or.inl rfl) (pe_call ih (hr.mono (by omega)) (by rfl) T.g_judged T.F_judged.kp T.b_judged .nil pass0 (pa_cons (pe_ix (ix_tupK (K := K)) (pv 0) pe_int (fun _ _ => rfl)) (pa_cons (pv 1) pa_nil))))
      (pss_one (ps_ret (pe_tup (pa_cons (pe_ix (ix_tupK (K := K)) (pv 6) pe_int (fun _ _ => rfl)) (pa_cons (pe_tup (pa_cons (pe_ifExp (pt_val (pv 1)) (pe_ix ix_kdict (pe_glob (v := .ref T.t_TURNED) (by rfl) T.c_TURNED rfl) (pv 2) (fun _ _ => rfl)) (pv 2)) (pa_cons (pe_ix (ix_tupK (K := K)) (pv 0) pe_int (fun _ _ => rfl)) (pa_cons (pe_ix (ix_tupK (K := K)) (pv 6) pe_int (fun _ _ => rfl)) pa_nil)))) (pa_cons (pe_tup (pa_cons (pv 6) pa_nil)) pa_nil))))))) (pss_cons (ps_set (i := 4) S.nd rfl (Or.inl rfl) (pe_call ih (hr.mono (by omega)) (by rfl) T.g_judged T.F_judged.kp T.b_judged .nil pass0 (pa_cons (pe_ix (ix_tupK (K := K)) (pv 0) pe_int (fun _ _ => rfl)) (pa_cons (pv 1) pa_nil))))
      (pss_one (ps_set (i := 5) S.nd rfl (Or.inl rfl) (pe_ifExp (pt_val (pv 1)) (pe_ix ix_kdict (pe_glob (v := .ref T.t_TURNED) (by rfl) T.c_TURNED rfl) (pv 2) (fun _ _ => rfl)) (pv 2))))))))
      (pss_cons (ps_set (i := 3) S.nd rfl (Or.inl rfl) (pe_call ih (hr.mono (by omega)) (by rfl) T.g_judged T.F_judged.kp T.b_judged .nil pass0 (pa_cons (pe_ix (ix_tupK (K := K)) (pv 0) pe_int (fun _ _ => rfl)) (pa_cons (pv 1) pa_nil))))
      (pss_one (ps_ret (pe_tup (pa_cons (pe_and (pe_ix (ix_tupK (K := K)) (pv 4) pe_int (fun _ _ => rfl)) (pe_one (pe_ix (ix_tupK (K := K)) (pv 3) pe_int (fun _ _ => rfl)))) (pa_cons (pe_tup (pa_cons (pv 5) (pa_cons (pe_ix (ix_tupK (K := K)) (pv 4) pe_int (fun _ _ => rfl)) (pa_cons (pe_ix (ix_tupK (K := K)) (pv 3) pe_int (fun _ _ => rfl)) pa_nil)))) (pa_cons (pe_tup (pa_cons (pv 4) (pa_cons (pv 3) pa_nil))) pa_nil)))))))))))), ?_⟩
      have fin : ∀ (a : Addr) (hdw o : Str) (b1 : Bool) (x y : Say) (H3 : Hp) (vf vg : V) (z : Option V), Same H H3 → Dp K H3 vf (dJ b1 x) → Dp K H3 vg (dJ b y) → dJ b s = .tuple [.bool (negS b1 x && negS b y), .tuple [.str o, dSay (turnS b1 x), dSay (turnS b y)], .tuple [dJ b1 x, dJ b y]] →
          tRet (tTup (tCons (tAndV (tOp (rIxT K) (tVar 4) (tC (V.int 0))) (tOp (rIxT K) (tVar 3) (tC (V.int 0)))) (tCons (tTup (tCons (tVar 5) (tCons (tOp (rIxT K) (tVar 4) (tC (V.int 1))) (tCons (tOp (rIxT K) (tVar 3) (tC (V.int 1))) tNil)))) (tCons (tTup (tCons (tVar 4) (tCons (tVar 3) tNil))) tNil))))
            { nx := fun _ H' => Q V.non H', rt := Q } [some (.ref a), some (.bl b), some (.str hdw), some vg, some vf, some (.str o), z] H3 := fun a hdw o b1 x y H3 vf vg z e3 df dg ej => by
        obtain ⟨f, u1, p1, rfl, hf, du1⟩ := dJ_at df
        obtain ⟨g, u2, p2, rfl, hg, du2⟩ := dJ_at dg
        have rest : ∀ k, k = (negS b1 x && negS b y) → ∀ (E0 : Hp → Prop), True → (tTup (tCons (tVar 5) (tCons (tOp (rIxT K) (tVar 4) (tC (V.int 1))) (tCons (tOp (rIxT K) (tVar 3) (tC (V.int 1))) tNil)))) [some (.ref a), some (.bl b), some (.str hdw), some (.ref g), some (.ref f), some (.str o), z] H3 (fun v2 H4 => (tTup (tCons (tVar 4) (tCons (tVar 3) tNil))) [some (.ref a), some (.bl b), some (.str hdw), some (.ref g), some (.ref f), some (.str o), z] H4 (fun v3 H5 => 3 ≤ sizeLine ∧ ∀ t, H5 t = none → Q (.ref t) (upd H5 t (.tup [.bl k, v2, v3])))) := fun k ek _ _ => by
          refine ⟨.str o, rfl, .ref f, rfl, f, _, 1, u1, rfl, rfl, hf, atI_nat (j := 1) rfl, .ref g, rfl, g, _, 1, u2, rfl, rfl, hg, atI_nat (j := 1) rfl, by show 3 ≤ sizeLine; decide, fun m nm => ?_⟩
          refine ⟨.ref f, rfl, .ref g, rfl, by show 2 ≤ sizeLine; decide, fun r nr => ⟨by show 3 ≤ sizeLine; decide, fun t nt => ?_⟩⟩
          have em := same_new (o := .tup [.str o, u1, u2]) nm
          have er := same_new (o := .tup [.ref f, .ref g]) nr
          refine q _ _ (e3.trans (em.trans (er.trans (same_new nt)))) ?_
          rw [ej, ek]
          exact dp_mk nt (.cons (.bl _) (.cons (dp_same er _ _ (dp_mk nm (.cons (.str _) (.cons du1 (.cons du2 .nil))))) (.cons (dp_mk nr (.cons (dp_same em _ _ df) (.cons (dp_same em _ _ dg) .nil))) .nil)))
        refine ⟨.ref f, rfl, f, _, 0, .bl (negS b1 x), rfl, rfl, hf, atI_nat (j := 0) rfl, _, rfl, ?_⟩
        cases e : negS b1 x with
        | true =>
          refine ⟨.ref g, rfl, g, _, 0, .bl (negS b y), rfl, rfl, hg, atI_nat (j := 0) rfl, ?_⟩
          exact rest (negS b y) (by rw [e, Bool.true_and]) (fun _ => True) trivial
        | false => exact rest false (by rw [e, Bool.false_and]) (fun _ => True) trivial
      cases s with
      | lt i =>
        obtain ⟨a, rfl, hs⟩ := say_lt hd
        refine ⟨.ref a, rfl, a, _, 0, .str "letter", rfl, rfl, hs, atI_nat (j := 0) rfl, ?_⟩
        refine ⟨.str "letter", rfl, rfl, _, rfl, ?_⟩
        rw [dec_vstr, decide_eq_true (by decide)]
        refine iteT ⟨.bl b, rfl, .bl b, rfl, b, rfl, ?_⟩
        cases b with
        | true =>
          refine ⟨.ref a, rfl, by show 2 ≤ sizeLine; decide, fun y ny => ⟨Nat.zero_le _, fun z nz => ⟨by show 3 ≤ sizeLine; decide, fun t nt => ?_⟩⟩⟩
          have ey := same_new (o := .tup [.str "not", .ref a]) ny
          have ez := same_new (o := .tup []) nz
          refine q _ _ (ey.trans (ez.trans (same_new nt))) ?_
          exact dp_mk nt (.cons (.bl _) (.cons (dp_same ez _ _ (dp_mk ny (.cons (.str _) (.cons hd .nil)))) (.cons (dp_mk nz .nil) .nil)))
        | false =>
          refine ⟨.ref a, rfl, Nat.zero_le _, fun z nz => ⟨by show 3 ≤ sizeLine; decide, fun t nt => ?_⟩⟩
          have ez := same_new (o := .tup []) nz
          refine q _ _ (ez.trans (same_new nt)) ?_
          exact dp_mk nt (.cons (.bl _) (.cons (dp_same ez _ _ hd) (.cons (dp_mk nz .nil) .nil)))
      | hr i =>
        obtain ⟨a, rfl, hs⟩ := say_hr hd
        refine ⟨.ref a, rfl, a, _, 0, .str "here", rfl, rfl, hs, atI_nat (j := 0) rfl, ?_⟩
        refine ⟨.str "here", rfl, rfl, _, rfl, ?_⟩
        rw [dec_vstr, decide_eq_false (by decide)]
        refine iteF ⟨.str "here", rfl, rfl, _, rfl, ?_⟩
        rw [dec_vstr, decide_eq_true (by decide)]
        refine iteT ⟨.bl b, rfl, .bl b, rfl, b, rfl, ?_⟩
        cases b with
        | true =>
          refine ⟨.ref a, rfl, by show 2 ≤ sizeLine; decide, fun y ny => ⟨Nat.zero_le _, fun z nz => ⟨by show 3 ≤ sizeLine; decide, fun t nt => ?_⟩⟩⟩
          have ey := same_new (o := .tup [.str "not", .ref a]) ny
          have ez := same_new (o := .tup []) nz
          refine q _ _ (ey.trans (ez.trans (same_new nt))) ?_
          exact dp_mk nt (.cons (.bl _) (.cons (dp_same ez _ _ (dp_mk ny (.cons (.str _) (.cons hd .nil)))) (.cons (dp_mk nz .nil) .nil)))
        | false =>
          refine ⟨.ref a, rfl, Nat.zero_le _, fun z nz => ⟨by show 3 ≤ sizeLine; decide, fun t nt => ?_⟩⟩
          have ez := same_new (o := .tup []) nz
          refine q _ _ (ez.trans (same_new nt)) ?_
          exact dp_mk nt (.cons (.bl _) (.cons (dp_same ez _ _ hd) (.cons (dp_mk nz .nil) .nil)))
      | yes =>
        obtain ⟨a, rfl, hs⟩ := say_yes hd
        refine ⟨.ref a, rfl, a, _, 0, .str "yes", rfl, rfl, hs, atI_nat (j := 0) rfl, ?_⟩
        refine ⟨.str "yes", rfl, rfl, _, rfl, ?_⟩
        rw [dec_vstr, decide_eq_false (by decide)]
        refine iteF ⟨.str "yes", rfl, rfl, _, rfl, ?_⟩
        rw [dec_vstr, decide_eq_false (by decide)]
        refine iteF ⟨.str "yes", rfl, rfl, _, rfl, ?_⟩
        rw [dec_vstr, decide_eq_false (by decide)]
        refine iteF ⟨.ref a, rfl, a, _, rfl, .inr hs, rfl, _, rfl, ?_⟩
        rw [dec_vint', decide_eq_true (by show (1 : Int) = 1; decide)]
        refine iteT ⟨.bl b, rfl, b, rfl, ?_⟩
        cases b with
        | true =>
          refine ⟨.str "yes", rfl, T.t_TURNED, "yes", _, rfl, rfl, T.turned T.q_TURNED_yes, by show 1 ≤ sizeLine; decide, fun y ny => ⟨Nat.zero_le _, fun z nz => ⟨by show 3 ≤ sizeLine; decide, fun t nt => ?_⟩⟩⟩
          have ey := same_new (o := .tup [.str "no"]) ny
          have ez := same_new (o := .tup []) nz
          refine q _ _ (ey.trans (ez.trans (same_new nt))) ?_
          exact dp_mk nt (.cons (.bl _) (.cons (dp_same ez _ _ (dp_mk ny (.cons (.str _) .nil))) (.cons (dp_mk nz .nil) .nil)))
        | false =>
          refine ⟨.ref a, rfl, Nat.zero_le _, fun z nz => ⟨by show 3 ≤ sizeLine; decide, fun t nt => ?_⟩⟩
          have ez := same_new (o := .tup []) nz
          refine q _ _ (ez.trans (same_new nt)) ?_
          exact dp_mk nt (.cons (.bl _) (.cons (dp_same ez _ _ hd) (.cons (dp_mk nz .nil) .nil)))
      | no =>
        obtain ⟨a, rfl, hs⟩ := say_no hd
        refine ⟨.ref a, rfl, a, _, 0, .str "no", rfl, rfl, hs, atI_nat (j := 0) rfl, ?_⟩
        refine ⟨.str "no", rfl, rfl, _, rfl, ?_⟩
        rw [dec_vstr, decide_eq_false (by decide)]
        refine iteF ⟨.str "no", rfl, rfl, _, rfl, ?_⟩
        rw [dec_vstr, decide_eq_false (by decide)]
        refine iteF ⟨.str "no", rfl, rfl, _, rfl, ?_⟩
        rw [dec_vstr, decide_eq_false (by decide)]
        refine iteF ⟨.ref a, rfl, a, _, rfl, .inr hs, rfl, _, rfl, ?_⟩
        rw [dec_vint', decide_eq_true (by show (1 : Int) = 1; decide)]
        refine iteT ⟨.bl b, rfl, b, rfl, ?_⟩
        cases b with
        | true =>
          refine ⟨.str "no", rfl, T.t_TURNED, "no", _, rfl, rfl, T.turned T.q_TURNED_no, by show 1 ≤ sizeLine; decide, fun y ny => ⟨Nat.zero_le _, fun z nz => ⟨by show 3 ≤ sizeLine; decide, fun t nt => ?_⟩⟩⟩
          have ey := same_new (o := .tup [.str "yes"]) ny
          have ez := same_new (o := .tup []) nz
          refine q _ _ (ey.trans (ez.trans (same_new nt))) ?_
          exact dp_mk nt (.cons (.bl _) (.cons (dp_same ez _ _ (dp_mk ny (.cons (.str _) .nil))) (.cons (dp_mk nz .nil) .nil)))
        | false =>
          refine ⟨.ref a, rfl, Nat.zero_le _, fun z nz => ⟨by show 3 ≤ sizeLine; decide, fun t nt => ?_⟩⟩
          have ez := same_new (o := .tup []) nz
          refine q _ _ (ez.trans (same_new nt)) ?_
          exact dp_mk nt (.cons (.bl _) (.cons (dp_same ez _ _ hd) (.cons (dp_mk nz .nil) .nil)))
      | nt t =>
        obtain ⟨a, z, rfl, hs, dz⟩ := say_nt hd
        refine ⟨.ref a, rfl, a, _, 0, .str "not", rfl, rfl, hs, atI_nat (j := 0) rfl, ?_⟩
        refine ⟨.str "not", rfl, rfl, _, rfl, ?_⟩
        rw [dec_vstr, decide_eq_false (by decide)]
        refine iteF ⟨.str "not", rfl, rfl, _, rfl, ?_⟩
        rw [dec_vstr, decide_eq_false (by decide)]
        refine iteF ⟨.str "not", rfl, rfl, _, rfl, ?_⟩
        rw [dec_vstr, decide_eq_true (by decide)]
        have pd := Say.deep_part (s := .nt t) (t := t) List.mem_cons_self
        exact iteT ⟨.ref a, rfl, a, _, 1, z, rfl, rfl, hs, atI_nat (j := 1) rfl, .bl b, rfl, b, rfl, z, t, !b, rfl, dz, by omega, fun H1 v1 e1 dv => q H1 v1 e1 dv⟩
      | ea i t =>
        obtain ⟨a, z, rfl, hs, dz⟩ := say_ea hd
        refine ⟨.ref a, rfl, a, _, 0, .str "each", rfl, rfl, hs, atI_nat (j := 0) rfl, ?_⟩
        refine ⟨.str "each", rfl, rfl, _, rfl, ?_⟩
        rw [dec_vstr, decide_eq_false (by decide)]
        refine iteF ⟨.str "each", rfl, rfl, _, rfl, ?_⟩
        rw [dec_vstr, decide_eq_false (by decide)]
        refine iteF ⟨.str "each", rfl, rfl, _, rfl, ?_⟩
        rw [dec_vstr, decide_eq_false (by decide)]
        refine iteF ⟨.ref a, rfl, a, _, rfl, .inr hs, rfl, _, rfl, ?_⟩
        rw [dec_vint', decide_eq_false (by show ¬ (3 : Int) = 1; decide)]
        refine iteF ⟨.str "each", rfl, rfl, _, rfl, ?_⟩
        rw [dec_vstr, decide_eq_false (by decide)]
        refine iteF ⟨.str "each", rfl, rfl, _, rfl, ?_⟩
        rw [dec_vstr, decide_eq_true (by decide)]
        have pd := Say.deep_part (s := .ea i t) (t := t) List.mem_cons_self
        refine iteT ⟨.ref a, rfl, a, _, 2, z, rfl, rfl, hs, atI_nat (j := 2) rfl, .bl b, rfl, z, t, b, rfl, dz, by omega, fun H1 v1 e1 dv => ?_⟩
        obtain ⟨f, u1, p1, rfl, hf, du1⟩ := dJ_at dv
        have hs1 := same_tup e1 hs
        refine ⟨.ref f, rfl, f, _, 0, .bl (negS b t), rfl, rfl, hf, atI_nat (j := 0) rfl, .bl b, rfl, b, rfl, ?_⟩
        cases b with
        | true =>
          refine ⟨.str "each", rfl, T.t_TURNED, "each", _, rfl, rfl, T.turned T.q_TURNED_each, .ref a, rfl, a, _, 1, .int i, rfl, rfl, hs1, atI_nat (j := 1) rfl, .ref f, rfl, f, _, 1, u1, rfl, rfl, hf, atI_nat (j := 1) rfl, by show 3 ≤ sizeLine; decide, fun m nm => ?_⟩
          refine ⟨.ref f, rfl, by show 1 ≤ sizeLine; decide, fun r nr => ⟨by show 3 ≤ sizeLine; decide, fun t nt => ?_⟩⟩
          have em := same_new (o := .tup [.str "some", .int i, u1]) nm
          have er := same_new (o := .tup [.ref f]) nr
          refine q _ _ (e1.trans (em.trans (er.trans (same_new nt)))) ?_
          exact dp_mk nt (.cons (.bl _) (.cons (dp_same er _ _ (dp_mk nm (.cons (.str _) (.cons (.int _) (.cons du1 .nil))))) (.cons (dp_mk nr (.cons (dp_same em _ _ dv) .nil)) .nil)))
        | false =>
          refine ⟨.str "each", rfl, .ref a, rfl, a, _, 1, .int i, rfl, rfl, hs1, atI_nat (j := 1) rfl, .ref f, rfl, f, _, 1, u1, rfl, rfl, hf, atI_nat (j := 1) rfl, by show 3 ≤ sizeLine; decide, fun m nm => ?_⟩
          refine ⟨.ref f, rfl, by show 1 ≤ sizeLine; decide, fun r nr => ⟨by show 3 ≤ sizeLine; decide, fun t nt => ?_⟩⟩
          have em := same_new (o := .tup [.str "each", .int i, u1]) nm
          have er := same_new (o := .tup [.ref f]) nr
          refine q _ _ (e1.trans (em.trans (er.trans (same_new nt)))) ?_
          exact dp_mk nt (.cons (.bl _) (.cons (dp_same er _ _ (dp_mk nm (.cons (.str _) (.cons (.int _) (.cons du1 .nil))))) (.cons (dp_mk nr (.cons (dp_same em _ _ dv) .nil)) .nil)))
      | so i t =>
        obtain ⟨a, z, rfl, hs, dz⟩ := say_so hd
        refine ⟨.ref a, rfl, a, _, 0, .str "some", rfl, rfl, hs, atI_nat (j := 0) rfl, ?_⟩
        refine ⟨.str "some", rfl, rfl, _, rfl, ?_⟩
        rw [dec_vstr, decide_eq_false (by decide)]
        refine iteF ⟨.str "some", rfl, rfl, _, rfl, ?_⟩
        rw [dec_vstr, decide_eq_false (by decide)]
        refine iteF ⟨.str "some", rfl, rfl, _, rfl, ?_⟩
        rw [dec_vstr, decide_eq_false (by decide)]
        refine iteF ⟨.ref a, rfl, a, _, rfl, .inr hs, rfl, _, rfl, ?_⟩
        rw [dec_vint', decide_eq_false (by show ¬ (3 : Int) = 1; decide)]
        refine iteF ⟨.str "some", rfl, rfl, _, rfl, ?_⟩
        rw [dec_vstr, decide_eq_false (by decide)]
        refine iteF ⟨.str "some", rfl, rfl, _, rfl, ?_⟩
        rw [dec_vstr, decide_eq_false (by decide)]
        refine iteF ⟨.str "some", rfl, rfl, _, rfl, ?_⟩
        rw [dec_vstr, decide_eq_true (by decide)]
        have pd := Say.deep_part (s := .so i t) (t := t) List.mem_cons_self
        refine iteT ⟨.ref a, rfl, a, _, 2, z, rfl, rfl, hs, atI_nat (j := 2) rfl, .bl b, rfl, z, t, b, rfl, dz, by omega, fun H1 v1 e1 dv => ?_⟩
        obtain ⟨f, u1, p1, rfl, hf, du1⟩ := dJ_at dv
        have hs1 := same_tup e1 hs
        refine ⟨.ref f, rfl, f, _, 0, .bl (negS b t), rfl, rfl, hf, atI_nat (j := 0) rfl, .bl b, rfl, b, rfl, ?_⟩
        cases b with
        | true =>
          refine ⟨.str "some", rfl, T.t_TURNED, "some", _, rfl, rfl, T.turned T.q_TURNED_some, .ref a, rfl, a, _, 1, .int i, rfl, rfl, hs1, atI_nat (j := 1) rfl, .ref f, rfl, f, _, 1, u1, rfl, rfl, hf, atI_nat (j := 1) rfl, by show 3 ≤ sizeLine; decide, fun m nm => ?_⟩
          refine ⟨.ref f, rfl, by show 1 ≤ sizeLine; decide, fun r nr => ⟨by show 3 ≤ sizeLine; decide, fun t nt => ?_⟩⟩
          have em := same_new (o := .tup [.str "each", .int i, u1]) nm
          have er := same_new (o := .tup [.ref f]) nr
          refine q _ _ (e1.trans (em.trans (er.trans (same_new nt)))) ?_
          exact dp_mk nt (.cons (.bl _) (.cons (dp_same er _ _ (dp_mk nm (.cons (.str _) (.cons (.int _) (.cons du1 .nil))))) (.cons (dp_mk nr (.cons (dp_same em _ _ dv) .nil)) .nil)))
        | false =>
          refine ⟨.str "some", rfl, .ref a, rfl, a, _, 1, .int i, rfl, rfl, hs1, atI_nat (j := 1) rfl, .ref f, rfl, f, _, 1, u1, rfl, rfl, hf, atI_nat (j := 1) rfl, by show 3 ≤ sizeLine; decide, fun m nm => ?_⟩
          refine ⟨.ref f, rfl, by show 1 ≤ sizeLine; decide, fun r nr => ⟨by show 3 ≤ sizeLine; decide, fun t nt => ?_⟩⟩
          have em := same_new (o := .tup [.str "some", .int i, u1]) nm
          have er := same_new (o := .tup [.ref f]) nr
          refine q _ _ (e1.trans (em.trans (er.trans (same_new nt)))) ?_
          exact dp_mk nt (.cons (.bl _) (.cons (dp_same er _ _ (dp_mk nm (.cons (.str _) (.cons (.int _) (.cons du1 .nil))))) (.cons (dp_mk nr (.cons (dp_same em _ _ dv) .nil)) .nil)))
      | an t1 t2 =>
        obtain ⟨a, z1, z2, rfl, hs, dz1, dz2⟩ := say_an hd
        refine ⟨.ref a, rfl, a, _, 0, .str "and", rfl, rfl, hs, atI_nat (j := 0) rfl, ?_⟩
        refine ⟨.str "and", rfl, rfl, _, rfl, ?_⟩
        rw [dec_vstr, decide_eq_false (by decide)]
        refine iteF ⟨.str "and", rfl, rfl, _, rfl, ?_⟩
        rw [dec_vstr, decide_eq_false (by decide)]
        refine iteF ⟨.str "and", rfl, rfl, _, rfl, ?_⟩
        rw [dec_vstr, decide_eq_false (by decide)]
        refine iteF ⟨.ref a, rfl, a, _, rfl, .inr hs, rfl, _, rfl, ?_⟩
        rw [dec_vint', decide_eq_false (by show ¬ (3 : Int) = 1; decide)]
        refine iteF ⟨.str "and", rfl, rfl, _, rfl, ?_⟩
        rw [dec_vstr, decide_eq_false (by decide)]
        refine iteF ⟨.str "and", rfl, rfl, _, rfl, ?_⟩
        rw [dec_vstr, decide_eq_false (by decide)]
        refine iteF ⟨.str "and", rfl, rfl, _, rfl, ?_⟩
        rw [dec_vstr, decide_eq_false (by decide)]
        have pd1 := Say.deep_part (s := .an t1 t2) (t := t1) List.mem_cons_self
        have pd2 := Say.deep_part (s := .an t1 t2) (t := t2) (List.mem_cons_of_mem _ List.mem_cons_self)
        refine iteF ⟨.ref a, rfl, a, _, 1, z1, rfl, rfl, hs, atI_nat (j := 1) rfl, .bl b, rfl, z1, t1, b, rfl, dz1, by omega, fun H1 v1 e1 dv1 => ?_⟩
        have hs1 := same_tup e1 hs
        refine ⟨.bl b, rfl, b, rfl, ?_⟩
        cases b with
        | true =>
          refine ⟨.str "and", rfl, T.t_TURNED, "and", _, rfl, rfl, T.turned T.q_TURNED_and, .ref a, rfl, a, _, 2, z2, rfl, rfl, hs1, atI_nat (j := 2) rfl, .bl true, rfl, z2, t2, true, rfl, dp_same e1 _ _ dz2, by omega, fun H2 v2 e2 dv2 => ?_⟩
          exact fin a _ "or" _ t1 t2 H2 v1 v2 none (e1.trans e2) (dp_same e2 _ _ dv1) dv2 rfl
        | false =>
          refine ⟨.str "and", rfl, .ref a, rfl, a, _, 2, z2, rfl, rfl, hs1, atI_nat (j := 2) rfl, .bl false, rfl, z2, t2, false, rfl, dp_same e1 _ _ dz2, by omega, fun H2 v2 e2 dv2 => ?_⟩
          exact fin a _ "and" _ t1 t2 H2 v1 v2 none (e1.trans e2) (dp_same e2 _ _ dv1) dv2 rfl
      | orr t1 t2 =>
        obtain ⟨a, z1, z2, rfl, hs, dz1, dz2⟩ := say_orr hd
        refine ⟨.ref a, rfl, a, _, 0, .str "or", rfl, rfl, hs, atI_nat (j := 0) rfl, ?_⟩
        refine ⟨.str "or", rfl, rfl, _, rfl, ?_⟩
        rw [dec_vstr, decide_eq_false (by decide)]
        refine iteF ⟨.str "or", rfl, rfl, _, rfl, ?_⟩
        rw [dec_vstr, decide_eq_false (by decide)]
        refine iteF ⟨.str "or", rfl, rfl, _, rfl, ?_⟩
        rw [dec_vstr, decide_eq_false (by decide)]
        refine iteF ⟨.ref a, rfl, a, _, rfl, .inr hs, rfl, _, rfl, ?_⟩
        rw [dec_vint', decide_eq_false (by show ¬ (3 : Int) = 1; decide)]
        refine iteF ⟨.str "or", rfl, rfl, _, rfl, ?_⟩
        rw [dec_vstr, decide_eq_false (by decide)]
        refine iteF ⟨.str "or", rfl, rfl, _, rfl, ?_⟩
        rw [dec_vstr, decide_eq_false (by decide)]
        refine iteF ⟨.str "or", rfl, rfl, _, rfl, ?_⟩
        rw [dec_vstr, decide_eq_false (by decide)]
        have pd1 := Say.deep_part (s := .orr t1 t2) (t := t1) List.mem_cons_self
        have pd2 := Say.deep_part (s := .orr t1 t2) (t := t2) (List.mem_cons_of_mem _ List.mem_cons_self)
        refine iteF ⟨.ref a, rfl, a, _, 1, z1, rfl, rfl, hs, atI_nat (j := 1) rfl, .bl b, rfl, z1, t1, b, rfl, dz1, by omega, fun H1 v1 e1 dv1 => ?_⟩
        have hs1 := same_tup e1 hs
        refine ⟨.bl b, rfl, b, rfl, ?_⟩
        cases b with
        | true =>
          refine ⟨.str "or", rfl, T.t_TURNED, "or", _, rfl, rfl, T.turned T.q_TURNED_or, .ref a, rfl, a, _, 2, z2, rfl, rfl, hs1, atI_nat (j := 2) rfl, .bl true, rfl, z2, t2, true, rfl, dp_same e1 _ _ dz2, by omega, fun H2 v2 e2 dv2 => ?_⟩
          exact fin a _ "and" _ t1 t2 H2 v1 v2 none (e1.trans e2) (dp_same e2 _ _ dv1) dv2 rfl
        | false =>
          refine ⟨.str "or", rfl, .ref a, rfl, a, _, 2, z2, rfl, rfl, hs1, atI_nat (j := 2) rfl, .bl false, rfl, z2, t2, false, rfl, dp_same e1 _ _ dz2, by omega, fun H2 v2 e2 dv2 => ?_⟩
          exact fin a _ "or" _ t1 t2 H2 v1 v2 none (e1.trans e2) (dp_same e2 _ _ dv1) dv2 rfl
      | gv t1 t2 =>
        obtain ⟨a, z1, z2, rfl, hs, dz1, dz2⟩ := say_gv hd
        refine ⟨.ref a, rfl, a, _, 0, .str "gives", rfl, rfl, hs, atI_nat (j := 0) rfl, ?_⟩
        refine ⟨.str "gives", rfl, rfl, _, rfl, ?_⟩
        rw [dec_vstr, decide_eq_false (by decide)]
        refine iteF ⟨.str "gives", rfl, rfl, _, rfl, ?_⟩
        rw [dec_vstr, decide_eq_false (by decide)]
        refine iteF ⟨.str "gives", rfl, rfl, _, rfl, ?_⟩
        rw [dec_vstr, decide_eq_false (by decide)]
        refine iteF ⟨.ref a, rfl, a, _, rfl, .inr hs, rfl, _, rfl, ?_⟩
        rw [dec_vint', decide_eq_false (by show ¬ (3 : Int) = 1; decide)]
        refine iteF ⟨.str "gives", rfl, rfl, _, rfl, ?_⟩
        rw [dec_vstr, decide_eq_true (by decide)]
        have pd1 := Say.deep_part (s := .gv t1 t2) (t := t1) List.mem_cons_self
        have pd2 := Say.deep_part (s := .gv t1 t2) (t := t2) (List.mem_cons_of_mem _ List.mem_cons_self)
        refine iteT ⟨.ref a, rfl, a, _, 1, z1, rfl, rfl, hs, atI_nat (j := 1) rfl, .bl b, rfl, b, rfl, z1, t1, !b, rfl, dz1, by omega, fun H1 v1 e1 dv1 => ?_⟩
        have hs1 := same_tup e1 hs
        refine ⟨.bl b, rfl, b, rfl, ?_⟩
        cases b with
        | true =>
          refine ⟨.ref a, rfl, a, _, 2, z2, rfl, rfl, hs1, atI_nat (j := 2) rfl, .bl true, rfl, z2, t2, true, rfl, dp_same e1 _ _ dz2, by omega, fun H2 v2 e2 dv2 => ?_⟩
          exact fin a _ "and" _ t1 t2 H2 v1 v2 none (e1.trans e2) (dp_same e2 _ _ dv1) dv2 rfl
        | false =>
          refine ⟨.ref a, rfl, a, _, 2, z2, rfl, rfl, hs1, atI_nat (j := 2) rfl, .bl false, rfl, z2, t2, false, rfl, dp_same e1 _ _ dz2, by omega, fun H2 v2 e2 dv2 => ?_⟩
          exact fin a _ "or" _ t1 t2 H2 v1 v2 none (e1.trans e2) (dp_same e2 _ _ dv1) dv2 rfl
def sp_turned (K : PySem.W.Frag) : Sp := fun vs H Q _ => ∃ (v : V) (s : Say) (b : Bool), vs = [v, .bl b] ∧ Dp K H v (dSay s) ∧ s.deep ≤ 40 ∧ ∀ H' v', Same H H' → Dp K H' v' (dSay (turnS b s)) → Q v' H'
theorem ok_turned (T : Tops K w mg) : FnOk P w K mg base CX0 42 T.a_turned T.fd_turned p_turned (sp_turned K) := by
  have S := sc_turned
  refine T.F_turned.ok S (fun vs H Q E h => ?_) (fun cdv A outer s0 H vs Q E hr h => ?_)
  · obtain ⟨v, s, b, rfl, _⟩ := h
    rfl
  · obtain ⟨v, s, b, rfl, hd, hdeep, q⟩ := h
    refine ⟨_, (pss_one (ps_ret (pe_ix (ix_tupK (K := K)) (pe_call (ok_judged T 40) (hr.mono (by omega)) (by rfl) T.g_judged T.F_judged.kp T.b_judged .nil pass0 (pa_cons (pv 0) (pa_cons (pv 1) pa_nil))) pe_int (fun _ _ => rfl)))), ?_⟩
    refine ⟨v, rfl, .bl b, rfl, v, s, b, rfl, hd, hdeep, fun H1 v1 e1 dv => ?_⟩
    obtain ⟨f, u1, p1, rfl, hf, du1⟩ := dJ_at dv
    exact ⟨f, _, 1, u1, rfl, rfl, hf, atI_nat (j := 1) rfl, q H1 u1 e1 du1⟩
end
end K0

namespace K0
open PySem PySem.Spec PyProof.Rows L2 W0 W1 W2 W5 W6 V0 V1
theorem turn_deep : ∀ (b : Bool) (s : Say), (turnS b s).deep ≤ s.deep + 1
  | b, .hr j => by cases b <;> simp [turnS, Say.deep]
  | b, .lt i => by cases b <;> simp [turnS, Say.deep]
  | b, .yes => by cases b <;> simp [turnS, Say.deep]
  | b, .no => by cases b <;> simp [turnS, Say.deep]
  | b, .nt s => by
    have := turn_deep (!b) s
    show (turnS (!b) s).deep ≤ s.deep + 1 + 1
    omega
  | b, .an x y => by
    have h1 := turn_deep b x
    have h2 := turn_deep b y
    cases b <;> simp only [turnS, Say.deep, if_true, Bool.false_eq_true, if_false] at * <;> omega
  | b, .orr x y => by
    have h1 := turn_deep b x
    have h2 := turn_deep b y
    cases b <;> simp only [turnS, Say.deep, if_true, Bool.false_eq_true, if_false] at * <;> omega
  | b, .gv x y => by
    have h1 := turn_deep (!b) x
    have h2 := turn_deep b y
    cases b <;> simp only [turnS, Say.deep, if_true, Bool.false_eq_true, if_false] at * <;> omega
  | b, .ea w s => by
    have h1 := turn_deep b s
    cases b <;> simp only [turnS, Say.deep, if_true, Bool.false_eq_true, if_false] at * <;> omega
  | b, .so w s => by
    have h1 := turn_deep b s
    cases b <;> simp only [turnS, Say.deep, if_true, Bool.false_eq_true, if_false] at * <;> omega
theorem turn_words : ∀ (b : Bool) (s : Say), (turnS b s).words.length ≤ 2 * s.words.length
  | b, .hr j => by cases b <;> simp [turnS, Say.words]
  | b, .lt i => by cases b <;> simp [turnS, Say.words]
  | b, .yes => by cases b <;> simp [turnS, Say.words]
  | b, .no => by cases b <;> simp [turnS, Say.words]
  | b, .nt s => by
    have := turn_words (!b) s
    show (turnS (!b) s).words.length ≤ 2 * (s.words.length + 1)
    omega
  | b, .an x y => by
    have h1 := turn_words b x
    have h2 := turn_words b y
    cases b <;> simp only [turnS, Say.words, if_true, Bool.false_eq_true, if_false, List.length_cons, List.length_append] at * <;> omega
  | b, .orr x y => by
    have h1 := turn_words b x
    have h2 := turn_words b y
    cases b <;> simp only [turnS, Say.words, if_true, Bool.false_eq_true, if_false, List.length_cons, List.length_append] at * <;> omega
  | b, .gv x y => by
    have h1 := turn_words (!b) x
    have h2 := turn_words b y
    cases b <;> simp only [turnS, Say.words, if_true, Bool.false_eq_true, if_false, List.length_cons, List.length_append] at * <;> omega
  | b, .ea w s => by
    have h1 := turn_words b s
    cases b <;> simp only [turnS, Say.words, if_true, Bool.false_eq_true, if_false, List.length_cons] at * <;> omega
  | b, .so w s => by
    have h1 := turn_words b s
    cases b <;> simp only [turnS, Say.words, if_true, Bool.false_eq_true, if_false, List.length_cons] at * <;> omega
section
variable {P : Program} {w : World} {K : PySem.W.Frag} {mg : Str → Option Value} {base : Heap}
def sp_inward (K : PySem.W.Frag) (b : Bool) : Sp := fun vs H Q _ => ∃ (v : V) (s : Say), vs = [v] ∧ Dp K H v (dSay s) ∧ s.Ok ∧ s.deep ≤ 40 ∧ s.words.length ≤ 400 ∧ ∀ H' v', Same H H' → Dp K H' v' (dSay (turnS b s)) → Q v' H'
theorem ok_inward (T : Tops K w mg) : FnOk P w K mg base CX0 43 T.a_inward T.fd_inward p_inward (sp_inward K false) := by
  have S := sc_inward
  refine T.F_inward.ok S (fun vs H Q E h => ?_) (fun cdv A outer s0 H vs Q E hr h => ?_)
  · obtain ⟨v, s, rfl, _⟩ := h
    rfl
  · obtain ⟨v, s, rfl, hd, ok, hdeep, hw, q⟩ := h
    refine ⟨_, (pss_one (ps_ret (pe_call (ok_turned T) (hr.mono (by first | decide | omega)) (by rfl) T.g_turned T.F_turned.kp T.b_turned .nil pass0 (pa_cons (pe_call (ok_need_saying T) (hr.mono (by first | decide | omega)) (by rfl) T.g_need_saying T.F_need_saying.kp T.b_need_saying .nil pass0 (pa_cons (pv 0) pa_nil)) (pa_cons pe_bl pa_nil))))), ?_⟩
    refine ⟨v, rfl, v, s, rfl, hd, ok, hdeep, hw, fun H1 e1 => ?_⟩
    exact ⟨v, s, false, rfl, dp_same e1 _ _ hd, hdeep, fun H2 v2 e2 d2 => q H2 v2 (e1.trans e2) d2⟩
theorem ok_turned_about (T : Tops K w mg) : FnOk P w K mg base CX0 43 T.a_turned_about T.fd_turned_about p_turned_about (sp_inward K true) := by
  have S := sc_turned_about
  refine T.F_turned_about.ok S (fun vs H Q E h => ?_) (fun cdv A outer s0 H vs Q E hr h => ?_)
  · obtain ⟨v, s, rfl, _⟩ := h
    rfl
  · obtain ⟨v, s, rfl, hd, ok, hdeep, hw, q⟩ := h
    refine ⟨_, (pss_one (ps_ret (pe_call (ok_turned T) (hr.mono (by first | decide | omega)) (by rfl) T.g_turned T.F_turned.kp T.b_turned .nil pass0 (pa_cons (pe_call (ok_need_saying T) (hr.mono (by first | decide | omega)) (by rfl) T.g_need_saying T.F_need_saying.kp T.b_need_saying .nil pass0 (pa_cons (pv 0) pa_nil)) (pa_cons pe_bl pa_nil))))), ?_⟩
    refine ⟨v, rfl, v, s, rfl, hd, ok, hdeep, hw, fun H1 e1 => ?_⟩
    exact ⟨v, s, true, rfl, dp_same e1 _ _ hd, hdeep, fun H2 v2 e2 d2 => q H2 v2 (e1.trans e2) d2⟩
/-- the words' own heads, of the inward saying -/
def headsS (s : Say) : List Str := (turnS false s).words.map Say.hd
theorem in_strs (x : Str) (l : List Str) : L2.inV (.str x) (l.map V.str) = decide (x ∈ l) := by
  unfold L2.inV
  rw [List.any_map]
  induction l with
  | nil => rfl
  | cons y l ih =>
    rw [List.any_cons, ih]
    show ((y == x) || decide (x ∈ l)) = _
    by_cases h : x = y
    · subst h
      rw [beq_self_eq_true, Bool.true_or, decide_eq_true List.mem_cons_self]
    · rw [beq_eq_false_iff_ne.mpr (fun z => h z.symm), Bool.false_or]
      by_cases m : x ∈ l
      · rw [decide_eq_true m, decide_eq_true (List.mem_cons_of_mem _ m)]
      · rw [decide_eq_false m, decide_eq_false (fun z => (List.mem_cons.mp z).elim h m)]
def sp_is_positive (K : PySem.W.Frag) : Sp := fun vs H Q _ => ∃ (v : V) (s : Say), vs = [v] ∧ Dp K H v (dSay s) ∧ s.Ok ∧ s.deep ≤ 40 ∧ s.words.length ≤ 400 ∧ ∀ H', Same H H' → Q (.bl (!decide (("not" : Str) ∈ headsS s))) H'
theorem ok_is_positive (T : Tops K w mg) : FnOk P w K mg base CX0 44 T.a_is_positive T.fd_is_positive p_is_positive (sp_is_positive K) := by
  have S := sc_is_positive
  refine T.F_is_positive.ok S (fun vs H Q E h => ?_) (fun cdv A outer s0 H vs Q E hr h => ?_)
  · obtain ⟨v, s, rfl, _⟩ := h
    rfl
  · obtain ⟨v, s, rfl, hd, ok, hdeep, hw, q⟩ := h
    refine ⟨_, (pss_one (ps_ret (pe_cmpR op_notIn_seq pe_str (pe_lc (own := [("word", 1)]) rfl S.nd (pi_list (pe_call (ok_words_of T) (hr.mono (by first | decide | omega)) (by rfl) T.g_words_of T.F_words_of.kp T.b_words_of .nil pass0 (pa_cons (pe_call (ok_inward T) (hr.mono (by first | decide | omega)) (by rfl) T.g_inward T.F_inward.kp T.b_inward .nil pass0 (pa_cons (pv 0) pa_nil)) pa_nil))) (blkOk_by (N := n_is_positive) (sc := defScope s_is_positive) (by decide +kernel)) (fun _ _ _ _ _ => (pg_name (i := 1) S.nd rfl (Or.inl rfl))) (fun _ _ _ _ _ => pts_nil) (fun _ _ _ _ _ => (pe_ix (ix_tupK (K := K)) (pv 1) pe_int (fun _ _ => rfl)))) (by rfl)))), ?_⟩
    have td := turn_deep false s
    have tw := turn_words false s
    refine ⟨v, rfl, v, s, rfl, hd, ok, hdeep, hw, fun H1 v1 e1 d1 => ?_⟩
    refine ⟨v1, turnS false s, rfl, d1, by omega, by omega, fun H2 p xs e2 _ hp hx => ?_⟩
    have hlen := dps_len hx
    rw [List.length_map] at hlen
    have bl := (Say.bfs_perm (turnS false s)).length_eq
    refine ⟨p, rfl, ⟨_, SqL.of hp⟩, fun D nD => ?_⟩
    refine lc_list (K := K) (a := p) (xs := xs) (fun j H' => Same H2 H' ∧ H' D = some (.lst ((((turnS false s).bfs.map Say.hd).take j).map V.str))) ⟨same_new nD, upd_same⟩ (fun _ H' _ h => SqL.of (h.1 _ _ hp)) (fun j x H3 hxj h => ?_) (fun H3 h => ?_)
    · obtain ⟨e3, hD⟩ := h
      obtain ⟨t, ti, tm, dt⟩ := get_say (dps_same e3 _ _ hx) hxj
      obtain ⟨a, ys, rfl, hs, hda⟩ := say_at dt
      refine ⟨rfl, .ref a, rfl, a, _, 0, .str t.hd, rfl, rfl, hs, atI_nat (j := 0) rfl, _, hD, ?_, same_upd_new e3 nD, ?_⟩
      · rw [List.length_map]
        refine small (m := 1000) (Nat.le_trans (List.length_take_le' _ _) ?_)
        skip
        rw [List.length_map]
        omega
      · rw [upd_same, List.take_add_one]
        skip
        rw [List.getElem?_map, ti, List.map_append]
        rfl
    · obtain ⟨e3, hD⟩ := h
      have hD' : H3 D = some (.lst (((turnS false s).bfs.map Say.hd).map V.str)) := by
        rw [hD, List.take_of_length_le]
        skip
        rw [List.length_map]
        omega
      refine ⟨D, _, rfl, .inl (SqL.of hD'), rfl, flat_strs _, ?_⟩
      rw [if_pos rfl, in_strs]
      have em : decide (("not" : Str) ∈ (turnS false s).bfs.map Say.hd) = decide (("not" : Str) ∈ headsS s) := decide_eq_decide.mpr (((Say.bfs_perm (turnS false s)).map Say.hd).mem_iff)
      rw [em]
      exact q H3 (e1.trans (e2.trans e3))
theorem turn_signs : ∀ (b : Bool) {s : Say}, s.Ok → ((turnS b s).words.map Say.hd).count ("not" : Str) ≤ ((turnS b s).words.map Say.hd).count ("letter" : Str) ∧ (((turnS b s).words.map Say.hd).count ("not" : Str) = ((turnS b s).words.map Say.hd).count ("letter" : Str) ↔ negS b s = true)
  | false, .lt i, _ => by
    show (["letter"] : List Str).count ("not" : Str) ≤ (["letter"] : List Str).count ("letter" : Str) ∧ ((["letter"] : List Str).count ("not" : Str) = (["letter"] : List Str).count ("letter" : Str) ↔ false = true)
    decide
  | true, .lt i, _ => by
    show (["not", "letter"] : List Str).count ("not" : Str) ≤ (["not", "letter"] : List Str).count ("letter" : Str) ∧ ((["not", "letter"] : List Str).count ("not" : Str) = (["not", "letter"] : List Str).count ("letter" : Str) ↔ true = true)
    decide
  | _, .hr _, h => h.elim
  | b, .yes, _ => by cases b <;> decide
  | b, .no, _ => by cases b <;> decide
  | b, .nt s, h => turn_signs (!b) (s := s) h
  | b, .an x y, h => by
    have h1 := turn_signs b h.1
    have h2 := turn_signs b h.2
    have n1 : (("or" : Str) == "not") = false := by decide
    have n2 : (("and" : Str) == "not") = false := by decide
    have n3 : (("or" : Str) == "letter") = false := by decide
    have n4 : (("and" : Str) == "letter") = false := by decide
    cases b <;> simp only [turnS, negS, Say.words, Say.hd, if_true, Bool.false_eq_true, if_false, List.map_cons, List.map_append, List.count_cons, List.count_append, n1, n2, n3, n4, Bool.and_eq_true, Nat.add_zero] at * <;> (rw [← h1.2, ← h2.2]; omega)
  | b, .orr x y, h => by
    have h1 := turn_signs b h.1
    have h2 := turn_signs b h.2
    have n1 : (("or" : Str) == "not") = false := by decide
    have n2 : (("and" : Str) == "not") = false := by decide
    have n3 : (("or" : Str) == "letter") = false := by decide
    have n4 : (("and" : Str) == "letter") = false := by decide
    cases b <;> simp only [turnS, negS, Say.words, Say.hd, if_true, Bool.false_eq_true, if_false, List.map_cons, List.map_append, List.count_cons, List.count_append, n1, n2, n3, n4, Bool.and_eq_true, Nat.add_zero] at * <;> (rw [← h1.2, ← h2.2]; omega)
  | b, .gv x y, h => by
    have h1 := turn_signs (!b) h.1
    have h2 := turn_signs b h.2
    have n1 : (("or" : Str) == "not") = false := by decide
    have n2 : (("and" : Str) == "not") = false := by decide
    have n3 : (("or" : Str) == "letter") = false := by decide
    have n4 : (("and" : Str) == "letter") = false := by decide
    cases b <;> simp only [turnS, negS, Say.words, Say.hd, if_true, Bool.false_eq_true, if_false, List.map_cons, List.map_append, List.count_cons, List.count_append, n1, n2, n3, n4, Bool.and_eq_true, Nat.add_zero, Bool.not_true, Bool.not_false] at * <;> (rw [← h1.2, ← h2.2]; omega)
  | b, .ea w s, h => by
    have h1 := turn_signs b h.2
    have n1 : (("each" : Str) == "not") = false := by decide
    have n2 : (("some" : Str) == "not") = false := by decide
    have n3 : (("each" : Str) == "letter") = false := by decide
    have n4 : (("some" : Str) == "letter") = false := by decide
    cases b <;> simp only [turnS, negS, Say.words, Say.hd, if_true, Bool.false_eq_true, if_false, List.map_cons, List.count_cons, n1, n2, n3, n4, Nat.add_zero] at * <;> exact h1
  | b, .so w s, h => by
    have h1 := turn_signs b h.2
    have n1 : (("each" : Str) == "not") = false := by decide
    have n2 : (("some" : Str) == "not") = false := by decide
    have n3 : (("each" : Str) == "letter") = false := by decide
    have n4 : (("some" : Str) == "letter") = false := by decide
    cases b <;> simp only [turnS, negS, Say.words, Say.hd, if_true, Bool.false_eq_true, if_false, List.map_cons, List.count_cons, n1, n2, n3, n4, Nat.add_zero] at * <;> exact h1
end
end K0

namespace K0
open PySem PySem.Spec PyProof.Rows L2 W0 W1 W2 W5 W6 V0 V1
section
variable {P : Program} {w : World} {K : PySem.W.Frag} {mg : Str → Option Value} {base : Heap}
def sp_is_negative (K : PySem.W.Frag) : Sp := fun vs H Q _ => ∃ (v : V) (s : Say), vs = [v] ∧ Dp K H v (dSay s) ∧ s.Ok ∧ s.deep ≤ 40 ∧ s.words.length ≤ 400 ∧ ∀ H', Same H H' → Q (.bl (decide ((headsS s).count ("not" : Str) = (headsS s).count ("letter" : Str)))) H'
theorem ok_is_negative (T : Tops K w mg) : FnOk P w K mg base CX0 44 T.a_is_negative T.fd_is_negative p_is_negative (sp_is_negative K) := by
  have S := sc_is_negative
  refine T.F_is_negative.ok S (fun vs H Q E h => ?_) (fun cdv A outer s0 H vs Q E hr h => ?_)
  · obtain ⟨v, s, rfl, _⟩ := h
    rfl
  · obtain ⟨v, s, rfl, hd, ok, hdeep, hw, q⟩ := h
    refine ⟨_, (pss_one (ps_ret (pe_ix (ix_tupK (K := K)) (pe_call (ok_judged T 40) (hr.mono (by omega)) (by rfl) T.g_judged T.F_judged.kp T.b_judged .nil pass0 (pa_cons (pe_call (ok_need_saying T) (hr.mono (by first | decide | omega)) (by rfl) T.g_need_saying T.F_need_saying.kp T.b_need_saying .nil pass0 (pa_cons (pv 0) pa_nil)) (pa_cons pe_bl pa_nil))) pe_int (fun _ _ => rfl)))), ?_⟩
    refine ⟨v, rfl, v, s, rfl, hd, ok, hdeep, hw, fun H1 e1 => ?_⟩
    refine ⟨v, s, false, rfl, dp_same e1 _ _ hd, hdeep, fun H2 v2 e2 dv => ?_⟩
    obtain ⟨f, u1, p1, rfl, hf, du1⟩ := dJ_at dv
    have e : decide ((headsS s).count ("not" : Str) = (headsS s).count ("letter" : Str)) = negS false s := by
      have h := (turn_signs false ok).2
      cases z : negS false s with
      | true => exact decide_eq_true (h.mpr z)
      | false => exact decide_eq_false fun y => by rw [h.mp y] at z; cases z
    rw [e] at q
    exact ⟨f, _, 0, _, rfl, rfl, hf, atI_nat (j := 0) rfl, q H2 (e1.trans e2)⟩
end
end K0

namespace K0
open PySem PySem.Spec PyProof.Rows L2 W0 W1 W2 W5 W6 V0 V1
theorem dec_vint {a b : Int} : decide (V.int a = V.int b) = decide (a = b) := by
  by_cases h : a = b
  · rw [decide_eq_true h, decide_eq_true (congrArg V.int h)]
  · rw [decide_eq_false h, decide_eq_false (fun z => h (V.int.inj z))]
/-- a dict's and a list's own addresses are not a new one -/
theorem StAt.news {K : PySem.W.Frag} {H : Hp} {st c l : Addr} {B : Nat} (h : StAt K H st c l B) {p : Addr} (n : H p = none) : p ≠ st ∧ p ≠ l := by
  obtain ⟨⟨kvs, h1⟩, ⟨ls, h2⟩⟩ := h.two
  refine ⟨fun z => ?_, fun z => ?_⟩
  · rw [z, h1] at n
    cases n
  · rw [z, h2] at n
    cases n
theorem say_x {K : PySem.W.Frag} {H H' : Hp} {st c l : Addr} {B : Nat} {v : V} {s : Say} (h : StAt K H st c l B) (e : SameX st l H H') (d : Dp K H v (dSay s)) : Dp K H' v (dSay s) := dp_mv (fun _ _ q => sqT_x h e q) _ _ (noL_say s) d
theorem pick3 {k : Int} (h0 : 0 ≤ k) (h3 : k < 3) : ∃ (h : Str) (mk : Say → Say → Say), atI [V.str "and", V.str "or", V.str "gives"] k = some (.str h) ∧ (∀ a b, dSay (mk a b) = .tuple [.str h, dSay a, dSay b]) ∧ (∀ a b, a.Ok → b.Ok → (mk a b).Ok) ∧ ∀ a b, (mk a b).deep = max a.deep b.deep + 1 := by
  have : k = 0 ∨ k = 1 ∨ k = 2 := by omega
  rcases this with rfl | rfl | rfl
  · exact ⟨"and", Say.an, atI_nat (j := 0) rfl, fun _ _ => rfl, fun _ _ a b => ⟨a, b⟩, fun _ _ => rfl⟩
  · exact ⟨"or", Say.orr, atI_nat (j := 1) rfl, fun _ _ => rfl, fun _ _ a b => ⟨a, b⟩, fun _ _ => rfl⟩
  · exact ⟨"gives", Say.gv, atI_nat (j := 2) rfl, fun _ _ => rfl, fun _ _ a b => ⟨a, b⟩, fun _ _ => rfl⟩
theorem pick2 {k : Int} (h0 : 0 ≤ k) (h3 : k < 2) : ∃ (h : Str) (mk : Int → Say → Say), atI [V.str "each", V.str "some"] k = some (.str h) ∧ (∀ w a, dSay (mk w a) = .tuple [.str h, .int w, dSay a]) ∧ (∀ w a, -3 ≤ w ∧ w ≤ 2 → a.Ok → (mk w a).Ok) ∧ ∀ w a, (mk w a).deep = a.deep + 1 := by
  have : k = 0 ∨ k = 1 := by omega
  rcases this with rfl | rfl
  · exact ⟨"each", Say.ea, atI_nat (j := 0) rfl, fun _ _ => rfl, fun _ _ a b => ⟨a, b⟩, fun _ _ => rfl⟩
  · exact ⟨"some", Say.so, atI_nat (j := 1) rfl, fun _ _ => rfl, fun _ _ a b => ⟨a, b⟩, fun _ _ => rfl⟩
section
variable {P : Program} {w : World} {K : PySem.W.Frag} {mg : Str → Option Value} {base : Heap}
def sp_saying (K : PySem.W.Frag) (d : Nat) : Sp := fun vs H Q _ => ∃ (st c l : Addr) (B m : Nat), vs = [.ref st, .int d, .int m] ∧ 1 ≤ d ∧ 1 ≤ m ∧ m ≤ 8 ∧ StAt K H st c l B ∧ B + 4 * 2 ^ d ≤ 100000 ∧
  ∀ H' v (s : Say), StAt K H' st c l (B + 4 * 2 ^ d - 4) → SameX st l H H' → Dp K H' v (dSay s) → s.Ok → s.deep ≤ d → Q v H'
theorem ok__law_saying (T : Tops K w mg) : ∀ d : Nat, FnOk P w K mg base CX0 (d + 2) T.a__law_saying T.fd__law_saying p__law_saying (sp_saying K d)
  | 0 => by
    have S := sc__law_saying
    refine T.F__law_saying.ok S (fun vs H Q E h => ?_) (fun cdv AA outer s0 H vs Q E hr h => ?_)
    · obtain ⟨st, c, l, B, m, rfl, _⟩ := h
      rfl
    · obtain ⟨st, c, l, B, m, rfl, h0, _⟩ := h
      exact absurd h0 (by decide)
  | d + 1 => by
    have ih := ok__law_saying T d
    have S := sc__law_saying
    refine T.F__law_saying.ok S (fun vs H Q E h => ?_) (fun cdv AA outer s0 H vs Q E hr h => ?_)
    · obtain ⟨st, c, l, B, m, rfl, _⟩ := h
      rfl
    · obtain ⟨st, c, l, B, m, rfl, hd1, hm1, hm8, hst, hB, q⟩ := h
      refine ⟨_, (pss_cons (ps_set (i := 3) S.nd rfl (Or.inl rfl) (pe_ifExp (pt_cmpR op_gt (pv 1) pe_int (nomark _)) (pe_call (ok__law_draw T) (hr.mono (by first | decide | omega)) (by rfl) T.g__law_draw T.F__law_draw.kp T.b__law_draw .nil pass0 (pa_cons (pv 0) (pa_cons pe_int pa_nil))) (pe_call (ok__law_draw T) (hr.mono (by first | decide | omega)) (by rfl) T.g__law_draw T.F__law_draw.kp T.b__law_draw .nil pass0 (pa_cons (pv 0) (pa_cons pe_int pa_nil)))))
      (pss_cons (ps_if (pt_cmpR op_lt (pv 3) pe_int (nomark _)) (pss_one (ps_ret (pe_tup (pa_cons pe_str (pa_cons (pe_call (ok__law_draw T) (hr.mono (by first | decide | omega)) (by rfl) T.g__law_draw T.F__law_draw.kp T.b__law_draw .nil pass0 (pa_cons (pv 0) (pa_cons (pv 2) pa_nil))) pa_nil))))) pss_nil)
      (pss_cons (ps_if (pt_cmpR op_eq (pv 3) pe_int (nomark _)) (pss_one (ps_ret (pe_tup (pa_cons (pe_ix (ix_listK (K := K)) (pe_lst (pa_cons pe_str (pa_cons pe_str pa_nil))) (pe_call (ok__law_draw T) (hr.mono (by first | decide | omega)) (by rfl) T.g__law_draw T.F__law_draw.kp T.b__law_draw .nil pass0 (pa_cons (pv 0) (pa_cons pe_int pa_nil))) (fun _ _ => rfl)) pa_nil)))) pss_nil)
      (pss_cons (ps_if (pt_cmpR op_lt (pv 3) pe_int (nomark _)) (pss_one (ps_ret (pe_tup (pa_cons pe_str (pa_cons (pe_call ih (hr.mono (by omega)) (by rfl) T.g__law_saying T.F__law_saying.kp T.b__law_saying .nil pass0 (pa_cons (pv 0) (pa_cons (pe_op op_sub (pv 1) pe_int) (pa_cons (pv 2) pa_nil)))) pa_nil))))) pss_nil)
      (pss_cons (ps_if (pt_cmpR op_lt (pv 3) pe_int (nomark _)) (pss_cons (ps_set (i := 4) S.nd rfl (Or.inl rfl) (pe_ix (ix_listK (K := K)) (pe_lst (pa_cons pe_str (pa_cons pe_str (pa_cons pe_str pa_nil)))) (pe_call (ok__law_draw T) (hr.mono (by first | decide | omega)) (by rfl) T.g__law_draw T.F__law_draw.kp T.b__law_draw .nil pass0 (pa_cons (pv 0) (pa_cons pe_int pa_nil))) (fun _ _ => rfl)))
      (pss_cons (ps_set (i := 6) S.nd rfl (Or.inl rfl) (pe_call ih (hr.mono (by omega)) (by rfl) T.g__law_saying T.F__law_saying.kp T.b__law_saying .nil pass0 (pa_cons (pv 0) (pa_cons (pe_op op_sub (pv 1) pe_int) (pa_cons (pv 2) pa_nil)))))
      (pss_one (ps_ret (pe_tup (pa_cons (pv 4) (pa_cons (pv 6) (pa_cons (pe_call ih (hr.mono (by omega)) (by rfl) T.g__law_saying T.F__law_saying.kp T.b__law_saying .nil pass0 (pa_cons (pv 0) (pa_cons (pe_op op_sub (pv 1) pe_int) (pa_cons (pv 2) pa_nil)))) pa_nil)))))))) pss_nil)
      (pss_cons (ps_par (i := 4) (j := 5) rfl S.nd rfl rfl (by decide) rfl rfl (pa_cons (pe_ix (ix_listK (K := K)) (pe_lst (pa_cons pe_str (pa_cons pe_str pa_nil))) (pe_call (ok__law_draw T) (hr.mono (by first | decide | omega)) (by rfl) T.g__law_draw T.F__law_draw.kp T.b__law_draw .nil pass0 (pa_cons (pv 0) (pa_cons pe_int pa_nil))) (fun _ _ => rfl)) (pa_cons (pe_op op_sub (pe_call (ok__law_draw T) (hr.mono (by first | decide | omega)) (by rfl) T.g__law_draw T.F__law_draw.kp T.b__law_draw .nil pass0 (pa_cons (pv 0) (pa_cons pe_int pa_nil))) pe_int) pa_nil)) (by rfl))
      (pss_one (ps_ret (pe_tup (pa_cons (pv 4) (pa_cons (pv 5) (pa_cons (pe_call ih (hr.mono (by omega)) (by rfl) T.g__law_saying T.F__law_saying.kp T.b__law_saying .nil pass0 (pa_cons (pv 0) (pa_cons (pe_op op_sub (pv 1) pe_int) (pa_cons (pv 2) pa_nil)))) pa_nil)))))))))))), ?_⟩
      have p2 : 2 ^ (d + 1) = 2 * 2 ^ d := by rw [Nat.pow_succ, Nat.mul_comm]
      have p1 : 1 ≤ 2 ^ d := Nat.one_le_two_pow
      refine ⟨.int (d + 1 : Nat), rfl, (d + 1 : Nat), 1, rfl, rfl, _, rfl, ?_⟩
      have ed : ((d + 1 : Nat) : Int) - 1 = (d : Int) := by omega
      refine ite2 (fun hc => ⟨.ref st, rfl, st, c, l, B, 10, rfl, by decide, by decide, hst, by omega, fun H1 i hi0 hi9 st1 off1 => ?_⟩) (fun hc => ⟨.ref st, rfl, st, c, l, B, 3, rfl, by decide, by decide, hst, by omega, fun H1 i hi0 hi9 st1 off1 => ?_⟩)
      · have lim : i < 10 ∧ (3 ≤ i → 1 ≤ d) := ⟨hi9, fun _ => by have := of_decide_eq_true hc; omega⟩
        have e1 : SameX st l H H1 := SameX.off off1
        clear off1
        refine ⟨.int i, rfl, i, 2, rfl, rfl, _, rfl, ite2 (fun h2 => ?_) (fun h2 => ?_)⟩
        · refine ⟨.ref st, rfl, .int m, rfl, st, c, l, B + 1, m, rfl, by omega, by omega, st1, by omega, fun H2 k hk0 hk1 st2 off2 => ?_⟩
          refine ⟨by show 2 ≤ sizeLine; decide, fun y ny => ?_⟩
          obtain ⟨k, rfl⟩ : ∃ z : Nat, k = z := ⟨k.toNat, (Int.toNat_of_nonneg hk0).symm⟩
          refine q _ _ (.lt k) ((st2.mono (by omega)).same (same_new ny)) (e1.trans ((SameX.off off2).trans (SameX.of (same_new ny)))) (dp_mk ny (.cons (.str _) (.cons (.int _) .nil))) ?_ hd1
          show k < 8
          omega
        have n2 : ¬ i < 2 := fun z => h2 (decide_eq_true z)
        refine ⟨.int i, rfl, rfl, _, rfl, ?_⟩
        rw [dec_vint]
        refine ite2 (fun h3 => ?_) (fun h3 => ?_)
        · refine ⟨by show 2 ≤ sizeLine; decide, fun g ng => ?_⟩
          obtain ⟨g1, g2⟩ := st1.news ng
          have eg := same_new (o := .lst [.str "yes", .str "no"]) ng
          refine ⟨.ref st, rfl, st, c, l, B + 1, 2, rfl, by decide, by decide, st1.same eg, by omega, fun H2 k hk0 hk1 st2 off2 => ?_⟩
          have hg : H2 g = some (.lst [.str "yes", .str "no"]) := (off2 g g1 g2).trans upd_same
          have e2 := e1.trans ((SameX.of eg).trans (SameX.off off2))
          have k01 : k = 0 ∨ k = 1 := by omega
          rcases k01 with rfl | rfl
          · refine ⟨g, _, 0, .str "yes", rfl, rfl, SqL.of hg, atI_nat (j := 0) rfl, by show 1 ≤ sizeLine; decide, fun y ny => ?_⟩
            exact q _ _ .yes ((st2.mono (by omega)).same (same_new ny)) (e2.trans (SameX.of (same_new ny))) (dp_mk ny (.cons (.str _) .nil)) trivial hd1
          · refine ⟨g, _, 1, .str "no", rfl, rfl, SqL.of hg, atI_nat (j := 1) rfl, by show 1 ≤ sizeLine; decide, fun y ny => ?_⟩
            exact q _ _ .no ((st2.mono (by omega)).same (same_new ny)) (e2.trans (SameX.of (same_new ny))) (dp_mk ny (.cons (.str _) .nil)) trivial hd1
        have n3 : ¬ i = 2 := fun z => h3 (decide_eq_true z)
        have d1 : 1 ≤ d := lim.2 (by omega)
        refine ⟨.int i, rfl, i, 5, rfl, rfl, _, rfl, ite2 (fun h4 => ?_) (fun h4 => ?_)⟩
        · refine ⟨.ref st, rfl, .int (d + 1 : Nat), rfl, (d + 1 : Nat), 1, rfl, rfl, .int m, rfl, st, c, l, B + 1, m, by dsimp only; rw [ed]; rfl, d1, hm1, hm8, st1, by omega, fun H2 v s st2 e2 d2 ok2 dp2 => ?_⟩
          refine ⟨by show 2 ≤ sizeLine; decide, fun y ny => ?_⟩
          refine q _ _ (.nt s) ((st2.mono (by omega)).same (same_new ny)) (e1.trans (e2.trans (SameX.of (same_new ny)))) (dp_mk ny (.cons (.str _) (.cons d2 .nil))) ok2 ?_
          show s.deep + 1 ≤ d + 1
          omega
        refine ⟨.int i, rfl, i, 7, rfl, rfl, _, rfl, ite2 (fun h5 => ?_) (fun h5 => ?_)⟩
        · refine ⟨by show 3 ≤ sizeLine; decide, fun g ng => ?_⟩
          obtain ⟨g1, g2⟩ := st1.news ng
          have eg := same_new (o := .lst [.str "and", .str "or", .str "gives"]) ng
          refine ⟨.ref st, rfl, st, c, l, B + 1, 3, rfl, by decide, by decide, st1.same eg, by omega, fun H2 k hk0 hk1 st2 off2 => ?_⟩
          have hg : H2 g = some (.lst [.str "and", .str "or", .str "gives"]) := (off2 g g1 g2).trans upd_same
          have e2 := e1.trans ((SameX.of eg).trans (SameX.off off2))
          obtain ⟨h, mk, hk, m1, m2, m3⟩ := pick3 hk0 hk1
          refine ⟨g, _, k, .str h, rfl, rfl, SqL.of hg, hk, ?_⟩
          refine ⟨.ref st, rfl, .int (d + 1 : Nat), rfl, (d + 1 : Nat), 1, rfl, rfl, .int m, rfl, st, c, l, B + 2, m, by dsimp only; rw [ed]; rfl, d1, hm1, hm8, st2, by omega, fun H3 v s st3 e3 d3 ok3 dp3 => ?_⟩
          refine ⟨.str h, rfl, v, rfl, .ref st, rfl, .int (d + 1 : Nat), rfl, (d + 1 : Nat), 1, rfl, rfl, .int m, rfl, st, c, l, _, m, by dsimp only; rw [ed]; rfl, d1, hm1, hm8, st3, by omega, fun H4 v' s' st4 e4 d4 ok4 dp4 => ?_⟩
          refine ⟨by show 3 ≤ sizeLine; decide, fun y ny => ?_⟩
          refine q _ _ (mk s s') ((st4.mono (by omega)).same (same_new ny)) (e2.trans (e3.trans (e4.trans (SameX.of (same_new ny))))) ?_ (m2 _ _ ok3 ok4) ?_
          · rw [m1]
            exact dp_mk ny (.cons (.str _) (.cons (say_x st3 e4 d3) (.cons d4 .nil)))
          · rw [m3]
            omega
        · refine ⟨by show 2 ≤ sizeLine; decide, fun g ng => ?_⟩
          obtain ⟨g1, g2⟩ := st1.news ng
          have eg := same_new (o := .lst [.str "each", .str "some"]) ng
          refine ⟨.ref st, rfl, st, c, l, B + 1, 2, rfl, by decide, by decide, st1.same eg, by omega, fun H2 k hk0 hk1 st2 off2 => ?_⟩
          have hg : H2 g = some (.lst [.str "each", .str "some"]) := (off2 g g1 g2).trans upd_same
          have e2 := e1.trans ((SameX.of eg).trans (SameX.off off2))
          obtain ⟨h, mk, hk, m1, m2, m3⟩ := pick2 hk0 hk1
          refine ⟨g, _, k, .str h, rfl, rfl, SqL.of hg, hk, ?_⟩
          refine ⟨.ref st, rfl, st, c, l, B + 2, 4, rfl, by decide, by decide, st2, by omega, fun H3 t ht0 ht1 st3 off3 => ?_⟩
          refine ⟨t, 2, rfl, rfl, .str h, .int (t - 2), rfl, ?_⟩
          refine ⟨.str h, rfl, .int (t - 2), rfl, .ref st, rfl, .int (d + 1 : Nat), rfl, (d + 1 : Nat), 1, rfl, rfl, .int m, rfl, st, c, l, _, m, by dsimp only; rw [ed]; rfl, d1, hm1, hm8, st3, by omega, fun H4 v s st4 e4 d4 ok4 dp4 => ?_⟩
          refine ⟨by show 3 ≤ sizeLine; decide, fun y ny => ?_⟩
          refine q _ _ (mk (t - 2) s) ((st4.mono (by omega)).same (same_new ny)) (e2.trans ((SameX.off off3).trans (e4.trans (SameX.of (same_new ny))))) ?_ (m2 _ _ ⟨by omega, by omega⟩ ok4) ?_
          · rw [m1]
            exact dp_mk ny (.cons (.str _) (.cons (.int _) (.cons d4 .nil)))
          · rw [m3]
            omega
      · have lim : i < 10 ∧ (3 ≤ i → 1 ≤ d) := ⟨by omega, fun z => by omega⟩
        have e1 : SameX st l H H1 := SameX.off off1
        clear off1
        refine ⟨.int i, rfl, i, 2, rfl, rfl, _, rfl, ite2 (fun h2 => ?_) (fun h2 => ?_)⟩
        · refine ⟨.ref st, rfl, .int m, rfl, st, c, l, B + 1, m, rfl, by omega, by omega, st1, by omega, fun H2 k hk0 hk1 st2 off2 => ?_⟩
          refine ⟨by show 2 ≤ sizeLine; decide, fun y ny => ?_⟩
          obtain ⟨k, rfl⟩ : ∃ z : Nat, k = z := ⟨k.toNat, (Int.toNat_of_nonneg hk0).symm⟩
          refine q _ _ (.lt k) ((st2.mono (by omega)).same (same_new ny)) (e1.trans ((SameX.off off2).trans (SameX.of (same_new ny)))) (dp_mk ny (.cons (.str _) (.cons (.int _) .nil))) ?_ hd1
          show k < 8
          omega
        have n2 : ¬ i < 2 := fun z => h2 (decide_eq_true z)
        refine ⟨.int i, rfl, rfl, _, rfl, ?_⟩
        rw [dec_vint]
        refine ite2 (fun h3 => ?_) (fun h3 => ?_)
        · refine ⟨by show 2 ≤ sizeLine; decide, fun g ng => ?_⟩
          obtain ⟨g1, g2⟩ := st1.news ng
          have eg := same_new (o := .lst [.str "yes", .str "no"]) ng
          refine ⟨.ref st, rfl, st, c, l, B + 1, 2, rfl, by decide, by decide, st1.same eg, by omega, fun H2 k hk0 hk1 st2 off2 => ?_⟩
          have hg : H2 g = some (.lst [.str "yes", .str "no"]) := (off2 g g1 g2).trans upd_same
          have e2 := e1.trans ((SameX.of eg).trans (SameX.off off2))
          have k01 : k = 0 ∨ k = 1 := by omega
          rcases k01 with rfl | rfl
          · refine ⟨g, _, 0, .str "yes", rfl, rfl, SqL.of hg, atI_nat (j := 0) rfl, by show 1 ≤ sizeLine; decide, fun y ny => ?_⟩
            exact q _ _ .yes ((st2.mono (by omega)).same (same_new ny)) (e2.trans (SameX.of (same_new ny))) (dp_mk ny (.cons (.str _) .nil)) trivial hd1
          · refine ⟨g, _, 1, .str "no", rfl, rfl, SqL.of hg, atI_nat (j := 1) rfl, by show 1 ≤ sizeLine; decide, fun y ny => ?_⟩
            exact q _ _ .no ((st2.mono (by omega)).same (same_new ny)) (e2.trans (SameX.of (same_new ny))) (dp_mk ny (.cons (.str _) .nil)) trivial hd1
        have n3 : ¬ i = 2 := fun z => h3 (decide_eq_true z)
        have d1 : 1 ≤ d := lim.2 (by omega)
        refine ⟨.int i, rfl, i, 5, rfl, rfl, _, rfl, ite2 (fun h4 => ?_) (fun h4 => ?_)⟩
        · refine ⟨.ref st, rfl, .int (d + 1 : Nat), rfl, (d + 1 : Nat), 1, rfl, rfl, .int m, rfl, st, c, l, B + 1, m, by dsimp only; rw [ed]; rfl, d1, hm1, hm8, st1, by omega, fun H2 v s st2 e2 d2 ok2 dp2 => ?_⟩
          refine ⟨by show 2 ≤ sizeLine; decide, fun y ny => ?_⟩
          refine q _ _ (.nt s) ((st2.mono (by omega)).same (same_new ny)) (e1.trans (e2.trans (SameX.of (same_new ny)))) (dp_mk ny (.cons (.str _) (.cons d2 .nil))) ok2 ?_
          show s.deep + 1 ≤ d + 1
          omega
        refine ⟨.int i, rfl, i, 7, rfl, rfl, _, rfl, ite2 (fun h5 => ?_) (fun h5 => ?_)⟩
        · refine ⟨by show 3 ≤ sizeLine; decide, fun g ng => ?_⟩
          obtain ⟨g1, g2⟩ := st1.news ng
          have eg := same_new (o := .lst [.str "and", .str "or", .str "gives"]) ng
          refine ⟨.ref st, rfl, st, c, l, B + 1, 3, rfl, by decide, by decide, st1.same eg, by omega, fun H2 k hk0 hk1 st2 off2 => ?_⟩
          have hg : H2 g = some (.lst [.str "and", .str "or", .str "gives"]) := (off2 g g1 g2).trans upd_same
          have e2 := e1.trans ((SameX.of eg).trans (SameX.off off2))
          obtain ⟨h, mk, hk, m1, m2, m3⟩ := pick3 hk0 hk1
          refine ⟨g, _, k, .str h, rfl, rfl, SqL.of hg, hk, ?_⟩
          refine ⟨.ref st, rfl, .int (d + 1 : Nat), rfl, (d + 1 : Nat), 1, rfl, rfl, .int m, rfl, st, c, l, B + 2, m, by dsimp only; rw [ed]; rfl, d1, hm1, hm8, st2, by omega, fun H3 v s st3 e3 d3 ok3 dp3 => ?_⟩
          refine ⟨.str h, rfl, v, rfl, .ref st, rfl, .int (d + 1 : Nat), rfl, (d + 1 : Nat), 1, rfl, rfl, .int m, rfl, st, c, l, _, m, by dsimp only; rw [ed]; rfl, d1, hm1, hm8, st3, by omega, fun H4 v' s' st4 e4 d4 ok4 dp4 => ?_⟩
          refine ⟨by show 3 ≤ sizeLine; decide, fun y ny => ?_⟩
          refine q _ _ (mk s s') ((st4.mono (by omega)).same (same_new ny)) (e2.trans (e3.trans (e4.trans (SameX.of (same_new ny))))) ?_ (m2 _ _ ok3 ok4) ?_
          · rw [m1]
            exact dp_mk ny (.cons (.str _) (.cons (say_x st3 e4 d3) (.cons d4 .nil)))
          · rw [m3]
            omega
        · refine ⟨by show 2 ≤ sizeLine; decide, fun g ng => ?_⟩
          obtain ⟨g1, g2⟩ := st1.news ng
          have eg := same_new (o := .lst [.str "each", .str "some"]) ng
          refine ⟨.ref st, rfl, st, c, l, B + 1, 2, rfl, by decide, by decide, st1.same eg, by omega, fun H2 k hk0 hk1 st2 off2 => ?_⟩
          have hg : H2 g = some (.lst [.str "each", .str "some"]) := (off2 g g1 g2).trans upd_same
          have e2 := e1.trans ((SameX.of eg).trans (SameX.off off2))
          obtain ⟨h, mk, hk, m1, m2, m3⟩ := pick2 hk0 hk1
          refine ⟨g, _, k, .str h, rfl, rfl, SqL.of hg, hk, ?_⟩
          refine ⟨.ref st, rfl, st, c, l, B + 2, 4, rfl, by decide, by decide, st2, by omega, fun H3 t ht0 ht1 st3 off3 => ?_⟩
          refine ⟨t, 2, rfl, rfl, .str h, .int (t - 2), rfl, ?_⟩
          refine ⟨.str h, rfl, .int (t - 2), rfl, .ref st, rfl, .int (d + 1 : Nat), rfl, (d + 1 : Nat), 1, rfl, rfl, .int m, rfl, st, c, l, _, m, by dsimp only; rw [ed]; rfl, d1, hm1, hm8, st3, by omega, fun H4 v s st4 e4 d4 ok4 dp4 => ?_⟩
          refine ⟨by show 3 ≤ sizeLine; decide, fun y ny => ?_⟩
          refine q _ _ (mk (t - 2) s) ((st4.mono (by omega)).same (same_new ny)) (e2.trans ((SameX.off off3).trans (e4.trans (SameX.of (same_new ny))))) ?_ (m2 _ _ ⟨by omega, by omega⟩ ok4) ?_
          · rw [m1]
            exact dp_mk ny (.cons (.str _) (.cons (.int _) (.cons d4 .nil)))
          · rw [m3]
            omega
end
end K0

namespace K0
open PySem PySem.Spec PyProof.Rows L2 W0 W1 W2 W5 W6 V0 V1 V4
section
variable {P : Program} {w : World} {K : PySem.W.Frag} {mg : Str → Option Value} {base : Heap}
def sp_bent (K : PySem.W.Frag) (d : Nat) : Sp := fun vs H Q _ => ∃ (v : V) (s : Say) (b : Bool), vs = [v, .bl b] ∧ Dp K H v (dSay s) ∧ s.Ok ∧ s.deep ≤ d ∧ ∀ H' v', Same H H' → Dp K H' v' (dSay (turnS b s)) → Q v' H'
theorem ok__law_bent (T : Tops K w mg) : ∀ d : Nat, FnOk P w K mg base CX0 (d + 1) T.a__law_bent T.fd__law_bent p__law_bent (sp_bent K d)
  | 0 => by
    have S := sc__law_bent
    refine T.F__law_bent.ok S (fun vs H Q E h => ?_) (fun cdv A outer s0 H vs Q E hr h => ?_)
    · obtain ⟨v, s, b, rfl, _⟩ := h
      rfl
    · obtain ⟨v, s, b, rfl, _, _, h0, _⟩ := h
      exact absurd (Say.deep_pos s) (by omega)
  | d + 1 => by
    have ih := ok__law_bent T d
    have S := sc__law_bent
    refine T.F__law_bent.ok S (fun vs H Q E h => ?_) (fun cdv A outer s0 H vs Q E hr h => ?_)
    · obtain ⟨v, s, b, rfl, _⟩ := h
      rfl
    · obtain ⟨v, s, b, rfl, hd, ok, hdeep, q⟩ := h
      refine ⟨_, (pss_cons (ps_set (i := 2) S.nd rfl (Or.inl rfl) (pe_ix (ix_tupK (K := K)) (pv 0) pe_int (fun _ _ => rfl)))
      (pss_cons (ps_if (pt_cmpR op_eq (pv 2) pe_str (nomark _)) (pss_one (ps_ret (pe_ifExp (pt_val (pv 1)) (pe_tup (pa_cons pe_str (pa_cons (pv 0) pa_nil))) (pv 0)))) pss_nil)
      (pss_cons (ps_if (pt_cmpR op_in_seq (pv 2) (pe_tup (pa_cons pe_str (pa_cons pe_str pa_nil))) (by rfl)) (pss_one (ps_ret (pe_tup (pa_cons (pe_ix (V4.ix_bool (K := K)) (pe_lst (pa_cons pe_str (pa_cons pe_str pa_nil))) (pe_cmpR op_ne (pe_cmpR op_eq (pv 2) pe_str (nomark _)) (pv 1) (nomark _)) (fun _ _ => rfl)) pa_nil)))) pss_nil)
      (pss_cons (ps_if (pt_cmpR op_eq (pv 2) pe_str (nomark _)) (pss_one (ps_ret (pe_call ih (hr.mono (by omega)) (by rfl) T.g__law_bent T.F__law_bent.kp T.b__law_bent .nil pass0 (pa_cons (pe_ix (ix_tupK (K := K)) (pv 0) pe_int (fun _ _ => rfl)) (pa_cons (pe_not (pv 1)) pa_nil))))) pss_nil)
      (pss_cons (ps_if (pt_cmpR op_eq (pv 2) pe_str (nomark _)) (pss_cons (ps_set (i := 3) S.nd rfl (Or.inl rfl) (pe_tup (pa_cons (pe_call ih (hr.mono (by omega)) (by rfl) T.g__law_bent T.F__law_bent.kp T.b__law_bent .nil pass0 (pa_cons (pe_ix (ix_tupK (K := K)) (pv 0) pe_int (fun _ _ => rfl)) (pa_cons (pe_not (pv 1)) pa_nil))) (pa_cons (pe_call ih (hr.mono (by omega)) (by rfl) T.g__law_bent T.F__law_bent.kp T.b__law_bent .nil pass0 (pa_cons (pe_ix (ix_tupK (K := K)) (pv 0) pe_int (fun _ _ => rfl)) (pa_cons (pv 1) pa_nil))) pa_nil))))
      (pss_one (ps_ret (pe_tup (pa_cons (pe_ifExp (pt_val (pv 1)) pe_str pe_str) (pa_cons (pe_ix (ix_tupK (K := K)) (pv 3) pe_int (fun _ _ => rfl)) (pa_cons (pe_ix (ix_tupK (K := K)) (pv 3) pe_int (fun _ _ => rfl)) pa_nil))))))) pss_nil)
      (pss_cons (ps_if (pt_cmpR op_in_seq (pv 2) (pe_tup (pa_cons pe_str (pa_cons pe_str pa_nil))) (by rfl)) (pss_cons (ps_set (i := 3) S.nd rfl (Or.inl rfl) (pe_tup (pa_cons (pe_call ih (hr.mono (by omega)) (by rfl) T.g__law_bent T.F__law_bent.kp T.b__law_bent .nil pass0 (pa_cons (pe_ix (ix_tupK (K := K)) (pv 0) pe_int (fun _ _ => rfl)) (pa_cons (pv 1) pa_nil))) (pa_cons (pe_call ih (hr.mono (by omega)) (by rfl) T.g__law_bent T.F__law_bent.kp T.b__law_bent .nil pass0 (pa_cons (pe_ix (ix_tupK (K := K)) (pv 0) pe_int (fun _ _ => rfl)) (pa_cons (pv 1) pa_nil))) pa_nil))))
      (pss_one (ps_ret (pe_tup (pa_cons (pe_ifExp (pt_cmpR op_ne (pe_cmpR op_eq (pv 2) pe_str (nomark _)) (pv 1) (nomark _)) pe_str pe_str) (pa_cons (pe_ix (ix_tupK (K := K)) (pv 3) pe_int (fun _ _ => rfl)) (pa_cons (pe_ix (ix_tupK (K := K)) (pv 3) pe_int (fun _ _ => rfl)) pa_nil))))))) pss_nil)
      (pss_one (ps_ret (pe_tup (pa_cons (pe_ifExp (pt_cmpR op_ne (pe_cmpR op_eq (pv 2) pe_str (nomark _)) (pv 1) (nomark _)) pe_str pe_str) (pa_cons (pe_ix (ix_tupK (K := K)) (pv 0) pe_int (fun _ _ => rfl)) (pa_cons (pe_call ih (hr.mono (by omega)) (by rfl) T.g__law_bent T.F__law_bent.kp T.b__law_bent .nil pass0 (pa_cons (pe_ix (ix_tupK (K := K)) (pv 0) pe_int (fun _ _ => rfl)) (pa_cons (pv 1) pa_nil))) pa_nil)))))))))))), ?_⟩
      obtain ⟨a, xs, rfl, hs, hda⟩ := say_at hd
      have hlen := dps_len hda
      rw [List.length_map] at hlen
      refine ⟨.ref a, rfl, a, _, 0, .str s.hd, rfl, rfl, hs, atI_nat (j := 0) rfl, ?_⟩
      refine ⟨.str s.hd, rfl, rfl, _, rfl, ?_⟩
      rw [dec_vstr]
      cases s with
      | hr j => exact ok.elim
      | lt i =>
        rw [show decide ((Say.lt i).hd = ("letter" : Str)) = true from decide_eq_true rfl]
        refine ⟨.bl b, rfl, b, rfl, ?_⟩
        cases b with
        | true =>
          refine ⟨.ref a, rfl, by show 2 ≤ sizeLine; decide, fun y ny => ?_⟩
          exact q _ _ (same_new ny) (dp_mk ny (.cons (.str _) (.cons hd .nil)))
        | false => exact ⟨.ref a, rfl, q H _ (Same.refl H) hd⟩
      | yes =>
        rw [decide_eq_false (by decide)]
        refine ⟨.str "yes", rfl, by show 2 ≤ sizeLine; decide, fun g ng => ⟨g, _, rfl, .inr (SqT.of upd_same), rfl, rfl, _, rfl, ?_⟩⟩
        rw [show L2.inV (.str "yes") [.str "yes", .str "no"] = true by decide]
        have eg := same_new (o := .tup [.str "yes", .str "no"]) ng
        replace hd := dp_same eg _ _ hd
        replace hs := same_tup eg hs
        replace hda := dps_same eg _ _ hda
        replace q : ∀ H' v', Same (upd H g (.tup [.str "yes", .str "no"])) H' → Dp K H' v' (dSay (turnS b _)) → Q v' H' := fun H' v' e' => q H' v' (eg.trans e')
        generalize upd H g _ = H0 at hd hs hda q
        refine ⟨by show 2 ≤ sizeLine; decide, fun k nk => ?_⟩
        refine ⟨.str "yes", rfl, rfl, .bl b, rfl, rfl, ?_⟩
        have ek := same_new (o := .lst [.str "no", .str "yes"]) nk
        cases b with
        | true =>
          refine ⟨k, _, false, .str "no", rfl, by rw [dec_vstr]; rfl, SqL.of upd_same, rfl, by show 1 ≤ sizeLine; decide, fun y ny => ?_⟩
          exact q _ _ (ek.trans (same_new ny)) (dp_mk ny (.cons (.str _) .nil))
        | false =>
          refine ⟨k, _, true, .str "yes", rfl, by rw [dec_vstr]; rfl, SqL.of upd_same, rfl, by show 1 ≤ sizeLine; decide, fun y ny => ?_⟩
          exact q _ _ (ek.trans (same_new ny)) (dp_mk ny (.cons (.str _) .nil))
      | no =>
        rw [decide_eq_false (by decide)]
        refine ⟨.str "no", rfl, by show 2 ≤ sizeLine; decide, fun g ng => ⟨g, _, rfl, .inr (SqT.of upd_same), rfl, rfl, _, rfl, ?_⟩⟩
        rw [show L2.inV (.str "no") [.str "yes", .str "no"] = true by decide]
        have eg := same_new (o := .tup [.str "yes", .str "no"]) ng
        replace hd := dp_same eg _ _ hd
        replace hs := same_tup eg hs
        replace hda := dps_same eg _ _ hda
        replace q : ∀ H' v', Same (upd H g (.tup [.str "yes", .str "no"])) H' → Dp K H' v' (dSay (turnS b _)) → Q v' H' := fun H' v' e' => q H' v' (eg.trans e')
        generalize upd H g _ = H0 at hd hs hda q
        refine ⟨by show 2 ≤ sizeLine; decide, fun k nk => ?_⟩
        refine ⟨.str "no", rfl, rfl, .bl b, rfl, rfl, ?_⟩
        have ek := same_new (o := .lst [.str "no", .str "yes"]) nk
        cases b with
        | true =>
          refine ⟨k, _, true, .str "yes", rfl, by rw [dec_vstr]; rfl, SqL.of upd_same, rfl, by show 1 ≤ sizeLine; decide, fun y ny => ?_⟩
          exact q _ _ (ek.trans (same_new ny)) (dp_mk ny (.cons (.str _) .nil))
        | false =>
          refine ⟨k, _, false, .str "no", rfl, by rw [dec_vstr]; rfl, SqL.of upd_same, rfl, by show 1 ≤ sizeLine; decide, fun y ny => ?_⟩
          exact q _ _ (ek.trans (same_new ny)) (dp_mk ny (.cons (.str _) .nil))
      | nt t =>
        rw [show decide ((Say.nt t).hd = ("letter" : Str)) = false from decide_eq_false (show ¬ ("not" : Str) = "letter" by decide)]
        refine ⟨.str "not", rfl, by show 2 ≤ sizeLine; decide, fun g ng => ⟨g, _, rfl, .inr (SqT.of upd_same), rfl, rfl, _, rfl, ?_⟩⟩
        rw [show L2.inV (.str "not") [.str "yes", .str "no"] = false by decide]
        have eg := same_new (o := .tup [.str "yes", .str "no"]) ng
        replace hd := dp_same eg _ _ hd
        replace hs := same_tup eg hs
        replace hda := dps_same eg _ _ hda
        replace q : ∀ H' v', Same (upd H g (.tup [.str "yes", .str "no"])) H' → Dp K H' v' (dSay (turnS b _)) → Q v' H' := fun H' v' e' => q H' v' (eg.trans e')
        generalize upd H g _ = H0 at hd hs hda q
        refine ⟨.str "not", rfl, rfl, _, rfl, ?_⟩
        rw [dec_vstr, decide_eq_true rfl]
        obtain ⟨y1, rfl, d1⟩ : ∃ y1, xs = [y1] ∧ Dp K H0 y1 (dSay t) := by
          cases hda with
          | cons h1 h2 =>
            cases h2
            exact ⟨_, rfl, h1⟩
        have pd := Say.deep_part (s := .nt t) (t := t) List.mem_cons_self
        exact ⟨.ref a, rfl, a, _, 1, y1, rfl, rfl, hs, atI_nat (j := 1) rfl, .bl b, rfl, b, rfl, y1, t, !b, rfl, d1, ok, by omega, fun H1 v1 e1 dv => q H1 v1 e1 dv⟩
      | gv tx ty =>
        rw [show decide ((Say.gv tx ty).hd = ("letter" : Str)) = false from decide_eq_false (show ¬ ("gives" : Str) = "letter" by decide)]
        refine ⟨.str "gives", rfl, by show 2 ≤ sizeLine; decide, fun g ng => ⟨g, _, rfl, .inr (SqT.of upd_same), rfl, rfl, _, rfl, ?_⟩⟩
        rw [show L2.inV (.str "gives") [.str "yes", .str "no"] = false by decide]
        have eg := same_new (o := .tup [.str "yes", .str "no"]) ng
        replace hd := dp_same eg _ _ hd
        replace hs := same_tup eg hs
        replace hda := dps_same eg _ _ hda
        replace q : ∀ H' v', Same (upd H g (.tup [.str "yes", .str "no"])) H' → Dp K H' v' (dSay (turnS b _)) → Q v' H' := fun H' v' e' => q H' v' (eg.trans e')
        generalize upd H g _ = H0 at hd hs hda q
        refine ⟨.str "gives", rfl, rfl, _, rfl, ?_⟩
        rw [dec_vstr, decide_eq_false (by decide)]
        refine ⟨.str "gives", rfl, rfl, _, rfl, ?_⟩
        rw [dec_vstr, decide_eq_true rfl]
        obtain ⟨y1, y2, rfl, d1, d2⟩ : ∃ y1 y2, xs = [y1, y2] ∧ Dp K H0 y1 (dSay tx) ∧ Dp K H0 y2 (dSay ty) := by
          cases hda with
          | cons h1 h2 =>
            cases h2 with
            | cons h2 h3 =>
              cases h3
              exact ⟨_, _, rfl, h1, h2⟩
        have p1 := Say.deep_part (s := .gv tx ty) (t := tx) List.mem_cons_self
        have p2 := Say.deep_part (s := .gv tx ty) (t := ty) (List.mem_cons_of_mem _ List.mem_cons_self)
        refine ⟨.ref a, rfl, a, _, 1, y1, rfl, rfl, hs, atI_nat (j := 1) rfl, .bl b, rfl, b, rfl, y1, tx, !b, rfl, d1, ok.1, by omega, fun H1 v1 e1 dv1 => ?_⟩
        refine ⟨.ref a, rfl, a, _, 2, y2, rfl, rfl, same_tup e1 hs, atI_nat (j := 2) rfl, .bl b, rfl, y2, ty, b, rfl, dp_same e1 _ _ d2, ok.2, by omega, fun H2 v2 e2 dv2 => ?_⟩
        refine ⟨by show 2 ≤ sizeLine; decide, fun p np => ?_⟩
        have ep := same_new (o := .tup [v1, v2]) np
        have hp : SqT K (upd H2 p (.tup [v1, v2])) p [v1, v2] := SqT.of upd_same
        have dv1' := dp_same (e2.trans ep) _ _ dv1
        have dv2' := dp_same ep _ _ dv2
        generalize upd H2 p _ = H3 at ep hp dv1' dv2'
        have fin : ∀ (hh : Str), (∀ (y : Addr), Dp K (upd H3 y (.tup [.str hh, v1, v2])) (.ref y) (.tuple [.str hh, dSay (turnS (!b) tx), dSay (turnS b ty)]) → Dp K (upd H3 y (.tup [.str hh, v1, v2])) (.ref y) (dSay (turnS b (.gv tx ty)))) →
            tCons (tOp (rIxT K) (tVar 3) (tC (V.int 0))) (tCons (tOp (rIxT K) (tVar 3) (tC (V.int 1))) tNil) [some (.ref a), some (.bl b), some (.str "gives"), some (.ref p)] H3 (fun zs H4 => (V.str hh :: zs).length ≤ sizeLine ∧ ∀ y, H4 y = none → Q (.ref y) (upd H4 y (.tup (V.str hh :: zs)))) := by
          intro hh conv
          refine ⟨.ref p, rfl, p, _, 0, v1, rfl, rfl, hp, atI_nat (j := 0) rfl, .ref p, rfl, p, _, 1, v2, rfl, rfl, hp, atI_nat (j := 1) rfl, by show 3 ≤ sizeLine; decide, fun y ny => ?_⟩
          exact q _ _ (e1.trans (e2.trans (ep.trans (same_new ny)))) (conv y (dp_mk ny (.cons (.str _) (.cons dv1' (.cons dv2' .nil)))))
        refine ⟨.bl b, rfl, b, rfl, ?_⟩
        cases b with
        | true => exact fin "and" fun y z => z
        | false => exact fin "or" fun y z => z
      | an tx ty =>
        rw [show decide ((Say.an tx ty).hd = ("letter" : Str)) = false from decide_eq_false (show ¬ ("and" : Str) = "letter" by decide)]
        refine ⟨.str "and", rfl, by show 2 ≤ sizeLine; decide, fun g ng => ⟨g, _, rfl, .inr (SqT.of upd_same), rfl, rfl, _, rfl, ?_⟩⟩
        rw [show L2.inV (.str "and") [.str "yes", .str "no"] = false by decide]
        have eg := same_new (o := .tup [.str "yes", .str "no"]) ng
        replace hd := dp_same eg _ _ hd
        replace hs := same_tup eg hs
        replace hda := dps_same eg _ _ hda
        replace q : ∀ H' v', Same (upd H g (.tup [.str "yes", .str "no"])) H' → Dp K H' v' (dSay (turnS b _)) → Q v' H' := fun H' v' e' => q H' v' (eg.trans e')
        generalize upd H g _ = H0 at hd hs hda q
        refine ⟨.str "and", rfl, rfl, _, rfl, ?_⟩
        rw [dec_vstr, decide_eq_false (by decide)]
        refine ⟨.str "and", rfl, rfl, _, rfl, ?_⟩
        rw [dec_vstr, decide_eq_false (by decide)]
        refine ⟨.str "and", rfl, by show 2 ≤ sizeLine; decide, fun g2 ng2 => ⟨g2, _, rfl, .inr (SqT.of upd_same), rfl, rfl, _, rfl, ?_⟩⟩
        rw [show L2.inV (.str "and") [.str "and", .str "or"] = true by decide]
        have eg2 := same_new (o := .tup [.str "and", .str "or"]) ng2
        replace hd := dp_same eg2 _ _ hd
        replace hs := same_tup eg2 hs
        replace hda := dps_same eg2 _ _ hda
        replace q : ∀ H' v', Same (upd H0 g2 (.tup [.str "and", .str "or"])) H' → Dp K H' v' (dSay (turnS b _)) → Q v' H' := fun H' v' e' => q H' v' (eg2.trans e')
        generalize upd H0 g2 _ = H00 at hd hs hda q
        obtain ⟨y1, y2, rfl, d1, d2⟩ : ∃ y1 y2, xs = [y1, y2] ∧ Dp K H00 y1 (dSay tx) ∧ Dp K H00 y2 (dSay ty) := by
          cases hda with
          | cons h1 h2 =>
            cases h2 with
            | cons h2 h3 =>
              cases h3
              exact ⟨_, _, rfl, h1, h2⟩
        have p1 := Say.deep_part (s := .an tx ty) (t := tx) List.mem_cons_self
        have p2 := Say.deep_part (s := .an tx ty) (t := ty) (List.mem_cons_of_mem _ List.mem_cons_self)
        refine ⟨.ref a, rfl, a, _, 1, y1, rfl, rfl, hs, atI_nat (j := 1) rfl, .bl b, rfl, y1, tx, b, rfl, d1, ok.1, by omega, fun H1 v1 e1 dv1 => ?_⟩
        refine ⟨.ref a, rfl, a, _, 2, y2, rfl, rfl, same_tup e1 hs, atI_nat (j := 2) rfl, .bl b, rfl, y2, ty, b, rfl, dp_same e1 _ _ d2, ok.2, by omega, fun H2 v2 e2 dv2 => ?_⟩
        refine ⟨by show 2 ≤ sizeLine; decide, fun p np => ?_⟩
        have ep := same_new (o := .tup [v1, v2]) np
        have hp : SqT K (upd H2 p (.tup [v1, v2])) p [v1, v2] := SqT.of upd_same
        have dv1' := dp_same (e2.trans ep) _ _ dv1
        have dv2' := dp_same ep _ _ dv2
        generalize upd H2 p _ = H3 at ep hp dv1' dv2'
        have fin : ∀ (hh : Str), (∀ (y : Addr), Dp K (upd H3 y (.tup [.str hh, v1, v2])) (.ref y) (.tuple [.str hh, dSay (turnS (b) tx), dSay (turnS b ty)]) → Dp K (upd H3 y (.tup [.str hh, v1, v2])) (.ref y) (dSay (turnS b (.an tx ty)))) →
            tCons (tOp (rIxT K) (tVar 3) (tC (V.int 0))) (tCons (tOp (rIxT K) (tVar 3) (tC (V.int 1))) tNil) [some (.ref a), some (.bl b), some (.str "and"), some (.ref p)] H3 (fun zs H4 => (V.str hh :: zs).length ≤ sizeLine ∧ ∀ y, H4 y = none → Q (.ref y) (upd H4 y (.tup (V.str hh :: zs)))) := by
          intro hh conv
          refine ⟨.ref p, rfl, p, _, 0, v1, rfl, rfl, hp, atI_nat (j := 0) rfl, .ref p, rfl, p, _, 1, v2, rfl, rfl, hp, atI_nat (j := 1) rfl, by show 3 ≤ sizeLine; decide, fun y ny => ?_⟩
          exact q _ _ (e1.trans (e2.trans (ep.trans (same_new ny)))) (conv y (dp_mk ny (.cons (.str _) (.cons dv1' (.cons dv2' .nil)))))
        refine ⟨.str "and", rfl, rfl, .bl b, rfl, rfl, _, rfl, ?_⟩
        rw [dec_vstr]
        cases b with
        | true => exact fin "or" fun y z => z
        | false => exact fin "and" fun y z => z
      | orr tx ty =>
        rw [show decide ((Say.orr tx ty).hd = ("letter" : Str)) = false from decide_eq_false (show ¬ ("or" : Str) = "letter" by decide)]
        refine ⟨.str "or", rfl, by show 2 ≤ sizeLine; decide, fun g ng => ⟨g, _, rfl, .inr (SqT.of upd_same), rfl, rfl, _, rfl, ?_⟩⟩
        rw [show L2.inV (.str "or") [.str "yes", .str "no"] = false by decide]
        have eg := same_new (o := .tup [.str "yes", .str "no"]) ng
        replace hd := dp_same eg _ _ hd
        replace hs := same_tup eg hs
        replace hda := dps_same eg _ _ hda
        replace q : ∀ H' v', Same (upd H g (.tup [.str "yes", .str "no"])) H' → Dp K H' v' (dSay (turnS b _)) → Q v' H' := fun H' v' e' => q H' v' (eg.trans e')
        generalize upd H g _ = H0 at hd hs hda q
        refine ⟨.str "or", rfl, rfl, _, rfl, ?_⟩
        rw [dec_vstr, decide_eq_false (by decide)]
        refine ⟨.str "or", rfl, rfl, _, rfl, ?_⟩
        rw [dec_vstr, decide_eq_false (by decide)]
        refine ⟨.str "or", rfl, by show 2 ≤ sizeLine; decide, fun g2 ng2 => ⟨g2, _, rfl, .inr (SqT.of upd_same), rfl, rfl, _, rfl, ?_⟩⟩
        rw [show L2.inV (.str "or") [.str "and", .str "or"] = true by decide]
        have eg2 := same_new (o := .tup [.str "and", .str "or"]) ng2
        replace hd := dp_same eg2 _ _ hd
        replace hs := same_tup eg2 hs
        replace hda := dps_same eg2 _ _ hda
        replace q : ∀ H' v', Same (upd H0 g2 (.tup [.str "and", .str "or"])) H' → Dp K H' v' (dSay (turnS b _)) → Q v' H' := fun H' v' e' => q H' v' (eg2.trans e')
        generalize upd H0 g2 _ = H00 at hd hs hda q
        obtain ⟨y1, y2, rfl, d1, d2⟩ : ∃ y1 y2, xs = [y1, y2] ∧ Dp K H00 y1 (dSay tx) ∧ Dp K H00 y2 (dSay ty) := by
          cases hda with
          | cons h1 h2 =>
            cases h2 with
            | cons h2 h3 =>
              cases h3
              exact ⟨_, _, rfl, h1, h2⟩
        have p1 := Say.deep_part (s := .orr tx ty) (t := tx) List.mem_cons_self
        have p2 := Say.deep_part (s := .orr tx ty) (t := ty) (List.mem_cons_of_mem _ List.mem_cons_self)
        refine ⟨.ref a, rfl, a, _, 1, y1, rfl, rfl, hs, atI_nat (j := 1) rfl, .bl b, rfl, y1, tx, b, rfl, d1, ok.1, by omega, fun H1 v1 e1 dv1 => ?_⟩
        refine ⟨.ref a, rfl, a, _, 2, y2, rfl, rfl, same_tup e1 hs, atI_nat (j := 2) rfl, .bl b, rfl, y2, ty, b, rfl, dp_same e1 _ _ d2, ok.2, by omega, fun H2 v2 e2 dv2 => ?_⟩
        refine ⟨by show 2 ≤ sizeLine; decide, fun p np => ?_⟩
        have ep := same_new (o := .tup [v1, v2]) np
        have hp : SqT K (upd H2 p (.tup [v1, v2])) p [v1, v2] := SqT.of upd_same
        have dv1' := dp_same (e2.trans ep) _ _ dv1
        have dv2' := dp_same ep _ _ dv2
        generalize upd H2 p _ = H3 at ep hp dv1' dv2'
        have fin : ∀ (hh : Str), (∀ (y : Addr), Dp K (upd H3 y (.tup [.str hh, v1, v2])) (.ref y) (.tuple [.str hh, dSay (turnS (b) tx), dSay (turnS b ty)]) → Dp K (upd H3 y (.tup [.str hh, v1, v2])) (.ref y) (dSay (turnS b (.orr tx ty)))) →
            tCons (tOp (rIxT K) (tVar 3) (tC (V.int 0))) (tCons (tOp (rIxT K) (tVar 3) (tC (V.int 1))) tNil) [some (.ref a), some (.bl b), some (.str "or"), some (.ref p)] H3 (fun zs H4 => (V.str hh :: zs).length ≤ sizeLine ∧ ∀ y, H4 y = none → Q (.ref y) (upd H4 y (.tup (V.str hh :: zs)))) := by
          intro hh conv
          refine ⟨.ref p, rfl, p, _, 0, v1, rfl, rfl, hp, atI_nat (j := 0) rfl, .ref p, rfl, p, _, 1, v2, rfl, rfl, hp, atI_nat (j := 1) rfl, by show 3 ≤ sizeLine; decide, fun y ny => ?_⟩
          exact q _ _ (e1.trans (e2.trans (ep.trans (same_new ny)))) (conv y (dp_mk ny (.cons (.str _) (.cons dv1' (.cons dv2' .nil)))))
        refine ⟨.str "or", rfl, rfl, .bl b, rfl, rfl, _, rfl, ?_⟩
        rw [dec_vstr]
        cases b with
        | true => exact fin "and" fun y z => z
        | false => exact fin "or" fun y z => z
      | ea i t =>
        rw [show decide ((Say.ea i t).hd = ("letter" : Str)) = false from decide_eq_false (show ¬ ("each" : Str) = "letter" by decide)]
        refine ⟨.str "each", rfl, by show 2 ≤ sizeLine; decide, fun g ng => ⟨g, _, rfl, .inr (SqT.of upd_same), rfl, rfl, _, rfl, ?_⟩⟩
        rw [show L2.inV (.str "each") [.str "yes", .str "no"] = false by decide]
        have eg := same_new (o := .tup [.str "yes", .str "no"]) ng
        replace hd := dp_same eg _ _ hd
        replace hs := same_tup eg hs
        replace hda := dps_same eg _ _ hda
        replace q : ∀ H' v', Same (upd H g (.tup [.str "yes", .str "no"])) H' → Dp K H' v' (dSay (turnS b _)) → Q v' H' := fun H' v' e' => q H' v' (eg.trans e')
        generalize upd H g _ = H0 at hd hs hda q
        refine ⟨.str "each", rfl, rfl, _, rfl, ?_⟩
        rw [dec_vstr, decide_eq_false (by decide)]
        refine ⟨.str "each", rfl, rfl, _, rfl, ?_⟩
        rw [dec_vstr, decide_eq_false (by decide)]
        refine ⟨.str "each", rfl, by show 2 ≤ sizeLine; decide, fun g2 ng2 => ⟨g2, _, rfl, .inr (SqT.of upd_same), rfl, rfl, _, rfl, ?_⟩⟩
        rw [show L2.inV (.str "each") [.str "and", .str "or"] = false by decide]
        have eg2 := same_new (o := .tup [.str "and", .str "or"]) ng2
        replace hd := dp_same eg2 _ _ hd
        replace hs := same_tup eg2 hs
        replace hda := dps_same eg2 _ _ hda
        replace q : ∀ H' v', Same (upd H0 g2 (.tup [.str "and", .str "or"])) H' → Dp K H' v' (dSay (turnS b _)) → Q v' H' := fun H' v' e' => q H' v' (eg2.trans e')
        generalize upd H0 g2 _ = H00 at hd hs hda q
        obtain ⟨y1, rfl, d1⟩ : ∃ y1, xs = [y1] ∧ Dp K H00 y1 (dSay t) := by
          cases hda with
          | cons h1 h2 =>
            cases h2
            exact ⟨_, rfl, h1⟩
        have pd := Say.deep_part (s := .ea i t) (t := t) List.mem_cons_self
        have fin : ∀ (hh : Str), (∀ (H3 : Hp) (y : Addr) (v1 : V), Dp K (upd H3 y (.tup [.str hh, .int i, v1])) (.ref y) (.tuple [.str hh, .int i, dSay (turnS b t)]) → Dp K (upd H3 y (.tup [.str hh, .int i, v1])) (.ref y) (dSay (turnS b (.ea i t)))) →
            tCons (tOp (rIxT K) (tVar 0) (tC (V.int 1))) (tCons (tCall (sp_bent K d) [] E0 (tCons (tOp (rIxT K) (tVar 0) (tC (V.int 2))) (tCons (tVar 1) tNil))) tNil) [some (.ref a), some (.bl b), some (.str "each"), none] H00 (fun zs H4 => (V.str hh :: zs).length ≤ sizeLine ∧ ∀ y, H4 y = none → Q (.ref y) (upd H4 y (.tup (V.str hh :: zs)))) := by
          intro hh conv
          refine ⟨.ref a, rfl, a, _, 1, .int i, rfl, rfl, hs, atI_nat (j := 1) rfl, .ref a, rfl, a, _, 2, y1, rfl, rfl, hs, atI_nat (j := 2) rfl, .bl b, rfl, y1, t, b, rfl, d1, ok.2, by omega, fun H1 v1 e1 dv1 => ?_⟩
          refine ⟨by show 3 ≤ sizeLine; decide, fun y ny => ?_⟩
          exact q _ _ (e1.trans (same_new ny)) (conv _ y v1 (dp_mk ny (.cons (.str _) (.cons (.int _) (.cons dv1 .nil)))))
        refine ⟨.str "each", rfl, rfl, .bl b, rfl, rfl, _, rfl, ?_⟩
        rw [dec_vstr]
        cases b with
        | true => exact fin "some" fun _ y v1 z => z
        | false => exact fin "each" fun _ y v1 z => z
      | so i t =>
        rw [show decide ((Say.so i t).hd = ("letter" : Str)) = false from decide_eq_false (show ¬ ("some" : Str) = "letter" by decide)]
        refine ⟨.str "some", rfl, by show 2 ≤ sizeLine; decide, fun g ng => ⟨g, _, rfl, .inr (SqT.of upd_same), rfl, rfl, _, rfl, ?_⟩⟩
        rw [show L2.inV (.str "some") [.str "yes", .str "no"] = false by decide]
        have eg := same_new (o := .tup [.str "yes", .str "no"]) ng
        replace hd := dp_same eg _ _ hd
        replace hs := same_tup eg hs
        replace hda := dps_same eg _ _ hda
        replace q : ∀ H' v', Same (upd H g (.tup [.str "yes", .str "no"])) H' → Dp K H' v' (dSay (turnS b _)) → Q v' H' := fun H' v' e' => q H' v' (eg.trans e')
        generalize upd H g _ = H0 at hd hs hda q
        refine ⟨.str "some", rfl, rfl, _, rfl, ?_⟩
        rw [dec_vstr, decide_eq_false (by decide)]
        refine ⟨.str "some", rfl, rfl, _, rfl, ?_⟩
        rw [dec_vstr, decide_eq_false (by decide)]
        refine ⟨.str "some", rfl, by show 2 ≤ sizeLine; decide, fun g2 ng2 => ⟨g2, _, rfl, .inr (SqT.of upd_same), rfl, rfl, _, rfl, ?_⟩⟩
        rw [show L2.inV (.str "some") [.str "and", .str "or"] = false by decide]
        have eg2 := same_new (o := .tup [.str "and", .str "or"]) ng2
        replace hd := dp_same eg2 _ _ hd
        replace hs := same_tup eg2 hs
        replace hda := dps_same eg2 _ _ hda
        replace q : ∀ H' v', Same (upd H0 g2 (.tup [.str "and", .str "or"])) H' → Dp K H' v' (dSay (turnS b _)) → Q v' H' := fun H' v' e' => q H' v' (eg2.trans e')
        generalize upd H0 g2 _ = H00 at hd hs hda q
        obtain ⟨y1, rfl, d1⟩ : ∃ y1, xs = [y1] ∧ Dp K H00 y1 (dSay t) := by
          cases hda with
          | cons h1 h2 =>
            cases h2
            exact ⟨_, rfl, h1⟩
        have pd := Say.deep_part (s := .so i t) (t := t) List.mem_cons_self
        have fin : ∀ (hh : Str), (∀ (H3 : Hp) (y : Addr) (v1 : V), Dp K (upd H3 y (.tup [.str hh, .int i, v1])) (.ref y) (.tuple [.str hh, .int i, dSay (turnS b t)]) → Dp K (upd H3 y (.tup [.str hh, .int i, v1])) (.ref y) (dSay (turnS b (.so i t)))) →
            tCons (tOp (rIxT K) (tVar 0) (tC (V.int 1))) (tCons (tCall (sp_bent K d) [] E0 (tCons (tOp (rIxT K) (tVar 0) (tC (V.int 2))) (tCons (tVar 1) tNil))) tNil) [some (.ref a), some (.bl b), some (.str "some"), none] H00 (fun zs H4 => (V.str hh :: zs).length ≤ sizeLine ∧ ∀ y, H4 y = none → Q (.ref y) (upd H4 y (.tup (V.str hh :: zs)))) := by
          intro hh conv
          refine ⟨.ref a, rfl, a, _, 1, .int i, rfl, rfl, hs, atI_nat (j := 1) rfl, .ref a, rfl, a, _, 2, y1, rfl, rfl, hs, atI_nat (j := 2) rfl, .bl b, rfl, y1, t, b, rfl, d1, ok.2, by omega, fun H1 v1 e1 dv1 => ?_⟩
          refine ⟨by show 3 ≤ sizeLine; decide, fun y ny => ?_⟩
          exact q _ _ (e1.trans (same_new ny)) (conv _ y v1 (dp_mk ny (.cons (.str _) (.cons (.int _) (.cons dv1 .nil)))))
        refine ⟨.str "some", rfl, rfl, .bl b, rfl, rfl, _, rfl, ?_⟩
        rw [dec_vstr]
        cases b with
        | true => exact fin "each" fun _ y v1 z => z
        | false => exact fin "some" fun _ y v1 z => z
end
end K0

namespace K0
open PySem PySem.Spec PyProof.Rows L2 W0 W1 W2 W5 W6 V0 V1 V4
/-- a not, a letter without one -/
def sgn : Say → Bool × Bool
  | .lt _ => (false, true)
  | .hr _ => (false, false)
  | .yes => (false, false)
  | .no => (false, false)
  | .nt _ => (true, false)
  | .an x y => ((sgn y).1 || (sgn x).1, (sgn y).2 || (sgn x).2)
  | .orr x y => ((sgn y).1 || (sgn x).1, (sgn y).2 || (sgn x).2)
  | .gv _ y => sgn y
  | .ea _ s => sgn s
  | .so _ s => sgn s
section
variable {P : Program} {w : World} {K : PySem.W.Frag} {mg : Str → Option Value} {base : Heap}
def sp_signs (K : PySem.W.Frag) (d : Nat) : Sp := fun vs H Q _ => ∃ (v : V) (s : Say), vs = [v] ∧ Dp K H v (dSay s) ∧ s.Ok ∧ s.deep ≤ d ∧ ∀ H' p, Same H H' → H' p = some (.lst [.bl (sgn s).1, .bl (sgn s).2]) → Q (.ref p) H'
theorem ok__law_signs (T : Tops K w mg) : ∀ d : Nat, FnOk P w K mg base CX0 (d + 1) T.a__law_signs T.fd__law_signs p__law_signs (sp_signs K d)
  | 0 => by
    have S := sc__law_signs
    refine T.F__law_signs.ok S (fun vs H Q E h => ?_) (fun cdv A outer s0 H vs Q E hr h => ?_)
    · obtain ⟨v, s, rfl, _⟩ := h
      rfl
    · obtain ⟨v, s, rfl, _, _, h0, _⟩ := h
      exact absurd (Say.deep_pos s) (by omega)
  | d + 1 => by
    have ih := ok__law_signs T d
    have S := sc__law_signs
    refine T.F__law_signs.ok S (fun vs H Q E h => ?_) (fun cdv A outer s0 H vs Q E hr h => ?_)
    · obtain ⟨v, s, rfl, _⟩ := h
      rfl
    · obtain ⟨v, s, rfl, hd, ok, hdeep, q⟩ := h
      refine ⟨_, (pss_cons (ps_set (i := 1) S.nd rfl (Or.inl rfl) (pe_ix (ix_tupK (K := K)) (pv 0) pe_int (fun _ _ => rfl)))
      (pss_cons (ps_if (pt_cmpR op_in_seq (pv 1) (pe_tup (pa_cons pe_str (pa_cons pe_str pa_nil))) (by rfl)) (pss_one (ps_ret (pe_lst (pa_cons (pe_cmpR op_eq (pv 1) pe_str (nomark _)) (pa_cons (pe_cmpR op_eq (pv 1) pe_str (nomark _)) pa_nil))))) pss_nil)
      (pss_cons (ps_if (pt_cmpR op_in_seq (pv 1) (pe_tup (pa_cons pe_str (pa_cons pe_str pa_nil))) (by rfl)) (pss_one (ps_ret (pe_lst (pa_cons pe_bl (pa_cons pe_bl pa_nil))))) pss_nil)
      (pss_cons (ps_set (i := 2) S.nd rfl (Or.inl rfl) (pe_call ih (hr.mono (by omega)) (by rfl) T.g__law_signs T.F__law_signs.kp T.b__law_signs .nil pass0 (pa_cons (pe_ix (ix_tupK (K := K)) (pv 0) (pe_un un_neg pe_int) (fun _ _ => rfl)) pa_nil)))
      (pss_cons (ps_if (pt_cmpR op_in_seq (pv 1) (pe_tup (pa_cons pe_str (pa_cons pe_str pa_nil))) (by rfl)) (pss_cons (ps_set (i := 3) S.nd rfl (Or.inl rfl) (pe_call ih (hr.mono (by omega)) (by rfl) T.g__law_signs T.F__law_signs.kp T.b__law_signs .nil pass0 (pa_cons (pe_ix (ix_tupK (K := K)) (pv 0) pe_int (fun _ _ => rfl)) pa_nil)))
      (pss_one (ps_set (i := 2) S.nd rfl (Or.inl rfl) (pe_lst (pa_cons (pe_or (pe_ix (ix_listK (K := K)) (pv 2) pe_int (fun _ _ => rfl)) (pe_one (pe_ix (ix_listK (K := K)) (pv 3) pe_int (fun _ _ => rfl)))) (pa_cons (pe_or (pe_ix (ix_listK (K := K)) (pv 2) pe_int (fun _ _ => rfl)) (pe_one (pe_ix (ix_listK (K := K)) (pv 3) pe_int (fun _ _ => rfl)))) pa_nil)))))) pss_nil)
      (pss_one (ps_ret (pv 2)))))))), ?_⟩
      obtain ⟨a, xs, rfl, hs, hda⟩ := say_at hd
      have hlen := dps_len hda
      rw [List.length_map] at hlen
      refine ⟨.ref a, rfl, a, _, 0, .str s.hd, rfl, rfl, hs, atI_nat (j := 0) rfl, ?_⟩
      cases s with
      | hr j => exact ok.elim
      | lt i =>
        refine ⟨.str "letter", rfl, by show 2 ≤ sizeLine; decide, fun g ng => ⟨g, _, rfl, .inr (SqT.of upd_same), rfl, rfl, _, rfl, ?_⟩⟩
        rw [show L2.inV (.str "letter") [.str "letter", .str "not"] = true by decide]
        have eg := same_new (o := .tup [.str "letter", .str "not"]) ng
        replace hs := same_tup eg hs
        replace hda := dps_same eg _ _ hda
        replace q : ∀ H' p, Same (upd H g (.tup [.str "letter", .str "not"])) H' → H' p = some (.lst [.bl (sgn _).1, .bl (sgn _).2]) → Q (.ref p) H' := fun H' p e' => q H' p (eg.trans e')
        generalize upd H g _ = H0 at hs hda q
        refine ⟨.str "letter", rfl, rfl, .str "letter", rfl, rfl, by show 2 ≤ sizeLine; decide, fun p np => ?_⟩
        rw [dec_vstr, dec_vstr]
        exact q _ p (same_new np) upd_same
      | nt t =>
        refine ⟨.str "not", rfl, by show 2 ≤ sizeLine; decide, fun g ng => ⟨g, _, rfl, .inr (SqT.of upd_same), rfl, rfl, _, rfl, ?_⟩⟩
        rw [show L2.inV (.str "not") [.str "letter", .str "not"] = true by decide]
        have eg := same_new (o := .tup [.str "letter", .str "not"]) ng
        replace hs := same_tup eg hs
        replace hda := dps_same eg _ _ hda
        replace q : ∀ H' p, Same (upd H g (.tup [.str "letter", .str "not"])) H' → H' p = some (.lst [.bl (sgn _).1, .bl (sgn _).2]) → Q (.ref p) H' := fun H' p e' => q H' p (eg.trans e')
        generalize upd H g _ = H0 at hs hda q
        refine ⟨.str "not", rfl, rfl, .str "not", rfl, rfl, by show 2 ≤ sizeLine; decide, fun p np => ?_⟩
        rw [dec_vstr, dec_vstr]
        exact q _ p (same_new np) upd_same
      | yes =>
        refine ⟨.str "yes", rfl, by show 2 ≤ sizeLine; decide, fun g ng => ⟨g, _, rfl, .inr (SqT.of upd_same), rfl, rfl, _, rfl, ?_⟩⟩
        rw [show L2.inV (.str "yes") [.str "letter", .str "not"] = false by decide]
        have eg := same_new (o := .tup [.str "letter", .str "not"]) ng
        replace hs := same_tup eg hs
        replace hda := dps_same eg _ _ hda
        replace q : ∀ H' p, Same (upd H g (.tup [.str "letter", .str "not"])) H' → H' p = some (.lst [.bl (sgn _).1, .bl (sgn _).2]) → Q (.ref p) H' := fun H' p e' => q H' p (eg.trans e')
        generalize upd H g _ = H0 at hs hda q
        refine ⟨.str "yes", rfl, by show 2 ≤ sizeLine; decide, fun g2 ng2 => ⟨g2, _, rfl, .inr (SqT.of upd_same), rfl, rfl, _, rfl, ?_⟩⟩
        rw [show L2.inV (.str "yes") [.str "yes", .str "no"] = true by decide]
        have eg2 := same_new (o := .tup [.str "yes", .str "no"]) ng2
        replace hs := same_tup eg2 hs
        replace hda := dps_same eg2 _ _ hda
        replace q : ∀ H' p, Same (upd H0 g2 (.tup [.str "yes", .str "no"])) H' → H' p = some (.lst [.bl (sgn _).1, .bl (sgn _).2]) → Q (.ref p) H' := fun H' p e' => q H' p (eg2.trans e')
        generalize upd H0 g2 _ = H00 at hs hda q
        exact ⟨by show 2 ≤ sizeLine; decide, fun p np => q _ p (same_new np) upd_same⟩
      | no =>
        refine ⟨.str "no", rfl, by show 2 ≤ sizeLine; decide, fun g ng => ⟨g, _, rfl, .inr (SqT.of upd_same), rfl, rfl, _, rfl, ?_⟩⟩
        rw [show L2.inV (.str "no") [.str "letter", .str "not"] = false by decide]
        have eg := same_new (o := .tup [.str "letter", .str "not"]) ng
        replace hs := same_tup eg hs
        replace hda := dps_same eg _ _ hda
        replace q : ∀ H' p, Same (upd H g (.tup [.str "letter", .str "not"])) H' → H' p = some (.lst [.bl (sgn _).1, .bl (sgn _).2]) → Q (.ref p) H' := fun H' p e' => q H' p (eg.trans e')
        generalize upd H g _ = H0 at hs hda q
        refine ⟨.str "no", rfl, by show 2 ≤ sizeLine; decide, fun g2 ng2 => ⟨g2, _, rfl, .inr (SqT.of upd_same), rfl, rfl, _, rfl, ?_⟩⟩
        rw [show L2.inV (.str "no") [.str "yes", .str "no"] = true by decide]
        have eg2 := same_new (o := .tup [.str "yes", .str "no"]) ng2
        replace hs := same_tup eg2 hs
        replace hda := dps_same eg2 _ _ hda
        replace q : ∀ H' p, Same (upd H0 g2 (.tup [.str "yes", .str "no"])) H' → H' p = some (.lst [.bl (sgn _).1, .bl (sgn _).2]) → Q (.ref p) H' := fun H' p e' => q H' p (eg2.trans e')
        generalize upd H0 g2 _ = H00 at hs hda q
        exact ⟨by show 2 ≤ sizeLine; decide, fun p np => q _ p (same_new np) upd_same⟩
      | ea i t =>
        refine ⟨.str "each", rfl, by show 2 ≤ sizeLine; decide, fun g ng => ⟨g, _, rfl, .inr (SqT.of upd_same), rfl, rfl, _, rfl, ?_⟩⟩
        rw [show L2.inV (.str "each") [.str "letter", .str "not"] = false by decide]
        have eg := same_new (o := .tup [.str "letter", .str "not"]) ng
        replace hs := same_tup eg hs
        replace hda := dps_same eg _ _ hda
        replace q : ∀ H' p, Same (upd H g (.tup [.str "letter", .str "not"])) H' → H' p = some (.lst [.bl (sgn _).1, .bl (sgn _).2]) → Q (.ref p) H' := fun H' p e' => q H' p (eg.trans e')
        generalize upd H g _ = H0 at hs hda q
        refine ⟨.str "each", rfl, by show 2 ≤ sizeLine; decide, fun g2 ng2 => ⟨g2, _, rfl, .inr (SqT.of upd_same), rfl, rfl, _, rfl, ?_⟩⟩
        rw [show L2.inV (.str "each") [.str "yes", .str "no"] = false by decide]
        have eg2 := same_new (o := .tup [.str "yes", .str "no"]) ng2
        replace hs := same_tup eg2 hs
        replace hda := dps_same eg2 _ _ hda
        replace q : ∀ H' p, Same (upd H0 g2 (.tup [.str "yes", .str "no"])) H' → H' p = some (.lst [.bl (sgn _).1, .bl (sgn _).2]) → Q (.ref p) H' := fun H' p e' => q H' p (eg2.trans e')
        generalize upd H0 g2 _ = H00 at hs hda q
        obtain ⟨y1, rfl, d1⟩ : ∃ y1, xs = [y1] ∧ Dp K H00 y1 (dSay t) := by
          cases hda with
          | cons h1 h2 =>
            cases h2
            exact ⟨_, rfl, h1⟩
        have pd := Say.deep_part (s := .ea i t) (t := t) List.mem_cons_self
        refine ⟨.ref a, rfl, 1, rfl, a, _, -1, y1, rfl, rfl, hs, atI_last [V.str "each", V.int i] y1, y1, t, rfl, d1, ok.2, by omega, fun H1 p e1 hp => ?_⟩
        refine ⟨.str "each", rfl, by show 2 ≤ sizeLine; decide, fun g3 ng3 => ⟨g3, _, rfl, .inr (SqT.of upd_same), rfl, rfl, _, rfl, ?_⟩⟩
        rw [show L2.inV (.str "each") [.str "and", .str "or"] = false by decide]
        have eg3 := same_new (o := .tup [.str "and", .str "or"]) ng3
        exact ⟨.ref p, rfl, q _ p (e1.trans eg3) (eg3 _ _ hp)⟩
      | so i t =>
        refine ⟨.str "some", rfl, by show 2 ≤ sizeLine; decide, fun g ng => ⟨g, _, rfl, .inr (SqT.of upd_same), rfl, rfl, _, rfl, ?_⟩⟩
        rw [show L2.inV (.str "some") [.str "letter", .str "not"] = false by decide]
        have eg := same_new (o := .tup [.str "letter", .str "not"]) ng
        replace hs := same_tup eg hs
        replace hda := dps_same eg _ _ hda
        replace q : ∀ H' p, Same (upd H g (.tup [.str "letter", .str "not"])) H' → H' p = some (.lst [.bl (sgn _).1, .bl (sgn _).2]) → Q (.ref p) H' := fun H' p e' => q H' p (eg.trans e')
        generalize upd H g _ = H0 at hs hda q
        refine ⟨.str "some", rfl, by show 2 ≤ sizeLine; decide, fun g2 ng2 => ⟨g2, _, rfl, .inr (SqT.of upd_same), rfl, rfl, _, rfl, ?_⟩⟩
        rw [show L2.inV (.str "some") [.str "yes", .str "no"] = false by decide]
        have eg2 := same_new (o := .tup [.str "yes", .str "no"]) ng2
        replace hs := same_tup eg2 hs
        replace hda := dps_same eg2 _ _ hda
        replace q : ∀ H' p, Same (upd H0 g2 (.tup [.str "yes", .str "no"])) H' → H' p = some (.lst [.bl (sgn _).1, .bl (sgn _).2]) → Q (.ref p) H' := fun H' p e' => q H' p (eg2.trans e')
        generalize upd H0 g2 _ = H00 at hs hda q
        obtain ⟨y1, rfl, d1⟩ : ∃ y1, xs = [y1] ∧ Dp K H00 y1 (dSay t) := by
          cases hda with
          | cons h1 h2 =>
            cases h2
            exact ⟨_, rfl, h1⟩
        have pd := Say.deep_part (s := .so i t) (t := t) List.mem_cons_self
        refine ⟨.ref a, rfl, 1, rfl, a, _, -1, y1, rfl, rfl, hs, atI_last [V.str "some", V.int i] y1, y1, t, rfl, d1, ok.2, by omega, fun H1 p e1 hp => ?_⟩
        refine ⟨.str "some", rfl, by show 2 ≤ sizeLine; decide, fun g3 ng3 => ⟨g3, _, rfl, .inr (SqT.of upd_same), rfl, rfl, _, rfl, ?_⟩⟩
        rw [show L2.inV (.str "some") [.str "and", .str "or"] = false by decide]
        have eg3 := same_new (o := .tup [.str "and", .str "or"]) ng3
        exact ⟨.ref p, rfl, q _ p (e1.trans eg3) (eg3 _ _ hp)⟩
      | gv tx ty =>
        refine ⟨.str "gives", rfl, by show 2 ≤ sizeLine; decide, fun g ng => ⟨g, _, rfl, .inr (SqT.of upd_same), rfl, rfl, _, rfl, ?_⟩⟩
        rw [show L2.inV (.str "gives") [.str "letter", .str "not"] = false by decide]
        have eg := same_new (o := .tup [.str "letter", .str "not"]) ng
        replace hs := same_tup eg hs
        replace hda := dps_same eg _ _ hda
        replace q : ∀ H' p, Same (upd H g (.tup [.str "letter", .str "not"])) H' → H' p = some (.lst [.bl (sgn _).1, .bl (sgn _).2]) → Q (.ref p) H' := fun H' p e' => q H' p (eg.trans e')
        generalize upd H g _ = H0 at hs hda q
        refine ⟨.str "gives", rfl, by show 2 ≤ sizeLine; decide, fun g2 ng2 => ⟨g2, _, rfl, .inr (SqT.of upd_same), rfl, rfl, _, rfl, ?_⟩⟩
        rw [show L2.inV (.str "gives") [.str "yes", .str "no"] = false by decide]
        have eg2 := same_new (o := .tup [.str "yes", .str "no"]) ng2
        replace hs := same_tup eg2 hs
        replace hda := dps_same eg2 _ _ hda
        replace q : ∀ H' p, Same (upd H0 g2 (.tup [.str "yes", .str "no"])) H' → H' p = some (.lst [.bl (sgn _).1, .bl (sgn _).2]) → Q (.ref p) H' := fun H' p e' => q H' p (eg2.trans e')
        generalize upd H0 g2 _ = H00 at hs hda q
        obtain ⟨y1, y2, rfl, d1, d2⟩ : ∃ y1 y2, xs = [y1, y2] ∧ Dp K H00 y1 (dSay tx) ∧ Dp K H00 y2 (dSay ty) := by
          cases hda with
          | cons h1 h2 =>
            cases h2 with
            | cons h2 h3 =>
              cases h3
              exact ⟨_, _, rfl, h1, h2⟩
        have p1 := Say.deep_part (s := .gv tx ty) (t := tx) List.mem_cons_self
        have p2 := Say.deep_part (s := .gv tx ty) (t := ty) (List.mem_cons_of_mem _ List.mem_cons_self)
        refine ⟨.ref a, rfl, 1, rfl, a, _, -1, y2, rfl, rfl, hs, atI_last [V.str "gives", y1] y2, y2, ty, rfl, d2, ok.2, by omega, fun H1 p e1 hp => ?_⟩
        refine ⟨.str "gives", rfl, by show 2 ≤ sizeLine; decide, fun g3 ng3 => ⟨g3, _, rfl, .inr (SqT.of upd_same), rfl, rfl, _, rfl, ?_⟩⟩
        have eg3 := same_new (o := .tup [.str "and", .str "or"]) ng3
        rw [show L2.inV (.str "gives") [.str "and", .str "or"] = false by decide]
        exact ⟨.ref p, rfl, q _ p (e1.trans eg3) (eg3 _ _ hp)⟩
      | an tx ty =>
        refine ⟨.str "and", rfl, by show 2 ≤ sizeLine; decide, fun g ng => ⟨g, _, rfl, .inr (SqT.of upd_same), rfl, rfl, _, rfl, ?_⟩⟩
        rw [show L2.inV (.str "and") [.str "letter", .str "not"] = false by decide]
        have eg := same_new (o := .tup [.str "letter", .str "not"]) ng
        replace hs := same_tup eg hs
        replace hda := dps_same eg _ _ hda
        replace q : ∀ H' p, Same (upd H g (.tup [.str "letter", .str "not"])) H' → H' p = some (.lst [.bl (sgn _).1, .bl (sgn _).2]) → Q (.ref p) H' := fun H' p e' => q H' p (eg.trans e')
        generalize upd H g _ = H0 at hs hda q
        refine ⟨.str "and", rfl, by show 2 ≤ sizeLine; decide, fun g2 ng2 => ⟨g2, _, rfl, .inr (SqT.of upd_same), rfl, rfl, _, rfl, ?_⟩⟩
        rw [show L2.inV (.str "and") [.str "yes", .str "no"] = false by decide]
        have eg2 := same_new (o := .tup [.str "yes", .str "no"]) ng2
        replace hs := same_tup eg2 hs
        replace hda := dps_same eg2 _ _ hda
        replace q : ∀ H' p, Same (upd H0 g2 (.tup [.str "yes", .str "no"])) H' → H' p = some (.lst [.bl (sgn _).1, .bl (sgn _).2]) → Q (.ref p) H' := fun H' p e' => q H' p (eg2.trans e')
        generalize upd H0 g2 _ = H00 at hs hda q
        obtain ⟨y1, y2, rfl, d1, d2⟩ : ∃ y1 y2, xs = [y1, y2] ∧ Dp K H00 y1 (dSay tx) ∧ Dp K H00 y2 (dSay ty) := by
          cases hda with
          | cons h1 h2 =>
            cases h2 with
            | cons h2 h3 =>
              cases h3
              exact ⟨_, _, rfl, h1, h2⟩
        have p1 := Say.deep_part (s := .an tx ty) (t := tx) List.mem_cons_self
        have p2 := Say.deep_part (s := .an tx ty) (t := ty) (List.mem_cons_of_mem _ List.mem_cons_self)
        refine ⟨.ref a, rfl, 1, rfl, a, _, -1, y2, rfl, rfl, hs, atI_last [V.str "and", y1] y2, y2, ty, rfl, d2, ok.2, by omega, fun H1 p e1 hp => ?_⟩
        refine ⟨.str "and", rfl, by show 2 ≤ sizeLine; decide, fun g3 ng3 => ⟨g3, _, rfl, .inr (SqT.of upd_same), rfl, rfl, _, rfl, ?_⟩⟩
        have eg3 := same_new (o := .tup [.str "and", .str "or"]) ng3
        rw [show L2.inV (.str "and") [.str "and", .str "or"] = true by decide]
        have e13 := e1.trans eg3
        have hp3 := eg3 _ _ hp
        generalize upd H1 g3 _ = H3 at e13 hp3
        refine ⟨.ref a, rfl, a, _, 1, y1, rfl, rfl, same_tup e13 hs, atI_nat (j := 1) rfl, y1, tx, rfl, dp_same e13 _ _ d1, ok.1, by omega, fun H4 r e4 hr2 => ?_⟩
        have hp4 := e4 _ _ hp3
        refine ⟨.ref p, rfl, p, _, 0, .bl (sgn ty).1, rfl, rfl, SqL.of hp4, atI_nat (j := 0) rfl, _, rfl, ?_⟩
        have mid : ∀ (x1 : Bool), x1 = ((sgn ty).1 || (sgn tx).1) → tCons (tOrV (tOp (rIxL K) (tVar 2) (tC (V.int 1))) (tOp (rIxL K) (tVar 3) (tC (V.int 1)))) tNil [some (.ref a), some (.str "and"), some (.ref p), some (.ref r)] H4 (fun zs H5 => (V.bl x1 :: zs).length ≤ sizeLine ∧ ∀ y, H5 y = none → ∃ v, some (some (V.ref y)) = some (some v) ∧ Q v (upd H5 y (.lst (V.bl x1 :: zs)))) := by
          intro x1 ex
          refine ⟨.ref p, rfl, p, _, 1, .bl (sgn ty).2, rfl, rfl, SqL.of hp4, atI_nat (j := 1) rfl, _, rfl, ?_⟩
          have fin : ∀ (x2 : Bool), x2 = ((sgn ty).2 || (sgn tx).2) → ([V.bl x1, V.bl x2] : List V).length ≤ sizeLine ∧ ∀ y, H4 y = none → ∃ v, some (some (V.ref y)) = some (some v) ∧ Q v (upd H4 y (.lst [V.bl x1, V.bl x2])) := by
            intro x2 ex2
            refine ⟨by show 2 ≤ sizeLine; decide, fun y ny => ⟨_, rfl, q _ y (e13.trans (e4.trans (same_new ny))) ?_⟩⟩
            rw [upd_same, ex, ex2]
            rfl
          cases hb : (sgn ty).2 with
          | true => exact fin true (by rw [hb]; rfl)
          | false => exact ⟨.ref r, rfl, r, _, 1, .bl (sgn tx).2, rfl, rfl, SqL.of hr2, atI_nat (j := 1) rfl, fin _ (by rw [hb]; rfl)⟩
        cases hb : (sgn ty).1 with
        | true => exact mid true (by rw [hb]; rfl)
        | false => exact ⟨.ref r, rfl, r, _, 0, .bl (sgn tx).1, rfl, rfl, SqL.of hr2, atI_nat (j := 0) rfl, mid _ (by rw [hb]; rfl)⟩
      | orr tx ty =>
        refine ⟨.str "or", rfl, by show 2 ≤ sizeLine; decide, fun g ng => ⟨g, _, rfl, .inr (SqT.of upd_same), rfl, rfl, _, rfl, ?_⟩⟩
        rw [show L2.inV (.str "or") [.str "letter", .str "not"] = false by decide]
        have eg := same_new (o := .tup [.str "letter", .str "not"]) ng
        replace hs := same_tup eg hs
        replace hda := dps_same eg _ _ hda
        replace q : ∀ H' p, Same (upd H g (.tup [.str "letter", .str "not"])) H' → H' p = some (.lst [.bl (sgn _).1, .bl (sgn _).2]) → Q (.ref p) H' := fun H' p e' => q H' p (eg.trans e')
        generalize upd H g _ = H0 at hs hda q
        refine ⟨.str "or", rfl, by show 2 ≤ sizeLine; decide, fun g2 ng2 => ⟨g2, _, rfl, .inr (SqT.of upd_same), rfl, rfl, _, rfl, ?_⟩⟩
        rw [show L2.inV (.str "or") [.str "yes", .str "no"] = false by decide]
        have eg2 := same_new (o := .tup [.str "yes", .str "no"]) ng2
        replace hs := same_tup eg2 hs
        replace hda := dps_same eg2 _ _ hda
        replace q : ∀ H' p, Same (upd H0 g2 (.tup [.str "yes", .str "no"])) H' → H' p = some (.lst [.bl (sgn _).1, .bl (sgn _).2]) → Q (.ref p) H' := fun H' p e' => q H' p (eg2.trans e')
        generalize upd H0 g2 _ = H00 at hs hda q
        obtain ⟨y1, y2, rfl, d1, d2⟩ : ∃ y1 y2, xs = [y1, y2] ∧ Dp K H00 y1 (dSay tx) ∧ Dp K H00 y2 (dSay ty) := by
          cases hda with
          | cons h1 h2 =>
            cases h2 with
            | cons h2 h3 =>
              cases h3
              exact ⟨_, _, rfl, h1, h2⟩
        have p1 := Say.deep_part (s := .orr tx ty) (t := tx) List.mem_cons_self
        have p2 := Say.deep_part (s := .orr tx ty) (t := ty) (List.mem_cons_of_mem _ List.mem_cons_self)
        refine ⟨.ref a, rfl, 1, rfl, a, _, -1, y2, rfl, rfl, hs, atI_last [V.str "or", y1] y2, y2, ty, rfl, d2, ok.2, by omega, fun H1 p e1 hp => ?_⟩
        refine ⟨.str "or", rfl, by show 2 ≤ sizeLine; decide, fun g3 ng3 => ⟨g3, _, rfl, .inr (SqT.of upd_same), rfl, rfl, _, rfl, ?_⟩⟩
        have eg3 := same_new (o := .tup [.str "and", .str "or"]) ng3
        rw [show L2.inV (.str "or") [.str "and", .str "or"] = true by decide]
        have e13 := e1.trans eg3
        have hp3 := eg3 _ _ hp
        generalize upd H1 g3 _ = H3 at e13 hp3
        refine ⟨.ref a, rfl, a, _, 1, y1, rfl, rfl, same_tup e13 hs, atI_nat (j := 1) rfl, y1, tx, rfl, dp_same e13 _ _ d1, ok.1, by omega, fun H4 r e4 hr2 => ?_⟩
        have hp4 := e4 _ _ hp3
        refine ⟨.ref p, rfl, p, _, 0, .bl (sgn ty).1, rfl, rfl, SqL.of hp4, atI_nat (j := 0) rfl, _, rfl, ?_⟩
        have mid : ∀ (x1 : Bool), x1 = ((sgn ty).1 || (sgn tx).1) → tCons (tOrV (tOp (rIxL K) (tVar 2) (tC (V.int 1))) (tOp (rIxL K) (tVar 3) (tC (V.int 1)))) tNil [some (.ref a), some (.str "or"), some (.ref p), some (.ref r)] H4 (fun zs H5 => (V.bl x1 :: zs).length ≤ sizeLine ∧ ∀ y, H5 y = none → ∃ v, some (some (V.ref y)) = some (some v) ∧ Q v (upd H5 y (.lst (V.bl x1 :: zs)))) := by
          intro x1 ex
          refine ⟨.ref p, rfl, p, _, 1, .bl (sgn ty).2, rfl, rfl, SqL.of hp4, atI_nat (j := 1) rfl, _, rfl, ?_⟩
          have fin : ∀ (x2 : Bool), x2 = ((sgn ty).2 || (sgn tx).2) → ([V.bl x1, V.bl x2] : List V).length ≤ sizeLine ∧ ∀ y, H4 y = none → ∃ v, some (some (V.ref y)) = some (some v) ∧ Q v (upd H4 y (.lst [V.bl x1, V.bl x2])) := by
            intro x2 ex2
            refine ⟨by show 2 ≤ sizeLine; decide, fun y ny => ⟨_, rfl, q _ y (e13.trans (e4.trans (same_new ny))) ?_⟩⟩
            rw [upd_same, ex, ex2]
            rfl
          cases hb : (sgn ty).2 with
          | true => exact fin true (by rw [hb]; rfl)
          | false => exact ⟨.ref r, rfl, r, _, 1, .bl (sgn tx).2, rfl, rfl, SqL.of hr2, atI_nat (j := 1) rfl, fin _ (by rw [hb]; rfl)⟩
        cases hb : (sgn ty).1 with
        | true => exact mid true (by rw [hb]; rfl)
        | false => exact ⟨.ref r, rfl, r, _, 0, .bl (sgn tx).1, rfl, rfl, SqL.of hr2, atI_nat (j := 0) rfl, mid _ (by rw [hb]; rfl)⟩
end
end K0

namespace K0
open PySem PySem.Spec PyProof.Rows L2 W0 W1 W2 W5 W6 V0 V1 V4
def rowsL : Nat → List (List Int)
  | 0 => [[]]
  | k + 1 => rowsL k ++ (rowsL k).map (· ++ [(k : Int)])
theorem rowsL_len : ∀ k, (rowsL k).length = 2 ^ k
  | 0 => rfl
  | k + 1 => by
    show (rowsL k ++ (rowsL k).map (· ++ [(k : Int)])).length = _
    rw [List.length_append, List.length_map, rowsL_len k, Nat.pow_succ]
    omega
theorem rowsL_few : ∀ (k : Nat) (r : List Int), r ∈ rowsL k → r.length ≤ k
  | 0, r, h => by
    rw [List.mem_singleton.mp h]
    exact Nat.le_refl _
  | k + 1, r, h => by
    rcases List.mem_append.mp h with h | h
    · exact Nat.le_succ_of_le (rowsL_few k r h)
    · obtain ⟨t, ht, rfl⟩ := List.mem_map.mp h
      rw [List.length_append]
      exact Nat.succ_le_succ (rowsL_few k t ht)
theorem noLs_rows (l : List (List Int)) : noLs (l.map dInts) = true := noLs_of fun d m => by
  obtain ⟨r, _, rfl⟩ := List.mem_map.mp m
  refine noLs_of fun d m => ?_
  obtain ⟨i, _, rfl⟩ := List.mem_map.mp m
  rfl
section
variable {P : Program} {w : World} {K : PySem.W.Frag} {mg : Str → Option Value} {base : Heap}
def sp_rows_of (K : PySem.W.Frag) : Sp := fun vs H Q _ => ∃ n : Nat, vs = [.int n] ∧ n ≤ 5 ∧ ∀ H' p xs, Same H H' → H' p = some (.lst xs) → DpAll K H' xs ((rowsL n).map dInts) → Q (.ref p) H'
theorem ok__law_rows_of (T : Tops K w mg) : FnOk P w K mg base CX0 1 T.a__law_rows_of T.fd__law_rows_of p__law_rows_of (sp_rows_of K) := by
  have S := sc__law_rows_of
  refine T.F__law_rows_of.ok S (fun vs H Q E h => ?_) (fun cdv A outer s0 H vs Q E hr h => ?_)
  · obtain ⟨n, rfl, _⟩ := h
    rfl
  · obtain ⟨n, rfl, hn, q⟩ := h
    refine ⟨_, (pss_cons (ps_set (i := 1) S.nd rfl (Or.inl rfl) (pe_lst (pa_cons (pe_tup pa_nil) pa_nil)))
      (pss_cons (ps_for PassesOwn.never rfl (pi_range1 (by rfl) T.m_range (pa_cons (pv 0) pa_nil)) (pg_name (i := 2) S.nd rfl (Or.inr rfl)) (pss_one (ps_set (i := 1) S.nd rfl (Or.inl rfl) (pe_op op_cat (pv 1) (pe_lc (own := [("row", 3)]) rfl S.nd (pi_list (pv 1)) (blkOk_by (N := n__law_rows_of) (sc := defScope s__law_rows_of) (by decide +kernel)) (fun _ _ _ _ _ => (pg_name (i := 3) S.nd rfl (Or.inl rfl))) (fun _ _ _ _ _ => pts_nil) (fun _ _ _ _ _ => (pe_op (op_catK (K := K)) (pv 3) (pe_tup (pa_cons (pv 2) pa_nil)))))))))
      (pss_one (ps_ret (pv 1))))), ?_⟩
    refine ⟨Nat.zero_le _, fun e ne => ⟨by show 1 ≤ sizeLine; decide, fun F nF => ?_⟩⟩
    have eF := (same_new (o := .tup []) ne).trans (same_new (o := .lst [.ref e]) nF)
    have dF : DpAll K (upd (upd H e (.tup [])) F (.lst [.ref e])) [.ref e] ((rowsL 0).map dInts) := .cons (dp_of_ints (l := []) (same_tup (same_new nF) (SqT.of upd_same))) .nil
    have hF : upd (upd H e (.tup [])) F (.lst [.ref e]) F = some (.lst [.ref e]) := upd_same
    generalize upd _ F _ = H1 at eF dF hF
    refine ⟨.int n, rfl, n, rfl, by omega, by omega, ?_⟩
    refine for_range (lo := 0) (n := n) (fun s σ H' => ∃ f xs y2, σ = [some (.int n), some (.ref f), y2, none] ∧ Same H H' ∧ H' f = some (.lst xs) ∧ DpAll K H' xs ((rowsL s).map dInts))
      ⟨F, _, none, rfl, eF, hF, dF⟩ (fun s σ H2 hs h => ?_) (fun σ H2 h => ?_)
    · obtain ⟨f, xs, y2, rfl, e2, hf, dx⟩ := h
      rw [Int.zero_add]
      have xl := dps_len dx
      rw [List.length_map, rowsL_len] at xl
      have p5 : 2 ^ s ≤ 2 ^ 5 := Nat.pow_le_pow_right (by decide) (by omega)
      have p32 : (2 : Nat) ^ 5 = 32 := rfl
      refine ⟨.ref f, rfl, .ref f, rfl, f, rfl, ⟨_, SqL.of hf⟩, fun D nD => ?_⟩
      refine lc_list (K := K) (a := f) (xs := xs) (fun j H' => Same H2 H' ∧ ∃ zs, H' D = some (.lst zs) ∧ DpAll K H' zs ((((rowsL s).take j).map (· ++ [(s : Int)])).map dInts)) ⟨same_new nD, [], upd_same, .nil⟩ (fun _ H' _ h => SqL.of (h.1 _ _ hf)) (fun j x H3 hxj h => ?_) (fun H3 h => ?_)
      · obtain ⟨e3, zs, hD, dz⟩ := h
        obtain ⟨r, rj, rm, dr⟩ := get_map (dps_same e3 _ _ dx) hxj
        obtain ⟨c, rfl, hc⟩ := dp_ints dr
        have zl := dps_len dz
        rw [List.length_map, List.length_map] at zl
        have rf := rowsL_few s r rm
        refine ⟨rfl, .ref c, rfl, .int s, rfl, by show 1 ≤ sizeLine; decide, fun y ny => ?_⟩
        have ey := same_new (o := .tup [.int s]) ny
        refine ⟨c, y, _, _, rfl, rfl, same_tup ey hc, SqT.of upd_same, ?_, fun b H4 e4 hb => ?_⟩
        · rw [List.length_map]
          exact Nat.le_of_lt (small (m := 100) (by show r.length + 1 ≤ 100; omega))
        · have e5 := ey.trans e4
          have hD4 := e5 _ _ hD
          refine ⟨_, hD4, ?_, same_upd_new (e3.trans e5) nD, zs ++ [.ref b], upd_same, ?_⟩
          · rw [zl]
            exact small (m := 100) (Nat.le_trans (List.length_take_le' _ _) (by rw [rowsL_len]; omega))
          · have hb' : Dp K H4 (.ref b) (dInts (r ++ [(s : Int)])) := dp_of_ints (by rw [List.map_append]; exact hb)
            rw [List.take_add_one, rj, List.map_append, List.map_append]
            refine dps_put hD4 _ _ ?_ (dps_app (dps_same e5 _ _ dz) (dps_one hb'))
            rw [← List.map_append]
            exact noLs_rows _
      · obtain ⟨e3, zs, hD, dz⟩ := h
        have zl := dps_len dz
        rw [List.length_map, List.length_map] at zl
        rw [xl, ← rowsL_len s, List.take_length] at dz zl
        rw [rowsL_len] at zl
        refine ⟨f, D, xs, zs, rfl, rfl, e3 _ _ hf, hD, Nat.le_of_lt (small (m := 100) (by omega)), fun p np => ?_⟩
        refine ⟨p, _, _, rfl, (e2.trans e3).trans (same_new np), upd_same, ?_⟩
        refine dps_same (same_new np) _ _ ?_
        show DpAll K H3 (xs ++ zs) ((rowsL s ++ (rowsL s).map (· ++ [(s : Int)])).map dInts)
        rw [List.map_append]
        exact dps_app (dps_same e3 _ _ dx) dz
    · obtain ⟨f, xs, y2, rfl, e2, hf, dx⟩ := h
      exact ⟨.ref f, rfl, q H2 f xs e2 hf dx⟩
end
end K0

namespace K0
open PySem PySem.Spec PyProof.Rows L2 W0 W1 W2 W5 W6 V0 V1 V4
/-! ### what turning does -/
theorem turnS_turn : ∀ (c b : Bool) (s : Say), turnS c (turnS b s) = turnS (c != b) s
  | c, b, .lt i => by cases c <;> cases b <;> rfl
  | c, b, .hr j => by cases c <;> cases b <;> rfl
  | c, b, .yes => by cases c <;> cases b <;> rfl
  | c, b, .no => by cases c <;> cases b <;> rfl
  | c, b, .nt s => by
    have := turnS_turn c (!b) s
    show turnS c (turnS (!b) s) = turnS (!(c != b)) s
    rw [this]
    cases c <;> cases b <;> rfl
  | c, b, .an x y => by
    have h1 := turnS_turn c b x
    have h2 := turnS_turn c b y
    cases c <;> cases b <;> simp_all [turnS]
  | c, b, .orr x y => by
    have h1 := turnS_turn c b x
    have h2 := turnS_turn c b y
    cases c <;> cases b <;> simp_all [turnS]
  | c, b, .gv x y => by
    have h1 := turnS_turn c (!b) x
    have h2 := turnS_turn c b y
    cases c <;> cases b <;> simp_all [turnS]
  | c, b, .ea w s => by
    have h1 := turnS_turn c b s
    cases c <;> cases b <;> simp_all [turnS]
  | c, b, .so w s => by
    have h1 := turnS_turn c b s
    cases c <;> cases b <;> simp_all [turnS]
theorem turn_ok : ∀ (b : Bool) (s : Say), s.Ok → (turnS b s).Ok
  | b, .lt i, h => by cases b <;> exact h
  | b, .hr j, h => h.elim
  | b, .yes, _ => by cases b <;> trivial
  | b, .no, _ => by cases b <;> trivial
  | b, .nt s, h => turn_ok (!b) s h
  | b, .an x y, h => by
    have h1 := turn_ok b x h.1
    have h2 := turn_ok b y h.2
    cases b <;> exact ⟨h1, h2⟩
  | b, .orr x y, h => by
    have h1 := turn_ok b x h.1
    have h2 := turn_ok b y h.2
    cases b <;> exact ⟨h1, h2⟩
  | b, .gv x y, h => by
    have h1 := turn_ok (!b) x h.1
    have h2 := turn_ok b y h.2
    cases b <;> exact ⟨h1, h2⟩
  | b, .ea w s, h => by
    have h1 := turn_ok b s h.2
    cases b <;> exact ⟨h.1, h1⟩
  | b, .so w s, h => by
    have h1 := turn_ok b s h.2
    cases b <;> exact ⟨h.1, h1⟩
theorem all_not {α : Type} (l : List α) (f : α → Bool) : (l.all fun x => !f x) = !l.any f := by
  induction l with
  | nil => rfl
  | cons a l ih => rw [List.all_cons, List.any_cons, ih, Bool.not_or]
theorem any_not {α : Type} (l : List α) (f : α → Bool) : (l.any fun x => !f x) = !l.all f := by
  induction l with
  | nil => rfl
  | cons a l ih => rw [List.all_cons, List.any_cons, ih, Bool.not_and]
/-- the turned saying holds where the saying does, or where it does not -/
theorem hold_turn (A : List T3) (R : Nat → List Int) : ∀ (b : Bool) (s : Say) (x : Int), hold A R (turnS b s) x = (hold A R s x != b)
  | b, .lt i, x => by
    cases b
    · show decide (x ∈ R i) = (decide (x ∈ R i) != false)
      cases decide (x ∈ R i) <;> rfl
    · show (!decide (x ∈ R i)) = (decide (x ∈ R i) != true)
      cases decide (x ∈ R i) <;> rfl
  | b, .hr j, x => by cases b <;> rfl
  | b, .yes, x => by cases b <;> rfl
  | b, .no, x => by cases b <;> rfl
  | b, .nt s, x => by
    show hold A R (turnS (!b) s) x = ((!hold A R s x) != b)
    rw [hold_turn A R (!b) s x]
    cases hold A R s x <;> cases b <;> rfl
  | b, .an y z, x => by
    have h1 := hold_turn A R b y x
    have h2 := hold_turn A R b z x
    cases b
    · show (hold A R (turnS false y) x && hold A R (turnS false z) x) = ((hold A R y x && hold A R z x) != false)
      rw [h1, h2]
      cases hold A R y x <;> cases hold A R z x <;> rfl
    · show (hold A R (turnS true y) x || hold A R (turnS true z) x) = ((hold A R y x && hold A R z x) != true)
      rw [h1, h2]
      cases hold A R y x <;> cases hold A R z x <;> rfl
  | b, .orr y z, x => by
    have h1 := hold_turn A R b y x
    have h2 := hold_turn A R b z x
    cases b
    · show (hold A R (turnS false y) x || hold A R (turnS false z) x) = ((hold A R y x || hold A R z x) != false)
      rw [h1, h2]
      cases hold A R y x <;> cases hold A R z x <;> rfl
    · show (hold A R (turnS true y) x && hold A R (turnS true z) x) = ((hold A R y x || hold A R z x) != true)
      rw [h1, h2]
      cases hold A R y x <;> cases hold A R z x <;> rfl
  | b, .gv y z, x => by
    have h1 := hold_turn A R (!b) y x
    have h2 := hold_turn A R b z x
    cases b
    · show (hold A R (turnS true y) x || hold A R (turnS false z) x) = ((!hold A R y x || hold A R z x) != false)
      rw [show hold A R (turnS true y) x = _ from h1, h2]
      cases hold A R y x <;> cases hold A R z x <;> rfl
    · show (hold A R (turnS false y) x && hold A R (turnS true z) x) = ((!hold A R y x || hold A R z x) != true)
      rw [show hold A R (turnS false y) x = _ from h1, h2]
      cases hold A R y x <;> cases hold A R z x <;> rfl
  | b, .ea w s, x => by
    have h1 : hold A R (turnS b s) = fun y => (hold A R s y != b) := funext fun y => hold_turn A R b s y
    cases b
    · show (ledS A w x).all (hold A R (turnS false s)) = ((ledS A w x).all (hold A R s) != false)
      rw [h1]
      simp
    · show (ledS A w x).any (hold A R (turnS true s)) = ((ledS A w x).all (hold A R s) != true)
      rw [h1]
      simp only [Bool.bne_true]
      exact any_not _ _
  | b, .so w s, x => by
    have h1 : hold A R (turnS b s) = fun y => (hold A R s y != b) := funext fun y => hold_turn A R b s y
    cases b
    · show (ledS A w x).any (hold A R (turnS false s)) = ((ledS A w x).any (hold A R s) != false)
      rw [h1]
      simp
    · show (ledS A w x).all (hold A R (turnS true s)) = ((ledS A w x).any (hold A R s) != true)
      rw [h1]
      simp only [Bool.bne_true]
      exact all_not _ _
end K0

namespace K0
open PySem PySem.Spec PyProof.Rows L2 W0 W1 W2 W5 W6 V0 V1 V4
/-- nots stand at letters alone, no gives -/
def Inw : Say → Prop
  | .lt _ => True
  | .hr _ => True
  | .yes => True
  | .no => True
  | .nt s => ∃ i, s = .lt i
  | .an x y => Inw x ∧ Inw y
  | .orr x y => Inw x ∧ Inw y
  | .gv _ _ => False
  | .ea _ s => Inw s
  | .so _ s => Inw s
theorem turn_inw : ∀ (b : Bool) {s : Say}, s.Ok → Inw (turnS b s)
  | b, .lt i, _ => by
    cases b
    · trivial
    · exact ⟨i, rfl⟩
  | b, .hr j, h => h.elim
  | b, .yes, _ => by cases b <;> trivial
  | b, .no, _ => by cases b <;> trivial
  | b, .nt s, h => turn_inw (!b) (s := s) h
  | b, .an x y, h => by
    have h1 := turn_inw b h.1
    have h2 := turn_inw b h.2
    cases b <;> exact ⟨h1, h2⟩
  | b, .orr x y, h => by
    have h1 := turn_inw b h.1
    have h2 := turn_inw b h.2
    cases b <;> exact ⟨h1, h2⟩
  | b, .gv x y, h => by
    have h1 := turn_inw (!b) h.1
    have h2 := turn_inw b h.2
    cases b <;> exact ⟨h1, h2⟩
  | b, .ea w s, h => by
    have h1 := turn_inw b h.2
    cases b <;> exact h1
  | b, .so w s, h => by
    have h1 := turn_inw b h.2
    cases b <;> exact h1
theorem grows {A : List T3} {R R' : Nat → List Int} (h : ∀ i x, x ∈ R i → x ∈ R' i) : ∀ {t : Say}, Inw t → (sgn t).1 = false → ∀ x, hold A R t x = true → hold A R' t x = true
  | .lt i, _, _, x, z => decide_eq_true (h i x (of_decide_eq_true z))
  | .hr _, _, _, _, z => z
  | .yes, _, _, _, z => z
  | .no, _, _, _, z => z
  | .nt s, _, s0, _, _ => by cases s0
  | .gv _ _, i, _, _, _ => i.elim
  | .an y z, i, s0, x, g => by
    have s1 : ((sgn z).1 || (sgn y).1) = false := s0
    rw [Bool.or_eq_false_iff] at s1
    have g1 : (hold A R y x && hold A R z x) = true := g
    rw [Bool.and_eq_true] at g1
    show (hold A R' y x && hold A R' z x) = true
    rw [Bool.and_eq_true]
    exact ⟨grows h i.1 s1.2 x g1.1, grows h i.2 s1.1 x g1.2⟩
  | .orr y z, i, s0, x, g => by
    have s1 : ((sgn z).1 || (sgn y).1) = false := s0
    rw [Bool.or_eq_false_iff] at s1
    have g1 : (hold A R y x || hold A R z x) = true := g
    rw [Bool.or_eq_true] at g1
    show (hold A R' y x || hold A R' z x) = true
    rw [Bool.or_eq_true]
    exact g1.imp (grows h i.1 s1.2 x) (grows h i.2 s1.1 x)
  | .ea w s, i, s0, x, g => by
    have g1 : (ledS A w x).all (hold A R s) = true := g
    show (ledS A w x).all (hold A R' s) = true
    rw [List.all_eq_true] at g1 ⊢
    exact fun e he => grows h (t := s) i s0 e (g1 e he)
  | .so w s, i, s0, x, g => by
    have g1 : (ledS A w x).any (hold A R s) = true := g
    show (ledS A w x).any (hold A R' s) = true
    rw [List.any_eq_true] at g1 ⊢
    obtain ⟨e, he, g2⟩ := g1
    exact ⟨e, he, grows h (t := s) i s0 e g2⟩
theorem shrinks {A : List T3} {R R' : Nat → List Int} (h : ∀ i x, x ∈ R i → x ∈ R' i) : ∀ {t : Say}, Inw t → (sgn t).2 = false → ∀ x, hold A R' t x = true → hold A R t x = true
  | .lt i, _, s0, _, _ => by cases s0
  | .hr _, _, _, _, z => z
  | .yes, _, _, _, z => z
  | .no, _, _, _, z => z
  | .nt s, i, _, x, z => by
    obtain ⟨j, rfl⟩ := i
    have z1 : (!decide (x ∈ R' j)) = true := z
    show (!decide (x ∈ R j)) = true
    rw [Bool.not_eq_true', decide_eq_false_iff_not] at z1 ⊢
    exact fun m => z1 (h j x m)
  | .gv _ _, i, _, _, _ => i.elim
  | .an y z, i, s0, x, g => by
    have s1 : ((sgn z).2 || (sgn y).2) = false := s0
    rw [Bool.or_eq_false_iff] at s1
    have g1 : (hold A R' y x && hold A R' z x) = true := g
    rw [Bool.and_eq_true] at g1
    show (hold A R y x && hold A R z x) = true
    rw [Bool.and_eq_true]
    exact ⟨shrinks h i.1 s1.2 x g1.1, shrinks h i.2 s1.1 x g1.2⟩
  | .orr y z, i, s0, x, g => by
    have s1 : ((sgn z).2 || (sgn y).2) = false := s0
    rw [Bool.or_eq_false_iff] at s1
    have g1 : (hold A R' y x || hold A R' z x) = true := g
    rw [Bool.or_eq_true] at g1
    show (hold A R y x || hold A R z x) = true
    rw [Bool.or_eq_true]
    exact g1.imp (shrinks h i.1 s1.2 x) (shrinks h i.2 s1.1 x)
  | .ea w s, i, s0, x, g => by
    have g1 : (ledS A w x).all (hold A R' s) = true := g
    show (ledS A w x).all (hold A R s) = true
    rw [List.all_eq_true] at g1 ⊢
    exact fun e he => shrinks h (t := s) i s0 e (g1 e he)
  | .so w s, i, s0, x, g => by
    have g1 : (ledS A w x).any (hold A R' s) = true := g
    show (ledS A w x).any (hold A R s) = true
    rw [List.any_eq_true] at g1 ⊢
    obtain ⟨e, he, g2⟩ := g1
    exact ⟨e, he, shrinks h (t := s) i s0 e g2⟩
/-! ### signs by the words' heads -/
def hds (t : Say) : List Str := t.words.map Say.hd
theorem hds_two (t x y : Say) (h : t.words = t :: (x.words ++ y.words)) : hds t = t.hd :: (hds x ++ hds y) := by
  unfold hds
  rw [h, List.map_cons, List.map_append]
theorem hds_one (t x : Say) (h : t.words = t :: x.words) : hds t = t.hd :: hds x := by
  unfold hds
  rw [h, List.map_cons]
theorem not_in : ∀ {t : Say}, Inw t → (("not" : Str) ∈ hds t ↔ (sgn t).1 = true)
  | .lt i, _ => by
    constructor
    · intro z
      exact absurd (List.mem_singleton.mp z) (show ¬ ("not" : Str) = "letter" by decide)
    · intro z
      cases z
  | .hr _, _ => by
    constructor
    · intro z
      exact absurd (List.mem_singleton.mp z) (show ¬ ("not" : Str) = "here" by decide)
    · intro z
      cases z
  | .yes, _ => by
    constructor
    · intro z
      exact absurd (List.mem_singleton.mp z) (show ¬ ("not" : Str) = "yes" by decide)
    · intro z
      cases z
  | .no, _ => by
    constructor
    · intro z
      exact absurd (List.mem_singleton.mp z) (show ¬ ("not" : Str) = "no" by decide)
    · intro z
      cases z
  | .nt s, _ => ⟨fun _ => rfl, fun _ => by rw [hds_one (.nt s) s rfl]; exact List.mem_cons_self⟩
  | .gv _ _, i => i.elim
  | .an x y, i => by
    rw [hds_two (.an x y) x y rfl, List.mem_cons, List.mem_append, not_in i.1, not_in i.2]
    show ("not" : Str) = "and" ∨ _ ↔ ((sgn y).1 || (sgn x).1) = true
    rw [Bool.or_eq_true]
    have n : ¬ ("not" : Str) = "and" := by decide
    constructor
    · rintro (z | z | z)
      · exact absurd z n
      · exact .inr z
      · exact .inl z
    · rintro (z | z)
      · exact .inr (.inr z)
      · exact .inr (.inl z)
  | .orr x y, i => by
    rw [hds_two (.orr x y) x y rfl, List.mem_cons, List.mem_append, not_in i.1, not_in i.2]
    show ("not" : Str) = "or" ∨ _ ↔ ((sgn y).1 || (sgn x).1) = true
    rw [Bool.or_eq_true]
    have n : ¬ ("not" : Str) = "or" := by decide
    constructor
    · rintro (z | z | z)
      · exact absurd z n
      · exact .inr z
      · exact .inl z
    · rintro (z | z)
      · exact .inr (.inr z)
      · exact .inr (.inl z)
  | .ea w s, i => by
    rw [hds_one (.ea w s) s rfl, List.mem_cons, not_in (t := s) i]
    show ("not" : Str) = "each" ∨ _ ↔ (sgn s).1 = true
    exact ⟨fun z => z.elim (fun q => absurd q (by decide)) id, .inr⟩
  | .so w s, i => by
    rw [hds_one (.so w s) s rfl, List.mem_cons, not_in (t := s) i]
    show ("not" : Str) = "some" ∨ _ ↔ (sgn s).1 = true
    exact ⟨fun z => z.elim (fun q => absurd q (by decide)) id, .inr⟩
end K0

namespace K0
open PySem PySem.Spec PyProof.Rows L2 W0 W1 W2 W5 W6 V0 V1 V4
theorem cnt_skip {k : Str} (l : List Str) (h1 : (k == ("not" : Str)) = false) (h2 : (k == ("letter" : Str)) = false) : (k :: l).count ("not" : Str) = l.count ("not" : Str) ∧ (k :: l).count ("letter" : Str) = l.count ("letter" : Str) := by
  rw [List.count_cons, List.count_cons, h1, h2]
  exact ⟨rfl, rfl⟩
theorem counts : ∀ {t : Say}, Inw t → (hds t).count ("not" : Str) ≤ (hds t).count ("letter" : Str) ∧ ((hds t).count ("not" : Str) = (hds t).count ("letter" : Str) ↔ (sgn t).2 = false)
  | .lt i, _ => by
    have e : hds (.lt i) = [("letter" : Str)] := rfl
    rw [e]
    refine ⟨by decide, ?_⟩
    show _ ↔ true = false
    exact ⟨fun z => absurd z (by decide), fun z => Bool.noConfusion z⟩
  | .hr j, _ => by
    have e : hds (.hr j) = [("here" : Str)] := rfl
    rw [e]
    exact ⟨by decide, fun _ => rfl, fun _ => by decide⟩
  | .yes, _ => by
    have e : hds .yes = [("yes" : Str)] := rfl
    rw [e]
    exact ⟨by decide, fun _ => rfl, fun _ => by decide⟩
  | .no, _ => by
    have e : hds .no = [("no" : Str)] := rfl
    rw [e]
    exact ⟨by decide, fun _ => rfl, fun _ => by decide⟩
  | .nt s, i => by
    obtain ⟨j, rfl⟩ := i
    have e : hds (.nt (.lt j)) = [("not" : Str), ("letter" : Str)] := rfl
    rw [e]
    exact ⟨by decide, fun _ => rfl, fun _ => by decide⟩
  | .gv _ _, i => i.elim
  | .an x y, i => by
    have h1 := counts i.1
    have h2 := counts i.2
    obtain ⟨c1, c2⟩ := cnt_skip (k := "and") (hds x ++ hds y) (by decide) (by decide)
    rw [hds_two (.an x y) x y rfl]
    show (("and" : Str) :: (hds x ++ hds y)).count ("not" : Str) ≤ (("and" : Str) :: (hds x ++ hds y)).count ("letter" : Str) ∧ ((("and" : Str) :: (hds x ++ hds y)).count ("not" : Str) = (("and" : Str) :: (hds x ++ hds y)).count ("letter" : Str) ↔ ((sgn y).2 || (sgn x).2) = false)
    rw [c1, c2, List.count_append, List.count_append, Bool.or_eq_false_iff, ← h1.2, ← h2.2]
    omega
  | .orr x y, i => by
    have h1 := counts i.1
    have h2 := counts i.2
    obtain ⟨c1, c2⟩ := cnt_skip (k := "or") (hds x ++ hds y) (by decide) (by decide)
    rw [hds_two (.orr x y) x y rfl]
    show (("or" : Str) :: (hds x ++ hds y)).count ("not" : Str) ≤ (("or" : Str) :: (hds x ++ hds y)).count ("letter" : Str) ∧ ((("or" : Str) :: (hds x ++ hds y)).count ("not" : Str) = (("or" : Str) :: (hds x ++ hds y)).count ("letter" : Str) ↔ ((sgn y).2 || (sgn x).2) = false)
    rw [c1, c2, List.count_append, List.count_append, Bool.or_eq_false_iff, ← h1.2, ← h2.2]
    omega
  | .ea w s, i => by
    have h1 := counts (t := s) i
    obtain ⟨c1, c2⟩ := cnt_skip (k := "each") (hds s) (by decide) (by decide)
    rw [hds_one (.ea w s) s rfl]
    show (("each" : Str) :: hds s).count ("not" : Str) ≤ (("each" : Str) :: hds s).count ("letter" : Str) ∧ ((("each" : Str) :: hds s).count ("not" : Str) = (("each" : Str) :: hds s).count ("letter" : Str) ↔ (sgn s).2 = false)
    rw [c1, c2]
    exact h1
  | .so w s, i => by
    have h1 := counts (t := s) i
    obtain ⟨c1, c2⟩ := cnt_skip (k := "some") (hds s) (by decide) (by decide)
    rw [hds_one (.so w s) s rfl]
    show (("some" : Str) :: hds s).count ("not" : Str) ≤ (("some" : Str) :: hds s).count ("letter" : Str) ∧ ((("some" : Str) :: hds s).count ("not" : Str) = (("some" : Str) :: hds s).count ("letter" : Str) ↔ (sgn s).2 = false)
    rw [c1, c2]
    exact h1
theorem pos_sgn {s : Say} (ok : s.Ok) : (!decide (("not" : Str) ∈ headsS s)) = !(sgn (turnS false s)).1 := by
  congr 1
  have h := not_in (turn_inw false ok)
  cases e : (sgn (turnS false s)).1 with
  | true => exact decide_eq_true (h.mpr e)
  | false => exact decide_eq_false fun z => by rw [h.mp z] at e; cases e
theorem neg_sgn {s : Say} (ok : s.Ok) : decide ((headsS s).count ("not" : Str) = (headsS s).count ("letter" : Str)) = !(sgn (turnS false s)).2 := by
  have h := (counts (turn_inw false ok)).2
  cases e : (sgn (turnS false s)).2 with
  | true => exact decide_eq_false fun z => by rw [h.mp z] at e; cases e
  | false => exact decide_eq_true (h.mpr e)
end K0

namespace K0
open PySem PySem.Spec PyProof.Rows L2 W0 W1 W2 W5 W6 V0 V1 V4
theorem words_pow : ∀ s : Say, s.words.length + 1 ≤ 2 ^ s.deep
  | .lt _ => (by decide : 1 + 1 ≤ 2 ^ 1)
  | .hr _ => (by decide : 1 + 1 ≤ 2 ^ 1)
  | .yes => (by decide : 1 + 1 ≤ 2 ^ 1)
  | .no => (by decide : 1 + 1 ≤ 2 ^ 1)
  | .nt s => by
    have := words_pow s
    show s.words.length + 1 + 1 ≤ 2 ^ (s.deep + 1)
    rw [Nat.pow_succ]
    omega
  | .ea _ s => by
    have := words_pow s
    show s.words.length + 1 + 1 ≤ 2 ^ (s.deep + 1)
    rw [Nat.pow_succ]
    omega
  | .so _ s => by
    have := words_pow s
    show s.words.length + 1 + 1 ≤ 2 ^ (s.deep + 1)
    rw [Nat.pow_succ]
    omega
  | .an a b => by
    have h1 := words_pow a
    have h2 := words_pow b
    have g1 := Nat.pow_le_pow_right (show 0 < 2 by decide) (Nat.le_max_left a.deep b.deep)
    have g2 := Nat.pow_le_pow_right (show 0 < 2 by decide) (Nat.le_max_right a.deep b.deep)
    show (a.words ++ b.words).length + 1 + 1 ≤ 2 ^ (max a.deep b.deep + 1)
    rw [Nat.pow_succ, List.length_append]
    omega
  | .orr a b => by
    have h1 := words_pow a
    have h2 := words_pow b
    have g1 := Nat.pow_le_pow_right (show 0 < 2 by decide) (Nat.le_max_left a.deep b.deep)
    have g2 := Nat.pow_le_pow_right (show 0 < 2 by decide) (Nat.le_max_right a.deep b.deep)
    show (a.words ++ b.words).length + 1 + 1 ≤ 2 ^ (max a.deep b.deep + 1)
    rw [Nat.pow_succ, List.length_append]
    omega
  | .gv a b => by
    have h1 := words_pow a
    have h2 := words_pow b
    have g1 := Nat.pow_le_pow_right (show 0 < 2 by decide) (Nat.le_max_left a.deep b.deep)
    have g2 := Nat.pow_le_pow_right (show 0 < 2 by decide) (Nat.le_max_right a.deep b.deep)
    show (a.words ++ b.words).length + 1 + 1 ≤ 2 ^ (max a.deep b.deep + 1)
    rw [Nat.pow_succ, List.length_append]
    omega
/-! ### data that can be shown -/
theorem fine_hd (s : Say) : Fine 0 6 (.str s.hd) := by
  cases s with
  | lt i => exact (show Fine 0 6 (.str "letter") from ⟨by decide +kernel, by decide +kernel, rfl, by decide +kernel, Nat.le_refl _, by decide +kernel⟩)
  | hr i => exact (show Fine 0 6 (.str "here") from ⟨by decide +kernel, by decide +kernel, rfl, by decide +kernel, Nat.le_refl _, by decide +kernel⟩)
  | yes => exact (show Fine 0 6 (.str "yes") from ⟨by decide +kernel, by decide +kernel, rfl, by decide +kernel, Nat.le_refl _, by decide +kernel⟩)
  | no => exact (show Fine 0 6 (.str "no") from ⟨by decide +kernel, by decide +kernel, rfl, by decide +kernel, Nat.le_refl _, by decide +kernel⟩)
  | nt a => exact (show Fine 0 6 (.str "not") from ⟨by decide +kernel, by decide +kernel, rfl, by decide +kernel, Nat.le_refl _, by decide +kernel⟩)
  | an a b => exact (show Fine 0 6 (.str "and") from ⟨by decide +kernel, by decide +kernel, rfl, by decide +kernel, Nat.le_refl _, by decide +kernel⟩)
  | orr a b => exact (show Fine 0 6 (.str "or") from ⟨by decide +kernel, by decide +kernel, rfl, by decide +kernel, Nat.le_refl _, by decide +kernel⟩)
  | gv a b => exact (show Fine 0 6 (.str "gives") from ⟨by decide +kernel, by decide +kernel, rfl, by decide +kernel, Nat.le_refl _, by decide +kernel⟩)
  | ea w a => exact (show Fine 0 6 (.str "each") from ⟨by decide +kernel, by decide +kernel, rfl, by decide +kernel, Nat.le_refl _, by decide +kernel⟩)
  | so w a => exact (show Fine 0 6 (.str "some") from ⟨by decide +kernel, by decide +kernel, rfl, by decide +kernel, Nat.le_refl _, by decide +kernel⟩)
theorem fine_say : ∀ (d : Nat) (s : Say), s.Ok → s.deep ≤ d → Fine d (10 * 4 ^ d) (dSay s)
  | 0, s, _, h => absurd (Say.deep_pos s) (by omega)
  | d + 1, s, ok, h => by
    have p1 : 1 ≤ 4 ^ d := Nat.one_le_pow _ _ (by decide)
    have l3 : (PyData.str s.hd :: (s.ex.map PyData.int ++ s.parts.map dSay)).length ≤ 3 := by cases s <;> simp [Say.ex, Say.parts]
    have f : Fine (d + 1) (3 * (10 * 4 ^ d + 1)) (.tuple (.str s.hd :: (s.ex.map PyData.int ++ s.parts.map dSay))) := by
      refine Fine.tup (k := d) (n := 10 * 4 ^ d) (m := 3) (fun e he => ?_) l3
      rcases List.mem_cons.mp he with rfl | he
      · exact (fine_hd s).mono (Nat.zero_le _) (by omega)
      rcases List.mem_append.mp he with he | he
      · obtain ⟨i, hi, rfl⟩ := List.mem_map.mp he
        refine (Fine.int ?_).mono (Nat.zero_le _) (Nat.zero_le _)
        cases s with
        | lt j =>
          have := List.mem_singleton.mp hi
          have h8 : j < 8 := ok
          omega
        | ea j a =>
          have := List.mem_singleton.mp hi
          have h8 : -3 ≤ j ∧ j ≤ 2 := ok.1
          omega
        | so j a =>
          have := List.mem_singleton.mp hi
          have h8 : -3 ≤ j ∧ j ≤ 2 := ok.1
          omega
        | hr j => exact (show False from ok).elim
        | _ => exact (List.not_mem_nil hi).elim
      · obtain ⟨t, ht, rfl⟩ := List.mem_map.mp he
        have := Say.deep_part ht
        exact fine_say d t (ok.part ht) (by omega)
    rw [dSay_eq]
    refine f.mono (Nat.le_refl _) ?_
    rw [Nat.pow_succ]
    omega
section
variable {P : Program} {w : World} {K : PySem.W.Frag} {mg : Str → Option Value} {base : Heap}
def sp_words_right (K : PySem.W.Frag) : Sp := fun vs H Q _ => ∃ (z u v : V) (s : Say), vs = [z, u, v] ∧ Dp K H z (dSay s) ∧ Dp K H u (dSay (turnS false s)) ∧ Dp K H v (dSay (turnS true s)) ∧ s.Ok ∧ s.deep ≤ 5 ∧ ∀ H', Same H H' → Q (.bl true) H'
theorem fine_says (l : List Say) (h : ∀ s ∈ l, s.Ok ∧ s.deep ≤ 6) (h3 : l.length ≤ 3) : Fine 20 (2 ^ 20) (.list (l.map dSay)) := by
  refine Fine.mono (Fine.lst (k := 6) (n := 10 * 4 ^ 6) (m := 3) (fun d hd => ?_) (by rw [List.length_map]; exact h3)) (by decide) (by decide)
  obtain ⟨s, hs, rfl⟩ := List.mem_map.mp hd
  exact fine_say 6 s (h s hs).1 (h s hs).2
theorem fine_two_bl (a b : Bool) : Fine 20 (2 ^ 20) (.list [.bool a, .bool b]) := by
  refine Fine.mono (Fine.lst (k := 0) (n := 0) (m := 2) (fun d hd => ?_) (Nat.le_refl _)) (by decide) (by decide)
  rcases List.mem_cons.mp hd with rfl | hd
  · exact Fine.bl a
  · rw [List.mem_singleton.mp hd]
    exact Fine.bl b
theorem ok__law_words_right (T : Tops K w mg) : FnG P w K mg base 48 T.a__law_words_right T.fd__law_words_right p__law_words_right (sp_words_right K) := by
  have S := sc__law_words_right
  refine of_body T.F__law_words_right S (fun vs H Q E h => ?_) (fun cdv AA outer s0 H vs Q E hgd hr h => ?_)
  · obtain ⟨z, u, v, s, rfl, _⟩ := h
    rfl
  · obtain ⟨z, u, v, s, rfl, dz, du, dv, ok, d5, q⟩ := h
    refine ⟨_, (pss_cons (ps_if (pt_not (pt_val (pe_callG (ok__law_like T) (hr.mono (by first | decide | omega)) hgd (by rfl) T.g__law_like T.F__law_like.kp T.b__law_like .nil pass0 (pa_cons (pe_lst (pa_cons (pe_call (ok_inward T) (hr.mono (by first | decide | omega)) (by rfl) T.g_inward T.F_inward.kp T.b_inward .nil pass0 (pa_cons (pv 0) pa_nil)) (pa_cons (pe_call (ok_turned_about T) (hr.mono (by first | decide | omega)) (by rfl) T.g_turned_about T.F_turned_about.kp T.b_turned_about .nil pass0 (pa_cons (pv 0) pa_nil)) pa_nil))) (pa_cons (pe_lst (pa_cons (pv 1) (pa_cons (pv 2) pa_nil))) pa_nil))))) (pss_one (ps_ret pe_bl)) pss_nil)
      (pss_cons (ps_if (pt_not (pt_val (pe_callG (ok__law_like T) (hr.mono (by first | decide | omega)) hgd (by rfl) T.g__law_like T.F__law_like.kp T.b__law_like .nil pass0 (pa_cons (pe_lst (pa_cons (pe_call (ok_turned_about T) (hr.mono (by first | decide | omega)) (by rfl) T.g_turned_about T.F_turned_about.kp T.b_turned_about .nil pass0 (pa_cons (pv 2) pa_nil)) (pa_cons (pe_call (ok_inward T) (hr.mono (by first | decide | omega)) (by rfl) T.g_inward T.F_inward.kp T.b_inward .nil pass0 (pa_cons (pv 1) pa_nil)) (pa_cons (pe_call (ok_inward T) (hr.mono (by first | decide | omega)) (by rfl) T.g_inward T.F_inward.kp T.b_inward .nil pass0 (pa_cons (pv 2) pa_nil)) pa_nil)))) (pa_cons (pe_lst (pa_cons (pv 1) (pa_cons (pv 1) (pa_cons (pv 2) pa_nil)))) pa_nil))))) (pss_one (ps_ret pe_bl)) pss_nil)
      (pss_cons (ps_set (i := 3) S.nd rfl (Or.inl rfl) (pe_call (ok__law_signs T 41) (hr.mono (by omega)) (by rfl) T.g__law_signs T.F__law_signs.kp T.b__law_signs .nil pass0 (pa_cons (pv 1) pa_nil)))
      (pss_cons (ps_if (pt_not (pt_val (pe_callG (ok__law_like T) (hr.mono (by first | decide | omega)) hgd (by rfl) T.g__law_like T.F__law_like.kp T.b__law_like .nil pass0 (pa_cons (pe_lst (pa_cons (pe_call (ok_is_positive T) (hr.mono (by first | decide | omega)) (by rfl) T.g_is_positive T.F_is_positive.kp T.b_is_positive .nil pass0 (pa_cons (pv 0) pa_nil)) (pa_cons (pe_call (ok_is_negative T) (hr.mono (by first | decide | omega)) (by rfl) T.g_is_negative T.F_is_negative.kp T.b_is_negative .nil pass0 (pa_cons (pv 0) pa_nil)) pa_nil))) (pa_cons (pe_lst (pa_cons (pe_not (pe_ix (ix_listK (K := K)) (pv 3) pe_int (fun _ _ => rfl))) (pa_cons (pe_not (pe_ix (ix_listK (K := K)) (pv 3) pe_int (fun _ _ => rfl))) pa_nil))) pa_nil))))) (pss_one (ps_ret pe_bl)) pss_nil)
      (pss_cons (ps_set (i := 3) S.nd rfl (Or.inl rfl) (pe_call (ok__law_signs T 41) (hr.mono (by omega)) (by rfl) T.g__law_signs T.F__law_signs.kp T.b__law_signs .nil pass0 (pa_cons (pv 2) pa_nil)))
      (pss_one (ps_ret (pe_callG (ok__law_like T) (hr.mono (by first | decide | omega)) hgd (by rfl) T.g__law_like T.F__law_like.kp T.b__law_like .nil pass0 (pa_cons (pe_lst (pa_cons (pe_call (ok_is_positive T) (hr.mono (by first | decide | omega)) (by rfl) T.g_is_positive T.F_is_positive.kp T.b_is_positive .nil pass0 (pa_cons (pv 2) pa_nil)) (pa_cons (pe_call (ok_is_negative T) (hr.mono (by first | decide | omega)) (by rfl) T.g_is_negative T.F_is_negative.kp T.b_is_negative .nil pass0 (pa_cons (pv 2) pa_nil)) pa_nil))) (pa_cons (pe_lst (pa_cons (pe_not (pe_ix (ix_listK (K := K)) (pv 3) pe_int (fun _ _ => rfl))) (pa_cons (pe_not (pe_ix (ix_listK (K := K)) (pv 3) pe_int (fun _ _ => rfl))) pa_nil))) pa_nil)))))))))), ?_⟩
    have w5 := words_pow s
    have p5 := Nat.pow_le_pow_right (show 0 < 2 by decide) d5
    have p32 : (2 : Nat) ^ 5 = 32 := rfl
    have okF := turn_ok false s ok
    have okT := turn_ok true s ok
    have dF := turn_deep false s
    have dT := turn_deep true s
    have wF := turn_words false s
    have wT := turn_words true s
    -- [inward(told), turned_about(told)]
    refine ⟨z, rfl, z, s, rfl, dz, ok, by omega, by omega, fun H1 v1 e1 d1 => ?_⟩
    refine ⟨z, rfl, z, s, rfl, dp_same e1 _ _ dz, ok, by omega, by omega, fun H2 v2 e2 d2 => ?_⟩
    refine ⟨by show 2 ≤ sizeLine; decide, fun G nG => ⟨u, rfl, v, rfl, by show 2 ≤ sizeLine; decide, fun G2 nG2 => ?_⟩⟩
    have l1 := dp_mkl (K := K) nG (.cons (dp_same e2 _ _ d1) (.cons d2 .nil))
    have e12 := (e1.trans e2).trans (same_new (o := .lst [v1, v2]) nG)
    have l2 := dp_mkl (K := K) nG2 (.cons (dp_same e12 _ _ du) (.cons (dp_same e12 _ _ dv) .nil))
    have e3 := same_new (o := .lst [u, v]) nG2
    refine ⟨G, G2, _, rfl, dp_same e3 _ _ l1, l2, fine_says [turnS false s, turnS true s] (fun t ht => ?_) (by simp), true, rfl, ?_⟩
    · rcases List.mem_cons.mp ht with rfl | ht
      · exact ⟨okF, by omega⟩
      · rw [List.mem_singleton.mp ht]
        exact ⟨okT, by omega⟩
    have eA := e12.trans e3
    replace dz := dp_same eA _ _ dz
    replace du := dp_same eA _ _ du
    replace dv := dp_same eA _ _ dv
    clear l1 l2 e3 d1 d2 e1 e2 e12
    generalize upd _ G2 _ = H3 at eA dz du dv
    -- [turned_about(about), inward(due), inward(about)]
    refine ⟨v, rfl, v, turnS true s, rfl, dv, okT, by omega, by omega, fun H4 v1 e1 d1 => ?_⟩
    refine ⟨u, rfl, u, turnS false s, rfl, dp_same e1 _ _ du, okF, by omega, by omega, fun H5 v2 e2 d2 => ?_⟩
    refine ⟨v, rfl, v, turnS true s, rfl, dp_same (e1.trans e2) _ _ dv, okT, by omega, by omega, fun H6 v3 e3 d3 => ?_⟩
    rw [turnS_turn] at d1 d2 d3
    refine ⟨by show 3 ≤ sizeLine; decide, fun G3 nG3 => ⟨u, rfl, u, rfl, v, rfl, by show 3 ≤ sizeLine; decide, fun G4 nG4 => ?_⟩⟩
    have l1 := dp_mkl (K := K) nG3 (.cons (dp_same (e2.trans e3) _ _ d1) (.cons (dp_same e3 _ _ d2) (.cons d3 .nil)))
    have e12 := ((e1.trans e2).trans e3).trans (same_new (o := .lst [v1, v2, v3]) nG3)
    have l2 := dp_mkl (K := K) nG4 (.cons (dp_same e12 _ _ du) (.cons (dp_same e12 _ _ du) (.cons (dp_same e12 _ _ dv) .nil)))
    have e4 := same_new (o := .lst [u, u, v]) nG4
    refine ⟨G3, G4, _, rfl, dp_same e4 _ _ l1, l2, fine_says [turnS false s, turnS false s, turnS true s] (fun t ht => ?_) (by simp), true, rfl, ?_⟩
    · rcases List.mem_cons.mp ht with rfl | ht
      · exact ⟨okF, by omega⟩
      rcases List.mem_cons.mp ht with rfl | ht
      · exact ⟨okF, by omega⟩
      · rw [List.mem_singleton.mp ht]
        exact ⟨okT, by omega⟩
    have eB := e12.trans e4
    replace dz := dp_same eB _ _ dz
    replace du := dp_same eB _ _ du
    replace dv := dp_same eB _ _ dv
    have eC := eA.trans eB
    clear l1 l2 e4 d1 d2 d3 e1 e2 e3 e12 eA eB
    generalize upd _ G4 _ = H7 at eC dz du dv
    -- signs of due
    refine ⟨u, rfl, u, turnS false s, rfl, du, okF, by omega, fun H8 p e8 hp => ?_⟩
    refine ⟨z, rfl, z, s, rfl, dp_same e8 _ _ dz, ok, by omega, by omega, fun H9 e9 => ?_⟩
    refine ⟨z, rfl, z, s, rfl, dp_same (e8.trans e9) _ _ dz, ok, by omega, by omega, fun H10 e10 => ?_⟩
    rw [pos_sgn ok, neg_sgn ok]
    refine ⟨by show 2 ≤ sizeLine; decide, fun G5 nG5 => ?_⟩
    have l1 := dp_mkl (K := K) nG5 (.cons (.bl (!(sgn (turnS false s)).1)) (.cons (.bl (!(sgn (turnS false s)).2)) .nil))
    have e11 := (e9.trans e10).trans (same_new (o := .lst [.bl (!(sgn (turnS false s)).1), .bl (!(sgn (turnS false s)).2)]) nG5)
    refine ⟨.ref p, rfl, p, _, 0, .bl (sgn (turnS false s)).1, rfl, rfl, SqL.of (e11 _ _ hp), atI_nat (j := 0) rfl, _, rfl, .ref p, rfl, p, _, 1, .bl (sgn (turnS false s)).2, rfl, rfl, SqL.of (e11 _ _ hp), atI_nat (j := 1) rfl, _, rfl, by show 2 ≤ sizeLine; decide, fun G6 nG6 => ?_⟩
    have l2 := dp_mkl (K := K) nG6 (.cons (.bl (!(sgn (turnS false s)).1)) (.cons (.bl (!(sgn (turnS false s)).2)) .nil))
    have e13 := same_new (o := .lst [.bl (!(sgn (turnS false s)).1), .bl (!(sgn (turnS false s)).2)]) nG6
    refine ⟨G5, G6, _, rfl, dp_same e13 _ _ l1, l2, fine_two_bl _ _, true, rfl, ?_⟩
    have eD := e8.trans (e11.trans e13)
    replace dv := dp_same eD _ _ dv
    have eE := eC.trans eD
    clear l1 l2 e8 e9 e10 e11 e13 eC eD hp dz du
    generalize upd _ G6 _ = H11 at eE dv
    -- signs of about
    have st : sgn (turnS false (turnS true s)) = sgn (turnS true s) := by rw [turnS_turn]; rfl
    refine ⟨v, rfl, v, turnS true s, rfl, dv, okT, by omega, fun H12 p e8 hp => ?_⟩
    refine ⟨v, rfl, v, turnS true s, rfl, dp_same e8 _ _ dv, okT, by omega, by omega, fun H13 e9 => ?_⟩
    refine ⟨v, rfl, v, turnS true s, rfl, dp_same (e8.trans e9) _ _ dv, okT, by omega, by omega, fun H14 e10 => ?_⟩
    rw [pos_sgn okT, neg_sgn okT, st]
    refine ⟨by show 2 ≤ sizeLine; decide, fun G7 nG7 => ?_⟩
    have l1 := dp_mkl (K := K) nG7 (.cons (.bl (!(sgn (turnS true s)).1)) (.cons (.bl (!(sgn (turnS true s)).2)) .nil))
    have e11 := (e9.trans e10).trans (same_new (o := .lst [.bl (!(sgn (turnS true s)).1), .bl (!(sgn (turnS true s)).2)]) nG7)
    refine ⟨.ref p, rfl, p, _, 0, .bl (sgn (turnS true s)).1, rfl, rfl, SqL.of (e11 _ _ hp), atI_nat (j := 0) rfl, _, rfl, .ref p, rfl, p, _, 1, .bl (sgn (turnS true s)).2, rfl, rfl, SqL.of (e11 _ _ hp), atI_nat (j := 1) rfl, _, rfl, by show 2 ≤ sizeLine; decide, fun G8 nG8 => ?_⟩
    have l2 := dp_mkl (K := K) nG8 (.cons (.bl (!(sgn (turnS true s)).1)) (.cons (.bl (!(sgn (turnS true s)).2)) .nil))
    have e13 := same_new (o := .lst [.bl (!(sgn (turnS true s)).1), .bl (!(sgn (turnS true s)).2)]) nG8
    exact ⟨G7, G8, _, rfl, dp_same e13 _ _ l1, l2, fine_two_bl _ _, q _ (eE.trans (e8.trans (e11.trans e13)))⟩
end
end K0

namespace K0
open PySem PySem.Spec PyProof.Rows L2 W0 W1 W2 W5 W6 V0 V1 V4 V5
/-! ### the rows are all ascending ones -/
theorem rowsL_row : ∀ (k : Nat) (r : List Int), r ∈ rowsL k → Row (k : Int) r
  | 0, r, h => by
    rw [List.mem_singleton.mp h]
    exact ⟨fun x z => (List.not_mem_nil z).elim, List.Pairwise.nil⟩
  | k + 1, r, h => by
    rcases List.mem_append.mp h with h | h
    · have := rowsL_row k r h
      exact ⟨fun x z => by have := this.all x z; omega, this.asc⟩
    · obtain ⟨t, ht, rfl⟩ := List.mem_map.mp h
      have := rowsL_row k t ht
      refine ⟨fun x z => ?_, List.pairwise_append.mpr ⟨this.asc, List.pairwise_singleton _ _, fun a ha b hb => ?_⟩⟩
      · rcases List.mem_append.mp z with z | z
        · have := this.all x z
          omega
        · rw [List.mem_singleton.mp z]
          omega
      · rw [List.mem_singleton.mp hb]
        exact (this.all a ha).2
theorem row_rowsL : ∀ (k : Nat) (r : List Int), Row (k : Int) r → r ∈ rowsL k
  | 0, r, h => by
    cases r with
    | nil => exact List.mem_singleton.mpr rfl
    | cons x r =>
      have := h.all x List.mem_cons_self
      omega
  | k + 1, r, h => by
    show r ∈ rowsL k ++ (rowsL k).map (· ++ [(k : Int)])
    rcases List.eq_nil_or_concat r with rfl | ⟨t, x, rfl⟩
    · exact List.mem_append.mpr (.inl (row_rowsL k [] ⟨fun x z => (List.not_mem_nil z).elim, List.Pairwise.nil⟩))
    · rw [List.concat_eq_append] at h ⊢
      obtain ⟨pt, _, pl⟩ := List.pairwise_append.mp h.asc
      have hx := h.all x (List.mem_append.mpr (.inr List.mem_cons_self))
      have below : ∀ a ∈ t, a < x := fun a ha => pl a ha x List.mem_cons_self
      by_cases e : x = k
      · subst e
        refine List.mem_append.mpr (.inr (List.mem_map.mpr ⟨t, row_rowsL k t ⟨fun a ha => ?_, pt⟩, rfl⟩))
        have h1 := h.all a (List.mem_append.mpr (.inl ha))
        exact ⟨h1.1, below a ha⟩
      · refine List.mem_append.mpr (.inl (row_rowsL k _ ⟨fun a ha => ?_, h.asc⟩))
        have h1 := h.all a ha
        rcases List.mem_append.mp ha with ha | ha
        · have := below a ha
          omega
        · have := List.mem_singleton.mp ha
          omega
theorem rowsL_nodup : ∀ k, (rowsL k).Nodup
  | 0 => List.nodup_cons.mpr ⟨List.not_mem_nil, List.nodup_nil⟩
  | k + 1 => by
    show (rowsL k ++ (rowsL k).map (· ++ [(k : Int)])).Nodup
    refine List.nodup_append.mpr ⟨rowsL_nodup k, ?_, fun a ha b hb e => ?_⟩
    · exact List.pairwise_map.mpr (List.Pairwise.imp (fun {a b} ne e => ne (List.append_cancel_right e)) (rowsL_nodup k))
    · subst e
      obtain ⟨t, _, rfl⟩ := List.mem_map.mp hb
      have := (rowsL_row k _ ha).all (k : Int) (List.mem_append.mpr (.inr List.mem_cons_self))
      omega
theorem rows_small {n : Nat} (h : n ≤ 2) : (rowsL n).length ≤ 4 := by
  rw [rowsL_len]
  have := Nat.pow_le_pow_right (show 0 < 2 by decide) h
  exact this
theorem row_more {n : Nat} {r : List Int} {x : Int} {ns : List Int} (h : r ∈ rowsL n) (hx : 0 ≤ x ∧ x < n) (asc : ns.Pairwise (· < ·)) (mem : ∀ k : Int, k ∈ ns ↔ k ∈ r ++ [x]) : ns ∈ rowsL n := by
  refine row_rowsL n ns ⟨fun a ha => ?_, asc⟩
  rcases List.mem_append.mp ((mem a).mp ha) with z | z
  · exact (rowsL_row n r h).all a z
  · rw [List.mem_singleton.mp z]
    exact hx
/-- one world more -/
def more_in (a b c d : List Int) : Prop := (∀ x ∈ a, x ∈ c) ∧ ∀ x ∈ b, x ∈ d
theorem marks_more {a b c d : List Int} (h : more_in a b c d) : ∀ i x, x ∈ markR [a, b] i → x ∈ markR [c, d] i := by
  intro i x z
  match i with
  | 0 => exact h.1 x z
  | 1 => exact h.2 x z
  | i + 2 => exact (List.not_mem_nil z).elim
theorem mem_heldL {n : Nat} {f : Int → Bool} {x : Int} : x ∈ heldL n f ↔ (0 ≤ x ∧ x < n) ∧ f x = true := by
  unfold heldL
  rw [List.mem_map]
  constructor
  · rintro ⟨y, hy, rfl⟩
    obtain ⟨h1, h2⟩ := List.mem_filter.mp hy
    have := List.mem_range.mp h1
    exact ⟨⟨by omega, by omega⟩, by simpa using h2⟩
  · rintro ⟨⟨h0, h1⟩, h2⟩
    refine ⟨x.toNat, List.mem_filter.mpr ⟨List.mem_range.mpr (by omega), ?_⟩, by omega⟩
    rw [Int.toNat_of_nonneg h0]
    simpa using h2
theorem held_same {n : Nat} {f g : Int → Bool} (h : ∀ x, f x = g x) : heldL n f = heldL n g := by rw [funext h]
theorem turn_hold {A : List T3} {R : Nat → List Int} {s : Say} : hold A R (turnS false s) = hold A R s := funext fun x => by rw [hold_turn]; cases hold A R s x <;> rfl
/-- no not: nothing is lost; no bare letter: nothing is gained -/
theorem none_lost {A : List T3} {n : Nat} {s : Say} {a b c d : List Int} (ok : s.Ok) (h : more_in a b c d) (g : (sgn (turnS false s)).1 = false) : ∀ x ∈ heldL n (hold A (markR [a, b]) s), x ∈ heldL n (hold A (markR [c, d]) s) := by
  intro x hx
  rw [mem_heldL] at hx ⊢
  refine ⟨hx.1, ?_⟩
  have h2 := hx.2
  rw [← turn_hold (s := s)] at h2 ⊢
  exact grows (marks_more h) (turn_inw false ok) g x h2
theorem none_gained {A : List T3} {n : Nat} {s : Say} {a b c d : List Int} (ok : s.Ok) (h : more_in a b c d) (g : (sgn (turnS false s)).2 = false) : ∀ x ∈ heldL n (hold A (markR [c, d]) s), x ∈ heldL n (hold A (markR [a, b]) s) := by
  intro x hx
  rw [mem_heldL] at hx ⊢
  refine ⟨hx.1, ?_⟩
  have h2 := hx.2
  rw [← turn_hold (s := s)] at h2 ⊢
  exact shrinks (marks_more h) (turn_inw false ok) g x h2
theorem inV_ints (x : Int) : ∀ l : List Int, L2.inV (V.int x) (l.map V.int) = decide (x ∈ l)
  | [] => rfl
  | y :: l => by
    have ih := inV_ints x l
    show (L2.eqV (.int y) (.int x) || L2.inV (V.int x) (l.map V.int)) = _
    rw [ih]
    show (decide (y = x) || decide (x ∈ l)) = decide (x ∈ y :: l)
    by_cases e : y = x
    · subst e
      rw [decide_eq_true rfl, Bool.true_or, decide_eq_true List.mem_cons_self]
    · rw [decide_eq_false e, Bool.false_or]
      by_cases m : x ∈ l
      · rw [decide_eq_true m, decide_eq_true (List.mem_cons_of_mem _ m)]
      · rw [decide_eq_false m, decide_eq_false fun z => (List.mem_cons.mp z).elim (fun q => e q.symm) m]
theorem flat_ints : ∀ l : List Int, (l.map V.int).all flatV = true
  | [] => rfl
  | x :: l => by
    rw [List.map_cons, List.all_cons, flat_ints l]
    rfl
/-! ### the table -/
structure Tab (P : Program) (w : World) (K : PySem.W.Frag) (H : Hp) (t : Addr) (n : Nat) (A : List T3) (s : Say) (i j : Nat) (kvs : List Ent) : Prop where
  keys : Keys2 K H kvs
  vals : ∀ e ∈ kvs, ∃ g, e.2.2 = .ref g ∧ H g = some (.lst ((heldL n (hold A (markR [e.1.1, e.1.2]) s)).map V.int))
  inn : ∀ e ∈ kvs, ∃ i' j', (rowsL n)[i']? = some e.1.1 ∧ (rowsL n)[j']? = some e.1.2 ∧ (i' < i ∨ (i' = i ∧ j' < j))
  cov : ∀ i' j' a b, (rowsL n)[i']? = some a → (rowsL n)[j']? = some b → (i' < i ∨ (i' = i ∧ j' < j)) → ∃ c v, ((a, b), c, v) ∈ kvs
  len : kvs.length ≤ i * 4 + j
section
variable {P : Program} {w : World} {K : PySem.W.Frag} {H H' : Hp} {t : Addr} {n : Nat} {A : List T3} {s : Say} {i j : Nat} {kvs : List Ent}
theorem Tab.same (T : Tab P w K H t n A s i j kvs) (e : Same H H') : Tab P w K H' t n A s i j kvs :=
  ⟨fun x hx => dp_same e _ _ (T.keys x hx), fun x hx => let ⟨g, h1, h2⟩ := T.vals x hx; ⟨g, h1, e _ _ h2⟩, T.inn, T.cov, T.len⟩
theorem noL_dInts (l : List Int) : noL (dInts l) = true := noLs_of fun d m => by
  obtain ⟨i, _, rfl⟩ := List.mem_map.mp m
  rfl
theorem noL_dK2 (k : PK) : noL (dK2 k) = true := by
  have h1 := noL_dInts k.1
  have h2 := noL_dInts k.2
  show (noL (dInts k.1) && (noL (dInts k.2) && true)) = true
  rw [h1, h2]
  rfl
/-- all but the thing at t stays -/
theorem tup_off {o u : HO} (ht : H t = some o) (no : ∀ xs, o ≠ .tup xs) (no2 : ∀ b xs, o ≠ .frz b (.tup xs)) {p : Addr} {xs : List V} (h : SqT K H p xs) : SqT K (upd H t u) p xs := by
  rcases h with (h | ⟨b, h⟩) | h
  · refine .inl (.inl ?_)
    rw [upd_ne (ne_of h ht (fun z => no xs z.symm))]
    exact h
  · refine .inl (.inr ⟨b, ?_⟩)
    rw [upd_ne (ne_of h ht (fun z => no2 b xs z.symm))]
    exact h
  · exact .inr h
theorem Tab.moved {o u : HO} (T : Tab P w K H t n A s i j kvs) (ht : H t = some o) (no : ∀ xs, o ≠ .tup xs) (no2 : ∀ b xs, o ≠ .frz b (.tup xs)) (no3 : ∀ xs, o ≠ .lst xs) : Tab P w K (upd H t u) t n A s i j kvs :=
  ⟨fun x hx => dp_mv (fun _ _ q => tup_off ht no no2 q) _ _ (noL_dK2 _) (T.keys x hx), fun x hx => let ⟨g, h1, h2⟩ := T.vals x hx; ⟨g, h1, by rw [upd_ne (ne_of h2 ht (fun z => no3 _ z.symm))]; exact h2⟩, T.inn, T.cov, T.len⟩
theorem Tab.fresh (T : Tab P w K H t n A s i j kvs) {a b : List Int} (ha : (rowsL n)[i]? = some a) (hb : (rowsL n)[j]? = some b) : ∀ e ∈ kvs, e.1 ≠ (a, b) := by
  intro e he z
  obtain ⟨i', j', h1, h2, h3⟩ := T.inn e he
  have e1 : e.1.1 = a := by rw [z]
  have e2 : e.1.2 = b := by rw [z]
  rw [e1] at h1
  rw [e2] at h2
  have i1 : i' = i := (List.getElem?_inj (List.getElem?_eq_some_iff.mp h1).1 (rowsL_nodup n)).mp (h1.trans ha.symm)
  have j1 : j' = j := (List.getElem?_inj (List.getElem?_eq_some_iff.mp h2).1 (rowsL_nodup n)).mp (h2.trans hb.symm)
  omega
theorem Tab.put (T : Tab P w K H t n A s i j kvs) {a b : List Int} {c g : Addr} (ha : (rowsL n)[i]? = some a) (hb : (rowsL n)[j]? = some b) (dc : Dp K H (.ref c) (dK2 (a, b))) (hg : H g = some (.lst ((heldL n (hold A (markR [a, b]) s)).map V.int))) :
    Tab P w K H t n A s i (j + 1) (kvs ++ [((a, b), c, .ref g)]) := by
  refine ⟨fun e he => ?_, fun e he => ?_, fun e he => ?_, fun i' j' x y hx hy hij => ?_, ?_⟩
  · rcases List.mem_append.mp he with he | he
    · exact T.keys e he
    · rw [List.mem_singleton.mp he]
      exact dc
  · rcases List.mem_append.mp he with he | he
    · exact T.vals e he
    · rw [List.mem_singleton.mp he]
      exact ⟨g, rfl, hg⟩
  · rcases List.mem_append.mp he with he | he
    · obtain ⟨i', j', h1, h2, h3⟩ := T.inn e he
      exact ⟨i', j', h1, h2, by omega⟩
    · rw [List.mem_singleton.mp he]
      exact ⟨i, j, ha, hb, .inr ⟨rfl, Nat.lt_succ_self j⟩⟩
  · by_cases z : i' = i ∧ j' = j
    · obtain ⟨rfl, rfl⟩ := z
      rw [ha] at hx
      rw [hb] at hy
      cases hx
      cases hy
      exact ⟨c, .ref g, List.mem_append.mpr (.inr List.mem_cons_self)⟩
    · obtain ⟨c', v', m⟩ := T.cov i' j' x y hx hy (by omega)
      exact ⟨c', v', List.mem_append.mpr (.inl m)⟩
  · rw [List.length_append]
    have := T.len
    show kvs.length + 1 ≤ _
    omega
theorem Tab.next (T : Tab P w K H t n A s i (rowsL n).length kvs) (n2 : n ≤ 2) : Tab P w K H t n A s (i + 1) 0 kvs := by
  have r4 := rows_small n2
  refine ⟨T.keys, T.vals, fun e he => ?_, fun i' j' x y hx hy hij => ?_, ?_⟩
  · obtain ⟨i', j', h1, h2, h3⟩ := T.inn e he
    exact ⟨i', j', h1, h2, by omega⟩
  · have := (List.getElem?_eq_some_iff.mp hy).1
    exact T.cov i' j' x y hx hy (by omega)
  · have := T.len
    omega
/-- the whole table -/
structure Tall (K : PySem.W.Frag) (H : Hp) (n : Nat) (A : List T3) (s : Say) (kvs : List Ent) : Prop where
  keys : Keys2 K H kvs
  vals : ∀ e ∈ kvs, ∃ g, e.2.2 = .ref g ∧ H g = some (.lst ((heldL n (hold A (markR [e.1.1, e.1.2]) s)).map V.int))
  inn : ∀ e ∈ kvs, e.1.1 ∈ rowsL n ∧ e.1.2 ∈ rowsL n
  cov : ∀ a b, a ∈ rowsL n → b ∈ rowsL n → ∃ c v, ((a, b), c, v) ∈ kvs
theorem Tab.all (T : Tab P w K H t n A s (rowsL n).length 0 kvs) : Tall K H n A s kvs := by
  refine ⟨T.keys, T.vals, fun e he => ?_, fun a b ha hb => ?_⟩
  · obtain ⟨i', j', h1, h2, h3⟩ := T.inn e he
    exact ⟨List.mem_of_getElem? h1, List.mem_of_getElem? h2⟩
  · obtain ⟨i', hi, ei⟩ := List.getElem_of_mem ha
    obtain ⟨j', hj, ej⟩ := List.getElem_of_mem hb
    exact T.cov i' j' a b (by rw [List.getElem?_eq_getElem hi, ei]) (by rw [List.getElem?_eq_getElem hj, ej]) (.inl hi)
theorem Tall.same (T : Tall K H n A s kvs) (e : Same H H') : Tall K H' n A s kvs :=
  ⟨fun x hx => dp_same e _ _ (T.keys x hx), fun x hx => let ⟨g, h1, h2⟩ := T.vals x hx; ⟨g, h1, e _ _ h2⟩, T.inn, T.cov⟩
theorem Tall.get (T : Tall K H n A s kvs) {a b : List Int} (ha : a ∈ rowsL n) (hb : b ∈ rowsL n) : ∃ c g, ((a, b), c, V.ref g) ∈ kvs ∧ H g = some (.lst ((heldL n (hold A (markR [a, b]) s)).map V.int)) := by
  obtain ⟨c, v, m⟩ := T.cov a b ha hb
  obtain ⟨g, e, hg⟩ := T.vals _ m
  have e' : v = .ref g := e
  subst e'
  exact ⟨c, g, m, hg⟩
end
end K0

namespace K0
open PySem PySem.Spec PyProof.Rows L2 W0 W1 W2 W5 W6 V0 V1 V4 V5
theorem hn_lst {P : Program} {w : World} {t : Addr} {kvs : List Ent} : ∀ xs, HN P w t kvs ≠ .lst xs := fun xs z => by cases z
theorem hn_tup {P : Program} {w : World} {t : Addr} {kvs : List Ent} : ∀ xs, HN P w t kvs ≠ .tup xs := fun xs z => by cases z
theorem hn_frz {P : Program} {w : World} {t : Addr} {kvs : List Ent} : ∀ b xs, HN P w t kvs ≠ .frz b (.tup xs) := fun b xs z => by cases z
theorem eqv_ints (L : List Int) : PyData.eqv (.list (L.map PyData.int)) (.list (L.map PyData.int)) = true := SeqAt.eqv_refl _ (by
  have h := shaped_ints L
  unfold SeqAt.shaped at h
  exact ((Bool.and_eq_true _ _).mp h).1)
structure Ph (P : Program) (w : World) (K : PySem.W.Frag) (H H' : Hp) (sg wl rw_ t : Addr) (n : Nat) (xs : List V) (sn : Bool × Bool) (kvs : List Ent) : Prop where
  same : Same H H'
  sg : H' sg = some (.lst [.bl sn.1, .bl sn.2])
  wl : H' wl = some (.lst (rgV 0 n))
  rw_ : H' rw_ = some (.lst xs)
  dx : DpAll K H' xs ((rowsL n).map dInts)
  t : H' t = some (HN P w t kvs)
theorem Ph.go {P : Program} {w : World} {K : PySem.W.Frag} {H H' H'' : Hp} {sg wl rw_ t : Addr} {n : Nat} {xs : List V} {sn : Bool × Bool} {kvs : List Ent} (p : Ph P w K H H' sg wl rw_ t n xs sn kvs) (e : Same H' H'') : Ph P w K H H'' sg wl rw_ t n xs sn kvs :=
  ⟨p.same.trans e, e _ _ p.sg, e _ _ p.wl, e _ _ p.rw_, dps_same e _ _ p.dx, e _ _ p.t⟩
theorem Ph.put {P : Program} {w : World} {K : PySem.W.Frag} {H H' : Hp} {sg wl rw_ t : Addr} {n : Nat} {xs : List V} {sn : Bool × Bool} {kvs kvs' : List Ent} (p : Ph P w K H H' sg wl rw_ t n xs sn kvs) (nt : H t = none) : Ph P w K H (upd H' t (HN P w t kvs')) sg wl rw_ t n xs sn kvs' := by
  refine ⟨same_upd_new p.same nt, ?_, ?_, ?_, ?_, upd_same⟩
  · rw [upd_ne (ne_of p.sg p.t (fun z => hn_lst _ z.symm))]
    exact p.sg
  · rw [upd_ne (ne_of p.wl p.t (fun z => hn_lst _ z.symm))]
    exact p.wl
  · rw [upd_ne (ne_of p.rw_ p.t (fun z => hn_lst _ z.symm))]
    exact p.rw_
  · exact dps_mv (fun _ _ q => tup_off p.t hn_tup hn_frz q) _ _ (noLs_rows _) p.dx
section
variable {P : Program} {w : World} {K : PySem.W.Frag} {mg : Str → Option Value} {base : Heap}
def sp_all_markings (K : PySem.W.Frag) : Sp := fun vs H Q _ => ∃ (v z u y : V) (n : Nat) (A : List T3) (s : Say), vs = [v, z, u, y] ∧ Dp K H v (dWeb n A) ∧ WOk n A ∧ n ≤ 2 ∧ Dp K H z (dSay s) ∧ Dp K H u (dSay (turnS false s)) ∧ Dp K H y (dSay (turnS true s)) ∧ s.Ok ∧ s.deep ≤ 5 ∧ ∀ H', Same H H' → Q (.bl true) H'
set_option maxHeartbeats 2000000 in
theorem ok__law_all_markings (T : Tops K w mg) : FnOk P w K mg base CX0 45 T.a__law_all_markings T.fd__law_all_markings p__law_all_markings (sp_all_markings K) := by
  have S := sc__law_all_markings
  refine T.F__law_all_markings.ok S (fun vs H Q E h => ?_) (fun cdv AA outer s0 H vs Q E hr h => ?_)
  · obtain ⟨v, z, u, y, n, A, s, rfl, _⟩ := h
    rfl
  · obtain ⟨v, z, u, y, n, A, s, rfl, hd, wok, n2, dz, du, dy, ok, d5, q⟩ := h
    refine ⟨_, (pss_cons (ps_par (i := 4) (j := 5) rfl S.nd rfl rfl (by decide) rfl rfl (pa_cons (pe_ix (ix_tupK (K := K)) (pv 0) pe_int (fun _ _ => rfl)) (pa_cons (pe_call (ok__law_signs T 41) (hr.mono (by omega)) (by rfl) T.g__law_signs T.F__law_signs.kp T.b__law_signs .nil pass0 (pa_cons (pv 2) pa_nil)) pa_nil)) (by rfl))
      (pss_cons (ps_asg (pe_tup (pa_cons (pe_listRg rfl (by rfl) T.m_list (prg_1 (by rfl) T.m_range (pv 4))) (pa_cons (pe_call (ok__law_rows_of T) (hr.mono (by first | decide | omega)) (by rfl) T.g__law_rows_of T.F__law_rows_of.kp T.b__law_rows_of .nil pass0 (pa_cons (pv 4) pa_nil)) (pa_cons (V5.pe_nnew (P := P) (w := w)) pa_nil)))) (pg_tupK (K := K) (n := 3) rfl (pgs_cons (pg_name (i := 6) S.nd rfl (Or.inl rfl)) (pgs_cons (pg_name (i := 7) S.nd rfl (Or.inl rfl)) (pgs_cons (pg_name (i := 8) S.nd rfl (Or.inr rfl)) pgs_nil)))))
      (pss_cons (ps_for PassesOwn.never rfl (pi_list (pv 7)) (pg_name (i := 9) S.nd rfl (Or.inr rfl)) (pss_one (ps_for PassesOwn.never rfl (pi_list (pv 7)) (pg_name (i := 10) S.nd rfl (Or.inr rfl)) (pss_cons (ps_set (i := 12) S.nd rfl (Or.inr rfl) (pe_callTy call_list_of (by rfl) T.m_list (by decide +kernel) (pa_cons (pe_call (ok_holding T) (hr.mono (by first | decide | omega)) (by rfl) T.g_holding T.F_holding.kp T.b_holding .nil pass0 (pa_cons (pv 0) (pa_cons (pe_tup (pa_cons (pv 9) (pa_cons (pv 10) pa_nil))) (pa_cons (pv 1) pa_nil)))) pa_nil)))
      (pss_cons (V5.ps_nput (P := P) (w := w) (K := K) (Nat.lt_of_le_of_lt (Nat.add_le_add_left (by decide : 9 ≤ 64) _) hr.units) (pv 8) (pe_tup (pa_cons (pv 9) (pa_cons (pv 10) pa_nil))) (pv 12) rfl)
      (pss_cons (ps_if (pt_cmpR (op_neD hr.units) (pe_callTy call_list_of (by rfl) T.m_list (by decide +kernel) (pa_cons (pe_call (ok_holding T) (hr.mono (by first | decide | omega)) (by rfl) T.g_holding T.F_holding.kp T.b_holding .nil pass0 (pa_cons (pv 0) (pa_cons (pe_tup (pa_cons (pv 9) (pa_cons (pv 10) pa_nil))) (pa_cons (pv 2) pa_nil)))) pa_nil)) (pv 12) (nomark _)) (pss_one (ps_ret pe_bl)) pss_nil)
      (pss_one (ps_if (pt_cmpR (op_neD hr.units) (pe_callTy call_list_of (by rfl) T.m_list (by decide +kernel) (pa_cons (pe_call (ok_holding T) (hr.mono (by first | decide | omega)) (by rfl) T.g_holding T.F_holding.kp T.b_holding .nil pass0 (pa_cons (pv 0) (pa_cons (pe_tup (pa_cons (pv 9) (pa_cons (pv 10) pa_nil))) (pa_cons (pv 3) pa_nil)))) pa_nil)) (pe_lc (own := [("spot", 11)]) rfl S.nd (pi_list (pv 6)) (blkOk_by (N := n__law_all_markings) (sc := defScope s__law_all_markings) (by decide +kernel)) (fun _ _ _ _ _ => (pg_name (i := 11) S.nd rfl (Or.inl rfl))) (fun _ _ _ _ _ => (pts_one (pt_cmpR (V5.op_notInK (K := K)) (pv 11) (pv 12) (by rfl)))) (fun _ _ _ _ _ => (pv 11))) (nomark _)) (pss_one (ps_ret pe_bl)) pss_nil))))))))
      (pss_cons (ps_lock (ps_for PassesOwn.never rfl (V5.pi_keysN (P := P) (w := w) (pv 8)) (pg_tupK (K := K) (n := 2) rfl (pgs_cons (pg_name (i := 9) S.nd rfl (Or.inr rfl)) (pgs_cons (pg_name (i := 10) S.nd rfl (Or.inr rfl)) pgs_nil))) (pss_one (ps_for PassesOwn.never rfl (pi_list (pv 6)) (pg_name (i := 11) S.nd rfl (Or.inl rfl)) (pss_one (ps_for PassesOwn.never rfl (pi_tup (pe_tup (pa_cons (pe_tup (pa_cons (pe_callTy (call_tupleK (K := K)) (by rfl) T.m_tuple (by decide +kernel) (pa_cons (pe_callB (W5.cr_sortedNK (w := w) rfl) (by rfl) T.m_sorted (by decide +kernel) (pa_cons (pe_callTy (W5.cr_setNK (K := K) (w := w) rfl) (by rfl) T.m_set (by decide +kernel) (pa_cons (pe_op (op_catK (K := K)) (pv 9) (pe_tup (pa_cons (pv 11) pa_nil))) pa_nil)) pa_nil)) pa_nil)) (pa_cons (pv 10) pa_nil))) (pa_cons (pe_tup (pa_cons (pv 9) (pa_cons (pe_callTy (call_tupleK (K := K)) (by rfl) T.m_tuple (by decide +kernel) (pa_cons (pe_callB (W5.cr_sortedNK (w := w) rfl) (by rfl) T.m_sorted (by decide +kernel) (pa_cons (pe_callTy (W5.cr_setNK (K := K) (w := w) rfl) (by rfl) T.m_set (by decide +kernel) (pa_cons (pe_op (op_catK (K := K)) (pv 10) (pe_tup (pa_cons (pv 11) pa_nil))) pa_nil)) pa_nil)) pa_nil)) pa_nil))) pa_nil)))) (pg_name (i := 13) S.nd rfl (Or.inr rfl)) (pss_cons (ps_setLc (i := 14) (own := [("there", 16)]) rfl S.nd rfl rfl (sw_true rfl rfl rfl (by decide +kernel)) (pi_list (V5.pe_nget (P := P) (w := w) (K := K) (Nat.lt_of_le_of_lt (Nat.add_le_add_left (by decide : 9 ≤ 64) _) hr.units) (pv 8) (pe_tup (pa_cons (pv 9) (pa_cons (pv 10) pa_nil))) (fun _ _ => rfl))) (blkOk_by (N := n__law_all_markings) (sc := defScope s__law_all_markings) (by decide +kernel)) (fun _ _ _ _ _ => (pg_name (i := 16) S.nd rfl (Or.inl rfl))) (fun _ _ _ _ _ => (pts_one (pt_cmpR (V5.op_notInK (K := K)) (pv 16) (V5.pe_nget (P := P) (w := w) (K := K) (Nat.lt_of_le_of_lt (Nat.add_le_add_left (by decide : 9 ≤ 64) _) hr.units) (pv 8) (pv 13) (fun _ _ => rfl)) (by rfl)))) (fun _ _ _ _ _ => pe_int))
      (pss_cons (ps_setLc (i := 15) (own := [("there", 16)]) rfl S.nd rfl rfl (sw_true rfl rfl rfl (by decide +kernel)) (pi_list (V5.pe_nget (P := P) (w := w) (K := K) (Nat.lt_of_le_of_lt (Nat.add_le_add_left (by decide : 9 ≤ 64) _) hr.units) (pv 8) (pv 13) (fun _ _ => rfl))) (blkOk_by (N := n__law_all_markings) (sc := defScope s__law_all_markings) (by decide +kernel)) (fun _ _ _ _ _ => (pg_name (i := 16) S.nd rfl (Or.inl rfl))) (fun _ _ _ _ _ => (pts_one (pt_cmpR (V5.op_notInK (K := K)) (pv 16) (V5.pe_nget (P := P) (w := w) (K := K) (Nat.lt_of_le_of_lt (Nat.add_le_add_left (by decide : 9 ≤ 64) _) hr.units) (pv 8) (pe_tup (pa_cons (pv 9) (pa_cons (pv 10) pa_nil))) (fun _ _ => rfl)) (by rfl)))) (fun _ _ _ _ _ => pe_int))
      (pss_one (ps_if ((pw_or ((pw_and (pt_not (pt_val (pe_ix (ix_listK (K := K)) (pv 5) pe_int (fun _ _ => rfl)))) (pw_and1 (pt_cmpR (op_neD hr.units) (pv 14) (pe_lst pa_nil) (nomark _))))).pt (pw_or1 ((pw_and (pt_not (pt_val (pe_ix (ix_listK (K := K)) (pv 5) pe_int (fun _ _ => rfl)))) (pw_and1 (pt_cmpR (op_neD hr.units) (pv 15) (pe_lst pa_nil) (nomark _))))).pt))).pt (pss_one (ps_ret pe_bl)) pss_nil))))))))))
      (pss_one (ps_ret pe_bl)))))), ?_⟩
    have w5 := words_pow s
    have p5 := Nat.pow_le_pow_right (show 0 < 2 by decide) d5
    have p32 : (2 : Nat) ^ 5 = 32 := rfl
    have okF := turn_ok false s ok
    have okT := turn_ok true s ok
    have dF := turn_deep false s
    have dT := turn_deep true s
    have wF := turn_words false s
    have wT := turn_words true s
    obtain ⟨a, b, xs0, rfl, hs, _, _⟩ := dp_web hd
    refine ⟨.ref a, rfl, a, _, 0, .int n, rfl, rfl, hs, atI_nat (j := 0) rfl, u, rfl, u, turnS false s, rfl, du, okF, by omega, fun H1 sg e1 hsg => ?_⟩
    refine ⟨_, _, rfl, ?_⟩
    refine ⟨.int n, rfl, n, rfl, RgOk.of_le (by decide) (by omega) (by decide) (by omega), fun wl nwl => ?_⟩
    refine ⟨.int n, rfl, n, rfl, by omega, fun H2 rw_ xs e2 hrw dx => fun t nt => ⟨by show 3 ≤ sizeLine; decide, fun g ng => ?_⟩⟩
    refine ⟨g, [.ref wl, .ref rw_, .ref t], rfl, SqT.of upd_same, rfl, .ref wl, _, rfl, .ref rw_, _, rfl, .ref t, _, rfl, rfl, ?_⟩
    have ntH : H t = none := (e1.trans ((same_new nwl).trans e2)).free nt
    have ph : Ph P w K H (upd (upd H2 t (HN P w t [])) g (.tup [.ref wl, .ref rw_, .ref t])) sg wl rw_ t n xs (sgn (turnS false s)) [] := by
      have eA := (same_new (o := HN P w t []) nt).trans (same_new (o := .tup [.ref wl, .ref rw_, .ref t]) ng)
      have eB := e2.trans eA
      have eC := (same_new (o := .lst (rgV 0 n)) nwl).trans eB
      exact ⟨e1.trans eC, eC _ _ hsg, eB _ _ upd_same, eA _ _ hrw, dps_same eA _ _ dx, (same_new (o := .tup [.ref wl, .ref rw_, .ref t]) ng) _ _ upd_same⟩
    have tb : Tab P w K (upd (upd H2 t (HN P w t [])) g (.tup [.ref wl, .ref rw_, .ref t])) t n A s 0 0 [] := ⟨fun e z => (List.not_mem_nil z).elim, fun e z => (List.not_mem_nil z).elim, fun e z => (List.not_mem_nil z).elim, fun i' j' x y _ _ z => by omega, Nat.le_refl _⟩
    generalize upd _ g _ = H4 at ph tb
    clear nt ng hrw dx hsg e1 e2 nwl
    have xl : xs.length = (rowsL n).length := by
      have := dps_len ph.dx
      rw [List.length_map] at this
      exact this
    have r4 := rows_small n2
    refine ⟨.ref rw_, rfl, rw_, rfl, ⟨_, SqL.of ph.rw_⟩, ?_⟩
    refine for_list (K := K) (a := rw_) (xs := xs) (fun i σ H' => ∃ kvs y9 y10 y12, σ = [some (.ref a), some z, some u, some y, some (.int n), some (.ref sg), some (.ref wl), some (.ref rw_), some (.ref t), y9, y10, none, y12, none, none, none, none] ∧ Ph P w K H H' sg wl rw_ t n xs (sgn (turnS false s)) kvs ∧ Tab P w K H' t n A s i 0 kvs)
      ⟨[], none, none, none, rfl, ph, tb⟩ (fun i σ H' _ h => by obtain ⟨kvs, y9, y10, y12, _, ph, _⟩ := h; exact SqL.of ph.rw_) (fun i x σ H5 hx h => ?_) (fun σ H5 h => ?_)
    · obtain ⟨kvs, y9, y10, y12, rfl, ph, tb⟩ := h
      obtain ⟨ra, rai, ram, dra⟩ := get_map ph.dx hx
      have il : i < 4 := by
        have := (List.getElem?_eq_some_iff.mp rai).1
        omega
      refine ⟨.ref rw_, rfl, rw_, rfl, ⟨_, SqL.of ph.rw_⟩, ?_⟩
      refine for_list (K := K) (a := rw_) (xs := xs) (fun j σ H' => ∃ kvs y10 y12, σ = [some (.ref a), some z, some u, some y, some (.int n), some (.ref sg), some (.ref wl), some (.ref rw_), some (.ref t), some x, y10, none, y12, none, none, none, none] ∧ Ph P w K H H' sg wl rw_ t n xs (sgn (turnS false s)) kvs ∧ Tab P w K H' t n A s i j kvs ∧ Dp K H' x (dInts ra))
        ⟨kvs, y10, y12, rfl, ph, tb, dra⟩ (fun j σ H' _ h => by obtain ⟨kvs, y10, y12, _, ph, _⟩ := h; exact SqL.of ph.rw_) (fun j x2 σ H6 hx2 h => ?_) (fun σ H6 h => ?_)
      · obtain ⟨kvs, y10, y12, rfl, ph, tb, dra⟩ := h
        obtain ⟨rb, rbj, rbm, drb⟩ := get_map ph.dx hx2
        have jl : j < 4 := by
          have := (List.getElem?_eq_some_iff.mp rbj).1
          omega
        have mok : MOk (n : Nat) [ra, rb] := by
          refine ⟨by show 2 ≤ 8; decide, fun r hr => ?_⟩
          rcases List.mem_cons.mp hr with rfl | hr
          · exact rowsL_row n _ ram
          · rw [List.mem_singleton.mp hr]
            exact rowsL_row n _ rbm
        -- got = list(holding(web_so, (near, far), told))
        refine ⟨.ref a, rfl, x, rfl, x2, rfl, by show 2 ≤ sizeLine; decide, fun p np => ?_⟩
        have ep := same_new (o := .tup [x, x2]) np
        have dp := dp_mk (K := K) np (.cons dra (.cons drb .nil))
        refine ⟨z, rfl, .ref a, .ref p, z, n, A, [ra, rb], s, rfl, dp_same (ph.same.trans ep) _ _ hd, wok, dp, mok, dp_same (ph.same.trans ep) _ _ dz, ok, by omega, by omega, fun H7 p7 e7 hp7 => ?_⟩
        refine ⟨p7, _, rfl, .inr hp7, fun gt ngt => ?_⟩
        have e8 := ep.trans (e7.trans (same_new (o := .lst ((heldL n (hold A (markR [ra, rb]) s)).map V.int)) ngt))
        have hgt : upd H7 gt (.lst ((heldL n (hold A (markR [ra, rb]) s)).map V.int)) gt = some (.lst ((heldL n (hold A (markR [ra, rb]) s)).map V.int)) := upd_same
        replace ph := ph.go e8
        replace tb := tb.same e8
        replace dra := dp_same e8 _ _ dra
        replace drb := dp_same e8 _ _ drb
        generalize upd H7 gt _ = H8 at ph tb dra drb hgt
        clear e8 ep dp np e7 hp7 ngt
        generalize hL : heldL n (hold A (markR [ra, rb]) s) = L at hgt
        -- table[near, far] = got
        refine ⟨.ref gt, rfl, .ref t, rfl, x, rfl, x2, rfl, by show 2 ≤ sizeLine; decide, fun p np => ?_⟩
        have ep := same_new (o := .tup [x, x2]) np
        have dp : Dp K (upd H8 p (.tup [x, x2])) (.ref p) (dK2 (ra, rb)) := dp_mk (K := K) np (.cons dra (.cons drb .nil))
        replace ph := ph.go ep
        replace tb := tb.same ep
        replace dra := dp_same ep _ _ dra
        replace drb := dp_same ep _ _ drb
        replace hgt := ep _ _ hgt
        have kl := tb.len
        refine ⟨t, kvs, (ra, rb), p, rfl, ph.t, tb.keys, rfl, dp, tb.fresh rai rbj, by omega, ?_⟩
        replace tb := (tb.put rai rbj dp (by rw [hL]; exact hgt)).moved (u := HN P w t (kvs ++ [((ra, rb), p, .ref gt)])) ph.t hn_tup hn_frz hn_lst
        replace hgt : upd (upd H8 p (.tup [x, x2])) t (HN P w t (kvs ++ [((ra, rb), p, .ref gt)])) gt = some (.lst (L.map V.int)) := by
          rw [upd_ne (ne_of hgt ph.t (fun z => hn_lst _ z.symm))]
          exact hgt
        replace dra := dp_mv (fun _ _ q => tup_off (u := HN P w t (kvs ++ [((ra, rb), p, .ref gt)])) ph.t hn_tup hn_frz q) _ _ (noL_dInts _) dra
        replace drb := dp_mv (fun _ _ q => tup_off (u := HN P w t (kvs ++ [((ra, rb), p, .ref gt)])) ph.t hn_tup hn_frz q) _ _ (noL_dInts _) drb
        replace ph := ph.put (kvs' := kvs ++ [((ra, rb), p, .ref gt)]) ntH
        clear dp np ep kl
        generalize kvs ++ [((ra, rb), p, .ref gt)] = kvs at ph tb dra drb hgt
        generalize upd (upd H8 p _) t _ = H9 at ph tb dra drb hgt
        -- the one turned inward
        refine ⟨.ref a, rfl, x, rfl, x2, rfl, by show 2 ≤ sizeLine; decide, fun p np => ?_⟩
        have ep := same_new (o := .tup [x, x2]) np
        have dp := dp_mk (K := K) np (.cons dra (.cons drb .nil))
        refine ⟨u, rfl, .ref a, .ref p, u, n, A, [ra, rb], turnS false s, rfl, dp_same (ph.same.trans ep) _ _ hd, wok, dp, mok, dp_same (ph.same.trans ep) _ _ du, okF, by omega, by omega, fun H10 p10 e10 hp10 => ?_⟩
        refine ⟨p10, _, rfl, .inr hp10, fun g2 ng2 => ?_⟩
        rw [turn_hold, hL]
        have e11 := ep.trans (e10.trans (same_new (o := .lst (L.map V.int)) ng2))
        refine ⟨.ref gt, rfl, .list (L.map PyData.int), .list (L.map PyData.int), .lst (SqL.of upd_same) (dps_ints L), .lst (SqL.of (e11 _ _ hgt)) (dps_ints L), shaped_ints L, shaped_ints L, _, rfl, ?_⟩
        rw [eqv_ints L]
        refine iteF ?_
        replace ph := ph.go e11
        replace tb := tb.same e11
        replace dra := dp_same e11 _ _ dra
        replace drb := dp_same e11 _ _ drb
        replace hgt := e11 _ _ hgt
        generalize upd H10 g2 _ = H11 at ph tb dra drb hgt
        clear e11 ep dp np e10 hp10 ng2
        -- the one turned about
        refine ⟨.ref a, rfl, x, rfl, x2, rfl, by show 2 ≤ sizeLine; decide, fun p np => ?_⟩
        have ep := same_new (o := .tup [x, x2]) np
        have dp := dp_mk (K := K) np (.cons dra (.cons drb .nil))
        refine ⟨y, rfl, .ref a, .ref p, y, n, A, [ra, rb], turnS true s, rfl, dp_same (ph.same.trans ep) _ _ hd, wok, dp, mok, dp_same (ph.same.trans ep) _ _ dy, okT, by omega, by omega, fun H12 p12 e12 hp12 => ?_⟩
        refine ⟨p12, _, rfl, .inr hp12, fun g3 ng3 => ?_⟩
        have e13 := ep.trans (e12.trans (same_new (o := .lst ((heldL n (hold A (markR [ra, rb]) (turnS true s))).map V.int)) ng3))
        have hg3 : upd H12 g3 (.lst ((heldL n (hold A (markR [ra, rb]) (turnS true s))).map V.int)) g3 = some (.lst ((heldL n (hold A (markR [ra, rb]) (turnS true s))).map V.int)) := upd_same
        replace ph := ph.go e13
        replace tb := tb.same e13
        replace dra := dp_same e13 _ _ dra
        replace drb := dp_same e13 _ _ drb
        replace hgt := e13 _ _ hgt
        generalize upd H12 g3 _ = H13 at ph tb dra drb hgt hg3
        clear e13 ep dp np e12 hp12 ng3
        refine ⟨.ref wl, rfl, wl, rfl, ⟨_, SqL.of ph.wl⟩, fun D nD => ?_⟩
        refine lc_list (K := K) (a := wl) (xs := rgV 0 n) (fun k H' => Same H13 H' ∧ H' D = some (.lst ((heldL k (hold A (markR [ra, rb]) (turnS true s))).map V.int))) ⟨same_new nD, upd_same⟩ (fun _ H' _ h => SqL.of (h.1 _ _ ph.wl)) (fun k v H14 hv h => ?_) (fun H14 h => ?_)
        · obtain ⟨e14, hD⟩ := h
          have kn : k < n := by
            have := (List.getElem?_eq_some_iff.mp hv).1
            rw [rgV_length] at this
            omega
          have ev : v = .int k := by
            unfold rgV at hv
            rw [List.getElem?_map, List.getElem?_range (by omega)] at hv
            have := Option.some.inj hv
            rw [← this]
            show V.int (0 + (k : Int)) = V.int k
            rw [Int.zero_add]
          subst ev
          refine ⟨rfl, .int k, rfl, .ref gt, rfl, gt, _, rfl, .inl (SqL.of (e14 _ _ hgt)), rfl, flat_ints L, _, rfl, ?_⟩
          rw [inV_ints]
          have hk : hold A (markR [ra, rb]) (turnS true s) k = !decide ((k : Int) ∈ L) := by
            rw [hold_turn, ← hL]
            have m : (k : Int) ∈ heldL n (hold A (markR [ra, rb]) s) ↔ hold A (markR [ra, rb]) s k = true := mem_heldL.trans ⟨fun z => z.2, fun z => ⟨⟨by omega, by omega⟩, z⟩⟩
            cases hb : hold A (markR [ra, rb]) s k with
            | true => rw [decide_eq_true (m.mpr hb)]; rfl
            | false => rw [decide_eq_false (fun z => by rw [m.mp z] at hb; cases hb)]; rfl
          have few := heldL_few k (hold A (markR [ra, rb]) (turnS true s))
          refine ite2 (fun hc => ?_) (fun hc => ?_)
          · refine ⟨.int k, rfl, _, hD, ?_, same_upd_new e14 nD, ?_⟩
            · rw [List.length_map]
              exact small (m := 200) (by omega)
            · rw [upd_same, heldL_succ, if_pos (hk.trans hc), List.map_append]
              rfl
          · refine ⟨e14, ?_⟩
            rw [heldL_succ, if_neg (fun z => hc (hk.symm.trans z))]
            exact hD
        · obtain ⟨e14, hD⟩ := h
          rw [rgV_length, Int.sub_zero, Int.toNat_natCast] at hD
          refine ⟨.list ((heldL n (hold A (markR [ra, rb]) (turnS true s))).map PyData.int), .list ((heldL n (hold A (markR [ra, rb]) (turnS true s))).map PyData.int), .lst (SqL.of (e14 _ _ hg3)) (dps_ints _), .lst (SqL.of hD) (dps_ints _), shaped_ints _, shaped_ints _, _, rfl, ?_⟩
          rw [eqv_ints _]
          refine iteF ?_
          exact ⟨kvs, _, _, rfl, ph.go e14, tb.same e14, dp_same e14 _ _ dra⟩
      · obtain ⟨kvs, y10, y12, rfl, ph, tb, _⟩ := h
        rw [xl] at tb
        exact ⟨kvs, _, y10, y12, rfl, ph, tb.next n2⟩
    · obtain ⟨kvs, y9, y10, y12, rfl, ph, tb⟩ := h
      rw [xl] at tb
      refine ⟨t, HN P w t kvs, ph.t, True.intro, fun od => ?_⟩
      have tall := (tb.moved (u := .frz od (HN P w t kvs)) ph.t hn_tup hn_frz hn_lst).all
      have hsg : upd H5 t (.frz od (HN P w t kvs)) sg = some (.lst [.bl (sgn (turnS false s)).1, .bl (sgn (turnS false s)).2]) := by
        rw [upd_ne (ne_of ph.sg ph.t (fun z => hn_lst _ z.symm))]
        exact ph.sg
      have hwl : upd H5 t (.frz od (HN P w t kvs)) wl = some (.lst (rgV 0 n)) := by
        rw [upd_ne (ne_of ph.wl ph.t (fun z => hn_lst _ z.symm))]
        exact ph.wl
      have hT : upd H5 t (.frz od (HN P w t kvs)) t = some (.frz od (HN P w t kvs)) := upd_same
      have eL : Same H (upd H5 t (.frz od (HN P w t kvs))) := same_upd_new ph.same ntH
      clear ph tb
      generalize upd H5 t _ = HL at tall hsg hwl hT eL
      refine ⟨.ref t, rfl, t, od, kvs, rfl, hT, ?_⟩
      refine for_it (walk_keysN (P := P) (w := w) (d := t) (o := od) (kvs := kvs)) (fun i σ H' => ∃ y9 y10 y11 y12 y13 y14 y15, σ = [some (.ref a), some z, some u, some y, some (.int n), some (.ref sg), some (.ref wl), some (.ref rw_), some (.ref t), y9, y10, y11, y12, y13, y14, y15, none] ∧ Same HL H')
        ⟨y9, y10, none, y12, none, none, none, rfl, Same.refl HL⟩ (fun i σ H' _ h => by obtain ⟨_, _, _, _, _, _, _, _, e⟩ := h; exact e _ _ hT) (fun i x σ H6 H7 hi h hy => ?_) (fun σ H6 h => ?_)
      · obtain ⟨y9, y10, y11, y12, y13, y14, y15, rfl, e6⟩ := h
        obtain ⟨rfl, k, c, v, hk, rfl⟩ := hy
        have km := List.mem_of_getElem? hk
        have kin : k.1 ∈ rowsL n ∧ k.2 ∈ rowsL n := tall.inn _ km
        obtain ⟨c', vs, ec, hc, hda⟩ := dp_tup (dp_same e6 _ _ (tall.keys _ km))
        cases ec
        obtain ⟨v1, r1, rfl⟩ : ∃ v1 r1, vs = v1 :: r1 := by cases hda; exact ⟨_, _, rfl⟩
        obtain ⟨d1, hda⟩ : Dp K H7 v1 (dInts k.1) ∧ DpAll K H7 r1 [dInts k.2] := by cases hda with | cons h1 h2 => exact ⟨h1, h2⟩
        obtain ⟨v2, rfl, d2⟩ : ∃ v2, r1 = [v2] ∧ Dp K H7 v2 (dInts k.2) := by cases hda with | cons h1 h2 => cases h2; exact ⟨_, rfl, h1⟩
        obtain ⟨c1, rfl, hc1⟩ := dp_ints d1
        obtain ⟨c2, rfl, hc2⟩ := dp_ints d2
        refine ⟨c, [.ref c1, .ref c2], rfl, hc, rfl, .ref c1, _, rfl, .ref c2, _, rfl, rfl, ?_⟩
        clear hc
        refine ⟨.ref wl, rfl, wl, rfl, ⟨_, SqL.of (e6 _ _ hwl)⟩, ?_⟩
        refine for_list (K := K) (a := wl) (xs := rgV 0 n) (fun j σ H' => ∃ y11 y13 y14 y15, σ = [some (.ref a), some z, some u, some y, some (.int n), some (.ref sg), some (.ref wl), some (.ref rw_), some (.ref t), some (.ref c1), some (.ref c2), y11, y12, y13, y14, y15, none] ∧ Same H7 H')
          ⟨y11, y13, y14, y15, rfl, Same.refl H7⟩ (fun j σ H' _ h => by obtain ⟨_, _, _, _, _, e⟩ := h; exact SqL.of (e _ _ (e6 _ _ hwl))) (fun j xj σ H8 hxj h => ?_) (fun σ H8 h => ?_)
        · obtain ⟨y11, y13, y14, y15, rfl, e8⟩ := h
          have jn : j < n := by
            have := (List.getElem?_eq_some_iff.mp hxj).1
            rw [rgV_length] at this
            omega
          have ev : xj = .int j := by
            unfold rgV at hxj
            rw [List.getElem?_map, List.getElem?_range (by omega)] at hxj
            have := Option.some.inj hxj
            rw [← this]
            show V.int (0 + (j : Int)) = V.int j
            rw [Int.zero_add]
          subst ev
          have few1 : k.1.length ≤ n := rowsL_few n _ kin.1
          have few2 : k.2.length ≤ n := rowsL_few n _ kin.2
          -- (tuple(sorted(set(near + (spot,)))), far)
          refine ⟨.ref c1, rfl, .int j, rfl, by show 1 ≤ sizeLine; decide, fun p1 np1 => ?_⟩
          have ep1 := same_new (o := .tup [.int j]) np1
          refine ⟨c1, p1, _, _, rfl, rfl, same_tup (e8.trans ep1) hc1, SqT.of upd_same, ?_, fun b1 H9 e9 hb1 => ?_⟩
          · rw [List.length_map]
            exact Nat.le_of_lt (small (m := 100) (by show k.1.length + 1 ≤ 100; omega))
          have hb1' : SqT K H9 b1 ((k.1 ++ [(j : Int)]).map V.int) := by rw [List.map_append]; exact hb1
          refine ⟨b1, k.1 ++ [(j : Int)], rfl, .inr hb1', ?_, fun s1 m1 ns1 hm1 => ?_⟩
          · rw [List.length_append]
            show k.1.length + 1 ≤ 60
            omega
          refine ⟨s1, _, m1, rfl, upd_same, ?_, fun na l1 asc1 mem1 len1 nl1 => ?_⟩
          · rw [List.length_append] at hm1
            have : m1 ≤ k.1.length + 1 := hm1
            omega
          refine ⟨l1, _, rfl, .inl ⟨SqL.of upd_same, fun t1 nt1 => ?_⟩⟩
          refine ⟨.ref c2, rfl, by show 2 ≤ sizeLine; decide, fun q1 nq1 => ?_⟩
          have hna := row_more kin.1 ⟨by omega, by omega⟩ asc1 (fun x => (mem1 x).trans decide_eq_true_iff)
          have sub1 : more_in k.1 k.2 na k.2 := ⟨fun x hx => ((mem1 x).trans decide_eq_true_iff).mpr (List.mem_append.mpr (.inl hx)), fun x hx => hx⟩
          have eA := (same_new (o := SetO w s1 (fun i => decide (i ∈ k.1 ++ [(j : Int)])) m1) ns1).trans ((same_new (o := .lst (na.map V.int)) nl1).trans (same_new (o := .tup (na.map V.int)) nt1))
          have eB := (ep1.trans e9).trans eA
          have dq1 : Dp K _ (.ref q1) (dK2 (na, k.2)) := dp_mk (K := K) nq1 (.cons (dp_of_ints (SqT.of upd_same)) (.cons (dp_same (e8.trans eB) _ _ d2) .nil))
          have eC := eB.trans (same_new (o := .tup [.ref t1, .ref c2]) nq1)
          clear eA eB ep1 e9
          generalize upd _ q1 _ = H10 at dq1 eC
          -- (near, tuple(sorted(set(far + (spot,)))))
          refine ⟨.ref c1, rfl, .ref c2, rfl, .int j, rfl, by show 1 ≤ sizeLine; decide, fun p2 np2 => ?_⟩
          have ep2 := same_new (o := .tup [.int j]) np2
          refine ⟨c2, p2, _, _, rfl, rfl, same_tup (e8.trans (eC.trans ep2)) hc2, SqT.of upd_same, ?_, fun b2 H11 e11 hb2 => ?_⟩
          · rw [List.length_map]
            exact Nat.le_of_lt (small (m := 100) (by show k.2.length + 1 ≤ 100; omega))
          have hb2' : SqT K H11 b2 ((k.2 ++ [(j : Int)]).map V.int) := by rw [List.map_append]; exact hb2
          refine ⟨b2, k.2 ++ [(j : Int)], rfl, .inr hb2', ?_, fun s2 m2 ns2 hm2 => ?_⟩
          · rw [List.length_append]
            show k.2.length + 1 ≤ 60
            omega
          refine ⟨s2, _, m2, rfl, upd_same, ?_, fun nb l2 asc2 mem2 len2 nl2 => ?_⟩
          · rw [List.length_append] at hm2
            have : m2 ≤ k.2.length + 1 := hm2
            omega
          refine ⟨l2, _, rfl, .inl ⟨SqL.of upd_same, fun t2 nt2 => ?_⟩⟩
          refine ⟨by show 2 ≤ sizeLine; decide, fun q2 nq2 => ?_⟩
          have hnb := row_more kin.2 ⟨by omega, by omega⟩ asc2 (fun x => (mem2 x).trans decide_eq_true_iff)
          have sub2 : more_in k.1 k.2 k.1 nb := ⟨fun x hx => hx, fun x hx => ((mem2 x).trans decide_eq_true_iff).mpr (List.mem_append.mpr (.inl hx))⟩
          have eA := (same_new (o := SetO w s2 (fun i => decide (i ∈ k.2 ++ [(j : Int)])) m2) ns2).trans ((same_new (o := .lst (nb.map V.int)) nl2).trans (same_new (o := .tup (nb.map V.int)) nt2))
          have eB := (ep2.trans e11).trans eA
          have dq2 : Dp K _ (.ref q2) (dK2 (k.1, nb)) := dp_mk (K := K) nq2 (.cons (dp_same (e8.trans (eC.trans eB)) _ _ d1) (.cons (dp_of_ints (SqT.of upd_same)) .nil))
          have eD := eB.trans (same_new (o := .tup [.ref c1, .ref t2]) nq2)
          replace dq1 := dp_same eD _ _ dq1
          have eE := eC.trans eD
          clear eA eB eC eD ep2 e11
          generalize upd _ q2 _ = H12 at dq1 dq2 eE
          refine ⟨by show 2 ≤ sizeLine; decide, fun mm nmm => ?_⟩
          have em := same_new (o := .tup [.ref q1, .ref q2]) nmm
          have hmm : SqT K (upd H12 mm (.tup [.ref q1, .ref q2])) mm [.ref q1, .ref q2] := SqT.of upd_same
          have both : ∀ x ∈ [V.ref q1, V.ref q2], ∃ k2 b2, x = .ref b2 ∧ Dp K (upd H12 mm (.tup [.ref q1, .ref q2])) (.ref b2) (dK2 k2) ∧ k2.1 ∈ rowsL n ∧ k2.2 ∈ rowsL n ∧ more_in k.1 k.2 k2.1 k2.2 := fun x hx => by
            rcases List.mem_cons.mp hx with rfl | hx
            · exact ⟨(na, k.2), q1, rfl, dp_same em _ _ dq1, hna, kin.2, sub1⟩
            · rw [List.mem_singleton.mp hx]
              exact ⟨(k.1, nb), q2, rfl, dp_same em _ _ dq2, kin.1, hnb, sub2⟩
          have eF := eE.trans em
          clear dq1 dq2 eE em
          generalize upd H12 mm _ = H13 at hmm both eF
          replace eF := e8.trans eF
          clear e8
          refine ⟨mm, rfl, ⟨_, hmm⟩, ?_⟩
          refine for_tup (K := K) (a := mm) (xs := [.ref q1, .ref q2]) (fun e σ H' => ∃ y13 y14 y15, σ = [some (.ref a), some z, some u, some y, some (.int n), some (.ref sg), some (.ref wl), some (.ref rw_), some (.ref t), some (.ref c1), some (.ref c2), some (.int j), y12, y13, y14, y15, none] ∧ Same H13 H')
            ⟨y13, y14, y15, rfl, Same.refl H13⟩ (fun e σ H' _ h => by obtain ⟨_, _, _, _, e⟩ := h; exact same_tup e hmm) (fun e x σ H14 hx h => ?_) (fun σ H14 h => ?_)
          · obtain ⟨y13, y14, y15, rfl, e14⟩ := h
            obtain ⟨k2, b2, rfl, dk2, in1, in2, sub⟩ := both x (List.mem_of_getElem? hx)
            have eX := e6.trans (eF.trans e14)
            obtain ⟨g1, gg1, me1, hg1⟩ := tall.get kin.1 kin.2
            obtain ⟨g2, gg2, me2, hg2⟩ := tall.get in1 in2
            have lost0 := none_lost (A := A) (n := n) (s := s) ok sub
            have gain0 := none_gained (A := A) (n := n) (s := s) ok sub
            have len1 := heldL_few n (hold A (markR [k.1, k.2]) s)
            have len2 := heldL_few n (hold A (markR [k2.1, k2.2]) s)
            generalize heldL n (hold A (markR [k.1, k.2]) s) = L1 at hg1 lost0 gain0 len1
            generalize heldL n (hold A (markR [k2.1, k2.2]) s) = L2 at hg2 lost0 gain0 len2
            have sm : ∀ m : Nat, m ≤ n → m < sizeLine := fun m hm => small (m := 100) (by omega)
            -- lost
            refine ⟨.ref t, rfl, .ref c1, rfl, .ref c2, rfl, by show 2 ≤ sizeLine; decide, fun p np => ?_⟩
            have ep := same_new (o := .tup [.ref c1, .ref c2]) np
            have dp : Dp K (upd H14 p (.tup [.ref c1, .ref c2])) (.ref p) (dK2 k) := dp_mk (K := K) np (.cons (dp_same (eF.trans e14) _ _ d1) (.cons (dp_same (eF.trans e14) _ _ d2) .nil))
            have eY := eX.trans ep
            refine ⟨t, kvs, k, p, g1, .ref gg1, rfl, .inr ⟨od, eY _ _ hT⟩, (tall.same eY).keys, rfl, dp, me1, gg1, rfl, ⟨_, SqL.of (eY _ _ hg1)⟩, fun D nD => ?_⟩
            replace e14 := e14.trans ep
            clear eX dp np ep
            generalize upd H14 p _ = H15 at e14 eY nD
            refine lc_list (K := K) (a := gg1) (xs := L1.map V.int) (fun m H' => Same H15 H' ∧ ∃ q : Nat, H' D = some (.lst ((List.replicate q (1 : Int)).map V.int)) ∧ q ≤ m ∧ ((∀ x ∈ L1, x ∈ L2) → q = 0)) ⟨same_new nD, 0, upd_same, Nat.le_refl _, fun _ => rfl⟩ (fun _ H' _ h => SqL.of (h.1 _ _ (eY _ _ hg1))) (fun m x H16 hx h => ?_) (fun H16 h => ?_)
            · obtain ⟨e16, cnt, hD, cm, c0⟩ := h
              rw [List.getElem?_map] at hx
              obtain ⟨x, hxl, rfl⟩ := Option.map_eq_some_iff.mp hx
              have ml := (List.getElem?_eq_some_iff.mp hxl).1
              have eZ := eY.trans e16
              refine ⟨rfl, .int x, rfl, .ref t, rfl, .ref b2, rfl, t, kvs, k2, b2, g2, .ref gg2, rfl, .inr ⟨od, eZ _ _ hT⟩, (tall.same eZ).keys, rfl, dp_same (e14.trans e16) _ _ dk2, me2, gg2, _, rfl, .inl (SqL.of (eZ _ _ hg2)), rfl, flat_ints L2, _, rfl, ?_⟩
              rw [inV_ints]
              refine ite2 (fun hc => ?_) (fun hc => ?_)
              · refine ⟨_, hD, ?_, same_upd_new e16 nD, cnt + 1, ?_, by omega, fun z => ?_⟩
                · rw [List.length_map, List.length_replicate]
                  exact sm _ (by omega)
                · rw [upd_same, List.replicate_succ', List.map_append]
                  rfl
                · have hc' : (!decide (x ∈ L2)) = true := hc
                  rw [decide_eq_true (z x (List.mem_of_getElem? hxl))] at hc'
                  cases hc'
              · exact ⟨e16, cnt, hD, by omega, c0⟩
            obtain ⟨e16, n1, hD1, cm1, c01⟩ := h
            replace e14 := e14.trans e16
            replace eY := eY.trans e16
            clear e16 nD
            generalize H16 = H17 at e14 eY hD1
            -- gained
            refine ⟨.ref t, rfl, .ref b2, rfl, t, kvs, k2, b2, g2, .ref gg2, rfl, .inr ⟨od, eY _ _ hT⟩, (tall.same eY).keys, rfl, dp_same e14 _ _ dk2, me2, gg2, rfl, ⟨_, SqL.of (eY _ _ hg2)⟩, fun D2 nD2 => ?_⟩
            refine lc_list (K := K) (a := gg2) (xs := L2.map V.int) (fun m H' => Same H17 H' ∧ ∃ q : Nat, H' D2 = some (.lst ((List.replicate q (1 : Int)).map V.int)) ∧ q ≤ m ∧ ((∀ x ∈ L2, x ∈ L1) → q = 0)) ⟨same_new nD2, 0, upd_same, Nat.le_refl _, fun _ => rfl⟩ (fun _ H' _ h => SqL.of (h.1 _ _ (eY _ _ hg2))) (fun m x H18 hx h => ?_) (fun H18 h => ?_)
            · obtain ⟨e18, cnt, hD, cm, c0⟩ := h
              rw [List.getElem?_map] at hx
              obtain ⟨x, hxl, rfl⟩ := Option.map_eq_some_iff.mp hx
              have ml := (List.getElem?_eq_some_iff.mp hxl).1
              refine ⟨rfl, .int x, rfl, .ref t, rfl, .ref c1, rfl, .ref c2, rfl, by show 2 ≤ sizeLine; decide, fun p np => ?_⟩
              have ep := same_new (o := .tup [.ref c1, .ref c2]) np
              have dp : Dp K (upd H18 p (.tup [.ref c1, .ref c2])) (.ref p) (dK2 k) := dp_mk (K := K) np (.cons (dp_same (eF.trans (e14.trans e18)) _ _ d1) (.cons (dp_same (eF.trans (e14.trans e18)) _ _ d2) .nil))
              have eZ := eY.trans (e18.trans ep)
              refine ⟨t, kvs, k, p, g1, .ref gg1, rfl, .inr ⟨od, eZ _ _ hT⟩, (tall.same eZ).keys, rfl, dp, me1, gg1, _, rfl, .inl (SqL.of (eZ _ _ hg1)), rfl, flat_ints L1, _, rfl, ?_⟩
              rw [inV_ints]
              refine ite2 (fun hc => ?_) (fun hc => ?_)
              · refine ⟨_, ep _ _ hD, ?_, same_upd_new (e18.trans ep) nD2, cnt + 1, ?_, by omega, fun z => ?_⟩
                · rw [List.length_map, List.length_replicate]
                  exact sm _ (by omega)
                · rw [upd_same, List.replicate_succ', List.map_append]
                  rfl
                · have hc' : (!decide (x ∈ L1)) = true := hc
                  rw [decide_eq_true (z x (List.mem_of_getElem? hxl))] at hc'
                  cases hc'
              · exact ⟨e18.trans ep, cnt, ep _ _ hD, by omega, c0⟩
            obtain ⟨e18, n2', hD2, cm2, c02⟩ := h
            replace hD1 := e18 _ _ hD1
            replace e14 := e14.trans e18
            replace eY := eY.trans e18
            clear e18 nD2
            generalize H18 = H19 at e14 eY hD1 hD2
            -- the test
            refine ⟨.ref sg, rfl, sg, _, 0, .bl (sgn (turnS false s)).1, rfl, rfl, SqL.of (eY _ _ hsg), atI_nat (j := 0) rfl, _, rfl, ?_⟩
            cases hb1 : (sgn (turnS false s)).1 with
            | true =>
              refine iteF ?_
              refine iteF ?_
              refine ⟨.ref sg, rfl, sg, _, 1, .bl (sgn (turnS false s)).2, rfl, rfl, SqL.of ((Same.refl H19) _ _ (eY _ _ hsg)), atI_nat (j := 1) rfl, _, rfl, ?_⟩
              cases hb2 : (sgn (turnS false s)).2 with
              | true =>
                refine iteF ?_
                refine iteF ?_
                exact ⟨_, _, _, rfl, e14.trans (Same.refl H19)⟩
              | false =>
                refine iteT ⟨.ref D2, rfl, Nat.zero_le _, fun p2 np2 => ?_⟩
                have ep2 := same_new (o := .lst []) np2
                have z0 := c02 (gain0 hb2)
                subst z0
                refine ⟨.list (([] : List Int).map PyData.int), .list (([] : List Int).map PyData.int), .lst (SqL.of (ep2 _ _ ((Same.refl H19) _ _ hD2))) (dps_ints []), .lst (SqL.of upd_same) (dps_ints []), shaped_ints [], shaped_ints [], _, rfl, ?_⟩
                rw [eqv_ints []]
                refine iteF ?_
                exact ⟨_, _, _, rfl, e14.trans ((Same.refl H19).trans ep2)⟩
            | false =>
              refine iteT ⟨.ref D, rfl, Nat.zero_le _, fun p1 np1 => ?_⟩
              have ep1 := same_new (o := .lst []) np1
              have z1 := c01 (lost0 hb1)
              subst z1
              refine ⟨.list (([] : List Int).map PyData.int), .list (([] : List Int).map PyData.int), .lst (SqL.of (ep1 _ _ hD1)) (dps_ints []), .lst (SqL.of upd_same) (dps_ints []), shaped_ints [], shaped_ints [], _, rfl, ?_⟩
              rw [eqv_ints []]
              refine iteF ?_
              refine ⟨.ref sg, rfl, sg, _, 1, .bl (sgn (turnS false s)).2, rfl, rfl, SqL.of (ep1 _ _ (eY _ _ hsg)), atI_nat (j := 1) rfl, _, rfl, ?_⟩
              cases hb2 : (sgn (turnS false s)).2 with
              | true =>
                refine iteF ?_
                refine iteF ?_
                exact ⟨_, _, _, rfl, e14.trans ep1⟩
              | false =>
                refine iteT ⟨.ref D2, rfl, Nat.zero_le _, fun p2 np2 => ?_⟩
                have ep2 := same_new (o := .lst []) np2
                have z0 := c02 (gain0 hb2)
                subst z0
                refine ⟨.list (([] : List Int).map PyData.int), .list (([] : List Int).map PyData.int), .lst (SqL.of (ep2 _ _ (ep1 _ _ hD2))) (dps_ints []), .lst (SqL.of upd_same) (dps_ints []), shaped_ints [], shaped_ints [], _, rfl, ?_⟩
                rw [eqv_ints []]
                refine iteF ?_
                exact ⟨_, _, _, rfl, e14.trans (ep1.trans ep2)⟩
          · obtain ⟨y13, y14, y15, rfl, e14⟩ := h
            exact ⟨_, y13, y14, y15, rfl, eF.trans e14⟩
        · obtain ⟨y11, y13, y14, y15, rfl, e8⟩ := h
          exact ⟨_, _, y11, y12, y13, y14, y15, rfl, e6.trans e8⟩
      · obtain ⟨y9, y10, y11, y12, y13, y14, y15, rfl, e6⟩ := h
        exact ⟨e6 _ _ hT, q _ (same_upd_new (eL.trans e6) ntH)⟩
end
end K0

namespace K0
open PySem PySem.Spec PyProof.Rows L2 W0 W1 W2 W5 W6 V0 V1 V4 V5
theorem bulk_one (d : PyData) : PyData.bulkAll [d] = d.bulk + 1 := rfl
/-- a row of somes, of eaches -/
def upS : Nat → Say
  | 0 => .lt 0
  | k + 1 => .so 0 (upS k)
def dnS : Nat → Say
  | 0 => .nt (.lt 0)
  | k + 1 => .ea 0 (dnS k)
theorem up_deep : ∀ k, (upS k).deep = k + 1
  | 0 => rfl
  | k + 1 => congrArg (· + 1) (up_deep k)
theorem dn_deep : ∀ k, (dnS k).deep = k + 2
  | 0 => rfl
  | k + 1 => congrArg (· + 1) (dn_deep k)
theorem up_words : ∀ k, (upS k).words.length = k + 1
  | 0 => rfl
  | k + 1 => congrArg (· + 1) (up_words k)
theorem up_ok : ∀ k, (upS k).Ok
  | 0 => (by decide : 0 < 8)
  | k + 1 => ⟨by decide, up_ok k⟩
theorem dn_ok : ∀ k, (dnS k).Ok
  | 0 => (by decide : 0 < 8)
  | k + 1 => ⟨by decide, dn_ok k⟩
theorem up_in : ∀ k, turnS false (upS k) = upS k
  | 0 => rfl
  | k + 1 => congrArg (Say.so 0) (up_in k)
theorem up_about : ∀ k, turnS true (upS k) = dnS k
  | 0 => rfl
  | k + 1 => congrArg (Say.ea 0) (up_about k)
theorem up_sgn : ∀ k, sgn (upS k) = (false, true)
  | 0 => rfl
  | k + 1 => up_sgn k
theorem dn_sgn : ∀ k, sgn (dnS k) = (true, false)
  | 0 => rfl
  | k + 1 => dn_sgn k
theorem fine3 {k n : Nat} {h : Str} {i : Int} {d : PyData} (fh : Fine 0 6 (.str h)) (hi : i.natAbs < 10 ^ 12) (f : Fine k n d) : Fine (k + 1) (n + 9) (.tuple [.str h, .int i, d]) := by
  have fi := Fine.int hi
  have g : Fine (k + 1) (3 * (n + 6 + 1)) (.tuple [.str h, .int i, d]) := Fine.tup (k := k) (n := n + 6) (m := 3) (fun e he => by
    rcases List.mem_cons.mp he with rfl | he
    · exact fh.mono (Nat.zero_le _) (by omega)
    rcases List.mem_cons.mp he with rfl | he
    · exact fi.mono (Nat.zero_le _) (by omega)
    · rw [List.mem_singleton.mp he]
      exact f.mono (Nat.le_refl _) (by omega)) (Nat.le_refl 3)
  refine ⟨g.leaf, g.vis, g.nod, g.lay, g.dep, ?_⟩
  have b1 := fh.blk
  have b2 := fi.blk
  have b3 := f.blk
  show PyData.bulk (.str h) + 1 + (PyData.bulk (.int i) + 1 + (PyData.bulk d + 1 + 0)) ≤ n + 9
  omega
theorem fine_up : ∀ k, Fine (k + 1) (40 + 9 * k) (dSay (upS k))
  | 0 => (fine_say 1 (.lt 0) (by decide : 0 < 8) (Nat.le_refl _)).mono (by decide) (by decide)
  | k + 1 => (fine3 (h := "some") (i := 0) (fine_hd (.so 0 .yes)) (by decide) (fine_up k)).mono (by omega) (by omega)
theorem fine_dn : ∀ k, Fine (k + 2) (160 + 9 * k) (dSay (dnS k))
  | 0 => (fine_say 2 (.nt (.lt 0)) (by decide : 0 < 8) (Nat.le_refl _)).mono (by decide) (by decide)
  | k + 1 => (fine3 (h := "each") (i := 0) (fine_hd (.ea 0 .yes)) (by decide) (fine_dn k)).mono (by omega) (by omega)
section
variable {P : Program} {w : World} {K : PySem.W.Frag} {mg : Str → Option Value} {base : Heap}
def sp_like50 (K : PySem.W.Frag) : Sp := fun vs H Q _ => ∃ (x y : Addr) (d : PyData), vs = [.ref x, .ref y] ∧ Dp K H (.ref x) d ∧ Dp K H (.ref y) d ∧ Fine 50 (2 ^ 20) d ∧ Q (.bl true) H
theorem ok__law_like50 (T : Tops K w mg) : FnG P w K mg base 1 T.a__law_like T.fd__law_like p__law_like (sp_like50 K) := by
  have S := sc__law_like
  refine of_body T.F__law_like S (fun vs H Q E h => ?_) (fun cdv AA outer s H vs Q E hgd hr h => ?_)
  · obtain ⟨x, y, d, rfl, _⟩ := h
    rfl
  · obtain ⟨x, y, d, rfl, hx, hy, f, q⟩ := h
    refine ⟨_, (pss_one (ps_ret (pe_cmpR op_eq (pe_callB (call_repr hgd hr.units) (by rfl) T.m_repr (by decide +kernel) (pa_cons (pv 0) pa_nil)) (pe_callB (call_repr hgd hr.units) (by rfl) T.m_repr (by decide +kernel) (pa_cons (pv 1) pa_nil)) (nomark _)))), ?_⟩
    have hd : d.depth ≤ 50 := f.dep
    refine ⟨.ref x, rfl, x, d, rfl, hx, f.vis, f.nod, hd, f.fits (Nat.le_refl _), .ref y, rfl, y, d, rfl, hy, f.vis, f.nod, hd, f.fits (Nat.le_refl _), rfl, ?_⟩
    rw [decide_eq_true rfl]
    exact q
def sp_law (K : PySem.W.Frag) : Sp := fun vs H Q _ => ∃ (a : Addr) (ns : List Int), vs = [.ref a] ∧ SqL K H a (ns.map V.int) ∧ ns.length ≤ 63 ∧ ∀ H', Q (.bl true) H'
set_option maxHeartbeats 2000000 in
theorem ok_law (T : Tops K w mg) : FnG P w K mg base 49 T.a_law T.fd_law p_law (sp_law K) := by
  have S := sc_law
  refine of_body T.F_law S (fun vs H Q E h => ?_) (fun cdv AA outer s0 H vs Q E hgd hr h => ?_)
  · obtain ⟨a, ns, rfl, _⟩ := h
    rfl
  · obtain ⟨a, ns, rfl, hs, hn, q⟩ := h
    refine ⟨_, (pss_cons (ps_set (i := 1) S.nd rfl (Or.inl rfl) (pe_call (ok__law_begin T) (hr.mono (by first | decide | omega)) (by rfl) T.g__law_begin T.F__law_begin.kp T.b__law_begin .nil pass0 (pa_cons (pv 0) pa_nil)))
      (pss_cons (ps_for PassesOwn.never rfl (pi_range1 (by rfl) T.m_range (pa_cons pe_int pa_nil)) (pg_name (i := 2) S.nd rfl (Or.inl rfl)) (pss_cons (ps_set (i := 3) S.nd rfl (Or.inl rfl) (pe_call (ok__law_saying T 5) (hr.mono (by omega)) (by rfl) T.g__law_saying T.F__law_saying.kp T.b__law_saying .nil pass0 (pa_cons (pv 1) (pa_cons pe_int (pa_cons pe_int pa_nil)))))
      (pss_cons (ps_par (i := 8) (j := 9) rfl S.nd rfl rfl (by decide) rfl rfl (pa_cons (pe_call (ok__law_bent T 40) (hr.mono (by omega)) (by rfl) T.g__law_bent T.F__law_bent.kp T.b__law_bent .nil pass0 (pa_cons (pv 3) (pa_cons pe_bl pa_nil))) (pa_cons (pe_call (ok__law_bent T 40) (hr.mono (by omega)) (by rfl) T.g__law_bent T.F__law_bent.kp T.b__law_bent .nil pass0 (pa_cons (pv 3) (pa_cons pe_bl pa_nil))) pa_nil)) (by rfl))
      (pss_cons (ps_if (pt_not (pt_val (pe_callG (ok__law_words_right T) (hr.mono (by first | decide | omega)) hgd (by rfl) T.g__law_words_right T.F__law_words_right.kp T.b__law_words_right .nil pass0 (pa_cons (pv 3) (pa_cons (pv 8) (pa_cons (pv 9) pa_nil)))))) (pss_one (ps_ret pe_bl)) pss_nil)
      (pss_one (ps_if (pt_not (pt_val (pe_call (ok__law_all_markings T) (hr.mono (by first | decide | omega)) (by rfl) T.g__law_all_markings T.F__law_all_markings.kp T.b__law_all_markings .nil pass0 (pa_cons (pe_call (ok__law_web T) (hr.mono (by first | decide | omega)) (by rfl) T.g__law_web T.F__law_web.kp T.b__law_web .nil pass0 (pa_cons (pv 1) (pa_cons pe_int (pa_cons pe_int pa_nil)))) (pa_cons (pv 3) (pa_cons (pv 8) (pa_cons (pv 9) pa_nil))))))) (pss_one (ps_ret pe_bl)) pss_nil))))))
      (pss_cons (ps_set (i := 3) S.nd rfl (Or.inl rfl) (pe_tup (pa_cons pe_str (pa_cons pe_int pa_nil))))
      (pss_cons (ps_set (i := 4) S.nd rfl (Or.inl rfl) (pe_tup (pa_cons pe_str (pa_cons (pe_tup (pa_cons pe_str (pa_cons pe_int pa_nil))) pa_nil))))
      (pss_cons (ps_for PassesOwn.never rfl (pi_range1 (by rfl) T.m_range (pa_cons pe_int pa_nil)) (pg_name (i := 5) S.nd rfl (Or.inl rfl)) (pss_one (ps_par (i := 3) (j := 4) rfl S.nd rfl rfl (by decide) rfl rfl (pa_cons (pe_tup (pa_cons pe_str (pa_cons pe_int (pa_cons (pv 3) pa_nil)))) (pa_cons (pe_tup (pa_cons pe_str (pa_cons pe_int (pa_cons (pv 4) pa_nil)))) pa_nil)) (by rfl))))
      (pss_cons (ps_if (pt_not (pt_val (pe_callG (ok__law_like50 T) (hr.mono (by first | decide | omega)) hgd (by rfl) T.g__law_like T.F__law_like.kp T.b__law_like .nil pass0 (pa_cons (pe_lst (pa_cons (pe_call (ok_inward T) (hr.mono (by first | decide | omega)) (by rfl) T.g_inward T.F_inward.kp T.b_inward .nil pass0 (pa_cons (pv 3) pa_nil)) (pa_cons (pe_call (ok_turned_about T) (hr.mono (by first | decide | omega)) (by rfl) T.g_turned_about T.F_turned_about.kp T.b_turned_about .nil pass0 (pa_cons (pv 3) pa_nil)) (pa_cons (pe_call (ok_inward T) (hr.mono (by first | decide | omega)) (by rfl) T.g_inward T.F_inward.kp T.b_inward .nil pass0 (pa_cons (pe_tup (pa_cons pe_str (pa_cons (pe_ix (ix_tupK (K := K)) (pv 3) pe_int (fun _ _ => rfl)) pa_nil))) pa_nil)) pa_nil)))) (pa_cons (pe_lst (pa_cons (pv 3) (pa_cons (pv 4) (pa_cons (pe_ix (ix_tupK (K := K)) (pv 4) pe_int (fun _ _ => rfl)) pa_nil)))) pa_nil))))) (pss_one (ps_ret pe_bl)) pss_nil)
      (pss_cons (ps_set (i := 6) S.nd rfl (Or.inl rfl) (pe_lst (pa_cons (pe_call (ok_is_positive T) (hr.mono (by first | decide | omega)) (by rfl) T.g_is_positive T.F_is_positive.kp T.b_is_positive .nil pass0 (pa_cons (pv 3) pa_nil)) (pa_cons (pe_call (ok_is_negative T) (hr.mono (by first | decide | omega)) (by rfl) T.g_is_negative T.F_is_negative.kp T.b_is_negative .nil pass0 (pa_cons (pv 3) pa_nil)) (pa_cons (pe_call (ok_is_positive T) (hr.mono (by first | decide | omega)) (by rfl) T.g_is_positive T.F_is_positive.kp T.b_is_positive .nil pass0 (pa_cons (pe_tup (pa_cons pe_str (pa_cons (pe_ix (ix_tupK (K := K)) (pv 3) pe_int (fun _ _ => rfl)) pa_nil))) pa_nil)) (pa_cons (pe_call (ok_is_negative T) (hr.mono (by first | decide | omega)) (by rfl) T.g_is_negative T.F_is_negative.kp T.b_is_negative .nil pass0 (pa_cons (pe_tup (pa_cons pe_str (pa_cons (pe_ix (ix_tupK (K := K)) (pv 3) pe_int (fun _ _ => rfl)) pa_nil))) pa_nil)) pa_nil))))))
      (pss_cons (ps_set (i := 7) S.nd rfl (Or.inl rfl) (pe_tup (pa_cons pe_str (pa_cons (pe_tup (pa_cons pe_str (pa_cons pe_int (pa_cons (pe_tup (pa_cons pe_str (pa_cons pe_int pa_nil))) pa_nil)))) (pa_cons (pe_tup (pa_cons pe_str (pa_cons pe_int pa_nil))) pa_nil)))))
      (pss_cons (ps_set (i := 6) S.nd rfl (Or.inl rfl) (pe_op op_cat (pv 6) (pe_lst (pa_cons (pe_call (ok_inward T) (hr.mono (by first | decide | omega)) (by rfl) T.g_inward T.F_inward.kp T.b_inward .nil pass0 (pa_cons (pv 7) pa_nil)) (pa_cons (pe_call (ok_turned_about T) (hr.mono (by first | decide | omega)) (by rfl) T.g_turned_about T.F_turned_about.kp T.b_turned_about .nil pass0 (pa_cons (pv 7) pa_nil)) pa_nil)))))
      (pss_cons (ps_set (i := 8) S.nd rfl (Or.inl rfl) (pe_lst (pa_cons pe_bl (pa_cons pe_bl (pa_cons pe_bl (pa_cons pe_bl (pa_cons (pe_tup (pa_cons pe_str (pa_cons (pe_tup (pa_cons pe_str (pa_cons pe_int (pa_cons (pe_tup (pa_cons pe_str (pa_cons (pe_tup (pa_cons pe_str (pa_cons pe_int pa_nil))) pa_nil))) pa_nil)))) (pa_cons (pe_tup (pa_cons pe_str (pa_cons pe_int pa_nil))) pa_nil)))) pa_nil)))))))
      (pss_one (ps_ret (pe_callG (ok__law_like50 T) (hr.mono (by first | decide | omega)) hgd (by rfl) T.g__law_like T.F__law_like.kp T.b__law_like .nil pass0 (pa_cons (pv 6) (pa_cons (pe_op op_cat (pv 8) (pe_lst (pa_cons (pe_tup (pa_cons pe_str (pa_cons (pe_tup (pa_cons pe_str (pa_cons pe_int (pa_cons (pe_tup (pa_cons pe_str (pa_cons pe_int pa_nil))) pa_nil)))) (pa_cons (pe_tup (pa_cons pe_str (pa_cons (pe_tup (pa_cons pe_str (pa_cons pe_int pa_nil))) pa_nil))) pa_nil)))) pa_nil))) pa_nil))))))))))))))), ?_⟩
    refine ⟨.ref a, rfl, a, ns, rfl, hs, hn, fun H1 st c l e1 h1 _ _ => ?_⟩
    refine ⟨3, rfl, by decide, by decide, ?_⟩
    refine for_range (lo := 0) (n := 3) (fun t σ H' => StAt K H' st c l (300 * t) ∧ ∃ y2 y3 y8 y9, σ = [some (.ref a), some (.ref st), y2, y3, none, none, none, none, y8, y9]) ⟨h1, none, none, none, none, rfl⟩ (fun t σ H2 ht h => ?_) (fun σ H2 h => ?_)
    · obtain ⟨st2, y2, y3, y8, y9, rfl⟩ := h
      refine ⟨.ref st, rfl, st, c, l, 300 * t, 2, rfl, by decide, by decide, by decide, st2, by omega, fun H3 v s st3 _ dv ok d5 => ?_⟩
      refine ⟨v, rfl, v, s, false, rfl, dv, ok, by omega, fun H4 u e4 du => ?_⟩
      refine ⟨v, rfl, v, s, true, rfl, dp_same e4 _ _ dv, ok, by omega, fun H5 y e5 dy => ?_⟩
      refine ⟨_, _, rfl, ?_⟩
      have e45 := e4.trans e5
      refine ⟨v, rfl, u, rfl, y, rfl, v, u, y, s, rfl, dp_same e45 _ _ dv, dp_same e5 _ _ du, dy, ok, d5, fun H6 e6 => ⟨true, rfl, ?_⟩⟩
      refine iteF ?_
      have st6 := st3.same (e45.trans e6)
      refine ⟨.ref st, rfl, st, c, l, _, 2, 2, rfl, by decide, by decide, by decide, st6, ?_, fun H7 w7 n A st7 x7 dw wok n2 _ => ?_⟩
      · have : (2 : Nat) ^ 5 = 32 := rfl
        omega
      refine ⟨v, rfl, u, rfl, y, rfl, w7, v, u, y, n, A, s, rfl, dw, wok, n2, ?_, ?_, ?_, ok, d5, fun H8 e8 => ⟨true, rfl, ?_⟩⟩
      · exact say_x st6 x7 (dp_same (e45.trans e6) _ _ dv)
      · exact say_x st6 x7 (dp_same (e5.trans e6) _ _ du)
      · exact say_x st6 x7 (dp_same e6 _ _ dy)
      refine iteF ?_
      refine ⟨(st7.same e8).mono ?_, _, _, _, _, rfl⟩
      have : (2 : Nat) ^ 5 = 32 := rfl
      omega
    obtain ⟨_, y2, y3, y8, y9, rfl⟩ := h
    clear h1 hs e1
    refine ⟨by show 2 ≤ sizeLine; decide, fun z0 n_z0 => ?_⟩
    have d_z0 : Dp K _ (.ref z0) (dSay (upS 0)) := dp_mk n_z0 (.cons (.str _) (.cons (.int _) .nil))
    have e_z0 := same_new (o := .tup [.str "letter", .int 0]) n_z0
    clear e_z0
    generalize upd _ z0 _ = H201 at d_z0
    refine ⟨by show 2 ≤ sizeLine; decide, fun b0 n_b0 => ?_⟩
    have d_b0 : Dp K _ (.ref b0) (dSay (.lt 0)) := dp_mk n_b0 (.cons (.str _) (.cons (.int _) .nil))
    have e_b0 := same_new (o := .tup [.str "letter", .int 0]) n_b0
    replace d_z0 := dp_same e_b0 _ _ d_z0
    clear e_b0
    generalize upd _ b0 _ = H202 at d_z0 d_b0
    refine ⟨by show 2 ≤ sizeLine; decide, fun b1 n_b1 => ?_⟩
    have d_b1 : Dp K _ (.ref b1) (dSay (dnS 0)) := dp_mk n_b1 (.cons (.str _) (.cons d_b0 .nil))
    have e_b1 := same_new (o := .tup [.str "not", .ref b0]) n_b1
    replace d_z0 := dp_same e_b1 _ _ d_z0
    replace d_b0 := dp_same e_b1 _ _ d_b0
    clear e_b1
    generalize upd _ b1 _ = H203 at d_z0 d_b0 d_b1
    clear d_b0
    refine ⟨39, rfl, by decide, by decide, ?_⟩
    refine for_range (lo := 0) (n := 39) (fun j σ H' => ∃ z b y5, σ = [some (.ref a), some (.ref st), y2, some (.ref z), some (.ref b), y5, none, none, y8, y9] ∧ Dp K H' (.ref z) (dSay (upS j)) ∧ Dp K H' (.ref b) (dSay (dnS j)))
      ⟨z0, b1, none, rfl, d_z0, d_b1⟩ (fun j σ H3 hj h => ?_) (fun σ H3 h => ?_)
    · obtain ⟨z, b, y5, rfl, dz, db⟩ := h
      refine ⟨.ref z, rfl, by show 3 ≤ sizeLine; decide, fun z' nz => ⟨.ref b, rfl, by show 3 ≤ sizeLine; decide, fun b' nb => ?_⟩⟩
      have ez := same_new (o := .tup [.str "some", .int 0, .ref z]) nz
      have eb := same_new (o := .tup [.str "each", .int 0, .ref b]) nb
      have d1 : Dp K _ (.ref z') (dSay (upS (j + 1))) := dp_mk nz (.cons (.str _) (.cons (.int _) (.cons dz .nil)))
      have d2 : Dp K _ (.ref b') (dSay (dnS (j + 1))) := dp_mk nb (.cons (.str _) (.cons (.int _) (.cons (dp_same ez _ _ db) .nil)))
      exact ⟨_, _, rfl, z', b', _, rfl, dp_same eb _ _ d1, d2⟩
    obtain ⟨z, b, y5, rfl, dz, db⟩ := h
    clear d_z0 d_b1
    have okz := up_ok 39
    have dpz : (upS 39).deep ≤ 40 := by
      rw [up_deep]
      exact Nat.le_refl 40
    have wdz : (upS 39).words.length ≤ 400 := by rw [up_words]; decide
    have okn : (Say.nt (upS 38)).Ok := up_ok 38
    have dpn : (Say.nt (upS 38)).deep ≤ 40 := by
      show (upS 38).deep + 1 ≤ 40
      rw [up_deep]
      decide
    have wdn : (Say.nt (upS 38)).words.length ≤ 400 := by
      show (upS 38).words.length + 1 ≤ 400
      rw [up_words]
      decide
    have tz : turnS false (upS 39) = upS 39 := up_in 39
    have tn : turnS false (Say.nt (upS 38)) = dnS 38 := up_about 38
    -- [inward(told), turned_about(told), inward(('not', told[2]))]
    refine ⟨.ref z, rfl, .ref z, upS 39, rfl, dz, okz, dpz, wdz, fun H4 v1 e1 d1 => ?_⟩
    refine ⟨.ref z, rfl, .ref z, upS 39, rfl, dp_same e1 _ _ dz, okz, dpz, wdz, fun H5 v2 e2 d2 => ?_⟩
    rw [tz] at d1
    rw [up_about] at d2
    replace dz := dp_same (e1.trans e2) _ _ dz
    replace db := dp_same (e1.trans e2) _ _ db
    replace d1 := dp_same e2 _ _ d1
    clear e1 e2
    obtain ⟨z', zs, ez, hz, hda⟩ := dp_tup (show Dp K _ (.ref z) (.tuple [.str "some", .int 0, dSay (upS 38)]) from dz)
    cases ez
    obtain ⟨zt, rfl, dzt⟩ : ∃ zt, zs = [.str "some", .int 0, zt] ∧ Dp K H5 zt (dSay (upS 38)) := by
      cases hda with
      | cons h1 h2 =>
        cases h2 with
        | cons h2 h3 =>
          cases h3 with
          | cons h3 h4 =>
            cases h4
            rw [dp_str h1, dp_int h2]
            exact ⟨_, rfl, h3⟩
    obtain ⟨b', bs, eb, hb, hdb⟩ := dp_tup (show Dp K _ (.ref b) (.tuple [.str "each", .int 0, dSay (dnS 38)]) from db)
    cases eb
    obtain ⟨bt, rfl, dbt⟩ : ∃ bt, bs = [.str "each", .int 0, bt] ∧ Dp K H5 bt (dSay (dnS 38)) := by
      cases hdb with
      | cons h1 h2 =>
        cases h2 with
        | cons h2 h3 =>
          cases h3 with
          | cons h3 h4 =>
            cases h4
            rw [dp_str h1, dp_int h2]
            exact ⟨_, rfl, h3⟩
    refine ⟨.ref z, rfl, z, _, 2, zt, rfl, rfl, hz, atI_nat (j := 2) rfl, by show 2 ≤ sizeLine; decide, fun m nm => ?_⟩
    have em := same_new (o := .tup [.str "not", zt]) nm
    have dm : Dp K _ (.ref m) (dSay (.nt (upS 38))) := dp_mk nm (.cons (.str _) (.cons dzt .nil))
    refine ⟨.ref m, Say.nt (upS 38), rfl, dm, okn, dpn, wdn, fun H6 v3 e3 d3 => ?_⟩
    rw [tn] at d3
    have eA := em.trans e3
    refine ⟨by show 3 ≤ sizeLine; decide, fun G nG => ?_⟩
    have l1 := dp_mkl (K := K) nG (.cons (dp_same eA _ _ d1) (.cons (dp_same eA _ _ d2) (.cons d3 .nil)))
    have eB := eA.trans (same_new (o := .lst [v1, v2, v3]) nG)
    replace dz := dp_same eB _ _ dz
    replace db := dp_same eB _ _ db
    replace hz := same_tup eB hz
    replace hb := same_tup eB hb
    replace dzt := dp_same eB _ _ dzt
    replace dbt := dp_same eB _ _ dbt
    clear eA eB em dm d1 d2 d3 e3 nm
    generalize upd _ G _ = H7 at l1 dz db hz hb dzt dbt
    refine ⟨.ref z, rfl, .ref b, rfl, .ref b, rfl, b, _, 2, bt, rfl, rfl, hb, atI_nat (j := 2) rfl, by show 3 ≤ sizeLine; decide, fun G2 nG2 => ?_⟩
    have l2 := dp_mkl (K := K) nG2 (.cons dz (.cons db (.cons dbt .nil)))
    have eB := same_new (o := .lst [.ref z, .ref b, bt]) nG2
    refine ⟨G, G2, _, rfl, dp_same eB _ _ l1, l2, ?_, true, rfl, ?_⟩
    · refine Fine.mono (Fine.lst (k := 41) (n := 600) (m := 3) (fun d hd => ?_) (Nat.le_refl 3)) (by decide) (by decide)
      rcases List.mem_cons.mp hd with rfl | hd
      · exact (fine_up 39).mono (by decide) (by decide)
      rcases List.mem_cons.mp hd with rfl | hd
      · exact (fine_dn 39).mono (by decide) (by decide)
      · rw [List.mem_singleton.mp hd]
        exact (fine_dn 38).mono (by decide) (by decide)
    refine iteF ?_
    replace dz := dp_same eB _ _ dz
    replace hz := same_tup eB hz
    replace dzt := dp_same eB _ _ dzt
    clear l1 l2 eB db hb dbt
    generalize upd _ G2 _ = H8 at dz hz dzt
    -- got
    refine ⟨.ref z, rfl, .ref z, upS 39, rfl, dz, okz, dpz, wdz, fun H9 e9 => ?_⟩
    refine ⟨.ref z, rfl, .ref z, upS 39, rfl, dp_same e9 _ _ dz, okz, dpz, wdz, fun H10 e10 => ?_⟩
    rw [pos_sgn okz, neg_sgn okz, tz, up_sgn]
    have e910 := e9.trans e10
    replace dz := dp_same e910 _ _ dz
    replace hz := same_tup e910 hz
    replace dzt := dp_same e910 _ _ dzt
    clear e9 e10 e910
    refine ⟨.ref z, rfl, z, _, 2, zt, rfl, rfl, hz, atI_nat (j := 2) rfl, by show 2 ≤ sizeLine; decide, fun m nm => ?_⟩
    have em := same_new (o := .tup [.str "not", zt]) nm
    have dm : Dp K _ (.ref m) (dSay (.nt (upS 38))) := dp_mk nm (.cons (.str _) (.cons dzt .nil))
    refine ⟨.ref m, Say.nt (upS 38), rfl, dm, okn, dpn, wdn, fun H11 e11 => ?_⟩
    have e12 := em.trans e11
    replace hz := same_tup e12 hz
    replace dzt := dp_same e12 _ _ dzt
    clear dm em e11 e12 nm dz
    refine ⟨.ref z, rfl, z, _, 2, zt, rfl, rfl, hz, atI_nat (j := 2) rfl, by show 2 ≤ sizeLine; decide, fun m2 nm2 => ?_⟩
    have dm : Dp K _ (.ref m2) (dSay (.nt (upS 38))) := dp_mk nm2 (.cons (.str _) (.cons dzt .nil))
    refine ⟨.ref m2, Say.nt (upS 38), rfl, dm, okn, dpn, wdn, fun H12 e12 => ?_⟩
    rw [pos_sgn okn, neg_sgn okn, tn, dn_sgn]
    refine ⟨by show 4 ≤ sizeLine; decide, fun gt ngt => ?_⟩
    have d_gt : upd H12 gt (.lst [.bl true, .bl false, .bl false, .bl true]) gt = some (.lst [.bl true, .bl false, .bl false, .bl true]) := upd_same
    clear dm e12 nm2 hz dzt
    show gName 6 (V.ref gt) _ (upd H12 gt (.lst [.bl true, .bl false, .bl false, .bl true])) _
    generalize upd H12 gt _ = H200 at d_gt
    refine ⟨by show 2 ≤ sizeLine; decide, fun p1 n_p1 => ?_⟩
    have d_p1 : Dp K _ (.ref p1) (dSay (.lt 0)) := dp_mk n_p1 (.cons (.str _) (.cons (.int _) .nil))
    have e_p1 := same_new (o := .tup [.str "letter", .int 0]) n_p1
    replace d_gt := e_p1 _ _ d_gt
    clear e_p1
    generalize upd _ p1 _ = H204 at d_gt d_p1
    refine ⟨by show 3 ≤ sizeLine; decide, fun p2 n_p2 => ?_⟩
    have d_p2 : Dp K _ (.ref p2) (dSay (.ea 0 (.lt 0))) := dp_mk n_p2 (.cons (.str _) (.cons (.int _) (.cons d_p1 .nil)))
    have e_p2 := same_new (o := .tup [.str "each", .int 0, .ref p1]) n_p2
    replace d_gt := e_p2 _ _ d_gt
    replace d_p1 := dp_same e_p2 _ _ d_p1
    clear e_p2
    generalize upd _ p2 _ = H205 at d_gt d_p1 d_p2
    clear d_p1
    refine ⟨by show 2 ≤ sizeLine; decide, fun p3 n_p3 => ?_⟩
    have d_p3 : Dp K _ (.ref p3) (dSay (.lt 0)) := dp_mk n_p3 (.cons (.str _) (.cons (.int _) .nil))
    have e_p3 := same_new (o := .tup [.str "letter", .int 0]) n_p3
    replace d_gt := e_p3 _ _ d_gt
    replace d_p2 := dp_same e_p3 _ _ d_p2
    clear e_p3
    generalize upd _ p3 _ = H206 at d_gt d_p2 d_p3
    refine ⟨by show 3 ≤ sizeLine; decide, fun pl n_pl => ?_⟩
    have d_pl : Dp K _ (.ref pl) (dSay (.gv (.ea 0 (.lt 0)) (.lt 0))) := dp_mk n_pl (.cons (.str _) (.cons d_p2 (.cons d_p3 .nil)))
    have e_pl := same_new (o := .tup [.str "gives", .ref p2, .ref p3]) n_pl
    replace d_gt := e_pl _ _ d_gt
    replace d_p2 := dp_same e_pl _ _ d_p2
    replace d_p3 := dp_same e_pl _ _ d_p3
    clear e_pl
    generalize upd _ pl _ = H207 at d_gt d_p2 d_p3 d_pl
    clear d_p2
    clear d_p3
    have okp : (Say.gv (.ea 0 (.lt 0)) (.lt 0)).Ok := ⟨⟨by decide, (by decide : 0 < 8)⟩, (by decide : 0 < 8)⟩
    refine ⟨.ref gt, rfl, .ref pl, rfl, .ref pl, _, rfl, d_pl, okp, by decide, by decide, fun H300 v1 e1 d1 => ?_⟩
    refine ⟨.ref pl, rfl, .ref pl, _, rfl, dp_same e1 _ _ d_pl, okp, by decide, by decide, fun H301 v2 e2 d2 => ?_⟩
    replace d1 := dp_same e2 _ _ d1
    replace d_gt := (e1.trans e2) _ _ d_gt
    clear d_pl e1 e2
    refine ⟨by show 2 ≤ sizeLine; decide, fun g2 ng2 => ?_⟩
    have e1 := same_new (o := .lst [v1, v2]) ng2
    have h2 : upd H301 g2 (.lst [v1, v2]) g2 = some (.lst [v1, v2]) := upd_same
    replace d1 := dp_same e1 _ _ d1
    replace d2 := dp_same e1 _ _ d2
    replace d_gt := e1 _ _ d_gt
    clear e1
    generalize upd _ g2 _ = H302 at d1 d2 d_gt h2
    refine ⟨gt, g2, _, _, rfl, rfl, d_gt, h2, by show 4 + 2 ≤ sizeLine; decide, fun gg ngg => ?_⟩
    have d_gg : Dp K (upd H302 gg (.lst ([V.bl true, V.bl false, V.bl false, V.bl true] ++ [v1, v2]))) (.ref gg) (.list [.bool true, .bool false, .bool false, .bool true, dSay (.orr (.so 0 (.nt (.lt 0))) (.lt 0)), dSay (.an (.ea 0 (.lt 0)) (.nt (.lt 0)))]) := dp_mkl ngg (.cons (.bl true) (.cons (.bl false) (.cons (.bl false) (.cons (.bl true) (.cons d1 (.cons d2 .nil))))))
    clear d1 d2 d_gt h2
    generalize upd H302 gg (.lst ([V.bl true, V.bl false, V.bl false, V.bl true] ++ [v1, v2])) = H303 at d_gg
    refine ⟨by show 2 ≤ sizeLine; decide, fun q1 n_q1 => ?_⟩
    have d_q1 : Dp K _ (.ref q1) (dSay (.lt 0)) := dp_mk n_q1 (.cons (.str _) (.cons (.int _) .nil))
    have e_q1 := same_new (o := .tup [.str "letter", .int 0]) n_q1
    replace d_gg := dp_same e_q1 _ _ d_gg
    clear e_q1
    generalize upd _ q1 _ = H601 at d_gg d_q1
    refine ⟨by show 2 ≤ sizeLine; decide, fun q2 n_q2 => ?_⟩
    have d_q2 : Dp K _ (.ref q2) (dSay (.nt (.lt 0))) := dp_mk n_q2 (.cons (.str _) (.cons d_q1 .nil))
    have e_q2 := same_new (o := .tup [.str "not", .ref q1]) n_q2
    replace d_gg := dp_same e_q2 _ _ d_gg
    replace d_q1 := dp_same e_q2 _ _ d_q1
    clear e_q2
    generalize upd _ q2 _ = H602 at d_gg d_q1 d_q2
    clear d_q1
    refine ⟨by show 3 ≤ sizeLine; decide, fun q3 n_q3 => ?_⟩
    have d_q3 : Dp K _ (.ref q3) (dSay (.so 0 (.nt (.lt 0)))) := dp_mk n_q3 (.cons (.str _) (.cons (.int _) (.cons d_q2 .nil)))
    have e_q3 := same_new (o := .tup [.str "some", .int 0, .ref q2]) n_q3
    replace d_gg := dp_same e_q3 _ _ d_gg
    replace d_q2 := dp_same e_q3 _ _ d_q2
    clear e_q3
    generalize upd _ q3 _ = H603 at d_gg d_q2 d_q3
    clear d_q2
    refine ⟨by show 2 ≤ sizeLine; decide, fun q4 n_q4 => ?_⟩
    have d_q4 : Dp K _ (.ref q4) (dSay (.lt 0)) := dp_mk n_q4 (.cons (.str _) (.cons (.int _) .nil))
    have e_q4 := same_new (o := .tup [.str "letter", .int 0]) n_q4
    replace d_gg := dp_same e_q4 _ _ d_gg
    replace d_q3 := dp_same e_q4 _ _ d_q3
    clear e_q4
    generalize upd _ q4 _ = H604 at d_gg d_q3 d_q4
    refine ⟨by show 3 ≤ sizeLine; decide, fun q5 n_q5 => ?_⟩
    have d_q5 : Dp K _ (.ref q5) (dSay (.orr (.so 0 (.nt (.lt 0))) (.lt 0))) := dp_mk n_q5 (.cons (.str _) (.cons d_q3 (.cons d_q4 .nil)))
    have e_q5 := same_new (o := .tup [.str "or", .ref q3, .ref q4]) n_q5
    replace d_gg := dp_same e_q5 _ _ d_gg
    replace d_q3 := dp_same e_q5 _ _ d_q3
    replace d_q4 := dp_same e_q5 _ _ d_q4
    clear e_q5
    generalize upd _ q5 _ = H605 at d_gg d_q3 d_q4 d_q5
    clear d_q3
    clear d_q4
    refine ⟨by show 5 ≤ sizeLine; decide, fun du ndu => ?_⟩
    have e1 := same_new (o := .lst [.bl true, .bl false, .bl false, .bl true, .ref q5]) ndu
    have d_du : upd H605 du (.lst [.bl true, .bl false, .bl false, .bl true, .ref q5]) du = some (.lst [.bl true, .bl false, .bl false, .bl true, .ref q5]) := upd_same
    replace d_q5 := dp_same e1 _ _ d_q5
    replace d_gg := dp_same e1 _ _ d_gg
    clear e1
    generalize upd _ du _ = H500 at d_du d_q5 d_gg
    refine ⟨.ref gg, rfl, .ref du, rfl, ?_⟩
    refine ⟨by show 2 ≤ sizeLine; decide, fun s1 n_s1 => ?_⟩
    have d_s1 : Dp K _ (.ref s1) (dSay (.lt 0)) := dp_mk n_s1 (.cons (.str _) (.cons (.int _) .nil))
    have e_s1 := same_new (o := .tup [.str "letter", .int 0]) n_s1
    replace d_gg := dp_same e_s1 _ _ d_gg
    replace d_q5 := dp_same e_s1 _ _ d_q5
    replace d_du := e_s1 _ _ d_du
    clear e_s1
    generalize upd _ s1 _ = H801 at d_gg d_q5 d_du d_s1
    refine ⟨by show 3 ≤ sizeLine; decide, fun s2 n_s2 => ?_⟩
    have d_s2 : Dp K _ (.ref s2) (dSay (.ea 0 (.lt 0))) := dp_mk n_s2 (.cons (.str _) (.cons (.int _) (.cons d_s1 .nil)))
    have e_s2 := same_new (o := .tup [.str "each", .int 0, .ref s1]) n_s2
    replace d_gg := dp_same e_s2 _ _ d_gg
    replace d_q5 := dp_same e_s2 _ _ d_q5
    replace d_du := e_s2 _ _ d_du
    replace d_s1 := dp_same e_s2 _ _ d_s1
    clear e_s2
    generalize upd _ s2 _ = H802 at d_gg d_q5 d_du d_s1 d_s2
    clear d_s1
    refine ⟨by show 2 ≤ sizeLine; decide, fun s3 n_s3 => ?_⟩
    have d_s3 : Dp K _ (.ref s3) (dSay (.lt 0)) := dp_mk n_s3 (.cons (.str _) (.cons (.int _) .nil))
    have e_s3 := same_new (o := .tup [.str "letter", .int 0]) n_s3
    replace d_gg := dp_same e_s3 _ _ d_gg
    replace d_q5 := dp_same e_s3 _ _ d_q5
    replace d_du := e_s3 _ _ d_du
    replace d_s2 := dp_same e_s3 _ _ d_s2
    clear e_s3
    generalize upd _ s3 _ = H803 at d_gg d_q5 d_du d_s2 d_s3
    refine ⟨by show 2 ≤ sizeLine; decide, fun s4 n_s4 => ?_⟩
    have d_s4 : Dp K _ (.ref s4) (dSay (.nt (.lt 0))) := dp_mk n_s4 (.cons (.str _) (.cons d_s3 .nil))
    have e_s4 := same_new (o := .tup [.str "not", .ref s3]) n_s4
    replace d_gg := dp_same e_s4 _ _ d_gg
    replace d_q5 := dp_same e_s4 _ _ d_q5
    replace d_du := e_s4 _ _ d_du
    replace d_s2 := dp_same e_s4 _ _ d_s2
    replace d_s3 := dp_same e_s4 _ _ d_s3
    clear e_s4
    generalize upd _ s4 _ = H804 at d_gg d_q5 d_du d_s2 d_s3 d_s4
    clear d_s3
    refine ⟨by show 3 ≤ sizeLine; decide, fun s5 n_s5 => ?_⟩
    have d_s5 : Dp K _ (.ref s5) (dSay (.an (.ea 0 (.lt 0)) (.nt (.lt 0)))) := dp_mk n_s5 (.cons (.str _) (.cons d_s2 (.cons d_s4 .nil)))
    have e_s5 := same_new (o := .tup [.str "and", .ref s2, .ref s4]) n_s5
    replace d_gg := dp_same e_s5 _ _ d_gg
    replace d_q5 := dp_same e_s5 _ _ d_q5
    replace d_du := e_s5 _ _ d_du
    replace d_s2 := dp_same e_s5 _ _ d_s2
    replace d_s4 := dp_same e_s5 _ _ d_s4
    clear e_s5
    generalize upd _ s5 _ = H805 at d_gg d_q5 d_du d_s2 d_s4 d_s5
    clear d_s2
    clear d_s4
    refine ⟨by show 1 ≤ sizeLine; decide, fun x1 nx1 => ?_⟩
    have e1 := same_new (o := .lst [.ref s5]) nx1
    have h2 : upd H805 x1 (.lst [.ref s5]) x1 = some (.lst [.ref s5]) := upd_same
    replace d_q5 := dp_same e1 _ _ d_q5
    replace d_gg := dp_same e1 _ _ d_gg
    replace d_s5 := dp_same e1 _ _ d_s5
    replace d_du := e1 _ _ d_du
    clear e1
    generalize upd _ x1 _ = H700 at d_du d_q5 d_gg d_s5 h2
    refine ⟨du, x1, _, _, rfl, rfl, d_du, h2, by show 5 + 1 ≤ sizeLine; decide, fun ff nff => ?_⟩
    have d_ff : Dp K _ (.ref ff) (.list [.bool true, .bool false, .bool false, .bool true, dSay (.orr (.so 0 (.nt (.lt 0))) (.lt 0)), dSay (.an (.ea 0 (.lt 0)) (.nt (.lt 0)))]) := dp_mkl nff (.cons (.bl true) (.cons (.bl false) (.cons (.bl false) (.cons (.bl true) (.cons d_q5 (.cons d_s5 .nil))))))
    refine ⟨gg, ff, _, rfl, dp_same (same_new nff) _ _ d_gg, d_ff, ?_, q _⟩
    refine Fine.mono (Fine.lst (k := 4) (n := 10 * 4 ^ 4) (m := 6) (fun d hd => ?_) (Nat.le_refl 6)) (by decide) (by decide)
    have s1 := fine_say 4 (.orr (.so 0 (.nt (.lt 0))) (.lt 0)) ⟨⟨by decide, (by decide : 0 < 8)⟩, (by decide : 0 < 8)⟩ (by decide)
    have s2 := fine_say 4 (.an (.ea 0 (.lt 0)) (.nt (.lt 0))) ⟨⟨by decide, (by decide : 0 < 8)⟩, (by decide : 0 < 8)⟩ (by decide)
    have fb : ∀ b : Bool, Fine 4 (10 * 4 ^ 4) (.bool b) := fun b => (Fine.bl b).mono (by decide) (by decide)
    simp only [List.mem_cons, List.not_mem_nil, or_false] at hd
    rcases hd with rfl | rfl | rfl | rfl | rfl | rfl
    · exact fb true
    · exact fb false
    · exact fb false
    · exact fb true
    · exact s1
    · exact s2
end
end K0

namespace K0
open PySem PySem.Spec PyProof.Rows L2 W0 W1 W2 W5 W6
theorem keys_lit {P : Params} {l : List DictEntry} {ks : List (Str × Tok)} (h : l.map (fun e => (e.key, e.hash)) = ks.map fun k => (Value.str k.1 k.2, PyData.keyHash P k.1)) : PySem.W.KeysLit P l := by
  induction l generalizing ks with
  | nil => trivial
  | cons e l ih =>
    cases ks with
    | nil => cases h
    | cons k ks =>
      obtain ⟨h1, h2⟩ := List.cons.inj h
      exact ⟨⟨k.1, k.2, congrArg Prod.fst h1, congrArg Prod.snd h1⟩, ih h2⟩
set_option maxHeartbeats 0 in
theorem all_mk {l : PySem.W.OpenLaw} {w : World} {K : PySem.W.Frag} {h : Heap} {mg : Str → Option Value} {fa : Addr} (X : K.In h) (G : h.Ns mainGlobals mg) (hfa : mg "law" = some (.ref fa))
    {C0 : Addr} (ac0 : PySem.W.nsIn K mainGlobals "Walk" = some (some (.ref C0))) (pg0 : PySem.W.plainGet K C0 Str.empty = true) (hd0 : PySem.W.hasDictIn K C0 = true) (po0 : PySem.W.plainOver K C0 = true) (sa0 : PySem.W.findIn K (.ref C0) "__setattr__" = some (some (.builtin "object.__setattr__"))) (mk0 : PySem.W.makesIn K C0 = true) (kc0 : PySem.W.keepIn K (.ref C0) = true)
    (na0_0 : PySem.W.findIn K (.ref C0) "letters" = some none)
    (na0_1 : PySem.W.findIn K (.ref C0) "denying" = some none)
    (na0_2 : PySem.W.findIn K (.ref C0) "most_deep" = some none)
    (na0_3 : PySem.W.findIn K (.ref C0) "most_words" = some none)
    (na0_4 : PySem.W.findIn K (.ref C0) "met" = some none)
    {C1 : Addr} (ac1 : PySem.W.nsIn K mainGlobals "Cases" = some (some (.ref C1))) (pg1 : PySem.W.plainGet K C1 Str.empty = true) (hd1 : PySem.W.hasDictIn K C1 = true) (po1 : PySem.W.plainOver K C1 = true) (sa1 : PySem.W.findIn K (.ref C1) "__setattr__" = some (some (.builtin "object.__setattr__"))) (mk1 : PySem.W.makesIn K C1 = true) (kc1 : PySem.W.keepIn K (.ref C1) = true)
    (na1_0 : PySem.W.findIn K (.ref C1) "leads" = some none)
    (na1_1 : PySem.W.findIn K (.ref C1) "marks" = some none)
    (na1_2 : PySem.W.findIn K (.ref C1) "heres" = some none)
    (na1_3 : PySem.W.findIn K (.ref C1) "full" = some none)
    {f0 : Addr} {od0 an0 : Option Addr} {sl0 : Array (Option Value)} {oc0 kV0 dc0 pm0 cd0 ct0 : Value}
    (a0 : PySem.W.nsIn K mainGlobals "is_number" = some (some (.ref f0))) (l0 : K.lookup f0 = some ⟨oc0, od0, .func (PySem.W.fnOf "is_number" "is_number" (defArgs s_is_number) (defBody s_is_number) (defScope s_is_number) .none kV0 dc0 pm0 an0 cd0 ct0), sl0⟩) (c0 : PySem.W.codeIn K cd0 "is_number" = true) (k0 : PySem.W.keepIn K (.ref f0) = true)
    {f1 : Addr} {od1 an1 : Option Addr} {sl1 : Array (Option Value)} {oc1 kV1 dc1 pm1 cd1 ct1 : Value}
    (a1 : PySem.W.nsIn K mainGlobals "is_tuple" = some (some (.ref f1))) (l1 : K.lookup f1 = some ⟨oc1, od1, .func (PySem.W.fnOf "is_tuple" "is_tuple" (defArgs s_is_tuple) (defBody s_is_tuple) (defScope s_is_tuple) .none kV1 dc1 pm1 an1 cd1 ct1), sl1⟩) (c1 : PySem.W.codeIn K cd1 "is_tuple" = true) (k1 : PySem.W.keepIn K (.ref f1) = true)
    {f2 : Addr} {od2 an2 : Option Addr} {sl2 : Array (Option Value)} {oc2 kV2 dc2 pm2 cd2 ct2 : Value}
    (a2 : PySem.W.nsIn K mainGlobals "is_ascending" = some (some (.ref f2))) (l2 : K.lookup f2 = some ⟨oc2, od2, .func (PySem.W.fnOf "is_ascending" "is_ascending" (defArgs s_is_ascending) (defBody s_is_ascending) (defScope s_is_ascending) .none kV2 dc2 pm2 an2 cd2 ct2), sl2⟩) (c2 : PySem.W.codeIn K cd2 "is_ascending" = true) (k2 : PySem.W.keepIn K (.ref f2) = true)
    {f3 : Addr} {od3 an3 : Option Addr} {sl3 : Array (Option Value)} {oc3 kV3 dc3 pm3 cd3 ct3 : Value}
    (a3 : PySem.W.nsIn K mainGlobals "need_web" = some (some (.ref f3))) (l3 : K.lookup f3 = some ⟨oc3, od3, .func (PySem.W.fnOf "need_web" "need_web" (defArgs s_need_web) (defBody s_need_web) (defScope s_need_web) .none kV3 dc3 pm3 an3 cd3 ct3), sl3⟩) (c3 : PySem.W.codeIn K cd3 "need_web" = true) (k3 : PySem.W.keepIn K (.ref f3) = true)
    {f4 : Addr} {od4 an4 : Option Addr} {sl4 : Array (Option Value)} {oc4 kV4 dc4 pm4 cd4 ct4 : Value}
    (a4 : PySem.W.nsIn K mainGlobals "_is_web" = some (some (.ref f4))) (l4 : K.lookup f4 = some ⟨oc4, od4, .func (PySem.W.fnOf "_is_web" "_is_web" (defArgs s__is_web) (defBody s__is_web) (defScope s__is_web) .none kV4 dc4 pm4 an4 cd4 ct4), sl4⟩) (c4 : PySem.W.codeIn K cd4 "_is_web" = true) (k4 : PySem.W.keepIn K (.ref f4) = true)
    {f5 : Addr} {od5 an5 : Option Addr} {sl5 : Array (Option Value)} {oc5 kV5 dc5 pm5 cd5 ct5 : Value}
    (a5 : PySem.W.nsIn K mainGlobals "_is_arrow" = some (some (.ref f5))) (l5 : K.lookup f5 = some ⟨oc5, od5, .func (PySem.W.fnOf "_is_arrow" "_is_arrow" (defArgs s__is_arrow) (defBody s__is_arrow) (defScope s__is_arrow) .none kV5 dc5 pm5 an5 cd5 ct5), sl5⟩) (c5 : PySem.W.codeIn K cd5 "_is_arrow" = true) (k5 : PySem.W.keepIn K (.ref f5) = true)
    {f6 : Addr} {od6 an6 : Option Addr} {sl6 : Array (Option Value)} {oc6 kV6 dc6 pm6 cd6 ct6 : Value}
    (a6 : PySem.W.nsIn K mainGlobals "turned_way" = some (some (.ref f6))) (l6 : K.lookup f6 = some ⟨oc6, od6, .func (PySem.W.fnOf "turned_way" "turned_way" (defArgs s_turned_way) (defBody s_turned_way) (defScope s_turned_way) .none kV6 dc6 pm6 an6 cd6 ct6), sl6⟩) (c6 : PySem.W.codeIn K cd6 "turned_way" = true) (k6 : PySem.W.keepIn K (.ref f6) = true)
    {f7 : Addr} {od7 an7 : Option Addr} {sl7 : Array (Option Value)} {oc7 kV7 dc7 pm7 cd7 ct7 : Value}
    (a7 : PySem.W.nsIn K mainGlobals "are_worlds" = some (some (.ref f7))) (l7 : K.lookup f7 = some ⟨oc7, od7, .func (PySem.W.fnOf "are_worlds" "are_worlds" (defArgs s_are_worlds) (defBody s_are_worlds) (defScope s_are_worlds) .none kV7 dc7 pm7 an7 cd7 ct7), sl7⟩) (c7 : PySem.W.codeIn K cd7 "are_worlds" = true) (k7 : PySem.W.keepIn K (.ref f7) = true)
    {f8 : Addr} {od8 an8 : Option Addr} {sl8 : Array (Option Value)} {oc8 kV8 dc8 pm8 cd8 ct8 : Value}
    (a8 : PySem.W.nsIn K mainGlobals "leads_of" = some (some (.ref f8))) (l8 : K.lookup f8 = some ⟨oc8, od8, .func (PySem.W.fnOf "leads_of" "leads_of" (defArgs s_leads_of) (defBody s_leads_of) (defScope s_leads_of) .none kV8 dc8 pm8 an8 cd8 ct8), sl8⟩) (c8 : PySem.W.codeIn K cd8 "leads_of" = true) (k8 : PySem.W.keepIn K (.ref f8) = true)
    {f9 : Addr} {od9 an9 : Option Addr} {sl9 : Array (Option Value)} {oc9 kV9 dc9 pm9 cd9 ct9 : Value}
    (a9 : PySem.W.findIn K (.ref C0) "__init__" = some (some (.ref f9))) (i9 : PySem.W.isFn K (.ref f9) = true) (l9 : K.lookup f9 = some ⟨oc9, od9, .func (PySem.W.fnOf "__init__" "Walk.__init__" (defArgs s_Walk___init__) (defBody s_Walk___init__) (defScope s_Walk___init__) .none kV9 dc9 pm9 an9 cd9 ct9), sl9⟩) (c9 : PySem.W.codeIn K cd9 "Walk.__init__" = true) (k9 : PySem.W.keepIn K (.ref f9) = true)
    {f10 : Addr} {od10 an10 : Option Addr} {sl10 : Array (Option Value)} {oc10 kV10 dc10 pm10 cd10 ct10 : Value}
    (a10 : PySem.W.findIn K (.ref C0) "wrong_path" = some (some (.ref f10))) (i10 : PySem.W.isFn K (.ref f10) = true) (l10 : K.lookup f10 = some ⟨oc10, od10, .func (PySem.W.fnOf "wrong_path" "Walk.wrong_path" (defArgs s_Walk_wrong_path) (defBody s_Walk_wrong_path) (defScope s_Walk_wrong_path) .none kV10 dc10 pm10 an10 cd10 ct10), sl10⟩) (c10 : PySem.W.codeIn K cd10 "Walk.wrong_path" = true) (k10 : PySem.W.keepIn K (.ref f10) = true)
    {f11 : Addr} {od11 an11 : Option Addr} {sl11 : Array (Option Value)} {oc11 kV11 dc11 pm11 cd11 ct11 : Value}
    (a11 : PySem.W.findIn K (.ref C0) "_met_if_right" = some (some (.ref f11))) (i11 : PySem.W.isFn K (.ref f11) = true) (l11 : K.lookup f11 = some ⟨oc11, od11, .func (PySem.W.fnOf "_met_if_right" "Walk._met_if_right" (defArgs s_Walk__met_if_right) (defBody s_Walk__met_if_right) (defScope s_Walk__met_if_right) .none kV11 dc11 pm11 an11 cd11 ct11), sl11⟩) (c11 : PySem.W.codeIn K cd11 "Walk._met_if_right" = true) (k11 : PySem.W.keepIn K (.ref f11) = true)
    {f12 : Addr} {od12 an12 : Option Addr} {sl12 : Array (Option Value)} {oc12 kV12 dc12 pm12 cd12 ct12 : Value}
    (a12 : PySem.W.findIn K (.ref C0) "_first_wrong" = some (some (.ref f12))) (i12 : PySem.W.isFn K (.ref f12) = true) (l12 : K.lookup f12 = some ⟨oc12, od12, .func (PySem.W.fnOf "_first_wrong" "Walk._first_wrong" (defArgs s_Walk__first_wrong) (defBody s_Walk__first_wrong) (defScope s_Walk__first_wrong) .none kV12 dc12 pm12 an12 cd12 ct12), sl12⟩) (c12 : PySem.W.codeIn K cd12 "Walk._first_wrong" = true) (k12 : PySem.W.keepIn K (.ref f12) = true)
    {f13 : Addr} {od13 an13 : Option Addr} {sl13 : Array (Option Value)} {oc13 kV13 dc13 pm13 cd13 ct13 : Value}
    (a13 : PySem.W.nsIn K mainGlobals "_parts_if_right" = some (some (.ref f13))) (l13 : K.lookup f13 = some ⟨oc13, od13, .func (PySem.W.fnOf "_parts_if_right" "_parts_if_right" (defArgs s__parts_if_right) (defBody s__parts_if_right) (defScope s__parts_if_right) .none kV13 dc13 pm13 an13 cd13 ct13), sl13⟩) (c13 : PySem.W.codeIn K cd13 "_parts_if_right" = true) (k13 : PySem.W.keepIn K (.ref f13) = true)
    {f14 : Addr} {od14 an14 : Option Addr} {sl14 : Array (Option Value)} {oc14 kV14 dc14 pm14 cd14 ct14 : Value}
    (a14 : PySem.W.nsIn K mainGlobals "levels_of" = some (some (.ref f14))) (l14 : K.lookup f14 = some ⟨oc14, od14, .func (PySem.W.fnOf "levels_of" "levels_of" (defArgs s_levels_of) (defBody s_levels_of) (defScope s_levels_of) .none kV14 dc14 pm14 an14 cd14 ct14), sl14⟩) (c14 : PySem.W.codeIn K cd14 "levels_of" = true) (k14 : PySem.W.keepIn K (.ref f14) = true)
    {f15 : Addr} {od15 an15 : Option Addr} {sl15 : Array (Option Value)} {oc15 kV15 dc15 pm15 cd15 ct15 : Value}
    (a15 : PySem.W.nsIn K mainGlobals "words_of" = some (some (.ref f15))) (l15 : K.lookup f15 = some ⟨oc15, od15, .func (PySem.W.fnOf "words_of" "words_of" (defArgs s_words_of) (defBody s_words_of) (defScope s_words_of) .none kV15 dc15 pm15 an15 cd15 ct15), sl15⟩) (c15 : PySem.W.codeIn K cd15 "words_of" = true) (k15 : PySem.W.keepIn K (.ref f15) = true)
    {f16 : Addr} {od16 an16 : Option Addr} {sl16 : Array (Option Value)} {oc16 kV16 dc16 pm16 cd16 ct16 : Value}
    (a16 : PySem.W.nsIn K mainGlobals "need_saying" = some (some (.ref f16))) (l16 : K.lookup f16 = some ⟨oc16, od16, .func (PySem.W.fnOf "need_saying" "need_saying" (defArgs s_need_saying) (defBody s_need_saying) (defScope s_need_saying) .none kV16 dc16 pm16 an16 cd16 ct16), sl16⟩) (c16 : PySem.W.codeIn K cd16 "need_saying" = true) (k16 : PySem.W.keepIn K (.ref f16) = true)
    {f17 : Addr} {od17 an17 : Option Addr} {sl17 : Array (Option Value)} {oc17 kV17 dc17 pm17 cd17 ct17 : Value}
    (a17 : PySem.W.nsIn K mainGlobals "need_marking" = some (some (.ref f17))) (l17 : K.lookup f17 = some ⟨oc17, od17, .func (PySem.W.fnOf "need_marking" "need_marking" (defArgs s_need_marking) (defBody s_need_marking) (defScope s_need_marking) .none kV17 dc17 pm17 an17 cd17 ct17), sl17⟩) (c17 : PySem.W.codeIn K cd17 "need_marking" = true) (k17 : PySem.W.keepIn K (.ref f17) = true)
    {f18 : Addr} {od18 an18 : Option Addr} {sl18 : Array (Option Value)} {oc18 kV18 dc18 pm18 cd18 ct18 : Value}
    (a18 : PySem.W.findIn K (.ref C1) "__init__" = some (some (.ref f18))) (i18 : PySem.W.isFn K (.ref f18) = true) (l18 : K.lookup f18 = some ⟨oc18, od18, .func (PySem.W.fnOf "__init__" "Cases.__init__" (defArgs s_Cases___init__) (defBody s_Cases___init__) (defScope s_Cases___init__) .none kV18 dc18 pm18 an18 cd18 ct18), sl18⟩) (c18 : PySem.W.codeIn K cd18 "Cases.__init__" = true) (k18 : PySem.W.keepIn K (.ref f18) = true)
    {f19 : Addr} {od19 an19 : Option Addr} {sl19 : Array (Option Value)} {oc19 kV19 dc19 pm19 cd19 ct19 : Value}
    (a19 : PySem.W.findIn K (.ref C1) "answers" = some (some (.ref f19))) (i19 : PySem.W.isFn K (.ref f19) = true) (l19 : K.lookup f19 = some ⟨oc19, od19, .func (PySem.W.fnOf "answers" "Cases.answers" (defArgs s_Cases_answers) (defBody s_Cases_answers) (defScope s_Cases_answers) .none kV19 dc19 pm19 an19 cd19 ct19), sl19⟩) (c19 : PySem.W.codeIn K cd19 "Cases.answers" = true) (k19 : PySem.W.keepIn K (.ref f19) = true)
    {f20 : Addr} {od20 an20 : Option Addr} {sl20 : Array (Option Value)} {oc20 kV20 dc20 pm20 cd20 ct20 : Value}
    (a20 : PySem.W.nsIn K mainGlobals "_everywhere" = some (some (.ref f20))) (l20 : K.lookup f20 = some ⟨oc20, od20, .func (PySem.W.fnOf "_everywhere" "_everywhere" (defArgs s__everywhere) (defBody s__everywhere) (defScope s__everywhere) .none kV20 dc20 pm20 an20 cd20 ct20), sl20⟩) (c20 : PySem.W.codeIn K cd20 "_everywhere" = true) (k20 : PySem.W.keepIn K (.ref f20) = true)
    {f21 : Addr} {od21 an21 : Option Addr} {sl21 : Array (Option Value)} {oc21 kV21 dc21 pm21 cd21 ct21 : Value}
    (a21 : PySem.W.nsIn K mainGlobals "somewhere" = some (some (.ref f21))) (l21 : K.lookup f21 = some ⟨oc21, od21, .func (PySem.W.fnOf "somewhere" "somewhere" (defArgs s_somewhere) (defBody s_somewhere) (defScope s_somewhere) .none kV21 dc21 pm21 an21 cd21 ct21), sl21⟩) (c21 : PySem.W.codeIn K cd21 "somewhere" = true) (k21 : PySem.W.keepIn K (.ref f21) = true)
    {f22 : Addr} {od22 an22 : Option Addr} {sl22 : Array (Option Value)} {oc22 kV22 dc22 pm22 cd22 ct22 : Value}
    (a22 : PySem.W.nsIn K mainGlobals "marked_where" = some (some (.ref f22))) (l22 : K.lookup f22 = some ⟨oc22, od22, .func (PySem.W.fnOf "marked_where" "marked_where" (defArgs s_marked_where) (defBody s_marked_where) (defScope s_marked_where) .none kV22 dc22 pm22 an22 cd22 ct22), sl22⟩) (c22 : PySem.W.codeIn K cd22 "marked_where" = true) (k22 : PySem.W.keepIn K (.ref f22) = true)
    {f23 : Addr} {od23 an23 : Option Addr} {sl23 : Array (Option Value)} {oc23 kV23 dc23 pm23 cd23 ct23 : Value}
    (a23 : PySem.W.nsIn K mainGlobals "worlds_where" = some (some (.ref f23))) (l23 : K.lookup f23 = some ⟨oc23, od23, .func (PySem.W.fnOf "worlds_where" "worlds_where" (defArgs s_worlds_where) (defBody s_worlds_where) (defScope s_worlds_where) .none kV23 dc23 pm23 an23 cd23 ct23), sl23⟩) (c23 : PySem.W.codeIn K cd23 "worlds_where" = true) (k23 : PySem.W.keepIn K (.ref f23) = true)
    {f24 : Addr} {od24 an24 : Option Addr} {sl24 : Array (Option Value)} {oc24 kV24 dc24 pm24 cd24 ct24 : Value}
    (a24 : PySem.W.nsIn K mainGlobals "holding" = some (some (.ref f24))) (l24 : K.lookup f24 = some ⟨oc24, od24, .func (PySem.W.fnOf "holding" "holding" (defArgs s_holding) (defBody s_holding) (defScope s_holding) .none kV24 dc24 pm24 an24 cd24 ct24), sl24⟩) (c24 : PySem.W.codeIn K cd24 "holding" = true) (k24 : PySem.W.keepIn K (.ref f24) = true)
    {f25 : Addr} {od25 an25 : Option Addr} {sl25 : Array (Option Value)} {oc25 kV25 dc25 pm25 cd25 ct25 : Value}
    (a25 : PySem.W.nsIn K mainGlobals "_answers" = some (some (.ref f25))) (l25 : K.lookup f25 = some ⟨oc25, od25, .func (PySem.W.fnOf "_answers" "_answers" (defArgs s__answers) (defBody s__answers) (defScope s__answers) .none kV25 dc25 pm25 an25 cd25 ct25), sl25⟩) (c25 : PySem.W.codeIn K cd25 "_answers" = true) (k25 : PySem.W.keepIn K (.ref f25) = true)
    {f26 : Addr} {od26 an26 : Option Addr} {sl26 : Array (Option Value)} {oc26 kV26 dc26 pm26 cd26 ct26 : Value}
    (a26 : PySem.W.nsIn K mainGlobals "marks_of" = some (some (.ref f26))) (l26 : K.lookup f26 = some ⟨oc26, od26, .func (PySem.W.fnOf "marks_of" "marks_of" (defArgs s_marks_of) (defBody s_marks_of) (defScope s_marks_of) .none kV26 dc26 pm26 an26 cd26 ct26), sl26⟩) (c26 : PySem.W.codeIn K cd26 "marks_of" = true) (k26 : PySem.W.keepIn K (.ref f26) = true)
    {f27 : Addr} {od27 an27 : Option Addr} {sl27 : Array (Option Value)} {oc27 kV27 dc27 pm27 cd27 ct27 : Value}
    (a27 : PySem.W.nsIn K mainGlobals "inward" = some (some (.ref f27))) (l27 : K.lookup f27 = some ⟨oc27, od27, .func (PySem.W.fnOf "inward" "inward" (defArgs s_inward) (defBody s_inward) (defScope s_inward) .none kV27 dc27 pm27 an27 cd27 ct27), sl27⟩) (c27 : PySem.W.codeIn K cd27 "inward" = true) (k27 : PySem.W.keepIn K (.ref f27) = true)
    {f28 : Addr} {od28 an28 : Option Addr} {sl28 : Array (Option Value)} {oc28 kV28 dc28 pm28 cd28 ct28 : Value}
    (a28 : PySem.W.nsIn K mainGlobals "turned_about" = some (some (.ref f28))) (l28 : K.lookup f28 = some ⟨oc28, od28, .func (PySem.W.fnOf "turned_about" "turned_about" (defArgs s_turned_about) (defBody s_turned_about) (defScope s_turned_about) .none kV28 dc28 pm28 an28 cd28 ct28), sl28⟩) (c28 : PySem.W.codeIn K cd28 "turned_about" = true) (k28 : PySem.W.keepIn K (.ref f28) = true)
    {f29 : Addr} {od29 an29 : Option Addr} {sl29 : Array (Option Value)} {oc29 kV29 dc29 pm29 cd29 ct29 : Value}
    (a29 : PySem.W.nsIn K mainGlobals "turned" = some (some (.ref f29))) (l29 : K.lookup f29 = some ⟨oc29, od29, .func (PySem.W.fnOf "turned" "turned" (defArgs s_turned) (defBody s_turned) (defScope s_turned) .none kV29 dc29 pm29 an29 cd29 ct29), sl29⟩) (c29 : PySem.W.codeIn K cd29 "turned" = true) (k29 : PySem.W.keepIn K (.ref f29) = true)
    {f30 : Addr} {od30 an30 : Option Addr} {sl30 : Array (Option Value)} {oc30 kV30 dc30 pm30 cd30 ct30 : Value}
    (a30 : PySem.W.nsIn K mainGlobals "judged" = some (some (.ref f30))) (l30 : K.lookup f30 = some ⟨oc30, od30, .func (PySem.W.fnOf "judged" "judged" (defArgs s_judged) (defBody s_judged) (defScope s_judged) .none kV30 dc30 pm30 an30 cd30 ct30), sl30⟩) (c30 : PySem.W.codeIn K cd30 "judged" = true) (k30 : PySem.W.keepIn K (.ref f30) = true)
    {f31 : Addr} {od31 an31 : Option Addr} {sl31 : Array (Option Value)} {oc31 kV31 dc31 pm31 cd31 ct31 : Value}
    (a31 : PySem.W.nsIn K mainGlobals "is_positive" = some (some (.ref f31))) (l31 : K.lookup f31 = some ⟨oc31, od31, .func (PySem.W.fnOf "is_positive" "is_positive" (defArgs s_is_positive) (defBody s_is_positive) (defScope s_is_positive) .none kV31 dc31 pm31 an31 cd31 ct31), sl31⟩) (c31 : PySem.W.codeIn K cd31 "is_positive" = true) (k31 : PySem.W.keepIn K (.ref f31) = true)
    {f32 : Addr} {od32 an32 : Option Addr} {sl32 : Array (Option Value)} {oc32 kV32 dc32 pm32 cd32 ct32 : Value}
    (a32 : PySem.W.nsIn K mainGlobals "is_negative" = some (some (.ref f32))) (l32 : K.lookup f32 = some ⟨oc32, od32, .func (PySem.W.fnOf "is_negative" "is_negative" (defArgs s_is_negative) (defBody s_is_negative) (defScope s_is_negative) .none kV32 dc32 pm32 an32 cd32 ct32), sl32⟩) (c32 : PySem.W.codeIn K cd32 "is_negative" = true) (k32 : PySem.W.keepIn K (.ref f32) = true)
    {f33 : Addr} {od33 an33 : Option Addr} {sl33 : Array (Option Value)} {oc33 kV33 dc33 pm33 cd33 ct33 : Value}
    (a33 : PySem.W.nsIn K mainGlobals "_law_mixed" = some (some (.ref f33))) (l33 : K.lookup f33 = some ⟨oc33, od33, .func (PySem.W.fnOf "_law_mixed" "_law_mixed" (defArgs s__law_mixed) (defBody s__law_mixed) (defScope s__law_mixed) .none kV33 dc33 pm33 an33 cd33 ct33), sl33⟩) (c33 : PySem.W.codeIn K cd33 "_law_mixed" = true) (k33 : PySem.W.keepIn K (.ref f33) = true)
    {f34 : Addr} {od34 an34 : Option Addr} {sl34 : Array (Option Value)} {oc34 kV34 dc34 pm34 cd34 ct34 : Value}
    (a34 : PySem.W.nsIn K mainGlobals "_law_begin" = some (some (.ref f34))) (l34 : K.lookup f34 = some ⟨oc34, od34, .func (PySem.W.fnOf "_law_begin" "_law_begin" (defArgs s__law_begin) (defBody s__law_begin) (defScope s__law_begin) .none kV34 dc34 pm34 an34 cd34 ct34), sl34⟩) (c34 : PySem.W.codeIn K cd34 "_law_begin" = true) (k34 : PySem.W.keepIn K (.ref f34) = true)
    {f35 : Addr} {od35 an35 : Option Addr} {sl35 : Array (Option Value)} {oc35 kV35 dc35 pm35 cd35 ct35 : Value}
    (a35 : PySem.W.nsIn K mainGlobals "_law_draw" = some (some (.ref f35))) (l35 : K.lookup f35 = some ⟨oc35, od35, .func (PySem.W.fnOf "_law_draw" "_law_draw" (defArgs s__law_draw) (defBody s__law_draw) (defScope s__law_draw) .none kV35 dc35 pm35 an35 cd35 ct35), sl35⟩) (c35 : PySem.W.codeIn K cd35 "_law_draw" = true) (k35 : PySem.W.keepIn K (.ref f35) = true)
    {f36 : Addr} {od36 an36 : Option Addr} {sl36 : Array (Option Value)} {oc36 kV36 dc36 pm36 cd36 ct36 : Value}
    (a36 : PySem.W.nsIn K mainGlobals "_law_web" = some (some (.ref f36))) (l36 : K.lookup f36 = some ⟨oc36, od36, .func (PySem.W.fnOf "_law_web" "_law_web" (defArgs s__law_web) (defBody s__law_web) (defScope s__law_web) .none kV36 dc36 pm36 an36 cd36 ct36), sl36⟩) (c36 : PySem.W.codeIn K cd36 "_law_web" = true) (k36 : PySem.W.keepIn K (.ref f36) = true)
    {f37 : Addr} {od37 an37 : Option Addr} {sl37 : Array (Option Value)} {oc37 kV37 dc37 pm37 cd37 ct37 : Value}
    (a37 : PySem.W.nsIn K mainGlobals "_law_saying" = some (some (.ref f37))) (l37 : K.lookup f37 = some ⟨oc37, od37, .func (PySem.W.fnOf "_law_saying" "_law_saying" (defArgs s__law_saying) (defBody s__law_saying) (defScope s__law_saying) .none kV37 dc37 pm37 an37 cd37 ct37), sl37⟩) (c37 : PySem.W.codeIn K cd37 "_law_saying" = true) (k37 : PySem.W.keepIn K (.ref f37) = true)
    {f38 : Addr} {od38 an38 : Option Addr} {sl38 : Array (Option Value)} {oc38 kV38 dc38 pm38 cd38 ct38 : Value}
    (a38 : PySem.W.nsIn K mainGlobals "_law_bent" = some (some (.ref f38))) (l38 : K.lookup f38 = some ⟨oc38, od38, .func (PySem.W.fnOf "_law_bent" "_law_bent" (defArgs s__law_bent) (defBody s__law_bent) (defScope s__law_bent) .none kV38 dc38 pm38 an38 cd38 ct38), sl38⟩) (c38 : PySem.W.codeIn K cd38 "_law_bent" = true) (k38 : PySem.W.keepIn K (.ref f38) = true)
    {f39 : Addr} {od39 an39 : Option Addr} {sl39 : Array (Option Value)} {oc39 kV39 dc39 pm39 cd39 ct39 : Value}
    (a39 : PySem.W.nsIn K mainGlobals "_law_signs" = some (some (.ref f39))) (l39 : K.lookup f39 = some ⟨oc39, od39, .func (PySem.W.fnOf "_law_signs" "_law_signs" (defArgs s__law_signs) (defBody s__law_signs) (defScope s__law_signs) .none kV39 dc39 pm39 an39 cd39 ct39), sl39⟩) (c39 : PySem.W.codeIn K cd39 "_law_signs" = true) (k39 : PySem.W.keepIn K (.ref f39) = true)
    {f40 : Addr} {od40 an40 : Option Addr} {sl40 : Array (Option Value)} {oc40 kV40 dc40 pm40 cd40 ct40 : Value}
    (a40 : PySem.W.nsIn K mainGlobals "_law_rows_of" = some (some (.ref f40))) (l40 : K.lookup f40 = some ⟨oc40, od40, .func (PySem.W.fnOf "_law_rows_of" "_law_rows_of" (defArgs s__law_rows_of) (defBody s__law_rows_of) (defScope s__law_rows_of) .none kV40 dc40 pm40 an40 cd40 ct40), sl40⟩) (c40 : PySem.W.codeIn K cd40 "_law_rows_of" = true) (k40 : PySem.W.keepIn K (.ref f40) = true)
    {f41 : Addr} {od41 an41 : Option Addr} {sl41 : Array (Option Value)} {oc41 kV41 dc41 pm41 cd41 ct41 : Value}
    (a41 : PySem.W.nsIn K mainGlobals "_law_like" = some (some (.ref f41))) (l41 : K.lookup f41 = some ⟨oc41, od41, .func (PySem.W.fnOf "_law_like" "_law_like" (defArgs s__law_like) (defBody s__law_like) (defScope s__law_like) .none kV41 dc41 pm41 an41 cd41 ct41), sl41⟩) (c41 : PySem.W.codeIn K cd41 "_law_like" = true) (k41 : PySem.W.keepIn K (.ref f41) = true)
    {f42 : Addr} {od42 an42 : Option Addr} {sl42 : Array (Option Value)} {oc42 kV42 dc42 pm42 cd42 ct42 : Value}
    (a42 : PySem.W.nsIn K mainGlobals "_law_words_right" = some (some (.ref f42))) (l42 : K.lookup f42 = some ⟨oc42, od42, .func (PySem.W.fnOf "_law_words_right" "_law_words_right" (defArgs s__law_words_right) (defBody s__law_words_right) (defScope s__law_words_right) .none kV42 dc42 pm42 an42 cd42 ct42), sl42⟩) (c42 : PySem.W.codeIn K cd42 "_law_words_right" = true) (k42 : PySem.W.keepIn K (.ref f42) = true)
    {f43 : Addr} {od43 an43 : Option Addr} {sl43 : Array (Option Value)} {oc43 kV43 dc43 pm43 cd43 ct43 : Value}
    (a43 : PySem.W.nsIn K mainGlobals "_law_all_markings" = some (some (.ref f43))) (l43 : K.lookup f43 = some ⟨oc43, od43, .func (PySem.W.fnOf "_law_all_markings" "_law_all_markings" (defArgs s__law_all_markings) (defBody s__law_all_markings) (defScope s__law_all_markings) .none kV43 dc43 pm43 an43 cd43 ct43), sl43⟩) (c43 : PySem.W.codeIn K cd43 "_law_all_markings" = true) (k43 : PySem.W.keepIn K (.ref f43) = true)
    {f44 : Addr} {od44 an44 : Option Addr} {sl44 : Array (Option Value)} {oc44 kV44 dc44 pm44 cd44 ct44 : Value}
    (a44 : PySem.W.nsIn K mainGlobals "law" = some (some (.ref f44))) (l44 : K.lookup f44 = some ⟨oc44, od44, .func (PySem.W.fnOf "law" "law" (defArgs s_law) (defBody s_law) (defScope s_law) .none kV44 dc44 pm44 an44 cd44 ct44), sl44⟩) (c44 : PySem.W.codeIn K cd44 "law" = true) (k44 : PySem.W.keepIn K (.ref f44) = true)
    (z0 : PySem.W.nsIn K mainGlobals "all" = some none)
    (z1 : PySem.W.nsIn K mainGlobals "enumerate" = some none)
    (z2 : PySem.W.nsIn K mainGlobals "int" = some none)
    (z3 : PySem.W.nsIn K mainGlobals "len" = some none)
    (z4 : PySem.W.nsIn K mainGlobals "list" = some none)
    (z5 : PySem.W.nsIn K mainGlobals "range" = some none)
    (z6 : PySem.W.nsIn K mainGlobals "repr" = some none)
    (z7 : PySem.W.nsIn K mainGlobals "set" = some none)
    (z8 : PySem.W.nsIn K mainGlobals "sorted" = some none)
    (z9 : PySem.W.nsIn K mainGlobals "str" = some none)
    (z10 : PySem.W.nsIn K mainGlobals "tuple" = some none)
    (z11 : PySem.W.nsIn K mainGlobals "type" = some none)
    (z12 : PySem.W.nsIn K mainGlobals "zip" = some none)
    {t0 : Tok} (v0 : PySem.W.nsIn K mainGlobals "MOST_WORLDS" = some (some (.int (200) t0)))
    {t1 : Tok} (v1 : PySem.W.nsIn K mainGlobals "MOST_ARROWS" = some (some (.int (1000) t1)))
    {t2 : Tok} (v2 : PySem.W.nsIn K mainGlobals "LAST_KIND" = some (some (.int (2) t2)))
    {t3 : Tok} (v3 : PySem.W.nsIn K mainGlobals "FIRST_WAY" = some (some (.int (-3) t3)))
    {t4 : Tok} (v4 : PySem.W.nsIn K mainGlobals "LETTERS" = some (some (.int (8) t4)))
    {t5 : Tok} (v5 : PySem.W.nsIn K mainGlobals "MOST_WORDS" = some (some (.int (400) t5)))
    {t6 : Tok} (v6 : PySem.W.nsIn K mainGlobals "MOST_DEEP" = some (some (.int (40) t6)))
    {t7 : Addr} {e7 : Array DictEntry} {n7 : Nat} (v7 : PySem.W.nsIn K mainGlobals "TURNED" = some (some (.ref t7))) (d7 : K.lookup t7 = some ⟨.type "dict", none, .dict e7 n7, #[]⟩) (y7 : PySem.W.KeysLit w.params e7.toList) (w7 : (t7 == sysModules) = false)
    {z7_0 : Tok} (x7_0 : PySem.W.nsIn K t7 "yes" = some (some (.str "no" z7_0)))
    {z7_1 : Tok} (x7_1 : PySem.W.nsIn K t7 "no" = some (some (.str "yes" z7_1)))
    {z7_2 : Tok} (x7_2 : PySem.W.nsIn K t7 "and" = some (some (.str "or" z7_2)))
    {z7_3 : Tok} (x7_3 : PySem.W.nsIn K t7 "or" = some (some (.str "and" z7_3)))
    {z7_4 : Tok} (x7_4 : PySem.W.nsIn K t7 "each" = some (some (.str "some" z7_4)))
    {z7_5 : Tok} (x7_5 : PySem.W.nsIn K t7 "some" = some (some (.str "each" z7_5)))
    : ∃ fd : FuncData, (∀ (s : Shared) (v : Value), BindsTo s fd ⟨[v], []⟩ [("script", v)]) ∧ ∀ base : Heap, K.In base → base.Ns mainGlobals mg → FnG l.prog w K mg base 49 fa fd ["script"] (sp_law K) := by
  have e := hfa.symm.trans (PySem.W.mg_of X G a44)
  cases e
  have F0 := fun_mk (st := s_is_number) l0 c0 k0
  have b0 := F0.binds (ps := p_is_number) fun _ _ _ _ _ _ us hl => match us, hl with | [_, _, _], _ => rfl
  have F1 := fun_mk (st := s_is_tuple) l1 c1 k1
  have b1 := F1.binds (ps := p_is_tuple) fun _ _ _ _ _ _ us hl => match us, hl with | [_, _, _], _ => rfl
  have F2 := fun_mk (st := s_is_ascending) l2 c2 k2
  have b2 := F2.binds (ps := p_is_ascending) fun _ _ _ _ _ _ us hl => match us, hl with | [_], _ => rfl
  have F3 := fun_mk (st := s_need_web) l3 c3 k3
  have b3 := F3.binds (ps := p_need_web) fun _ _ _ _ _ _ us hl => match us, hl with | [_], _ => rfl
  have F4 := fun_mk (st := s__is_web) l4 c4 k4
  have b4 := F4.binds (ps := p__is_web) fun _ _ _ _ _ _ us hl => match us, hl with | [_], _ => rfl
  have F5 := fun_mk (st := s__is_arrow) l5 c5 k5
  have b5 := F5.binds (ps := p__is_arrow) fun _ _ _ _ _ _ us hl => match us, hl with | [_, _], _ => rfl
  have F6 := fun_mk (st := s_turned_way) l6 c6 k6
  have b6 := F6.binds (ps := p_turned_way) fun _ _ _ _ _ _ us hl => match us, hl with | [_], _ => rfl
  have F7 := fun_mk (st := s_are_worlds) l7 c7 k7
  have b7 := F7.binds (ps := p_are_worlds) fun _ _ _ _ _ _ us hl => match us, hl with | [_, _], _ => rfl
  have F8 := fun_mk (st := s_leads_of) l8 c8 k8
  have b8 := F8.binds (ps := p_leads_of) fun _ _ _ _ _ _ us hl => match us, hl with | [_], _ => rfl
  have F9 := fun_mk (st := s_Walk___init__) l9 c9 k9
  have b9 := F9.binds (ps := p_Walk___init__) fun _ _ _ _ _ _ us hl => match us, hl with | [_, _, _, _, _], _ => rfl
  have F10 := fun_mk (st := s_Walk_wrong_path) l10 c10 k10
  have b10 := F10.binds (ps := p_Walk_wrong_path) fun _ _ _ _ _ _ us hl => match us, hl with | [_, _, _], _ => rfl
  have F11 := fun_mk (st := s_Walk__met_if_right) l11 c11 k11
  have b11 := F11.binds (ps := p_Walk__met_if_right) fun _ _ _ _ _ _ us hl => match us, hl with | [_, _, _], _ => rfl
  have F12 := fun_mk (st := s_Walk__first_wrong) l12 c12 k12
  have b12 := F12.binds (ps := p_Walk__first_wrong) fun _ _ _ _ _ _ us hl => match us, hl with | [_, _, _], _ => rfl
  have F13 := fun_mk (st := s__parts_if_right) l13 c13 k13
  have b13 := F13.binds (ps := p__parts_if_right) fun _ _ _ _ _ _ us hl => match us, hl with | [_, _, _], _ => rfl
  have F14 := fun_mk (st := s_levels_of) l14 c14 k14
  have b14 := F14.binds (ps := p_levels_of) fun _ _ _ _ _ _ us hl => match us, hl with | [_], _ => rfl
  have F15 := fun_mk (st := s_words_of) l15 c15 k15
  have b15 := F15.binds (ps := p_words_of) fun _ _ _ _ _ _ us hl => match us, hl with | [_], _ => rfl
  have F16 := fun_mk (st := s_need_saying) l16 c16 k16
  have b16 := F16.binds (ps := p_need_saying) fun _ _ _ _ _ _ us hl => match us, hl with | [_], _ => rfl
  have F17 := fun_mk (st := s_need_marking) l17 c17 k17
  have b17 := F17.binds (ps := p_need_marking) fun _ _ _ _ _ _ us hl => match us, hl with | [_, _], _ => rfl
  have F18 := fun_mk (st := s_Cases___init__) l18 c18 k18
  have b18 := F18.binds (ps := p_Cases___init__) fun _ _ _ _ _ _ us hl => match us, hl with | [_, _, _, _, _], _ => rfl
  have F19 := fun_mk (st := s_Cases_answers) l19 c19 k19
  have b19 := F19.binds (ps := p_Cases_answers) fun _ _ _ _ _ _ us hl => match us, hl with | [_, _], _ => rfl
  have F20 := fun_mk (st := s__everywhere) l20 c20 k20
  have b20 := F20.binds (ps := p__everywhere) fun _ _ _ _ _ _ us hl => match us, hl with | [_, _, _], _ => rfl
  have F21 := fun_mk (st := s_somewhere) l21 c21 k21
  have b21 := F21.binds (ps := p_somewhere) fun _ _ _ _ _ _ us hl => match us, hl with | [_, _], _ => rfl
  have F22 := fun_mk (st := s_marked_where) l22 c22 k22
  have b22 := F22.binds (ps := p_marked_where) fun _ _ _ _ _ _ us hl => match us, hl with | [_, _], _ => rfl
  have F23 := fun_mk (st := s_worlds_where) l23 c23 k23
  have b23 := F23.binds (ps := p_worlds_where) fun _ _ _ _ _ _ us hl => match us, hl with | [_], _ => rfl
  have F24 := fun_mk (st := s_holding) l24 c24 k24
  have b24 := F24.binds (ps := p_holding) fun _ _ _ _ _ _ us hl => match us, hl with | [_, _, _], _ => rfl
  have F25 := fun_mk (st := s__answers) l25 c25 k25
  have b25 := F25.binds (ps := p__answers) fun _ _ _ _ _ _ us hl => match us, hl with | [_, _, _], _ => rfl
  have F26 := fun_mk (st := s_marks_of) l26 c26 k26
  have b26 := F26.binds (ps := p_marks_of) fun _ _ _ _ _ _ us hl => match us, hl with | [_, _], _ => rfl
  have F27 := fun_mk (st := s_inward) l27 c27 k27
  have b27 := F27.binds (ps := p_inward) fun _ _ _ _ _ _ us hl => match us, hl with | [_], _ => rfl
  have F28 := fun_mk (st := s_turned_about) l28 c28 k28
  have b28 := F28.binds (ps := p_turned_about) fun _ _ _ _ _ _ us hl => match us, hl with | [_], _ => rfl
  have F29 := fun_mk (st := s_turned) l29 c29 k29
  have b29 := F29.binds (ps := p_turned) fun _ _ _ _ _ _ us hl => match us, hl with | [_, _], _ => rfl
  have F30 := fun_mk (st := s_judged) l30 c30 k30
  have b30 := F30.binds (ps := p_judged) fun _ _ _ _ _ _ us hl => match us, hl with | [_, _], _ => rfl
  have F31 := fun_mk (st := s_is_positive) l31 c31 k31
  have b31 := F31.binds (ps := p_is_positive) fun _ _ _ _ _ _ us hl => match us, hl with | [_], _ => rfl
  have F32 := fun_mk (st := s_is_negative) l32 c32 k32
  have b32 := F32.binds (ps := p_is_negative) fun _ _ _ _ _ _ us hl => match us, hl with | [_], _ => rfl
  have F33 := fun_mk (st := s__law_mixed) l33 c33 k33
  have b33 := F33.binds (ps := p__law_mixed) fun _ _ _ _ _ _ us hl => match us, hl with | [_, _], _ => rfl
  have F34 := fun_mk (st := s__law_begin) l34 c34 k34
  have b34 := F34.binds (ps := p__law_begin) fun _ _ _ _ _ _ us hl => match us, hl with | [_], _ => rfl
  have F35 := fun_mk (st := s__law_draw) l35 c35 k35
  have b35 := F35.binds (ps := p__law_draw) fun _ _ _ _ _ _ us hl => match us, hl with | [_, _], _ => rfl
  have F36 := fun_mk (st := s__law_web) l36 c36 k36
  have b36 := F36.binds (ps := p__law_web) fun _ _ _ _ _ _ us hl => match us, hl with | [_, _, _], _ => rfl
  have F37 := fun_mk (st := s__law_saying) l37 c37 k37
  have b37 := F37.binds (ps := p__law_saying) fun _ _ _ _ _ _ us hl => match us, hl with | [_, _, _], _ => rfl
  have F38 := fun_mk (st := s__law_bent) l38 c38 k38
  have b38 := F38.binds (ps := p__law_bent) fun _ _ _ _ _ _ us hl => match us, hl with | [_, _], _ => rfl
  have F39 := fun_mk (st := s__law_signs) l39 c39 k39
  have b39 := F39.binds (ps := p__law_signs) fun _ _ _ _ _ _ us hl => match us, hl with | [_], _ => rfl
  have F40 := fun_mk (st := s__law_rows_of) l40 c40 k40
  have b40 := F40.binds (ps := p__law_rows_of) fun _ _ _ _ _ _ us hl => match us, hl with | [_], _ => rfl
  have F41 := fun_mk (st := s__law_like) l41 c41 k41
  have b41 := F41.binds (ps := p__law_like) fun _ _ _ _ _ _ us hl => match us, hl with | [_, _], _ => rfl
  have F42 := fun_mk (st := s__law_words_right) l42 c42 k42
  have b42 := F42.binds (ps := p__law_words_right) fun _ _ _ _ _ _ us hl => match us, hl with | [_, _, _], _ => rfl
  have F43 := fun_mk (st := s__law_all_markings) l43 c43 k43
  have b43 := F43.binds (ps := p__law_all_markings) fun _ _ _ _ _ _ us hl => match us, hl with | [_, _, _, _], _ => rfl
  have F44 := fun_mk (st := s_law) l44 c44 k44
  have b44 := F44.binds (ps := p_law) fun _ _ _ _ _ _ us hl => match us, hl with | [_], _ => rfl
  exact ⟨_, fun s v => .of_eq rfl, fun base _ _ => ok_law (T := {
    a_is_number := _, fd_is_number := _, F_is_number := F0, b_is_number := b0, g_is_number := PySem.W.mg_of X G a0,
    a_is_tuple := _, fd_is_tuple := _, F_is_tuple := F1, b_is_tuple := b1, g_is_tuple := PySem.W.mg_of X G a1,
    a_is_ascending := _, fd_is_ascending := _, F_is_ascending := F2, b_is_ascending := b2, g_is_ascending := PySem.W.mg_of X G a2,
    a_need_web := _, fd_need_web := _, F_need_web := F3, b_need_web := b3, g_need_web := PySem.W.mg_of X G a3,
    a__is_web := _, fd__is_web := _, F__is_web := F4, b__is_web := b4, g__is_web := PySem.W.mg_of X G a4,
    a__is_arrow := _, fd__is_arrow := _, F__is_arrow := F5, b__is_arrow := b5, g__is_arrow := PySem.W.mg_of X G a5,
    a_turned_way := _, fd_turned_way := _, F_turned_way := F6, b_turned_way := b6, g_turned_way := PySem.W.mg_of X G a6,
    a_are_worlds := _, fd_are_worlds := _, F_are_worlds := F7, b_are_worlds := b7, g_are_worlds := PySem.W.mg_of X G a7,
    a_leads_of := _, fd_leads_of := _, F_leads_of := F8, b_leads_of := b8, g_leads_of := PySem.W.mg_of X G a8,
    a_Walk___init__ := _, fd_Walk___init__ := _, F_Walk___init__ := F9, b_Walk___init__ := b9,
    a_Walk_wrong_path := _, fd_Walk_wrong_path := _, F_Walk_wrong_path := F10, b_Walk_wrong_path := b10,
    a_Walk__met_if_right := _, fd_Walk__met_if_right := _, F_Walk__met_if_right := F11, b_Walk__met_if_right := b11,
    a_Walk__first_wrong := _, fd_Walk__first_wrong := _, F_Walk__first_wrong := F12, b_Walk__first_wrong := b12,
    a__parts_if_right := _, fd__parts_if_right := _, F__parts_if_right := F13, b__parts_if_right := b13, g__parts_if_right := PySem.W.mg_of X G a13,
    a_levels_of := _, fd_levels_of := _, F_levels_of := F14, b_levels_of := b14, g_levels_of := PySem.W.mg_of X G a14,
    a_words_of := _, fd_words_of := _, F_words_of := F15, b_words_of := b15, g_words_of := PySem.W.mg_of X G a15,
    a_need_saying := _, fd_need_saying := _, F_need_saying := F16, b_need_saying := b16, g_need_saying := PySem.W.mg_of X G a16,
    a_need_marking := _, fd_need_marking := _, F_need_marking := F17, b_need_marking := b17, g_need_marking := PySem.W.mg_of X G a17,
    a_Cases___init__ := _, fd_Cases___init__ := _, F_Cases___init__ := F18, b_Cases___init__ := b18,
    a_Cases_answers := _, fd_Cases_answers := _, F_Cases_answers := F19, b_Cases_answers := b19,
    a__everywhere := _, fd__everywhere := _, F__everywhere := F20, b__everywhere := b20, g__everywhere := PySem.W.mg_of X G a20,
    a_somewhere := _, fd_somewhere := _, F_somewhere := F21, b_somewhere := b21, g_somewhere := PySem.W.mg_of X G a21,
    a_marked_where := _, fd_marked_where := _, F_marked_where := F22, b_marked_where := b22, g_marked_where := PySem.W.mg_of X G a22,
    a_worlds_where := _, fd_worlds_where := _, F_worlds_where := F23, b_worlds_where := b23, g_worlds_where := PySem.W.mg_of X G a23,
    a_holding := _, fd_holding := _, F_holding := F24, b_holding := b24, g_holding := PySem.W.mg_of X G a24,
    a__answers := _, fd__answers := _, F__answers := F25, b__answers := b25, g__answers := PySem.W.mg_of X G a25,
    a_marks_of := _, fd_marks_of := _, F_marks_of := F26, b_marks_of := b26, g_marks_of := PySem.W.mg_of X G a26,
    a_inward := _, fd_inward := _, F_inward := F27, b_inward := b27, g_inward := PySem.W.mg_of X G a27,
    a_turned_about := _, fd_turned_about := _, F_turned_about := F28, b_turned_about := b28, g_turned_about := PySem.W.mg_of X G a28,
    a_turned := _, fd_turned := _, F_turned := F29, b_turned := b29, g_turned := PySem.W.mg_of X G a29,
    a_judged := _, fd_judged := _, F_judged := F30, b_judged := b30, g_judged := PySem.W.mg_of X G a30,
    a_is_positive := _, fd_is_positive := _, F_is_positive := F31, b_is_positive := b31, g_is_positive := PySem.W.mg_of X G a31,
    a_is_negative := _, fd_is_negative := _, F_is_negative := F32, b_is_negative := b32, g_is_negative := PySem.W.mg_of X G a32,
    a__law_mixed := _, fd__law_mixed := _, F__law_mixed := F33, b__law_mixed := b33, g__law_mixed := PySem.W.mg_of X G a33,
    a__law_begin := _, fd__law_begin := _, F__law_begin := F34, b__law_begin := b34, g__law_begin := PySem.W.mg_of X G a34,
    a__law_draw := _, fd__law_draw := _, F__law_draw := F35, b__law_draw := b35, g__law_draw := PySem.W.mg_of X G a35,
    a__law_web := _, fd__law_web := _, F__law_web := F36, b__law_web := b36, g__law_web := PySem.W.mg_of X G a36,
    a__law_saying := _, fd__law_saying := _, F__law_saying := F37, b__law_saying := b37, g__law_saying := PySem.W.mg_of X G a37,
    a__law_bent := _, fd__law_bent := _, F__law_bent := F38, b__law_bent := b38, g__law_bent := PySem.W.mg_of X G a38,
    a__law_signs := _, fd__law_signs := _, F__law_signs := F39, b__law_signs := b39, g__law_signs := PySem.W.mg_of X G a39,
    a__law_rows_of := _, fd__law_rows_of := _, F__law_rows_of := F40, b__law_rows_of := b40, g__law_rows_of := PySem.W.mg_of X G a40,
    a__law_like := _, fd__law_like := _, F__law_like := F41, b__law_like := b41, g__law_like := PySem.W.mg_of X G a41,
    a__law_words_right := _, fd__law_words_right := _, F__law_words_right := F42, b__law_words_right := b42, g__law_words_right := PySem.W.mg_of X G a42,
    a__law_all_markings := _, fd__law_all_markings := _, F__law_all_markings := F43, b__law_all_markings := b43, g__law_all_markings := PySem.W.mg_of X G a43,
    a_law := _, fd_law := _, F_law := F44, b_law := b44, g_law := PySem.W.mg_of X G a44,
    C_Walk := C0, c_Walk := PySem.W.mg_of X G ac0, cl_Walk := ⟨pg0, hd0, po0, sa0⟩,
    mk_Walk := ⟨mk0, a9, i9, kc0⟩,
    me_Walk_wrong_path := ⟨a10, i10, k10⟩,
    me_Walk__met_if_right := ⟨a11, i11, k11⟩,
    me_Walk__first_wrong := ⟨a12, i12, k12⟩,
    na_Walk_letters := na0_0,
    na_Walk_denying := na0_1,
    na_Walk_most_deep := na0_2,
    na_Walk_most_words := na0_3,
    na_Walk_met := na0_4,
    C_Cases := C1, c_Cases := PySem.W.mg_of X G ac1, cl_Cases := ⟨pg1, hd1, po1, sa1⟩,
    mk_Cases := ⟨mk1, a18, i18, kc1⟩,
    me_Cases_answers := ⟨a19, i19, k19⟩,
    na_Cases_leads := na1_0,
    na_Cases_marks := na1_1,
    na_Cases_heres := na1_2,
    na_Cases_full := na1_3,
    m_all := PySem.W.mg_none_of X G z0,
    m_enumerate := PySem.W.mg_none_of X G z1,
    m_int := PySem.W.mg_none_of X G z2,
    m_len := PySem.W.mg_none_of X G z3,
    m_list := PySem.W.mg_none_of X G z4,
    m_range := PySem.W.mg_none_of X G z5,
    m_repr := PySem.W.mg_none_of X G z6,
    m_set := PySem.W.mg_none_of X G z7,
    m_sorted := PySem.W.mg_none_of X G z8,
    m_str := PySem.W.mg_none_of X G z9,
    m_tuple := PySem.W.mg_none_of X G z10,
    m_type := PySem.W.mg_none_of X G z11,
    m_zip := PySem.W.mg_none_of X G z12,
    t_MOST_WORLDS := t0, c_MOST_WORLDS := PySem.W.mg_of X G v0,
    t_MOST_ARROWS := t1, c_MOST_ARROWS := PySem.W.mg_of X G v1,
    t_LAST_KIND := t2, c_LAST_KIND := PySem.W.mg_of X G v2,
    t_FIRST_WAY := t3, c_FIRST_WAY := PySem.W.mg_of X G v3,
    t_LETTERS := t4, c_LETTERS := PySem.W.mg_of X G v4,
    t_MOST_WORDS := t5, c_MOST_WORDS := PySem.W.mg_of X G v5,
    t_MOST_DEEP := t6, c_MOST_DEEP := PySem.W.mg_of X G v6,
    t_TURNED := t7, e_TURNED := e7, n_TURNED := n7, c_TURNED := PySem.W.mg_of X G v7, D_TURNED := ⟨d7, y7, w7⟩,
    q_TURNED_yes := ⟨_, x7_0⟩,
    q_TURNED_no := ⟨_, x7_1⟩,
    q_TURNED_and := ⟨_, x7_2⟩,
    q_TURNED_or := ⟨_, x7_3⟩,
    q_TURNED_each := ⟨_, x7_4⟩,
    q_TURNED_some := ⟨_, x7_5⟩
  })⟩
end K0
open PySem PySem.W PyProof.Rows
set_option maxHeartbeats 0 in
theorem PySem.Challenge.cw_anymarks_k02_turned_inward_and_about_holds : PySem.Challenge.rw_anymarks_k02_turned_inward_and_about.Holds := by
  w_on; o_law; k_head; (case hw => w_witness2)
  k_fill
  refine W0.walk_g (l := PySem.Challenge.rw_anymarks_k02_turned_inward_and_about) (n := 63) (k := 49) (x := "script") (sp := fun K => K0.sp_law K) rfl (by decide) rfl ⟨rfl, by decide, by decide⟩ (fun w h Y => PySem.W.kIn_of Y) ?F (fun K H a ns hl hS _ => ⟨a, ns, rfl, hS, hl, fun _ => rfl⟩)
  case F =>
    intro w mg fa h KX G hmg
    refine' K0.all_mk KX G hmg ?ac0 ?pg0 ?hd0 ?po0 ?sa0 ?mk0 ?kc0 ?na0_0 ?na0_1 ?na0_2 ?na0_3 ?na0_4 ?ac1 ?pg1 ?hd1 ?po1 ?sa1 ?mk1 ?kc1 ?na1_0 ?na1_1 ?na1_2 ?na1_3 ?a0 ?l0 ?c0 ?k0 ?a1 ?l1 ?c1 ?k1 ?a2 ?l2 ?c2 ?k2 ?a3 ?l3 ?c3 ?k3 ?a4 ?l4 ?c4 ?k4 ?a5 ?l5 ?c5 ?k5 ?a6 ?l6 ?c6 ?k6 ?a7 ?l7 ?c7 ?k7 ?a8 ?l8 ?c8 ?k8 ?a9 ?i9 ?l9 ?c9 ?k9 ?a10 ?i10 ?l10 ?c10 ?k10 ?a11 ?i11 ?l11 ?c11 ?k11 ?a12 ?i12 ?l12 ?c12 ?k12 ?a13 ?l13 ?c13 ?k13 ?a14 ?l14 ?c14 ?k14 ?a15 ?l15 ?c15 ?k15 ?a16 ?l16 ?c16 ?k16 ?a17 ?l17 ?c17 ?k17 ?a18 ?i18 ?l18 ?c18 ?k18 ?a19 ?i19 ?l19 ?c19 ?k19 ?a20 ?l20 ?c20 ?k20 ?a21 ?l21 ?c21 ?k21 ?a22 ?l22 ?c22 ?k22 ?a23 ?l23 ?c23 ?k23 ?a24 ?l24 ?c24 ?k24 ?a25 ?l25 ?c25 ?k25 ?a26 ?l26 ?c26 ?k26 ?a27 ?l27 ?c27 ?k27 ?a28 ?l28 ?c28 ?k28 ?a29 ?l29 ?c29 ?k29 ?a30 ?l30 ?c30 ?k30 ?a31 ?l31 ?c31 ?k31 ?a32 ?l32 ?c32 ?k32 ?a33 ?l33 ?c33 ?k33 ?a34 ?l34 ?c34 ?k34 ?a35 ?l35 ?c35 ?k35 ?a36 ?l36 ?c36 ?k36 ?a37 ?l37 ?c37 ?k37 ?a38 ?l38 ?c38 ?k38 ?a39 ?l39 ?c39 ?k39 ?a40 ?l40 ?c40 ?k40 ?a41 ?l41 ?c41 ?k41 ?a42 ?l42 ?c42 ?k42 ?a43 ?l43 ?c43 ?k43 ?a44 ?l44 ?c44 ?k44 ?z0 ?z1 ?z2 ?z3 ?z4 ?z5 ?z6 ?z7 ?z8 ?z9 ?z10 ?z11 ?z12 ?v0 ?v1 ?v2 ?v3 ?v4 ?v5 ?v6 ?v7 ?d7 ?y7 ?w7 ?x7_0 ?x7_1 ?x7_2 ?x7_3 ?x7_4 ?x7_5
    (case ac0 => k_is)
    (case pg0 => k_is)
    (case hd0 => k_is)
    (case po0 => k_is)
    (case sa0 => k_is)
    (case mk0 => k_is)
    (case kc0 => k_is)
    (case na0_0 => k_is)
    (case na0_1 => k_is)
    (case na0_2 => k_is)
    (case na0_3 => k_is)
    (case na0_4 => k_is)
    (case ac1 => k_is)
    (case pg1 => k_is)
    (case hd1 => k_is)
    (case po1 => k_is)
    (case sa1 => k_is)
    (case mk1 => k_is)
    (case kc1 => k_is)
    (case na1_0 => k_is)
    (case na1_1 => k_is)
    (case na1_2 => k_is)
    (case na1_3 => k_is)
    (case a0 => k_is)
    (case l0 => k_is)
    (case c0 => k_is)
    (case k0 => k_is)
    (case a1 => k_is)
    (case l1 => k_is)
    (case c1 => k_is)
    (case k1 => k_is)
    (case a2 => k_is)
    (case l2 => k_is)
    (case c2 => k_is)
    (case k2 => k_is)
    (case a3 => k_is)
    (case l3 => k_is)
    (case c3 => k_is)
    (case k3 => k_is)
    (case a4 => k_is)
    (case l4 => k_is)
    (case c4 => k_is)
    (case k4 => k_is)
    (case a5 => k_is)
    (case l5 => k_is)
    (case c5 => k_is)
    (case k5 => k_is)
    (case a6 => k_is)
    (case l6 => k_is)
    (case c6 => k_is)
    (case k6 => k_is)
    (case a7 => k_is)
    (case l7 => k_is)
    (case c7 => k_is)
    (case k7 => k_is)
    (case a8 => k_is)
    (case l8 => k_is)
    (case c8 => k_is)
    (case k8 => k_is)
    (case a9 => k_is)
    (case i9 => k_is)
    (case l9 => k_is)
    (case c9 => k_is)
    (case k9 => k_is)
    (case a10 => k_is)
    (case i10 => k_is)
    (case l10 => k_is)
    (case c10 => k_is)
    (case k10 => k_is)
    (case a11 => k_is)
    (case i11 => k_is)
    (case l11 => k_is)
    (case c11 => k_is)
    (case k11 => k_is)
    (case a12 => k_is)
    (case i12 => k_is)
    (case l12 => k_is)
    (case c12 => k_is)
    (case k12 => k_is)
    (case a13 => k_is)
    (case l13 => k_is)
    (case c13 => k_is)
    (case k13 => k_is)
    (case a14 => k_is)
    (case l14 => k_is)
    (case c14 => k_is)
    (case k14 => k_is)
    (case a15 => k_is)
    (case l15 => k_is)
    (case c15 => k_is)
    (case k15 => k_is)
    (case a16 => k_is)
    (case l16 => k_is)
    (case c16 => k_is)
    (case k16 => k_is)
    (case a17 => k_is)
    (case l17 => k_is)
    (case c17 => k_is)
    (case k17 => k_is)
    (case a18 => k_is)
    (case i18 => k_is)
    (case l18 => k_is)
    (case c18 => k_is)
    (case k18 => k_is)
    (case a19 => k_is)
    (case i19 => k_is)
    (case l19 => k_is)
    (case c19 => k_is)
    (case k19 => k_is)
    (case a20 => k_is)
    (case l20 => k_is)
    (case c20 => k_is)
    (case k20 => k_is)
    (case a21 => k_is)
    (case l21 => k_is)
    (case c21 => k_is)
    (case k21 => k_is)
    (case a22 => k_is)
    (case l22 => k_is)
    (case c22 => k_is)
    (case k22 => k_is)
    (case a23 => k_is)
    (case l23 => k_is)
    (case c23 => k_is)
    (case k23 => k_is)
    (case a24 => k_is)
    (case l24 => k_is)
    (case c24 => k_is)
    (case k24 => k_is)
    (case a25 => k_is)
    (case l25 => k_is)
    (case c25 => k_is)
    (case k25 => k_is)
    (case a26 => k_is)
    (case l26 => k_is)
    (case c26 => k_is)
    (case k26 => k_is)
    (case a27 => k_is)
    (case l27 => k_is)
    (case c27 => k_is)
    (case k27 => k_is)
    (case a28 => k_is)
    (case l28 => k_is)
    (case c28 => k_is)
    (case k28 => k_is)
    (case a29 => k_is)
    (case l29 => k_is)
    (case c29 => k_is)
    (case k29 => k_is)
    (case a30 => k_is)
    (case l30 => k_is)
    (case c30 => k_is)
    (case k30 => k_is)
    (case a31 => k_is)
    (case l31 => k_is)
    (case c31 => k_is)
    (case k31 => k_is)
    (case a32 => k_is)
    (case l32 => k_is)
    (case c32 => k_is)
    (case k32 => k_is)
    (case a33 => k_is)
    (case l33 => k_is)
    (case c33 => k_is)
    (case k33 => k_is)
    (case a34 => k_is)
    (case l34 => k_is)
    (case c34 => k_is)
    (case k34 => k_is)
    (case a35 => k_is)
    (case l35 => k_is)
    (case c35 => k_is)
    (case k35 => k_is)
    (case a36 => k_is)
    (case l36 => k_is)
    (case c36 => k_is)
    (case k36 => k_is)
    (case a37 => k_is)
    (case l37 => k_is)
    (case c37 => k_is)
    (case k37 => k_is)
    (case a38 => k_is)
    (case l38 => k_is)
    (case c38 => k_is)
    (case k38 => k_is)
    (case a39 => k_is)
    (case l39 => k_is)
    (case c39 => k_is)
    (case k39 => k_is)
    (case a40 => k_is)
    (case l40 => k_is)
    (case c40 => k_is)
    (case k40 => k_is)
    (case a41 => k_is)
    (case l41 => k_is)
    (case c41 => k_is)
    (case k41 => k_is)
    (case a42 => k_is)
    (case l42 => k_is)
    (case c42 => k_is)
    (case k42 => k_is)
    (case a43 => k_is)
    (case l43 => k_is)
    (case c43 => k_is)
    (case k43 => k_is)
    (case a44 => k_is)
    (case l44 => k_is)
    (case c44 => k_is)
    (case k44 => k_is)
    (case z0 => k_is)
    (case z1 => k_is)
    (case z2 => k_is)
    (case z3 => k_is)
    (case z4 => k_is)
    (case z5 => k_is)
    (case z6 => k_is)
    (case z7 => k_is)
    (case z8 => k_is)
    (case z9 => k_is)
    (case z10 => k_is)
    (case z11 => k_is)
    (case z12 => k_is)
    (case v0 => k_is)
    (case v1 => k_is)
    (case v2 => k_is)
    (case v3 => k_is)
    (case v4 => k_is)
    (case v5 => k_is)
    (case v6 => k_is)
    (case v7 => k_is)
    (case d7 => k_is)
    (case y7 => (repeat (first | exact trivial | refine And.intro (Exists.intro _ (Exists.intro _ (And.intro rfl rfl))) ?_)))
    (case w7 => decide)
    (case x7_0 => k_is)
    (case x7_1 => k_is)
    (case x7_2 => k_is)
    (case x7_3 => k_is)
    (case x7_4 => k_is)
    (case x7_5 => k_is)
