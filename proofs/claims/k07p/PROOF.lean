import PyProof.Rows.All
import HandS.ForMost
import HandS.Zip
import HandS.More
import HandS.DictComp
import HandS.TupAny
import HandS.Strs
import HandS.Walk
import HandS.TupSets
import HandS.SetFor
import KE.KSortTupG
import PySem.Challenge.RW_anymarks_k07_whole_what_is_put_in_stays
import KE.GoesSet
import HandS.SetBool
import HandS.SortKw
import HandS.Style
import HandS.WrittenGet
import KE.DataMinMax
import KE.GoesEnum
import KE.DataFind
import KE.KDictKeyed
import HandS.Iter
import HandS.Conv
import HandS.Text
import HandS.IsInst
import HandS.Words
import HandS.TupMul
import HandS.WideBits
import HandS.Call
set_option Elab.async false
set_option linter.all false
set_option maxRecDepth 100000
/-! W0: defs whose frames run with no open repr above them; repr of data; the law's own end for such. -/
namespace W0
open PySem PySem.Spec PyProof.Rows L2

/-- a promise that holds where no repr is open -/
structure FnG (P : Program) (w : World) (K : PySem.W.Frag) (mg : Str → Option Value) (base : Heap) (k : Nat) (f : Addr) (fd : FuncData) (ps : List Str) (sp : Sp) : Prop where
  many : ∀ vs H Q E, sp vs H Q E → vs.length = ps.length
  runs : ∀ (A : Around), A.guards = some [] → Room k A → ∀ (frames : List Env) (s : Shared) (H : Hp), Env0 P w K mg base A frames s H → ∀ (given : Args) (us : List Value) (vs : List V), BindsTo s fd given (ps.zip us) → Vals vs us →
    ∀ (Q : VK) (E : XK), sp vs H Q E → codeAny (model P w) A (.call (.ref f) given) (CR CX0 frames P w H s Q E) s

section
variable {P : Program} {w : World} {K : PySem.W.Frag} {mg : Str → Option Value} {base : Heap} {k j : Nat} {f : Addr} {fd : FuncData} {ps : List Str} {sp : Sp}
theorem FnG.of (F : FnOk P w K mg base CX0 k f fd ps sp) : FnG P w K mg base k f fd ps sp where
  many := F.len
  runs := fun A _ room frames s H e0 given us vs hb hv Q E q => F.run A frames s H given us vs Q E room e0 hb hv q
theorem FnG.up (F : FnG P w K mg base j f fd ps sp) (h : j ≤ k) : FnG P w K mg base k f fd ps sp where
  many := F.many
  runs := fun A g room => F.runs A g (room.mono h)

/-- by the def's body -/
theorem of_body {x qual : Str} {st : Stmt} {N : List Str} (F : Fun K x qual st f fd) (S : FnScope N ps (defScope st)) (many : ∀ vs H Q E, sp vs H Q E → vs.length = ps.length)
    (body : ∀ (cdv : Value) (A : Around) (frames : List Env) (s : Shared) (H : Hp) (vs : List V) (Q : VK) (E : XK), (A.deeper (envOfC qual (defScope st) s.heap.objs.size f cdv)).guards = some [] →
      Room k (A.deeper (envOfC qual (defScope st) s.heap.objs.size f cdv)) → sp vs H Q E →
      ∃ t, PSs (cxOf CX0 P w K mg base N qual (defScope st) f cdv A frames s H E).nox (defBody st) t ∧ t { nx := fun _ H' => Q .non H', rt := Q } (start N vs) H) : FnG P w K mg base (k + 1) f fd ps sp := by
  refine ⟨many, fun A hg room frames s H e0 given us vs hb hv Q E q => ?_⟩
  obtain ⟨oc, od, kV, doc, pm, an, cdv, ct, osl, rfl, look, code⟩ := F.ex
  have old : ∀ b o, base.get? b = some o → s.heap.get? b = some o := fun b o e => (e0.bs b o e).1
  have kin : K.In s.heap := e0.mod.kin.keeps old
  have free : s.heap.NoLimit := e0.mod.nolimit.keeps old
  have kinds : ∀ y ∈ ps.zip us, (defScope st).names.lookup y.1 = some .local ∨ ((defScope st).names.lookup y.1 = some .cell ∧ ((cellsFrom (s.heap.objs.size + 1) (defScope st).names []).lookup y.1).isSome = true) := by
    intro y hy
    obtain ⟨n, v⟩ := y
    rcases S.par n (List.of_mem_zip hy).1 with z | z
    · exact Or.inl z
    · exact Or.inr ⟨z, PySem.W.cellsFrom_some _ _ _ (Or.inl z)⟩
  obtain ⟨t, pt, ht⟩ := body cdv A frames s H vs Q E hg (room.deeper _) q
  refine codeAny_call_function room.depth (kin _ _ look) rfl S.co S.gen rfl (PySem.W.codeRec_of kin code) (hb _ _ _ _ (wpAny_newFunctionEnv_cells S.kind kinds fun env ee s1 fresh => ?_))
  subst ee
  refine ⟨free.keeps fresh.toInCall.keep, codeAny_func ?_⟩
  have I0 := inv_start (CX := CX0) (P := P) (w := w) (E := E) S room.hd e0 (many _ _ _ _ q) hv fresh
  refine wpAny_mono (pt.nox.run [] s1 (start N vs) H _ I0 ht) ?_ (fun _ _ z => z)
  intro fl s2 hs
  match fl, hs with
  | .ret u, ⟨v, _, H2, J, rv, z⟩ => exact ⟨v, H2, J.os, J.bare, J.base, J.hok, rv, z⟩
  | .next, ⟨_, H2, J, z⟩ => exact ⟨V.non, H2, J.os, J.bare, J.base, J.hok, rfl, z⟩
  | .brk, ⟨_, _, _, z⟩ => exact z.elim
  | .cont, ⟨_, _, _, z⟩ => exact z.elim
end

section
variable {X : Cx} {k : Nat} {f : Addr} {fd : FuncData} {ps : List Str} {sp : Sp} {ds : List Value} {dvs : List V} {x : Str} {p pos : Pos} {e : Expr} {es : List Expr} {t : TA}
theorem run_g {pins : List (Addr × Obj)} {σ : L2.St} {H : Hp} {s : Shared} {Q : VK} {us : List Value} {vs : List V} (F : FnG X.prog X.w X.K X.mg X.base k f fd ps sp) (room : Room k X.A) (hg : X.A.guards = some []) (hb : Binds X.K fd ps ds) (hd : Vals dvs ds)
    (I : Inv X pins σ H s) (hv : Vals vs us) (q : sp (vs ++ dvs) H Q E0) : wpAny (model X.prog X.w) X.A (call (.ref f) us) (EP X pins σ Q) X.xe s := by
  have all := hv.append hd
  have n : (us ++ ds).length = ps.length := all.length.symm.trans (F.many _ _ _ _ q)
  refine wpAny_call (codeAny_mono (F.runs X.A hg room X.stack s H I.env0 ⟨us, []⟩ (us ++ ds) (vs ++ dvs) (hb s us I.kIn n) all Q E0 q) ?_)
  intro r s2 h
  match r, h with
  | .error _, h => exact False.elim h
  | .ok (.ret u), h => exact I.after h
  | .ok .next, h => exact False.elim h
  | .ok .brk, h => exact False.elim h
  | .ok .cont, h => exact False.elim h
/-- a call of such a def -/
theorem pe_callG (F : FnG X.prog X.w X.K X.mg X.base k f fd ps sp) (room : Room k X.A) (hgd : X.A.guards = some []) (hg : Gl X x) (hm : X.mg x = some (.ref f)) (kp : PySem.W.keepIn X.K (.ref f) = true) (hb : Binds X.K fd ps ds) (hd : Vals dvs ds) (_hx : Passes CX0 X E0)
    (ha : PA X (e :: es) t) (hdb : (x == ("__debug__" : Str)) = false := by decide) (he : starEach (e :: es) X.env = (false, eval e X.env) :: starEach es X.env := by rfl) (hpl : (backTo pos (starEach es X.env)).any (·.1) = false := by rfl) :
    PE X (.Call (.Name x p) (e :: es) [] pos) (tCall sp dvs E0 t) := by
  refine ⟨fun pins s σ H Q I h => wpAny_Call_Name_kw (ld_glob I hg hm ?_ hdb)⟩
  exact PySem.W.callWith_K (h₀ := X.base) I.ok.mod.kin kp (thn (ha.run pos pins s σ H _ I h) fun us s1 ⟨vs, H1, I1, rv, q⟩ => ⟨I1.kIn, run_g F room hgd hb hd I1 rv q⟩) he hpl
theorem pe_callG0 (F : FnG X.prog X.w X.K X.mg X.base k f fd ps sp) (room : Room k X.A) (hgd : X.A.guards = some []) (hg : Gl X x) (hm : X.mg x = some (.ref f)) (kp : PySem.W.keepIn X.K (.ref f) = true) (hb : Binds X.K fd ps ds) (hd : Vals dvs ds)
    (hdb : (x == ("__debug__" : Str)) = false := by decide) : PE X (.Call (.Name x p) [] [] pos) (tCall sp dvs E0 tNil) := by
  refine ⟨fun pins s σ H Q I h => wpAny_Call_Name_kw (ld_glob I hg hm ?_ hdb)⟩
  exact PySem.W.callWith_K0 I.kIn kp (run_g F room hgd hb hd I .nil h)
end

/-! ### repr of data -/
theorem call_repr {X : Cx} (hgd : X.A.guards = some []) (hu : X.A.units + 64 < cLine) : CallR X (.builtin "repr") (fun vs H Q => ∃ (a : Addr) (d : PyData), vs = [.ref a] ∧ Dp X.K H (.ref a) d ∧ d.showable = true ∧ d.hasDict = false ∧ d.depth ≤ 50 ∧ d.shown.length ≤ sizeLine ∧ Q (.str d.shown) H) := by
  intro pins s σ H vs us Q I r h
  obtain ⟨a, d, rfl, hd, h1, h2, h3, h4, q⟩ := h
  rw [Vals.ref1 r]
  obtain ⟨as, rd⟩ := Dp.reads I d (.ref a) (.ref a) hd rfl
  refine repr_of_reads' rd h1 (fun z => by rw [h2] at z; cases z) hgd (by omega) (fun _ _ e => e) (fun h' u tk keep => ?_) h4
  exact ⟨.str d.shown, H, I.kept (t' := tk) keep, ⟨u, rfl⟩, q⟩

/-! ### the end of a law's row -/
/-- the one tracked thing, if any: the script's list, locked -/
def only (c : Bool) (a : Addr) (o : Obj) (xs : List V) : Hp := fun b => if c = true ∧ b = a then some (.frz o (.lst xs)) else none
theorem only_at {a : Addr} {o : Obj} {xs : List V} : only true a o xs a = some (.frz o (.lst xs)) := if_pos ⟨rfl, rfl⟩
theorem only_off {c : Bool} {a b : Addr} {o : Obj} {xs : List V} (h : b ≠ a) : only c a o xs b = none := if_neg fun z => h z.2
theorem only_no {a b : Addr} {o : Obj} {xs : List V} : only false a o xs b = none := if_neg fun z => Bool.noConfusion z.1
theorem only_some {c : Bool} {a b : Addr} {o : Obj} {xs : List V} {u : HO} (h : only c a o xs b = some u) : c = true ∧ b = a ∧ u = .frz o (.lst xs) := by
  unfold only at h
  split at h
  · rename_i e
    exact ⟨e.1, e.2, (Option.some.inj h).symm⟩
  · cases h

theorem enter {P : Program} {w : World} {K : PySem.W.Frag} {mg mb : Str → Option Value} {k : Nat} {fa a : Addr} {fd : FuncData} {x : Str} {sp : Sp} {s : Shared} {vs : List Value} {ns : List Int}
    (kin : K.In s.heap) (hm : s.heap.Ns mainGlobals mg) (hb : s.heap.Ns builtinsNs mb) (hbb : ∀ x : Str, x ≠ "__name__" → mb x = bootBuiltins x) (lim : s.heap.NoLimit) (gens : s.gens = #[])
    (there : s.heap.get? a = some { cls := .type "list", data := .seq vs.toArray }) (nums : IntsAre vs ns) (many : ns.length ≤ sizeLine) (room : Room k callerA)
    (F : ∀ base : Heap, K.In base → base.Ns mainGlobals mg → FnG P w K mg base k fa fd [x] sp) (bind : ∀ (s : Shared) (u : Value), BindsTo s fd ⟨[u], []⟩ [(x, u)])
    (hsp : ∀ H : Hp, SqL K H a (ns.map V.int) → (∀ b, b ≠ a → H b = none) → sp [.ref a] H (fun v _ => v = .bl true) E0) :
    codeAny (model P w) callerA (.call (.ref fa) ⟨[.ref a], []⟩) (fun r s' => r = .ok (.ret (.bool true)) ∧ OldK s.heap s'.heap ∧ s'.os = s.os ∧ AllBare s'.gens) s := by
  let ob : Obj := { cls := .type "list", data := .seq vs.toArray }
  obtain ⟨c, apart, hS⟩ : ∃ c : Bool, (c = true → K.lookup a = none) ∧ SqL K (only c a ob (ns.map V.int)) a (ns.map V.int) := by
    cases look : K.lookup a with
    | none => exact ⟨true, fun _ => rfl, Or.inl (Or.inr ⟨ob, only_at⟩)⟩
    | some o =>
      have e := kin a o look
      rw [there] at e
      cases e
      refine ⟨false, fun z => (by cases z), Or.inr ⟨ob, vs.toArray, _, look, rfl, rfl, rfl, ?_, by simpa using vals_ints nums⟩⟩
      rw [List.size_toArray, nums.length]
      exact many
  have held : HOk P w (only c a ob (ns.map V.int)) s.heap := by
    intro b u e
    obtain ⟨_, rfl, rfl⟩ := only_some e
    exact ⟨there, by rw [List.length_map]; exact many, vs, _, vals_ints nums, there⟩
  generalize hH : only c a ob (ns.map V.int) = H0 at hS held
  have off : ∀ {b : Addr} {o : Obj}, s.heap.get? b = some o → H0 b = none → (hidT s.heap H0).get? b = some o := fun e n => hidT_get e n
  have dictOff : ∀ {b : Addr} {m : Str → Option Value}, s.heap.Ns b m → (hidT s.heap H0).Ns b m := by
    intro b m hn
    obtain ⟨o, es, ep, e, d, r⟩ := hn
    refine ⟨o, es, ep, off e ?_, d, r⟩
    rw [← hH]
    refine only_off ?_
    rintro rfl
    rw [there] at e
    cases e
    cases d
  have kin0 : K.In (hidT s.heap H0) := by
    intro b o e
    refine off (kin b o e) ?_
    cases h0 : H0 b with
    | none => rfl
    | some u =>
      rw [← hH] at h0
      obtain ⟨z1, rfl, _⟩ := only_some h0
      rw [apart z1] at e
      cases e
  have md : Mod K mg (hidT s.heap H0) := ⟨kin0, dictOff hm, ⟨mb, dictOff hb, hbb⟩, by
    obtain ⟨mc, c1, c2⟩ := lim
    exact ⟨mc, dictOff c1, c2⟩⟩
  have e0 : Env0 P w K mg (hidT s.heap H0) callerA [] s H0 := ⟨rfl, md, fun b o e => of_hidT e, Nat.le_of_eq (hidT_size _ _), trivial, fun b z => (List.not_mem_nil z).elim, held, .of_eq gens⟩
  have run := (F _ kin0 (dictOff hm)).runs callerA rfl room [] s H0 e0 ⟨[.ref a], []⟩ [.ref a] [.ref a] (bind s (.ref a)) (.cons rfl .nil) (fun v _ => v = .bl true) E0 (hsp H0 hS fun b n => by rw [← hH]; exact only_off n)
  refine codeAny_mono run fun r s2 h => ?_
  match r, h with
  | .error _, h => exact False.elim h
  | .ok .next, h => exact False.elim h
  | .ok .brk, h => exact False.elim h
  | .ok .cont, h => exact False.elim h
  | .ok (.ret u), ⟨v, H2, os, bare, un, held2, rv, q⟩ =>
    subst q
    cases rv
    refine ⟨rfl, OldK.of_keep fun b o e => ?_, os, bare⟩
    cases h0 : H0 b with
    | none => exact un.keep b o e h0 (fun z => (List.not_mem_nil z).elim) (fun z => (List.not_mem_nil z).elim)
    | some u =>
      have h1 := h0
      rw [← hH] at h1
      obtain ⟨_, rfl, rfl⟩ := only_some h1
      obtain ⟨e2, _⟩ := held2 b _ (un.frzs b ob _ h0)
      rw [there] at e
      cases e
      exact e2

theorem walk_g {l : PySem.W.OpenLaw} {n k : Nat} {q : Program} {loose : List Str} {XP : (Str → Option Value) → Heap → Prop} {YP : World → Heap → Prop} {d : DefRec} {K : Params → PySem.W.Frag} {sp : PySem.W.Frag → Sp} {x : Str}
    (hn : l.most = some n) (hn2 : n ≤ sizeLine) (hdf : d.params.defaults = []) (room : Room k callerA) (hY : ∀ (w : World) (h : Heap), YP w h → (K w.params).In h)
    (F : ∀ (w : World) (mg : Str → Option Value) (fa : Addr) (h : Heap), (K w.params).In h → h.Ns mainGlobals mg → mg d.name = some (.ref fa) →
      ∃ fd : FuncData, (∀ (s : Shared) (u : Value), BindsTo s fd ⟨[u], []⟩ [(x, u)]) ∧ ∀ base : Heap, (K w.params).In base → base.Ns mainGlobals mg → FnG l.prog w (K w.params) mg base k fa fd [x] (sp (K w.params)))
    (hsp : ∀ (K : PySem.W.Frag) (H : Hp) (a : Addr) (ns : List Int), ns.length ≤ n → SqL K H a (ns.map V.int) → (∀ b, b ≠ a → H b = none) → sp K [.ref a] H (fun v _ => v = .bl true) E0) :
    PySem.W.WalkO q loose XP YP l.row.toRowW d [] (fun f vs => PySem.call f vs) := by
  refine Att.attach_call hn hdf fun w s₀ s₁ mg mb fa o pm cd doc a vs ns G Y ho hd hcd hmg there nums many gens => ?_
  have kin := hY w _ Y
  obtain ⟨fd, bind, hF⟩ := F w mg fa _ kin G.T.g hmg
  exact enter kin G.T.g G.T.b G.T.builtins G.T.nolimit gens there nums (Nat.le_trans many hn2) room hF bind fun H h1 h2 => hsp _ H a ns many h1 h2
end W0

/-! W1: data in the abstract heap, its size as text; type(x); sorted lists of triples of ints. -/
namespace W1
open PySem PySem.Spec PyProof.Rows L2

/-! ### data stays -/
theorem same_tup {K : PySem.W.Frag} {H H' : Hp} {a : Addr} {xs : List V} (e : Same H H') (h : SqT K H a xs) : SqT K H' a xs := by
  rcases h with (h | ⟨o, h⟩) | h
  · exact .inl (.inl (e _ _ h))
  · exact .inl (.inr ⟨o, e _ _ h⟩)
  · exact .inr h
theorem same_new {H : Hp} {p : Addr} {o : HO} (h : H p = none) : Same H (upd H p o) := fun b x e => by
  rw [upd_ne (ne_of_none e h)]
  exact e
mutual
theorem dp_same {K : PySem.W.Frag} {H H' : Hp} (e : Same H H') : ∀ (d : PyData) (v : V), Dp K H v d → Dp K H' v d
  | .none, _, h => by cases h; exact .non
  | .bool b, _, h => by cases h; exact .bl b
  | .int i, _, h => by cases h; exact .int i
  | .str x, _, h => by cases h; exact .str x
  | .list ds, _, h => by
    cases h with
    | lst hs ha => exact .lst (e.seq hs) (dps_same e ds _ ha)
  | .tuple ds, _, h => by
    cases h with
    | tup hs ha => exact .tup (same_tup e hs) (dps_same e ds _ ha)
  | .dict _, _, h => by cases h
theorem dps_same {K : PySem.W.Frag} {H H' : Hp} (e : Same H H') : ∀ (ds : List PyData) (vs : List V), DpAll K H vs ds → DpAll K H' vs ds
  | [], _, h => by cases h; exact .nil
  | d :: ds, _, h => by
    cases h with
    | cons h1 h2 => exact .cons (dp_same e d _ h1) (dps_same e ds _ h2)
end
section
variable {K : PySem.W.Frag} {H : Hp}
theorem dps_len : ∀ {vs : List V} {ds : List PyData}, DpAll K H vs ds → vs.length = ds.length
  | _, _, .nil => rfl
  | _, _, .cons _ t => by rw [List.length_cons, List.length_cons, dps_len t]
theorem dps_get : ∀ {vs : List V} {ds : List PyData} {i : Nat} {d : PyData}, DpAll K H vs ds → ds[i]? = some d → ∃ v, vs[i]? = some v ∧ Dp K H v d
  | _, _, _, _, .nil, e => by simp at e
  | _, _, 0, _, .cons h _, e => by
    simp at e
    subst e
    exact ⟨_, rfl, h⟩
  | _, _, i + 1, d, .cons _ t, e => by
    obtain ⟨v, h1, h2⟩ := dps_get (i := i) t (by simpa using e)
    exact ⟨v, by simpa using h1, h2⟩
theorem dps_app : ∀ {vs ws : List V} {ds es : List PyData}, DpAll K H vs ds → DpAll K H ws es → DpAll K H (vs ++ ws) (ds ++ es)
  | _, _, _, _, .nil, h => h
  | _, _, _, _, .cons h t, g => .cons h (dps_app t g)
theorem dps_one {v : V} {d : PyData} (h : Dp K H v d) : DpAll K H [v] [d] := .cons h .nil
theorem dp_tup {v : V} {ds : List PyData} (h : Dp K H v (.tuple ds)) : ∃ a xs, v = .ref a ∧ SqT K H a xs ∧ DpAll K H xs ds := by
  cases h with
  | tup hs ha => exact ⟨_, _, rfl, hs, ha⟩
theorem dp_lst {v : V} {ds : List PyData} (h : Dp K H v (.list ds)) : ∃ a xs, v = .ref a ∧ SqL K H a xs ∧ DpAll K H xs ds := by
  cases h with
  | lst hs ha => exact ⟨_, _, rfl, hs, ha⟩
theorem dp_int {v : V} {i : Int} (h : Dp K H v (.int i)) : v = .int i := by cases h; rfl
theorem dp_bl {v : V} {b : Bool} (h : Dp K H v (.bool b)) : v = .bl b := by cases h; rfl
theorem dp_mk {p : Addr} {xs : List V} {ds : List PyData} (hp : H p = none) (h : DpAll K H xs ds) : Dp K (upd H p (.tup xs)) (.ref p) (.tuple ds) := .tup (SqT.of upd_same) (dps_same (same_new hp) ds xs h)
theorem dp_mkl {p : Addr} {xs : List V} {ds : List PyData} (hp : H p = none) (h : DpAll K H xs ds) : Dp K (upd H p (.lst xs)) (.ref p) (.list ds) := .lst (SqL.of upd_same) (dps_same (same_new hp) ds xs h)
theorem dps_ints : ∀ ns : List Int, DpAll K H (ns.map V.int) (ns.map PyData.int)
  | [] => .nil
  | n :: ns => .cons (.int n) (dps_ints ns)
theorem dps_ints_inv : ∀ {ns : List Int} {vs : List V}, DpAll K H vs (ns.map PyData.int) → vs = ns.map V.int
  | [], _, .nil => rfl
  | n :: ns, _, .cons h t => by
    rw [dp_int h, dps_ints_inv t]
    rfl
end

/-! ### data small enough to be shown -/
structure Fine (k n : Nat) (d : PyData) : Prop where
  leaf : d.leavesShort 13 = true
  vis : d.showable = true
  nod : d.hasDict = false
  lay : d.canLay0 = true
  dep : d.depth ≤ k
  blk : d.bulk ≤ n
theorem all_leaf : ∀ {ds : List PyData}, (∀ d ∈ ds, d.leavesShort 13 = true) → PyData.leavesShortAll 13 ds = true
  | [], _ => rfl
  | d :: ds, h => by
    show (PyData.leavesShort 13 d && PyData.leavesShortAll 13 ds) = true
    rw [h d List.mem_cons_self, all_leaf fun e m => h e (List.mem_cons_of_mem _ m)]
    rfl
theorem all_vis : ∀ {ds : List PyData}, (∀ d ∈ ds, d.showable = true) → PyData.showableAll ds = true
  | [], _ => rfl
  | d :: ds, h => by
    show (PyData.showable d && PyData.showableAll ds) = true
    rw [h d List.mem_cons_self, all_vis fun e m => h e (List.mem_cons_of_mem _ m)]
    rfl
theorem all_nod : ∀ {ds : List PyData}, (∀ d ∈ ds, d.hasDict = false) → PyData.hasDictAll ds = false
  | [], _ => rfl
  | d :: ds, h => by
    show (PyData.hasDict d || PyData.hasDictAll ds) = false
    rw [h d List.mem_cons_self, all_nod fun e m => h e (List.mem_cons_of_mem _ m)]
    rfl
theorem all_lay : ∀ {ds : List PyData}, (∀ d ∈ ds, d.canLay0 = true) → PyData.canLayAll0 ds = true
  | [], _ => rfl
  | d :: ds, h => by
    show (PyData.canLay0 d && PyData.canLayAll0 ds) = true
    rw [h d List.mem_cons_self, all_lay fun e m => h e (List.mem_cons_of_mem _ m)]
    rfl
theorem all_dep {k : Nat} : ∀ {ds : List PyData}, (∀ d ∈ ds, d.depth ≤ k) → PyData.depthAll ds ≤ k
  | [], _ => Nat.zero_le _
  | d :: ds, h => by
    show max (PyData.depth d) (PyData.depthAll ds) ≤ k
    exact Nat.max_le.mpr ⟨h d List.mem_cons_self, all_dep fun e m => h e (List.mem_cons_of_mem _ m)⟩
theorem all_blk {n : Nat} : ∀ {ds : List PyData}, (∀ d ∈ ds, d.bulk ≤ n) → PyData.bulkAll ds ≤ ds.length * (n + 1)
  | [], _ => Nat.zero_le _
  | d :: ds, h => by
    show PyData.bulk d + 1 + PyData.bulkAll ds ≤ (ds.length + 1) * (n + 1)
    have h1 := h d List.mem_cons_self
    have h2 := all_blk fun e m => h e (List.mem_cons_of_mem _ m)
    rw [Nat.add_mul]
    omega
theorem Fine.mono {k n k' n' : Nat} {d : PyData} (f : Fine k n d) (h1 : k ≤ k') (h2 : n ≤ n') : Fine k' n' d := ⟨f.leaf, f.vis, f.nod, f.lay, Nat.le_trans f.dep h1, Nat.le_trans f.blk h2⟩
theorem Fine.int {i : Int} (h : i.natAbs < 10 ^ 12) : Fine 0 0 (.int i) := by
  refine ⟨decide_eq_true (PyData.shown_int_le h), decide_eq_true ?_, rfl, rfl, Nat.le_refl _, Nat.le_refl _⟩
  rcases Nat.eq_zero_or_pos i.natAbs with z | z
  · rw [z]
    decide
  · have h2 : i.natAbs < 2 ^ 40 := Nat.lt_of_lt_of_le h (by decide)
    have := (Nat.log2_lt (by omega)).mpr h2
    omega
theorem Fine.bl (b : Bool) : Fine 0 0 (.bool b) := ⟨rfl, rfl, rfl, rfl, Nat.le_refl _, Nat.le_refl _⟩
theorem Fine.tup {k n m : Nat} {ds : List PyData} (h : ∀ d ∈ ds, Fine k n d) (hm : ds.length ≤ m) : Fine (k + 1) (m * (n + 1)) (.tuple ds) :=
  ⟨all_leaf fun d m => (h d m).leaf, all_vis fun d m => (h d m).vis, all_nod fun d m => (h d m).nod, all_lay fun d m => (h d m).lay, Nat.succ_le_succ (all_dep fun d m => (h d m).dep), Nat.le_trans (all_blk fun d m => (h d m).blk) (Nat.mul_le_mul_right _ hm)⟩
theorem Fine.lst {k n m : Nat} {ds : List PyData} (h : ∀ d ∈ ds, Fine k n d) (hm : ds.length ≤ m) : Fine (k + 1) (m * (n + 1)) (.list ds) :=
  ⟨all_leaf fun d m => (h d m).leaf, all_vis fun d m => (h d m).vis, all_nod fun d m => (h d m).nod, all_lay fun d m => (h d m).lay, Nat.succ_le_succ (all_dep fun d m => (h d m).dep), Nat.le_trans (all_blk fun d m => (h d m).blk) (Nat.mul_le_mul_right _ hm)⟩
theorem Fine.fits {k n : Nat} {d : PyData} (f : Fine k n d) (h : n ≤ 2 ^ 20) : d.shown.length ≤ sizeLine := PyData.shown_fits_bulk (B := 13) (by decide) (by decide) f.leaf (Nat.le_trans f.blk h)
theorem Fine.shaped {k n : Nat} {d : PyData} (f : Fine k n d) (h : k ≤ 64) : SeqAt.shaped d = true := by
  unfold SeqAt.shaped
  rw [f.lay, Bool.true_and]
  exact decide_eq_true (Nat.le_trans f.dep h)

/-! ### rules with the written part named (within a comprehension) -/
theorem pg_tupK {X : Cx} {K : PySem.W.Frag} {es : List Expr} {k n : Nat} {pos : Pos} {t : TGs} (hc : X.calm = true) (h : PGs X es t) (hK : X.K = K := by rfl) (hn : (assignEach es X.env).length = n := by rfl) (hs : (assignEach es X.env).findIdx? (·.1) = none := by rfl) :
    PG X (.Tuple es k pos) (gTup K n t) := hK ▸ pg_tup hc h hn hs
theorem op_ltK {X : Cx} {K : PySem.W.Frag} (hu : X.A.units < cLine) (hK : X.K = K := by rfl) : OpR X (compareOp .Lt) (rLtT K) := hK ▸ op_ltT hu
theorem ix_tupK {X : Cx} {K : PySem.W.Frag} (hK : X.K = K := by rfl) : IxR X (rIxT K) := hK ▸ ix_tup
theorem ix_listK {X : Cx} {K : PySem.W.Frag} (hK : X.K = K := by rfl) : IxR X (rIxL K) := hK ▸ ix_list

/-- a comprehension's block within another's: it captures nothing -/
theorem blk_any {N : List Str} {sc scope : Scope} {own : List (Str × Nat)} (sc0 : Scope) (h : BlkOk N sc0 scope own) (nf : (scope.names.all fun y => decide (y.2 ≠ .free)) = true) : BlkOk N sc scope own :=
  ⟨h.kind, h.uniq, h.ix, fun y hy e => absurd e (of_decide_eq_true (List.all_eq_true.mp nf y hy)), h.own⟩
section
variable {X : Cx}
theorem sw_dict {kx vx : Expr} {gs : List Comprehension} {scope : Scope} {pos py : Pos} {y : Str} {l : Nat} {env : Env} (hk : env.scope.kind = .function) (hy : env.scope.names.lookup y = some .local) (hl : (py.line == pos.line) = true)
    (ha : (scope.names.any fun (n, k) => n == y && (k == .local || k == .cell)) = false) : swapsWith (.DictComp kx vx gs scope pos) (some (.Name y py)) l env = pure true := by
  have k1 : env.kindOf y = some .local := hy
  have k2 : env.blockKind = .function := by
    unfold Env.blockKind
    rw [hk]
    rfl
  unfold swapsWith
  simp only [k1, k2, ha, Expr.pos, hl]
  rfl
/-- name = {k: v for ..}, the name a local -/
theorem ps_setDc {i : Nat} {y : Str} {py : Pos} {kx vx tg iter : Expr} {ifs : List Expr} {scope : Scope} {own : List (Str × Nat)} {pos spos : Pos} {wi : TI} {g : TG} {tt : TT} {tk tv : TE} (hc : X.calm = true) (hN : X.N.Nodup) (hy : X.N[i]? = some y) (hyl : X.env.scope.names.lookup y = some .local)
    (hsw : swapsWith (.DictComp kx vx [⟨tg, iter, ifs, 0⟩] scope pos) (some (.Name y py)) spos.line X.env = pure true) (hi : PI X tg iter wi) (ok : BlkOk X.N X.env.scope scope own)
    (hg : ∀ (s : Shared) (H : Hp) (C : Addr) (cl : List (Str × Addr)) (fp : List Addr), PG (X.blk s H scope (compEnvC scope cl C X.env) fp) tg g) (ht : ∀ (s : Shared) (H : Hp) (C : Addr) (cl : List (Str × Addr)) (fp : List Addr), PTs (X.blk s H scope (compEnvC scope cl C X.env) fp) ifs tt)
    (hk : ∀ (s : Shared) (H : Hp) (C : Addr) (cl : List (Str × Addr)) (fp : List Addr), PE (X.blk s H scope (compEnvC scope cl C X.env) fp) kx tk)
    (he : ∀ (s : Shared) (H : Hp) (C : Addr) (cl : List (Str × Addr)) (fp : List Addr), PE (X.blk s H scope (compEnvC scope cl C X.env) fp) vx tv) (hs : ∀ x, foldedSetIterable iter X.env x = pure x := by intro _; rfl) :
    PS X (.Assign [.Name y py] (.DictComp kx vx [⟨tg, iter, ifs, 0⟩] scope pos) spos) (tAsg (tDc wi g tt tk tv (own.map (·.2))) (gName i)) := by
  refine ⟨fun pins s σ H D I h => ?_⟩
  have h1 : tDc wi g tt tk tv (own.map (·.2)) σ H (fun x H1 => gName i x σ H1 D.nx) := h
  rw [exec_Assign_Name_used _ _ _ _ hsw]
  refine wpAny_bind (wpAny_standAt (wpAny_bind ?_))
  show wpAny _ X.A (do let _ ← comprehension (.DictComp kx vx [⟨tg, iter, ifs, 0⟩] scope pos) scope X.env (firstIterPos [⟨tg, iter, ifs, 0⟩] pos) newDict false (eval iter X.env) (some (assign (.Name y py) X.env))) _ _ s
  refine wpAny_bind (thn (dc_core (Qf := fun _ s2 => SP X pins D .next s2) hc hN I hi ok hg ht hk he hs h1 fun L C s2 m H2 I2 q hn f => ?_) fun _ s2 hq => wpAny_pure (wpAny_pure hq))
  show wpAny _ _ (assign (.Name y py) X.env (.ref L)) _ _ _
  obtain ⟨f0, f1, f2, f3, f4, f5⟩ := f
  refine wpAny_assign_Name (store_ok2 (v := V.ref L) I2 hN hy (.inl hyl) rfl (fun s3 I3 cell => ?_) (.inr hyl))
  obtain ⟨a, sb, ha⟩ := cell
  have apart : C ≠ a := by
    rcases ha with z | z
    · rw [z]
      exact f1
    · intro e
      exact f4 y a z e.symm
  exact ⟨m, hn.sameBut sb apart, fun h3 sb3 => ⟨_, H2, I3.turned (t' := s3.toks) (fun b o hb e => (sb3.2 b hb).trans e) f0 f1 f3 f4 f5, q⟩⟩
end
/-- t[lo:hi], as one promise -/
def rSlW (K : PySem.W.Frag) : V → Option Int → Option Int → Hp → VK → Prop := fun x lo hi H Q => ∃ a xs, x = .ref a ∧ SqT K H a xs ∧ ∀ b H1, Same H H1 → SqT K H1 b (cutV xs lo hi) → Q (.ref b) H1
theorem sl_tupK {X : Cx} {K : PySem.W.Frag} (hK : X.K = K := by rfl) : SlR X (rSlW K) := by
  subst hK
  intro pins s σ H x v vl vu lo hi sl Q I rx hs pl pu h
  obtain ⟨a, xs, rfl, hx, q⟩ := h
  refine sl_tupA pins s σ H _ v vl vu lo hi sl Q I rx hs pl pu ⟨a, xs, rfl, hx, fun hw => ?_, fun _ p np => q p _ (same_new np) (SqT.of upd_same)⟩
  refine q a H (Same.refl H) ?_
  have e : cutV xs lo hi = xs := by
    unfold cutV
    rw [hw.1, hw.2, List.drop_zero, Nat.sub_zero, List.take_length]
  rw [e]
  exact hx
/-- t + u, as one promise -/
def rCatW (K : PySem.W.Frag) : R2 := fun x y H Q => ∃ a b xs ys, x = .ref a ∧ y = .ref b ∧ SqT K H a xs ∧ SqT K H b ys ∧ xs.length + ys.length ≤ sizeLine ∧ ∀ p H1, Same H H1 → SqT K H1 p (xs ++ ys) → Q (.ref p) H1
theorem op_catK {X : Cx} {K : PySem.W.Frag} (hK : X.K = K := by rfl) : OpR X (binaryOp .Add) (rCatW K) := by
  subst hK
  intro pins s σ H x y v u Q I rx ry h
  obtain ⟨a, b, xs, ys, rfl, rfl, ha, hb, hz, q⟩ := h
  refine op_catA pins s σ H _ _ v u Q I rx ry ⟨a, b, xs, ys, rfl, rfl, ha, hb, hz, fun e => ?_, fun _ e => ?_, fun _ _ p np => q p _ (same_new np) (SqT.of upd_same)⟩
  · subst e
    exact q b H (Same.refl H) hb
  · subst e
    refine q a H (Same.refl H) ?_
    rw [List.append_nil]
    exact ha

/-- tuple(x) -/
def rTup (K : PySem.W.Frag) : List V → Hp → VK → Prop := fun vs H Q => ∃ p ys, vs = [.ref p] ∧ ((SqL K H p ys ∧ ∀ l, H l = none → Q (.ref l) (upd H l (.tup ys))) ∨ (SqT K H p ys ∧ Q (.ref p) H))
theorem call_tupleK {X : Cx} {K : PySem.W.Frag} (hK : X.K = K := by rfl) : CallR X (.type "tuple") (rTup K) := by
  subst hK
  exact call_tuple_of

/-! ### type(x) -/
inductive TyS (K : PySem.W.Frag) (H : Hp) : V → String → Prop
  | int (i : Int) : TyS K H (.int i) "int"
  | bl (b : Bool) : TyS K H (.bl b) "bool"
  | str (x : Str) : TyS K H (.str x) "str"
  | lst {a : Addr} {xs : List V} (e : SqL K H a xs) : TyS K H (.ref a) "list"
  | tup {a : Addr} {xs : List V} (e : SqT K H a xs) : TyS K H (.ref a) "tuple"
theorem call_typeS {X : Cx} : CallR X (.type "type") (fun vs H Q => ∃ x T, vs = [x] ∧ TyS X.K H x T ∧ Q (.ty T) H) := by
  intro pins s σ H vs us Q I r h
  obtain ⟨x, T, rfl, t, q⟩ := h
  obtain ⟨u, rfl, rx⟩ := vals1 r
  have both : s.TypeIs u T ∧ (Value.type T == Value.type "builtin_function_or_method") = false := by
    cases t with
    | int i =>
      obtain ⟨k, rfl⟩ := rx
      exact ⟨typeIs_int s i k, by decide +kernel⟩
    | bl b =>
      cases rx
      exact ⟨PySem.typeIs_bool s b, by decide +kernel⟩
    | str z =>
      obtain ⟨k, rfl⟩ := rx
      exact ⟨typeIs_str s z k, by decide +kernel⟩
    | lst e =>
      cases rx
      obtain ⟨its, _, p, _⟩ := I.list e
      exact ⟨p.isList.typeIs, by decide +kernel⟩
    | tup e =>
      cases rx
      obtain ⟨its, _, p, _⟩ := I.tuple e
      exact ⟨p.typeIs, by decide +kernel⟩
  exact call_type_of both.1 both.2 ⟨.ty T, H, I, rfl, q⟩
end W1

/-! W2: sorted(xs), xs a list of tuples of ints, of any length. -/
namespace W2
open PySem PySem.Spec PyProof.Rows L2

/-- the shape: no texts -/
def nums : Nat → Bool := fun _ => false
/-- the ints behind a key -/
def unKey : Option (List (Int ⊕ List Nat)) → List Int
  | some l => l.map fun x => match x with
    | .inl i => i
    | .inr _ => 0
  | none => []
theorem unKey_inl (ks : List Int) : unKey (some (ks.map Sum.inl)) = ks := by
  show (ks.map Sum.inl).map _ = ks
  rw [List.map_map]
  exact List.map_id'' (fun _ => rfl) ks
theorem items_key : ∀ {ks : List Int} {us : List Value} (i : Nat), IntsAre us ks → PyProof.Rows.tupItems nums i us = some (ks.map Sum.inl) := by
  intro ks us i h
  induction h generalizing i with
  | nil => rfl
  | cons n t r ih =>
    show (if nums i = true then none else (PyProof.Rows.tupItems nums (i + 1) _).map (Sum.inl n :: ·)) = _
    rw [if_neg (show ¬ nums i = true by intro z; cases z), ih]
    rfl
theorem lex_same : ∀ ks ms : List Int, PyProof.Rows.lexLt PyProof.Rows.itemOrd (ks.map Sum.inl) (ms.map Sum.inl) = HT.lexLt ks ms
  | [], [] => rfl
  | [], _ :: _ => rfl
  | _ :: _, [] => rfl
  | x :: ks, y :: ms => by
    show (decide (x < y) || (!decide (y < x) && PyProof.Rows.lexLt PyProof.Rows.itemOrd (ks.map Sum.inl) (ms.map Sum.inl))) = HT.lexLt (x :: ks) (y :: ms)
    rw [lex_same ks ms, HT.lexLt_cons]
    by_cases e : x = y
    · subst e
      simp
    · rw [if_neg e]
      rcases Int.lt_or_gt_of_ne e with c | c
      · simp [c]
      · have c1 : ¬ x < y := by omega
        simp [c, c1]

/-- the address and the ints of a value -/
def back (h : Heap) (v : Value) : Addr × List Int := (match v with
  | .ref a => a
  | _ => 0, unKey (PyProof.Rows.G.tupKeyC h nums v))
def rSortT (K : PySem.W.Frag) : List V → Hp → VK → Prop := fun vs H Q => ∃ (a : Addr) (ts : List (Addr × List Int)), vs = [.ref a] ∧ SqL K H a (ts.map fun p => V.ref p.1) ∧ (∀ p ∈ ts, SqT K H p.1 (p.2.map V.int) ∧ p.2 ≠ []) ∧
  ∀ (us : List (Addr × List Int)) (p : Addr), us.Perm ts → (us.map (·.2)).Pairwise (fun x y => HT.lexLt y x = false) → H p = none → Q (.ref p) (upd H p (.lst (us.map fun q => V.ref q.1)))
theorem refs_vals {ts : List (Addr × List Int)} : ∀ {us : List Value}, Vals (ts.map fun p => V.ref p.1) us → us = ts.map fun p => Value.ref p.1 := by
  induction ts with
  | nil =>
    intro us h
    cases h
    rfl
  | cons p ts ih =>
    intro us h
    cases h with
    | cons r t =>
      cases r
      rw [ih t]
      rfl
theorem vals_refs : ∀ ts : List (Addr × List Int), Vals (ts.map fun p => V.ref p.1) (ts.map fun p => Value.ref p.1)
  | [] => .nil
  | p :: ts => .cons rfl (vals_refs ts)
section
variable {X : Cx}
theorem tup_raw {pins : List (Addr × Obj)} {σ : L2.St} {H : Hp} {s : Shared} {t : Addr} {ks : List Int} (I : Inv X pins σ H s) (h : SqT X.K H t (ks.map V.int)) :
    ∃ o xs n, s.heap.get? t = some o ∧ o.cls = .type "tuple" ∧ o.data = .seq xs n ∧ IntsAre xs.toList ks := by
  obtain ⟨its, rv, ⟨o, ho, hc, n, hd⟩, _⟩ := I.tuple h
  exact ⟨o, its.toArray, n, ho, hc, hd, by simpa using rv.ints⟩
theorem key_raw {h : Heap} {t : Addr} {ks : List Int} {o : Obj} {xs : Array Value} {n : Nat} (ho : h.get? t = some o) (hc : o.cls = .type "tuple") (hd : o.data = .seq xs n) (hi : IntsAre xs.toList ks) : PyProof.Rows.G.tupKeyC h nums (.ref t) = some (ks.map Sum.inl) := by
  unfold PyProof.Rows.G.tupKeyC
  have e1 : PyProof.Rows.G.isTupObj h (.ref t) = true := by
    unfold PyProof.Rows.G.isTupObj
    simp only [ho, hc]
    decide
  rw [if_pos e1]
  show (match h.get? t with
    | some o => match o.data with
      | .seq xs _ => PyProof.Rows.tupItems nums 0 xs.toList
      | _ => none
    | none => none) = _
  rw [ho]
  simp only [hd]
  exact items_key 0 hi
/-- what a sort of the values leaves, told of the tuples -/
theorem sort_back {h : Heap} {ts : List (Addr × List Int)} (raw : ∀ p ∈ ts, PyProof.Rows.G.tupKeyC h nums (.ref p.1) = some (p.2.map Sum.inl)) {xs : Array Keyed} (pm : xs.Perm (pairsOf (ts.map fun p => Value.ref p.1)))
    (srt : SortedToK (PyProof.Rows.G.tupKindC h nums) xs (pairsOf (ts.map fun p => Value.ref p.1)).size) :
    ∃ us : List (Addr × List Int), us.Perm ts ∧ us.map (fun q => Value.ref q.1) = xs.toList.map (·.2) ∧ (us.map (·.2)).Pairwise (fun x y => HT.lexLt y x = false) := by
  have bk : ∀ p ∈ ts, back h (.ref p.1) = p := by
    intro p hp
    show (p.1, unKey (PyProof.Rows.G.tupKeyC h nums (.ref p.1))) = p
    rw [raw p hp, unKey_inl]
  have pml : xs.toList.Perm ((ts.map fun p => Value.ref p.1).zip (ts.map fun p => Value.ref p.1)) := by
    rw [← pairsOf_toList]
    exact pm.toList
  have mem : ∀ p ∈ xs.toList, p.1 = p.2 ∧ ∃ t ∈ ts, p.2 = Value.ref t.1 := by
    intro p hp
    obtain ⟨e, m⟩ := mem_zip_self (pml.mem_iff.mp hp)
    obtain ⟨t, ht, e2⟩ := List.mem_map.mp m
    exact ⟨e, t, ht, by rw [← e, e2]⟩
  refine ⟨xs.toList.map fun p => back h p.2, ?_, ?_, ?_⟩
  · have h1 := pml.map fun p => back h p.2
    have h2 : ((ts.map fun p => Value.ref p.1).zip (ts.map fun p => Value.ref p.1)).map (fun p => back h p.2) = ts := by
      rw [List.zip_eq_zipWith, List.map_zipWith, List.zipWith_map, List.zipWith_self]
      conv => rhs; rw [← List.map_id ts]
      exact List.map_congr_left fun p hp => bk p hp
    rw [h2] at h1
    exact h1
  · rw [List.map_map]
    refine List.map_congr_left fun p hp => ?_
    obtain ⟨_, t, ht, e⟩ := mem p hp
    show Value.ref (back h p.2).1 = p.2
    rw [e, bk t ht]
  · have keys : ∀ i (hi : i < xs.toList.length), KK (PyProof.Rows.G.tupKindC h nums) xs i = (back h xs.toList[i].2).2.map Sum.inl := by
      intro i hi
      have e : xs[i]? = some xs.toList[i] := by rw [← Array.getElem?_toList, List.getElem?_eq_getElem hi]
      obtain ⟨e1, t, ht, e2⟩ := mem _ (List.getElem_mem hi)
      unfold KK
      rw [e]
      show (PyProof.Rows.G.tupKeyC h nums xs.toList[i].1).getD [] = _
      rw [e1, e2, raw t ht, bk t ht]
      rfl
    rw [List.map_map]
    refine List.pairwise_map.mpr (List.pairwise_iff_getElem.mpr fun i j hi hj hij => ?_)
    have hsz : xs.toList.length = (pairsOf (ts.map fun p => Value.ref p.1)).size := by rw [pml.length_eq, ← pairsOf_toList, Array.length_toList]
    have h := srt i j (Nat.le_of_lt hij) (by rw [← hsz]; exact hj)
    rw [keys i hi, keys j hj] at h
    show HT.lexLt (back _ xs.toList[j].2).2 (back _ xs.toList[i].2).2 = false
    rw [← lex_same]
    exact h
theorem firsts_of {h : Heap} {ts : List (Addr × List Int)} (raw : ∀ p ∈ ts, ∃ f, PyProof.Rows.TupOf h nums (.ref p.1) f) : ∃ fs, PyProof.Rows.TupsOf h nums (ts.map fun p => Value.ref p.1) fs := by
  have all : ∀ l : List (Addr × List Int), (∀ p ∈ l, p ∈ ts) → ∃ fs, PyProof.Rows.TupsOf h nums (l.map fun p => Value.ref p.1) fs := by
    intro l
    induction l with
    | nil => intro _; exact ⟨[], .nil⟩
    | cons p l ih =>
      intro hs
      obtain ⟨fs, hfs⟩ := ih fun q hq => hs q (List.mem_cons_of_mem _ hq)
      obtain ⟨f, hf⟩ := raw p (hs p List.mem_cons_self)
      exact ⟨f :: fs, .cons hf hfs⟩
  exact all ts fun _ h => h
/-- a tuple of ints in the heap: its key, its first item -/
theorem raw_of {h : Heap} {t : Addr} {ks : List Int} {o : Obj} {xs : Array Value} {n : Nat} (ho : h.get? t = some o) (hc : o.cls = .type "tuple") (hd : o.data = .seq xs n) (hi : IntsAre xs.toList ks) (hne : ks ≠ []) :
    PyProof.Rows.G.tupKeyC h nums (.ref t) = some (ks.map Sum.inl) ∧ ∃ f, PyProof.Rows.TupOf h nums (.ref t) f := by
  refine ⟨key_raw ho hc hd hi, ?_⟩
  cases hi' : xs.toList with
  | nil =>
    rw [hi'] at hi
    cases hi
    exact absurd rfl hne
  | cons f rest =>
    have hf : xs[0]? = some f := by rw [← Array.getElem?_toList, hi']; rfl
    refine ⟨f, t, o, xs, n, rfl, ho, hc, hd, hf, fun _ => ?_, fun z => by cases z⟩
    rw [hi'] at hi
    cases hi with
    | cons n t r => exact ⟨_, _, rfl⟩
theorem cr_sortT : CallR X (.builtin "sorted") (rSortT X.K) := by
  intro pins s σ H vs us Q I r h
  obtain ⟨a, ts, rfl, hl, ht, q⟩ := h
  rw [Vals.ref1 r]
  obtain ⟨its, rv, pl, hz⟩ := I.list hl
  have eits := refs_vals rv
  have raw : ∀ p ∈ ts, PyProof.Rows.G.tupKeyC s.heap nums (.ref p.1) = some (p.2.map Sum.inl) ∧ ∃ f, PyProof.Rows.TupOf s.heap nums (.ref p.1) f := by
    intro p hp
    obtain ⟨o, xs, n, ho, hc, hd, hi⟩ := tup_raw I (ht p hp).1
    exact raw_of ho hc hd hi (ht p hp).2
  obtain ⟨fs, hfs⟩ := firsts_of fun p hp => (raw p hp).2
  subst eits
  refine PyProof.Rows.G.sorted_tups (fs := fs) pl.isList hfs (fun v hv => ?_) (by rw [← rv.length]; exact hz) fun st pm srt stb => ?_
  · obtain ⟨p, hp, rfl⟩ := List.mem_map.mp hv
    exact ⟨_, (raw p hp).1⟩
  · generalize arrOf st = xs at pm srt stb
    obtain ⟨us, pmu, vals, srt'⟩ := sort_back (fun p hp => (raw p hp).1) pm srt
    obtain ⟨ep, he'⟩ := sortedAll_at s.heap (ts.map fun p => Value.ref p.1) (xs.map (·.2))
    have hlen : (us.map fun q => V.ref q.1).length ≤ sizeLine := by
      rw [List.length_map, pmu.length_eq, ← List.length_map (as := ts) (f := fun p => V.ref p.1)]
      exact hz
    have hv : Vals (us.map fun q => V.ref q.1) (xs.map (·.2)).toList := by
      rw [Array.toList_map, ← vals]
      exact vals_refs us
    have hd : (sortedAll s.heap (ts.map fun p => Value.ref p.1) (xs.map (·.2))).get? (s.heap.objs.size + 1) = some { cls := .type "list", data := .seq (xs.map (·.2)).toList.toArray ep } := by
      rw [Array.toArray_toList]
      exact he'
    exact ⟨.ref _, upd H (s.heap.objs.size + 1) (.lst (us.map fun q => V.ref q.1)), I.laid (t' := s.toks) (fun _ _ => sortedAll_old) (Nat.le_succ _) ⟨hlen, _, ep, hv, hd⟩, rfl, q us _ pmu srt' (I.hok.fresh (Nat.le_succ _))⟩
theorem cr_sortTK {K : PySem.W.Frag} (hK : X.K = K := by rfl) : CallR X (.builtin "sorted") (rSortT K) := hK ▸ cr_sortT
end
end W2

/-! K0: the text's defs, what the top leaves of them; small checks of webs. -/
namespace K0
open PySem PySem.Spec PyProof.Rows L2 W0 W1 W2

def topS (i : Nat) : Stmt := PySem.Challenge.pw_anymarks_k07_whole_what_is_put_in_stays.main.body.getD i (.Pass ⟨0, 0, 0, 0⟩)
abbrev s_is_number : Stmt := topS 2
abbrev n_is_number : List Str := ["value", "low", "high"]
abbrev p_is_number : List Str := ["value", "low", "high"]
theorem sc_is_number : FnScope n_is_number p_is_number (defScope s_is_number) := ⟨rfl, rfl, rfl, by decide +kernel, rfl, by decide +kernel, by decide +kernel⟩
abbrev s_is_tuple : Stmt := topS 3
abbrev n_is_tuple : List Str := ["value", "least", "most"]
abbrev p_is_tuple : List Str := ["value", "least", "most"]
theorem sc_is_tuple : FnScope n_is_tuple p_is_tuple (defScope s_is_tuple) := ⟨rfl, rfl, rfl, by decide +kernel, rfl, by decide +kernel, by decide +kernel⟩
abbrev s_are_numbers : Stmt := topS 4
abbrev n_are_numbers : List Str := ["value", "many", "low", "high", "item"]
abbrev p_are_numbers : List Str := ["value", "many", "low", "high"]
theorem sc_are_numbers : FnScope n_are_numbers p_are_numbers (defScope s_are_numbers) := ⟨rfl, rfl, rfl, by decide +kernel, rfl, by decide +kernel, by decide +kernel⟩
abbrev s_is_ascending : Stmt := topS 5
abbrev n_is_ascending : List Str := ["things", "first", "second"]
abbrev p_is_ascending : List Str := ["things"]
theorem sc_is_ascending : FnScope n_is_ascending p_is_ascending (defScope s_is_ascending) := ⟨rfl, rfl, rfl, by decide +kernel, rfl, by decide +kernel, by decide +kernel⟩
abbrev s_need_web : Stmt := topS 18
abbrev n_need_web : List Str := ["web"]
abbrev p_need_web : List Str := ["web"]
theorem sc_need_web : FnScope n_need_web p_need_web (defScope s_need_web) := ⟨rfl, rfl, rfl, by decide +kernel, rfl, by decide +kernel, by decide +kernel⟩
abbrev s__is_web : Stmt := topS 19
abbrev n__is_web : List Str := ["value", "size", "arrows", "arrow"]
abbrev p__is_web : List Str := ["value"]
theorem sc__is_web : FnScope n__is_web p__is_web (defScope s__is_web) := ⟨rfl, rfl, rfl, by decide +kernel, rfl, by decide +kernel, by decide +kernel⟩
abbrev s__is_arrow : Stmt := topS 20
abbrev n__is_arrow : List Str := ["value", "size", "kind", "start", "end"]
abbrev p__is_arrow : List Str := ["value", "size"]
theorem sc__is_arrow : FnScope n__is_arrow p__is_arrow (defScope s__is_arrow) := ⟨rfl, rfl, rfl, by decide +kernel, rfl, by decide +kernel, by decide +kernel⟩
abbrev s_turned_way : Stmt := topS 21
abbrev n_turned_way : List Str := ["way"]
abbrev p_turned_way : List Str := ["way"]
theorem sc_turned_way : FnScope n_turned_way p_turned_way (defScope s_turned_way) := ⟨rfl, rfl, rfl, by decide +kernel, rfl, by decide +kernel, by decide +kernel⟩
abbrev s_leads_of : Stmt := topS 22
abbrev n_leads_of : List Str := ["web", "size", "arrows", "leads", "kind", "start", "end", "way", "_"]
abbrev p_leads_of : List Str := ["web"]
theorem sc_leads_of : FnScope n_leads_of p_leads_of (defScope s_leads_of) := ⟨rfl, rfl, rfl, by decide +kernel, rfl, by decide +kernel, by decide +kernel⟩
abbrev s_Walk___init__ : Stmt := inClass (topS 25) 0
abbrev n_Walk___init__ : List Str := ["self", "letters", "denying", "most_deep", "most_words"]
abbrev p_Walk___init__ : List Str := ["self", "letters", "denying", "most_deep", "most_words"]
theorem sc_Walk___init__ : FnScope n_Walk___init__ p_Walk___init__ (defScope s_Walk___init__) := ⟨rfl, rfl, rfl, by decide +kernel, rfl, by decide +kernel, by decide +kernel⟩
abbrev s_Walk_wrong_path : Stmt := inClass (topS 25) 1
abbrev n_Walk_wrong_path : List Str := ["self", "value", "heres", "numbers", "met"]
abbrev p_Walk_wrong_path : List Str := ["self", "value", "heres"]
theorem sc_Walk_wrong_path : FnScope n_Walk_wrong_path p_Walk_wrong_path (defScope s_Walk_wrong_path) := ⟨rfl, rfl, rfl, by decide +kernel, rfl, by decide +kernel, by decide +kernel⟩
abbrev s_Walk__met_if_right : Stmt := inClass (topS 25) 2
abbrev n_Walk__met_if_right : List Str := ["self", "value", "numbers", "met", "deep", "level"]
abbrev p_Walk__met_if_right : List Str := ["self", "value", "numbers"]
theorem sc_Walk__met_if_right : FnScope n_Walk__met_if_right p_Walk__met_if_right (defScope s_Walk__met_if_right) := ⟨rfl, rfl, rfl, by decide +kernel, rfl, by decide +kernel, by decide +kernel⟩
abbrev s_Walk__first_wrong : Stmt := inClass (topS 25) 3
abbrev n_Walk__first_wrong : List Str := ["self", "value", "numbers", "waiting", "path", "thing", "parts", "first", "further", "index", "part"]
abbrev p_Walk__first_wrong : List Str := ["self", "value", "numbers"]
theorem sc_Walk__first_wrong : FnScope n_Walk__first_wrong p_Walk__first_wrong (defScope s_Walk__first_wrong) := ⟨rfl, rfl, rfl, by decide +kernel, rfl, by decide +kernel, by decide +kernel⟩
abbrev s__parts_if_right : Stmt := topS 26
abbrev n__parts_if_right : List Str := ["things", "numbers", "denying", "parts", "thing", "word", "many"]
abbrev p__parts_if_right : List Str := ["things", "numbers", "denying"]
theorem sc__parts_if_right : FnScope n__parts_if_right p__parts_if_right (defScope s__parts_if_right) := ⟨rfl, rfl, rfl, by decide +kernel, rfl, by decide +kernel, by decide +kernel⟩
abbrev s_levels_of : Stmt := topS 27
abbrev n_levels_of : List Str := ["saying", "levels", "level", "word", "part"]
abbrev p_levels_of : List Str := ["saying"]
theorem sc_levels_of : FnScope n_levels_of p_levels_of (defScope s_levels_of) := ⟨rfl, rfl, rfl, by decide +kernel, rfl, by decide +kernel, by decide +kernel⟩
abbrev s_words_of : Stmt := topS 28
abbrev n_words_of : List Str := ["saying", "level", "word"]
abbrev p_words_of : List Str := ["saying"]
theorem sc_words_of : FnScope n_words_of p_words_of (defScope s_words_of) := ⟨rfl, rfl, rfl, by decide +kernel, rfl, by decide +kernel, by decide +kernel⟩
abbrev s_size_of : Stmt := topS 29
abbrev n_size_of : List Str := ["saying", "levels", "level"]
abbrev p_size_of : List Str := ["saying"]
theorem sc_size_of : FnScope n_size_of p_size_of (defScope s_size_of) := ⟨rfl, rfl, rfl, by decide +kernel, rfl, by decide +kernel, by decide +kernel⟩
abbrev s_size_with : Stmt := topS 30
abbrev n_size_with : List Str := ["saying", "sizes", "word", "words", "deep", "more", "deeper"]
abbrev p_size_with : List Str := ["saying", "sizes"]
theorem sc_size_with : FnScope n_size_with p_size_with (defScope s_size_with) := ⟨rfl, rfl, rfl, by decide +kernel, rfl, by decide +kernel, by decide +kernel⟩
abbrev s_letters_of : Stmt := topS 31
abbrev n_letters_of : List Str := ["sayings", "words", "saying", "word"]
abbrev p_letters_of : List Str := ["sayings"]
theorem sc_letters_of : FnScope n_letters_of p_letters_of (defScope s_letters_of) := ⟨rfl, rfl, rfl, by decide +kernel, rfl, by decide +kernel, by decide +kernel⟩
abbrev s_replaced : Stmt := topS 32
abbrev n_replaced : List Str := ["saying", "word", "table", "outer"]
abbrev p_replaced : List Str := ["saying", "word", "table"]
theorem sc_replaced : FnScope n_replaced p_replaced (defScope s_replaced) := ⟨rfl, rfl, rfl, by decide +kernel, rfl, by decide +kernel, by decide +kernel⟩
abbrev s_need_saying : Stmt := topS 36
abbrev n_need_saying : List Str := ["saying", "path"]
abbrev p_need_saying : List Str := ["saying"]
theorem sc_need_saying : FnScope n_need_saying p_need_saying (defScope s_need_saying) := ⟨rfl, rfl, rfl, by decide +kernel, rfl, by decide +kernel, by decide +kernel⟩
abbrev s_is_letter : Stmt := topS 37
abbrev n_is_letter : List Str := ["value"]
abbrev p_is_letter : List Str := ["value"]
theorem sc_is_letter : FnScope n_is_letter p_is_letter (defScope s_is_letter) := ⟨rfl, rfl, rfl, by decide +kernel, rfl, by decide +kernel, by decide +kernel⟩
abbrev s_letters_in : Stmt := topS 38
abbrev n_letters_in : List Str := ["saying"]
abbrev p_letters_in : List Str := ["saying"]
theorem sc_letters_in : FnScope n_letters_in p_letters_in (defScope s_letters_in) := ⟨rfl, rfl, rfl, by decide +kernel, rfl, by decide +kernel, by decide +kernel⟩
abbrev s_Cases___init__ : Stmt := inClass (topS 39) 0
abbrev n_Cases___init__ : List Str := ["self", "leads", "marks", "heres", "full"]
abbrev p_Cases___init__ : List Str := ["self", "leads", "marks", "heres", "full"]
theorem sc_Cases___init__ : FnScope n_Cases___init__ p_Cases___init__ (defScope s_Cases___init__) := ⟨rfl, rfl, rfl, by decide +kernel, rfl, by decide +kernel, by decide +kernel⟩
abbrev s_Cases_answers : Stmt := inClass (topS 39) 1
abbrev n_Cases_answers : List Str := ["self", "saying", "word", "first", "second", "here", "other"]
abbrev p_Cases_answers : List Str := ["self", "saying"]
theorem sc_Cases_answers : FnScope n_Cases_answers p_Cases_answers (defScope s_Cases_answers) := ⟨rfl, rfl, rfl, by decide +kernel, rfl, by decide +kernel, by decide +kernel⟩
abbrev s__everywhere : Stmt := topS 40
abbrev n__everywhere : List Str := ["full", "rows", "inner", "told", "row", "found", "there"]
abbrev p__everywhere : List Str := ["full", "rows", "inner"]
theorem sc__everywhere : FnScope n__everywhere p__everywhere (defScope s__everywhere) := ⟨rfl, rfl, rfl, by decide +kernel, rfl, by decide +kernel, by decide +kernel⟩
abbrev s_somewhere : Stmt := topS 41
abbrev n_somewhere : List Str := ["rows", "inner", "told", "row", "found", "there"]
abbrev p_somewhere : List Str := ["rows", "inner"]
theorem sc_somewhere : FnScope n_somewhere p_somewhere (defScope s_somewhere) := ⟨rfl, rfl, rfl, by decide +kernel, rfl, by decide +kernel, by decide +kernel⟩
abbrev s_put_in : Stmt := topS 42
abbrev n_put_in : List Str := ["saying", "letter", "other", "sizes", "words", "deep", "table", "index"]
abbrev p_put_in : List Str := ["saying", "letter", "other"]
theorem sc_put_in : FnScope n_put_in p_put_in (defScope s_put_in) := ⟨rfl, rfl, rfl, by decide +kernel, rfl, by decide +kernel, by decide +kernel⟩
abbrev s_renamed : Stmt := topS 43
abbrev n_renamed : List Str := ["saying", "letters", "letter"]
abbrev p_renamed : List Str := ["saying", "letters"]
theorem sc_renamed : FnScope n_renamed p_renamed (defScope s_renamed) := ⟨rfl, rfl, rfl, by decide +kernel, rfl, by decide +kernel, by decide +kernel⟩
abbrev s_Trial___init__ : Stmt := inClass (topS 46) 0
abbrev n_Trial___init__ : List Str := ["self", "web", "saying", "marks", "letter", "world"]
abbrev p_Trial___init__ : List Str := ["self", "web", "saying"]
theorem sc_Trial___init__ : FnScope n_Trial___init__ p_Trial___init__ (defScope s_Trial___init__) := ⟨rfl, rfl, rfl, by decide +kernel, rfl, by decide +kernel, by decide +kernel⟩
abbrev s_Trial__bit : Stmt := inClass (topS 46) 1
abbrev n_Trial__bit : List Str := ["self", "letter", "world"]
abbrev p_Trial__bit : List Str := ["self", "letter", "world"]
theorem sc_Trial__bit : FnScope n_Trial__bit p_Trial__bit (defScope s_Trial__bit) := ⟨rfl, rfl, rfl, by decide +kernel, rfl, by decide +kernel, by decide +kernel⟩
abbrev s_Trial__marked : Stmt := inClass (topS 46) 2
abbrev n_Trial__marked : List Str := ["self", "letter", "world", "run"]
abbrev p_Trial__marked : List Str := ["self", "letter", "world"]
theorem sc_Trial__marked : FnScope n_Trial__marked p_Trial__marked (defScope s_Trial__marked) := ⟨rfl, rfl, rfl, by decide +kernel, rfl, by decide +kernel, by decide +kernel⟩
abbrev s_tried : Stmt := topS 47
abbrev n_tried : List Str := ["web", "saying", "trial", "world", "answer"]
abbrev p_tried : List Str := ["web", "saying"]
theorem sc_tried : FnScope n_tried p_tried (defScope s_tried) := ⟨rfl, rfl, rfl, by decide +kernel, rfl, by decide +kernel, by decide +kernel⟩
abbrev s__law_mixed : Stmt := topS 49
abbrev n__law_mixed : List Str := ["cell", "k"]
abbrev p__law_mixed : List Str := ["cell", "k"]
theorem sc__law_mixed : FnScope n__law_mixed p__law_mixed (defScope s__law_mixed) := ⟨rfl, rfl, rfl, by decide +kernel, rfl, by decide +kernel, by decide +kernel⟩
abbrev s__law_begin : Stmt := topS 50
abbrev n__law_begin : List Str := ["script", "cells_so", "cell"]
abbrev p__law_begin : List Str := ["script"]
theorem sc__law_begin : FnScope n__law_begin p__law_begin (defScope s__law_begin) := ⟨rfl, rfl, rfl, by decide +kernel, rfl, by decide +kernel, by decide +kernel⟩
abbrev s__law_draw : Stmt := topS 51
abbrev n__law_draw : List Str := ["state", "limit", "at", "place", "left", "number"]
abbrev p__law_draw : List Str := ["state", "limit"]
theorem sc__law_draw : FnScope n__law_draw p__law_draw (defScope s__law_draw) := ⟨rfl, rfl, rfl, by decide +kernel, rfl, by decide +kernel, by decide +kernel⟩
abbrev s__law_web : Stmt := topS 52
abbrev n__law_web : List Str := ["state", "most", "kinds", "size", "found", "kind", "here", "there"]
abbrev p__law_web : List Str := ["state", "most", "kinds"]
theorem sc__law_web : FnScope n__law_web p__law_web (defScope s__law_web) := ⟨rfl, rfl, rfl, by decide +kernel, rfl, by decide +kernel, by decide +kernel⟩
abbrev s__law_way : Stmt := topS 53
abbrev n__law_way : List Str := ["state", "kinds", "back_so", "kind"]
abbrev p__law_way : List Str := ["state", "kinds", "back_so"]
theorem sc__law_way : FnScope n__law_way p__law_way (defScope s__law_way) := ⟨rfl, rfl, rfl, by decide +kernel, rfl, by decide +kernel, by decide +kernel⟩
abbrev s__law_saying : Stmt := topS 54
abbrev n__law_saying : List Str := ["state", "deep", "letters", "kinds", "back_so", "pick", "word", "toward", "near"]
abbrev p__law_saying : List Str := ["state", "deep", "letters", "kinds", "back_so"]
theorem sc__law_saying : FnScope n__law_saying p__law_saying (defScope s__law_saying) := ⟨rfl, rfl, rfl, by decide +kernel, rfl, by decide +kernel, by decide +kernel⟩
abbrev s__law_along : Stmt := topS 55
abbrev n__law_along : List Str := ["web_so", "toward", "size", "arrows_so", "found", "kind", "near", "far"]
abbrev p__law_along : List Str := ["web_so", "toward"]
theorem sc__law_along : FnScope n__law_along p__law_along (defScope s__law_along) := ⟨rfl, rfl, rfl, by decide +kernel, rfl, by decide +kernel, by decide +kernel⟩
abbrev s__law_bit : Stmt := topS 56
abbrev n__law_bit : List Str := ["spot", "found", "step"]
abbrev p__law_bit : List Str := ["spot"]
theorem sc__law_bit : FnScope n__law_bit p__law_bit (defScope s__law_bit) := ⟨rfl, rfl, rfl, by decide +kernel, rfl, by decide +kernel, by decide +kernel⟩
abbrev s__law_spots : Stmt := topS 57
abbrev n__law_spots : List Str := ["told", "size", "spot"]
abbrev p__law_spots : List Str := ["told", "size"]
theorem sc__law_spots : FnScope n__law_spots p__law_spots (defScope s__law_spots) := ⟨rfl, rfl, rfl, by decide +kernel, rfl, by decide +kernel, by decide +kernel⟩
abbrev s__law_holds : Stmt := topS 58
abbrev n__law_holds : List Str := ["web_so", "saying_so", "marks_so", "size", "word", "whole", "near", "far", "led", "found", "spot", "good"]
abbrev p__law_holds : List Str := ["web_so", "saying_so", "marks_so"]
theorem sc__law_holds : FnScope n__law_holds p__law_holds (defScope s__law_holds) := ⟨rfl, rfl, rfl, by decide +kernel, rfl, by decide +kernel, by decide +kernel⟩
abbrev s__law_letters : Stmt := topS 59
abbrev n__law_letters : List Str := ["saying_so", "found", "part"]
abbrev p__law_letters : List Str := ["saying_so"]
theorem sc__law_letters : FnScope n__law_letters p__law_letters (defScope s__law_letters) := ⟨rfl, rfl, rfl, by decide +kernel, rfl, by decide +kernel, by decide +kernel⟩
abbrev s__law_markings : Stmt := topS 60
abbrev n__law_markings : List Str := ["size", "letters_so", "found", "letter_so", "more", "marks_so", "told", "bent"]
abbrev p__law_markings : List Str := ["size", "letters_so"]
theorem sc__law_markings : FnScope n__law_markings p__law_markings (defScope s__law_markings) := ⟨rfl, rfl, rfl, by decide +kernel, rfl, by decide +kernel, by decide +kernel⟩
abbrev s__law_kept : Stmt := topS 61
abbrev n__law_kept : List Str := ["web_so", "saying_so", "found", "marks_so"]
abbrev p__law_kept : List Str := ["web_so", "saying_so"]
theorem sc__law_kept : FnScope n__law_kept p__law_kept (defScope s__law_kept) := ⟨rfl, rfl, rfl, by decide +kernel, rfl, by decide +kernel, by decide +kernel⟩
abbrev s__law_like : Stmt := topS 62
abbrev n__law_like : List Str := ["got", "due"]
abbrev p__law_like : List Str := ["got", "due"]
theorem sc__law_like : FnScope n__law_like p__law_like (defScope s__law_like) := ⟨rfl, rfl, rfl, by decide +kernel, rfl, by decide +kernel, by decide +kernel⟩
abbrev s__law_moved : Stmt := topS 63
abbrev n__law_moved : List Str := ["said", "names_so", "part"]
abbrev p__law_moved : List Str := ["said", "names_so"]
theorem sc__law_moved : FnScope n__law_moved p__law_moved (defScope s__law_moved) := ⟨rfl, rfl, rfl, by decide +kernel, rfl, by decide +kernel, by decide +kernel⟩
abbrev s__law_put : Stmt := topS 64
abbrev n__law_put : List Str := ["said", "spot", "more", "part"]
abbrev p__law_put : List Str := ["said", "spot", "more"]
theorem sc__law_put : FnScope n__law_put p__law_put (defScope s__law_put) := ⟨rfl, rfl, rfl, by decide +kernel, rfl, by decide +kernel, by decide +kernel⟩
abbrev s__law_shape : Stmt := topS 65
abbrev n__law_shape : List Str := ["state", "p", "q", "toward", "pick", "more"]
abbrev p__law_shape : List Str := ["state"]
theorem sc__law_shape : FnScope n__law_shape p__law_shape (defScope s__law_shape) := ⟨rfl, rfl, rfl, by decide +kernel, rfl, by decide +kernel, by decide +kernel⟩
abbrev s__law_stays : Stmt := topS 66
abbrev n__law_stays : List Str := ["web_so", "due", "said", "told", "far"]
abbrev p__law_stays : List Str := ["web_so", "due", "said", "told"]
theorem sc__law_stays : FnScope n__law_stays p__law_stays (defScope s__law_stays) := ⟨rfl, rfl, rfl, by decide +kernel, rfl, by decide +kernel, by decide +kernel⟩
abbrev s__law_right : Stmt := topS 67
abbrev n__law_right : List Str := ["state", "web_so", "said", "due", "spot", "more", "names_so", "step"]
abbrev p__law_right : List Str := ["state", "web_so", "said"]
theorem sc__law_right : FnScope n__law_right p__law_right (defScope s__law_right) := ⟨rfl, rfl, rfl, by decide +kernel, rfl, by decide +kernel, by decide +kernel⟩
abbrev s_law : Stmt := topS 68
abbrev n_law : List Str := ["script", "state", "turn", "p", "web_so", "told", "said"]
abbrev p_law : List Str := ["script"]
theorem sc_law : FnScope n_law p_law (defScope s_law) := ⟨rfl, rfl, rfl, by decide +kernel, rfl, by decide +kernel, by decide +kernel⟩

set_option maxHeartbeats 0 in
structure Tops (K : PySem.W.Frag) (w : World) (mg : Str → Option Value) where
  a_is_number : Addr
  fd_is_number : FuncData
  F_is_number : Fun K "is_number" "is_number" s_is_number a_is_number fd_is_number
  b_is_number : Binds K fd_is_number p_is_number []
  g_is_number : mg "is_number" = some (.ref a_is_number)
  a_is_tuple : Addr
  fd_is_tuple : FuncData
  F_is_tuple : Fun K "is_tuple" "is_tuple" s_is_tuple a_is_tuple fd_is_tuple
  b_is_tuple : Binds K fd_is_tuple p_is_tuple []
  g_is_tuple : mg "is_tuple" = some (.ref a_is_tuple)
  a_are_numbers : Addr
  fd_are_numbers : FuncData
  F_are_numbers : Fun K "are_numbers" "are_numbers" s_are_numbers a_are_numbers fd_are_numbers
  b_are_numbers : Binds K fd_are_numbers p_are_numbers []
  g_are_numbers : mg "are_numbers" = some (.ref a_are_numbers)
  a_is_ascending : Addr
  fd_is_ascending : FuncData
  F_is_ascending : Fun K "is_ascending" "is_ascending" s_is_ascending a_is_ascending fd_is_ascending
  b_is_ascending : Binds K fd_is_ascending p_is_ascending []
  g_is_ascending : mg "is_ascending" = some (.ref a_is_ascending)
  a_need_web : Addr
  fd_need_web : FuncData
  F_need_web : Fun K "need_web" "need_web" s_need_web a_need_web fd_need_web
  b_need_web : Binds K fd_need_web p_need_web []
  g_need_web : mg "need_web" = some (.ref a_need_web)
  a__is_web : Addr
  fd__is_web : FuncData
  F__is_web : Fun K "_is_web" "_is_web" s__is_web a__is_web fd__is_web
  b__is_web : Binds K fd__is_web p__is_web []
  g__is_web : mg "_is_web" = some (.ref a__is_web)
  a__is_arrow : Addr
  fd__is_arrow : FuncData
  F__is_arrow : Fun K "_is_arrow" "_is_arrow" s__is_arrow a__is_arrow fd__is_arrow
  b__is_arrow : Binds K fd__is_arrow p__is_arrow []
  g__is_arrow : mg "_is_arrow" = some (.ref a__is_arrow)
  a_turned_way : Addr
  fd_turned_way : FuncData
  F_turned_way : Fun K "turned_way" "turned_way" s_turned_way a_turned_way fd_turned_way
  b_turned_way : Binds K fd_turned_way p_turned_way []
  g_turned_way : mg "turned_way" = some (.ref a_turned_way)
  a_leads_of : Addr
  fd_leads_of : FuncData
  F_leads_of : Fun K "leads_of" "leads_of" s_leads_of a_leads_of fd_leads_of
  b_leads_of : Binds K fd_leads_of p_leads_of []
  g_leads_of : mg "leads_of" = some (.ref a_leads_of)
  a_Walk___init__ : Addr
  fd_Walk___init__ : FuncData
  F_Walk___init__ : Fun K "__init__" "Walk.__init__" s_Walk___init__ a_Walk___init__ fd_Walk___init__
  b_Walk___init__ : Binds K fd_Walk___init__ p_Walk___init__ []
  a_Walk_wrong_path : Addr
  fd_Walk_wrong_path : FuncData
  F_Walk_wrong_path : Fun K "wrong_path" "Walk.wrong_path" s_Walk_wrong_path a_Walk_wrong_path fd_Walk_wrong_path
  b_Walk_wrong_path : Binds K fd_Walk_wrong_path p_Walk_wrong_path []
  a_Walk__met_if_right : Addr
  fd_Walk__met_if_right : FuncData
  F_Walk__met_if_right : Fun K "_met_if_right" "Walk._met_if_right" s_Walk__met_if_right a_Walk__met_if_right fd_Walk__met_if_right
  b_Walk__met_if_right : Binds K fd_Walk__met_if_right p_Walk__met_if_right []
  a_Walk__first_wrong : Addr
  fd_Walk__first_wrong : FuncData
  F_Walk__first_wrong : Fun K "_first_wrong" "Walk._first_wrong" s_Walk__first_wrong a_Walk__first_wrong fd_Walk__first_wrong
  b_Walk__first_wrong : Binds K fd_Walk__first_wrong p_Walk__first_wrong []
  a__parts_if_right : Addr
  fd__parts_if_right : FuncData
  F__parts_if_right : Fun K "_parts_if_right" "_parts_if_right" s__parts_if_right a__parts_if_right fd__parts_if_right
  b__parts_if_right : Binds K fd__parts_if_right p__parts_if_right []
  g__parts_if_right : mg "_parts_if_right" = some (.ref a__parts_if_right)
  a_levels_of : Addr
  fd_levels_of : FuncData
  F_levels_of : Fun K "levels_of" "levels_of" s_levels_of a_levels_of fd_levels_of
  b_levels_of : Binds K fd_levels_of p_levels_of []
  g_levels_of : mg "levels_of" = some (.ref a_levels_of)
  a_words_of : Addr
  fd_words_of : FuncData
  F_words_of : Fun K "words_of" "words_of" s_words_of a_words_of fd_words_of
  b_words_of : Binds K fd_words_of p_words_of []
  g_words_of : mg "words_of" = some (.ref a_words_of)
  a_size_of : Addr
  fd_size_of : FuncData
  F_size_of : Fun K "size_of" "size_of" s_size_of a_size_of fd_size_of
  b_size_of : Binds K fd_size_of p_size_of []
  g_size_of : mg "size_of" = some (.ref a_size_of)
  a_size_with : Addr
  fd_size_with : FuncData
  F_size_with : Fun K "size_with" "size_with" s_size_with a_size_with fd_size_with
  b_size_with : Binds K fd_size_with p_size_with []
  g_size_with : mg "size_with" = some (.ref a_size_with)
  a_letters_of : Addr
  fd_letters_of : FuncData
  F_letters_of : Fun K "letters_of" "letters_of" s_letters_of a_letters_of fd_letters_of
  b_letters_of : Binds K fd_letters_of p_letters_of []
  g_letters_of : mg "letters_of" = some (.ref a_letters_of)
  a_replaced : Addr
  fd_replaced : FuncData
  F_replaced : Fun K "replaced" "replaced" s_replaced a_replaced fd_replaced
  b_replaced : Binds K fd_replaced p_replaced []
  g_replaced : mg "replaced" = some (.ref a_replaced)
  a_need_saying : Addr
  fd_need_saying : FuncData
  F_need_saying : Fun K "need_saying" "need_saying" s_need_saying a_need_saying fd_need_saying
  b_need_saying : Binds K fd_need_saying p_need_saying []
  g_need_saying : mg "need_saying" = some (.ref a_need_saying)
  a_is_letter : Addr
  fd_is_letter : FuncData
  F_is_letter : Fun K "is_letter" "is_letter" s_is_letter a_is_letter fd_is_letter
  b_is_letter : Binds K fd_is_letter p_is_letter []
  g_is_letter : mg "is_letter" = some (.ref a_is_letter)
  a_letters_in : Addr
  fd_letters_in : FuncData
  F_letters_in : Fun K "letters_in" "letters_in" s_letters_in a_letters_in fd_letters_in
  b_letters_in : Binds K fd_letters_in p_letters_in []
  g_letters_in : mg "letters_in" = some (.ref a_letters_in)
  a_Cases___init__ : Addr
  fd_Cases___init__ : FuncData
  F_Cases___init__ : Fun K "__init__" "Cases.__init__" s_Cases___init__ a_Cases___init__ fd_Cases___init__
  b_Cases___init__ : Binds K fd_Cases___init__ p_Cases___init__ []
  a_Cases_answers : Addr
  fd_Cases_answers : FuncData
  F_Cases_answers : Fun K "answers" "Cases.answers" s_Cases_answers a_Cases_answers fd_Cases_answers
  b_Cases_answers : Binds K fd_Cases_answers p_Cases_answers []
  a__everywhere : Addr
  fd__everywhere : FuncData
  F__everywhere : Fun K "_everywhere" "_everywhere" s__everywhere a__everywhere fd__everywhere
  b__everywhere : Binds K fd__everywhere p__everywhere []
  g__everywhere : mg "_everywhere" = some (.ref a__everywhere)
  a_somewhere : Addr
  fd_somewhere : FuncData
  F_somewhere : Fun K "somewhere" "somewhere" s_somewhere a_somewhere fd_somewhere
  b_somewhere : Binds K fd_somewhere p_somewhere []
  g_somewhere : mg "somewhere" = some (.ref a_somewhere)
  a_put_in : Addr
  fd_put_in : FuncData
  F_put_in : Fun K "put_in" "put_in" s_put_in a_put_in fd_put_in
  b_put_in : Binds K fd_put_in p_put_in []
  g_put_in : mg "put_in" = some (.ref a_put_in)
  a_renamed : Addr
  fd_renamed : FuncData
  F_renamed : Fun K "renamed" "renamed" s_renamed a_renamed fd_renamed
  b_renamed : Binds K fd_renamed p_renamed []
  g_renamed : mg "renamed" = some (.ref a_renamed)
  a_Trial___init__ : Addr
  fd_Trial___init__ : FuncData
  F_Trial___init__ : Fun K "__init__" "Trial.__init__" s_Trial___init__ a_Trial___init__ fd_Trial___init__
  b_Trial___init__ : Binds K fd_Trial___init__ p_Trial___init__ []
  a_Trial__bit : Addr
  fd_Trial__bit : FuncData
  F_Trial__bit : Fun K "_bit" "Trial._bit" s_Trial__bit a_Trial__bit fd_Trial__bit
  b_Trial__bit : Binds K fd_Trial__bit p_Trial__bit []
  a_Trial__marked : Addr
  fd_Trial__marked : FuncData
  F_Trial__marked : Fun K "_marked" "Trial._marked" s_Trial__marked a_Trial__marked fd_Trial__marked
  b_Trial__marked : Binds K fd_Trial__marked p_Trial__marked []
  a_tried : Addr
  fd_tried : FuncData
  F_tried : Fun K "tried" "tried" s_tried a_tried fd_tried
  b_tried : Binds K fd_tried p_tried []
  g_tried : mg "tried" = some (.ref a_tried)
  a__law_mixed : Addr
  fd__law_mixed : FuncData
  F__law_mixed : Fun K "_law_mixed" "_law_mixed" s__law_mixed a__law_mixed fd__law_mixed
  b__law_mixed : Binds K fd__law_mixed p__law_mixed []
  g__law_mixed : mg "_law_mixed" = some (.ref a__law_mixed)
  a__law_begin : Addr
  fd__law_begin : FuncData
  F__law_begin : Fun K "_law_begin" "_law_begin" s__law_begin a__law_begin fd__law_begin
  b__law_begin : Binds K fd__law_begin p__law_begin []
  g__law_begin : mg "_law_begin" = some (.ref a__law_begin)
  a__law_draw : Addr
  fd__law_draw : FuncData
  F__law_draw : Fun K "_law_draw" "_law_draw" s__law_draw a__law_draw fd__law_draw
  b__law_draw : Binds K fd__law_draw p__law_draw []
  g__law_draw : mg "_law_draw" = some (.ref a__law_draw)
  a__law_web : Addr
  fd__law_web : FuncData
  F__law_web : Fun K "_law_web" "_law_web" s__law_web a__law_web fd__law_web
  b__law_web : Binds K fd__law_web p__law_web []
  g__law_web : mg "_law_web" = some (.ref a__law_web)
  a__law_way : Addr
  fd__law_way : FuncData
  F__law_way : Fun K "_law_way" "_law_way" s__law_way a__law_way fd__law_way
  b__law_way : Binds K fd__law_way p__law_way []
  g__law_way : mg "_law_way" = some (.ref a__law_way)
  a__law_saying : Addr
  fd__law_saying : FuncData
  F__law_saying : Fun K "_law_saying" "_law_saying" s__law_saying a__law_saying fd__law_saying
  b__law_saying : Binds K fd__law_saying p__law_saying []
  g__law_saying : mg "_law_saying" = some (.ref a__law_saying)
  a__law_along : Addr
  fd__law_along : FuncData
  F__law_along : Fun K "_law_along" "_law_along" s__law_along a__law_along fd__law_along
  b__law_along : Binds K fd__law_along p__law_along []
  g__law_along : mg "_law_along" = some (.ref a__law_along)
  a__law_bit : Addr
  fd__law_bit : FuncData
  F__law_bit : Fun K "_law_bit" "_law_bit" s__law_bit a__law_bit fd__law_bit
  b__law_bit : Binds K fd__law_bit p__law_bit []
  g__law_bit : mg "_law_bit" = some (.ref a__law_bit)
  a__law_spots : Addr
  fd__law_spots : FuncData
  F__law_spots : Fun K "_law_spots" "_law_spots" s__law_spots a__law_spots fd__law_spots
  b__law_spots : Binds K fd__law_spots p__law_spots []
  g__law_spots : mg "_law_spots" = some (.ref a__law_spots)
  a__law_holds : Addr
  fd__law_holds : FuncData
  F__law_holds : Fun K "_law_holds" "_law_holds" s__law_holds a__law_holds fd__law_holds
  b__law_holds : Binds K fd__law_holds p__law_holds []
  g__law_holds : mg "_law_holds" = some (.ref a__law_holds)
  a__law_letters : Addr
  fd__law_letters : FuncData
  F__law_letters : Fun K "_law_letters" "_law_letters" s__law_letters a__law_letters fd__law_letters
  b__law_letters : Binds K fd__law_letters p__law_letters []
  g__law_letters : mg "_law_letters" = some (.ref a__law_letters)
  a__law_markings : Addr
  fd__law_markings : FuncData
  F__law_markings : Fun K "_law_markings" "_law_markings" s__law_markings a__law_markings fd__law_markings
  b__law_markings : Binds K fd__law_markings p__law_markings []
  g__law_markings : mg "_law_markings" = some (.ref a__law_markings)
  a__law_kept : Addr
  fd__law_kept : FuncData
  F__law_kept : Fun K "_law_kept" "_law_kept" s__law_kept a__law_kept fd__law_kept
  b__law_kept : Binds K fd__law_kept p__law_kept []
  g__law_kept : mg "_law_kept" = some (.ref a__law_kept)
  a__law_like : Addr
  fd__law_like : FuncData
  F__law_like : Fun K "_law_like" "_law_like" s__law_like a__law_like fd__law_like
  b__law_like : Binds K fd__law_like p__law_like []
  g__law_like : mg "_law_like" = some (.ref a__law_like)
  a__law_moved : Addr
  fd__law_moved : FuncData
  F__law_moved : Fun K "_law_moved" "_law_moved" s__law_moved a__law_moved fd__law_moved
  b__law_moved : Binds K fd__law_moved p__law_moved []
  g__law_moved : mg "_law_moved" = some (.ref a__law_moved)
  a__law_put : Addr
  fd__law_put : FuncData
  F__law_put : Fun K "_law_put" "_law_put" s__law_put a__law_put fd__law_put
  b__law_put : Binds K fd__law_put p__law_put []
  g__law_put : mg "_law_put" = some (.ref a__law_put)
  a__law_shape : Addr
  fd__law_shape : FuncData
  F__law_shape : Fun K "_law_shape" "_law_shape" s__law_shape a__law_shape fd__law_shape
  b__law_shape : Binds K fd__law_shape p__law_shape []
  g__law_shape : mg "_law_shape" = some (.ref a__law_shape)
  a__law_stays : Addr
  fd__law_stays : FuncData
  F__law_stays : Fun K "_law_stays" "_law_stays" s__law_stays a__law_stays fd__law_stays
  b__law_stays : Binds K fd__law_stays p__law_stays []
  g__law_stays : mg "_law_stays" = some (.ref a__law_stays)
  a__law_right : Addr
  fd__law_right : FuncData
  F__law_right : Fun K "_law_right" "_law_right" s__law_right a__law_right fd__law_right
  b__law_right : Binds K fd__law_right p__law_right []
  g__law_right : mg "_law_right" = some (.ref a__law_right)
  a_law : Addr
  fd_law : FuncData
  F_law : Fun K "law" "law" s_law a_law fd_law
  b_law : Binds K fd_law p_law []
  g_law : mg "law" = some (.ref a_law)
  C_Walk : Addr
  c_Walk : mg "Walk" = some (.ref C_Walk)
  cl_Walk : Cls K C_Walk
  mk_Walk : Mk K C_Walk a_Walk___init__
  me_Walk_wrong_path : Meth K C_Walk "wrong_path" a_Walk_wrong_path
  me_Walk__met_if_right : Meth K C_Walk "_met_if_right" a_Walk__met_if_right
  me_Walk__first_wrong : Meth K C_Walk "_first_wrong" a_Walk__first_wrong
  na_Walk_letters : NoAttr K C_Walk "letters"
  na_Walk_denying : NoAttr K C_Walk "denying"
  na_Walk_most_deep : NoAttr K C_Walk "most_deep"
  na_Walk_most_words : NoAttr K C_Walk "most_words"
  na_Walk_met : NoAttr K C_Walk "met"
  C_Cases : Addr
  c_Cases : mg "Cases" = some (.ref C_Cases)
  cl_Cases : Cls K C_Cases
  mk_Cases : Mk K C_Cases a_Cases___init__
  me_Cases_answers : Meth K C_Cases "answers" a_Cases_answers
  na_Cases_leads : NoAttr K C_Cases "leads"
  na_Cases_marks : NoAttr K C_Cases "marks"
  na_Cases_heres : NoAttr K C_Cases "heres"
  na_Cases_full : NoAttr K C_Cases "full"
  C_Trial : Addr
  c_Trial : mg "Trial" = some (.ref C_Trial)
  cl_Trial : Cls K C_Trial
  mk_Trial : Mk K C_Trial a_Trial___init__
  me_Trial__bit : Meth K C_Trial "_bit" a_Trial__bit
  me_Trial__marked : Meth K C_Trial "_marked" a_Trial__marked
  na_Trial_size : NoAttr K C_Trial "size"
  na_Trial_letters : NoAttr K C_Trial "letters"
  na_Trial_bits : NoAttr K C_Trial "bits"
  na_Trial_full : NoAttr K C_Trial "full"
  na_Trial_found : NoAttr K C_Trial "found"
  m_all : mg "all" = none
  m_enumerate : mg "enumerate" = none
  m_int : mg "int" = none
  m_isinstance : mg "isinstance" = none
  m_len : mg "len" = none
  m_list : mg "list" = none
  m_max : mg "max" = none
  m_range : mg "range" = none
  m_repr : mg "repr" = none
  m_set : mg "set" = none
  m_sorted : mg "sorted" = none
  m_str : mg "str" = none
  m_sum : mg "sum" = none
  m_tuple : mg "tuple" = none
  m_type : mg "type" = none
  m_zip : mg "zip" = none
  t_MOST_WORLDS : Tok
  c_MOST_WORLDS : mg "MOST_WORLDS" = some (.int (200) t_MOST_WORLDS)
  t_MOST_ARROWS : Tok
  c_MOST_ARROWS : mg "MOST_ARROWS" = some (.int (1000) t_MOST_ARROWS)
  t_LAST_KIND : Tok
  c_LAST_KIND : mg "LAST_KIND" = some (.int (2) t_LAST_KIND)
  t_FIRST_WAY : Tok
  c_FIRST_WAY : mg "FIRST_WAY" = some (.int (-3) t_FIRST_WAY)
  t_LETTERS : Tok
  c_LETTERS : mg "LETTERS" = some (.int (8) t_LETTERS)
  t_MOST_WORDS : Tok
  c_MOST_WORDS : mg "MOST_WORDS" = some (.int (400) t_MOST_WORDS)
  t_MOST_DEEP : Tok
  c_MOST_DEEP : mg "MOST_DEEP" = some (.int (40) t_MOST_DEEP)
  t_MOST_MARKS : Tok
  c_MOST_MARKS : mg "MOST_MARKS" = some (.int (12) t_MOST_MARKS)

/-! ### the data -/
abbrev T3 := Int × Int × Int
def tri (t : T3) : List Int := [t.1, t.2.1, t.2.2]
def dTri (t : T3) : PyData := .tuple ((tri t).map PyData.int)
def dArr (A : List T3) : PyData := .tuple (A.map dTri)
def dWeb (n : Int) (A : List T3) : PyData := .tuple [.int n, dArr A]
def dInts (l : List Int) : PyData := .tuple (l.map PyData.int)
structure InW (n : Int) (t : T3) : Prop where
  k0 : 0 ≤ t.1
  k2 : t.1 ≤ 2
  f0 : 0 ≤ t.2.1
  fn : t.2.1 < n
  e0 : 0 ≤ t.2.2
  en : t.2.2 < n
def lt3 (s t : T3) : Prop := HT.lexLt (tri s) (tri t) = true
structure WOk (n : Int) (A : List T3) : Prop where
  n1 : 1 ≤ n
  n2 : n ≤ 200
  len : A.length ≤ 1000
  all : ∀ t ∈ A, InW n t
  asc : A.Pairwise lt3
theorem dp_tri {K : PySem.W.Frag} {H : Hp} {v : V} {t : T3} (h : Dp K H v (dTri t)) : ∃ a, v = .ref a ∧ SqT K H a ((tri t).map V.int) := by
  obtain ⟨a, xs, e, hs, hd⟩ := dp_tup h
  rw [dps_ints_inv hd] at hs
  exact ⟨a, e, hs⟩
theorem dp_ints {K : PySem.W.Frag} {H : Hp} {v : V} {l : List Int} (h : Dp K H v (dInts l)) : ∃ a, v = .ref a ∧ SqT K H a (l.map V.int) := by
  obtain ⟨a, xs, e, hs, hd⟩ := dp_tup h
  rw [dps_ints_inv hd] at hs
  exact ⟨a, e, hs⟩
theorem dp_of_ints {K : PySem.W.Frag} {H : Hp} {a : Addr} {l : List Int} (h : SqT K H a (l.map V.int)) : Dp K H (.ref a) (dInts l) := .tup h (dps_ints l)
theorem dp_web {K : PySem.W.Frag} {H : Hp} {v : V} {n : Int} {A : List T3} (h : Dp K H v (dWeb n A)) : ∃ a b xs, v = .ref a ∧ SqT K H a [.int n, .ref b] ∧ SqT K H b xs ∧ DpAll K H xs (A.map dTri) := by
  obtain ⟨a, xs, e, hs, hd⟩ := dp_tup h
  cases hd with
  | cons h1 h2 =>
    cases h2 with
    | cons h2 h3 =>
      cases h3
      obtain ⟨b, ys, e2, hs2, hd2⟩ := dp_tup h2
      rw [dp_int h1, e2] at hs
      exact ⟨a, b, ys, e, hs, hs2, hd2⟩
theorem get_tri {K : PySem.W.Frag} {H : Hp} {xs : List V} {A : List T3} {i : Nat} {x : V} (h : DpAll K H xs (A.map dTri)) (hx : xs[i]? = some x) : ∃ t, A[i]? = some t ∧ t ∈ A ∧ Dp K H x (dTri t) := by
  have hl := dps_len h
  rw [List.length_map] at hl
  have hi : i < A.length := by
    have := (List.getElem?_eq_some_iff.mp hx).1
    omega
  have e : A[i]? = some A[i] := List.getElem?_eq_getElem hi
  obtain ⟨y, hy, hd⟩ := dps_get (i := i) (d := dTri A[i]) h (by rw [List.getElem?_map, e]; rfl)
  rw [hx] at hy
  cases hy
  exact ⟨A[i], e, List.getElem_mem hi, hd⟩

section
variable {P : Program} {w : World} {K : PySem.W.Frag} {mg : Str → Option Value} {base : Heap}

/-! ### is_number, is_tuple -/
def sp_is_number : Sp := fun vs H Q _ => ∃ i lo hi : Int, vs = [.int i, .int lo, .int hi] ∧ Q (.bl (decide (lo ≤ i) && decide (i ≤ hi))) H
theorem ok_is_number (T : Tops K w mg) : FnOk P w K mg base CX0 1 T.a_is_number T.fd_is_number p_is_number sp_is_number := by
  have S := sc_is_number
  refine T.F_is_number.ok S (fun vs H Q E h => ?_) (fun cdv A outer s H vs Q E hr h => ?_)
  · obtain ⟨i, lo, hi, rfl, _⟩ := h
    rfl
  · obtain ⟨i, lo, hi, rfl, q⟩ := h
    refine ⟨_, (pss_one (ps_ret (pe_and (pe_cmpR op_isTyB (pe_callTy call_typeS (by rfl) T.m_type (by decide +kernel) (pa_cons (pv 0) pa_nil)) (pe_bltn (v := .ty "int") (by rfl) T.m_int (by decide +kernel) rfl) (nomark _)) (pe_one (pe_chain op_le op_le (pv 1) (pv 0) (pv 2)))))), ?_⟩
    refine ⟨.int i, rfl, .int i, "int", rfl, .int i, "int", "int", rfl, rfl, _, rfl, ?_⟩
    rw [decide_eq_true (rfl : ("int" : String) = "int")]
    refine iteT ⟨.int lo, rfl, .int i, rfl, lo, i, rfl, rfl, _, rfl, ?_⟩
    by_cases h1 : lo ≤ i
    · rw [decide_eq_true h1]
      refine iteT ⟨.int hi, rfl, i, hi, rfl, rfl, ?_⟩
      rw [decide_eq_true h1] at q
      exact q
    · rw [decide_eq_false h1]
      rw [decide_eq_false h1] at q
      exact iteF q
def sp_is_tuple (K : PySem.W.Frag) : Sp := fun vs H Q _ => ∃ (a : Addr) (xs : List V) (lo hi : Int), vs = [.ref a, .int lo, .int hi] ∧ SqT K H a xs ∧ Q (.bl (decide (lo ≤ (xs.length : Int)) && decide ((xs.length : Int) ≤ hi))) H
theorem ok_is_tuple (T : Tops K w mg) : FnOk P w K mg base CX0 1 T.a_is_tuple T.fd_is_tuple p_is_tuple (sp_is_tuple K) := by
  have S := sc_is_tuple
  refine T.F_is_tuple.ok S (fun vs H Q E h => ?_) (fun cdv A outer s H vs Q E hr h => ?_)
  · obtain ⟨a, xs, lo, hi, rfl, _⟩ := h
    rfl
  · obtain ⟨a, xs, lo, hi, rfl, hs, q⟩ := h
    refine ⟨_, (pss_one (ps_ret (pe_and (pe_cmpR op_isTyB (pe_callTy call_typeS (by rfl) T.m_type (by decide +kernel) (pa_cons (pv 0) pa_nil)) (pe_bltn (v := .ty "tuple") (by rfl) T.m_tuple (by decide +kernel) rfl) (nomark _)) (pe_one (pe_chain op_le op_le (pv 1) (pe_callB call_len_seq (by rfl) T.m_len (by decide +kernel) (pa_cons (pv 0) pa_nil)) (pv 2)))))), ?_⟩
    refine ⟨.ref a, rfl, .ref a, "tuple", rfl, .tup hs, "tuple", "tuple", rfl, rfl, _, rfl, ?_⟩
    rw [decide_eq_true (rfl : ("tuple" : String) = "tuple")]
    refine iteT ⟨.int lo, rfl, .ref a, rfl, a, xs, rfl, .inr hs, lo, xs.length, rfl, rfl, _, rfl, ?_⟩
    by_cases h1 : lo ≤ (xs.length : Int)
    · rw [decide_eq_true h1]
      refine iteT ⟨.int hi, rfl, xs.length, hi, rfl, rfl, ?_⟩
      rw [decide_eq_true h1] at q
      exact q
    · rw [decide_eq_false h1]
      rw [decide_eq_false h1] at q
      exact iteF q
end
end K0

namespace K0
open PySem PySem.Spec PyProof.Rows L2 W0 W1 W2
theorem all_true (n : Nat) : (List.replicate n true).all id = true := by
  induction n with
  | zero => rfl
  | succ n ih => rw [List.replicate_succ, List.all_cons, ih]; rfl
theorem rep_snoc (n : Nat) (x : V) : List.replicate n x ++ [x] = List.replicate (n + 1) x := by
  rw [List.replicate_succ']
theorem rep_bl (n : Nat) : List.replicate n (V.bl true) = (List.replicate n true).map V.bl := by rw [List.map_replicate]
theorem same_upd_new {H H1 : Hp} {D : Addr} {o : HO} (e : Same H H1) (h : H D = none) : Same H (upd H1 D o) := fun b x z => by
  rw [upd_ne (ne_of_none z h)]
  exact e b x z
theorem small {n m : Nat} (h : n ≤ m) (hm : m < 16777216 := by decide) : n < sizeLine := by
  rw [sizeLine_eq]
  omega
section
variable {P : Program} {w : World} {K : PySem.W.Frag} {mg : Str → Option Value} {base : Heap}
def sp_are_numbers (K : PySem.W.Frag) : Sp := fun vs H Q _ => ∃ (a : Addr) (ns : List Int) (m : Nat) (lo hi : Int), vs = [.ref a, .int m, .int lo, .int hi] ∧ SqT K H a (ns.map V.int) ∧ ns.length = m ∧ m ≤ 1000 ∧ (∀ x ∈ ns, lo ≤ x ∧ x ≤ hi) ∧ ∀ H', Same H H' → Q (.bl true) H'
theorem ok_are_numbers (T : Tops K w mg) : FnOk P w K mg base CX0 2 T.a_are_numbers T.fd_are_numbers p_are_numbers (sp_are_numbers K) := by
  have S := sc_are_numbers
  refine T.F_are_numbers.ok S (fun vs H Q E h => ?_) (fun cdv A outer s H vs Q E hr h => ?_)
  · obtain ⟨a, ns, m, lo, hi, rfl, _⟩ := h
    rfl
  · obtain ⟨a, ns, m, lo, hi, rfl, hs, rfl, h1000, hb, q⟩ := h
    refine ⟨_, (pss_one (ps_ret (pe_and (pe_call (ok_is_tuple T) (hr.mono (by first | decide | omega)) (by rfl) T.g_is_tuple T.F_is_tuple.kp T.b_is_tuple .nil pass0 (pa_cons (pv 0) (pa_cons (pv 1) (pa_cons (pv 1) pa_nil)))) (pe_one (pe_callB (cr_all rfl) (by rfl) T.m_all (by decide +kernel) (pa_cons (pe_lc (own := [("item", 4)]) rfl S.nd (pi_tup (pv 0)) (blkOk_by (N := n_are_numbers) (sc := defScope s_are_numbers) (by decide +kernel)) (fun _ _ _ _ _ => (pg_name (i := 4) S.nd rfl (Or.inl rfl))) (fun _ _ _ _ _ => pts_nil) (fun _ _ _ _ _ => (pe_call (ok_is_number T) (hr.mono (by first | decide | omega)) (by rfl) T.g_is_number T.F_is_number.kp T.b_is_number .nil pass0 (pa_cons (pv 4) (pa_cons (pv 2) (pa_cons (pv 3) pa_nil)))))) pa_nil)))))), ?_⟩
    refine ⟨.ref a, rfl, .int ns.length, rfl, .int ns.length, rfl, a, ns.map V.int, ns.length, ns.length, rfl, hs, _, rfl, ?_⟩
    rw [List.length_map, decide_eq_true (Int.le_refl _)]
    refine iteT ⟨.ref a, rfl, a, rfl, ⟨_, hs⟩, fun D nD => lc_tup (K := K) (a := a) (xs := ns.map V.int) (fun i H' => Same H H' ∧ H' D = some (.lst (List.replicate i (.bl true)))) ⟨same_new nD, upd_same⟩ (fun i H' _ h => same_tup h.1 hs) (fun i x H' hx hp => ?_) (fun H' hp => ?_)⟩
    · rw [List.getElem?_map] at hx
      obtain ⟨k, hk, rfl⟩ := Option.map_eq_some_iff.mp hx
      have hkb := hb k (List.mem_of_getElem? hk)
      have hlt : i < ns.length := (List.getElem?_eq_some_iff.mp hk).1
      refine ⟨rfl, .int k, rfl, .int lo, rfl, .int hi, rfl, k, lo, hi, rfl, _, hp.2, ?_, same_upd_new hp.1 nD, ?_⟩
      · rw [List.length_replicate]
        exact small (m := 1000) (by omega)
      · rw [upd_same, decide_eq_true hkb.1, decide_eq_true hkb.2, ← rep_snoc]
        rfl
    · rw [List.length_map] at hp
      refine ⟨D, List.replicate ns.length true, rfl, ?_, ?_⟩
      · rw [← rep_bl]
        exact SqL.of hp.2
      · rw [all_true]
        exact q H' hp.1

def sp_is_ascending (K : PySem.W.Frag) : Sp := fun vs H Q _ => ∃ (a : Addr) (xs : List V) (A : List T3), vs = [.ref a] ∧ SqT K H a xs ∧ DpAll K H xs (A.map dTri) ∧ A.Pairwise lt3 ∧ A.length ≤ 1000 ∧ ∀ H', Same H H' → Q (.bl true) H'
theorem cutT (xs : List V) : cutV xs (some 1) none = xs.drop 1 := by
  unfold cutV
  rw [show HT.sIx xs.length 0 (some 1) = min 1 xs.length from HT.sIx_nat xs.length 0 1, HT.sIx_none]
  cases xs with
  | nil => rfl
  | cons x r =>
    have e : min 1 (x :: r).length = 1 := by
      rw [List.length_cons]
      omega
    rw [e]
    show List.take ((x :: r).length - 1) r = r
    rw [List.length_cons, Nat.add_sub_cancel]
    exact List.take_length
theorem walk_zipT {K : PySem.W.Frag} {a b : Addr} {xs ys : List V} {n : Nat} (hn : n = min xs.length ys.length) : Walk (RZ.ItzT K a b) n (fun H => SqT K H a xs ∧ SqT K H b ys) (YPair (fun i => xs[i]?) (fun i => ys[i]?)) := by
  subst hn
  refine ⟨fun i _ hi q => ?_, fun _ q => ⟨xs, ys, q.1, q.2, by omega⟩, fun i H v H' _ q y => ?_⟩
  · have h1 : i < xs.length := by omega
    have h2 : i < ys.length := by omega
    exact ⟨xs, ys, xs[i], ys[i], q.1, q.2, List.getElem?_eq_getElem h1, List.getElem?_eq_getElem h2⟩
  · obtain ⟨T, x, z, h1, h2, h3, h4, h5⟩ := y
    exact ⟨T, x, z, h1, h2, h3, h4 xs q.1, h5 ys q.2⟩
theorem ok_is_ascending (T : Tops K w mg) : FnOk P w K mg base CX0 1 T.a_is_ascending T.fd_is_ascending p_is_ascending (sp_is_ascending K) := by
  have S := sc_is_ascending
  refine T.F_is_ascending.ok S (fun vs H Q E h => ?_) (fun cdv A outer s H vs Q E hr h => ?_)
  · obtain ⟨a, xs, A, rfl, _⟩ := h
    rfl
  · obtain ⟨a, xs, A, rfl, hs, hd, hp, h1000, q⟩ := h
    refine ⟨_, (pss_one (ps_ret (pe_callB (cr_all rfl) (by rfl) T.m_all (by decide +kernel) (pa_cons (pe_lc (own := [("first", 1), ("second", 2)]) rfl S.nd (RZ.pi_zipA (by rfl) T.m_zip (pa_cons (pv 0) (pa_cons (pe_slice (sl_tupK (K := K)) (pv 0) (po_some pe_int) po_none) pa_nil))) (blkOk_by (N := n_is_ascending) (sc := defScope s_is_ascending) (by decide +kernel)) (fun _ _ _ _ _ => (pg_tupK (K := K) (n := 2) rfl (pgs_cons (pg_name (i := 1) S.nd rfl (Or.inl rfl)) (pgs_cons (pg_name (i := 2) S.nd rfl (Or.inl rfl)) pgs_nil)))) (fun _ _ _ _ _ => pts_nil) (fun _ _ _ _ _ => (pe_cmpR (op_ltK (K := K) hr.units0) (pv 1) (pv 2) (nomark _)))) pa_nil)))), ?_⟩
    have hlen := dps_len hd
    rw [List.length_map] at hlen
    refine ⟨.ref a, rfl, .ref a, rfl, 1, rfl, a, xs, rfl, hs, fun b H1 e1 hb => ?_⟩
    rw [cutT] at hb
    refine ⟨a, b, xs, xs.drop 1, rfl, .inr ⟨same_tup e1 hs, hb, fun D nD => ?_⟩⟩
    refine lc_it (walk_zipT (K := K) (a := a) (b := b) (xs := xs) (ys := xs.drop 1) (n := xs.length - 1) (by rw [List.length_drop]; omega)) (D := D) (H1 := H1) (fun i H' => Same H H' ∧ Same H1 H' ∧ H' D = some (.lst (List.replicate i (.bl true))))
        ⟨same_upd_new e1 (e1.free nD), same_new nD, upd_same⟩ (fun i H' _ h => ⟨same_tup h.1 hs, same_tup h.2.1 hb⟩) (fun i x H' H2 hi hp' hy => ?step) (fun H' hp' => ?fin)
    case step =>
      obtain ⟨TT, x1, x2, rfl, nT, rfl, g1, g2⟩ := hy
      have g2' : xs[i + 1]? = some x2 := by
        have g3 : (xs.drop 1)[i]? = some x2 := g2
        rw [List.getElem?_drop, Nat.add_comm] at g3
        exact g3
      obtain ⟨t1, k1, _, d1⟩ := get_tri hd g1
      obtain ⟨t2, k2, _, d2⟩ := get_tri hd g2'
      have eT : Same H (upd H' TT (.tup [x1, x2])) := hp'.1.trans (same_new nT)
      obtain ⟨b1, rfl, s1⟩ := dp_tri (dp_same eT _ _ d1)
      obtain ⟨b2, rfl, s2⟩ := dp_tri (dp_same eT _ _ d2)
      have lt : lt3 t1 t2 := by
        have hi1 := (List.getElem?_eq_some_iff.mp k1)
        have hi2 := (List.getElem?_eq_some_iff.mp k2)
        obtain ⟨l1, rfl⟩ := hi1
        obtain ⟨l2, rfl⟩ := hi2
        exact List.pairwise_iff_getElem.mp hp i (i + 1) l1 l2 (Nat.lt_succ_self i)
      have nDT : D ≠ TT := ne_of_none hp'.2.2 nT
      refine ⟨TT, [.ref b1, .ref b2], rfl, SqT.of upd_same, rfl, .ref b1, [.ref b2], rfl, .ref b2, [], rfl, rfl, ?_⟩
      refine ⟨rfl, .ref b1, rfl, .ref b2, rfl, b1, b2, tri t1, tri t2, rfl, rfl, s1, s2, _, (upd_ne nDT).trans hp'.2.2, ?_, same_upd_new eT (e1.free nD), same_upd_new (hp'.2.1.trans (same_new nT)) nD, ?_⟩
      · rw [List.length_replicate]
        exact small (m := 1000) (by omega)
      · rw [upd_same, show HT.lexLt (tri t1) (tri t2) = true from lt, rep_snoc]
    case fin =>
      refine ⟨D, List.replicate (xs.length - 1) true, rfl, ?_, ?_⟩
      · rw [← rep_bl]
        exact SqL.of hp'.2.2
      · rw [all_true]
        exact q H' hp'.1
end
end K0

namespace K0
open PySem PySem.Spec PyProof.Rows L2 W0 W1 W2
section
variable {P : Program} {w : World} {K : PySem.W.Frag} {mg : Str → Option Value} {base : Heap}
def sp_is_arrow (K : PySem.W.Frag) : Sp := fun vs H Q _ => ∃ (v : V) (n : Int) (t : T3), vs = [v, .int n] ∧ Dp K H v (dTri t) ∧ InW n t ∧ Q (.bl true) H
theorem ok__is_arrow (T : Tops K w mg) : FnOk P w K mg base CX0 2 T.a__is_arrow T.fd__is_arrow p__is_arrow (sp_is_arrow K) := by
  have S := sc__is_arrow
  refine T.F__is_arrow.ok S (fun vs H Q E h => ?_) (fun cdv A outer s H vs Q E hr h => ?_)
  · obtain ⟨v, n, t, rfl, _⟩ := h
    rfl
  · obtain ⟨v, n, ⟨k, f, e⟩, rfl, hd, hi, q⟩ := h
    refine ⟨_, (pss_cons (ps_if (pt_not (pt_val (pe_call (ok_is_tuple T) (hr.mono (by first | decide | omega)) (by rfl) T.g_is_tuple T.F_is_tuple.kp T.b_is_tuple .nil pass0 (pa_cons (pv 0) (pa_cons pe_int (pa_cons pe_int pa_nil)))))) (pss_one (ps_ret pe_bl)) pss_nil)
      (pss_cons (ps_asg (pv 0) (pg_tupK (K := K) (n := 3) rfl (pgs_cons (pg_name (i := 2) S.nd rfl (Or.inl rfl)) (pgs_cons (pg_name (i := 3) S.nd rfl (Or.inl rfl)) (pgs_cons (pg_name (i := 4) S.nd rfl (Or.inl rfl)) pgs_nil)))))
      (pss_cons (ps_if (pt_not (pt_val (pe_call (ok_is_number T) (hr.mono (by first | decide | omega)) (by rfl) T.g_is_number T.F_is_number.kp T.b_is_number .nil pass0 (pa_cons (pv 2) (pa_cons pe_int (pa_cons (pe_glob (v := .int (2)) (by rfl) T.c_LAST_KIND ⟨_, rfl⟩) pa_nil)))))) (pss_one (ps_ret pe_bl)) pss_nil)
      (pss_one (ps_ret (pe_and (pe_call (ok_is_number T) (hr.mono (by first | decide | omega)) (by rfl) T.g_is_number T.F_is_number.kp T.b_is_number .nil pass0 (pa_cons (pv 3) (pa_cons pe_int (pa_cons (pe_op op_sub (pv 1) pe_int) pa_nil)))) (pe_one (pe_call (ok_is_number T) (hr.mono (by first | decide | omega)) (by rfl) T.g_is_number T.F_is_number.kp T.b_is_number .nil pass0 (pa_cons (pv 4) (pa_cons pe_int (pa_cons (pe_op op_sub (pv 1) pe_int) pa_nil))))))))))), ?_⟩
    obtain ⟨a, rfl, hs⟩ := dp_tri hd
    have a1 : decide ((0 : Int) ≤ k) = true := decide_eq_true hi.k0
    have a2 : decide (k ≤ (2 : Int)) = true := decide_eq_true hi.k2
    have a3 : decide ((0 : Int) ≤ f) = true := decide_eq_true hi.f0
    have a4 : decide (f ≤ n - 1) = true := decide_eq_true (Int.le_sub_one_of_lt hi.fn)
    have a5 : decide ((0 : Int) ≤ e) = true := decide_eq_true hi.e0
    have a6 : decide (e ≤ n - 1) = true := decide_eq_true (Int.le_sub_one_of_lt hi.en)
    refine ⟨.ref a, rfl, a, _, 3, 3, rfl, hs, true, rfl, ?_⟩
    refine ⟨.ref a, rfl, a, [.int k, .int f, .int e], rfl, hs, rfl, .int k, _, rfl, .int f, _, rfl, .int e, _, rfl, rfl, ?_⟩
    refine ⟨.int k, rfl, k, 0, 2, rfl, true, by rw [a1, a2]; rfl, ?_⟩
    refine ⟨.int f, rfl, .int n, rfl, n, 1, rfl, rfl, f, 0, n - 1, rfl, true, by rw [a3, a4]; rfl, ?_⟩
    refine ⟨.int e, rfl, .int n, rfl, n, 1, rfl, rfl, e, 0, n - 1, rfl, ?_⟩
    rw [a5, a6]
    exact q
def sp_is_web (K : PySem.W.Frag) : Sp := fun vs H Q _ => ∃ (v : V) (n : Int) (A : List T3), vs = [v] ∧ Dp K H v (dWeb n A) ∧ WOk n A ∧ ∀ H', Same H H' → Q (.bl true) H'
theorem ok__is_web (T : Tops K w mg) : FnOk P w K mg base CX0 3 T.a__is_web T.fd__is_web p__is_web (sp_is_web K) := by
  have S := sc__is_web
  refine T.F__is_web.ok S (fun vs H Q E h => ?_) (fun cdv AA outer s H vs Q E hr h => ?_)
  · obtain ⟨v, n, A, rfl, _⟩ := h
    rfl
  · obtain ⟨v, n, A, rfl, hd, ok, q⟩ := h
    refine ⟨_, (pss_cons (ps_if (pt_not (pt_val (pe_call (ok_is_tuple T) (hr.mono (by first | decide | omega)) (by rfl) T.g_is_tuple T.F_is_tuple.kp T.b_is_tuple .nil pass0 (pa_cons (pv 0) (pa_cons pe_int (pa_cons pe_int pa_nil)))))) (pss_one (ps_ret pe_bl)) pss_nil)
      (pss_cons (ps_asg (pv 0) (pg_tupK (K := K) (n := 2) rfl (pgs_cons (pg_name (i := 1) S.nd rfl (Or.inr rfl)) (pgs_cons (pg_name (i := 2) S.nd rfl (Or.inl rfl)) pgs_nil))))
      (pss_cons (ps_if ((pw_or (pt_not (pt_val (pe_call (ok_is_number T) (hr.mono (by first | decide | omega)) (by rfl) T.g_is_number T.F_is_number.kp T.b_is_number .nil pass0 (pa_cons (pv 1) (pa_cons pe_int (pa_cons (pe_glob (v := .int (200)) (by rfl) T.c_MOST_WORLDS ⟨_, rfl⟩) pa_nil)))))) (pw_or1 (pt_not (pt_val (pe_call (ok_is_tuple T) (hr.mono (by first | decide | omega)) (by rfl) T.g_is_tuple T.F_is_tuple.kp T.b_is_tuple .nil pass0 (pa_cons (pv 2) (pa_cons pe_int (pa_cons (pe_glob (v := .int (1000)) (by rfl) T.c_MOST_ARROWS ⟨_, rfl⟩) pa_nil))))))))).pt (pss_one (ps_ret pe_bl)) pss_nil)
      (pss_one (ps_ret (pe_and (pe_callB (cr_all rfl) (by rfl) T.m_all (by decide +kernel) (pa_cons (pe_lc (own := [("arrow", 3)]) rfl S.nd (pi_tup (pv 2)) (blkOk_by (N := n__is_web) (sc := defScope s__is_web) (by decide +kernel)) (fun _ _ _ _ _ => (pg_name (i := 3) S.nd rfl (Or.inl rfl))) (fun _ _ _ _ _ => pts_nil) (fun _ _ _ _ _ => (pe_call (ok__is_arrow T) (hr.mono (by first | decide | omega)) (by rfl) T.g__is_arrow T.F__is_arrow.kp T.b__is_arrow .nil pass0 (pa_cons (pv 3) (pa_cons (pv 1) pa_nil))))) pa_nil)) (pe_one (pe_call (ok_is_ascending T) (hr.mono (by first | decide | omega)) (by rfl) T.g_is_ascending T.F_is_ascending.kp T.b_is_ascending .nil pass0 (pa_cons (pv 2) pa_nil))))))))), ?_⟩
    obtain ⟨a, b, xs, rfl, hs, ht, hda⟩ := dp_web hd
    have hlen := dps_len hda
    rw [List.length_map] at hlen
    have h1000 := ok.len
    have a1 : decide ((1 : Int) ≤ n) = true := decide_eq_true ok.n1
    have a2 : decide (n ≤ (200 : Int)) = true := decide_eq_true ok.n2
    have a3 : decide ((0 : Int) ≤ (xs.length : Int)) = true := decide_eq_true (by omega)
    have a4 : decide ((xs.length : Int) ≤ (1000 : Int)) = true := decide_eq_true (by omega)
    refine ⟨.ref a, rfl, a, _, 2, 2, rfl, hs, true, rfl, ?_⟩
    refine ⟨.ref a, rfl, a, [.int n, .ref b], rfl, hs, rfl, .int n, _, rfl, .ref b, _, rfl, rfl, ?_⟩
    refine ⟨.int n, rfl, n, 1, 200, rfl, true, by rw [a1, a2]; rfl, ?_⟩
    refine ⟨.ref b, rfl, b, xs, 0, 1000, rfl, ht, true, by rw [a3, a4]; rfl, ?_⟩
    refine ⟨.ref b, rfl, b, rfl, ⟨_, ht⟩, fun D nD => lc_tup (K := K) (a := b) (xs := xs) (fun i H' => Same H H' ∧ H' D = some (.lst (List.replicate i (.bl true)))) ⟨same_new nD, upd_same⟩ (fun i H' _ h => same_tup h.1 ht) (fun i x H' hx hp => ?_) (fun H' hp => ?_)⟩
    · obtain ⟨t, k1, km, d1⟩ := get_tri hda hx
      have hi : i < xs.length := (List.getElem?_eq_some_iff.mp hx).1
      refine ⟨rfl, x, rfl, .int n, rfl, x, n, t, rfl, dp_same hp.1 _ _ d1, ok.all t km, _, hp.2, ?_, same_upd_new hp.1 nD, ?_⟩
      · rw [List.length_replicate]
        exact small (m := 1000) (by omega)
      · rw [upd_same, rep_snoc]
    · refine ⟨D, List.replicate xs.length true, rfl, ?_, ?_⟩
      · rw [← rep_bl]
        exact SqL.of hp.2
      · rw [all_true]
        refine ⟨true, rfl, .ref b, rfl, b, xs, A, rfl, same_tup hp.1 ht, dps_same hp.1 _ _ hda, ok.asc, ok.len, fun H2 e2 => q H2 (hp.1.trans e2)⟩
def sp_need_web (K : PySem.W.Frag) : Sp := fun vs H Q _ => ∃ (v : V) (n : Int) (A : List T3), vs = [v] ∧ Dp K H v (dWeb n A) ∧ WOk n A ∧ ∀ H', Same H H' → Q v H'
theorem ok_need_web (T : Tops K w mg) : FnOk P w K mg base CX0 4 T.a_need_web T.fd_need_web p_need_web (sp_need_web K) := by
  have S := sc_need_web
  refine T.F_need_web.ok S (fun vs H Q E h => ?_) (fun cdv AA outer s H vs Q E hr h => ?_)
  · obtain ⟨v, n, A, rfl, _⟩ := h
    rfl
  · obtain ⟨v, n, A, rfl, hd, ok, q⟩ := h
    refine ⟨_, (pss_cons (ps_if (pt_not (pt_val (pe_call (ok__is_web T) (hr.mono (by first | decide | omega)) (by rfl) T.g__is_web T.F__is_web.kp T.b__is_web .nil pass0 (pa_cons (pv 0) pa_nil)))) (pss_one ps_never) pss_nil)
      (pss_one (ps_ret (pv 0)))), ?_⟩
    exact ⟨v, rfl, v, n, A, rfl, hd, ok, fun H' e => ⟨true, rfl, v, rfl, q H' e⟩⟩
def sp_is_way : Sp := fun vs H Q _ => ∃ i : Int, vs = [.int i] ∧ -3 ≤ i ∧ i ≤ 2 ∧ Q (.bl true) H
def sp_turned_way : Sp := fun vs H Q _ => ∃ i : Int, vs = [.int i] ∧ Q (.int (-1 - i)) H
theorem ok_turned_way (T : Tops K w mg) : FnOk P w K mg base CX0 1 T.a_turned_way T.fd_turned_way p_turned_way sp_turned_way := by
  have S := sc_turned_way
  refine T.F_turned_way.ok S (fun vs H Q E h => ?_) (fun cdv AA outer s H vs Q E hr h => ?_)
  · obtain ⟨i, rfl, _⟩ := h
    rfl
  · obtain ⟨i, rfl, q⟩ := h
    refine ⟨_, (pss_one (ps_ret (pe_op op_sub (pe_un un_neg pe_int) (pv 0)))), ?_⟩
    exact ⟨1, rfl, .int i, rfl, -1, i, rfl, rfl, q⟩
def sp_need_world (K : PySem.W.Frag) : Sp := fun vs H Q _ => ∃ (v : V) (n : Int) (A : List T3) (x : Int), vs = [v, .int x] ∧ Dp K H v (dWeb n A) ∧ 0 ≤ x ∧ x < n ∧ Q (.int x) H
end
end K0

namespace K0
open PySem PySem.Spec PyProof.Rows L2 W0 W1 W2

/-! ### a dict comprehension over anything walked -/
theorem dc_it {J : It} {n : Nat} {G : Hp → Prop} {Y : Nat → Hp → V → Hp → Prop} (wk : Walk J n G Y) {g : TG} {tt : TT} {tk tv : TE} {vs : List Nat} {σ : L2.St} {H1 : Hp} {D : Addr} {Qd : Hp → Prop} (Pv : Nat → Hp → Prop) (h0 : Pv 0 (upd H1 D (.dK []))) (hG : ∀ i H, i ≤ n → Pv i H → G H)
    (hs : ∀ i x H H', i < n → Pv i H → Y i H x H' → g x (wipe σ vs) H' fun σ2 H2 => wipe σ2 vs = wipe σ vs ∧ tt σ2 H2 fun b H3 =>
      if b = true then tk σ2 H3 fun y H4 => tv σ2 H4 fun z H5 => ∃ kvs k, y = kV k ∧ H5 D = some (.dK kvs) ∧ kvs.length < sizeLine ∧ Pv (i + 1) (upd H5 D (.dK (putK kvs k z))) else Pv (i + 1) H3) (hd : ∀ H, Pv n H → Qd H) :
    ∃ W : Nat → Nat → Hp → Prop, (∃ m, W 0 m (upd H1 D (.dK []))) ∧ ∀ i m H, W i m H →
      (J.stop i H ∧ Qd H) ∨ (J.go i H ∧ ∃ Nx : Hp → Prop, (∀ H', Nx H' → ∃ m', m' < m ∧ W (i + 1) m' H') ∧ ∀ x H', J.yld i H x H' → g x (wipe σ vs) H' fun σ2 H2 => wipe σ2 vs = wipe σ vs ∧ tt σ2 H2 fun b H3 =>
        if b = true then tk σ2 H3 fun y H4 => tv σ2 H4 fun z H5 => ∃ kvs k, y = kV k ∧ H5 D = some (.dK kvs) ∧ kvs.length < sizeLine ∧ Nx (upd H5 D (.dK (putK kvs k z))) else Nx H3) := by
  refine ⟨fun i left H => left + i = n ∧ Pv i H, ⟨n, rfl, h0⟩, fun i left H hw => ?_⟩
  obtain ⟨e, p⟩ := hw
  cases left with
  | zero =>
    obtain rfl : i = n := by omega
    exact Or.inl ⟨wk.stops H (hG i H (Nat.le_refl _) p), hd H p⟩
  | succ left =>
    have hi : i < n := by omega
    have hg := hG i H (Nat.le_of_lt hi) p
    exact Or.inr ⟨wk.goes i H hi hg, Pv (i + 1), fun H' p' => ⟨left, Nat.lt_succ_self _, by omega, p'⟩, fun x H' y => hs i x H H' hi p (wk.yields i H x H' hi hg y)⟩

/-! ### where ways lead -/
def ledF (w x : Int) (t : T3) : Option Int := if 0 ≤ w then (if t.1 = w ∧ t.2.1 = x then some t.2.2 else none) else (if t.1 = -1 - w ∧ t.2.2 = x then some t.2.1 else none)
def ledS (A : List T3) (w x : Int) : List Int := A.filterMap (ledF w x)
theorem ledS_snoc (A : List T3) (t : T3) (w x : Int) : ledS (A ++ [t]) w x = ledS A w x ++ (ledF w x t).toList := by
  unfold ledS
  rw [List.filterMap_append]
  congr 1
abbrev In (i : Nat) (w : Int) : Prop := -3 ≤ w ∧ w < -3 + (i : Int)
structure Lay (H0 H : Hp) (d : Addr) (n i : Nat) (r : Int → Addr) (c : Int → Nat → Addr) (L : Int → Nat → List Int) : Prop where
  dict : ∃ kvs, H d = some (.dK kvs) ∧ kvs.length ≤ i ∧ ∀ w, In i w → valV kvs (Sum.inl w) = some (.ref (r w))
  row : ∀ w, In i w → H (r w) = some (.lst ((List.range n).map fun x => V.ref (c w x)))
  cell : ∀ w x, In i w → x < n → H (c w x) = some (.lst ((L w x).map V.int))
  inj : ∀ w x w' x', In i w → In i w' → x < n → x' < n → c w x = c w' x' → w = w' ∧ x = x'
  apart : ∀ w x w', In i w → In i w' → x < n → c w x ≠ r w'
  newd : H0 d = none
  newr : ∀ w, In i w → H0 (r w) = none
  newc : ∀ w x, In i w → x < n → H0 (c w x) = none
  same : Same H0 H
/-- one more at the end of a cell -/
theorem Lay.add {H0 H : Hp} {d : Addr} {n i : Nat} {r : Int → Addr} {c : Int → Nat → Addr} {L : Int → Nat → List Int} (l : Lay H0 H d n i r c L) {w : Int} {x : Nat} (hw : In i w) (hx : x < n) (e : Int) :
    Lay H0 (upd H (c w x) (.lst ((L w x).map V.int ++ [.int e]))) d n i r c (fun w' x' => if w' = w ∧ x' = x then L w' x' ++ [e] else L w' x') := by
  have hc := l.cell w x hw hx
  obtain ⟨kvs, hd, h1, h2⟩ := l.dict
  have ndc : d ≠ c w x := ne_of hd hc (by intro z; cases z)
  refine ⟨⟨kvs, (upd_ne ndc).trans hd, h1, h2⟩, fun w' h => ?_, fun w' x' h h' => ?_, l.inj, l.apart, l.newd, l.newr, l.newc, same_upd_new l.same (l.newc w x hw hx)⟩
  · rw [upd_ne (l.apart w x w' hw h hx).symm]
    exact l.row w' h
  · by_cases q : w' = w ∧ x' = x
    · obtain ⟨rfl, rfl⟩ := q
      rw [upd_same, if_pos ⟨rfl, rfl⟩, List.map_append]
      rfl
    · rw [if_neg q, upd_ne ?_]
      · exact l.cell w' x' h h'
      · intro z
        exact q (l.inj w' x' w x h hw h' hx z)
theorem dget {H : Hp} {d : Addr} {kvs : List (Key × V)} {k : Int} {v : V} (h : H d = some (.dK kvs)) (e : valV kvs (Sum.inl k) = some v) : DGet H d (.int k) (some v) := by
  rw [← e]
  exact DGet.k (k := Sum.inl k) h
theorem range_get {n x : Nat} (h : x < n) : (List.range n)[x]? = some x := by
  rw [List.getElem?_range h]

section
variable {P : Program} {w : World} {K : PySem.W.Frag} {mg : Str → Option Value} {base : Heap}
def sp_leads_of (K : PySem.W.Frag) : Sp := fun vs H Q _ => ∃ (v : V) (n : Nat) (A : List T3), vs = [v] ∧ Dp K H v (dWeb n A) ∧ WOk n A ∧ ∀ H' d r c L, Lay H H' d n 6 r c L → (∀ w x, In 6 w → x < n → L w x = ledS A w x) → Q (.ref d) H'
theorem ok_leads_of (T : Tops K w mg) : FnOk P w K mg base CX0 2 T.a_leads_of T.fd_leads_of p_leads_of (sp_leads_of K) := by
  have S := sc_leads_of
  refine T.F_leads_of.ok S (fun vs H Q E h => ?_) (fun cdv AA outer s H vs Q E hr h => ?_)
  · obtain ⟨v, n, A, rfl, _⟩ := h
    rfl
  · obtain ⟨v, n, A, rfl, hd, ok, q⟩ := h
    refine ⟨_, (pss_cons (ps_asg (pv 0) (pg_tupK (K := K) (n := 2) rfl (pgs_cons (pg_name (i := 1) S.nd rfl (Or.inr rfl)) (pgs_cons (pg_name (i := 2) S.nd rfl (Or.inl rfl)) pgs_nil))))
      (pss_cons (ps_setDc (i := 3) (own := [("way", 7)]) rfl S.nd rfl rfl (sw_dict rfl rfl rfl (by decide +kernel)) (pi_range2 (by rfl) T.m_range (pa_cons (pe_glob (v := .int (-3)) (by rfl) T.c_FIRST_WAY ⟨_, rfl⟩) (pa_cons (pe_op op_add (pe_glob (v := .int (2)) (by rfl) T.c_LAST_KIND ⟨_, rfl⟩) pe_int) pa_nil))) (blkOk_by (N := n_leads_of) (sc := defScope s_leads_of) (by decide +kernel)) (fun _ _ _ _ _ => (pg_name (i := 7) S.nd rfl (Or.inl rfl))) (fun _ _ _ _ _ => pts_nil) (fun _ _ _ _ _ => (pv 7)) (fun _ _ _ _ _ => (pe_lc (own := [("_", 8)]) rfl S.nd (pi_range1 (by rfl) T.m_range (pa_cons (pv 1) pa_nil)) (blk_any (defScope s_leads_of) (blkOk_by (N := n_leads_of) (sc := defScope s_leads_of) (by decide +kernel)) (by decide +kernel)) (fun _ _ _ _ _ => (pg_name (i := 8) S.nd rfl (Or.inl rfl))) (fun _ _ _ _ _ => pts_nil) (fun _ _ _ _ _ => (pe_lst pa_nil)))))
      (pss_cons (ps_for PassesOwn.never rfl (pi_tup (pv 2)) (pg_tupK (K := K) (n := 3) rfl (pgs_cons (pg_name (i := 4) S.nd rfl (Or.inl rfl)) (pgs_cons (pg_name (i := 5) S.nd rfl (Or.inl rfl)) (pgs_cons (pg_name (i := 6) S.nd rfl (Or.inl rfl)) pgs_nil)))) (pss_cons (ps_expr (pe_bm PySem.F.plainAttrs_list PySem.F.slot_list_append PySem.F.type_list_append mt_append (pe_ix (ix_listK (K := K)) (pe_dget (hu_of hr) (pv 3) (pv 4) (fun _ _ => rfl)) (pv 5) (fun _ _ => rfl)) (pa_cons (pv 6) pa_nil)))
      (pss_one (ps_expr (pe_bm PySem.F.plainAttrs_list PySem.F.slot_list_append PySem.F.type_list_append mt_append (pe_ix (ix_listK (K := K)) (pe_dget (hu_of hr) (pv 3) (pe_call (ok_turned_way T) (hr.mono (by first | decide | omega)) (by rfl) T.g_turned_way T.F_turned_way.kp T.b_turned_way .nil pass0 (pa_cons (pv 4) pa_nil)) (fun _ _ => rfl)) (pv 6) (fun _ _ => rfl)) (pa_cons (pv 5) pa_nil))))))
      (pss_one (ps_ret (pv 3)))))), ?_⟩
    obtain ⟨a, b, xs, rfl, hs, ht, hda⟩ := dp_web hd
    have hn1 := ok.n1
    have hn2 := ok.n2
    -- size, arrows = web
    refine ⟨.ref a, rfl, a, [.int n, .ref b], rfl, hs, rfl, .int n, _, rfl, .ref b, _, rfl, rfl, ?_⟩
    -- leads = {way: [[] for _ in range(size)] for way in range(FIRST_WAY, LAST_KIND + 1)}
    refine ⟨2, 1, rfl, rfl, -3, 3, rfl, ⟨by decide, by decide, by decide, by decide⟩, fun d nd => ?_⟩
    refine dc_it (walk_range (lo := -3) (n := 6)) (D := d) (H1 := H) (fun i H' => ∃ r c, Lay H H' d n i r c fun _ _ => [])
      ⟨fun _ => 0, fun _ _ => 0, ⟨[], upd_same, Nat.le_refl _, fun w h => absurd h.2 (by have := h.1; omega)⟩, fun w h => absurd h.2 (by have := h.1; omega), fun w x h => absurd h.2 (by have := h.1; omega), fun w x w' x' h => absurd h.2 (by have := h.1; omega),
        fun w x w' h => absurd h.2 (by have := h.1; omega), nd, fun w h => absurd h.2 (by have := h.1; omega), fun w x h => absurd h.2 (by have := h.1; omega), same_new nd⟩
      (fun _ _ _ _ => trivial) (fun i x H1 H2 hi hp hy => ?_) (fun H1 hp => ?_)
    · obtain ⟨rfl, rfl⟩ := hy
      obtain ⟨r, c, l⟩ := hp
      refine ⟨rfl, .int (-3 + i), rfl, .int n, rfl, n, rfl, by omega, by omega, fun D2 n2 => ?_⟩
      have en : ((n : Int)).toNat = n := rfl
      refine lc_range (lo := 0) (n := n) (fun j H' => Same H2 H' ∧ ∃ cs : List Addr, cs.length = j ∧ H' D2 = some (.lst (cs.map V.ref)) ∧ cs.Nodup ∧ ∀ y ∈ cs, H' y = some (.lst []) ∧ H2 y = none ∧ y ≠ D2)
        ⟨same_new n2, [], rfl, upd_same, List.nodup_nil, fun y hy => (List.not_mem_nil hy).elim⟩ (fun j H' hj hq => ?_) (fun H' hq => ?_)
      · obtain ⟨e1, cs, hcl, hcd, hcn, hca⟩ := hq
        refine ⟨rfl, Nat.zero_le _, fun y ny => ?_⟩
        have ny2 : H2 y = none := e1.free ny
        have nyD : y ≠ D2 := fun z => by
          rw [z, hcd] at ny
          cases ny
        have nyc : y ∉ cs := fun z => by
          rw [(hca y z).1] at ny
          cases ny
        refine ⟨cs.map V.ref, (upd_ne nyD.symm).trans hcd, ?_, same_upd_new (same_upd_new e1 ny2) n2, cs ++ [y], ?_, ?_, ?_, fun z hz => ?_⟩
        · rw [List.length_map, hcl]
          exact small (m := 1000) (by omega)
        · rw [List.length_append, hcl]
          rfl
        · rw [upd_same, List.map_append]
          rfl
        · refine List.nodup_append.mpr ⟨hcn, by simp, fun z hz u hu e => ?_⟩
          rw [List.mem_singleton.mp hu] at e
          rw [e] at hz
          exact nyc hz
        · rcases List.mem_append.mp hz with hz | hz
          · obtain ⟨g1, g2, g3⟩ := hca z hz
            refine ⟨?_, g2, g3⟩
            rw [upd_ne g3, upd_ne (fun e => nyc (by rw [← e]; exact hz))]
            exact g1
          · rw [List.mem_singleton.mp hz]
            refine ⟨?_, ny2, nyD⟩
            rw [upd_ne nyD]
            exact upd_same
      · obtain ⟨e1, cs, hcl, hcd, hcn, hca⟩ := hq
        obtain ⟨kvs, hkd, hkl, hkv⟩ := l.dict
        have hkd' : H' d = some (.dK kvs) := e1 _ _ hkd
        have hk : ¬ In i (-3 + (i : Int)) := fun z => by have := z.2; omega
        have dD : d ≠ D2 := ne_of_none hkd n2
        refine ⟨kvs, Sum.inl (-3 + (i : Int)), rfl, hkd', small (m := 1000) (by omega), fun w => if w = -3 + (i : Int) then D2 else r w, fun w x => if w = -3 + (i : Int) then cs.getD x 0 else c w x, ?_⟩
        have step : ∀ w, In (i + 1) w → w = -3 + (i : Int) ∨ (In i w ∧ w ≠ -3 + (i : Int)) := fun w h => by
          have h1 := h.1
          have h2 := h.2
          rw [Int.natCast_add] at h2
          by_cases z : w = -3 + (i : Int)
          · exact Or.inl z
          · exact Or.inr ⟨⟨h1, by omega⟩, z⟩
        have getc : ∀ x, x < n → cs.getD x 0 ∈ cs := fun x hx => by
          rw [List.getD_eq_getElem?_getD, List.getElem?_eq_getElem (by omega)]
          exact List.getElem_mem _
        have dc : ∀ y ∈ cs, y ≠ d := fun y hy z => by
          have h2 := (hca y hy).2.1
          rw [z, hkd] at h2
          cases h2
        refine ⟨⟨_, upd_same, ?_, fun w h => ?_⟩, fun w h => ?_, fun w x h hx => ?_, fun w x w' x' h h' hx hx' z => ?_, fun w x w' h h' hx => ?_, l.newd, fun w h => ?_, fun w x h hx => ?_, same_upd_new (l.same.trans e1) l.newd⟩
        · exact Nat.le_trans (length_putK _ _ _) (Nat.succ_le_succ hkl)
        · rw [valV_put]
          rcases step w h with rfl | ⟨h1, h2⟩
          · rw [if_pos rfl, if_pos rfl]
          · rw [if_neg (fun z => h2 (Sum.inl.inj z)), if_neg h2]
            exact hkv w h1
        · rcases step w h with rfl | ⟨h1, h2⟩
          · rw [if_pos rfl, upd_ne dD.symm, hcd]
            congr 2
            refine List.ext_getElem (by rw [List.length_map, List.length_map, List.length_range, hcl]) fun j g1 g2 => ?_
            rw [List.length_map] at g1
            rw [List.getElem_map, List.getElem_map, List.getElem_range, if_pos rfl, List.getD_eq_getElem?_getD, List.getElem?_eq_getElem g1]
            rfl
          · have hrow := l.row w h1
            rw [if_neg h2, upd_ne (ne_of hrow hkd (by intro z; cases z)), e1 _ _ hrow]
            congr 2
            refine List.map_congr_left fun x _ => ?_
            rw [if_neg h2]
        · rcases step w h with rfl | ⟨h1, h2⟩
          · rw [if_pos rfl, upd_ne (dc _ (getc x hx))]
            exact (hca _ (getc x hx)).1
          · have hcell := l.cell w x h1 hx
            rw [if_neg h2, upd_ne (ne_of hcell hkd (by intro z; cases z))]
            exact e1 _ _ hcell
        · rcases step w h with rfl | ⟨h1, h2⟩
          · rcases step w' h' with rfl | ⟨h3, h4⟩
            · rw [if_pos rfl, if_pos rfl, List.getD_eq_getElem?_getD, List.getD_eq_getElem?_getD, List.getElem?_eq_getElem (by omega), List.getElem?_eq_getElem (by omega)] at z
              exact ⟨rfl, (List.getElem_inj hcn).mp z⟩
            · rw [if_pos rfl, if_neg h4] at z
              have g := (hca _ (getc x hx)).2.1
              rw [z, l.cell w' x' h3 hx'] at g
              cases g
          · rcases step w' h' with rfl | ⟨h3, h4⟩
            · rw [if_neg h2, if_pos rfl] at z
              have g := (hca _ (getc x' hx')).2.1
              rw [← z, l.cell w x h1 hx] at g
              cases g
            · rw [if_neg h2, if_neg h4] at z
              exact l.inj w x w' x' h1 h3 hx hx' z
        · rcases step w h with rfl | ⟨h1, h2⟩
          · rw [if_pos rfl]
            rcases step w' h' with rfl | ⟨h3, h4⟩
            · rw [if_pos rfl]
              exact (hca _ (getc x hx)).2.2
            · rw [if_neg h4]
              intro z
              have g := (hca _ (getc x hx)).2.1
              rw [z, l.row w' h3] at g
              cases g
          · rw [if_neg h2]
            rcases step w' h' with rfl | ⟨h3, h4⟩
            · rw [if_pos rfl]
              exact ne_of_none (l.cell w x h1 hx) n2
            · rw [if_neg h4]
              exact l.apart w x w' h1 h3 hx
        · rcases step w h with rfl | ⟨h1, h2⟩
          · rw [if_pos rfl]
            exact l.same.free n2
          · rw [if_neg h2]
            exact l.newr w h1
        · rcases step w h with rfl | ⟨h1, h2⟩
          · rw [if_pos rfl]
            exact l.same.free (hca _ (getc x hx)).2.1
          · rw [if_neg h2]
            exact l.newc w x h1 hx
    · -- for kind, start, end in arrows
      obtain ⟨r, c, l⟩ := hp
      refine ⟨.ref b, rfl, b, rfl, ⟨_, same_tup l.same ht⟩, ?_⟩
      refine for_tup (K := K) (a := b) (xs := xs) (fun i σ H' => ∃ y4 y5 y6, σ = [some (.ref a), some (.int n), some (.ref b), some (.ref d), y4, y5, y6, none, none] ∧ ∃ L, Lay H H' d n 6 r c L ∧ ∀ w x, In 6 w → x < n → L w x = ledS (A.take i) w x)
        ⟨none, none, none, rfl, _, l, fun w x _ _ => rfl⟩ (fun i σ H' _ h => ?_) (fun i x σ H' hx h => ?_) (fun σ H' h => ?_)
      · obtain ⟨_, _, _, _, L, l', _⟩ := h
        exact same_tup l'.same ht
      · obtain ⟨y4, y5, y6, rfl, L, l', hL⟩ := h
        obtain ⟨⟨k, f, e⟩, k1, km, d1⟩ := get_tri hda hx
        obtain ⟨p, rfl, hp⟩ := dp_tri (dp_same l'.same _ _ d1)
        have iw := ok.all _ km
        obtain ⟨f', rfl⟩ : ∃ m : Nat, f = m := ⟨f.toNat, (Int.toNat_of_nonneg iw.f0).symm⟩
        obtain ⟨e', rfl⟩ : ∃ m : Nat, e = m := ⟨e.toNat, (Int.toNat_of_nonneg iw.e0).symm⟩
        have hf : f' < n := Int.ofNat_lt.mp iw.fn
        have he : e' < n := Int.ofNat_lt.mp iw.en
        have hk1 : In 6 k := ⟨by have : (0 : Int) ≤ k := iw.k0; omega, by have : k ≤ 2 := iw.k2; omega⟩
        have hk2 : In 6 (-1 - k) := ⟨by have : k ≤ 2 := iw.k2; omega, by have : (0 : Int) ≤ k := iw.k0; omega⟩
        refine ⟨p, [.int k, .int f', .int e'], rfl, hp, rfl, .int k, _, rfl, .int f', _, rfl, .int e', _, rfl, rfl, ?_⟩
        obtain ⟨kvs, hkd, _, hkv⟩ := l'.dict
        have len0 : ∀ (L : Int → Nat → List Int) (w : Int) (x : Nat) (j : Nat), L w x = ledS (A.take j) w x → ((L w x).map V.int).length ≤ 1000 := fun L w x j h => by
          rw [List.length_map, h]
          exact Nat.le_trans (List.length_filterMap_le _ _) (Nat.le_trans (List.length_take_le' _ _) ok.len)
        refine ⟨.ref d, rfl, .int k, rfl, d, .ref (r k), rfl, dget hkd (hkv k hk1), .int f', rfl, r k, _, f', .ref (c k f'), rfl, rfl, SqL.of (l'.row k hk1), atI_nat (by rw [List.getElem?_map, range_get hf]; rfl), ?_⟩
        refine ⟨.inl ⟨rfl, _, SqL.of (l'.cell k f' hk1 hf)⟩, .int e', rfl, c k f', _, .int e', rfl, rfl, l'.cell k f' hk1 hf, small (m := 1000) (len0 L k f' i (hL k f' hk1 hf)), ?_⟩
        have l2 := l'.add hk1 hf (e' : Int)
        obtain ⟨kvs2, hkd2, _, hkv2⟩ := l2.dict
        refine ⟨.ref d, rfl, .int k, rfl, k, rfl, d, .ref (r (-1 - k)), rfl, dget hkd2 (hkv2 (-1 - k) hk2), .int e', rfl, r (-1 - k), _, e', .ref (c (-1 - k) e'), rfl, rfl, SqL.of (l2.row (-1 - k) hk2), atI_nat (by rw [List.getElem?_map, range_get he]; rfl), ?_⟩
        have hne : ¬ (-1 - k = k ∧ e' = f') := fun z => by have := z.1; omega
        refine ⟨.inl ⟨rfl, _, SqL.of (l2.cell (-1 - k) e' hk2 he)⟩, .int f', rfl, c (-1 - k) e', _, .int f', rfl, rfl, l2.cell (-1 - k) e' hk2 he, ?_, ?_⟩
        · rw [if_neg hne]
          exact small (m := 1000) (len0 L (-1 - k) e' i (hL (-1 - k) e' hk2 he))
        · refine ⟨_, _, _, rfl, _, l2.add hk2 he (f' : Int), fun w x hw hx => ?_⟩
          have et : A.take (i + 1) = A.take i ++ [(k, (f' : Int), (e' : Int))] := by
            rw [List.take_add_one, k1]
            rfl
          rw [et, ledS_snoc, ← hL w x hw hx]
          have k0 : (0 : Int) ≤ k := iw.k0
          unfold ledF
          by_cases h0 : 0 ≤ w
          · rw [if_pos h0]
            have z2 : ¬ (w = -1 - k ∧ x = e') := fun z => by have := z.1; omega
            rw [if_neg z2]
            by_cases z1 : w = k ∧ x = f'
            · rw [if_pos z1, if_pos ⟨z1.1.symm, by show (f' : Int) = (x : Int); rw [z1.2]⟩]
              rfl
            · rw [if_neg z1, if_neg (fun z => z1 ⟨z.1.symm, (Int.ofNat.inj z.2).symm⟩)]
              exact (List.append_nil _).symm
          · rw [if_neg h0]
            have z1 : ¬ (w = k ∧ x = f') := fun z => by have := z.1; omega
            by_cases z2 : w = -1 - k ∧ x = e'
            · rw [if_pos z2, if_neg z1, if_pos ⟨by show k = -1 - w; have := z2.1; omega, by show (e' : Int) = (x : Int); rw [z2.2]⟩]
              rfl
            · rw [if_neg z2, if_neg z1, if_neg (fun z => z2 ⟨by have h1 : k = -1 - w := z.1; omega, (Int.ofNat.inj z.2).symm⟩)]
              exact (List.append_nil _).symm
      · obtain ⟨y4, y5, y6, rfl, L, l', hL⟩ := h
        have hlen := dps_len hda
        rw [List.length_map] at hlen
        refine ⟨.ref d, rfl, q H' d r c L l' fun w x hw hx => ?_⟩
        rw [hL w x hw hx, hlen, List.take_length]
end
end K0

namespace K0
open PySem PySem.Spec PyProof.Rows L2 W0 W1 W2

/-! ### triples in order -/
theorem lt3_iff {s t : T3} : lt3 s t ↔ s.1 < t.1 ∨ (s.1 = t.1 ∧ (s.2.1 < t.2.1 ∨ (s.2.1 = t.2.1 ∧ s.2.2 < t.2.2))) := by
  unfold lt3 tri
  rw [HT.lexLt_cons, HT.lexLt_cons, HT.lexLt_cons, HT.lexLt_nil_nil]
  by_cases a : s.1 = t.1
  · rw [if_pos a]
    by_cases b : s.2.1 = t.2.1
    · rw [if_pos b]
      by_cases c : s.2.2 = t.2.2
      · rw [if_pos c]
        constructor
        · intro z
          cases z
        · intro z
          omega
      · rw [if_neg c, decide_eq_true_eq]
        omega
    · rw [if_neg b, decide_eq_true_eq]
      omega
  · rw [if_neg a, decide_eq_true_eq]
    omega
def le3 (s t : T3) : Prop := HT.lexLt (tri t) (tri s) = false
theorem le3_iff {s t : T3} : le3 s t ↔ ¬ lt3 t s := by
  unfold le3 lt3
  cases HT.lexLt (tri t) (tri s) <;> simp
theorem T3.ext' {s t : T3} (a : s.1 = t.1) (b : s.2.1 = t.2.1) (c : s.2.2 = t.2.2) : s = t := Prod.ext a (Prod.ext b c)
theorem lt_of_le {s t : T3} (h : le3 s t) (n : s ≠ t) : lt3 s t := by
  have h1 := mt lt3_iff.mpr (le3_iff.mp h)
  refine lt3_iff.mpr ?_
  have h2 : ¬ (s.1 = t.1 ∧ s.2.1 = t.2.1 ∧ s.2.2 = t.2.2) := fun z => n (T3.ext' z.1 z.2.1 z.2.2)
  omega
theorem lt3_ne {s t : T3} (h : lt3 s t) : s ≠ t := by
  intro e
  subst e
  have := lt3_iff.mp h
  omega
theorem asc_nodup {A : List T3} (h : A.Pairwise lt3) : A.Nodup := List.Pairwise.imp (fun h => lt3_ne h) h
theorem asc_of {A : List T3} (h : A.Pairwise le3) (n : A.Nodup) : A.Pairwise lt3 := by
  refine List.Pairwise.imp₂ (fun a b h1 h2 => lt_of_le h1 h2) h n
def turn (t : T3) : T3 := (t.1, t.2.2, t.2.1)
theorem turn_turn (t : T3) : turn (turn t) = t := rfl
theorem map_nodup {α β : Type} {f : α → β} (inj : ∀ a b, f a = f b → a = b) : ∀ {l : List α}, l.Nodup → (l.map f).Nodup
  | [], _ => List.nodup_nil
  | a :: l, h => by
    obtain ⟨h1, h2⟩ := List.nodup_cons.mp h
    refine List.nodup_cons.mpr ⟨fun m => ?_, map_nodup inj h2⟩
    obtain ⟨b, hb, e⟩ := List.mem_map.mp m
    rw [inj b a e] at hb
    exact h1 hb
theorem wok_turned {n : Int} {A B : List T3} (ok : WOk n A) (p : B.Perm (A.map turn)) (h : B.Pairwise le3) : WOk n B := by
  refine ⟨ok.n1, ok.n2, by rw [p.length_eq, List.length_map]; exact ok.len, fun t ht => ?_, asc_of h (p.nodup_iff.mpr (map_nodup (fun a b e => by rw [← turn_turn a, e, turn_turn]) (asc_nodup ok.asc)))⟩
  obtain ⟨s, hs, rfl⟩ := List.mem_map.mp (p.mem_iff.mp ht)
  have i := ok.all s hs
  exact ⟨i.k0, i.k2, i.e0, i.en, i.f0, i.fn⟩

/-! ### lists of triples in the heap -/
def Trs (K : PySem.W.Frag) (H : Hp) (D : Addr) (B : List T3) : Prop := ∃ ts : List (Addr × List Int), H D = some (.lst (ts.map fun p => V.ref p.1)) ∧ ts.map (·.2) = B.map tri ∧ ∀ p ∈ ts, SqT K H p.1 (p.2.map V.int)
theorem Trs.nil {K : PySem.W.Frag} {H : Hp} {D : Addr} : Trs K (upd H D (.lst [])) D [] := ⟨[], upd_same, rfl, fun p h => (List.not_mem_nil h).elim⟩
theorem Trs.len {K : PySem.W.Frag} {H : Hp} {D : Addr} {B : List T3} {acc : List V} (h : Trs K H D B) (e : H D = some (.lst acc)) : acc.length = B.length := by
  obtain ⟨ts, e2, m, _⟩ := h
  rw [e] at e2
  cases e2
  have := congrArg List.length m
  rw [List.length_map, List.length_map] at this
  rw [List.length_map, this]
theorem Trs.acc {K : PySem.W.Frag} {H : Hp} {D : Addr} {B : List T3} (h : Trs K H D B) : ∃ acc, H D = some (.lst acc) ∧ acc.length = B.length := by
  obtain ⟨ts, e2, m, r⟩ := id h
  exact ⟨_, e2, h.len e2⟩
theorem sqT_upd {K : PySem.W.Frag} {H : Hp} {D p : Addr} {acc : List V} {o : HO} {xs : List V} (e : H D = some (.lst acc)) (h : SqT K H p xs) : SqT K (upd H D o) p xs := by
  rcases h with (h | ⟨ob, h⟩) | h
  · exact .inl (.inl ((upd_ne (ne_of h e (by intro z; cases z))).trans h))
  · exact .inl (.inr ⟨ob, (upd_ne (ne_of h e (by intro z; cases z))).trans h⟩)
  · exact .inr h
theorem Trs.same {K : PySem.W.Frag} {H H' : Hp} {D : Addr} {B : List T3} (h : Trs K H D B) (e : Same H H') : Trs K H' D B := by
  obtain ⟨ts, e2, m, r⟩ := h
  exact ⟨ts, e _ _ e2, m, fun p hp => same_tup e (r p hp)⟩
theorem Trs.push {K : PySem.W.Frag} {H : Hp} {D p : Addr} {B : List T3} {acc : List V} {t : T3} (h : Trs K H D B) (e : H D = some (.lst acc)) (hp : SqT K H p ((tri t).map V.int)) : Trs K (upd H D (.lst (acc ++ [.ref p]))) D (B ++ [t]) := by
  obtain ⟨ts, e2, m, r⟩ := h
  rw [e] at e2
  cases e2
  refine ⟨ts ++ [(p, tri t)], ?_, ?_, fun q hq => ?_⟩
  · rw [upd_same, List.map_append]
    rfl
  · rw [List.map_append, List.map_append, m]
    rfl
  · refine sqT_upd e ?_
    rcases List.mem_append.mp hq with hq | hq
    · exact r q hq
    · rw [List.mem_singleton.mp hq]
      exact hp
def unTri (l : List Int) : T3 := (l.getD 0 0, l.getD 1 0, l.getD 2 0)
theorem unTri_tri (t : T3) : unTri (tri t) = t := rfl
theorem trs_data {K : PySem.W.Frag} {H : Hp} {B : List T3} : ∀ {ts : List (Addr × List Int)}, ts.map (·.2) = B.map tri → (∀ p ∈ ts, SqT K H p.1 (p.2.map V.int)) → DpAll K H (ts.map fun p => V.ref p.1) (B.map dTri) := by
  induction B with
  | nil =>
    intro ts m _
    rw [List.map_eq_nil_iff.mp m]
    exact .nil
  | cons t B ih =>
    intro ts m r
    cases ts with
    | nil => cases m
    | cons p ts =>
      have m1 : p.2 = tri t := (List.cons.inj m).1
      refine .cons (dp_of_ints (l := tri t) ?_) (ih (List.cons.inj m).2 fun q hq => r q (List.mem_cons_of_mem _ hq))
      rw [← m1]
      exact r p List.mem_cons_self
theorem sorted_trs {K : PySem.W.Frag} {H : Hp} {D : Addr} {B : List T3} {Q : VK} (h : Trs K H D B) (q : ∀ p C H', Same H H' → Trs K H' p C → C.Perm B → C.Pairwise le3 → Q (.ref p) H') : rSortT K [.ref D] H Q := by
  obtain ⟨ts, e, m, r⟩ := h
  have tr : ∀ p ∈ ts, ∃ t ∈ B, p.2 = tri t := fun p hp => by
    have h1 : p.2 ∈ ts.map (·.2) := List.mem_map.mpr ⟨p, hp, rfl⟩
    rw [m] at h1
    obtain ⟨t, ht, e⟩ := List.mem_map.mp h1
    exact ⟨t, ht, e.symm⟩
  refine ⟨D, ts, rfl, SqL.of e, fun p hp => ⟨r p hp, ?_⟩, fun us p pm srt np => ?_⟩
  · obtain ⟨t, _, e⟩ := tr p hp
    rw [e]
    exact List.cons_ne_nil _ _
  · have e1 : us.map (·.2) = ((us.map (·.2)).map unTri).map tri := by
      rw [List.map_map]
      conv => lhs; rw [← List.map_id (us.map (·.2))]
      refine List.map_congr_left fun l hl => ?_
      obtain ⟨p, hp, e⟩ := List.mem_map.mp hl
      obtain ⟨t, _, e2⟩ := tr p (pm.mem_iff.mp hp)
      rw [← e, e2]
      rfl
    have e2 : ((us.map (·.2)).map unTri).Perm B := by
      have h1 := (pm.map (·.2)).map unTri
      have h2 : (B.map tri).map unTri = B := by
        rw [List.map_map]
        exact List.map_id'' (fun t => unTri_tri t) B
      rw [m, h2] at h1
      exact h1
    refine q p _ _ (same_new np) ⟨us, upd_same, e1, fun x hx => same_tup (same_new np) (r x (pm.mem_iff.mp hx))⟩ e2 ?_
    rw [e1] at srt
    have h3 := List.pairwise_map.mp srt
    exact h3
theorem tuple_trs {K : PySem.W.Frag} {H : Hp} {D : Addr} {C : List T3} {Q : VK} (h : Trs K H D C) (q : ∀ t H', Same H H' → Dp K H' (.ref t) (dArr C) → Q (.ref t) H') :
    rTup K [V.ref D] H Q := by
  obtain ⟨ts, e, m, r⟩ := h
  refine ⟨D, _, rfl, .inl ⟨SqL.of e, fun l nl => q l _ (same_new nl) ?_⟩⟩
  exact dp_mk nl (trs_data m r)
theorem dp_mkweb {K : PySem.W.Frag} {H : Hp} {p b : Addr} {n : Int} {C : List T3} (np : H p = none) (h : Dp K H (.ref b) (dArr C)) : Dp K (upd H p (.tup [.int n, .ref b])) (.ref p) (dWeb n C) := dp_mk np (.cons (.int n) (.cons h .nil))

section
variable {P : Program} {w : World} {K : PySem.W.Frag} {mg : Str → Option Value} {base : Heap}
def sp_led_to (K : PySem.W.Frag) : Sp := fun vs H Q _ => ∃ (v : V) (n : Nat) (A : List T3) (w : Int) (x : Nat), vs = [v, .int w, .int x] ∧ Dp K H v (dWeb n A) ∧ WOk n A ∧ In 6 w ∧ x < n ∧ ∀ H' p, Same H H' → SqT K H' p ((ledS A w x).map V.int) → Q (.ref p) H'
def sp_web_turned (K : PySem.W.Frag) : Sp := fun vs H Q _ => ∃ (v : V) (n : Int) (A : List T3), vs = [v] ∧ Dp K H v (dWeb n A) ∧ WOk n A ∧ ∀ H' v' B, Same H H' → Dp K H' v' (dWeb n B) → B.Perm (A.map turn) → B.Pairwise le3 → Q v' H'
end
end K0

namespace K0
open PySem PySem.Spec PyProof.Rows L2 W0 W1 W2

/-! ### the draws' state -/
structure StAt (K : PySem.W.Frag) (H : Hp) (st c l : Addr) (B : Nat) : Prop where
  ex : ∃ (kvs : List (Key × V)) (cells lefts : List Int) (at' : Nat), H st = some (.dK kvs) ∧ kvs.length ≤ 3 ∧ valV kvs (Sum.inr "cells") = some (.ref c) ∧ valV kvs (Sum.inr "lefts") = some (.ref l) ∧ valV kvs (Sum.inr "at") = some (.int at') ∧
    H c = some (.lst (cells.map V.int)) ∧ H l = some (.lst (lefts.map V.int)) ∧ cells ≠ [] ∧ lefts.length = cells.length ∧ at' ≤ B
  apart : c ≠ l
theorem StAt.mono {K : PySem.W.Frag} {H : Hp} {st c l : Addr} {B B' : Nat} (h : StAt K H st c l B) (hb : B ≤ B') : StAt K H st c l B' := by
  obtain ⟨kvs, cells, lefts, a, h1, h2, h3, h4, h5, h6, h7, h8, h9, h10⟩ := h.ex
  exact ⟨⟨kvs, cells, lefts, a, h1, h2, h3, h4, h5, h6, h7, h8, h9, Nat.le_trans h10 hb⟩, h.apart⟩
theorem StAt.same {K : PySem.W.Frag} {H H' : Hp} {st c l : Addr} {B : Nat} (h : StAt K H st c l B) (e : Same H H') : StAt K H' st c l B := by
  obtain ⟨kvs, cells, lefts, a, h1, h2, h3, h4, h5, h6, h7, h8, h9, h10⟩ := h.ex
  exact ⟨⟨kvs, cells, lefts, a, e _ _ h1, h2, h3, h4, h5, e _ _ h6, e _ _ h7, h8, h9, h10⟩, h.apart⟩
/-- all but the state's dict and its list -/
def Off (st l : Addr) (H H' : Hp) : Prop := ∀ b, b ≠ st → b ≠ l → H' b = H b
theorem sget {H : Hp} {d : Addr} {kvs : List (Key × V)} {k : Str} {v : V} (h : H d = some (.dK kvs)) (e : valV kvs (Sum.inr k) = some v) : DGet H d (.str k) (some v) := by
  rw [← e]
  exact DGet.k (k := Sum.inr k) h

section
variable {P : Program} {w : World} {K : PySem.W.Frag} {mg : Str → Option Value} {base : Heap}
def sp_mixed : Sp := fun vs H Q _ => ∃ (c : Int) (k : Nat), vs = [.int c, .int k] ∧ k ≤ 1000000 ∧ ∀ r : Int, 0 ≤ r → r < 2147483629 → Q (.int r) H
theorem ok__law_mixed (T : Tops K w mg) : FnOk P w K mg base CX0 1 T.a__law_mixed T.fd__law_mixed p__law_mixed sp_mixed := by
  have S := sc__law_mixed
  refine T.F__law_mixed.ok S (fun vs H Q E h => ?_) (fun cdv AA outer s H vs Q E hr h => ?_)
  · obtain ⟨c, k, rfl, _⟩ := h
    rfl
  · obtain ⟨c, k, rfl, hk, q⟩ := h
    refine ⟨_, (pss_cons (ps_set (i := 0) S.nd rfl (Or.inl rfl) (pe_op op_mod (pe_callTy call_int1 (by rfl) T.m_int (by decide +kernel) (pa_cons (pv 0) pa_nil)) pe_int))
      (pss_one (ps_ret (pe_op op_mod (pe_op op_mul (pe_op op_mod (pe_op op_add (pe_op op_add (pe_op op_mul (pv 0) (pe_op op_add pe_int (pe_op op_mul (pe_op op_mul pe_int (pv 1)) (pv 1)))) (pe_op op_mul pe_int (pv 1))) pe_int) pe_int) pe_int) pe_int)))), ?_⟩
    have h1 : 0 ≤ c % 2147483647 := Int.emod_nonneg _ (by decide)
    have h2 : c % 2147483647 < 2147483647 := Int.emod_lt_of_pos _ (by decide)
    have hk' : (k : Int) ≤ 1000000 := by omega
    have g1 : ∀ z : Int, 0 ≤ z % 2147483647 := fun z => Int.emod_nonneg _ (by decide)
    have g2 : ∀ z : Int, z % 2147483647 < 2147483647 := fun z => Int.emod_lt_of_pos _ (by decide)
    have p1 : (0 : Int) < 2147483647 := by decide
    have p2 : (0 : Int) < 2147483629 := by decide
    refine ⟨.int c, rfl, .inl ⟨c, rfl, _, _, rfl, rfl, p1, ?_⟩⟩
    refine ⟨.int (c % 2147483647), rfl, .int k, rfl, 2, k, rfl, rfl, .inl ⟨by decide, by decide⟩, .int k, rfl, 2 * k, k, rfl, rfl, .inl ⟨by omega, by omega⟩, 48271, _, rfl, rfl, c % 2147483647, _, rfl, rfl, .inl ⟨by omega, by omega⟩, .int k, rfl, 69621, k, rfl, rfl, .inl ⟨by decide, by decide⟩, _, _, rfl, rfl, _, 11, rfl, rfl, _, 2147483647, rfl, rfl, p1, ?_⟩
    refine ⟨_, 69621, rfl, rfl, .inl ⟨?_, ?_⟩, _, 2147483629, rfl, rfl, p2, q _ (Int.emod_nonneg _ (by decide)) (Int.emod_lt_of_pos _ (by decide))⟩
    · exact Int.lt_of_lt_of_le (by decide) (g1 _)
    · exact Int.lt_trans (g2 _) (by decide)

def sp_draw (K : PySem.W.Frag) : Sp := fun vs H Q _ => ∃ (st c l : Addr) (B : Nat) (m : Int), vs = [.ref st, .int m] ∧ 0 < m ∧ m < 1000 ∧ StAt K H st c l B ∧ B ≤ 100000 ∧ ∀ H' (i : Int), 0 ≤ i → i < m → StAt K H' st c l (B + 1) → Off st l H H' → Q (.int i) H'
theorem ok__law_draw (T : Tops K w mg) : FnOk P w K mg base CX0 2 T.a__law_draw T.fd__law_draw p__law_draw (sp_draw K) := by
  have S := sc__law_draw
  refine T.F__law_draw.ok S (fun vs H Q E h => ?_) (fun cdv AA outer s H vs Q E hr h => ?_)
  · obtain ⟨st, c, l, B, m, rfl, _⟩ := h
    rfl
  · obtain ⟨st, c, l, B, m, rfl, hm0, hm1, hst, hB, q⟩ := h
    refine ⟨_, (pss_cons (ps_set (i := 2) S.nd rfl (Or.inl rfl) (pe_dget (hu_of hr) (pv 0) pe_str (fun _ _ => rfl)))
      (pss_cons (ps_dput (hu_of hr) (pv 0) pe_str (pe_op op_add (pv 2) pe_int) rfl)
      (pss_cons (ps_set (i := 3) S.nd rfl (Or.inl rfl) (pe_op op_mod (pe_callTy call_int1 (by rfl) T.m_int (by decide +kernel) (pa_cons (pv 2) pa_nil)) (pe_callB call_len_seq (by rfl) T.m_len (by decide +kernel) (pa_cons (pe_dget (hu_of hr) (pv 0) pe_str (fun _ _ => rfl)) pa_nil))))
      (pss_cons (ps_set (i := 4) S.nd rfl (Or.inl rfl) (pe_ix (ix_listK (K := K)) (pe_dget (hu_of hr) (pv 0) pe_str (fun _ _ => rfl)) (pv 3) (fun _ _ => rfl)))
      (pss_cons (ps_if (pt_cmpR op_gt (pv 4) pe_int (nomark _)) (pss_cons (ps_asg (pe_op op_fdiv (pv 4) (pv 1)) (pg_sub (pe_dget (hu_of hr) (pv 0) pe_str (fun _ _ => rfl)) (pv 3) set_list))
      (pss_one (ps_ret (pe_op op_mod (pe_callTy call_int1 (by rfl) T.m_int (by decide +kernel) (pa_cons (pv 4) pa_nil)) (pv 1))))) pss_nil)
      (pss_cons (ps_set (i := 5) S.nd rfl (Or.inl rfl) (pe_call (ok__law_mixed T) (hr.mono (by first | decide | omega)) (by rfl) T.g__law_mixed T.F__law_mixed.kp T.b__law_mixed .nil pass0 (pa_cons (pe_call (ok__law_mixed T) (hr.mono (by first | decide | omega)) (by rfl) T.g__law_mixed T.F__law_mixed.kp T.b__law_mixed .nil pass0 (pa_cons (pe_ix (ix_listK (K := K)) (pe_dget (hu_of hr) (pv 0) pe_str (fun _ _ => rfl)) (pv 3) (fun _ _ => rfl)) (pa_cons (pv 2) pa_nil))) (pa_cons (pe_op op_add pe_int (pv 2)) pa_nil))))
      (pss_one (ps_ret (pe_op op_mod (pe_op op_fdiv (pe_callTy call_int1 (by rfl) T.m_int (by decide +kernel) (pa_cons (pe_op op_add (pe_op op_mul (pv 5) pe_int) (pe_call (ok__law_mixed T) (hr.mono (by first | decide | omega)) (by rfl) T.g__law_mixed T.F__law_mixed.kp T.b__law_mixed .nil pass0 (pa_cons (pv 5) (pa_cons (pe_op op_add pe_int (pv 2)) pa_nil)))) pa_nil)) pe_int) (pv 1)))))))))), ?_⟩
    obtain ⟨kvs, cells, lefts, a, h1, h2, h3, h4, h5, h6, h7, h8, h9, h10⟩ := hst.ex
    have nsc : st ≠ c := ne_of h1 h6 (by intro z; cases z)
    have nsl : st ≠ l := ne_of h1 h7 (by intro z; cases z)
    have hpos : 0 < cells.length := List.length_pos_iff.mpr h8
    -- at = state['at']; state['at'] = at + 1
    refine ⟨.ref st, rfl, st, .int a, rfl, sget h1 h5, ?_⟩
    refine ⟨.int a, rfl, a, 1, rfl, rfl, .ref st, rfl, st, _, rfl, DPut.k (k := Sum.inr "at") h1 (small (m := 3) h2), ?_⟩
    generalize hk2 : putK kvs (Sum.inr "at") (.int ((a : Int) + 1)) = kvs2
    have v1 : valV kvs2 (Sum.inr "cells") = some (.ref c) := by
      rw [← hk2, valV_put, if_neg (by decide), h3]
    have v2 : valV kvs2 (Sum.inr "lefts") = some (.ref l) := by
      rw [← hk2, valV_put, if_neg (by decide), h4]
    have v3 : valV kvs2 (Sum.inr "at") = some (.int ((a + 1 : Nat) : Int)) := by
      rw [← hk2, valV_put, if_pos rfl]
      rfl
    have hk3 : kvs2.length ≤ 3 := by
      rw [← hk2]
      unfold putK
      rw [valV_any, h5]
      simp only [Option.isSome_some, if_true, List.length_map]
      exact h2
    have e1 : upd H st (.dK kvs2) st = some (.dK kvs2) := upd_same
    have ec : upd H st (.dK kvs2) c = some (.lst (cells.map V.int)) := (upd_ne nsc.symm).trans h6
    have el : upd H st (.dK kvs2) l = some (.lst (lefts.map V.int)) := (upd_ne nsl.symm).trans h7
    have off1 : Off st l H (upd H st (.dK kvs2)) := fun b hb _ => upd_ne hb
    have st1 : StAt K (upd H st (.dK kvs2)) st c l (B + 1) := ⟨⟨kvs2, cells, lefts, a + 1, e1, hk3, v1, v2, v3, ec, el, h8, h9, Nat.succ_le_succ h10⟩, hst.apart⟩
    generalize upd H st (.dK kvs2) = H1 at e1 ec el off1 st1 ⊢
    -- spot
    refine ⟨.int a, rfl, .inl ⟨a, rfl, .ref st, rfl, st, .ref c, rfl, sget e1 v1, c, _, rfl, .inl (SqL.of ec), a, _, rfl, rfl, ?_, ?_⟩⟩
    · rw [List.length_map]
      show (0 : Int) < (cells.length : Int)
      omega
    rw [List.length_map]
    dsimp only
    have hs0 : 0 ≤ (a : Int) % (cells.length : Int) := Int.emod_nonneg _ (by omega)
    have hs1 : (a : Int) % (cells.length : Int) < cells.length := Int.emod_lt_of_pos _ (by omega)
    generalize (a : Int) % (cells.length : Int) = sp at hs0 hs1
    obtain ⟨j, rfl⟩ : ∃ j : Nat, sp = j := ⟨sp.toNat, (Int.toNat_of_nonneg hs0).symm⟩
    have hj : j < cells.length := by omega
    have hjl : j < lefts.length := by omega
    -- left
    refine ⟨.ref st, rfl, st, .ref l, rfl, sget e1 v2, .int j, rfl, l, _, j, .int lefts[j], rfl, rfl, SqL.of el, atI_nat (by rw [List.getElem?_map, List.getElem?_eq_getElem hjl]; rfl), ?_⟩
    refine ⟨.int lefts[j], rfl, lefts[j], 0, rfl, rfl, _, rfl, ite2 (fun hp => ?_) (fun hp => ?_)⟩
    · -- state['lefts'][spot] = left // limit
      refine ⟨.int lefts[j], rfl, .int m, rfl, lefts[j], m, rfl, rfl, ⟨hm0, by omega⟩, .ref st, rfl, st, .ref l, rfl, sget e1 v2, .int j, rfl, l, _, j, j, rfl, rfl, el, ?_, ?_⟩
      · unfold ixN
        rw [if_pos (Int.natCast_nonneg j), List.length_map, if_pos (Int.ofNat_lt.mpr hjl)]
        rfl
      · refine ⟨.int lefts[j], rfl, .inl ⟨lefts[j], rfl, .int m, rfl, _, m, rfl, rfl, hm0, q _ _ (Int.emod_nonneg _ (by omega)) (Int.emod_lt_of_pos _ hm0) ?_ ?_⟩⟩
        · refine ⟨⟨kvs2, cells, lefts.set j (lefts[j] / m), a + 1, (upd_ne nsl).trans e1, hk3, v1, v2, v3, (upd_ne hst.apart).trans ec, ?_, h8, ?_, Nat.succ_le_succ h10⟩, hst.apart⟩
          · rw [upd_same, List.map_set]
          · rw [List.length_set]
            exact h9
        · intro b hb hb2
          rw [upd_ne hb2]
          exact off1 b hb hb2
    · -- by the number of the draw
      have ha : (a : Int) ≤ 100000 := by omega
      refine ⟨.ref st, rfl, st, .ref c, rfl, sget e1 v1, .int j, rfl, c, _, j, .int cells[j], rfl, rfl, SqL.of ec, atI_nat (by rw [List.getElem?_map, List.getElem?_eq_getElem hj]; rfl), ?_⟩
      refine ⟨.int a, rfl, cells[j], a, rfl, by omega, fun r hr0 hr1 => ?_⟩
      refine ⟨.int a, rfl, 40, a, rfl, rfl, r, 40 + a, by rw [Int.natCast_add]; rfl, by omega, fun r2 h20 h21 => ?_⟩
      refine ⟨.int r2, rfl, r2, 2147483647, rfl, rfl, .inl ⟨by omega, by omega⟩, .int r2, rfl, .int a, rfl, 7, a, rfl, rfl, r2, 7 + a, by rw [Int.natCast_add]; rfl, by omega, fun r3 h30 h31 => ?_⟩
      refine ⟨_, r3, rfl, rfl, .inl ⟨_, rfl, _, 64, rfl, rfl, ⟨by decide, by decide⟩, .int m, rfl, _, m, rfl, rfl, hm0, ?_⟩⟩
      exact q H1 _ (Int.emod_nonneg _ (by omega)) (Int.emod_lt_of_pos _ hm0) st1 off1
end
end K0

namespace K0
open PySem PySem.Spec PyProof.Rows L2 W0 W1 W2
theorem fine_ints (ns : List Int) : (PyData.list (ns.map PyData.int)).canLay0 = true ∧ (PyData.list (ns.map PyData.int)).depth ≤ 64 := by
  refine ⟨all_lay fun d h => ?_, Nat.le_trans (Nat.succ_le_succ (all_dep (k := 0) fun d h => ?_)) (by decide)⟩
  · obtain ⟨i, _, rfl⟩ := List.mem_map.mp h
    rfl
  · obtain ⟨i, _, rfl⟩ := List.mem_map.mp h
    exact Nat.le_refl _
theorem shaped_ints (ns : List Int) : SeqAt.shaped (PyData.list (ns.map PyData.int)) = true := by
  unfold SeqAt.shaped
  rw [(fine_ints ns).1, Bool.true_and]
  exact decide_eq_true (fine_ints ns).2
def begun (c l : Addr) : List (Key × V) := [(Sum.inr "cells", V.ref c), (Sum.inr "lefts", V.ref l), (Sum.inr "at", V.int 0)]
theorem begun_facts (c l : Addr) : (mergeK [] (begun c l)).length ≤ 3 ∧ valV (mergeK [] (begun c l)) (Sum.inr "cells") = some (.ref c) ∧ valV (mergeK [] (begun c l)) (Sum.inr "lefts") = some (.ref l) ∧ valV (mergeK [] (begun c l)) (Sum.inr "at") = some (.int 0) := by
  have e : mergeK [] (begun c l) = putK (putK (putK ([] : List (Key × V)) (Sum.inr "cells") (.ref c)) (Sum.inr "lefts") (.ref l)) (Sum.inr "at") (.int 0) := rfl
  rw [e]
  refine ⟨?_, ?_, ?_, ?_⟩
  · exact Nat.le_trans (length_putK _ _ _) (Nat.succ_le_succ (Nat.le_trans (length_putK _ _ _) (Nat.succ_le_succ (length_putK _ _ _))))
  · rw [valV_put, if_neg (by decide), valV_put, if_neg (by decide), valV_put, if_pos rfl]
  · rw [valV_put, if_neg (by decide), valV_put, if_pos rfl]
  · rw [valV_put, if_pos rfl]
section
variable {P : Program} {w : World} {K : PySem.W.Frag} {mg : Str → Option Value} {base : Heap}
def sp_begin (K : PySem.W.Frag) : Sp := fun vs H Q _ => ∃ (a : Addr) (ns : List Int), vs = [.ref a] ∧ SqL K H a (ns.map V.int) ∧ ns.length ≤ 63 ∧ ∀ H' st c l, Same H H' → StAt K H' st c l 0 → H st = none → H l = none → Q (.ref st) H'
theorem ok__law_begin (T : Tops K w mg) : FnOk P w K mg base CX0 1 T.a__law_begin T.fd__law_begin p__law_begin (sp_begin K) := by
  have S := sc__law_begin
  refine T.F__law_begin.ok S (fun vs H Q E h => ?_) (fun cdv AA outer s H vs Q E hr h => ?_)
  · obtain ⟨a, ns, rfl, _⟩ := h
    rfl
  · obtain ⟨a, ns, rfl, hs, hn, q⟩ := h
    refine ⟨_, (pss_cons (ps_set (i := 1) S.nd rfl (Or.inl rfl) (pe_ifExp (pt_cmpR (op_neD hr.units) (pv 0) (pe_lst pa_nil) (nomark _)) (pe_callTy call_list_of (by rfl) T.m_list (by decide +kernel) (pa_cons (pv 0) pa_nil)) (pe_lst (pa_cons pe_int pa_nil))))
      (pss_one (ps_ret (pe_disp (pps_cons pe_str (pv 1) (pps_cons pe_str (pe_lc (own := [("cell", 2)]) rfl S.nd (pi_list (pv 1)) (blkOk_by (N := n__law_begin) (sc := defScope s__law_begin) (by decide +kernel)) (fun _ _ _ _ _ => (pg_name (i := 2) S.nd rfl (Or.inl rfl))) (fun _ _ _ _ _ => pts_nil) (fun _ _ _ _ _ => (pe_ifExp (pt_cmpR op_ge (pv 2) (pe_op op_pow pe_int pe_int) (nomark _)) (pv 2) pe_int))) (pps_cons pe_str pe_int pps_nil))) (by rfl) (by rfl) (fun z => by cases z) (by decide))))), ?_⟩
    have rest : ∀ (c : Addr) (H1 : Hp) (cells : List Int), Same H H1 → H1 c = some (.lst (cells.map V.int)) → cells ≠ [] → cells.length ≤ 63 →
        tRet (tDisp [(tC (V.str "cells"), tVar 1), (tC (V.str "lefts"), tLc (iList K (tVar 1)) (gName 2) tYes (tIf (tTest (tOp (rI0 fun i j => V.bl (decide (j ≤ i))) (tVar 2) (tOp (rI CPow fun i j => V.int (i ^ j.toNat)) (tC (V.int 10)) (tC (V.int 18))))) (tVar 2) (tC (V.int 0))) [2]), (tC (V.str "at"), tC (V.int 0))])
          { nx := fun _ H' => Q .non H', rt := Q } [some (.ref a), some (.ref c), none] H1 := by
      intro c H1 cells e1 hcc hne hl63 st nst
      refine ⟨.ref c, rfl, .ref c, rfl, c, rfl, ⟨_, SqL.of ((upd_ne (ne_of_none hcc nst)).trans hcc)⟩, fun l nl => ?_⟩
      have hcc2 : upd H1 st (.dK []) c = some (.lst (cells.map V.int)) := (upd_ne (ne_of_none hcc nst)).trans hcc
      have hst2 : upd H1 st (.dK []) st = some (.dK []) := upd_same
      have e2 : Same H (upd H1 st (.dK [])) := e1.trans (same_new nst)
      have nstH : H st = none := e1.free nst
      generalize upd H1 st (.dK []) = H2 at nl hcc2 hst2 e2
      refine lc_list (K := K) (a := c) (xs := cells.map V.int) (fun i H' => Same H2 H' ∧ ∃ ls : List Int, ls.length = i ∧ H' l = some (.lst (ls.map V.int))) ⟨same_new nl, [], rfl, upd_same⟩ (fun i H' _ h => SqL.of (h.1 _ _ hcc2)) (fun i x H' hx hp => ?_) (fun H' hp => ?_)
      · rw [List.getElem?_map] at hx
        obtain ⟨k, hk, rfl⟩ := Option.map_eq_some_iff.mp hx
        obtain ⟨e3, ls, hls, hll⟩ := hp
        have hi : i < cells.length := (List.getElem?_eq_some_iff.mp hk).1
        have fin : ∀ z : Int, ∃ acc, H' l = some (HO.lst acc) ∧ acc.length < sizeLine ∧ Same H2 (upd H' l (HO.lst (acc ++ [V.int z]))) ∧ ∃ ls : List Int, ls.length = i + 1 ∧ upd H' l (HO.lst (acc ++ [V.int z])) l = some (.lst (ls.map V.int)) := fun z => by
          refine ⟨_, hll, ?_, same_upd_new e3 nl, ls ++ [z], ?_, ?_⟩
          · rw [List.length_map, hls]
            exact small (m := 63) (by omega)
          · rw [List.length_append, hls]
            rfl
          · rw [upd_same, List.map_append]
            rfl
        refine ⟨rfl, .int k, rfl, 10, 18, rfl, rfl, ⟨by decide, by decide, by decide⟩, k, _, rfl, rfl, _, rfl, ite2 (fun _ => ⟨.int k, rfl, fin k⟩) (fun _ => fin 0)⟩
      · obtain ⟨e3, ls, hls, hll⟩ := hp
        rw [List.length_map] at hls
        have nlst : l ≠ st := fun z => by
          rw [z, hst2] at nl
          cases nl
        have ncl : c ≠ l := ne_of_none hcc2 nl
        have ncst : c ≠ st := ne_of hcc2 hst2 (by intro z; cases z)
        obtain ⟨b1, b2, b3, b4⟩ := begun_facts c l
        refine ⟨e3 _ _ hst2, begun c l, rfl, by show 3 ≤ 15; decide, ?_⟩
        exact q _ st c l (same_upd_new (e2.trans e3) nstH) ⟨⟨_, cells, ls, 0, upd_same, b1, b2, b3, b4, (upd_ne ncst).trans (e3 _ _ hcc2), (upd_ne nlst).trans hll, hne, hls, Nat.le_refl _⟩, ncl⟩ nstH (e2.free nl)
    refine ⟨.ref a, rfl, Nat.zero_le _, fun p np => ?_⟩
    have sp : Same H (upd H p (.lst [])) := same_new np
    refine ⟨.list (ns.map PyData.int), .list [], .lst (sp.seq hs) (dps_ints ns), .lst (SqL.of upd_same) .nil, shaped_ints ns, shaped_ints [], _, rfl, ?_⟩
    cases hb : PyData.eqv (.list (ns.map PyData.int)) (.list []) with
    | false =>
      have hne : ns ≠ [] := by
        intro z
        subst z
        rw [show PyData.eqv (.list (([] : List Int).map PyData.int)) (.list []) = true from SeqAt.eqv_refl _ (shaped_ints [])] at hb
        cases hb
      refine ⟨.ref a, rfl, a, _, rfl, .inl (sp.seq hs), fun c nc => ?_⟩
      exact rest c _ ns (sp.trans (same_new nc)) upd_same hne hn
    | true =>
      refine ⟨by show 1 ≤ sizeLine; decide, fun c nc => ?_⟩
      exact rest c _ [0] (sp.trans (same_new nc)) upd_same (by decide) (by decide)
end
end K0

namespace K0
open PySem PySem.Spec PyProof.Rows L2 W0 W1 W2
def SameX (st l : Addr) (H H' : Hp) : Prop := ∀ b o, H b = some o → b ≠ st → b ≠ l → H' b = some o
theorem SameX.refl (st l : Addr) (H : Hp) : SameX st l H H := fun _ _ h _ _ => h
theorem SameX.trans {st l : Addr} {H H1 H2 : Hp} (a : SameX st l H H1) (b : SameX st l H1 H2) : SameX st l H H2 := fun c o h n1 n2 => b c o (a c o h n1 n2) n1 n2
theorem SameX.of {st l : Addr} {H H' : Hp} (e : Same H H') : SameX st l H H' := fun b o h _ _ => e b o h
theorem SameX.off {st l : Addr} {H H' : Hp} (e : Off st l H H') : SameX st l H H' := fun b o h n1 n2 => (e b n1 n2).trans h
section
variable {K : PySem.W.Frag} {H H' : Hp} {st c l : Addr} {B : Nat}
theorem StAt.two (h : StAt K H st c l B) : (∃ kvs, H st = some (.dK kvs)) ∧ (∃ ls : List Int, H l = some (.lst (ls.map V.int))) := by
  obtain ⟨kvs, cells, lefts, a, h1, h2, h3, h4, h5, h6, h7, h8, h9, h10⟩ := h.ex
  exact ⟨⟨kvs, h1⟩, ⟨lefts, h7⟩⟩
theorem sqT_x {p : Addr} {xs : List V} (h : StAt K H st c l B) (e : SameX st l H H') (q : SqT K H p xs) : SqT K H' p xs := by
  obtain ⟨⟨kvs, h1⟩, ⟨ls, h2⟩⟩ := h.two
  rcases q with (q | ⟨o, q⟩) | q
  · exact .inl (.inl (e _ _ q (ne_of q h1 (by intro z; cases z)) (ne_of q h2 (by intro z; cases z))))
  · exact .inl (.inr ⟨o, e _ _ q (ne_of q h1 (by intro z; cases z)) (ne_of q h2 (by intro z; cases z))⟩)
  · exact .inr q
theorem trs_x {D : Addr} {A : List T3} (h : StAt K H st c l B) (e : SameX st l H H') (hD : D ≠ l) (t : Trs K H D A) : Trs K H' D A := by
  obtain ⟨⟨kvs, h1⟩, _⟩ := h.two
  obtain ⟨ts, e2, m, r⟩ := t
  exact ⟨ts, e _ _ e2 (ne_of e2 h1 (by intro z; cases z)) hD, m, fun p hp => sqT_x h e (r p hp)⟩
theorem free_x {p : Addr} (h : StAt K H' st c l B) (e : SameX st l H H') (n : H' p = none) : H p = none := by
  obtain ⟨⟨kvs, h1⟩, ⟨ls, h2⟩⟩ := h.two
  cases q : H p with
  | none => rfl
  | some o =>
    have a1 : p ≠ st := fun z => by
      rw [z, h1] at n
      cases n
    have a2 : p ≠ l := fun z => by
      rw [z, h2] at n
      cases n
    rw [e p o q a1 a2] at n
    cases n
theorem Trs.join {D D2 p : Addr} {A C : List T3} {xs zs : List V} (t : Trs K H D A) (u : Trs K H D2 C) (e1 : H D = some (.lst xs)) (e2 : H D2 = some (.lst zs)) (np : H p = none) : Trs K (upd H p (.lst (xs ++ zs))) p (A ++ C) := by
  obtain ⟨ts, a1, a2, a3⟩ := t
  obtain ⟨us, b1, b2, b3⟩ := u
  rw [e1] at a1
  rw [e2] at b1
  cases a1
  cases b1
  refine ⟨ts ++ us, ?_, ?_, fun q hq => same_tup (same_new np) ?_⟩
  · rw [upd_same, List.map_append]
  · rw [List.map_append, List.map_append, a2, b2]
  · rcases List.mem_append.mp hq with hq | hq
    · exact a3 q hq
    · exact b3 q hq
end
/-- the arrows met before kind s, world h -/
structure Upto (n : Int) (s h : Int) (A : List T3) : Prop where
  all : ∀ t ∈ A, InW n t
  asc : A.Pairwise lt3
  bef : ∀ t ∈ A, t.1 < s ∨ (t.1 = s ∧ t.2.1 < h)
theorem Upto.join {n s h : Int} {A T : List T3} (u : Upto n s h A) (s0 : 0 ≤ s) (s2 : s ≤ 2) (h0 : 0 ≤ h) (hn : h < n) (all : ∀ t ∈ T, t.1 = s ∧ t.2.1 = h ∧ 0 ≤ t.2.2 ∧ t.2.2 < n) (asc : T.Pairwise lt3) : Upto n s (h + 1) (A ++ T) := by
  refine ⟨fun t ht => ?_, List.pairwise_append.mpr ⟨u.asc, asc, fun a ha b hb => ?_⟩, fun t ht => ?_⟩
  · rcases List.mem_append.mp ht with m | m
    · exact u.all t m
    · obtain ⟨a1, a2, a3, a4⟩ := all t m
      exact ⟨by omega, by omega, by omega, by omega, a3, a4⟩
  · have := u.bef a ha
    obtain ⟨b1, b2, _, _⟩ := all b hb
    exact lt3_iff.mpr (by omega)
  · rcases List.mem_append.mp ht with m | m
    · have := u.bef t m
      omega
    · obtain ⟨a1, a2, _, _⟩ := all t m
      omega
theorem Upto.next {n s h : Int} {A : List T3} (u : Upto n s h A) : Upto n (s + 1) 0 A := ⟨u.all, u.asc, fun t ht => by have := u.bef t ht; omega⟩
section
variable {P : Program} {w : World} {K : PySem.W.Frag} {mg : Str → Option Value} {base : Heap}
def sp_web (K : PySem.W.Frag) : Sp := fun vs H Q _ => ∃ (st c l : Addr) (B m k : Nat), vs = [.ref st, .int m, .int k] ∧ 1 ≤ m ∧ m ≤ 5 ∧ k ≤ 3 ∧ StAt K H st c l B ∧ B ≤ 90000 ∧
  ∀ H' v (n : Nat) A, StAt K H' st c l (B + 100) → SameX st l H H' → Dp K H' v (dWeb n A) → WOk n A → n ≤ m → A.length ≤ 75 → Q v H'
theorem ok__law_web (T : Tops K w mg) : FnOk P w K mg base CX0 3 T.a__law_web T.fd__law_web p__law_web (sp_web K) := by
  have S := sc__law_web
  refine T.F__law_web.ok S (fun vs H Q E h => ?_) (fun cdv AA outer s H vs Q E hr h => ?_)
  · obtain ⟨st, c, l, B, m, k, rfl, _⟩ := h
    rfl
  · obtain ⟨st, c, l, B, m, k, rfl, hm1, hm5, hk3, hst, hB, q⟩ := h
    refine ⟨_, (pss_cons (ps_par (i := 3) (j := 4) rfl S.nd rfl rfl (by decide) rfl rfl (pa_cons (pe_op op_add pe_int (pe_call (ok__law_draw T) (hr.mono (by first | decide | omega)) (by rfl) T.g__law_draw T.F__law_draw.kp T.b__law_draw .nil pass0 (pa_cons (pv 0) (pa_cons (pv 1) pa_nil)))) (pa_cons (pe_lst pa_nil) pa_nil)) (by rfl))
      (pss_cons (ps_for PassesOwn.never rfl (pi_range1 (by rfl) T.m_range (pa_cons (pv 2) pa_nil)) (pg_name (i := 5) S.nd rfl (Or.inr rfl)) (pss_one (ps_for PassesOwn.never rfl (pi_range1 (by rfl) T.m_range (pa_cons (pv 3) pa_nil)) (pg_name (i := 6) S.nd rfl (Or.inr rfl)) (pss_one (ps_set (i := 4) S.nd rfl (Or.inl rfl) (pe_op op_cat (pv 4) (pe_lc (own := [("there", 7)]) rfl S.nd (pi_range1 (by rfl) T.m_range (pa_cons (pv 3) pa_nil)) (blkOk_by (N := n__law_web) (sc := defScope s__law_web) (by decide +kernel)) (fun _ _ _ _ _ => (pg_name (i := 7) S.nd rfl (Or.inl rfl))) (fun _ _ _ _ _ => (pts_one (pt_cmpR op_eq (pe_call (ok__law_draw T) (hr.mono (by first | decide | omega)) (by rfl) T.g__law_draw T.F__law_draw.kp T.b__law_draw .nil pass0 (pa_cons (pv 0) (pa_cons pe_int pa_nil))) pe_int (nomark _)))) (fun _ _ _ _ _ => (pe_tup (pa_cons (pv 5) (pa_cons (pv 6) (pa_cons (pv 7) pa_nil))))))))))))
      (pss_one (ps_ret (pe_tup (pa_cons (pv 3) (pa_cons (pe_callTy (call_tupleK (K := K)) (by rfl) T.m_tuple (by decide +kernel) (pa_cons (pv 4) pa_nil)) pa_nil))))))), ?_⟩
    -- size, found = (1 + draw, [])
    refine ⟨.ref st, rfl, .int m, rfl, st, c, l, B, m, rfl, by omega, by omega, hst, by omega, fun H1 i hi0 hi1 st1 off1 => ?_⟩
    refine ⟨1, i, rfl, rfl, Nat.zero_le _, fun F nF => ?_⟩
    obtain ⟨i, rfl⟩ : ∃ z : Nat, i = z := ⟨i.toNat, (Int.toNat_of_nonneg hi0).symm⟩
    have e2 : SameX st l H (upd H1 F (.lst [])) := (SameX.off off1).trans (SameX.of (same_new nF))
    have st2 : StAt K (upd H1 F (.lst [])) st c l (B + 1) := st1.same (same_new nF)
    have tr2 : Trs K (upd H1 F (.lst [])) F [] := Trs.nil
    have Fl : F ≠ l := fun z => by
      obtain ⟨_, ⟨ls, h2⟩⟩ := st1.two
      rw [z, h2] at nF
      cases nF
    generalize upd H1 F (.lst []) = H2 at e2 st2 tr2
    refine ⟨.int (1 + i), .ref F, rfl, ?_⟩
    obtain ⟨n, hn⟩ : ∃ n : Nat, n = 1 + i := ⟨_, rfl⟩
    have hnI : (1 + (i : Int)) = (n : Int) := by omega
    rw [hnI]
    have hn5 : n ≤ 5 := by omega
    -- for sort in range(sorts)
    refine ⟨.int k, rfl, k, rfl, by omega, by omega, ?_⟩
    refine for_range (lo := 0) (n := k) (fun s σ H' => ∃ y5 y6 f A, σ = [some (.ref st), some (.int m), some (.int k), some (.int n), some (.ref f), y5, y6, none] ∧ StAt K H' st c l (B + 1 + 25 * s) ∧ SameX st l H H' ∧ Trs K H' f A ∧ f ≠ l ∧ Upto n s 0 A ∧ A.length ≤ 25 * s)
      ⟨none, none, F, [], rfl, st2, e2, tr2, Fl, ⟨fun t h => (List.not_mem_nil h).elim, List.Pairwise.nil, fun t h => (List.not_mem_nil h).elim⟩, Nat.zero_le _⟩ (fun s σ H' hs h => ?_) (fun σ H' h => ?_)
    · obtain ⟨y5, y6, f, A, rfl, st3, e3, tr3, fl, up, al⟩ := h
      rw [Int.zero_add]
      -- for here in range(size)
      refine ⟨.int n, rfl, n, rfl, by omega, by omega, ?_⟩
      refine for_range (lo := 0) (n := n) (fun h σ H' => ∃ y6 f A, σ = [some (.ref st), some (.int m), some (.int k), some (.int n), some (.ref f), some (.int s), y6, none] ∧ StAt K H' st c l (B + 1 + 25 * s + 5 * h) ∧ SameX st l H H' ∧ Trs K H' f A ∧ f ≠ l ∧ Upto n s h A ∧ A.length ≤ 25 * s + 5 * h)
        ⟨y6, f, A, rfl, st3, e3, tr3, fl, up, al⟩ (fun h σ H' hh hp => ?_) (fun σ H' hp => ?_)
      · obtain ⟨y6, f, A, rfl, st4, e4, tr4, fl, up, al⟩ := hp
        rw [Int.zero_add]
        refine ⟨.ref f, rfl, .int n, rfl, n, rfl, by omega, by omega, fun D nD => ?_⟩
        have Dl : D ≠ l := fun z => by
          obtain ⟨_, ⟨ls, h2⟩⟩ := st4.two
          rw [z, h2] at nD
          cases nD
        have nfD : f ≠ D := by
          obtain ⟨acc, hacc, _⟩ := tr4.acc
          exact ne_of_none hacc nD
        refine lc_range (lo := 0) (n := n) (fun j H'' => StAt K H'' st c l (B + 1 + 25 * s + 5 * h + j) ∧ SameX st l H' H'' ∧ ∃ C : List T3, Trs K H'' D C ∧ C.length ≤ j ∧ (∀ t ∈ C, t.1 = s ∧ t.2.1 = h ∧ 0 ≤ t.2.2 ∧ t.2.2 < j) ∧ C.Pairwise lt3)
          ⟨st4.same (same_new nD), SameX.of (same_new nD), [], Trs.nil, Nat.le_refl _, fun t h => (List.not_mem_nil h).elim, List.Pairwise.nil⟩ (fun j H5 hj hp => ?_) (fun H5 hp => ?_)
        · obtain ⟨st5, e5, C, trC, cl, ca, cp⟩ := hp
          rw [Int.zero_add]
          refine ⟨rfl, .ref st, rfl, st, c, l, _, 3, rfl, by decide, by decide, st5, by omega, fun H6 z hz0 hz1 st6 off6 => ?_⟩
          have e6 := SameX.off off6
          have trC6 := trs_x st5 e6 Dl trC
          refine ⟨rfl, _, rfl, ite2 (fun hz => ?_) (fun hz => ?_)⟩
          · refine ⟨.int s, rfl, .int h, rfl, .int j, rfl, by show 3 ≤ sizeLine; decide, fun y ny => ?_⟩
            have t1 := trC6.same (same_new (o := .tup [.int s, .int h, .int j]) ny)
            obtain ⟨acc, hacc, hal⟩ := t1.acc
            have st7 := st6.same (same_new (o := .tup [.int s, .int h, .int j]) ny)
            have nDH5 : H' D = none := nD
            refine ⟨acc, hacc, ?_, ?_, ?_, C ++ [((s : Int), (h : Int), (j : Int))], t1.push hacc (SqT.of (K := K) upd_same), ?_, fun t ht => ?_, ?_⟩
            · rw [hal]
              exact small (m := 1000) (by omega)
            · obtain ⟨kvs, cells, lefts, a, h1, h2, h3, h4, h5, h6, h7, h8, h9, h10⟩ := st7.ex
              refine ⟨⟨kvs, cells, lefts, a, (upd_ne (ne_of h1 hacc (by intro z; cases z))).trans h1, h2, h3, h4, h5, ?_, (upd_ne Dl.symm).trans h7, h8, h9, h10⟩, st7.apart⟩
              refine (upd_ne ?_).trans h6
              obtain ⟨kvs', cells', lefts', a', g1, g2, g3, g4, g5, g6, g7, g8, g9, g10⟩ := st4.ex
              exact ne_of_none g6 nD
            · intro b o hb n1 n2
              rw [upd_ne (ne_of_none hb nD)]
              exact same_new ny _ _ (e6 _ _ (e5 _ _ hb n1 n2) n1 n2)
            · rw [List.length_append]
              exact Nat.succ_le_succ cl
            · rcases List.mem_append.mp ht with mm | mm
              · obtain ⟨a1, a2, a3, a4⟩ := ca t mm
                exact ⟨a1, a2, a3, by omega⟩
              · rw [List.mem_singleton.mp mm]
                exact ⟨rfl, rfl, by show (0 : Int) ≤ (j : Int); omega, by show (j : Int) < ((j + 1 : Nat) : Int); omega⟩
            · refine List.pairwise_append.mpr ⟨cp, List.pairwise_singleton _ _, fun a ha b hb => ?_⟩
              rw [List.mem_singleton.mp hb]
              obtain ⟨a1, a2, a3, a4⟩ := ca a ha
              exact lt3_iff.mpr (Or.inr ⟨a1, Or.inr ⟨a2, a4⟩⟩)
          · exact ⟨st6, e5.trans e6, C, trC6, Nat.le_succ_of_le cl, fun t ht => by
              obtain ⟨a1, a2, a3, a4⟩ := ca t ht
              exact ⟨a1, a2, a3, by omega⟩, cp⟩
        · obtain ⟨st5, e5, C, trC, cl, ca, cp⟩ := hp
          have trf := trs_x st4 e5 fl tr4
          obtain ⟨acc, hacc, hal⟩ := trf.acc
          obtain ⟨acd, hacd, had⟩ := trC.acc
          refine ⟨f, D, acc, acd, rfl, rfl, hacc, hacd, ?_, fun p np => ?_⟩
          · rw [hal, had]
            exact Nat.le_of_lt (small (m := 1000) (by omega))
          · have pl : p ≠ l := fun z => by
              obtain ⟨_, ⟨ls, h2⟩⟩ := st5.two
              rw [z, h2] at np
              cases np
            refine ⟨_, p, A ++ C, rfl, (st5.mono (by omega)).same (same_new np), e4.trans (e5.trans (SameX.of (same_new np))), Trs.join trf trC hacc hacd np, pl, ?_, ?_⟩
            · rw [Int.natCast_add]
              exact up.join (by omega) (by omega) (by omega) (by omega) (fun t ht => by
                obtain ⟨a1, a2, a3, a4⟩ := ca t ht
                exact ⟨a1, a2, a3, by omega⟩) cp
            · rw [List.length_append]
              omega
      · obtain ⟨y6, f, A, rfl, st4, e4, tr4, fl, up, al⟩ := hp
        refine ⟨_, y6, f, A, rfl, st4.mono (by omega), e4, tr4, fl, ?_, by omega⟩
        rw [Int.natCast_add]
        exact up.next
    · obtain ⟨y5, y6, f, A, rfl, st3, e3, tr3, fl, up, al⟩ := h
      refine ⟨.int n, rfl, .ref f, rfl, ?_⟩
      dsimp only [tNil]
      refine tuple_trs tr3 fun t H4 e4 d4 => ?_
      refine ⟨by show 2 ≤ sizeLine; decide, fun y ny => ?_⟩
      refine q _ _ n A (((st3.mono (by omega)).same e4).same (same_new ny)) (e3.trans (SameX.of (e4.trans (same_new ny)))) (dp_mkweb ny d4) ⟨by omega, by omega, by omega, up.all, up.asc⟩ (by omega) (by omega)
end
end K0

/-! W3: sets of tuples of ints with up to seventy-six members; sets of ints from lists and tuples. -/
namespace W3
open PySem PySem.Spec PyProof.Rows L2 W2

/-- the table at a holds the tuples L (their addresses, their ints) -/
structure Held (P : Program) (w : World) (h : Heap) (a : Addr) (L : List (Addr × List Int)) (es : Array (Int × Value)) (ep : Nat) (t : SetTable) : Prop where
  obj : ∃ o, h.get? a = some o ∧ o.ExactSet ∧ o.data = .set es ep t
  rows : es.toList = rowsOf P w L
  tab : TabOk t (L.map fun p => thash P w p.2)
  uniq : (L.map (·.2)).Nodup
  plain : t.plain = true
  led : w.params.followText "set-order" = true ∨ t.led = true
  room : L.length * 5 < t.mask * 3

section
variable {P : Program} {w : World} {A : Around} {E : Value → Shared → Prop} {s : Shared} {a : Addr} {L : List (Addr × List Int)} {es : Array (Int × Value)} {ep : Nat} {t : SetTable}
theorem Held.few (R : Held P w s.heap a L es ep t) (tup : ∀ p ∈ L, IsT P w s.heap p.2 p.1) (h : L.length < 64) : SetTR P w s.heap a L es ep t := ⟨R.obj, R.rows, R.tab, R.uniq, tup, R.plain, R.led, R.room, h⟩
theorem Held.of {h : Heap} (R : SetTR P w h a L es ep t) : Held P w h a L es ep t := ⟨R.ob, R.rows, R.tab, R.nd, R.plain, R.led, R.room⟩
theorem Held.many {h : Heap} (R : Held P w h a L es ep t) : es.size = L.length := by
  have e := congrArg List.length R.rows
  rw [Array.length_toList] at e
  rw [e]
  exact List.length_map _
theorem Held.most {h : Heap} (R : Held P w h a L es ep t) : L.length ≤ 76 := by
  have r := R.room
  rcases R.tab.mok with e | e | e <;> rw [e] at r <;> omega
theorem Held.fits {h : Heap} (R : Held P w h a L es ep t) : t.fits es.size = true := by
  have n1 : t.place.size = es.size := by
    rw [R.many, R.tab.sz]
    exact List.length_map _
  have n2 : es.size ≤ t.mask := by
    have r := R.room
    rw [R.many]
    omega
  show (t.place.size == es.size && decide (t.place.size + t.dummies.size ≤ t.mask)) = true
  rw [R.tab.dm, n1]
  simpa using n2
theorem Held.row {h : Heap} (R : Held P w h a L es ep t) {i : Nat} {p : Addr × List Int} (e : L[i]? = some p) : es[i]? = some (thash P w p.2, Value.ref p.1) := by
  have q : (rowsOf P w L)[i]? = some (thash P w p.2, Value.ref p.1) := by
    show (L.map _)[i]? = _
    rw [List.getElem?_map, e]
    rfl
  rw [← R.rows, Array.getElem?_toList] at q
  exact q
theorem Held.placed {h : Heap} (R : Held P w h a L es ep t) : t.place.toList.length = L.length := by
  rw [Array.length_toList, R.tab.sz]
  exact List.length_map _

/-- the state of the probe after c steps -/
abbrev probeAt (t : SetTable) (h : Int) (c : Nat) : SetTable.Probe := nth t.mask (runAt t.mask (SetTable.bits h % (t.mask + 1)) (SetTable.bits h)) c
theorem undummied (t : SetTable) (h : Int) : ∀ c, (probeAt t h c).dummy = none := by
  have step : ∀ p : SetTable.Probe, p.dummy = none → (adv t.mask p).dummy = none := by
    intro p hp
    unfold adv
    split <;> exact hp
  have all : ∀ (c : Nat) (p : SetTable.Probe), p.dummy = none → (nth t.mask p c).dummy = none := by
    intro c
    induction c with
    | zero => exact fun p hp => hp
    | succ c ih => exact fun p hp => ih _ (step p hp)
  exact fun c => all c _ rfl
theorem probe_on (t : SetTable) (h : Int) (c q : Nat) : nth t.mask (probeAt t h c) q = probeAt t h (c + q) := (nth_add t.mask c _ q).symm

/-- from the c-th step on: the first row of that hash, or the empty slot -/
theorem probe_from {h : Heap} (R : Held P w h a L es ep t) (hs : Int) {K c : Nat} (hK : K < 10 * SetTable.turns t.mask) (empty : way t.mask hs K ∉ t.place.toList) (full : ∀ k, k < K → way t.mask hs k ∈ t.place.toList) (hc : c ≤ K) :
    (∃ (q i : Nat) (p : Addr × List Int), c ≤ q ∧ q < K ∧ L[i]? = some p ∧ thash P w p.2 = hs ∧ t.place.toList[i]? = some (way t.mask hs q) ∧ (∀ (q' i' : Nat) (p' : Addr × List Int), c ≤ q' → q' < q → t.place.toList[i']? = some (way t.mask hs q') → L[i']? = some p' → thash P w p'.2 ≠ hs) ∧
        t.probe (fun i => (es[i]?.map (·.1)).getD 0) hs (probeAt t hs c) = some (.candidate (way t.mask hs q) i (probeAt t hs (q + 1)))) ∨
      ((∀ (q' i' : Nat) (p' : Addr × List Int), c ≤ q' → q' < K → t.place.toList[i']? = some (way t.mask hs q') → L[i']? = some p' → thash P w p'.2 ≠ hs) ∧ t.probe (fun i => (es[i]?.map (·.1)).getD 0) hs (probeAt t hs c) = some (.empty (way t.mask hs K) none)) := by
  have at' : ∀ q, (nth t.mask (probeAt t hs c) q).j = way t.mask hs (c + q) := fun q => by rw [probe_on]
  have hashOf : ∀ {i : Nat} {p : Addr × List Int}, L[i]? = some p → (fun i => (es[i]?.map (·.1)).getD 0) i = thash P w p.2 := by
    intro i p e
    show (es[i]?.map (·.1)).getD 0 = _
    rw [R.row e]
    rfl
  have found := go_spec t R.tab.ris R.tab.dm (fun i => (es[i]?.map (·.1)).getD 0) hs (10 * SetTable.turns t.mask) (K - c) (probeAt t hs c) (undummied t hs c) (by omega)
    (fun q hq => by rw [at']; exact full _ (by omega)) (by rw [at', Nat.add_sub_cancel' hc]; exact empty)
  rcases found with ⟨q, i, hq, hi, hh, first, met⟩ | ⟨none', met⟩
  · left
    rw [at'] at hi met
    have il : i < L.length := by
      rw [← R.placed]
      exact (List.getElem?_eq_some_iff.mp hi).1
    have ei : L[i]? = some L[i] := List.getElem?_eq_getElem il
    refine ⟨c + q, i, L[i], by omega, by omega, ei, (hashOf ei).symm.trans hh, hi, fun q' i' p' h1 h2 h3 h4 => ?_, ?_⟩
    · intro z
      refine first (q' - c) i' (by omega) ?_ ((hashOf h4).trans z)
      rw [at', Nat.add_sub_cancel' h1]
      exact h3
    · rw [probe_on] at met
      exact met
  · right
    refine ⟨fun q' i' p' h1 h2 h3 h4 z => ?_, ?_⟩
    · refine none' (q' - c) i' (by omega) ?_ ((hashOf h4).trans z)
      rw [at', Nat.add_sub_cancel' h1]
      exact h3
    · rw [at', Nat.add_sub_cancel' hc] at met
      exact met

/-- the search of a tuple that is to be added -/
theorem search3 (R : Held P w s.heap a L es ep t) (tup : ∀ p ∈ L, IsT P w s.heap p.2 p.1) {x : Addr} {k : List Int} (hx : IsT P w s.heap k x) (hu : A.units < cLine) {Q : SetFound → Shared → Prop}
    (isin : k ∈ L.map (·.2) → Q (.there none) s)
    (out : ∀ K, k ∉ L.map (·.2) → way t.mask (thash P w k) K ∉ t.place.toList → (∀ c, c < K → way t.mask (thash P w k) c ∈ t.place.toList) → Q (.free (way t.mask (thash P w k) K) false) s) :
    wpAny (model P w) A (setSearch a (.ref x) (thash P w k) true) Q E s := by
  have room := R.room
  obtain ⟨K, hK, empty, full⟩ := R.tab.first (h := thash P w k) (by rw [List.length_map]; omega)
  have hK' : K < 2000 := by
    have e : 10 * SetTable.turns t.mask ≤ 1420 := by
      unfold SetTable.turns
      rcases R.tab.mok with e | e | e <;> omega
    omega
  obtain ⟨o, ho, _, hd⟩ := R.obj
  have main : ∀ (f c : Nat) (stand : Option SetTable.Probe), stand.getD (t.probeStart (thash P w k)) = probeAt t (thash P w k) c → c ≤ K → K - c < f →
      (∀ (i : Nat) p, L[i]? = some p → p.2 = k → ∃ q, c ≤ q ∧ q < K ∧ t.place.toList[i]? = some (way t.mask (thash P w k) q)) → wpAny (model P w) A (setSearchFrom a (.ref x) (thash P w k) true f stand) Q E s := by
    intro f
    induction f with
    | zero => exact fun _ _ _ _ z => (Nat.not_lt_zero _ z).elim
    | succ f ih =>
      intro c stand hst hc hf ahead
      rw [setSearchFrom_succ]
      refine wpAny_bind (wpAny_setState_of ho hd R.fits ?_)
      dsimp only
      have standing : ¬ t.gaveWay = true := by
        intro z
        unfold SetTable.gaveWay at z
        rw [mask_odd R.tab.mok] at z
        exact absurd z (by decide)
      refine wp_if_neg standing ?_
      try refine wpAny_bind (wpAny_pure ?_)
      rw [hst]
      rcases probe_from R (thash P w k) hK empty full hc with ⟨q, i, p, h1, h2, hp, hh, hi, first, met⟩ | ⟨none', met⟩
      · rw [met]
        dsimp only
        have pm : p ∈ L := List.mem_of_getElem? hp
        have rest : wpAny (model P w) A (searchRest a (.ref x) (thash P w k) true f es t (way t.mask (thash P w k) q) i (probeAt t (thash P w k) (q + 1))) Q E s := by
          unfold searchRest
          rw [R.row hp]
          dsimp only
          refine wpAny_bind (wpAny_holding (wpAny_eqBool_tuple hu (tup p pm) hx ?_))
          refine wpAny_bind (wpAny_setState_of ho hd R.fits ?_)
          dsimp only
          by_cases same : p.2 = k
          · refine wp_if_pos (by rw [decide_eq_true same]; rfl) ?_
            exact wpAny_pure (isin (List.mem_map.mpr ⟨p, pm, same⟩))
          · refine wp_if_neg (by rw [decide_eq_false same]; decide) ?_
            try refine wpAny_bind (wpAny_pure ?_)
            rw [sameMem]
            dsimp only
            have live : t.slot (way t.mask (thash P w k) q) = .live i := slot_live R.tab.ris hi
            simp only [if_true, live, R.row hp]
            refine wpAny_bind (wpAny_isSame_ref_self (wpAny_bind (wpAny_pure ?_)))
            simp only [if_true]
            refine wp_if_neg (by rw [decide_eq_false same]; decide) ?_
            refine ih (q + 1) _ rfl h2 (by omega) fun j r hj hr => ?_
            obtain ⟨q', a1, a2, a3⟩ := ahead j r hj hr
            refine ⟨q', ?_, a2, a3⟩
            rcases Nat.lt_trichotomy q' q with z | z | z
            · exact absurd (by rw [hr]) (first q' j r a1 z a3 hj)
            · subst z
              have l2 := slot_live R.tab.ris a3
              rw [live] at l2
              injection l2 with l2
              rw [← l2, hp] at hj
              cases hj
              exact absurd hr same
            · exact z
        by_cases led : t.led = true
        · refine wp_if_neg (by rw [led]; decide) ?_
          try refine wpAny_bind (wpAny_pure ?_)
          exact rest
        · refine wp_if_pos (by cases z : t.led with
            | true => exact absurd z led
            | false => rfl) ?_
          refine wpAny_bind (seen_tup hx (fun y hy => ?_) ?_)
          · obtain ⟨e, he, rfl⟩ := List.mem_map.mp hy
            have he1 : e ∈ es.toList := by
              have he2 : e ∈ es ∧ e.1 = thash P w k := by simpa using he
              simpa using he2.1
            rw [R.rows] at he1
            obtain ⟨r, hr, rfl⟩ := List.mem_map.mp he1
            exact ⟨r.2, r.1, rfl, tup r hr⟩
          · refine wp_if_neg Bool.false_ne_true ?_
            try refine wpAny_bind (wpAny_pure ?_)
            exact rest
      · rw [met]
        dsimp only
        refine wpAny_pure (out K (fun m => ?_) empty full)
        obtain ⟨p, pm, e⟩ := List.mem_map.mp m
        obtain ⟨i, il, ei⟩ := List.getElem_of_mem pm
        have hp : L[i]? = some p := by rw [List.getElem?_eq_getElem il, ei]
        obtain ⟨q, a1, a2, a3⟩ := ahead i p hp e
        exact none' q i p a1 a2 a3 hp (by rw [e])
  unfold setSearch
  refine main 100000 0 none rfl (Nat.zero_le _) (by omega) fun i p hp e => ?_
  have il : i < t.place.toList.length := by
    rw [R.placed]
    exact (List.getElem?_eq_some_iff.mp hp).1
  obtain ⟨q, hq, e2⟩ := R.tab.before empty (i := i) (h := thash P w k) (j := t.place.toList[i]) (by rw [List.getElem?_map, hp, ← e]; rfl) (List.getElem?_eq_getElem il)
  exact ⟨q, Nat.zero_le _, hq, by rw [List.getElem?_eq_getElem il, e2]⟩

/-- a tuple added where the table needn't grow any more -/
theorem add_late (R : Held P w s.heap a L es ep t) (tup : ∀ p ∈ L, IsT P w s.heap p.2 p.1) {x : Addr} {k : List Int} (hx : IsT P w s.heap k x) (hu : A.units < cLine) (many : 63 ≤ L.length) (less : L.length < 76) {Q : Bool → Shared → Prop}
    (hQ : ∀ b h' L' es' ep' t', Heap.SameBut a s.heap h' → Held P w h' a L' es' ep' t' → (k ∈ L.map (·.2) → L' = L) → (k ∉ L.map (·.2) → L'.Perm ((x, k) :: L)) → Q b { s with heap := h' }) :
    wpAny (model P w) A (setAddHashed a (.ref x) (thash P w k)) Q E s := by
  obtain ⟨o, ho, exact', hd⟩ := R.obj
  have big : t.mask = 127 := by
    have r := R.room
    rcases R.tab.mok with e | e | e
    · rw [e] at r
      omega
    · rw [e] at r
      omega
    · exact e
  unfold setAddHashed
  refine wpAny_holding ?_
  rw [show (100000 : Nat) = 99999 + 1 from rfl, setAddHashedIn_succ]
  refine wpAny_bind (wpAny_setState_of ho hd R.fits ?_)
  dsimp only
  refine wp_if_neg (by simp [byScan, Value.scannable]) ?_
  try refine wpAny_bind (wpAny_pure ?_)
  refine wpAny_bind (search3 R tup hx hu (fun isin => ?_) fun K new empty full => ?_)
  · dsimp only
    exact wpAny_pure (hQ false s.heap L es ep t (Heap.SameBut.refl a s.heap) R (fun _ => rfl) fun z => absurd isin z)
  · dsimp only
    refine wpAny_bind (wpAny_setState_of ho hd R.fits ?_)
    dsimp only
    have put := R.tab.put empty full
    generalize t.put (way t.mask (thash P w k) K) = two at put ⊢
    obtain ⟨t1, p⟩ := two
    dsimp only at put ⊢
    obtain ⟨ep1, _, tab1, mask1, led1, plain1, _, _, fill1⟩ := put
    rw [← ep1] at tab1
    have pl : t1.plain = true := plain1.trans R.plain
    first
      | (refine wpAny_bind ?_; refine wp_if_pos pl ?_; refine hashBy_tup hx ?_)
      | refine wp_if_pos pl (wpAny_bind (hashBy_tup hx ?_))
    simp only [if_true]
    have perm := put_perm L p (x, k)
    have rows1 : (SetTable.insertAt es p (thash P w k, Value.ref x)).toList = rowsOf P w (L.take p ++ (x, k) :: L.drop p) := by
      rw [SetTable.toList_insertAt, rows_put, R.rows]
    have hashes : (L.take p ++ (x, k) :: L.drop p).map (fun q => thash P w q.2) = (L.map fun q => thash P w q.2).take p ++ thash P w k :: (L.map fun q => thash P w q.2).drop p := by
      rw [List.map_append, List.map_cons, List.map_take, List.map_drop]
    rw [← hashes] at tab1
    have len1 := perm.length_eq
    have uniq1 : ((L.take p ++ (x, k) :: L.drop p).map (·.2)).Nodup := (perm.map (·.2)).nodup_iff.mpr (List.nodup_cons.mpr ⟨new, R.uniq⟩)
    generalize L.take p ++ (x, k) :: L.drop p = L1 at perm rows1 tab1 len1 uniq1
    rw [List.length_cons] at len1
    have size1 : (SetTable.insertAt es p (thash P w k, Value.ref x)).size = L.length + 1 := by
      have e := congrArg List.length rows1
      rw [Array.length_toList] at e
      rw [e, ← len1]
      exact List.length_map _
    generalize SetTable.insertAt es p (thash P w k, Value.ref x) = es1 at rows1 size1 ⊢
    refine wpAny_bind (wpAny_storeSet_of ho hd ?_ (by rw [size1, sizeLine_eq]; omega))
    have sb : Heap.SameBut a s.heap (s.heap.update a (Obj.putSet es1 t1)) := Heap.SameBut.update ..
    have ho1 := store_at (es' := es1) (t' := t1) ho hd
    have calm : ¬ t1.tooFull = true := by
      intro z
      unfold SetTable.tooFull at z
      rw [decide_eq_true_eq, fill1, List.length_map, mask1, big] at z
      omega
    have fin : Q true { s with heap := s.heap.update a (Obj.putSet es1 t1) } := by
      refine hQ true _ L1 es1 (ep + 1) t1 sb ⟨⟨_, ho1, ⟨exact'.1, exact'.2.1, exact'.2.2⟩, rfl⟩, rows1, tab1, uniq1, pl, by rw [led1]; exact R.led, by rw [len1, mask1, big]; omega⟩ (fun z => absurd z new) fun _ => perm
    first
      | exact wp_if_neg (by simp [calm]) (wpAny_pure fin)
      | exact wpAny_bind (wp_if_neg (by simp [calm]) (wpAny_pure (wpAny_pure fin)))
      | exact wp_if_neg (by simp [calm]) (wpAny_bind (wpAny_pure (wpAny_pure fin)))
/-- adding a tuple -/
theorem add3 (R : Held P w s.heap a L es ep t) (tup : ∀ p ∈ L, IsT P w s.heap p.2 p.1) {x : Addr} {k : List Int} (hx : IsT P w s.heap k x) (hu : A.units < cLine) (less : L.length < 76) {Q : Bool → Shared → Prop}
    (hQ : ∀ b h' L' es' ep' t', Heap.SameBut a s.heap h' → Held P w h' a L' es' ep' t' → (k ∈ L.map (·.2) → L' = L) → (k ∉ L.map (·.2) → L'.Perm ((x, k) :: L)) → Q b { s with heap := h' }) :
    wpAny (model P w) A (setAddHashed a (.ref x) (thash P w k)) Q E s := by
  by_cases c : L.length + 1 < 64
  · exact add_at (R.few tup (by omega)) hx hu c fun b h' L' es' ep' t' sb r => hQ b h' L' es' ep' t' sb (Held.of r)
  · exact add_late R tup hx hu (by omega) less hQ
end
end W3

/-! W4: set(xs) of a list, whatever is added; sorted of such sets; the set comprehension. -/
namespace W4
open PySem PySem.Spec PyProof.Rows L2 W1 W2 W3

section
variable {P : Program} {w : World} {A : Around} {E : Value → Shared → Prop} {s : Shared}
/-- set.update's loop, by an invariant of the set at S -/
theorem update_by {I S : Addr} {fp wr : List Addr} {G : Array GenState → Array GenState → Prop} {n : Nat} {Pv : Nat → Value → Prop} {St : Nat → Shared → Prop} {R : Result → Shared → Prop} {old : Heap}
    (W : WalksS P w A.in1 I fp wr G n Pv St) (far : S ∉ fp) (newS : old.get? S = none) (newW : ∀ b ∈ wr, old.get? b = none) (J : Nat → Heap → Prop)
    (stay : ∀ i h h', J i h → (∀ o, h.get? S = some o → h'.get? S = some o) → (∀ b o, old.get? b = some o → h'.get? b = some o) → J i h')
    (add : ∀ i v (s : Shared) (Q : Bool → Shared → Prop) (E : Value → Shared → Prop), i < n → Pv i v → J i s.heap → (∀ b o, old.get? b = some o → s.heap.get? b = some o) →
      (∀ b h' tk, s.toks ≤ tk → Heap.SameBut S s.heap h' → J (i + 1) h' → Q b { s with heap := h', toks := tk }) → wpAny (model P w) A.in1 (setAdd S v) Q E s) :
    ∀ (left i : Nat) (s : Shared), i + left = n → St i s → (∀ b o, old.get? b = some o → s.heap.get? b = some o) → J i s.heap →
      (∀ s', Moved (S :: wr) G s s' → J n s'.heap → (∀ b o, old.get? b = some o → s'.heap.get? b = some o) → R (.ok (.ret .none)) s') →
      codeAny (model P w) A (.builtin "set.update.loop" ⟨[.ref S, .ref I], []⟩) R s := by
  have notW : S ∉ wr := fun z => far (W.sub S z)
  have wider : ∀ b ∈ wr, b ∈ S :: wr := fun b z => List.mem_cons_of_mem S z
  have later : ∀ {s1 s2 : Shared}, Moved wr G s1 s2 → (∀ b o, old.get? b = some o → s1.heap.get? b = some o) → ∀ b o, old.get? b = some o → s2.heap.get? b = some o := by
    intro s1 s2 m k b o e
    refine m.heap b o (fun z => ?_) (k b o e)
    rw [newW b z] at e
    cases e
  intro left
  induction left with
  | zero =>
    intro i s hi hst keep hJ hR
    obtain rfl : i = n := hi
    refine codeAny_builtin F.entry_set_update_loop ?_
    rw [Around.under_plainId F.plain_set_update_loop _]
    show wpAny _ A.in1 (pyNext (.ref I) >>= _) _ _ s
    refine wpAny_bind (W.done s _ _ hst fun s1 m => ?_)
    exact wpAny_pure (hR s1 (m.mono wider) (stay _ _ _ hJ (fun o e => m.heap S o notW e) (later m keep)) (later m keep))
  | succ left ih =>
    intro i s hi hst keep hJ hR
    refine codeAny_builtin F.entry_set_update_loop ?_
    rw [Around.under_plainId F.plain_set_update_loop _]
    show wpAny _ A.in1 (pyNext (.ref I) >>= _) _ _ s
    refine wpAny_bind (W.item i s _ _ (by omega) hst fun v s1 hv hst1 m => ?_)
    have keep1 := later m keep
    have J1 := stay _ _ _ hJ (fun o e => m.heap S o notW e) keep1
    show wpAny _ A.in1 (holding [v] (setAdd S v) >>= _) _ _ s1
    refine wpAny_bind (wpAny_holding (add i v s1 _ _ (by omega) hv J1 keep1 fun b h2 tk htk sb J2 => ?_))
    have keep2 : ∀ b o, old.get? b = some o → h2.get? b = some o := by
      intro b o e
      refine (sb.2 b ?_).trans (keep1 b o e)
      rintro rfl
      rw [newS] at e
      cases e
    refine wpAny_pure ⟨plainId_quiet F.plain_set_update_loop _, ih (i + 1) _ (by omega) (W.frame _ s1 h2 tk hst1 htk fun b hb o e => ?_) keep2 J2 fun s3 m3 J3 keep3 => ?_⟩
    · refine (sb.2 b ?_).trans e
      rintro rfl
      exact far hb
    · refine hR s3 (Moved.trans W.gtrans ((m.mono wider).then_heap htk fun b o hb e => ?_) m3) J3 keep3
      refine (sb.2 b ?_).trans e
      rintro rfl
      exact hb List.mem_cons_self

/-- a fresh set's object -/
abbrev bare (w : World) : Obj := { cls := .type "set", dict := none, data := .set #[] 0 (.fresh 0 0 (!w.params.followText "set-order")) }
set_option maxHeartbeats 3200000 in
/-- set(xs), xs a list -/
theorem set_of_list {l : Addr} {items : Array Value} {Q : Value → Shared → Prop} (calm : A.handled = none) (hl : s.heap.IsList l items) (J : Nat → Heap → Prop)
    (begin : ∀ h, h.get? s.heap.objs.size = some (bare w) → (∀ b o, s.heap.get? b = some o → h.get? b = some o) → J 0 h)
    (stay : ∀ i h h', J i h → (∀ o, h.get? s.heap.objs.size = some o → h'.get? s.heap.objs.size = some o) → (∀ b o, s.heap.get? b = some o → h'.get? b = some o) → J i h')
    (add : ∀ i v (s1 : Shared) (R : Bool → Shared → Prop) (E : Value → Shared → Prop), i < items.size → items[i]? = some v → J i s1.heap → (∀ b o, s.heap.get? b = some o → s1.heap.get? b = some o) →
      (∀ b h' tk, s1.toks ≤ tk → Heap.SameBut s.heap.objs.size s1.heap h' → J (i + 1) h' → R b { s1 with heap := h', toks := tk }) → wpAny (model P w) A.in1.in1.in1 (setAdd s.heap.objs.size v) R E s1)
    (fin : ∀ (h : Heap) (tk : Nat), J items.size h → (∀ b o, s.heap.get? b = some o → h.get? b = some o) → Q (.ref s.heap.objs.size) { s with heap := h, toks := tk }) :
    wpAny (model P w) A (call (.type "set") [.ref l]) Q E s := by
  obtain ⟨c, tl, hmro⟩ := F.called_set.mro
  have made := F.called_set.made
  have sub := F.called_set.sub
  have isNot := F.called_set.notType
  have can := F.called_set.canCreate
  have tcall := F.typeCall_set_1 (.ref l)
  have none_at : ∀ b, s.heap.objs.size ≤ b → s.heap.get? b = none := fun b hb => Heap.get?_none_of_le hb
  refine wpAny_call (codeAny_of_tree ?_)
  show wpAny _ _ (callAny (.type "set") _) _ _ _
  refine wpAny_pure ⟨Code.quiet_builtin _ (by decide +kernel), codeAny_builtin F.entry_type_call ?_⟩
  rw [Around.under_plain (weight_type_call_type "set" [.ref l] []) rfl]
  repeat (any_goals (first | assumption | wp_step))
  refine codeAny_mono (code_set_led1 (.ref l) (E := E) (Q₁ := fun u s1 => u = .ref s.heap.objs.size ∧ s1 = { s with heap := s.heap.push (bare w) }) ⟨rfl, rfl⟩) fun r s1 hr => ?_
  match r, hr with
  | .error _, hr => exact hr
  | .ok .next, hr => exact hr.elim
  | .ok .brk, hr => exact hr.elim
  | .ok .cont, hr => exact hr.elim
  | .ok (.ret u), hr =>
    obtain ⟨rfl, rfl⟩ := hr
    have there : (s.heap.push (bare w)).get? s.heap.objs.size = some (bare w) := Heap.get?_push_size _ rfl
    have isSet : Shared.TypeIs { s with heap := s.heap.push (bare w) } (.ref s.heap.objs.size) "set" := ⟨_, there, rfl⟩
    have ilook := F.called_set.init.lookup
    have ibind := F.called_set.init.bind (.ref s.heap.objs.size)
    repeat (any_goals (first | assumption | wp_step))
    refine codeAny_mono (codeAny_call_builtin (R := wants (fun r s2 => r = .none ∧ ∃ h tk, s2 = { s with heap := h, toks := tk } ∧ J items.size h ∧ ∀ b o, s.heap.get? b = some o → h.get? b = some o) E) F.called_set.init.plain F.entry_set_init (check_set_init_1 isSet ?_)) fun r2 s2 hr2 => ?_
    · obtain ⟨⟨ocls, odict, odata, oslots⟩, hol, hcl, nl, hdl⟩ := hl
      simp only at hcl hdl
      subst hcl
      subst hdl
      have lt : l < s.heap.objs.size := Heap.lt_size hol
      have hol1 : (s.heap.push (bare w)).get? l = some { cls := .type "list", dict := odict, data := .seq items nl, slots := oslots } := Heap.get?_push_of_some _ hol
      have isList : (s.heap.push (bare w)).IsList l items := ⟨_, hol1, rfl, nl, rfl⟩
      have s1 := F.sub_list_set
      have s2 := F.sub_list_frozenset
      have s3 : (Value.type "list" == Value.type "dict") = false := by decide
      unfold Builtin.«set.__init__» noKeywords Builtin.Frozenset.updateFrom
      generalize hPI : pyIter = PI
      wp_walk
      subst hPI
      refine wpAny_pyIter_list isList (wpAny_bind (wpAny_runValue ?_))
      have calm3 : A.in1.in1.in1.handled = none := by simp [calm]
      have size1 : (s.heap.push (bare w)).objs.size = s.heap.objs.size + 1 := Heap.size_push ..
      have ne1 : l ≠ (s.heap.push (bare w)).objs.size := by
        rw [size1]
        exact Nat.ne_of_lt (Nat.lt_succ_of_lt lt)
      have far : s.heap.objs.size ∉ [(s.heap.push (bare w)).objs.size, l] := by
        rw [size1]
        intro z
        rcases List.mem_cons.mp z with z | z
        · exact Nat.ne_of_lt (Nat.lt_succ_self _) z
        · exact Nat.ne_of_gt lt (List.mem_singleton.mp z)
      have oldkept : ∀ b o, s.heap.get? b = some o → ((s.heap.push (bare w)).push { cls := .type "list_iterator", data := .fields #[.ref l, .int 0 0] }).get? b = some o := fun b o e => Heap.get?_push_of_some _ (Heap.get?_push_of_some _ e)
      refine update_by (old := s.heap) (Walks.list calm3 _ l ne1 items).toS far (none_at _ (Nat.le_refl _)) (fun b hb => none_at b ?_) J stay add items.size 0 _ (Nat.zero_add _) ⟨⟨_, Heap.get?_push_size _ rfl, rfl, rfl⟩, isList.push _⟩ oldkept
        (begin _ (Heap.get?_push_of_some _ there) oldkept) (fun s4 m J4 keep4 => ?_)
      · rw [List.mem_singleton.mp hb, size1]
        exact Nat.le_succ _
      · obtain ⟨h4, g4, d4, t4, o4⟩ := s4
        obtain rfl : g4 = s.gens := m.gens
        obtain rfl : d4 = s.drawn := m.drawn
        obtain rfl : o4 = s.os := m.os
        refine wpAny_pure ?_
        show wpAny _ _ (ret Value.none) _ _ _
        exact wpAny_pure ⟨rfl, h4, t4, rfl, J4, keep4⟩
    · match r2, hr2 with
      | .error _, hr2 => exact hr2
      | .ok .next, hr2 => exact hr2.elim
      | .ok .brk, hr2 => exact hr2.elim
      | .ok .cont, hr2 => exact hr2.elim
      | .ok (.ret v), hr2 =>
        obtain ⟨rfl, h, tk, rfl, hJ, keep⟩ := hr2
        repeat (any_goals (first | assumption | wp_step))
        exact fin h tk hJ keep
end
end W4

/-! W5: set(..) and sorted(..) of sets, as rules; the set comprehension of tuples. -/
namespace W5
open PySem PySem.Spec PyProof.Rows L2 W1 W2 W3 W4

/-! ### sets of ints -/
def rSetN (K : PySem.W.Frag) (w : World) : List V → Hp → VK → Prop := fun vs H Q => ∃ (l : Addr) (ns : List Int), vs = [.ref l] ∧ (SqL K H l (ns.map V.int) ∨ SqT K H l (ns.map V.int)) ∧ ns.length ≤ 60 ∧
  ∀ a n, H a = none → n ≤ ns.length → Q (.ref a) (upd H a (SetO w a (fun j => decide (j ∈ ns)) n))
section
variable {X : Cx}
theorem cr_setN (hc : X.calm = true) : CallR X (.type "set") (rSetN X.K X.w) := by
  intro pins s σ H vs us Q I r h
  obtain ⟨l, ns, rfl, hs, h60, q⟩ := h
  rw [Vals.ref1 r]
  have fresh : H s.heap.objs.size = none := I.hok.fresh (Nat.le_refl _)
  rcases hs with hs | hs
  · obtain ⟨its, rv, pl, _⟩ := I.list hs
    have are : IntsAre its ns := by simpa using rv.ints
    have size : its.toArray.size = ns.length := by rw [List.size_toArray, are.length]
    refine set_of_list (I.ok.hd hc) pl.isList (fun i h => ∃ c, c ≤ i ∧ SetR X.w h s.heap.objs.size (fun j => decide (j ∈ ns.take i)) c) (fun h e _ => ⟨0, Nat.le_refl _, setR_new_at e⟩) (fun i h h' hJ k _ => ?_) (fun i v s1 R E hi hv hJ _ hR => ?_) (fun h tk hJ keep => ?_)
    · obtain ⟨c, c1, c2⟩ := hJ
      exact ⟨c, c1, c2.at k⟩
    · obtain ⟨c, c1, c2⟩ := hJ
      have hil : i < ns.length := by rw [← size]; exact hi
      obtain ⟨t, e⟩ := PyProof.Rows.IntsAre.int_at are i v (by simpa using hv)
      rw [List.getD_eq_getElem?_getD, List.getElem?_eq_getElem hil] at e
      subst e
      unfold setAdd
      refine wpAny_holding (wpAny_bind ((intKind X.prog X.w).pyHash (k := ns[i]) (intKind_is _ _ _ _) ?_))
      refine setR_add_hashed (s := { s1 with toks := s1.toks + 1 }) c2 (by unfold scanBound; omega) fun h' sb r => ?_
      refine hR _ h' (s1.toks + 1) (Nat.le_succ _) sb ⟨_, ?_, r.congr fun j => ?_⟩
      · split <;> omega
      · have et : ns.take (i + 1) = ns.take i ++ [ns[i]] := by
          rw [List.take_add_one, List.getElem?_eq_getElem hil]
          rfl
        rw [et]
        show decide (j ∈ ns.take i ++ [ns[i]]) = (decide (j ∈ ns.take i) || decide (j = ns[i]))
        by_cases m : j ∈ ns.take i
        · rw [decide_eq_true m, decide_eq_true (List.mem_append_left _ m)]
          rfl
        · rw [decide_eq_false m, Bool.false_or]
          by_cases e : j = ns[i]
          · rw [decide_eq_true e, decide_eq_true (List.mem_append_right _ (by rw [e]; exact List.mem_singleton.mpr rfl))]
          · rw [decide_eq_false e, decide_eq_false (fun z => (List.mem_append.mp z).elim m fun y => e (List.mem_singleton.mp y))]
    · obtain ⟨c, c1, c2⟩ := hJ
      rw [size] at c1 c2
      rw [List.take_length] at c2
      exact ⟨.ref s.heap.objs.size, _, I.laid (t' := tk) keep (Nat.le_refl _) (setO_new c2), rfl, q _ c fresh c1⟩
  · obtain ⟨its, rv, pl, _⟩ := I.tuple hs
    have are : IntsAre its ns := by simpa using rv.ints
    refine call_set_tupI ns (I.ok.hd hc) (show s.heap.IsTuple l its.toArray from pl) (by simpa using are) (by unfold scanBound; omega) fun h tk c c2 c1 keep => ?_
    exact ⟨.ref s.heap.objs.size, _, I.laid (t' := tk) keep (Nat.le_refl _) (setO_new c2), rfl, q _ c fresh c1⟩
end
/-- sorted(set of ints): the members, ascending -/
theorem sortedN {w : World} {H : Hp} {a : Addr} {ns : List Int} {n : Nat} {Q : VK} (h : H a = some (SetO w a (fun j => decide (j ∈ ns)) n)) (hn : n < 64)
    (q : ∀ (ms : List Int) p H', Same H H' → H' p = some (.lst (ms.map V.int)) → ms.Pairwise (· < ·) → (∀ k, k ∈ ms ↔ k ∈ ns) → Q (.ref p) H') : rSortedSet w [.ref a] H Q :=
  ⟨a, _, n, rfl, h, hn, fun ms p asc mem _ np => q ms p _ (same_new np) upd_same asc fun k => (mem k).trans (by simp)⟩

/-! ### sets of tuples of ints -/
def Set3 (P : Program) (w : World) (a : Addr) (L : List (Addr × List Int)) : HO := .ext fun h => ∃ es ep t, Held P w h a L es ep t
theorem held_at {P : Program} {w : World} {h h' : Heap} {a : Addr} {L : List (Addr × List Int)} {es : Array (Int × Value)} {ep : Nat} {t : SetTable} (R : Held P w h a L es ep t) (k : ∀ o, h.get? a = some o → h'.get? a = some o) : Held P w h' a L es ep t := by
  obtain ⟨o, ho, r⟩ := R.obj
  exact ⟨⟨o, k o ho, r⟩, R.rows, R.tab, R.uniq, R.plain, R.led, R.room⟩
theorem set3_ok {P : Program} {w : World} {H : Hp} {h : Heap} {a : Addr} {L : List (Addr × List Int)} {es : Array (Int × Value)} {ep : Nat} {t : SetTable} (R : Held P w h a L es ep t) : ObjOk P w H h a (Set3 P w a L) := by
  obtain ⟨o, ho, _⟩ := R.obj
  refine ⟨⟨es, ep, t, R⟩, ⟨o, ho⟩, fun h1 h2 p k => ?_⟩
  obtain ⟨es', ep', t', R'⟩ := p
  exact ⟨es', ep', t', held_at R' k⟩
theorem held_new {P : Program} {w : World} {h : Heap} {a : Addr} (ho : h.get? a = some (bare w)) : Held P w h a [] #[] 0 (.fresh 0 0 (!w.params.followText "set-order")) :=
  Held.of (setTR_fresh ho)
/-- what has come of the first i -/
structure Come (ts : List (Addr × List Int)) (i : Nat) (L : List (Addr × List Int)) : Prop where
  sub : ∀ p ∈ L, p ∈ ts
  all : ∀ p ∈ ts.take i, p.2 ∈ L.map (·.2)
  len : L.length ≤ i
theorem Come.next {ts L L' : List (Addr × List Int)} {i : Nat} {x : Addr × List Int} (c : Come ts i L) (hx : ts[i]? = some x) (old : x.2 ∈ L.map (·.2) → L' = L) (new : x.2 ∉ L.map (·.2) → L'.Perm (x :: L)) : Come ts (i + 1) L' := by
  have et : ts.take (i + 1) = ts.take i ++ [x] := by
    rw [List.take_add_one, hx]
    rfl
  by_cases m : x.2 ∈ L.map (·.2)
  · rw [old m]
    refine ⟨c.sub, fun p hp => ?_, Nat.le_succ_of_le c.len⟩
    rw [et] at hp
    rcases List.mem_append.mp hp with hp | hp
    · exact c.all p hp
    · rw [List.mem_singleton.mp hp]
      exact m
  · have pm := new m
    refine ⟨fun p hp => ?_, fun p hp => ?_, ?_⟩
    · rcases List.mem_cons.mp (pm.mem_iff.mp hp) with e | hp
      · rw [e]
        exact List.mem_of_getElem? hx
      · exact c.sub p hp
    · rw [(pm.map (·.2)).mem_iff, List.map_cons]
      rw [et] at hp
      rcases List.mem_append.mp hp with hp | hp
      · exact List.mem_cons_of_mem _ (c.all p hp)
      · rw [List.mem_singleton.mp hp]
        exact List.mem_cons_self
    · rw [pm.length_eq, List.length_cons]
      exact Nat.succ_le_succ c.len
def rSet3 (K : PySem.W.Frag) (P : Program) (w : World) : List V → Hp → VK → Prop := fun vs H Q => ∃ (l : Addr) (ts : List (Addr × List Int)), vs = [.ref l] ∧ SqL K H l (ts.map fun p => V.ref p.1) ∧ (∀ p ∈ ts, SqT K H p.1 (p.2.map V.int)) ∧ ts.length ≤ 76 ∧
  ∀ a L, H a = none → (∀ p ∈ L, p ∈ ts) → (∀ p ∈ ts, p.2 ∈ L.map (·.2)) → (L.map (·.2)).Nodup → Q (.ref a) (upd H a (Set3 P w a L))
def rSorted3 (K : PySem.W.Frag) (P : Program) (w : World) : List V → Hp → VK → Prop := fun vs H Q => ∃ (a : Addr) (L : List (Addr × List Int)), vs = [.ref a] ∧ H a = some (Set3 P w a L) ∧ (∀ p ∈ L, SqT K H p.1 (p.2.map V.int) ∧ p.2 ≠ []) ∧
  ∀ (us : List (Addr × List Int)) (p : Addr), us.Perm L → (us.map (·.2)).Pairwise (fun x y => HT.lexLt y x = false) → (L.map (·.2)).Nodup → H p = none → Q (.ref p) (upd H p (.lst (us.map fun q => V.ref q.1)))
section
variable {X : Cx}
theorem cr_set3 (hc : X.calm = true) (hu : X.A.units + 64 < cLine) : CallR X (.type "set") (rSet3 X.K X.prog X.w) := by
  intro pins s σ H vs us Q I r h
  obtain ⟨l, ts, rfl, hs, ht, h76, q⟩ := h
  rw [Vals.ref1 r]
  have fresh : H s.heap.objs.size = none := I.hok.fresh (Nat.le_refl _)
  obtain ⟨its, rv, pl, _⟩ := I.list hs
  have eits := W2.refs_vals rv
  subst eits
  have size : (ts.map fun p => Value.ref p.1).toArray.size = ts.length := by rw [List.size_toArray, List.length_map]
  refine set_of_list (I.ok.hd hc) pl.isList (fun i h => ∃ L es ep t, Held X.prog X.w h s.heap.objs.size L es ep t ∧ Come ts i L) (fun h e _ => ⟨[], _, _, _, held_new e, fun p z => (List.not_mem_nil z).elim, fun p z => (List.not_mem_nil z).elim, Nat.le_refl _⟩)
    (fun i h h' hJ k _ => ?_) (fun i v s1 R E hi hv hJ keep hR => ?_) (fun h tk hJ keep => ?_)
  · obtain ⟨L, es, ep, t, c1, c2⟩ := hJ
    exact ⟨L, es, ep, t, held_at c1 k, c2⟩
  · obtain ⟨L, es, ep, t, c1, c2⟩ := hJ
    have hil : i < ts.length := by rw [← size]; exact hi
    have ex : ts[i]? = some ts[i] := List.getElem?_eq_getElem hil
    have ev : v = .ref ts[i].1 := by
      have hv' : (ts.map fun p => Value.ref p.1)[i]? = some v := by simpa using hv
      rw [List.getElem?_map, ex] at hv'
      exact (Option.some.inj hv').symm
    have isT : ∀ p ∈ ts, IsT X.prog X.w s1.heap p.2 p.1 := fun p hp => isT_keep (I.isT (ht p hp)) keep
    rw [ev]
    unfold setAdd
    refine wpAny_holding (wpAny_bind (wpAny_pyHash_tuple (by show X.A.units + 1 + 1 + 1 < cLine; omega) (isT _ (List.getElem_mem hil)) ?_))
    refine add3 (s := { s1 with toks := s1.toks + (ts[i].2.length + 1) }) c1 (fun p hp => isT p (c2.sub p hp)) (isT _ (List.getElem_mem hil)) (by show X.A.units + 1 + 1 + 1 < cLine; omega) (by have := c2.len; omega) fun b h' L' es' ep' t' sb held old new => ?_
    exact hR b h' _ (Nat.le_add_right _ _) sb ⟨L', es', ep', t', held, c2.next ex old new⟩
  · obtain ⟨L, es, ep, t, c1, c2⟩ := hJ
    rw [size] at c2
    refine ⟨.ref s.heap.objs.size, _, I.laid (t' := tk) keep (Nat.le_refl _) (set3_ok c1), rfl, q _ L fresh c2.sub (fun p hp => c2.all p ?_) c1.uniq⟩
    rw [List.take_length]
    exact hp
theorem cr_sorted3 (hc : X.calm = true) : CallR X (.builtin "sorted") (rSorted3 X.K X.prog X.w) := by
  intro pins s σ H vs us Q I r h
  obtain ⟨a, L, rfl, ha, ht, q⟩ := h
  obtain ⟨es, ep, t, R⟩ := (show ∃ es ep t, Held X.prog X.w s.heap a L es ep t from (I.hok a _ ha).1)
  rw [Vals.ref1 r]
  obtain ⟨o, ho, ex, hd⟩ := R.obj
  have n1 := R.many
  have n2 := R.most
  have nodupL : L.Nodup := L2.nodup_of_map R.uniq
  refine Calls.call_function_entry kind_sorted plain_sorted entry_sorted (args_sorted1 _) ?_
  unfold Builtin.«sorted»
  refine wpAny_bind (m := checkCount "sorted" 1 1 _) (wpAny_pure ?_)
  refine wpAny_bind (collect_set (A := X.A.in1) (by exact I.ok.hd hc) ⟨o, ho, ex.1, hd⟩ R.fits (by unfold scanBound; omega) R.tab.ris R.led fun s1 vs k1 hz g1 o1 pm => ?_)
  have vals0 : es.toList.map (·.2) = L.map fun p => Value.ref p.1 := by
    rw [R.rows]
    show (L.map _).map _ = _
    rw [List.map_map]
    rfl
  rw [vals0] at pm
  -- the tuples in the order of the table
  obtain ⟨L1, pL, eL⟩ : ∃ L1 : List (Addr × List Int), L1.Perm L ∧ vs = L1.map fun p => Value.ref p.1 := by
    have key : ∀ p ∈ L, ∀ r ∈ L, p.1 = r.1 → p = r := by
      intro p hp r hr e
      have a1 := I.isT (ht p hp).1
      have a2 := I.isT (ht r hr).1
      rw [e] at a1
      exact Prod.ext e (a1.inj a2)
    let f : Value → Addr × List Int := fun v => (L.find? fun p => decide (Value.ref p.1 = v)).getD (0, [])
    have hf : ∀ p ∈ L, f (.ref p.1) = p := by
      intro p hp
      have some' : ((L.find? fun r => decide (Value.ref r.1 = Value.ref p.1))).isSome = true := by
        rw [List.find?_isSome]
        exact ⟨p, hp, decide_eq_true rfl⟩
      obtain ⟨r, hr⟩ := Option.isSome_iff_exists.mp some'
      have h1 := List.find?_some hr
      have h2 := List.mem_of_find?_eq_some hr
      show (L.find? _).getD (0, []) = p
      rw [hr]
      have h3 : r.1 = p.1 := by
        have h4 := of_decide_eq_true h1
        injection h4
      exact key r h2 p hp h3
    refine ⟨vs.map f, ?_, ?_⟩
    · have h1 := pm.map f
      have h2 : (L.map fun p => Value.ref p.1).map f = L := by
        rw [List.map_map]
        conv => rhs; rw [← List.map_id L]
        exact List.map_congr_left fun p hp => hf p hp
      rw [h2] at h1
      exact h1
    · rw [List.map_map]
      conv => lhs; rw [← List.map_id vs]
      refine List.map_congr_left fun v hv => ?_
      obtain ⟨p, hp, rfl⟩ := List.mem_map.mp (pm.mem_iff.mp hv)
      show Value.ref p.1 = Value.ref (f (.ref p.1)).1
      rw [hf p hp]
  subst eL
  have len1 : L1.length ≤ 76 := by rw [pL.length_eq]; exact n2
  refine wpAny_bind (wpAny_newList ?_ (by rw [List.length_map, sizeLine_eq]; omega))
  have hoL : (s1.heap.push (seqObj "list" (L1.map fun p => Value.ref p.1).toArray 0)).get? s1.heap.objs.size = some (seqObj "list" (L1.map fun p => Value.ref p.1).toArray 0) := Heap.get?_push_size _ rfl
  have raw : ∀ p ∈ L1, PyProof.Rows.G.tupKeyC (s1.heap.push (seqObj "list" (L1.map fun p => Value.ref p.1).toArray 0)) nums (.ref p.1) = some (p.2.map Sum.inl) ∧ ∃ f, PyProof.Rows.TupOf (s1.heap.push (seqObj "list" (L1.map fun p => Value.ref p.1).toArray 0)) nums (.ref p.1) f := by
    intro p hp
    have hpL := pL.mem_iff.mp hp
    obtain ⟨o2, xs, n, ho2, hc2, hd2, hi2⟩ := tup_raw I (ht p hpL).1
    exact raw_of (Heap.get?_push_of_some _ (k1 _ _ ho2)) hc2 hd2 hi2 (ht p hpL).2
  obtain ⟨fs, hfs⟩ := firsts_of fun p hp => (raw p hp).2
  refine wpAny_bind (wpAny_holding (wpAny_call_entry slot_list_sort ⟨_, hoL, rfl⟩ entry_list_sort
    (PyProof.Rows.G.list_sort_tups (s := { s1 with heap := s1.heap.push (seqObj "list" (L1.map fun p => Value.ref p.1).toArray 0) }) hoL hfs (fun v hv => ?_) (by rw [List.length_map, sizeLine_eq]; omega) fun st pm2 srt stb => ⟨_, rfl, ?_⟩) (args_list_sort _)))
  · obtain ⟨p, hp, rfl⟩ := List.mem_map.mp hv
    exact ⟨_, (raw p hp).1⟩
  · generalize arrOf st = xs at pm2 srt stb
    obtain ⟨us, pmu, vals, srt'⟩ := sort_back (fun p hp => (raw p hp).1) pm2 srt
    obtain ⟨c, hc2⟩ := sortedHeap_at (vs := L1.map fun p => Value.ref p.1) (out := xs.map (·.2)) hoL
    have kept : ∀ b u, s.heap.get? b = some u → (sortedHeap (s1.heap.push (seqObj "list" (L1.map fun p => Value.ref p.1).toArray 0)) s1.heap.objs.size (L1.map fun p => Value.ref p.1) (xs.map (·.2))).get? b = some u := by
      intro b u e
      have e1 := k1 b u e
      have lt := Heap.lt_size e1
      rw [sortedHeap_old (Nat.ne_of_lt lt) (by rw [size_push']; exact Nat.lt_succ_of_lt lt)]
      exact Heap.get?_push_of_some _ e1
    have fresh : H s1.heap.objs.size = none := I.hok.fresh hz
    have hv : Vals (us.map fun q => V.ref q.1) (xs.map (·.2)).toList := by
      rw [Array.toList_map, ← vals]
      exact vals_refs us
    have hlen : (us.map fun q => V.ref q.1).length ≤ sizeLine := by
      rw [List.length_map, pmu.length_eq, sizeLine_eq]
      omega
    obtain ⟨h1, g', d', t', o'⟩ := s1
    obtain rfl : g' = s.gens := g1
    obtain rfl : o' = s.os := o1
    have J := I.call (g' := s.gens) (d' := d') (t' := t') (ch := []) (Un.laid kept hz fresh) (I.hok.laid (o := .lst (us.map fun q => V.ref q.1)) kept hz ⟨hlen, _, c, hv, by rw [Array.toArray_toList]; exact hc2⟩) I.bare (fun _ z => nomatch z)
    exact wpAny_pure ⟨_, rfl, .ref h1.objs.size, _, J, rfl, q us _ (pmu.trans pL) srt' R.uniq fresh⟩
theorem cr_setNK {K : PySem.W.Frag} {w : World} (hc : X.calm = true) (hK : X.K = K := by rfl) (hw : X.w = w := by rfl) : CallR X (.type "set") (rSetN K w) := by
  subst hK
  subst hw
  exact cr_setN hc
theorem cr_sortedNK {w : World} (hc : X.calm = true) (hw : X.w = w := by rfl) : CallR X (.builtin "sorted") (rSortedSet w) := by
  subst hw
  exact cr_sortedSet hc
theorem cr_set3K {K : PySem.W.Frag} {P : Program} {w : World} (hc : X.calm = true) (hu : X.A.units + 64 < cLine) (hK : X.K = K := by rfl) (hP : X.prog = P := by rfl) (hw : X.w = w := by rfl) : CallR X (.type "set") (rSet3 K P w) := by
  subst hK
  subst hP
  subst hw
  exact cr_set3 hc hu
theorem cr_sorted3K {K : PySem.W.Frag} {P : Program} {w : World} (hc : X.calm = true) (hK : X.K = K := by rfl) (hP : X.prog = P := by rfl) (hw : X.w = w := by rfl) : CallR X (.builtin "sorted") (rSorted3 K P w) := by
  subst hK
  subst hP
  subst hw
  exact cr_sorted3 hc
end
end W5

/-! W6: {elt for target in iter if ..}, elt a tuple of ints. -/
namespace W6
open PySem PySem.Spec PyProof.Rows L2 W1 W2 W3 W4 W5

def tSc3 (K : PySem.W.Frag) (P : Program) (w : World) (wi : TI) (g : TG) (tt : TT) (te : TE) (vs : List Nat) : TE := fun σ H Q => wi σ H fun J H1 => ∀ D, H1 D = none → ∃ W : Nat → Nat → Hp → Prop, (∃ m, W 0 m (upd H1 D (Set3 P w D []))) ∧ ∀ i m H, W i m H →
  (J.stop i H ∧ Q (.ref D) H) ∨ (J.go i H ∧ ∃ Nx : Hp → Prop, (∀ H', Nx H' → ∃ m', m' < m ∧ W (i + 1) m' H') ∧ ∀ x H', J.yld i H x H' → g x (wipe σ vs) H' fun σ2 H2 => wipe σ2 vs = wipe σ vs ∧ tt σ2 H2 fun b H3 =>
    if b = true then te σ2 H3 fun y H4 => ∃ (p : Addr) (k : List Int) (L : List (Addr × List Int)), y = .ref p ∧ SqT K H4 p (k.map V.int) ∧ H4 D = some (Set3 P w D L) ∧ (∀ q ∈ L, SqT K H4 q.1 (q.2.map V.int)) ∧ L.length < 76 ∧
      ∀ L', (k ∈ L.map (·.2) → L' = L) → (k ∉ L.map (·.2) → L'.Perm ((p, k) :: L)) → (L'.map (·.2)).Nodup → Nx (upd H4 D (Set3 P w D L'))
    else Nx H3)
section
variable {X : Cx} {pins : List (Addr × Obj)} {σ : L2.St} {H : Hp} {s : Shared}
/-- set.add of a tuple -/
theorem add_ok {E : Value → Shared → Prop} {D p : Addr} {k : List Int} {L : List (Addr × List Int)} {Q : Value → Shared → Prop} (I : Inv X pins σ H s) (hu : X.A.units + 64 < cLine) (hD : H D = some (Set3 X.prog X.w D L)) (hp : SqT X.K H p (k.map V.int)) (hL : ∀ q ∈ L, SqT X.K H q.1 (q.2.map V.int)) (h76 : L.length < 76)
    (h : ∀ L' s', (k ∈ L.map (·.2) → L' = L) → (k ∉ L.map (·.2) → L'.Perm ((p, k) :: L)) → (L'.map (·.2)).Nodup → Inv X pins σ (upd H D (Set3 X.prog X.w D L')) s' → Q .none s') :
    wpAny (model X.prog X.w) X.A (call (.builtin "set.add") [.ref D, .ref p]) Q E s := by
  obtain ⟨es, ep, t, R⟩ := (show ∃ es ep t, Held X.prog X.w s.heap D L es ep t from (I.hok D _ hD).1)
  obtain ⟨o, ho, ex, hd⟩ := id R.obj
  have ty : s.TypeIs (.ref D) "set" := ⟨o, ho, ex.1⟩
  refine wpAny_call_entry F.slot_set_add ty F.entry_set_add ?_ (F.args_set_add_2 _ _)
  unfold Builtin.«set.add» Builtin.Frozenset.oneOther
  simp only [List.isEmpty_nil, bind_assoc]
  unfold Builtin.Frozenset.addrOf setAdd
  refine wpAny_bind (wpAny_pure ?_)
  try dsimp only
  refine wpAny_bind (wpAny_pure ?_)
  try dsimp only
  refine wpAny_bind (wpAny_holding (wpAny_bind (wpAny_pyHash_tuple (by first | (show X.A.units + 1 < cLine; omega) | (show X.A.units + 1 + 1 < cLine; omega)) (I.isT hp) ?_)))
  refine add3 (s := { s with toks := s.toks + (k.length + 1) }) R (fun q hq => I.isT (hL q hq)) (I.isT hp) (by first | (show X.A.units + 1 < cLine; omega) | (show X.A.units + 1 + 1 < cLine; omega)) h76 fun b h' L' es' ep' t' sb R' old new => ?_
  have there : ∃ u, h'.get? D = some u := by
    obtain ⟨o', ho', _⟩ := R'.obj
    exact ⟨o', ho'⟩
  show wpAny _ _ (ret Value.none) _ _ _
  refine wpAny_pure ⟨_, rfl, h L' _ old new R'.uniq ?_⟩
  exact I.write (e := D) (t' := s.toks + (k.length + 1)) (by rw [hD]; trivial) (.inl rfl) (fun b u hb hu => (sb.2 b hb).trans hu) there (set3_ok R')

theorem pe_sc3 {elt tg iter : Expr} {ifs : List Expr} {scope : Scope} {own : List (Str × Nat)} {pos : Pos} {wi : TI} {g : TG} {tt : TT} {te : TE} (hu : X.A.units + 64 < cLine) (hc : X.calm = true) (hN : X.N.Nodup) (hi : PI X tg iter wi) (ok : BlkOk X.N X.env.scope scope own)
    (hg : ∀ (s : Shared) (H : Hp) (C : Addr) (cl : List (Str × Addr)) (fp : List Addr), PG (X.blk s H scope (compEnvC scope cl C X.env) fp) tg g) (ht : ∀ (s : Shared) (H : Hp) (C : Addr) (cl : List (Str × Addr)) (fp : List Addr), PTs (X.blk s H scope (compEnvC scope cl C X.env) fp) ifs tt)
    (he : ∀ (s : Shared) (H : Hp) (C : Addr) (cl : List (Str × Addr)) (fp : List Addr), PE (X.blk s H scope (compEnvC scope cl C X.env) fp) elt te) (hs : ∀ x, foldedSetIterable iter X.env x = pure x := by intro _; rfl) :
    PE X (.SetComp elt [⟨tg, iter, ifs, 0⟩] scope pos) (tSc3 X.K X.prog X.w wi g tt te (own.map (·.2))) := by
  refine ⟨fun pins s σ H Q I h => ?_⟩
  rw [PpSet.eval_SetComp]
  have captured : ∀ y ∈ scope.names, y.2 = .free → ∃ c, X.env.cells.lookup y.1 = some c := fun y hy e => (ok.free y hy e).elim (fun k => I.ok.has _ (.inl k)) fun k => I.ok.has _ (.inr k)
  refine wpAny_comprehension_free (use := none) rfl hs (closure_ok captured) ok.kind (fun y hy e => by rw [ok.uniq y hy, e]) (thn (hi.run pins s σ H _ I h) fun _ s1 h1 => thn h1 fun _ s2 h2 => ?_)
  obtain ⟨it, fp, tn, J, H2, rfl, I2, T, st2, f2, q⟩ := h2
  refine PpSet.newSet_ok (newEnv_comp ?_)
  -- the new set at D
  generalize eD : s2.heap.objs.size = D
  obtain ⟨W, ⟨m0, w0⟩, turn⟩ := q D (I2.hok.fresh (Nat.le_of_eq eD))
  generalize e3 : ({ s2 with heap := s2.heap.push (bare X.w) } : Shared) = s3
  have h3 : s3.heap = s2.heap.push (bare X.w) := by rw [← e3]
  have I3 : Inv X pins σ (upd H2 D (Set3 X.prog X.w D [])) s3 := by
    rw [← e3]
    refine I2.laid (t' := s2.toks) (fun b o e => Heap.get?_push_of_some _ e) (Nat.le_of_eq eD) (set3_ok (held_new ?_))
    rw [← eD]
    exact Heap.get?_push_size _ rfl
  have below : ∀ b ∈ fp, b < s2.heap.objs.size := fun b hb => by
    obtain ⟨o, e, _⟩ := T.obj _ _ st2 b hb
    exact Heap.lt_size e
  have f3 : ∀ b ∈ fp, FpOk X pins (upd H2 D (Set3 X.prog X.w D [])) b ∧ b < s3.heap.objs.size := fun b hb => by
    have lt := below b hb
    refine ⟨⟨?_, (f2 b hb).2⟩, ?_⟩
    · rw [upd_ne (by rw [← eD]; exact Nat.ne_of_lt lt)]
      exact (f2 b hb).1
    · rw [h3, Heap.size_push]
      exact Nat.lt_succ_of_lt lt
  have st3 : tn 0 s3.heap := T.keep _ _ _ st2 fun b _ o e => by
    rw [h3]
    exact Heap.get?_push_of_some _ e
  have I4 := block_start I3 ok hN f3
  have pg := hg s3 (upd H2 D (Set3 X.prog X.w D [])) s3.heap.objs.size (cellsFrom (s3.heap.objs.size + 1) scope.names (cloFrom X.env.cells scope.names [])) fp
  have pt := ht s3 (upd H2 D (Set3 X.prog X.w D [])) s3.heap.objs.size (cellsFrom (s3.heap.objs.size + 1) scope.names (cloFrom X.env.cells scope.names [])) fp
  have pe := he s3 (upd H2 D (Set3 X.prog X.w D [])) s3.heap.objs.size (cellsFrom (s3.heap.objs.size + 1) scope.names (cloFrom X.env.cells scope.names [])) fp
  show codeAny _ _ (.compStart (.SetComp elt [⟨tg, iter, ifs, 0⟩] scope pos) 0 (.ref it) (.ref D) (compEnvC scope (cellsFrom (s3.heap.objs.size + 1) scope.names (cloFrom X.env.cells scope.names [])) s3.heap.objs.size X.env)) (compPost (model X.prog X.w) X.A X.xe none (EP X pins σ Q) (.ref D) s3.heap.objs.size) { s3 with heap := pushCells (s3.heap.push { cls := .type "dict", data := .dict #[] }) scope.names }
  have n3 : ∀ b ∈ fp, (upd H2 D (Set3 X.prog X.w D [])) b = none := fun b hb => (f3 b hb).1.1
  generalize eB : compEnvC scope (cellsFrom (s3.heap.objs.size + 1) scope.names (cloFrom X.env.cells scope.names [])) s3.heap.objs.size X.env = cenv at I4 pg pt pe ⊢
  have locals : cenv.locals = s3.heap.objs.size := by rw [← eB]; rfl
  generalize eH : upd H2 D (Set3 X.prog X.w D []) = H3 at I3 I4 pg pt pe w0 n3 f3
  generalize e4 : ({ s3 with heap := pushCells (s3.heap.push { cls := .type "dict", data := .dict #[] }) scope.names } : Shared) = s4 at I4 ⊢
  have st4 : tn 0 s4.heap := T.keep _ _ _ st3 fun b _ o e => by
    rw [← e4]
    exact pushCells_keeps _ _ _ _ (Heap.get?_push_of_some _ e)
  have still : ∀ {σ' : L2.St} {H' : Hp} {s' : Shared}, Inv (X.blk s3 H3 scope cenv fp) [] σ' H' s' → (∀ b ∈ fp, H' b = none) → ∀ b ∈ fp, FpOk (X.blk s3 H3 scope cenv fp) [] H' b := by
    intro σ' H' s' I' hn b hb
    refine ⟨hn b hb, (I'.ok.exf b hb).1, I'.ok.exfs b hb, .inl hb, fun x c e => (I'.ok.exf b hb).2 x c e, fun p hp => ?_⟩
    have hp' : p ∈ ([] : List (Addr × Obj)) ++ [] := hp
    exact (List.not_mem_nil hp').elim
  have loop : codeAny (model X.prog X.w) X.A (.compLoop (.SetComp elt [⟨tg, iter, ifs, 0⟩] scope pos) 0 (.ref it) (.ref D) cenv) (compPost (model X.prog X.w) X.A X.xe none (EP X pins σ Q) (.ref D) s3.heap.objs.size) s4 := by
    refine PpSet.compLoopS_any (fun n s' => ∃ i H', Inv (X.blk s3 H3 scope cenv fp) [] (wipe σ (own.map (·.2))) H' s' ∧ tn i s'.heap ∧ (∀ b ∈ fp, H' b = none) ∧ W i n H') (fun n s5 h5 => ?_) m0 ⟨0, H3, I4, st4, n3, w0⟩
    obtain ⟨i, H5, I5, st5, n5, w5⟩ := h5
    rcases turn i n H5 w5 with ⟨stop, fin⟩ | ⟨go, Nx, hNx, step⟩
    · refine thnF (T.done (X.blk s3 H3 scope cenv fp) rfl rfl rfl hc i [] s5 _ H5 (fun _ _ => False) I5 (still I5 n5) st5 stop) fun r s6 h6 => ?_
      obtain ⟨rfl, I6⟩ := h6
      have I7 : Inv X pins σ H5 s6 := I3.call' (ch := fp) I6.os I6.base I6.hok I6.bare fun b hb => ⟨(f3 b hb).1.2.2.2.1, (f3 b hb).1.2.1, (f3 b hb).1.2.2.2.2.1, (f3 b hb).1.2.2.2.2.2⟩
      have free : H5 s3.heap.objs.size = none := by
        rw [← locals]
        exact I6.free
      obtain ⟨m, hn, _⟩ := I6.loc
      rw [show (X.blk s3 H3 scope cenv fp).env.locals = s3.heap.objs.size from locals] at hn
      obtain ⟨g0, g1, g2, g3, g4, g5⟩ := I3.fpOk (Nat.le_refl _) free
      exact ⟨m, hn, fun h'' sb => ⟨.ref D, H5, I7.turned (t' := s6.toks) (fun b o hb e => (sb.2 b hb).trans e) g0 g1 g3 g4 g5, rfl, fin⟩⟩
    · refine thnF (T.item (X.blk s3 H3 scope cenv fp) rfl rfl rfl hc i [] s5 _ H5 (fun _ _ => False) I5 (still I5 n5) st5 go) fun r s6 h6 => ?_
      obtain ⟨u, rfl, h6⟩ := h6
      refine thnF h6 fun _ s7 h7 => ?_
      obtain ⟨x, H7, I7, r7, y7, st7, n7⟩ := h7
      have I7' := I7.pinned (still I7 n7) (T.obj _ _ st7)
      refine thnF (pg.run _ s7 _ H7 x u _ I7' r7 (step x H7 y7)) fun _ s8 h8 => ?_
      obtain ⟨σ8, H8, I8, hw8, q8⟩ := h8
      refine thnF (pt.run _ s8 σ8 H8 _ I8 q8) fun b s9 h9 => ?_
      obtain ⟨H9, I9, q9⟩ := h9
      have again : ∀ {s' : Shared} {H' : Hp}, Inv (X.blk s3 H3 scope cenv fp) ([] ++ pinsAt fp s7.heap) σ8 H' s' → Nx H' → ∃ m, m < n ∧ ∃ i H', Inv (X.blk s3 H3 scope cenv fp) [] (wipe σ (own.map (·.2))) H' s' ∧ tn i s'.heap ∧ (∀ b ∈ fp, H' b = none) ∧ W i m H' := by
        intro s' H' I' nx
        obtain ⟨m', hm, w'⟩ := hNx H' nx
        have pinned : ∀ b ∈ fp, ∀ o, s7.heap.get? b = some o → s'.heap.get? b = some o ∧ H' b = none := fun b hb o e =>
          let z := I'.pin (b, o) (List.mem_append_right _ (List.mem_append_right _ (mem_pinsAt hb e)))
          ⟨z.1, z.2.1⟩
        have len : (wipe σ (own.map (·.2))).length = σ8.length := by rw [← hw8, wipe_length]
        refine ⟨m', hm, i + 1, H', (I'.unpinned (pins := [])).weak len (fun j v e => ?_), T.keep _ _ _ st7 fun b hb o e => (pinned b hb o e).1, fun b hb => ?_, w'⟩
        · rw [← hw8] at e
          exact (wipe_some e).1
        · obtain ⟨o, e, _⟩ := T.obj _ _ st7 b hb
          exact (pinned b hb o e).2
      cases b with
      | false =>
        simp only [Bool.false_eq_true, if_false] at q9 ⊢
        exact again I9 q9
      | true =>
        simp only [if_true] at q9 ⊢
        refine thnF (pe.run _ s9 σ8 H9 _ I9 q9) fun z s10 h10 => ?_
        obtain ⟨y, H10, I10, r10, p, k, L, rfl, hp, hD, hL, h76, nx⟩ := h10
        cases r10
        exact add_ok (X := X.blk s3 H3 scope cenv fp) I10 hu hD hp hL h76 fun L' s11 old new uniq I11 => again I11 (nx L' old new uniq)
  exact PpSet.codeAny_compStart_set loop (T.self X.A 0 _ _ _ st4 loop)
end
/-- its reading over anything walked -/
theorem sc_it {K : PySem.W.Frag} {P : Program} {w : World} {J : It} {n : Nat} {G : Hp → Prop} {Y : Nat → Hp → V → Hp → Prop} (wk : Walk J n G Y) {g : TG} {tt : TT} {te : TE} {vs : List Nat} {σ : L2.St} {H1 : Hp} {D : Addr} {Qd : Hp → Prop} (Pv : Nat → Hp → Prop) (h0 : Pv 0 (upd H1 D (Set3 P w D []))) (hG : ∀ i H, i ≤ n → Pv i H → G H)
    (hs : ∀ i x H H', i < n → Pv i H → Y i H x H' → g x (wipe σ vs) H' fun σ2 H2 => wipe σ2 vs = wipe σ vs ∧ tt σ2 H2 fun b H3 =>
      if b = true then te σ2 H3 fun y H4 => ∃ (p : Addr) (k : List Int) (L : List (Addr × List Int)), y = .ref p ∧ SqT K H4 p (k.map V.int) ∧ H4 D = some (Set3 P w D L) ∧ (∀ q ∈ L, SqT K H4 q.1 (q.2.map V.int)) ∧ L.length < 76 ∧
        ∀ L', (k ∈ L.map (·.2) → L' = L) → (k ∉ L.map (·.2) → L'.Perm ((p, k) :: L)) → (L'.map (·.2)).Nodup → Pv (i + 1) (upd H4 D (Set3 P w D L'))
      else Pv (i + 1) H3) (hd : ∀ H, Pv n H → Qd H) :
    ∃ W : Nat → Nat → Hp → Prop, (∃ m, W 0 m (upd H1 D (Set3 P w D []))) ∧ ∀ i m H, W i m H →
      (J.stop i H ∧ Qd H) ∨ (J.go i H ∧ ∃ Nx : Hp → Prop, (∀ H', Nx H' → ∃ m', m' < m ∧ W (i + 1) m' H') ∧ ∀ x H', J.yld i H x H' → g x (wipe σ vs) H' fun σ2 H2 => wipe σ2 vs = wipe σ vs ∧ tt σ2 H2 fun b H3 =>
        if b = true then te σ2 H3 fun y H4 => ∃ (p : Addr) (k : List Int) (L : List (Addr × List Int)), y = .ref p ∧ SqT K H4 p (k.map V.int) ∧ H4 D = some (Set3 P w D L) ∧ (∀ q ∈ L, SqT K H4 q.1 (q.2.map V.int)) ∧ L.length < 76 ∧
          ∀ L', (k ∈ L.map (·.2) → L' = L) → (k ∉ L.map (·.2) → L'.Perm ((p, k) :: L)) → (L'.map (·.2)).Nodup → Nx (upd H4 D (Set3 P w D L'))
        else Nx H3) := by
  refine ⟨fun i left H => left + i = n ∧ Pv i H, ⟨n, rfl, h0⟩, fun i left H hw => ?_⟩
  obtain ⟨e, p⟩ := hw
  cases left with
  | zero =>
    obtain rfl : i = n := by omega
    exact Or.inl ⟨wk.stops H (hG i H (Nat.le_refl _) p), hd H p⟩
  | succ left =>
    have hi : i < n := by omega
    have hg := hG i H (Nat.le_of_lt hi) p
    exact Or.inr ⟨wk.goes i H hi hg, Pv (i + 1), fun H' p' => ⟨left, Nat.lt_succ_self _, by omega, p'⟩, fun x H' y => hs i x H H' hi p (wk.yields i H x H' hi hg y)⟩
end W6

namespace K0
open PySem PySem.Spec PyProof.Rows L2 W0 W1 W2 W5 W6

/-! ### ascending lists -/
theorem asc_uniq {α : Type} {lt : α → α → Prop} (irr : ∀ a, ¬ lt a a) (tr : ∀ a b c, lt a b → lt b c → lt a c) : ∀ {l m : List α}, l.Pairwise lt → m.Pairwise lt → (∀ x, x ∈ l ↔ x ∈ m) → l = m
  | [], [], _, _, _ => rfl
  | [], b :: m, _, _, h => absurd ((h b).mpr List.mem_cons_self) List.not_mem_nil
  | a :: l, [], _, _, h => absurd ((h a).mp List.mem_cons_self) List.not_mem_nil
  | a :: l, b :: m, hl, hm, h => by
    obtain ⟨hl1, hl2⟩ := List.pairwise_cons.mp hl
    obtain ⟨hm1, hm2⟩ := List.pairwise_cons.mp hm
    have e : a = b := by
      rcases List.mem_cons.mp ((h a).mp List.mem_cons_self) with e | ma
      · exact e
      · rcases List.mem_cons.mp ((h b).mpr List.mem_cons_self) with e | mb
        · exact e.symm
        · exact absurd (tr _ _ _ (hl1 b mb) (hm1 a ma)) (irr a)
    subst e
    rw [asc_uniq irr tr hl2 hm2 fun x => ?_]
    constructor
    · intro hx
      rcases List.mem_cons.mp ((h x).mp (List.mem_cons_of_mem _ hx)) with e | hx'
      · rw [e] at hx
        exact absurd (hl1 a hx) (irr a)
      · exact hx'
    · intro hx
      rcases List.mem_cons.mp ((h x).mpr (List.mem_cons_of_mem _ hx)) with e | hx'
      · rw [e] at hx
        exact absurd (hm1 a hx) (irr a)
      · exact hx'
theorem ints_uniq {l m : List Int} (hl : l.Pairwise (· < ·)) (hm : m.Pairwise (· < ·)) (h : ∀ x, x ∈ l ↔ x ∈ m) : l = m := asc_uniq (fun a => Int.lt_irrefl a) (fun a b c => Int.lt_trans) hl hm h
theorem lt3_trans {a b c : T3} (h : lt3 a b) (g : lt3 b c) : lt3 a c := by
  have h1 := lt3_iff.mp h
  have h2 := lt3_iff.mp g
  exact lt3_iff.mpr (by omega)
theorem lt3_irr (a : T3) : ¬ lt3 a a := fun h => lt3_ne h rfl
theorem t3_uniq {l m : List T3} (hl : l.Pairwise lt3) (hm : m.Pairwise lt3) (h : ∀ x, x ∈ l ↔ x ∈ m) : l = m := asc_uniq lt3_irr (fun _ _ _ => lt3_trans) hl hm h
theorem asc_below {n : Nat} : ∀ {l : List Int} {a : Nat}, l.Pairwise (· < ·) → (∀ x ∈ l, (a : Int) ≤ x ∧ x < n) → l.length + a ≤ n ∨ l = []
  | [], _, _, _ => Or.inr rfl
  | x :: l, a, h, b => by
    obtain ⟨h1, h2⟩ := List.pairwise_cons.mp h
    have hx := b x List.mem_cons_self
    rcases asc_below (a := a + 1) h2 (fun y hy => ⟨by have := h1 y hy; omega, (b y (List.mem_cons_of_mem _ hy)).2⟩) with e | e
    · left
      rw [List.length_cons]
      omega
    · left
      rw [e]
      show 1 + a ≤ n
      omega
/-! ### where ways lead, as ascending lists -/
theorem mem_ledS {A : List T3} {w x e : Int} : e ∈ ledS A w x ↔ ∃ t ∈ A, ledF w x t = some e := List.mem_filterMap
theorem ledF_pos {w x e : Int} {t : T3} (h : 0 ≤ w) : ledF w x t = some e ↔ t = (w, x, e) := by
  unfold ledF
  rw [if_pos h]
  by_cases c : t.1 = w ∧ t.2.1 = x
  · rw [if_pos c]
    constructor
    · intro z
      exact T3.ext' c.1 c.2 (Option.some.inj z)
    · intro z
      rw [z]
  · rw [if_neg c]
    constructor
    · intro z
      cases z
    · intro z
      exact absurd ⟨by rw [z], by rw [z]⟩ c
theorem ledF_neg {w x e : Int} {t : T3} (h : ¬ 0 ≤ w) : ledF w x t = some e ↔ t = (-1 - w, e, x) := by
  unfold ledF
  rw [if_neg h]
  by_cases c : t.1 = -1 - w ∧ t.2.2 = x
  · rw [if_pos c]
    constructor
    · intro z
      exact T3.ext' c.1 (Option.some.inj z) c.2
    · intro z
      rw [z]
  · rw [if_neg c]
    constructor
    · intro z
      cases z
    · intro z
      exact absurd ⟨by rw [z], by rw [z]⟩ c
theorem ledF_turn (w x : Int) (t : T3) : ledF (-1 - w) x (turn t) = ledF w x t := by
  unfold ledF turn
  by_cases h : 0 ≤ w
  · rw [if_neg (by omega), if_pos h]
    have e : -1 - (-1 - w) = w := by omega
    rw [e]
  · rw [if_pos (by omega), if_neg h]
theorem ledS_asc {A : List T3} (asc : A.Pairwise lt3) (w x : Int) : (ledS A w x).Pairwise (· < ·) := by
  refine List.pairwise_filterMap.mpr (List.Pairwise.imp (fun {a b} hab y hy z hz => ?_) asc)
  have h := lt3_iff.mp hab
  by_cases c : 0 ≤ w
  · rw [(ledF_pos c).mp hy, (ledF_pos c).mp hz] at h
    dsimp only at h
    omega
  · rw [(ledF_neg c).mp hy, (ledF_neg c).mp hz] at h
    dsimp only at h
    omega
theorem ledS_in {n : Int} {A : List T3} (ok : WOk n A) {w x e : Int} (h : e ∈ ledS A w x) : 0 ≤ e ∧ e < n := by
  obtain ⟨t, ht, f⟩ := mem_ledS.mp h
  have i := ok.all t ht
  by_cases c : 0 ≤ w
  · rw [(ledF_pos c).mp f] at i
    exact ⟨i.e0, i.en⟩
  · rw [(ledF_neg c).mp f] at i
    exact ⟨i.f0, i.fn⟩
theorem ledS_few {n : Nat} {A : List T3} (ok : WOk n A) (w x : Int) : (ledS A w x).length ≤ n := by
  rcases asc_below (n := n) (a := 0) (ledS_asc ok.asc w x) (fun e h => ledS_in ok h) with e | e
  · exact e
  · rw [e]
    exact Nat.zero_le _
theorem ledS_turned {n : Int} {A B : List T3} (okA : WOk n A) (okB : WOk n B) (p : B.Perm (A.map turn)) (w x : Int) : ledS B (-1 - w) x = ledS A w x := by
  refine ints_uniq (ledS_asc okB.asc _ _) (ledS_asc okA.asc _ _) fun e => ?_
  rw [mem_ledS, mem_ledS]
  constructor
  · rintro ⟨t, ht, f⟩
    obtain ⟨s, hs, rfl⟩ := List.mem_map.mp (p.mem_iff.mp ht)
    exact ⟨s, hs, by rw [← ledF_turn]; exact f⟩
  · rintro ⟨s, hs, f⟩
    exact ⟨turn s, p.mem_iff.mpr (List.mem_map.mpr ⟨s, hs, rfl⟩), by rw [ledF_turn]; exact f⟩
theorem turned_back {n : Int} {A B C : List T3} (okA : WOk n A) (p : B.Perm (A.map turn)) (q : C.Perm (B.map turn)) (h : C.Pairwise lt3) : C = A := by
  refine t3_uniq h okA.asc fun t => ?_
  rw [q.mem_iff, List.mem_map]
  constructor
  · rintro ⟨s, hs, rfl⟩
    obtain ⟨r, hr, rfl⟩ := List.mem_map.mp (p.mem_iff.mp hs)
    exact hr
  · intro ht
    exact ⟨turn t, p.mem_iff.mpr (List.mem_map.mpr ⟨t, ht, rfl⟩), rfl⟩
/-! ### data that can be shown -/
theorem fine_tri {n : Int} {t : T3} (h : InW n t) (hn : n ≤ 200) : Fine 1 3 (dTri t) := by
  have h1 := h.k0
  have h2 := h.k2
  have h3 := h.f0
  have h4 := h.fn
  have h5 := h.e0
  have h6 := h.en
  refine Fine.tup (k := 0) (n := 0) (m := 3) (fun d hd => ?_) (Nat.le_refl _)
  obtain ⟨i, hi, rfl⟩ := List.mem_map.mp hd
  refine Fine.int ?_
  rcases List.mem_cons.mp hi with rfl | hi
  · omega
  rcases List.mem_cons.mp hi with rfl | hi
  · omega
  rw [List.mem_singleton.mp hi]
  omega
theorem fine_arr {n : Int} {A : List T3} (ok : WOk n A) : Fine 2 4000 (dArr A) := by
  refine Fine.tup (k := 1) (n := 3) (m := 1000) (fun d hd => ?_) (by rw [List.length_map]; exact ok.len)
  obtain ⟨t, ht, rfl⟩ := List.mem_map.mp hd
  exact fine_tri (ok.all t ht) ok.n2
theorem fine_web {n : Int} {A : List T3} (ok : WOk n A) : Fine 3 8002 (dWeb n A) := by
  have h1 := ok.n1
  have h2 := ok.n2
  refine Fine.tup (k := 2) (n := 4000) (m := 2) (fun d hd => ?_) (Nat.le_refl _)
  rcases List.mem_cons.mp hd with rfl | hd
  · exact (Fine.int (by omega)).mono (Nat.zero_le _) (Nat.zero_le _)
  · rw [List.mem_singleton.mp hd]
    exact fine_arr ok
theorem fine_ints' {l : List Int} (h : ∀ x ∈ l, 0 ≤ x ∧ x < 200) (hl : l.length ≤ 200) : Fine 1 200 (dInts l) := by
  refine Fine.tup (k := 0) (n := 0) (m := 200) (fun d hd => ?_) (by rw [List.length_map]; exact hl)
  obtain ⟨i, hi, rfl⟩ := List.mem_map.mp hd
  have := h i hi
  exact Fine.int (by omega)
theorem fine_led {n : Nat} {A : List T3} (ok : WOk n A) (w x : Int) : Fine 1 200 (dInts (ledS A w x)) := by
  have h2 := ok.n2
  refine fine_ints' (fun e h => ?_) (Nat.le_trans (ledS_few ok w x) (by omega))
  have := ledS_in ok h
  omega

section
variable {P : Program} {w : World} {K : PySem.W.Frag} {mg : Str → Option Value} {base : Heap}
def sp_like (K : PySem.W.Frag) : Sp := fun vs H Q _ => ∃ (x y : Addr) (d : PyData), vs = [.ref x, .ref y] ∧ Dp K H (.ref x) d ∧ Dp K H (.ref y) d ∧ Fine 20 (2 ^ 20) d ∧ Q (.bl true) H
theorem ok__law_like (T : Tops K w mg) : FnG P w K mg base 1 T.a__law_like T.fd__law_like p__law_like (sp_like K) := by
  have S := sc__law_like
  refine of_body T.F__law_like S (fun vs H Q E h => ?_) (fun cdv AA outer s H vs Q E hgd hr h => ?_)
  · obtain ⟨x, y, d, rfl, _⟩ := h
    rfl
  · obtain ⟨x, y, d, rfl, hx, hy, f, q⟩ := h
    refine ⟨_, (pss_one (ps_ret (pe_cmpR op_eq (pe_callB (call_repr hgd hr.units) (by rfl) T.m_repr (by decide +kernel) (pa_cons (pv 0) pa_nil)) (pe_callB (call_repr hgd hr.units) (by rfl) T.m_repr (by decide +kernel) (pa_cons (pv 1) pa_nil)) (nomark _)))), ?_⟩
    have hd : d.depth ≤ 50 := Nat.le_trans f.dep (by decide)
    refine ⟨.ref x, rfl, x, d, rfl, hx, f.vis, f.nod, hd, f.fits (Nat.le_refl _), .ref y, rfl, y, d, rfl, hy, f.vis, f.nod, hd, f.fits (Nat.le_refl _), rfl, ?_⟩
    rw [decide_eq_true rfl]
    exact q
end
end K0

namespace K0
open PySem PySem.Spec PyProof.Rows L2 W0 W1 W2 W5 W6
mutual
def noL : PyData → Bool
  | .list _ => false
  | .tuple ds => noLs ds
  | .dict _ => false
  | .none => true
  | .bool _ => true
  | .int _ => true
  | .str _ => true
def noLs : List PyData → Bool
  | [] => true
  | d :: ds => noL d && noLs ds
end
mutual
theorem dp_put {K : PySem.W.Frag} {H : Hp} {D : Addr} {acc : List V} {o : HO} (e : H D = some (.lst acc)) : ∀ (d : PyData) (v : V), noL d = true → Dp K H v d → Dp K (upd H D o) v d
  | .none, _, _, h => by cases h; exact .non
  | .bool b, _, _, h => by cases h; exact .bl b
  | .int i, _, _, h => by cases h; exact .int i
  | .str x, _, _, h => by cases h; exact .str x
  | .list ds, _, z, _ => Bool.noConfusion z
  | .tuple ds, _, z, h => by
    cases h with
    | tup hs ha => exact .tup (sqT_upd e hs) (dps_put e ds _ z ha)
  | .dict _, _, z, _ => Bool.noConfusion z
theorem dps_put {K : PySem.W.Frag} {H : Hp} {D : Addr} {acc : List V} {o : HO} (e : H D = some (.lst acc)) : ∀ (ds : List PyData) (vs : List V), noLs ds = true → DpAll K H vs ds → DpAll K (upd H D o) vs ds
  | [], _, _, h => by cases h; exact .nil
  | d :: ds, _, z, h => by
    have z1 := (Bool.and_eq_true _ _).mp z
    cases h with
    | cons h1 h2 => exact .cons (dp_put e d _ z1.1 h1) (dps_put e ds _ z1.2 h2)
end
mutual
theorem dp_mv {K : PySem.W.Frag} {H H' : Hp} (e : ∀ p xs, SqT K H p xs → SqT K H' p xs) : ∀ (d : PyData) (v : V), noL d = true → Dp K H v d → Dp K H' v d
  | .none, _, _, h => by cases h; exact .non
  | .bool b, _, _, h => by cases h; exact .bl b
  | .int i, _, _, h => by cases h; exact .int i
  | .str x, _, _, h => by cases h; exact .str x
  | .list ds, _, z, _ => Bool.noConfusion z
  | .tuple ds, _, z, h => by
    cases h with
    | tup hs ha => exact .tup (e _ _ hs) (dps_mv e ds _ z ha)
  | .dict _, _, z, _ => Bool.noConfusion z
theorem dps_mv {K : PySem.W.Frag} {H H' : Hp} (e : ∀ p xs, SqT K H p xs → SqT K H' p xs) : ∀ (ds : List PyData) (vs : List V), noLs ds = true → DpAll K H vs ds → DpAll K H' vs ds
  | [], _, _, h => by cases h; exact .nil
  | d :: ds, _, z, h => by
    have z1 := (Bool.and_eq_true _ _).mp z
    cases h with
    | cons h1 h2 => exact .cons (dp_mv e d _ z1.1 h1) (dps_mv e ds _ z1.2 h2)
end
theorem noL_arr : ∀ A : List T3, noLs (A.map dTri) = true
  | [] => rfl
  | t :: A => by
    show (true && noLs (A.map dTri)) = true
    rw [noL_arr A]
    rfl
theorem noL_web (n : Int) (A : List T3) : noL (dWeb n A) = true := by
  show (true && (noLs (A.map dTri) && true)) = true
  rw [noL_arr A]
  rfl
theorem web_x {K : PySem.W.Frag} {H H' : Hp} {st c l : Addr} {B : Nat} {v : V} {n : Int} {A : List T3} (h : StAt K H st c l B) (e : SameX st l H H') (d : Dp K H v (dWeb n A)) : Dp K H' v (dWeb n A) := dp_mv (fun _ _ q => sqT_x h e q) _ _ (noL_web n A) d
end K0

/-! V0: NAME.get(word, x) of a written dict; max(list of ints, default=d). -/
namespace V0
open PySem PySem.Spec PyProof.Rows L2 W1
/-! ### a written dict's get, the key being there -/
def tKGet (K : PySem.W.Frag) (w : World) (td ty tx : TE) : TE := fun σ H Q => td σ H fun x H1 => ∃ (a : Addr) (es : Array DictEntry) (n : Nat), x = .ref a ∧ KDict K w a es n ∧
  ty σ H1 fun y H2 => tx σ H2 fun _ H3 => ∃ (z : Str) (v : V), y = .str z ∧ KDct K w a z v ∧ Q v H3
theorem pe_kget {X : Cx} {o e f : Expr} {apos cpos : Pos} {td ty tx : TE} (ho : PE X o td) (he : PE X e ty) (hf : PE X f tx) (m : M2 X o "get" apos e f cpos) : PE X (.Call (.Attribute o "get" apos) [e, f] [] cpos) (tKGet X.K X.w td ty tx) := by
  constructor
  intro pins s σ H Q I h
  refine wpAny_Call_method m.base m.few m.line PySem.F.plainAttrs_dict PySem.F.slot_dict_get PySem.F.type_dict_get ?_
  refine thn (ho.run pins s σ H _ I h) fun u s1 hu => ?_
  obtain ⟨x, H1, I1, rx, a, es, n, ex, D, q1⟩ := hu
  subst ex
  cases (show u = Value.ref a from rx)
  have mp := PySem.W.mapOf_K (prog := X.prog) (w := X.w) I1.kIn D.at_ D.lit
  refine ⟨mp.typeIs, fun b q => ?_, ?_⟩
  · cases q
    obtain ⟨o1, es1, n1, g1, g2, g3⟩ := mp
    exact ⟨o1, g1, g2.2.1⟩
  rw [m.trees]
  refine Calls.callWith_builtin rfl (Calls.evalArgs_plain ?_)
  refine Calls.spliced_cons (thn (he.run pins s1 σ H1 _ I1 q1) fun iv s2 h2 => ?_)
  obtain ⟨y, H2, I2, ry, q2⟩ := h2
  refine Calls.spliced_cons (thn (hf.run pins s2 σ H2 _ I2 q2) fun fv s3 h3 => Calls.spliced_nil ?_)
  obtain ⟨z3, H3, I3, rz, z, v, ey, kd, q3⟩ := h3
  subst ey
  obtain ⟨t, rfl⟩ := (show ∃ t, iv = Value.str z t from ry)
  obtain ⟨es', n', u0, hl, hk, e0, ru⟩ := kd
  have mp3 := PySem.W.mapOf_K (prog := X.prog) (w := X.w) I3.kIn hl hk
  refine call_meetsIn PySem.F.slot_dict_get mp3.typeIs PySem.F.entry_dict_get (PySem.F.args_dict_get_3 _ _ _) (meets_dict_get_default (strKind X.prog X.w) a (strKind_is X.prog X.w z t) D.low fv) ⟨_, mp3, ?_⟩
  rw [PySem.W.find_K hl e0]
  exact ⟨v, H3, I3.tok _, ru, q3⟩

/-! ### max(list, default=d) -/
def maxOr (d : Int) : List Int → Int
  | [] => d
  | n :: r => r.foldl (fun a y => if a < y then y else a) n
theorem maxD_int : ∀ (r : List Int) (n : Int), PySem.W.maxD (.int n) (r.map PyData.int) = .int (r.foldl (fun a y => if a < y then y else a) n)
  | [], n => rfl
  | y :: r, n => by
    have e : PySem.W.maxD (.int n) ((y :: r).map PyData.int) = PySem.W.maxD (if PySem.W.dataLt (.int n) (.int y) then .int y else .int n) (r.map PyData.int) := rfl
    have l : PySem.W.dataLt (.int n) (.int y) = decide (n < y) := PySem.W.dataLt_int n y
    rw [e, l]
    by_cases h : n < y
    · rw [decide_eq_true h, if_pos rfl, maxD_int r y, List.foldl_cons, if_pos h]
    · rw [decide_eq_false h, if_neg (by decide), maxD_int r n, List.foldl_cons, if_neg h]
def rMaxOr (K : PySem.W.Frag) : List V → List V → Hp → VK → Prop := fun xs zs H Q => ∃ (a : Addr) (ns : List Int) (d : Int), xs = [.ref a] ∧ zs = [.int d] ∧ SqL K H a (ns.map V.int) ∧ Q (.int (maxOr d ns)) H
theorem reads_int {h : Heap} {v : Value} {m : Int} {bs : List Addr} (r : Reads h v (.int m) bs) : ∃ t, v = .int m t := by
  cases r
  exact ⟨_, rfl⟩
theorem cr_maxOr {X : Cx} (hc : X.calm = true) (hu : X.A.units + 64 < cLine) : CallRK X (.builtin "max") ["default"] (rMaxOr X.K) := by
  intro pins s σ H xs zs us ws Q I r1 r2 h
  obtain ⟨a, ns, d, rfl, rfl, hs, q⟩ := h
  obtain ⟨its, rv, hl, _⟩ := I.list hs
  rw [Vals.ref1 r1]
  obtain ⟨z, rfl, rz⟩ := r2.one
  obtain ⟨t, rfl⟩ := (show ∃ t, z = Value.int d t from rz)
  have rd := Dp.readsAll I (ns.map PyData.int) (ns.map V.int) its (dps_ints ns) rv
  obtain ⟨as, rd⟩ := rd
  have dep : PyData.depthAll (ns.map PyData.int) ≤ 0 := all_dep fun x hx => by
    obtain ⟨i, _, rfl⟩ := List.mem_map.mp hx
    exact Nat.le_refl _
  have alk : PySem.W.AlikeAll (ns.map PyData.int) := by
    refine ⟨fun x hx y hy => ?_, fun x hx e => ?_⟩
    · obtain ⟨i, _, rfl⟩ := List.mem_map.mp hx
      obtain ⟨j, _, rfl⟩ := List.mem_map.mp hy
      rfl
    · obtain ⟨i, _, rfl⟩ := List.mem_map.mp hx
      cases e
  refine PySem.W.max_list_default (I.ok.hd hc) hl.isList (by simpa using rd) alk (by omega) (fun e h' tk hk => ?_) (fun y ys i v h' tk bs e _ rv' hk => ?_)
  · have en : ns = [] := List.map_eq_nil_iff.mp e
    rw [en] at q
    exact ⟨.int d, H, I.kept hk, ⟨t, rfl⟩, q⟩
  · cases ns with
    | nil => cases e
    | cons n r =>
      obtain ⟨rfl, rfl⟩ := List.cons.inj e
      rw [maxD_int] at rv'
      obtain ⟨t', rfl⟩ := reads_int rv'
      exact ⟨.int _, H, I.kept hk, ⟨t', rfl⟩, q⟩
end V0

/-! S0: sayings as data. -/
namespace K0
open PySem PySem.Spec PyProof.Rows L2 W0 W1 W2 W5 W6 V0
inductive Say where
  | lt (i : Nat)
  | hr (j : Nat)
  | yes
  | no
  | nt (s : Say)
  | an (a b : Say)
  | orr (a b : Say)
  | gv (a b : Say)
  | ea (w : Int) (s : Say)
  | so (w : Int) (s : Say)
namespace Say
def hd : Say → Str
  | .lt _ => "letter"
  | .hr _ => "here"
  | .yes => "yes"
  | .no => "no"
  | .nt _ => "not"
  | .an _ _ => "and"
  | .orr _ _ => "or"
  | .gv _ _ => "gives"
  | .ea _ _ => "each"
  | .so _ _ => "some"
def ex : Say → List Int
  | .lt i => [(i : Int)]
  | .hr j => [(j : Int)]
  | .ea w _ => [w]
  | .so w _ => [w]
  | _ => []
def parts : Say → List Say
  | .nt s => [s]
  | .an a b => [a, b]
  | .orr a b => [a, b]
  | .gv a b => [a, b]
  | .ea _ s => [s]
  | .so _ s => [s]
  | _ => []
def deep : Say → Nat
  | .nt s => s.deep + 1
  | .an a b => max a.deep b.deep + 1
  | .orr a b => max a.deep b.deep + 1
  | .gv a b => max a.deep b.deep + 1
  | .ea _ s => s.deep + 1
  | .so _ s => s.deep + 1
  | _ => 1
def words : Say → List Say
  | .nt s => .nt s :: s.words
  | .an a b => .an a b :: (a.words ++ b.words)
  | .orr a b => .orr a b :: (a.words ++ b.words)
  | .gv a b => .gv a b :: (a.words ++ b.words)
  | .ea w s => .ea w s :: s.words
  | .so w s => .so w s :: s.words
  | .lt i => [.lt i]
  | .hr j => [.hr j]
  | .yes => [.yes]
  | .no => [.no]
/-- its own word: what may stand there -/
def top : Say → Prop
  | .lt i => i < 8
  | .hr _ => False
  | .ea w _ => -3 ≤ w ∧ w ≤ 2
  | .so w _ => -3 ≤ w ∧ w ≤ 2
  | _ => True
def Ok : Say → Prop
  | .lt i => i < 8
  | .hr _ => False
  | .yes => True
  | .no => True
  | .nt s => s.Ok
  | .an a b => a.Ok ∧ b.Ok
  | .orr a b => a.Ok ∧ b.Ok
  | .gv a b => a.Ok ∧ b.Ok
  | .ea w s => (-3 ≤ w ∧ w ≤ 2) ∧ s.Ok
  | .so w s => (-3 ≤ w ∧ w ≤ 2) ∧ s.Ok
theorem Ok.top {s : Say} (h : s.Ok) : s.top := by
  cases s <;> first | exact h | exact h.1 | trivial
theorem Ok.part {s t : Say} (h : s.Ok) (m : t ∈ s.parts) : t.Ok := by
  cases s with
  | lt i => cases m
  | hr j => cases m
  | yes => cases m
  | no => cases m
  | nt a =>
    rw [List.mem_singleton.mp m]
    exact h
  | an a b =>
    rcases List.mem_cons.mp m with rfl | m
    · exact h.1
    · rw [List.mem_singleton.mp m]
      exact h.2
  | orr a b =>
    rcases List.mem_cons.mp m with rfl | m
    · exact h.1
    · rw [List.mem_singleton.mp m]
      exact h.2
  | gv a b =>
    rcases List.mem_cons.mp m with rfl | m
    · exact h.1
    · rw [List.mem_singleton.mp m]
      exact h.2
  | ea w a =>
    rw [List.mem_singleton.mp m]
    exact h.2
  | so w a =>
    rw [List.mem_singleton.mp m]
    exact h.2
theorem deep_part {s t : Say} (m : t ∈ s.parts) : t.deep + 1 ≤ s.deep := by
  cases s with
  | lt i => cases m
  | hr j => cases m
  | yes => cases m
  | no => cases m
  | nt a =>
    rw [List.mem_singleton.mp m]
    exact Nat.le_refl _
  | an a b =>
    rcases List.mem_cons.mp m with rfl | m
    · exact Nat.succ_le_succ (Nat.le_max_left _ _)
    · rw [List.mem_singleton.mp m]
      exact Nat.succ_le_succ (Nat.le_max_right _ _)
  | orr a b =>
    rcases List.mem_cons.mp m with rfl | m
    · exact Nat.succ_le_succ (Nat.le_max_left _ _)
    · rw [List.mem_singleton.mp m]
      exact Nat.succ_le_succ (Nat.le_max_right _ _)
  | gv a b =>
    rcases List.mem_cons.mp m with rfl | m
    · exact Nat.succ_le_succ (Nat.le_max_left _ _)
    · rw [List.mem_singleton.mp m]
      exact Nat.succ_le_succ (Nat.le_max_right _ _)
  | ea w a =>
    rw [List.mem_singleton.mp m]
    exact Nat.le_refl _
  | so w a =>
    rw [List.mem_singleton.mp m]
    exact Nat.le_refl _
theorem deep_pos (s : Say) : 1 ≤ s.deep := by
  cases s <;> first | exact Nat.le_refl _ | exact Nat.succ_le_succ (Nat.zero_le _)
theorem words_eq (s : Say) : s.words = s :: s.parts.flatMap words := by
  cases s <;> simp [words, parts]
/-- its own word: what may stand there, x_0 .. x_(m - 1) -/
def topW (m : Nat) : Say → Prop
  | .lt i => i < 8
  | .hr j => j < m
  | .ea w _ => -3 ≤ w ∧ w ≤ 2
  | .so w _ => -3 ≤ w ∧ w ≤ 2
  | _ => True
/-- all its words are of these and may stand there -/
def OkW (W : List Str) (m : Nat) (s : Say) : Prop := ∀ t ∈ s.words, t.hd ∈ W ∧ t.topW m
theorem self_word (s : Say) : s ∈ s.words := by
  rw [words_eq]
  exact List.mem_cons_self
theorem part_word {s t u : Say} (h : t ∈ s.parts) (hu : u ∈ t.words) : u ∈ s.words := by
  rw [words_eq]
  exact List.mem_cons_of_mem _ (List.mem_flatMap.mpr ⟨t, h, hu⟩)
theorem OkW.part {W : List Str} {m : Nat} {s t : Say} (h : OkW W m s) (p : t ∈ s.parts) : OkW W m t := fun u hu => h u (part_word p hu)
theorem OkW.own {W : List Str} {m : Nat} {s : Say} (h : OkW W m s) : s.hd ∈ W ∧ s.topW m := h s (self_word s)
def sayW : List Str := ["letter", "yes", "no", "not", "and", "or", "gives", "each", "some"]
def factW : List Str := ["yes", "no", "here", "and", "or", "each", "some"]
theorem Ok.w : ∀ {s : Say}, s.Ok → OkW sayW 0 s
  | .lt i, h => fun t m => by
    rw [List.mem_singleton.mp m]
    exact ⟨List.mem_cons_self, h⟩
  | .hr _, h => h.elim
  | .yes, _ => fun t m => by
    rw [List.mem_singleton.mp m]
    exact ⟨show ("yes" : Str) ∈ sayW by decide, trivial⟩
  | .no, _ => fun t m => by
    rw [List.mem_singleton.mp m]
    exact ⟨show ("no" : Str) ∈ sayW by decide, trivial⟩
  | .nt s, h => fun t m => by
    rcases List.mem_cons.mp m with rfl | m
    · exact ⟨show ("not" : Str) ∈ sayW by decide, trivial⟩
    · exact Ok.w (s := s) h t m
  | .an a b, h => fun t m => by
    rcases List.mem_cons.mp m with rfl | m
    · exact ⟨show ("and" : Str) ∈ sayW by decide, trivial⟩
    · exact (List.mem_append.mp m).elim (Ok.w h.1 t) (Ok.w h.2 t)
  | .orr a b, h => fun t m => by
    rcases List.mem_cons.mp m with rfl | m
    · exact ⟨show ("or" : Str) ∈ sayW by decide, trivial⟩
    · exact (List.mem_append.mp m).elim (Ok.w h.1 t) (Ok.w h.2 t)
  | .gv a b, h => fun t m => by
    rcases List.mem_cons.mp m with rfl | m
    · exact ⟨show ("gives" : Str) ∈ sayW by decide, trivial⟩
    · exact (List.mem_append.mp m).elim (Ok.w h.1 t) (Ok.w h.2 t)
  | .ea w s, h => fun t m => by
    rcases List.mem_cons.mp m with rfl | m
    · exact ⟨show ("each" : Str) ∈ sayW by decide, h.1⟩
    · exact Ok.w h.2 t m
  | .so w s, h => fun t m => by
    rcases List.mem_cons.mp m with rfl | m
    · exact ⟨show ("some" : Str) ∈ sayW by decide, h.1⟩
    · exact Ok.w h.2 t m
end Say
def dSay : Say → PyData
  | .lt i => .tuple [.str "letter", .int i]
  | .hr j => .tuple [.str "here", .int j]
  | .yes => .tuple [.str "yes"]
  | .no => .tuple [.str "no"]
  | .nt s => .tuple [.str "not", dSay s]
  | .an a b => .tuple [.str "and", dSay a, dSay b]
  | .orr a b => .tuple [.str "or", dSay a, dSay b]
  | .gv a b => .tuple [.str "gives", dSay a, dSay b]
  | .ea w s => .tuple [.str "each", .int w, dSay s]
  | .so w s => .tuple [.str "some", .int w, dSay s]
theorem dSay_eq (s : Say) : dSay s = .tuple (.str s.hd :: (s.ex.map PyData.int ++ s.parts.map dSay)) := by cases s <;> rfl
theorem noLs_of : ∀ {ds : List PyData}, (∀ d ∈ ds, noL d = true) → noLs ds = true
  | [], _ => rfl
  | d :: ds, h => by
    show (noL d && noLs ds) = true
    rw [h d List.mem_cons_self, noLs_of fun e m => h e (List.mem_cons_of_mem _ m)]
    rfl
theorem noL_say : ∀ s : Say, noL (dSay s) = true
  | .lt _ => rfl
  | .hr _ => rfl
  | .yes => rfl
  | .no => rfl
  | .nt s => by
    show (true && (noL (dSay s) && true)) = true
    rw [noL_say s]
    rfl
  | .an a b => by
    show (true && (noL (dSay a) && (noL (dSay b) && true))) = true
    rw [noL_say a, noL_say b]
    rfl
  | .orr a b => by
    show (true && (noL (dSay a) && (noL (dSay b) && true))) = true
    rw [noL_say a, noL_say b]
    rfl
  | .gv a b => by
    show (true && (noL (dSay a) && (noL (dSay b) && true))) = true
    rw [noL_say a, noL_say b]
    rfl
  | .ea w s => by
    show (true && (true && (noL (dSay s) && true))) = true
    rw [noL_say s]
    rfl
  | .so w s => by
    show (true && (true && (noL (dSay s) && true))) = true
    rw [noL_say s]
    rfl
theorem noLs_says (l : List Say) : noLs (l.map dSay) = true := noLs_of fun d m => by
  obtain ⟨s, _, rfl⟩ := List.mem_map.mp m
  exact noL_say s
section
variable {K : PySem.W.Frag} {H : Hp}
theorem dps_split : ∀ {ds es : List PyData} {xs : List V}, DpAll K H xs (ds ++ es) → ∃ ys zs, xs = ys ++ zs ∧ DpAll K H ys ds ∧ DpAll K H zs es
  | [], _, xs, h => ⟨[], xs, rfl, .nil, h⟩
  | d :: ds, es, _, h => by
    cases h with
    | cons h1 h2 =>
      obtain ⟨ys, zs, rfl, a, b⟩ := dps_split h2
      exact ⟨_ :: ys, zs, rfl, .cons h1 a, b⟩
theorem dp_str {v : V} {x : Str} (h : Dp K H v (.str x)) : v = .str x := by cases h; rfl
theorem say_at {v : V} {s : Say} (h : Dp K H v (dSay s)) : ∃ a xs, v = .ref a ∧ SqT K H a (.str s.hd :: (s.ex.map V.int ++ xs)) ∧ DpAll K H xs (s.parts.map dSay) := by
  rw [dSay_eq] at h
  obtain ⟨a, xs, rfl, hs, hd⟩ := dp_tup h
  cases hd with
  | cons h1 h2 =>
    obtain ⟨ys, zs, rfl, e1, e2⟩ := dps_split h2
    rw [dp_str h1, dps_ints_inv e1] at hs
    exact ⟨a, zs, rfl, hs, e2⟩
end
/-- its own word: letters below nl, worlds below nh, not and gives if dn -/
def Say.okN (nl nh : Nat) (dn : Bool) : Say → Prop
  | .lt i => i < nl
  | .hr j => j < nh
  | .nt _ => dn = true
  | .gv _ _ => dn = true
  | .ea w _ => -3 ≤ w ∧ w ≤ 2
  | .so w _ => -3 ≤ w ∧ w ≤ 2
  | _ => True
def Say.OkN (nl nh : Nat) (dn : Bool) (s : Say) : Prop := ∀ t ∈ s.words, t.okN nl nh dn
theorem Say.OkN.part {nl nh : Nat} {dn : Bool} {s t : Say} (h : s.OkN nl nh dn) (p : t ∈ s.parts) : t.OkN nl nh dn := fun u hu => h u (Say.part_word p hu)
theorem Say.OkN.own {nl nh : Nat} {dn : Bool} {s : Say} (h : s.OkN nl nh dn) : s.okN nl nh dn := h s (Say.self_word s)
theorem Say.OkW.say {s : Say} (h : s.OkW Say.sayW 0) : s.OkN 8 0 true := fun t m => by
  have := (h t m).2
  cases t with
  | nt a => rfl
  | gv a b => rfl
  | _ => exact this
theorem Say.Ok.n {s : Say} (h : s.Ok) : s.OkN 8 0 true := h.w.say
theorem Say.OkW.fact {s : Say} {m : Nat} (h : s.OkW Say.factW m) : s.OkN 0 m false := fun t k => by
  have := h t k
  cases t with
  | lt i => exact absurd (show ("letter" : Str) ∈ Say.factW from this.1) (by decide)
  | nt a => exact absurd (show ("not" : Str) ∈ Say.factW from this.1) (by decide)
  | gv a b => exact absurd (show ("gives" : Str) ∈ Say.factW from this.1) (by decide)
  | _ => exact this.2
/-! ### levels of words -/
def Say.lvls : Nat → List Say → List (List Say)
  | 0, _ => []
  | d + 1, l => if l = [] then [] else l :: Say.lvls d (l.flatMap Say.parts)
def Say.maxd : List Say → Nat
  | [] => 0
  | s :: l => max s.deep (Say.maxd l)
theorem Say.maxd_app (l m : List Say) : Say.maxd (l ++ m) = max (Say.maxd l) (Say.maxd m) := by
  induction l with
  | nil => show Say.maxd m = max 0 (Say.maxd m); omega
  | cons s l ih => show max s.deep (Say.maxd (l ++ m)) = max (max s.deep (Say.maxd l)) _; rw [ih]; omega
theorem Say.deep_maxd (s : Say) : s.deep = Say.maxd s.parts + 1 := by
  cases s <;> simp [Say.deep, Say.parts, Say.maxd]
theorem Say.maxd_parts : ∀ {l : List Say}, l ≠ [] → Say.maxd l = Say.maxd (l.flatMap Say.parts) + 1
  | [], h => absurd rfl h
  | [s], _ => by
    show max s.deep 0 = Say.maxd (s.parts ++ []) + 1
    rw [List.append_nil, Say.deep_maxd s]
    omega
  | s :: t :: l, _ => by
    have ih := Say.maxd_parts (l := t :: l) (fun z => by cases z)
    show max s.deep (Say.maxd (t :: l)) = _
    rw [List.flatMap_cons, Say.maxd_app, ih, Say.deep_maxd s]
    omega
theorem Say.maxd_mem {l : List Say} {s : Say} (h : s ∈ l) : s.deep ≤ Say.maxd l := by
  induction l with
  | nil => cases h
  | cons t l ih =>
    show _ ≤ max t.deep (Say.maxd l)
    rcases List.mem_cons.mp h with rfl | h
    · omega
    · have := ih h
      omega
theorem Say.maxd_le {l : List Say} {d : Nat} (h : ∀ s ∈ l, s.deep ≤ d) : Say.maxd l ≤ d := by
  induction l with
  | nil => exact Nat.zero_le _
  | cons t l ih =>
    have h1 := h t List.mem_cons_self
    have h2 := ih fun s m => h s (List.mem_cons_of_mem _ m)
    show max t.deep (Say.maxd l) ≤ d
    omega
theorem Say.lvls_len : ∀ (d : Nat) {l : List Say}, Say.maxd l ≤ d → (Say.lvls d l).length = Say.maxd l
  | 0, l, h => by
    have : Say.maxd l = 0 := by omega
    rw [this]
    rfl
  | d + 1, l, h => by
    show (if l = [] then [] else l :: Say.lvls d (l.flatMap Say.parts)).length = _
    by_cases e : l = []
    · rw [if_pos e, e]
      rfl
    · rw [if_neg e, List.length_cons, Say.lvls_len d (by have := Say.maxd_parts e; omega), Say.maxd_parts e]
theorem Say.flat_perm {α : Type} (f : α → List α) : ∀ l : List α, (l.flatMap fun s => s :: f s).Perm (l ++ l.flatMap f)
  | [] => List.Perm.refl _
  | s :: l => by
    rw [List.flatMap_cons, List.flatMap_cons, List.cons_append, List.cons_append]
    refine List.Perm.cons s ?_
    have ih := Say.flat_perm f l
    exact (List.Perm.append_left (f s) ih).trans (by
      rw [← List.append_assoc, ← List.append_assoc]
      exact List.Perm.append_right _ List.perm_append_comm)
theorem Say.lvls_perm : ∀ (d : Nat) {l : List Say}, Say.maxd l ≤ d → (Say.lvls d l).flatten.Perm (l.flatMap Say.words)
  | 0, l, h => by
    cases l with
    | nil => exact List.Perm.refl _
    | cons s l =>
      have := Say.deep_pos s
      have : s.deep ≤ 0 := Nat.le_trans (Say.maxd_mem List.mem_cons_self) h
      omega
  | d + 1, l, h => by
    show (if l = [] then [] else l :: Say.lvls d (l.flatMap Say.parts)).flatten.Perm _
    by_cases e : l = []
    · rw [if_pos e, e]
      exact List.Perm.refl _
    · rw [if_neg e, List.flatten_cons]
      have ih := Say.lvls_perm d (l := l.flatMap Say.parts) (by have := Say.maxd_parts e; omega)
      have e2 : (l.flatMap Say.words) = l.flatMap fun s => s :: s.parts.flatMap Say.words := congrArg (fun f => l.flatMap f) (funext Say.words_eq)
      rw [e2]
      refine (List.Perm.append_left l ih).trans ?_
      rw [List.flatMap_assoc]
      exact (Say.flat_perm _ l).symm
/-- the words, level by level -/
def Say.bfs (s : Say) : List Say := (Say.lvls s.deep [s]).flatten
theorem Say.maxd_one (s : Say) : Say.maxd [s] = s.deep := by
  show max s.deep 0 = _
  omega
theorem Say.bfs_perm (s : Say) : s.bfs.Perm s.words := by
  have := Say.lvls_perm s.deep (l := [s]) (by rw [Say.maxd_one]; exact Nat.le_refl _)
  rwa [List.flatMap_cons, List.flatMap_nil, List.append_nil] at this
theorem Say.lvl_words : ∀ (j d : Nat) {l : List Say} {t : Say} {k : List Say}, (Say.lvls d l)[j]? = some k → t ∈ k → ∃ s ∈ l, t ∈ s.words
  | j, 0, l, t, k, h, m => by cases h
  | j, d + 1, l, t, k, h, m => by
    have h' : (if l = [] then [] else l :: Say.lvls d (l.flatMap Say.parts))[j]? = some k := h
    by_cases e : l = []
    · rw [if_pos e] at h'
      cases h'
    · rw [if_neg e] at h'
      cases j with
      | zero =>
        cases h'
        exact ⟨t, m, Say.self_word t⟩
      | succ j =>
        obtain ⟨u, hu, hw⟩ := Say.lvl_words j d (show (Say.lvls d (l.flatMap Say.parts))[j]? = some k from h') m
        obtain ⟨s, hs, hp⟩ := List.mem_flatMap.mp hu
        exact ⟨s, hs, Say.part_word hp hw⟩
end K0

/-! V1: for i, x in enumerate(t), t a tuple. -/
namespace V1
open PySem PySem.Spec PyProof.Rows L2 W1
def EnT (K : PySem.W.Frag) (a : Addr) : It where
  go i H := ∃ (xs : List V) (x : V), SqT K H a xs ∧ xs[i]? = some x
  yld i H v H' := ∃ T x, v = .ref T ∧ H T = none ∧ H' = upd H T (.tup [.int (i : Nat), x]) ∧ ∀ xs, SqT K H a xs → xs[i]? = some x
  stop i H := ∃ xs : List V, SqT K H a xs ∧ xs.length = i
set_option maxHeartbeats 1000000 in
theorem new_enum {v : Value} {o : Obj} {Hs : Heap → Prop} (B : Begins v o Hs) :
    Meets (Builtin.«enumerate.__new__» ⟨[.type "enumerate", v], []⟩) (fun _ R s => Hs s.heap ∧
      R (.ok (.ret (.ref (s.heap.push o).objs.size)))
        { s with heap := (s.heap.push o).push { cls := .type "enumerate", data := .fields #[.none, .bool false, .ref s.heap.objs.size, rawInt 0, .none, .none] } }) := by
  refine .of_wp fun prog w A R s h => ?_
  obtain ⟨hp, gs, dr, tk, os⟩ := s
  obtain ⟨stands, h⟩ := h
  have isSub := sub_enumerate
  have goes : ∀ {A' : Around} {E : Value → Shared → Prop} {Q : Value → Shared → Prop}, Q (.ref hp.objs.size) ⟨hp.push o, gs, dr, tk, os⟩ → wpAny (model prog w) A' (pyIter v) Q E ⟨hp, gs, dr, tk, os⟩ :=
    fun q => B.iter prog w _ _ ⟨hp, gs, dr, tk, os⟩ _ stands q
  wp_walk using goes
  refine wpAny_stack_any fun st => wpAny_pure ?_
  split
  · rename_i c _ _ _ _ _
    cases (c == Value.type "enumerate") <;> (wp_walk using goes; exact ⟨_, rfl, h⟩)
  · wp_walk using goes
    exact ⟨_, rfl, h⟩
theorem call_enum {prog : Program} {w : World} {A : Around} {E : Value → Shared → Prop} {s : Shared} {v : Value} {o : Obj} {Hs : Heap → Prop} {Q : Value → Shared → Prop} (B : Begins v o Hs) (stands : Hs s.heap)
    (h : ∀ h', IsEnum h' (s.heap.objs.size + 1) s.heap.objs.size 0 .none → h'.get? s.heap.objs.size = some o → h'.objs.size = s.heap.objs.size + 2 → (∀ b u, s.heap.get? b = some u → h'.get? b = some u) → Q (.ref (s.heap.objs.size + 1)) { s with heap := h' }) :
    wpAny (model prog w) A (call (.type "enumerate") [v]) Q E s := by
  refine callType_new F.called_enumerate (by decide) (F.typeCall_enumerate_1 _) (F.newCall_enumerate_1 _) (fun z => F.args_object_init_2 z _) F.entry_enumerate_new (new_enum B) ⟨stands, ?_⟩
  have size : (s.heap.push o).objs.size = s.heap.objs.size + 1 := Heap.size_push ..
  show _ ∧ _
  rw [size]
  have at2 : IsEnum ((s.heap.push o).push { cls := .type "enumerate", data := .fields #[.none, .bool false, .ref s.heap.objs.size, rawInt 0, .none, .none] }) (s.heap.objs.size + 1) s.heap.objs.size 0 .none := by
    rw [← size]
    exact Heap.get?_push_size (s.heap.push o) rfl
  refine ⟨⟨_, at2, rfl⟩, h _ at2 (Heap.get?_push_of_some _ (Heap.get?_push_size _ B.free)) ?_ fun b u z => Heap.get?_push_of_some _ (Heap.get?_push_of_some _ z)⟩
  rw [Heap.size_push, size]
theorem turn_enT {P : Program} {w : World} {K : PySem.W.Frag} {elts : List Expr} {kk : Nat} {tpos : Pos} (a e it : Addr) :
    Turn P w K (.Tuple elts kk tpos) (EnT K a) [e, it] e (fun i h => (∃ old, IsEnum h e it ((i : Nat) : Int) old) ∧ h.IsTupleIter it a i ∧ e ≠ it ∧ a ≠ it ∧ e ≠ a) where
  mem := List.mem_cons_self
  obj := fun i h st b hb => by
    obtain ⟨⟨old, he⟩, ⟨o, ho, hc, hd⟩, _⟩ := st
    rcases List.mem_cons.mp hb with rfl | hb
    · exact ⟨_, he, fun v q => nomatch q⟩
    · rw [List.mem_singleton.mp hb]
      exact ⟨o, ho, fun v q => by rw [hd] at q; cases q⟩
  keep := fun i h h' st k => by
    obtain ⟨⟨old, he⟩, hi, hne⟩ := st
    exact ⟨⟨old, k e (by simp) _ he⟩, hi.at fun o q => k it (by simp) o q, hne⟩
  item := by
    intro X hP hw hK hc i pins s σ H E I hf st hg
    subst hP hw hK
    obtain ⟨⟨old, he⟩, hit, n1, n2, n3⟩ := st
    obtain ⟨xs, x, hq, hx⟩ := hg
    obtain ⟨its, rv, p, _⟩ := I.tuple hq
    obtain ⟨u, hu, ru⟩ := rv.get hx
    have hel : e < s.heap.objs.size := Heap.lt_size he
    have hil : it < s.heap.objs.size := by
      obtain ⟨_, q, _⟩ := hit
      exact Heap.lt_size q
    have hlt : i < its.toArray.size := by
      rw [List.size_toArray]
      exact (List.getElem?_eq_some_iff.mp hu).1
    have D := Draws.tuple (prog := X.prog) (w := X.w) (A := X.A.in1) (I.ok.hd hc) it a n2 its.toArray
    refine wpAny_pyNext_enum_itemD D he ⟨hit, p⟩ hlt n1 (by simp [n1, n3]) fun z h' tk hz ho hit' hT hsz hk => ?_
    have ez : z = u := by
      have q1 : its.toArray[i]? = some z := hz
      have q2 : its.toArray[i]? = some u := by simpa using hu
      exact Option.some.inj (q1.symm.trans q2)
    subst ez
    refine ⟨_, rfl, wpAny_letOwnedTupleGo_enum (s := { s with heap := h', toks := tk + 1 }) ho fun h'' he' sb => ?_⟩
    have there : h''.get? s.heap.objs.size = some { cls := .type "tuple", data := .seq #[.int i tk, z] } := (sb.2 _ (Nat.ne_of_gt hel)).trans hT
    have fresh : ObjOk X.prog X.w (upd H s.heap.objs.size (.tup [.int (i : Nat), x])) h'' s.heap.objs.size (.tup [.int (i : Nat), x]) :=
      ⟨by show 2 ≤ sizeLine; decide, [.int i tk, z], .cons ⟨_, rfl⟩ (.cons ru .nil), ⟨_, there, rfl, _, rfl⟩⟩
    have I1 : Inv X pins σ (upd H s.heap.objs.size (.tup [.int (i : Nat), x])) { s with heap := h'', toks := tk + 1 } := by
      refine I.turnedNew (ch := [e, it]) (fun b ob hb q => ?_) hf (Nat.le_refl _) fresh
      have b1 : b ≠ e := fun y => hb (by simp [y])
      have b2 : b ≠ it := fun y => hb (by simp [y])
      exact (sb.2 b b1).trans (hk b ob b1 b2 q)
    refine ⟨.ref s.heap.objs.size, _, I1, rfl, ⟨_, x, rfl, I.hok.fresh (Nat.le_refl _), rfl, fun ys hy => ?_⟩, ⟨⟨z, ?_⟩, hit'.1.at fun o q => (sb.2 it n1.symm).trans q, n1, n2, n3⟩, fun b hb => ?_⟩
    · rw [I.tuple_inj hy hq]
      exact hx
    · rw [show ((i + 1 : Nat) : Int) = (i : Int) + 1 by omega]
      exact he'
    · have lt : b < s.heap.objs.size := by
        rcases List.mem_cons.mp hb with rfl | hb
        · exact hel
        · rw [List.mem_singleton.mp hb]
          exact hil
      rw [upd_ne (Nat.ne_of_lt lt)]
      exact (hf b hb).1
  done := by
    intro X hP hw hK hc i pins s σ H E I hf st hg
    subst hP hw hK
    obtain ⟨⟨old, he⟩, hit, n1, n2, n3⟩ := st
    obtain ⟨xs, hq, hx⟩ := hg
    obtain ⟨its, rv, p, _⟩ := I.tuple hq
    have D := Draws.tuple (prog := X.prog) (w := X.w) (A := X.A.in1) (I.ok.hd hc) it a n2 its.toArray
    have e : its.toArray.size = i := by
      rw [List.size_toArray, ← rv.length, hx]
    obtain ⟨f0, f1, f2, f3, f4, f5⟩ := hf it (by simp)
    refine wpAny_pyNext_enum_endD D he ⟨e ▸ hit, p⟩ fun h' eb => ⟨rfl, ?_⟩
    exact I.turned (t' := s.toks) (fun b o hb q => eb b o hb q) f0 f1 f3 f4 f5
  self := fun A i s Q E st h => by
    obtain ⟨⟨_, he⟩, _⟩ := st
    exact wpAny_pyIter_enum he h
def iEnT (K : PySem.W.Frag) (ta : TA) : TI := fun σ H R => ta σ H fun vs H1 => ∃ a xs, vs = [.ref a] ∧ SqT K H1 a xs ∧ R (EnT K a) H1
theorem pi_enT {X : Cx} {e : Expr} {ta : TA} {p pos tpos : Pos} {elts : List Expr} {kk : Nat} (hg : Gl X "enumerate") (hm : X.mg "enumerate" = none) (ha : PA X [e] ta) (hs : starEach [e] X.env = [(false, eval e X.env)] := by rfl) :
    PI X (.Tuple elts kk tpos) (.Call (.Name "enumerate" p) [e] [] pos) (iEnT X.K ta) := by
  constructor
  intro pins s σ H R I h
  refine Call_ (ld_blt I hg hm boot_enumerate (PyProof.Rows.callWith_type1 ?_ hs rfl))
  refine thn (ha.run pos pins s σ H _ I h) fun us s1 h1 => ?_
  obtain ⟨vs, H1, I1, r1, a, xs, rfl, hq, q⟩ := h1
  rw [Vals.ref1 r1]
  obtain ⟨its, rv, pl, _⟩ := I1.tuple hq
  have la : a < s1.heap.objs.size := by
    obtain ⟨o, g, _⟩ := pl
    exact Heap.lt_size g
  refine call_enum (begins_tuple a its.toArray) pl fun h' he hit hz hk => wpAny_pyIter_enum he ?_
  have I2 : Inv X pins σ H1 { s1 with heap := h' } := I1.kept (t' := s1.toks) hk
  refine ⟨s1.heap.objs.size + 1, [s1.heap.objs.size + 1, s1.heap.objs.size], _, _, H1, rfl, I2, turn_enT a (s1.heap.objs.size + 1) s1.heap.objs.size, ⟨⟨.none, he⟩, ⟨_, hit, rfl, rfl⟩, Nat.succ_ne_self _, Nat.ne_of_lt la, (Nat.ne_of_lt (Nat.lt_succ_of_lt la)).symm⟩, fun b hb => ?_, q⟩
  have le : s1.heap.objs.size ≤ b := by
    rcases List.mem_cons.mp hb with rfl | hb
    · exact Nat.le_succ _
    · rw [List.mem_singleton.mp hb]
      exact Nat.le_refl _
  exact I1.fpOk le (I1.hok.fresh le)
/-- the pair of the i-th item -/
theorem walk_enT {K : PySem.W.Frag} {a : Addr} {xs : List V} : Walk (EnT K a) xs.length (fun H => SqT K H a xs) (fun i H v H' => ∃ T x, v = .ref T ∧ H T = none ∧ H' = upd H T (.tup [.int (i : Nat), x]) ∧ xs[i]? = some x) :=
  ⟨fun i _ hi q => ⟨xs, xs[i], q, List.getElem?_eq_getElem hi⟩, fun _ q => ⟨xs, q, rfl⟩, fun i H v H' hi q y => by
    obtain ⟨T, x, h1, h2, h3, h4⟩ := y
    exact ⟨T, x, h1, h2, h3, h4 xs q⟩⟩
end V1

/-! V2: blocks within blocks that read a name of the def; all, any within a block. -/
namespace V2
open PySem PySem.Spec PyProof.Rows L2 W1
theorem relabel_get {sc : Scope} {env : Env} {x : Str} {k : NameKind} (h : sc.names.lookup x = some k) : ∃ k', (relabel sc env).names.lookup x = some k' ∧ (k' = k ∨ k' = .cell) := by
  unfold relabel
  dsimp only
  generalize sc.names = ns at h
  induction ns with
  | nil => cases h
  | cons p r ih =>
    obtain ⟨n, j⟩ := p
    rw [List.map_cons]
    by_cases e : x = n
    · subst e
      rw [List.lookup_cons, beq_self_eq_true] at h
      cases h
      dsimp only
      split
      · exact ⟨.cell, by rw [List.lookup_cons, beq_self_eq_true], .inr rfl⟩
      · exact ⟨k, by rw [List.lookup_cons, beq_self_eq_true], .inl rfl⟩
    · have ne : (x == n) = false := beq_eq_false_iff_ne.mpr e
      rw [List.lookup_cons, ne] at h
      obtain ⟨k', h1, h2⟩ := ih h
      refine ⟨k', ?_, h2⟩
      dsimp only
      split
      · rw [List.lookup_cons, ne]
        exact h1
      · rw [List.lookup_cons, ne]
        exact h1
/-- a comprehension's block within another's -/
theorem blk_in {N : List Str} {sc scope : Scope} {own : List (Str × Nat)} {env : Env} (h : BlkOk N sc scope own) : BlkOk N (relabel sc env) scope own := by
  refine ⟨h.kind, h.uniq, h.ix, fun y hy e => ?_, h.own⟩
  rcases h.free y hy e with z | z
  · obtain ⟨k', h1, h2⟩ := relabel_get (env := env) z
    rcases h2 with rfl | rfl
    · exact .inl h1
    · exact .inl h1
  · obtain ⟨k', h1, h2⟩ := relabel_get (env := env) z
    rcases h2 with rfl | rfl
    · exact .inr h1
    · exact .inl h1
theorem cr_allK {X : Cx} {K : PySem.W.Frag} (hc : X.calm = true) (hK : X.K = K := by rfl) : CallR X (.builtin "all") (rAll K) := hK ▸ cr_all hc
theorem cr_anyK {X : Cx} {K : PySem.W.Frag} (hc : X.calm = true) (hK : X.K = K := by rfl) : CallR X (.builtin "any") (rAny K) := hK ▸ cr_any hc
theorem pi_listK {X : Cx} {K : PySem.W.Frag} {tg e : Expr} {te : TE} (he : PE X e te) (hK : X.K = K := by rfl) : PI X tg e (iList K te) := hK ▸ pi_list he
theorem pi_tupK {X : Cx} {K : PySem.W.Frag} {tg e : Expr} {te : TE} (he : PE X e te) (hK : X.K = K := by rfl) : PI X tg e (iTup K te) := hK ▸ pi_tup he
end V2

/-! V3: list.count of a text in a list of texts. -/
namespace V3
open PySem PySem.Spec PyProof.Rows L2 W1
theorem dps_strs {K : PySem.W.Frag} {H : Hp} : ∀ l : List Str, DpAll K H (l.map V.str) (l.map PyData.str)
  | [] => .nil
  | x :: l => .cons (.str x) (dps_strs l)
theorem count_strs (x : Str) (l : List Str) : (l.map PyData.str).countP (fun y => PyData.eqv y (.str x)) = l.count x := by
  rw [List.countP_map]
  unfold List.count
  congr 1
theorem plain_strs : ∀ l : List Str, PyData.plainAll (l.map PyData.str) = true
  | [] => rfl
  | y :: l => by
    show (true && PyData.plainAll (l.map PyData.str)) = true
    rw [plain_strs l]
    rfl
def rCntS (K : PySem.W.Frag) : V → List V → Hp → VK → Prop := fun x xs H Q => ∃ (p : Addr) (l : List Str) (k : Str), x = .ref p ∧ xs = [.str k] ∧ SqL K H p (l.map V.str) ∧ Q (.int (l.count k : Nat)) H
theorem mt_scount {X : Cx} (hu : X.A.units + 64 < cLine) : MtR X "list.count" (rCntS X.K) := by
  intro pins s σ H x xs v us Q I rx rxs h
  obtain ⟨p, l, k, rfl, rfl, hs, q⟩ := h
  cases rx
  obtain ⟨u, rfl, ru⟩ := rxs.one
  obtain ⟨t, rfl⟩ := ru
  obtain ⟨its, rv, pl, _⟩ := I.list hs
  obtain ⟨as, rd⟩ := Dp.readsAll I (l.map PyData.str) (l.map V.str) its (dps_strs l) rv
  obtain ⟨bs, rx⟩ := Dp.reads (X := X) I (.str k) (.str k) (.str k t) (.str k) ⟨t, rfl⟩
  have pl1 := plain_strs l
  refine SeqAt.count_list_data pl.isList (by simpa using rd) rx pl1 rfl ?_ ?_
  · have : PyData.depth (.str k) = 0 := rfl
    omega
  · rw [count_strs]
    exact ⟨.int (l.count k : Nat), H, I.tok _, ⟨s.toks, rfl⟩, q⟩
end V3

/-! V4: xs[b], xs a list, b a truth value. -/
namespace V4
open PySem PySem.Spec PyProof.Rows L2 W1
theorem bool_index : typeLookup (.type "bool") "__index__" = pure (some (.builtin "int.__index__")) := by
  rw [typeLookup_type, builtinLookup_eq_fast]
  kernel_rfl
def bN (b : Bool) : Nat := if b = true then 1 else 0
section
variable {prog : Program} {w : World} {A : Around} {E : Value → Shared → Prop} {s : Shared}
theorem sub_bool {b : Bool} {Q : Option Int → Shared → Prop} (h : Q (some (bN b)) s) : wpAny (model prog w) A (Builtin.List.listSubscript? (.bool b)) Q E s := by
  unfold Builtin.List.listSubscript?
  refine wpAny_bind (wpAny_specialOf (T := "bool") rfl bool_index ?_)
  show wpAny (model prog w) A (asIndex (.bool b) >>= _) Q E s
  cases b with
  | true =>
    refine wpAny_bind (wpAny_of_eq (a := (1 : Int)) rfl ?_)
    exact wpAny_pure h
  | false =>
    refine wpAny_bind (wpAny_of_eq (a := (0 : Int)) rfl ?_)
    exact wpAny_pure h
theorem get_bool {l : Addr} {items : Array Value} {b : Bool} {x : Value} {Q : Value → Shared → Prop} (isl : s.heap.IsList l items) (hx : items[bN b]? = some x) (h : Q x s) : wpAny (model prog w) A (getItem (.ref l) (.bool b)) Q E s := by
  obtain ⟨ob, look, _, _, dat⟩ := id isl
  unfold getItem
  (try with_reducible refine wpAny_holding ?_); (first | refine wpAny_bind (wpAny_pure ?_) | skip)
  refine wpAny_bind (wpAny_sequenceKey isl.typeIs (by decide) ?_)
  refine wpAny_bind (wpAny_callSpecial?_slot (name := Str.ofString "__getitem__") isl.typeIs slot_list_getitem ?_)
  refine wpAny_call_entry slot_list_getitem isl.typeIs entry_list_getitem ?_ (args_list_getitem _ _)
  show wpAny _ _ (Builtin.List.listSubscript? (.bool b) >>= _) _ _ s
  refine wpAny_bind (sub_bool ?_)
  show wpAny _ _ ((seqItemAt l (bN b) >>= fun r => pure (r.map (bN b, ·))) >>= _) _ _ s
  refine wpAny_bind (wpAny_bind (wpAny_seqItemAt look dat (wpAny_pure ?_)))
  rw [hx]
  first | exact wpAny_bind (wpAny_pure (wpAny_pure ⟨x, rfl, wpAny_pure h⟩)) | exact wpAny_pure ⟨x, rfl, wpAny_pure h⟩
end
/-- xs[b] -/
def rIxB (K : PySem.W.Frag) : R2 := fun x y H Q => ∃ p xs b v, x = .ref p ∧ y = .bl b ∧ SqL K H p xs ∧ xs[bN b]? = some v ∧ Q v H
theorem ix_bool {X : Cx} {K : PySem.W.Frag} (hK : X.K = K := by rfl) : IxR X (rIxB K) := by
  subst hK
  intro value slice pins s σ H x y v u Q I rx ry h hs
  obtain ⟨p, xs, b, z, rfl, rfl, hq, he, q⟩ := h
  cases rx
  cases ry
  obtain ⟨its, r, pl, _⟩ := I.list hq
  obtain ⟨w', ew, rw'⟩ := r.get he
  refine subscriptTail_builtinR (x := w') pl.isList.typeIs slot_list_getitem.lookup ?_ hs
  exact get_bool (Q := fun r s' => r = w' ∧ EP X pins σ Q r s') pl.isList (by simpa using ew) ⟨rfl, z, H, I, rw', q⟩
end V4

/-! V5: dicts whose keys are pairs of tuples of ints: {}, d[a, b] = v (new), d[a, b] (there), for a, b in d. -/
namespace V5
open PySem PySem.Spec PyProof.Rows L2 W1
abbrev PK := List Int × List Int
def nk1 (l : List Int) : NestedKey := .tup (l.map NestedKey.num)
def nk (k : PK) : NestedKey := .tup [nk1 k.1, nk1 k.2]
def dI (l : List Int) : PyData := .tuple (l.map PyData.int)
def dK2 (k : PK) : PyData := .tuple [dI k.1, dI k.2]
theorem nums_inj : ∀ {a b : List Int}, a.map NestedKey.num = b.map NestedKey.num → a = b
  | [], [], _ => rfl
  | [], _ :: _, e => by simp at e
  | _ :: _, [], e => by simp at e
  | x :: xs, y :: ys, e => by
    rw [List.map_cons, List.map_cons] at e
    injection e with e1 e2
    injection e1 with e1
    rw [e1, nums_inj e2]
theorem nk1_inj {a b : List Int} (e : nk1 a = nk1 b) : a = b := by
  unfold nk1 at e
  injection e with e
  exact nums_inj e
theorem nk_inj {a b : PK} (e : nk a = nk b) : a = b := by
  unfold nk at e
  injection e with e
  injection e with e1 e2
  injection e2 with e2 _
  exact Prod.ext (nk1_inj e1) (nk1_inj e2)
theorem depth_nums : ∀ l : List Int, NestedKey.depthAll (l.map NestedKey.num) = 0
  | [] => rfl
  | x :: l => by
    show max 0 (NestedKey.depthAll (l.map NestedKey.num)) = 0
    rw [depth_nums l]
    rfl
theorem nk_deep (k : PK) : (nk k).depth ≤ 8 := by
  show max (NestedKey.depthAll (k.1.map NestedKey.num) + 1) (max (NestedKey.depthAll (k.2.map NestedKey.num) + 1) 0) + 1 ≤ 8
  rw [depth_nums, depth_nums]
  decide
theorem nested_ints {h : Heap} : ∀ {l : List Int} {us : List Value}, Vals (l.map V.int) us → NestedAll h (l.map NestedKey.num) us
  | [], _, r => by
    rw [List.map_nil] at r
    cases r
    exact .nil
  | n :: l, _, r => by
    rw [List.map_cons] at r
    cases r with
    | cons h t =>
      obtain ⟨tk, rfl⟩ := h
      exact .cons (.int _ _) (nested_ints t)
section
variable {X : Cx} {pins : List (Addr × Obj)} {σ : L2.St} {H : Hp} {s : Shared}
theorem nested_one {v : V} {u : Value} {l : List Int} (I : Inv X pins σ H s) (d : Dp X.K H v (dI l)) (r : RelV v u) : NestedIs s.heap (nk1 l) u := by
  obtain ⟨a, xs, rfl, hs, hd⟩ := dp_tup d
  rw [dps_ints_inv hd] at hs
  obtain ⟨its, rv, ⟨o, e, c, n, dd⟩, _⟩ := I.tuple hs
  cases (show u = Value.ref a from r)
  exact .tup e c dd (by simpa using nested_ints rv)
/-- a tracked pair of tuples of ints is a key -/
theorem key_is {b : Addr} {k : PK} (I : Inv X pins σ H s) (d : Dp X.K H (.ref b) (dK2 k)) : (nestedKind X.prog X.w).is s.heap (nk k) b := by
  obtain ⟨a, xs, ea, hs, hd⟩ := dp_tup d
  cases ea
  cases hd with
  | cons h1 h2 =>
    cases h2 with
    | cons h2 h3 =>
      cases h3
      obtain ⟨its, rv, ⟨o, e, c, n, dd⟩, _⟩ := I.tuple hs
      cases rv with
      | cons r1 r2 =>
        cases r2 with
        | cons r2 r3 =>
          cases r3
          exact ⟨.tup e c dd (.cons (nested_one I h1 r1) (.cons (nested_one I h2 r2) .nil)), nk_deep k⟩
end
/-- the entries: key, the key's tuple, value -/
abbrev Ent := PK × Addr × V
def EntR : Ent → NestedKey × Addr × Value → Prop := fun p q => nk p.1 = q.1 ∧ p.2.1 = q.2.1 ∧ RelV p.2.2 q.2.2
def HN (P : Program) (w : World) (a : Addr) (kvs : List Ent) : HO := .ext fun h => kvs.length ≤ 1000 ∧ (a == sysModules) = false ∧ ∃ xs : List (NestedKey × Addr × Value), Paired EntR kvs xs ∧
  ∃ o es ep, h.get? a = some o ∧ o.ExactDict ∧ o.data = .dict es ep ∧ es.toList = xs.map (entryOfKey (nestedKind P w)) ∧ (xs.map (·.1)).Nodup
def Keys2 (K : PySem.W.Frag) (H : Hp) (kvs : List Ent) : Prop := ∀ e ∈ kvs, Dp K H (.ref e.2.1) (dK2 e.1)
theorem hn_ok {P : Program} {w : World} {H : Hp} {h : Heap} {a : Addr} {kvs : List Ent} (hl : kvs.length ≤ 1000) (hs : (a == sysModules) = false) {xs : List (NestedKey × Addr × Value)} (pr : Paired EntR kvs xs)
    {o : Obj} {es : Array DictEntry} {ep : Nat} (e : h.get? a = some o) (c : o.ExactDict) (dd : o.data = .dict es ep) (le : es.toList = xs.map (entryOfKey (nestedKind P w))) (nd : (xs.map (·.1)).Nodup) : ObjOk P w H h a (HN P w a kvs) := by
  refine ⟨⟨hl, hs, xs, pr, o, es, ep, e, c, dd, le, nd⟩, ⟨o, e⟩, fun h1 h2 q k => ?_⟩
  obtain ⟨hl, hs, xs, pr, o, es, ep, e, c⟩ := q
  exact ⟨hl, hs, xs, pr, o, es, ep, k o e, c⟩
theorem paired_at {α β : Type} {F : α → β → Prop} : ∀ {l : List α} {m : List β} {i : Nat} {x : α}, Paired F l m → l[i]? = some x → ∃ y, m[i]? = some y ∧ F x y
  | _, _, _, _, .nil, e => by simp at e
  | _, _, 0, _, .cons h _, e => by
    simp at e
    subst e
    exact ⟨_, rfl, h⟩
  | _, _, i + 1, x, .cons _ t, e => by
    obtain ⟨y, h1, h2⟩ := paired_at (i := i) t (by simpa using e)
    exact ⟨y, by simpa using h1, h2⟩
theorem paired_from {α β : Type} {F : α → β → Prop} : ∀ {l : List α} {m : List β} {y : β}, Paired F l m → y ∈ m → ∃ x ∈ l, F x y
  | _, _, _, .nil, e => (List.not_mem_nil e).elim
  | _, _, y, .cons h t, e => by
    rcases List.mem_cons.mp e with rfl | e
    · exact ⟨_, List.mem_cons_self, h⟩
    · obtain ⟨x, hx, hF⟩ := paired_from t e
      exact ⟨x, List.mem_cons_of_mem _ hx, hF⟩
section
variable {X : Cx} {pins : List (Addr × Obj)} {σ : L2.St} {H : Hp} {s : Shared} {a : Addr} {kvs : List Ent}
/-- what the entry says -/
theorem hn_rd (I : Inv X pins σ H s) (r : Rd H a (HN X.prog X.w a kvs)) (ky : Keys2 X.K H kvs) : kvs.length ≤ 1000 ∧ (a == sysModules) = false ∧ ∃ xs, Paired EntR kvs xs ∧ s.heap.DictOfH (nestedKind X.prog X.w) a xs := by
  obtain ⟨⟨hl, hs, xs, pr, o, es, ep, e, c, dd, le, nd⟩, _⟩ := (show ObjOk X.prog X.w H s.heap a (HN X.prog X.w a kvs) from r.ok I.hok)
  refine ⟨hl, hs, xs, pr, o, es, ep, e, c, dd, le, fun x hx => ?_, nd⟩
  obtain ⟨y, hy, h1, h2, _⟩ := paired_from pr hx
  rw [← h1, ← h2]
  exact key_is I (ky y hy)
theorem hn_at {xs : List (NestedKey × Addr × Value)} {k : PK} {c : Addr} {v : V} (pr : Paired EntR kvs xs) (nd : (xs.map (·.1)).Nodup) (m : (k, c, v) ∈ kvs) : ∃ w', atKey xs (nk k) = some (c, w') ∧ RelV v w' := by
  obtain ⟨i, il, ei⟩ := List.getElem_of_mem m
  obtain ⟨⟨k', c', w'⟩, hy, h1, h2, h3⟩ := paired_at (i := i) pr (by rw [List.getElem?_eq_getElem il, ei])
  have h1' : nk k = k' := h1
  have h2' : c = c' := h2
  subst h1' h2'
  exact ⟨w', atKey_of_get nd hy, h3⟩
theorem hn_off {xs : List (NestedKey × Addr × Value)} {k : PK} (pr : Paired EntR kvs xs) (no : ∀ e ∈ kvs, e.1 ≠ k) : atKey xs (nk k) = none := by
  refine atKey_none_of_get fun j p e => ?_
  obtain ⟨x, hx, h1, _⟩ := paired_from pr (List.mem_of_getElem? e)
  exact no x hx (nk_inj h1)
end
/-- d[k] -/
def tNGet (P : Program) (w : World) (K : PySem.W.Frag) (td ty : TE) : TE := fun σ H Q => td σ H fun x H1 => ty σ H1 fun y H2 => ∃ a kvs k b c v, x = .ref a ∧ Rd H2 a (HN P w a kvs) ∧ Keys2 K H2 kvs ∧ y = .ref b ∧ Dp K H2 (.ref b) (dK2 k) ∧ (k, c, v) ∈ kvs ∧ Q v H2
/-- d[k] = v, k not there yet -/
def sNPut (P : Program) (w : World) (K : PySem.W.Frag) (td ty tv : TE) : TS := fun D σ H => tv σ H fun v H1 => td σ H1 fun x H2 => ty σ H2 fun y H3 => ∃ a kvs k b, x = .ref a ∧ H3 a = some (HN P w a kvs) ∧ Keys2 K H3 kvs ∧ y = .ref b ∧ Dp K H3 (.ref b) (dK2 k) ∧
  (∀ e ∈ kvs, e.1 ≠ k) ∧ kvs.length < 1000 ∧ D.nx σ (upd H3 a (HN P w a (kvs ++ [(k, b, v)])))
def tNNew (P : Program) (w : World) : TE := fun _ H Q => ∀ p, H p = none → Q (.ref p) (upd H p (HN P w p []))
section
variable {X : Cx} {P : Program} {w : World} {K : PySem.W.Frag} {o i value : Expr} {pos pos' : Pos} {td ty tv : TE}
theorem pe_nnew (hP : X.prog = P := by rfl) (hw : X.w = w := by rfl) : PE X (.Dict [] [] pos) (tNNew P w) := by
  subst hP
  subst hw
  refine ⟨fun pins s σ H Q I h => ?_⟩
  refine wpAny_Dict_empty ⟨.ref s.heap.objs.size, _, I.laid (a := s.heap.objs.size) (o := HN X.prog X.w s.heap.objs.size []) (t' := s.toks) (fun _ _ q => Heap.get?_push_of_some _ q) (Nat.le_refl _) ?_, rfl, h _ (I.hok.fresh (Nat.le_refl _))⟩
  exact hn_ok (Nat.zero_le _) (beq_eq_false_iff_ne.mpr (Ne.symm (Nat.ne_of_lt I.big))) .nil (Heap.get?_push_size _ rfl) ⟨rfl, rfl, rfl⟩ rfl rfl List.nodup_nil
theorem pe_nget (hu : X.A.units + 9 < cLine) (ho : PE X o td) (hi : PE X i ty) (hs : NoSl i) (hP : X.prog = P := by rfl) (hw : X.w = w := by rfl) (hK : X.K = K := by rfl) : PE X (.Subscript o i pos) (tNGet P w K td ty) := by
  subst hP
  subst hw
  subst hK
  refine ⟨fun pins s σ H Q I h => ?_⟩
  refine subD_of PySem.F.slot_dict_getitem.lookup hs (thn (ho.run pins s σ H _ I h) fun u s1 ⟨x, H1, I1, rx, q1⟩ => thn (hi.run pins s1 σ H1 _ I1 q1) fun iv s2 ⟨y, H2, I2, ry, a, kvs, k, b, c, v, ex, g, ky, ey, dk, m, q2⟩ => ?_)
  subst ex
  subst ey
  obtain rfl : u = Value.ref a := rx
  obtain rfl : iv = Value.ref b := ry
  obtain ⟨hl, hsy, xs, pr, dd⟩ := hn_rd I2 g ky
  obtain ⟨w', e1, r1⟩ := hn_at pr (by obtain ⟨_, _, _, _, _, _, _, _, nd⟩ := id dd; exact nd) m
  refine ⟨dd.typeIs, ?_⟩
  refine wpAny_getItem_heap (show X.A.in1.units + 8 < cLine from ?_) (key_is I2 dk) dd e1 ?_
  · show X.A.units + 1 + 8 < cLine
    omega
  · exact ⟨v, H2, I2.tok _, r1, q2⟩
theorem ps_nput (hu : X.A.units + 9 < cLine) (ho : PE X o td) (hi : PE X i ty) (hv : PE X value tv) (hs : swapsWith value (some (.Subscript o i pos')) pos.line X.env = pure false) (hP : X.prog = P := by rfl) (hw : X.w = w := by rfl) (hK : X.K = K := by rfl) :
    PS X (.Assign [.Subscript o i pos'] value pos) (sNPut P w K td ty tv) := by
  subst hP
  subst hw
  subst hK
  refine ⟨fun pins s σ H D I h => ?_⟩
  refine wpAny_Assign_Subscript (thn (hv.run pins s σ H _ I h) fun r s1 ⟨v, H1, I1, rv, q1⟩ => thn (ho.run pins s1 σ H1 _ I1 q1) fun u s2 ⟨x, H2, I2, rx, q2⟩ => thn (hi.run pins s2 σ H2 _ I2 q2) fun iv s3 ⟨y, H3, I3, ry, a, kvs, k, b, ex, ha, ky, ey, dk, no, few, q3⟩ => ?_) hs
  subst ex
  subst ey
  obtain rfl : u = Value.ref a := rx
  obtain rfl : iv = Value.ref b := ry
  obtain ⟨hl, hsy, xs, pr, dd⟩ := hn_rd I3 (.inl ha) ky
  have len := Paired.length pr
  have off := hn_off pr no
  refine wpAny_setItem_heap (hsz := by rw [sizeLine_eq]; omega) (show X.A.in1.units + 8 < cLine from ?_) (key_is I3 dk) dd fun h' dd' sb => ?_
  · show X.A.units + 1 + 8 < cLine
    omega
  · rw [storedH_new off] at dd'
    obtain ⟨ob, es, ep, hq, h2, h3, h4, _, h5⟩ := dd'
    refine ⟨σ, _, d_write I3 (by rw [ha]; exact True.intro) sb ⟨ob, hq⟩ (hn_ok (by rw [List.length_append]; exact few) hsy (Paired.snoc pr ⟨rfl, rfl, rv⟩) hq h2 h3 h4 h5), q3⟩
end
/-! ### the walk over its keys -/
def ItN (P : Program) (w : World) (d : Addr) (o : Obj) (kvs : List Ent) : It :=
  ⟨fun i H => H d = some (.frz o (HN P w d kvs)) ∧ i < kvs.length, fun i H x H' => H' = H ∧ ∃ (k : PK) (c : Addr) (v : V), kvs[i]? = some (k, c, v) ∧ x = .ref c, fun i H => H d = some (.frz o (HN P w d kvs)) ∧ kvs.length ≤ i⟩
section
variable {X : Cx} {pins : List (Addr × Obj)} {σ : L2.St} {H : Hp} {s : Shared} {d : Addr} {kvs : List Ent} {o : Obj}
theorem frzN (I : Inv X pins σ H s) (h : H d = some (.frz o (HN X.prog X.w d kvs))) : (d == sysModules) = false ∧ s.heap.get? d = some o ∧ o.ExactDict ∧ ∃ (es : Array DictEntry) (ep : Nat), o.data = .dict es ep ∧ es.size = kvs.length ∧
    ∀ (i : Nat) (k : PK) (c : Addr) (v : V), kvs[i]? = some (k, c, v) → ∃ en : DictEntry, es[i]? = some en ∧ en.key = .ref c := by
  obtain ⟨hd, ⟨hl, hs, xs, pr, o', es, ep, ho, hx, hdt, he, _⟩, _⟩ := I.hok d _ h
  rw [hd] at ho
  cases ho
  refine ⟨hs, hd, hx, es, ep, hdt, ?_, fun i k c v e => ?_⟩
  · have l1 : es.size = xs.length := size_of_entries he
    have l2 : kvs.length = xs.length := Paired.length pr
    omega
  · obtain ⟨b, hb, e1, e2, _⟩ := paired_at pr e
    have q := entry_at he i
    rw [hb] at q
    have e2' : c = b.2.1 := e2
    exact ⟨_, q, by rw [e2']; rfl⟩
end
theorem turn_keysN {P : Program} {w : World} {K : PySem.W.Frag} {tg : Expr} {d : Addr} {o : Obj} {es : Array DictEntry} {ep : Nat} {kvs : List Ent} (it : Addr) (hod : o.data = .dict es ep) : Turn P w K tg (ItN P w d o kvs) [it] it (fun i h => h.IsKeyIter it d i kvs.length ep) where
  mem := by simp
  obj := fun i h st b hb => by
    have e : b = it := by simpa using hb
    subst e
    obtain ⟨oi, e, c, dd⟩ := st
    exact ⟨oi, e, fun v z => by rw [dd] at z; cases z⟩
  keep := fun i h h' st k => st.at fun oi e => k it (by simp) oi e
  item := by
    intro X hP hw hK hc i pins s σ H E I hf st hg
    subst hP hw hK
    obtain ⟨hd, hi⟩ := hg
    obtain ⟨f0, f1, f2, f3, f4, f5⟩ := hf it (by simp)
    obtain ⟨hs, hgd, hx, es', ep', hdt, hsz, ent⟩ := frzN I hd
    obtain ⟨rfl, rfl⟩ := dict_ep hod hdt
    obtain ⟨⟨k, c, v⟩, hkv⟩ : ∃ p, kvs[i]? = some p := ⟨kvs[i], List.getElem?_eq_getElem hi⟩
    obtain ⟨en, hen, hkey⟩ := ent i k c v hkv
    refine next_key_item st hgd hdt hsz hen fun h' st' sb => ?_
    have I1 : Inv X pins σ H { s with heap := h' } := I.turned (t' := s.toks) (fun b ob hb e => (sb.2 b hb).trans e) f0 f1 f3 f4 f5
    obtain ⟨oi, e, cc, dd⟩ := id st'
    exact ⟨en.key, rfl, go_of (s := { s with heap := h' }) e cc dd (by decide) ⟨.ref c, H, I1, hkey, ⟨rfl, k, c, v, hkv, rfl⟩, st', fun b hb => (hf b hb).1⟩⟩
  done := by
    intro X hP hw hK hc i pins s σ H E I hf st hg
    subst hP hw hK
    obtain ⟨hd, hi⟩ := hg
    obtain ⟨f0, f1, f2, f3, f4, f5⟩ := hf it (by simp)
    obtain ⟨hs, hgd, hx, es', ep', hdt, hsz, ent⟩ := frzN I hd
    obtain ⟨rfl, rfl⟩ := dict_ep hod hdt
    exact next_key_end (I.ok.hd hc) st hgd hdt hsz hi fun h' eb => ⟨rfl, I.turned (t' := s.toks) (fun b ob hb e => eb b ob hb e) f0 f1 f3 f4 f5⟩
  self := fun A i s Q E st h => by
    refine wpAny_pyIter_slot st.typeIs PySem.F.slot_dict_keyiterator_iter (wpAny_call_entry PySem.F.slot_dict_keyiterator_iter st.typeIs PySem.F.entry_dict_keyiterator_iter ?_ (PySem.F.args_dict_keyiterator_iter_1 _))
    show wpAny _ _ (ret (.ref it)) _ _ s
    exact wpAny_pure ⟨_, rfl, "dict_keyiterator", _, st.typeIs, PySem.F.slot_dict_keyiterator_next.lookup, h⟩
def iKeysN (P : Program) (w : World) (td : TE) : TI := fun σ H R => td σ H fun x H1 => ∃ d o kvs, x = .ref d ∧ H1 d = some (.frz o (HN P w d kvs)) ∧ R (ItN P w d o kvs) H1
theorem pi_keysN {X : Cx} {P : Program} {w : World} {tg e : Expr} {td : TE} (he : PE X e td) (hP : X.prog = P := by rfl) (hw : X.w = w := by rfl) : PI X tg e (iKeysN P w td) := by
  subst hP
  subst hw
  refine ⟨fun pins s σ H R I h => ?_⟩
  refine thn (he.run pins s σ H _ I h) fun u s1 ⟨x, H1, I1, rx, d, o, kvs, ex, hd, q⟩ => ?_
  subst ex
  obtain rfl : u = Value.ref d := rx
  obtain ⟨hs, hgd, hx, es, ep, hdt, hsz, ent⟩ := frzN I1 hd
  refine iter_keys hs hgd hx hdt (pi_one (tk := s1.toks) I1 _ (turn_keysN _ hdt) ⟨_, Heap.get?_push_size _ rfl, rfl, ?_⟩ q)
  rw [hsz] <;> rfl
theorem walk_keysN {P : Program} {w : World} {d : Addr} {o : Obj} {kvs : List Ent} : Walk (ItN P w d o kvs) kvs.length (fun H => H d = some (.frz o (HN P w d kvs)))
    (fun i H x H' => H' = H ∧ ∃ (k : PK) (c : Addr) (v : V), kvs[i]? = some (k, c, v) ∧ x = .ref c) :=
  ⟨fun _ _ hi q => ⟨q, hi⟩, fun _ q => ⟨q, Nat.le_refl _⟩, fun _ _ _ _ _ _ y => y⟩
theorem op_notInK {X : Cx} {K : PySem.W.Frag} (hK : X.K = K := by rfl) : OpR X (compareOp .NotIn) (rIn K true) := hK ▸ op_notIn_seq
end V5

/-! V6: fields within a comprehension; bits of ints. -/
namespace V6
open PySem PySem.Spec PyProof.Rows L2 W1
theorem pe_fldK {X : Cx} {K : PySem.W.Frag} {e : Expr} {f : Str} {pos : Pos} {ta : TE} (he : PE X e ta) (hb : attributeBase e f X.env (eval e X.env) = eval e X.env) (hK : X.K = K := by rfl) : PE X (.Attribute e f pos) (tFld K ta f) := hK ▸ pe_fld he hb
def tTru (K : PySem.W.Frag) (ta : TE) : TT := fun σ H Q => ta σ H fun x H' => ∃ k, TruV K x H' k ∧ Q k H'
theorem pt_truthK {X : Cx} {K : PySem.W.Frag} {a : Expr} {ta : TE} (ha : PE X a ta) (he : ∀ whole, isTrue a X.env whole = (do let v ← whole; standAt a.pos; holding [v] (truthy v))) (hK : X.K = K := by rfl) : PT X a (tTru K ta) := hK ▸ pt_truth ha he
/-- the number whose bits below N are f -/
def bitsN : Nat → (Nat → Bool) → Nat
  | 0, _ => 0
  | N + 1, f => (if f 0 = true then 1 else 0) + 2 * bitsN N fun i => f (i + 1)
theorem bits_test : ∀ (N : Nat) (f : Nat → Bool) (i : Nat), (bitsN N f).testBit i = (decide (i < N) && f i)
  | 0, f, i => by
    rw [decide_eq_false (Nat.not_lt_zero i)]
    exact Nat.zero_testBit i
  | N + 1, f, 0 => by
    rw [decide_eq_true (Nat.succ_pos N), Bool.true_and]
    show ((if f 0 = true then 1 else 0) + 2 * bitsN N _).testBit 0 = f 0
    rw [Nat.testBit_zero]
    cases f 0 with
    | true =>
      rw [if_pos rfl]
      exact decide_eq_true (by omega)
    | false =>
      rw [if_neg Bool.false_ne_true]
      exact decide_eq_false (by omega)
  | N + 1, f, i + 1 => by
    show ((if f 0 = true then 1 else 0) + 2 * bitsN N _).testBit (i + 1) = _
    rw [Nat.testBit_succ]
    have e : ((if f 0 = true then 1 else 0) + 2 * bitsN N fun i => f (i + 1)) / 2 = bitsN N fun i => f (i + 1) := by
      split <;> omega
    rw [e, bits_test N _ i]
    by_cases h : i < N
    · rw [decide_eq_true h, decide_eq_true (by omega : i + 1 < N + 1)]
    · rw [decide_eq_false h, decide_eq_false (by omega : ¬ i + 1 < N + 1)]
theorem bits_ext {m N : Nat} {f : Nat → Bool} (h : ∀ i, m.testBit i = (decide (i < N) && f i)) : m = bitsN N f := Nat.eq_of_testBit_eq fun i => by rw [h, bits_test]
theorem bits_and (N : Nat) (f g : Nat → Bool) : bitsN N f &&& bitsN N g = bitsN N fun i => f i && g i := bits_ext fun i => by
  rw [Nat.testBit_and, bits_test, bits_test]
  cases decide (i < N) <;> simp
theorem bits_or (N : Nat) (f g : Nat → Bool) : bitsN N f ||| bitsN N g = bitsN N fun i => f i || g i := bits_ext fun i => by
  rw [Nat.testBit_or, bits_test, bits_test]
  cases decide (i < N) <;> simp
theorem bits_xor (N : Nat) (f : Nat → Bool) : bitsN N (fun _ => true) ^^^ bitsN N f = bitsN N fun i => !f i := bits_ext fun i => by
  rw [Nat.testBit_xor, bits_test, bits_test]
  cases decide (i < N) <;> cases f i <;> rfl
theorem bits_none (N : Nat) : bitsN N (fun _ => false) = 0 := (bits_ext fun i => by rw [Nat.zero_testBit, Bool.and_false]).symm
theorem bits_one (b : Nat → Bool) : bitsN 1 b = if b 0 = true then 1 else 0 := rfl
def rBit (f : Nat → Nat → Nat) : R2 := fun x y H Q => ∃ a b : Nat, x = .int (a : Int) ∧ y = .int (b : Int) ∧ Q (.int ((f a b : Nat) : Int)) H
theorem op_andB {X : Cx} : OpR X (binaryOp .BitAnd) (rBit (· &&& ·)) := by
  intro pins s σ H x y v u Q I rx ry h
  obtain ⟨a, b, rfl, rfl, q⟩ := h
  refine op_and pins s σ H _ _ v u Q I rx ry ⟨_, _, rfl, rfl, ?_⟩
  show Q (V.int (Builtin.bitAnd (a : Int) (b : Int))) H
  rw [bitAnd_pp (Int.natCast_nonneg a) (Int.natCast_nonneg b), Int.toNat_natCast, Int.toNat_natCast]
  exact q
theorem op_orB {X : Cx} : OpR X (binaryOp .BitOr) (rBit (· ||| ·)) := by
  intro pins s σ H x y v u Q I rx ry h
  obtain ⟨a, b, rfl, rfl, q⟩ := h
  refine op_or pins s σ H _ _ v u Q I rx ry ⟨_, _, rfl, rfl, ?_⟩
  show Q (V.int (Builtin.bitOr (a : Int) (b : Int))) H
  rw [Bits.bitOr_pp (Int.natCast_nonneg a) (Int.natCast_nonneg b), Int.toNat_natCast, Int.toNat_natCast]
  exact q
theorem op_xorB {X : Cx} : OpR X (binaryOp .BitXor) (rBit (· ^^^ ·)) := by
  intro pins s σ H x y v u Q I rx ry h
  obtain ⟨a, b, rfl, rfl, q⟩ := h
  refine op_xor pins s σ H _ _ v u Q I rx ry ⟨_, _, rfl, rfl, ?_⟩
  show Q (V.int (Builtin.bitXor (a : Int) (b : Int))) H
  rw [Bits.bitXor_pp (Int.natCast_nonneg a) (Int.natCast_nonneg b), Int.toNat_natCast, Int.toNat_natCast]
  exact q
end V6

/-! V7: t.index(x) of a tuple of flat values; isinstance(x, tuple). -/
namespace V7
open PySem PySem.Spec PyProof.Rows L2 W1
def rIndexT (K : PySem.W.Frag) : V → List V → Hp → VK → Prop := fun x xs H Q => ∃ (a : Addr) (ys : List V) (y : V) (j : Nat) (z : V), x = V.ref a ∧ xs = [y] ∧ SqT K H a ys ∧ flatV y = true ∧ ys.all flatV = true ∧ ys[j]? = some z ∧ eqV z y = true ∧
  (∀ (m : Nat) (z' : V), m < j → ys[m]? = some z' → eqV z' y = false) ∧ Q (.int (j : Nat)) H
theorem mt_tup_index {X : Cx} {K : PySem.W.Frag} (hK : X.K = K := by rfl) : MtR X "tuple.index" (rIndexT K) := by
  subst hK
  intro pins s σ H x xs v us Q I rx rxs h
  obtain ⟨a, ys, y, j, z, rfl, rfl, hs, fy, fys, hz, hzj, hno, q⟩ := h
  cases rx
  cases rxs with
  | cons ry rt =>
    rename_i uy ut
    cases rt
    obtain ⟨its, rv, ⟨⟨cls, dd, data, sl⟩, ho, hc, n, hd⟩, hlen⟩ := I.tuple hs
    simp only at hc hd
    subst hc hd
    obtain ⟨u, hu, ru⟩ := rv.get hz
    obtain ⟨hjl, hje⟩ := List.getElem?_eq_some_iff.mp hu
    have hvl := rv.length
    have hj : j < its.toArray.size := by simpa using hjl
    refine call_meets PySem.F.slot_tuple_index ⟨_, ho, rfl⟩ PySem.F.entry_tuple_index (PySem.F.args_tuple_index_2 _ _)
      (TI.tuple_indexAt a its.toArray n dd sl uy (eqU y) j hj ?_ ?_) ⟨ho, fun u' hu' => mem_eqAt ry fy rv fys u' (by simpa using hu'), ?_⟩
    · have e1 : its.toArray[j] = u := by simpa using hje
      rw [e1, eqU_of ru (flat_at fys hz)]
      exact hzj
    · intro m hm hmj
      have hml : m < its.length := by simpa using hm
      have hmy : m < ys.length := by omega
      have hy' : ys[m]? = some ys[m] := List.getElem?_eq_getElem hmy
      obtain ⟨u2, hu2, ru2⟩ := rv.get hy'
      obtain ⟨_, hme⟩ := List.getElem?_eq_some_iff.mp hu2
      have e1 : its.toArray[m] = u2 := by simpa using hme
      rw [e1, eqU_of ru2 (flat_at fys hy')]
      exact hno m _ hmj hy'
    · exact ⟨.int (j : Nat), H, I.tok _, ⟨_, rfl⟩, q⟩
theorem op_repTK {X : Cx} {K : PySem.W.Frag} (hK : X.K = K := by rfl) : OpR X (binaryOp .Mult) (rRepT K) := hK ▸ op_repT
def rTupF (K : PySem.W.Frag) : List V → Hp → VK → Prop := fun vs H Q => ∃ p ys, vs = [.ref p] ∧ SqL K H p ys ∧ ∀ l (o : Obj), H l = none → o.dict = none → o.cls = .type "tuple" → Q (.ref l) (upd H l (.frz o (.tup ys)))
theorem call_tupleF {X : Cx} {K : PySem.W.Frag} (hK : X.K = K := by rfl) : CallR X (.type "tuple") (rTupF K) := by
  subst hK
  intro pins s σ H xs us Q I r h
  obtain ⟨p, ys, rfl, hq, q⟩ := h
  obtain ⟨u, rfl, rx⟩ := vals1 r
  cases rx
  obtain ⟨its, r', pl, hz⟩ := I.list hq
  have hlen := r'.length
  refine call_tuple_list pl.isList (fun h' kp => ?_) (by simp only [List.size_toArray] <;> omega)
  have I1 : Inv X pins σ H { s with heap := h' } := I.kept (t' := s.toks) kp
  have I2 : Inv X pins σ (upd H h'.objs.size (.frz { cls := .type "tuple", data := .seq its.toArray } (.tup ys))) { s with heap := h'.push { cls := .type "tuple", data := .seq its.toArray } } :=
    I1.laid (t' := s.toks) (fun b o e => Heap.get?_push_of_some _ e) (Nat.le_refl _) (show ObjOk X.prog X.w _ _ _ (.frz _ (.tup ys)) from ⟨Heap.get?_push_size _ rfl, hz, its, r', IsTup.new _ _⟩)
  exact ⟨.ref h'.objs.size, _, I2, rfl, q _ _ (I1.hok.fresh (Nat.le_refl _)) rfl rfl⟩
def tBMF (K : PySem.W.Frag) (r : V → List V → Hp → VK → Prop) (to : TE) (t : TA) : TE := fun σ H Q => to σ H fun x H1 => (∃ p o ys, x = .ref p ∧ H1 p = some (.frz o (.tup ys)) ∧ o.dict = none ∧ o.cls = .type "tuple") ∧ t σ H1 fun xs H2 => r x xs H2 Q
theorem pe_idx {X : Cx} {K : PySem.W.Frag} {o e : Expr} {es : List Expr} {to : TE} {t : TA} {apos cpos : Pos} (ho : PE X o to) (ha : PA X (e :: es) t)
    (hbase : attributeBase o "index" X.env (eval o X.env) = eval o X.env := by rfl)
    (hfew : ((backTo cpos (starEach (e :: es) X.env)).all (fun x => !x.1) && (backToKw cpos (keywordEach [] X.env)).all (fun x => x.1.isSome)
      && decide ((e :: es).length + ([] : List Keyword).length + (if ([] : List Keyword).isEmpty then 0 else 1) < 30)) = true := by rfl)
    (hline : (apos.endLine == cpos.line) = true := by rfl) (hs : starEach (e :: es) X.env = (false, eval e X.env) :: starEach es X.env := by rfl) (hplain : (backTo cpos (starEach es X.env)).any (·.1) = false := by rfl) (hK : X.K = K := by rfl) :
    PE X (.Call (.Attribute o "index" apos) (e :: es) [] cpos) (tBMF K (rIndexT K) to t) := by
  subst hK
  refine ⟨fun pins s σ H Q I h => ?_⟩
  refine wpAny_Call_method_late hbase hfew hline rfl (thn (ho.run pins s σ H _ I h) fun v s1 ⟨x, H1, I1, r1, ty, q1⟩ => ?_)
  obtain ⟨p, ob, ys, rfl, hp, hd, hc⟩ := ty
  cases r1
  obtain ⟨g1, _⟩ := (show ObjOk X.prog X.w H1 s1.heap p (.frz ob (.tup ys)) from I1.hok p _ hp)
  refine ⟨"tuple", "tuple.index", PySem.F.plainAttrs_tuple, PySem.F.slot_tuple_index, PySem.F.type_tuple_index, ⟨ob, g1, hc⟩, fun a e => by cases e; exact ⟨ob, g1, hd⟩, ?_⟩
  have hA := ha.run cpos pins s1 σ H1 _ I1 q1
  rw [hs] at hA ⊢
  refine Calls.callWith_builtin (by show (false || (backTo cpos (starEach es X.env)).any (·.1)) = false; rw [hplain] <;> rfl) (Calls.evalArgs_plain ?_)
  exact thn hA fun us s2 ⟨vs, H2, I2, r2, q2⟩ => mt_tup_index (K := X.K) rfl pins s2 σ H2 (.ref p) vs (.ref p) us Q I2 rfl r2 q2
def rIsTup (K : PySem.W.Frag) : List V → Hp → VK → Prop := fun xs H Q => ∃ x, xs = [x, .ty "tuple"] ∧ (((∃ t ys, x = .ref t ∧ SqT K H t ys) ∧ Q (.bl true) H) ∨ (((∃ s, x = .str s) ∨ ∃ i, x = .int i) ∧ Q (.bl false) H))
theorem call_isTup {X : Cx} {K : PySem.W.Frag} (hK : X.K = K := by rfl) : CallR X (.builtin "isinstance") (rIsTup K) := by
  subst hK
  intro pins s σ H xs us Q I r h
  refine call_isi pins s σ H xs us Q I r ?_
  obtain ⟨x, rfl, ⟨⟨t, ys, rfl, hs⟩, q⟩ | ⟨⟨y, rfl⟩ | ⟨i, rfl⟩, q⟩⟩ := h
  · have ty : TyX X.K H (.ref t) (.type "tuple") := by
      rcases hs with hs | ⟨o, its, n, h1, h2, _⟩
      · rcases hs with hs | ⟨o, hs⟩
        · exact .base (.tup hs)
        · exact .fTuple hs
      · exact .kTuple h1 h2
    exact ⟨_, _, _, _, true, rfl, .ty "tuple", ty, kit_ty (by decide +kernel), q⟩
  · exact ⟨_, _, _, _, false, rfl, .ty "tuple", .base (.str y), kit_ty (by decide +kernel), q⟩
  · exact ⟨_, _, _, _, false, rfl, .ty "tuple", .base (.int i), kit_ty (by decide +kernel), q⟩
/-- f(a = x, b = y, ..), all parameters by their names, in the def's order -/
def KB0 (K : PySem.W.Frag) (fd : FuncData) (ps : List Str) : Prop := ∀ (s : Shared) (ws : List Value), K.In s.heap → ws.length = ps.length → BindsTo s fd ⟨[], ps.zip ws⟩ (ps.zip ws)
theorem kb0_of {K : PySem.W.Frag} {x qual : Str} {st : Stmt} {f : Addr} {fd : FuncData} {ps : List Str} (F : Fun K x qual st f fd)
    (h : ∀ (kV doc pm : Value) (an : Option Addr) (cdv ct : Value) (us : List Value), us.length = ps.length → bindArgs (PySem.W.fnOf x qual (defArgs st) (defBody st) (defScope st) .none kV doc pm an cdv ct) ⟨[], ps.zip us⟩ = pure (ps.zip us)) : KB0 K fd ps := by
  obtain ⟨⟨oc, od, kV, doc, pm, an, cdv, ct, osl, rfl, l, c⟩, k⟩ := F
  exact fun s ws _ hl => .of_eq (h _ _ _ _ _ _ _ hl)
def tCall0K (sp : Sp) (E : XK) (tk : TA) : TE := fun σ H Q => tk σ H fun zs H2 => sp zs H2 Q E
section
variable {X : Cx} {CX : CXT} {k : Nat} {f : Addr} {fd : FuncData} {ps : List Str} {sp : Sp} {E : XK} {x : Str} {p pos : Pos} {kws : List Keyword} {tk : TA}
theorem pe_call0K (F : FnOk X.prog X.w X.K X.mg X.base CX k f fd ps sp) (hr : Room k X.A) (hg : Gl X x) (hm : X.mg x = some (.ref f)) (hk : PySem.W.keepIn X.K (.ref f) = true) (hb : KB0 X.K fd ps) (hx : Passes CX X E)
    (hkw : PK X kws tk) (hall : (backToKw pos (keywordEach kws X.env)).all (·.1.isSome) = true := by rfl) (hks : (backToKw pos (keywordEach kws X.env)).filterMap (·.1) = ps := by rfl)
    (hdb : (x == ("__debug__" : Str)) = false := by decide)
    (hpl : ((backTo pos (starEach [] X.env)).any (·.1) || (backToKw pos (keywordEach kws X.env)).any (·.1.isNone)) = false := by rfl) :
    PE X (.Call (.Name x p) [] kws pos) (tCall0K sp E tk) := by
  refine ⟨fun pins s σ H Q I h => ?_⟩
  refine wpAny_Call_Name_kw (ld_glob I hg hm ?_ hdb)
  refine PySem.W.callWith_KW0 (h₀ := X.base) I.ok.mod.kin hk hall ?_ hpl
  refine thn (hkw.run pos pins s σ H _ I h) fun ws s2 ⟨zs, H2, I2, rz, q2⟩ => ⟨I2.kIn, ?_⟩
  rw [hks]
  have hl : ws.length = ps.length := by rw [← rz.length]; exact F.len _ _ _ _ q2
  show wpAny _ _ (call (.ref f) [] (ps.zip ws)) _ _ _
  refine wpAny_call (codeAny_mono (F.run X.A X.stack s2 H2 ⟨[], ps.zip ws⟩ ws zs Q E hr I2.env0 (hb s2 ws I2.kIn hl) rz q2) fun r s' hq => ?_)
  cases r with
  | error e => exact hx pins σ H2 s2 e s' I2 hq
  | ok fl =>
    cases fl with
    | ret u => exact I2.after hq
    | next => exact False.elim hq
    | brk => exact False.elim hq
    | cont => exact False.elim hq
end
end V7

/-! V8: t * k, k from 0, as one promise. -/
namespace V8
open PySem PySem.Spec PyProof.Rows L2 W1
theorem mul_one (l : Addr) (items : Array Value) (n : Nat) (dd : Option Addr) (sl : Array (Option Value)) (u : Tok) :
    Meets (Builtin.«tuple.__mul__» ⟨[.ref l, .int 1 u], []⟩) (fun _ R s => s.heap.get? l = some { cls := .type "tuple", dict := dd, data := .seq items n, slots := sl } ∧ R (.ok (.ret (Value.ref l))) s) :=
  .of_wp fun prog w A R s h => by
    obtain ⟨hp, g, d, tk, os⟩ := s
    obtain ⟨hl, h⟩ := h
    have f1 := AutoSeq1.idx_int
    have c1 : (items.isEmpty || (1 : Int) == 1) = true := by simp
    have c0 : (decide ((1 : Int) < -(2 ^ 63)) || decide ((1 : Int) ≥ 2 ^ 63)) = false := by decide
    wp_walk using wpAny_loadPart' hl
    repeat (first
      | (refine wpAny_ite_false (decide_eq_false (by rw [c0]; exact Bool.false_ne_true)) ?_; wp_walk using wpAny_loadPart' hl)
      | (refine wpAny_ite_true (decide_eq_true c1) ?_; wp_walk using wpAny_loadPart' hl))
    exact ⟨_, rfl, h⟩
theorem mul_zero (l : Addr) (items : Array Value) (n : Nat) (dd : Option Addr) (sl : Array (Option Value)) (u : Tok) (c1 : (items.isEmpty || (0 : Int) == 1) = false) :
    Meets (Builtin.«tuple.__mul__» ⟨[.ref l, .int 0 u], []⟩) (fun _ R s => s.heap.get? l = some { cls := .type "tuple", dict := dd, data := .seq items n, slots := sl } ∧
      R (.ok (.ret (Value.ref s.heap.objs.size))) { s with heap := s.heap.push { cls := Value.type "tuple", data := Data.seq #[] }, toks := s.toks }) :=
  .of_wp fun prog w A R s h => by
    obtain ⟨hp, g, d, tk, os⟩ := s
    obtain ⟨hl, h⟩ := h
    have f1 := AutoSeq1.idx_int
    have c2 : (decide ((0 : Int) ≤ 0) || items.isEmpty) = true := by simp
    have c0 : (decide ((0 : Int) < -(2 ^ 63)) || decide ((0 : Int) ≥ 2 ^ 63)) = false := by decide
    wp_walk using wpAny_loadPart' hl
    repeat (first
      | (refine wpAny_ite_false (decide_eq_false (by rw [c0]; exact Bool.false_ne_true)) ?_; wp_walk using wpAny_loadPart' hl)
      | (refine wpAny_ite_false (decide_eq_false (by rw [c1]; exact Bool.false_ne_true)) ?_; wp_walk using wpAny_loadPart' hl)
      | (refine wpAny_ite_true (decide_eq_true c2) ?_; wp_walk using wpAny_loadPart' hl))
    exact ⟨_, rfl, h⟩
/-- t * k -/
def rRepW (K : PySem.W.Frag) : R2 := fun x y H Q => ∃ (l : Addr) (k : Nat) (xs : List V), x = .ref l ∧ y = .int (k : Int) ∧ SqT K H l xs ∧ xs ≠ [] ∧ k ≤ 1000 ∧ xs.length ≤ 1000 ∧ ∀ p H1, Same H H1 → SqT K H1 p (List.replicate k xs).flatten → Q (.ref p) H1
theorem op_repW {X : Cx} {K : PySem.W.Frag} (hK : X.K = K := by rfl) : OpR X (binaryOp .Mult) (rRepW K) := by
  subst hK
  intro pins s σ H x y v u Q I rx ry h
  obtain ⟨l, k, xs, rfl, rfl, hT, hne, h2, hz, q⟩ := h
  match k with
  | k + 2 =>
    refine op_repT pins s σ H _ _ v u Q I rx ry ⟨l, ((k + 2 : Nat) : Int), xs, rfl, rfl, hT, hne, by omega, by omega, hz, fun p np => ?_⟩
    rw [Int.toNat_natCast]
    exact q p _ (same_new np) (SqT.of upd_same)
  | 1 =>
    cases rx
    obtain ⟨t, rfl⟩ := ry
    obtain ⟨its, r, ⟨⟨cls, dd, data, sl⟩, ho, hc, n, hd⟩, hs⟩ := I.tuple hT
    simp only at hc hd
    subst hc hd
    refine wpAny_binaryOp_repeat_ref (T := "tuple") (U := "int") (by decide) ⟨_, ho, rfl⟩ (fun s' => typeIs_int s' 1 t) noFill_tuple_mul F.fills_int_mul F.slot_int_rmul repeat_tuple F.slot_int_index.lookup
      (call_meets F.slot_int_rmul (typeIs_int s 1 t) F.entry_int_rmul (F.args_int_rmul_2 _ _) (int_rmul_tuple 1 t l its.toArray n dd sl)
        ⟨ho, rfl, ⟨_, ho, rfl⟩, call_meets F.slot_tuple_mul ⟨_, ho, rfl⟩ F.entry_tuple_mul (F.args_tuple_mul_2 _ _) (mul_one l its.toArray n dd sl t) ⟨ho, ?_⟩⟩)
    refine ⟨.ref l, H, I, rfl, q l H (Same.refl H) ?_⟩
    rw [show (List.replicate 1 xs).flatten = xs by simp]
    exact hT
  | 0 =>
    cases rx
    obtain ⟨t, rfl⟩ := ry
    obtain ⟨its, r, ⟨⟨cls, dd, data, sl⟩, ho, hc, n, hd⟩, hs⟩ := I.tuple hT
    simp only at hc hd
    subst hc hd
    have c1 : (its.toArray.isEmpty || (0 : Int) == 1) = false := by
      cases its with
      | nil => exact absurd (List.eq_nil_of_length_eq_zero r.length) hne
      | cons a b => rfl
    refine wpAny_binaryOp_repeat_ref (T := "tuple") (U := "int") (by decide) ⟨_, ho, rfl⟩ (fun s' => typeIs_int s' 0 t) noFill_tuple_mul F.fills_int_mul F.slot_int_rmul repeat_tuple F.slot_int_index.lookup
      (call_meets F.slot_int_rmul (typeIs_int s 0 t) F.entry_int_rmul (F.args_int_rmul_2 _ _) (int_rmul_tuple 0 t l its.toArray n dd sl)
        ⟨ho, rfl, ⟨_, ho, rfl⟩, call_meets F.slot_tuple_mul ⟨_, ho, rfl⟩ F.entry_tuple_mul (F.args_tuple_mul_2 _ _) (mul_zero l its.toArray n dd sl t c1) ⟨ho, ?_⟩⟩)
    refine ⟨.ref s.heap.objs.size, _, I.laid (t' := s.toks) (o := .tup []) (fun b ob q => Heap.get?_push_of_some _ q) (Nat.le_refl _) ?_, rfl, q _ _ (same_new (I.hok.fresh (Nat.le_refl _))) (SqT.of upd_same)⟩
    exact ⟨by show 0 ≤ sizeLine; exact Nat.zero_le _, [], .nil, IsTup.new _ _⟩
end V8

/-! V9: [y for .. for ..], outer and inner walk. -/
namespace V9
open PySem PySem.Spec PyProof.Rows L2 W1
section
variable {J J1 : It} {n n1 : Nat} {G G1 : Hp → Prop} {Y Y1 : Nat → Hp → V → Hp → Prop}
theorem lc2_out (wk : Walk J n G Y) {wi1 : TI} {g g1 : TG} {tt tt1 : TT} {te : TE} {vs vs1 : List Nat} {σ : L2.St} {H1 : Hp} {D : Addr} {Qd : Hp → Prop} (Pv : Nat → Hp → Prop) (h0 : Pv 0 (upd H1 D (.lst []))) (hG : ∀ i H, i ≤ n → Pv i H → G H)
    (hs : ∀ i x H H', i < n → Pv i H → Y i H x H' → g x (wipe σ vs) H' fun σ2 H2 => wipe σ2 vs = wipe σ vs ∧ tt σ2 H2 fun b H3 =>
      if b = true then wi1 σ2 H3 fun J1 H4 => ∃ W1 : Nat → Nat → Hp → Prop, (∃ m, W1 0 m H4) ∧ ∀ j k H, W1 j k H →
        (J1.stop j H ∧ Pv (i + 1) H) ∨ (J1.go j H ∧ ∃ Nx1 : Hp → Prop, (∀ H', Nx1 H' → ∃ k', k' < k ∧ W1 (j + 1) k' H') ∧ ∀ x H', J1.yld j H x H' → g1 x (wipe σ2 vs1) H' fun σ3 H5 => wipe σ3 vs1 = wipe σ2 vs1 ∧ tt1 σ3 H5 fun b H6 =>
          if b = true then te σ3 H6 fun y H7 => ∃ acc, H7 D = some (.lst acc) ∧ acc.length < sizeLine ∧ Nx1 (upd H7 D (.lst (acc ++ [y]))) else Nx1 H6)
      else Pv (i + 1) H3) (hd : ∀ H, Pv n H → Qd H) :
    ∃ W : Nat → Nat → Hp → Prop, (∃ m, W 0 m (upd H1 D (.lst []))) ∧ ∀ i m H, W i m H →
      (J.stop i H ∧ Qd H) ∨ (J.go i H ∧ ∃ Nx : Hp → Prop, (∀ H', Nx H' → ∃ m', m' < m ∧ W (i + 1) m' H') ∧ ∀ x H', J.yld i H x H' → g x (wipe σ vs) H' fun σ2 H2 => wipe σ2 vs = wipe σ vs ∧ tt σ2 H2 fun b H3 =>
        if b = true then wi1 σ2 H3 fun J1 H4 => ∃ W1 : Nat → Nat → Hp → Prop, (∃ m, W1 0 m H4) ∧ ∀ j k H, W1 j k H →
          (J1.stop j H ∧ Nx H) ∨ (J1.go j H ∧ ∃ Nx1 : Hp → Prop, (∀ H', Nx1 H' → ∃ k', k' < k ∧ W1 (j + 1) k' H') ∧ ∀ x H', J1.yld j H x H' → g1 x (wipe σ2 vs1) H' fun σ3 H5 => wipe σ3 vs1 = wipe σ2 vs1 ∧ tt1 σ3 H5 fun b H6 =>
            if b = true then te σ3 H6 fun y H7 => ∃ acc, H7 D = some (.lst acc) ∧ acc.length < sizeLine ∧ Nx1 (upd H7 D (.lst (acc ++ [y]))) else Nx1 H6)
        else Nx H3) := by
  refine ⟨fun i left H => left + i = n ∧ Pv i H, ⟨n, rfl, h0⟩, fun i left H hw => ?_⟩
  obtain ⟨e, p⟩ := hw
  have q := hG i H (by omega) p
  cases left with
  | zero =>
    obtain rfl : i = n := by omega
    exact .inl ⟨wk.stops H q, hd H p⟩
  | succ left => exact .inr ⟨wk.goes i H (by omega) q, Pv (i + 1), fun H' p' => ⟨left, Nat.lt_succ_self _, by omega, p'⟩, fun x H' y => hs i x H H' (by omega) p (wk.yields i H x H' (by omega) q y)⟩
theorem lc2_in (wk : Walk J1 n1 G1 Y1) {g1 : TG} {tt1 : TT} {te : TE} {vs1 : List Nat} {σ2 : L2.St} {H4 : Hp} {D : Addr} {Nx : Hp → Prop} (Pj : Nat → Hp → Prop) (h0 : Pj 0 H4) (hG : ∀ i H, i ≤ n1 → Pj i H → G1 H)
    (hs : ∀ j x H H', j < n1 → Pj j H → Y1 j H x H' → g1 x (wipe σ2 vs1) H' fun σ3 H5 => wipe σ3 vs1 = wipe σ2 vs1 ∧ tt1 σ3 H5 fun b H6 =>
      if b = true then te σ3 H6 fun y H7 => ∃ acc, H7 D = some (.lst acc) ∧ acc.length < sizeLine ∧ Pj (j + 1) (upd H7 D (.lst (acc ++ [y]))) else Pj (j + 1) H6) (hd : ∀ H, Pj n1 H → Nx H) :
    ∃ W1 : Nat → Nat → Hp → Prop, (∃ m, W1 0 m H4) ∧ ∀ j k H, W1 j k H →
      (J1.stop j H ∧ Nx H) ∨ (J1.go j H ∧ ∃ Nx1 : Hp → Prop, (∀ H', Nx1 H' → ∃ k', k' < k ∧ W1 (j + 1) k' H') ∧ ∀ x H', J1.yld j H x H' → g1 x (wipe σ2 vs1) H' fun σ3 H5 => wipe σ3 vs1 = wipe σ2 vs1 ∧ tt1 σ3 H5 fun b H6 =>
        if b = true then te σ3 H6 fun y H7 => ∃ acc, H7 D = some (.lst acc) ∧ acc.length < sizeLine ∧ Nx1 (upd H7 D (.lst (acc ++ [y]))) else Nx1 H6) := by
  refine ⟨fun i left H => left + i = n1 ∧ Pj i H, ⟨n1, rfl, h0⟩, fun i left H hw => ?_⟩
  obtain ⟨e, p⟩ := hw
  have q := hG i H (by omega) p
  cases left with
  | zero =>
    obtain rfl : i = n1 := by omega
    exact .inl ⟨wk.stops H q, hd H p⟩
  | succ left => exact .inr ⟨wk.goes i H (by omega) q, Pj (i + 1), fun H' p' => ⟨left, Nat.lt_succ_self _, by omega, p'⟩, fun x H' y => hs i x H H' (by omega) p (wk.yields i H x H' (by omega) q y)⟩
end
end V9

/-! V10: the mask of a place in all cases at once: full // ((1 << run) + 1). -/
namespace V10
open V6
theorem bits_add : ∀ (N : Nat) (f g : Nat → Bool), (∀ c, c < N → ¬ (f c = true ∧ g c = true)) → bitsN N f + bitsN N g = bitsN N fun c => f c || g c
  | 0, _, _, _ => rfl
  | N + 1, f, g, h => by
    have ih := bits_add N (fun i => f (i + 1)) (fun i => g (i + 1)) fun c hc => h (c + 1) (by omega)
    have h0 := h 0 (Nat.succ_pos N)
    show ((if f 0 = true then 1 else 0) + 2 * bitsN N _) + ((if g 0 = true then 1 else 0) + 2 * bitsN N _) = (if (f 0 || g 0) = true then 1 else 0) + 2 * bitsN N _
    rw [← ih]
    cases hf : f 0 <;> cases hg : g 0 <;> simp [hf, hg] at h0 ⊢ <;> omega
theorem flip (k c : Nat) : (c + 2 ^ k).testBit k = !c.testBit k := by
  rw [Nat.testBit_eq_decide_div_mod_eq, Nat.testBit_eq_decide_div_mod_eq, Nat.add_div_right _ (Nat.two_pow_pos k)]
  by_cases h : c / 2 ^ k % 2 = 1
  · rw [decide_eq_true h, decide_eq_false (by omega)]
    rfl
  · rw [decide_eq_false h, decide_eq_true (by omega)]
    rfl
theorem stays {k b c : Nat} (hk : k < b) (hc : c < 2 ^ b) (h : c.testBit k = false) : c + 2 ^ k < 2 ^ b := by
  rw [Nat.testBit_eq_decide_div_mod_eq] at h
  have h := of_decide_eq_false h
  have eb : 2 ^ b = 2 ^ k * (2 * 2 ^ (b - k - 1)) := by
    rw [← Nat.pow_succ', ← Nat.pow_add]
    congr 1
    omega
  rw [eb] at hc ⊢
  have q1 : c / 2 ^ k < 2 * 2 ^ (b - k - 1) := Nat.div_lt_of_lt_mul hc
  have q2 : c / 2 ^ k + 1 < 2 * 2 ^ (b - k - 1) := by omega
  have q3 := Nat.lt_mul_div_succ c (Nat.two_pow_pos k)
  have q4 : 2 ^ k * (c / 2 ^ k + 1 + 1) ≤ 2 ^ k * (2 * 2 ^ (b - k - 1)) := Nat.mul_le_mul_left _ q2
  rw [Nat.mul_add, Nat.mul_one] at q4
  omega
theorem shifted {k b : Nat} (hk : k < b) : 2 ^ (2 ^ k) * bitsN (2 ^ b) (fun c => !c.testBit k) = bitsN (2 ^ b) fun c => c.testBit k := bits_ext fun j => by
  rw [Nat.testBit_two_pow_mul, bits_test]
  by_cases h : 2 ^ k ≤ j
  · obtain ⟨c, rfl⟩ : ∃ c, j = c + 2 ^ k := ⟨j - 2 ^ k, by omega⟩
    rw [decide_eq_true h, Nat.add_sub_cancel, Bool.true_and, flip]
    cases hb : c.testBit k with
    | true => rw [Bool.not_true, Bool.and_false, Bool.and_false]
    | false =>
      rw [Bool.not_false, Bool.and_true, Bool.and_true]
      by_cases hc : c < 2 ^ b
      · rw [decide_eq_true hc, decide_eq_true (stays hk hc hb)]
      · have p := Nat.le_add_right c (2 ^ k)
        rw [decide_eq_false hc, decide_eq_false (fun z => hc (Nat.lt_of_le_of_lt p z))]
  · rw [decide_eq_false h, Bool.false_and]
    have : j.testBit k = false := Nat.testBit_lt_two_pow (by omega)
    rw [this, Bool.and_false]
theorem bits_full (N : Nat) : 2 ^ N - 1 = bitsN N fun _ => true := bits_ext fun i => by
  rw [Nat.testBit_two_pow_sub_one, Bool.and_true]
/-- full // ((1 << run) + 1), run = 2 ** k: the cases whose k-th place is not marked -/
theorem mask_div {k b : Nat} (hk : k < b) : (2 ^ (2 ^ b) - 1) / (2 ^ (2 ^ k) + 1) = bitsN (2 ^ b) fun c => !c.testBit k := by
  have e : (2 ^ (2 ^ k) + 1) * bitsN (2 ^ b) (fun c => !c.testBit k) = 2 ^ (2 ^ b) - 1 := by
    rw [Nat.add_mul, Nat.one_mul, shifted hk, bits_add _ _ _ (fun c _ h => by
      have h2 := h.2
      rw [h.1] at h2
      cases h2), bits_full]
    refine congrArg (bitsN (2 ^ b)) (funext fun c => ?_)
    cases c.testBit k <;> rfl
  rw [← e, Nat.mul_div_cancel_left _ (Nat.succ_pos _)]
/-- full ^ full // ((1 << run) + 1): those whose k-th place is marked -/
theorem mask_of {k b : Nat} (hk : k < b) : (2 ^ (2 ^ b) - 1) ^^^ ((2 ^ (2 ^ b) - 1) / (2 ^ (2 ^ k) + 1)) = bitsN (2 ^ b) fun c => c.testBit k := by
  rw [mask_div hk, bits_full, bits_xor]
  refine congrArg (bitsN (2 ^ b)) (funext fun c => ?_)
  exact Bool.not_not _
end V10

/-! V11: type(x) within a comprehension. -/
namespace V11
open PySem PySem.Spec PyProof.Rows L2 W1
theorem call_typeSK {X : Cx} {K : PySem.W.Frag} (hK : X.K = K := by rfl) : CallR X (.type "type") (fun vs H Q => ∃ x T, vs = [x] ∧ TyS K H x T ∧ Q (.ty T) H) := hK ▸ call_typeS
end V11

namespace K0
open PySem PySem.Spec PyProof.Rows L2 W0 W1 W2 W5 W6 V0
theorem get_say {K : PySem.W.Frag} {H : Hp} {xs : List V} {l : List Say} {i : Nat} {x : V} (h : DpAll K H xs (l.map dSay)) (hx : xs[i]? = some x) : ∃ t, l[i]? = some t ∧ t ∈ l ∧ Dp K H x (dSay t) := by
  have hl := dps_len h
  rw [List.length_map] at hl
  have hi : i < l.length := by
    have := (List.getElem?_eq_some_iff.mp hx).1
    omega
  have e : l[i]? = some l[i] := List.getElem?_eq_getElem hi
  obtain ⟨y, hy, hd⟩ := dps_get (i := i) (d := dSay l[i]) h (by rw [List.getElem?_map, e]; rfl)
  rw [hx] at hy
  cases hy
  exact ⟨l[i], e, List.getElem_mem hi, hd⟩
theorem part_words {s t : Say} (m : t ∈ s.parts) : t.words.length + 1 ≤ s.words.length := by
  rw [Say.words_eq s, List.length_cons]
  refine Nat.succ_le_succ ?_
  obtain ⟨a, b, e⟩ := List.append_of_mem m
  rw [e, List.flatMap_append, List.flatMap_cons, List.length_append, List.length_append]
  omega
theorem take_words (s : Say) (i : Nat) : ((s.parts.take i).flatMap Say.words).length + 1 ≤ s.words.length := by
  rw [Say.words_eq s, List.length_cons]
  refine Nat.succ_le_succ ?_
  conv => rhs; rw [← List.take_append_drop i s.parts]
  rw [List.flatMap_append, List.length_append]
  omega
theorem dec_vstr {a b : Str} : decide (V.str a = V.str b) = decide (a = b) := by
  by_cases h : a = b
  · rw [decide_eq_true h, decide_eq_true (congrArg V.str h)]
  · rw [decide_eq_false h, decide_eq_false (fun z => h (V.str.inj z))]
section
variable {P : Program} {w : World} {K : PySem.W.Frag} {mg : Str → Option Value} {base : Heap}
def sp_is_letter : Sp := fun vs H Q _ => ∃ i : Nat, vs = [.int i] ∧ i < 8 ∧ Q (.bl true) H
theorem ok_is_letter (T : Tops K w mg) : FnOk P w K mg base CX0 2 T.a_is_letter T.fd_is_letter p_is_letter sp_is_letter := by
  have S := sc_is_letter
  refine T.F_is_letter.ok S (fun vs H Q E h => ?_) (fun cdv A outer s H vs Q E hr h => ?_)
  · obtain ⟨i, rfl, _⟩ := h
    rfl
  · obtain ⟨i, rfl, h8, q⟩ := h
    refine ⟨_, (pss_one (ps_ret (pe_call (ok_is_number T) (hr.mono (by first | decide | omega)) (by rfl) T.g_is_number T.F_is_number.kp T.b_is_number .nil pass0 (pa_cons (pv 0) (pa_cons pe_int (pa_cons (pe_op op_sub (pe_glob (v := .int (8)) (by rfl) T.c_LETTERS ⟨_, rfl⟩) pe_int) pa_nil)))))), ?_⟩
    refine ⟨.int i, rfl, 8, 1, rfl, rfl, i, 0, 7, rfl, ?_⟩
    rw [decide_eq_true (Int.natCast_nonneg i), decide_eq_true (by omega : (i : Int) ≤ 7)]
    exact q
theorem inV_strs (x : Str) : ∀ l : List Str, L2.inV (V.str x) (l.map V.str) = decide (x ∈ l)
  | [] => rfl
  | y :: l => by
    have ih := inV_strs x l
    show (L2.eqV (.str y) (.str x) || L2.inV (V.str x) (l.map V.str)) = _
    rw [ih]
    show (decide (y = x) || decide (x ∈ l)) = decide (x ∈ y :: l)
    by_cases e : y = x
    · subst e
      rw [decide_eq_true rfl, Bool.true_or, decide_eq_true List.mem_cons_self]
    · rw [decide_eq_false e, Bool.false_or]
      by_cases m : x ∈ l
      · rw [decide_eq_true m, decide_eq_true (List.mem_cons_of_mem _ m)]
      · rw [decide_eq_false m, decide_eq_false fun z => (List.mem_cons.mp z).elim (fun q => e q.symm) m]
theorem flat_strs : ∀ l : List Str, (l.map V.str).all flatV = true
  | [] => rfl
  | x :: l => by
    rw [List.map_cons, List.all_cons, flat_strs l]
    rfl
theorem cut_from (xs : List V) (n : Nat) : cutV xs (some (n : Int)) none = xs.drop n := by
  unfold cutV
  rw [show HT.sIx xs.length 0 (some (n : Int)) = min n xs.length from HT.sIx_nat xs.length 0 n, HT.sIx_none]
  by_cases h : n ≤ xs.length
  · rw [Nat.min_eq_left h]
    refine List.take_of_length_le ?_
    rw [List.length_drop]
    exact Nat.le_refl _
  · rw [Nat.min_eq_right (by omega), List.drop_of_length_le (Nat.le_refl _), List.drop_of_length_le (by omega), List.take_nil]
/-! ### words as tuples, written out -/
theorem say_lt {K : PySem.W.Frag} {H : Hp} {v : V} {i : Nat} (h : Dp K H v (dSay (.lt i))) : ∃ a, v = .ref a ∧ SqT K H a [.str "letter", .int (i : Int)] := by
  obtain ⟨a, xs, e, hs, hd⟩ := say_at h
  cases hd
  exact ⟨a, e, hs⟩
theorem say_hr {K : PySem.W.Frag} {H : Hp} {v : V} {i : Nat} (h : Dp K H v (dSay (.hr i))) : ∃ a, v = .ref a ∧ SqT K H a [.str "here", .int (i : Int)] := by
  obtain ⟨a, xs, e, hs, hd⟩ := say_at h
  cases hd
  exact ⟨a, e, hs⟩
theorem say_yes {K : PySem.W.Frag} {H : Hp} {v : V} (h : Dp K H v (dSay .yes)) : ∃ a, v = .ref a ∧ SqT K H a [.str "yes"] := by
  obtain ⟨a, xs, e, hs, hd⟩ := say_at h
  cases hd
  exact ⟨a, e, hs⟩
theorem say_no {K : PySem.W.Frag} {H : Hp} {v : V} (h : Dp K H v (dSay .no)) : ∃ a, v = .ref a ∧ SqT K H a [.str "no"] := by
  obtain ⟨a, xs, e, hs, hd⟩ := say_at h
  cases hd
  exact ⟨a, e, hs⟩
theorem dpq_one {K : PySem.W.Frag} {H : Hp} {xs : List V} {d : PyData} (h : DpAll K H xs [d]) : ∃ x, xs = [x] ∧ Dp K H x d := by
  cases h with
  | cons h1 h2 =>
    cases h2
    exact ⟨_, rfl, h1⟩
theorem dpq_two {K : PySem.W.Frag} {H : Hp} {xs : List V} {d e : PyData} (h : DpAll K H xs [d, e]) : ∃ x y, xs = [x, y] ∧ Dp K H x d ∧ Dp K H y e := by
  cases h with
  | cons h1 h2 =>
    obtain ⟨y, rfl, h3⟩ := dpq_one h2
    exact ⟨_, y, rfl, h1, h3⟩
theorem say_nt {K : PySem.W.Frag} {H : Hp} {v : V} {s : Say} (h : Dp K H v (dSay (.nt s))) : ∃ a x, v = .ref a ∧ SqT K H a [.str "not", x] ∧ Dp K H x (dSay s) := by
  obtain ⟨a, xs, e, hs, hd⟩ := say_at h
  obtain ⟨x, rfl, hx⟩ := dpq_one hd
  exact ⟨a, x, e, hs, hx⟩
theorem say_an {K : PySem.W.Frag} {H : Hp} {v : V} {s t : Say} (h : Dp K H v (dSay (.an s t))) : ∃ a x y, v = .ref a ∧ SqT K H a [.str "and", x, y] ∧ Dp K H x (dSay s) ∧ Dp K H y (dSay t) := by
  obtain ⟨a, xs, e, hs, hd⟩ := say_at h
  obtain ⟨x, y, rfl, hx, hy⟩ := dpq_two hd
  exact ⟨a, x, y, e, hs, hx, hy⟩
theorem say_orr {K : PySem.W.Frag} {H : Hp} {v : V} {s t : Say} (h : Dp K H v (dSay (.orr s t))) : ∃ a x y, v = .ref a ∧ SqT K H a [.str "or", x, y] ∧ Dp K H x (dSay s) ∧ Dp K H y (dSay t) := by
  obtain ⟨a, xs, e, hs, hd⟩ := say_at h
  obtain ⟨x, y, rfl, hx, hy⟩ := dpq_two hd
  exact ⟨a, x, y, e, hs, hx, hy⟩
theorem say_gv {K : PySem.W.Frag} {H : Hp} {v : V} {s t : Say} (h : Dp K H v (dSay (.gv s t))) : ∃ a x y, v = .ref a ∧ SqT K H a [.str "gives", x, y] ∧ Dp K H x (dSay s) ∧ Dp K H y (dSay t) := by
  obtain ⟨a, xs, e, hs, hd⟩ := say_at h
  obtain ⟨x, y, rfl, hx, hy⟩ := dpq_two hd
  exact ⟨a, x, y, e, hs, hx, hy⟩
theorem say_ea {K : PySem.W.Frag} {H : Hp} {v : V} {w : Int} {s : Say} (h : Dp K H v (dSay (.ea w s))) : ∃ a x, v = .ref a ∧ SqT K H a [.str "each", .int w, x] ∧ Dp K H x (dSay s) := by
  obtain ⟨a, xs, e, hs, hd⟩ := say_at h
  obtain ⟨x, rfl, hx⟩ := dpq_one hd
  exact ⟨a, x, e, hs, hx⟩
theorem say_so {K : PySem.W.Frag} {H : Hp} {v : V} {w : Int} {s : Say} (h : Dp K H v (dSay (.so w s))) : ∃ a x, v = .ref a ∧ SqT K H a [.str "some", .int w, x] ∧ Dp K H x (dSay s) := by
  obtain ⟨a, xs, e, hs, hd⟩ := say_at h
  obtain ⟨x, rfl, hx⟩ := dpq_one hd
  exact ⟨a, x, e, hs, hx⟩
theorem dec_vint' {a b : Int} : decide (V.int a = V.int b) = decide (a = b) := by
  by_cases h : a = b
  · rw [decide_eq_true h, decide_eq_true (congrArg V.int h)]
  · rw [decide_eq_false h, decide_eq_false (fun z => h (V.int.inj z))]
abbrev lets : Str := "letter"
/-- a dict of two texts' numbers -/
def Nums (H : Hp) (d : Addr) (nl nh : Nat) : Prop := H d = some (.dK [(Sum.inr "letter", V.int (nl : Int)), (Sum.inr "here", V.int (nh : Int))])
theorem sqT_len {xs : List V} {n : Nat} (h : xs.length = n) : ((xs.length : Nat) : Int) = (n : Int) := by rw [h]
theorem notT : (!decide (("tuple" : String) = "tuple")) = false := by rw [decide_eq_true rfl]; rfl
theorem notS : (!decide (("str" : String) = "str")) = false := by rw [decide_eq_true rfl]; rfl
theorem notI : (!decide (("int" : String) = "int")) = false := by rw [decide_eq_true rfl]; rfl
theorem nums_letter (a b : V) : valV [((Sum.inr "letter" : Key), a), (Sum.inr "here", b)] (Sum.inr "letter") = some a := valV_pos rfl
theorem nums_here (a b : V) : valV [((Sum.inr "letter" : Key), a), (Sum.inr "here", b)] (Sum.inr "here") = some b := by
  rw [valV_neg (by intro z; exact absurd (Sum.inr.inj z) (show ¬ ("letter" : Str) = "here" by decide))]
  exact valV_pos rfl
theorem noLs_app {a b : List PyData} (h : noLs a = true) (g : noLs b = true) : noLs (a ++ b) = true := by
  induction a with
  | nil => exact g
  | cons d a ih =>
    have h' : (noL d && noLs a) = true := h
    show (noL d && noLs (a ++ b)) = true
    rw [Bool.and_eq_true] at h' ⊢
    exact ⟨h'.1, ih h'.2⟩
def sp_parts_if_right (K : PySem.W.Frag) : Sp := fun vs H Q _ => ∃ (p d : Addr) (xs : List V) (l : List Say) (nl nh : Nat) (dn : Bool), vs = [.ref p, .ref d, .bl dn] ∧ H p = some (.lst xs) ∧ DpAll K H xs (l.map dSay) ∧ Nums H d nl nh ∧ (∀ s ∈ l, s.okN nl nh dn) ∧ l.length ≤ 5000 ∧
  ∀ H' g ys, Same H H' → H g = none → H' g = some (.lst ys) → DpAll K H' ys ((l.flatMap Say.parts).map dSay) → Q (.ref g) H'
theorem parts_two (l : List Say) : (l.flatMap Say.parts).length ≤ 2 * l.length := by
  induction l with
  | nil => exact Nat.zero_le _
  | cons s l ih =>
    rw [List.flatMap_cons, List.length_append, List.length_cons]
    have : s.parts.length ≤ 2 := by cases s <;> simp [Say.parts]
    omega
theorem parts_step {l : List Say} {j : Nat} {s : Say} (h : l[j]? = some s) : ((l.take (j + 1)).flatMap Say.parts).map dSay = ((l.take j).flatMap Say.parts).map dSay ++ s.parts.map dSay := by
  rw [List.take_add_one, h, List.flatMap_append, List.map_append]
  show _ ++ ((s.parts ++ []).map dSay) = _
  rw [List.append_nil]
theorem dps_snoc {K : PySem.W.Frag} {H : Hp} {D : Addr} {us : List V} {x : V} {l : List Say} {t : Say} (hD : H D = some (.lst us)) (hu : DpAll K H us (l.map dSay)) (hx : Dp K H x (dSay t)) : DpAll K (upd H D (.lst (us ++ [x]))) (us ++ [x]) (l.map dSay ++ [dSay t]) :=
  dps_app (dps_mv (fun b zs hb => sqT_upd hD hb) _ _ (noLs_says _) hu) (.cons (dp_mv (fun b zs hb => sqT_upd hD hb) _ _ (noL_say _) hx) .nil)
set_option maxHeartbeats 4000000 in
theorem ok__parts_if_right (T : Tops K w mg) : FnOk P w K mg base CX0 1 T.a__parts_if_right T.fd__parts_if_right p__parts_if_right (sp_parts_if_right K) := by
  have S := sc__parts_if_right
  refine T.F__parts_if_right.ok S (fun vs H Q E h => ?_) (fun cdv A outer s0 H vs Q E hr h => ?_)
  · obtain ⟨p, d, xs, l, nl, nh, dn, rfl, _⟩ := h
    rfl
  · obtain ⟨p, d, xs, l, nl, nh, dn, rfl, hp, hx, hn, ok, l5, q⟩ := h
    refine ⟨_, (pss_cons (ps_set (i := 3) S.nd rfl (Or.inl rfl) (pe_lst pa_nil))
      (pss_cons (ps_for PassesOwn.never rfl (pi_list (pv 0)) (pg_name (i := 4) S.nd rfl (Or.inl rfl)) (pss_cons (ps_if ((pw_or (pt_cmpR op_notTyB (pe_callTy call_typeS (by rfl) T.m_type (by decide +kernel) (pa_cons (pv 4) pa_nil)) (pe_bltn (v := .ty "tuple") (by rfl) T.m_tuple (by decide +kernel) rfl) (nomark _)) (pw_or (pt_not (V6.pt_truthK (K := K) (pv 4) (by intro _; rfl))) (pw_or1 (pt_cmpR op_notTyB (pe_callTy call_typeS (by rfl) T.m_type (by decide +kernel) (pa_cons (pe_ix (ix_tupK (K := K)) (pv 4) pe_int (fun _ _ => rfl)) pa_nil)) (pe_bltn (v := .ty "str") (by rfl) T.m_str (by decide +kernel) rfl) (nomark _)))))).pt (pss_one (ps_ret pe_non)) pss_nil)
      (pss_cons (ps_set (i := 5) S.nd rfl (Or.inl rfl) (pe_ix (ix_tupK (K := K)) (pv 4) pe_int (fun _ _ => rfl)))
      (pss_cons (ps_set (i := 6) S.nd rfl (Or.inl rfl) (pe_callB call_len_seq (by rfl) T.m_len (by decide +kernel) (pa_cons (pv 4) pa_nil)))
      (pss_one (ps_if ((pw_and (pt_cmpR op_eq (pv 6) pe_int (nomark _)) (pw_and1 ((pw_or (pt_cmpR op_eq (pv 5) pe_str (nomark _)) (pw_or1 (pt_cmpR op_eq (pv 5) pe_str (nomark _))))).pt))).pt (pss_cons (ps_if ((pw_or (pt_cmpR op_notTyB (pe_callTy call_typeS (by rfl) T.m_type (by decide +kernel) (pa_cons (pe_ix (ix_tupK (K := K)) (pv 4) pe_int (fun _ _ => rfl)) pa_nil)) (pe_bltn (v := .ty "int") (by rfl) T.m_int (by decide +kernel) rfl) (nomark _)) (pw_or1 (pt_not (pt_chain op_le op_le (pe_glob (v := .int (-3)) (by rfl) T.c_FIRST_WAY ⟨_, rfl⟩) (pe_ix (ix_tupK (K := K)) (pv 4) pe_int (fun _ _ => rfl)) (pe_glob (v := .int (2)) (by rfl) T.c_LAST_KIND ⟨_, rfl⟩)))))).pt (pss_one (ps_ret pe_non)) pss_nil)
      (pss_one (ps_expr (pe_bm PySem.F.plainAttrs_list PySem.F.slot_list_append PySem.F.type_list_append mt_append (pv 3) (pa_cons (pe_ix (ix_tupK (K := K)) (pv 4) pe_int (fun _ _ => rfl)) pa_nil))))) (pss_one (ps_if ((pw_and (pt_cmpR op_eq (pv 6) pe_int (nomark _)) (pw_and1 ((pw_or (pt_cmpR op_eq (pv 5) pe_str (nomark _)) (pw_or (pt_cmpR op_eq (pv 5) pe_str (nomark _)) (pw_or1 ((pw_and (pt_cmpR op_eq (pv 5) pe_str (nomark _)) (pw_and1 (pt_val (pv 2))))).pt)))).pt))).pt (pss_cons (ps_expr (pe_bm PySem.F.plainAttrs_list PySem.F.slot_list_append PySem.F.type_list_append mt_append (pv 3) (pa_cons (pe_ix (ix_tupK (K := K)) (pv 4) pe_int (fun _ _ => rfl)) pa_nil)))
      (pss_one (ps_expr (pe_bm PySem.F.plainAttrs_list PySem.F.slot_list_append PySem.F.type_list_append mt_append (pv 3) (pa_cons (pe_ix (ix_tupK (K := K)) (pv 4) pe_int (fun _ _ => rfl)) pa_nil))))) (pss_one (ps_if ((pw_and (pt_cmpR op_eq (pv 6) pe_int (nomark _)) (pw_and (pt_cmpR op_eq (pv 5) pe_str (nomark _)) (pw_and1 (pt_val (pv 2)))))).pt (pss_one (ps_expr (pe_bm PySem.F.plainAttrs_list PySem.F.slot_list_append PySem.F.type_list_append mt_append (pv 3) (pa_cons (pe_ix (ix_tupK (K := K)) (pv 4) pe_int (fun _ _ => rfl)) pa_nil)))) (pss_one (ps_if ((pw_and (pt_cmpR op_eq (pv 6) pe_int (nomark _)) (pw_and1 (pt_cmp (pc_din (hu_of hr) (pv 5) (pv 1)))))).pt (pss_one (ps_if ((pw_or (pt_cmpR op_notTyB (pe_callTy call_typeS (by rfl) T.m_type (by decide +kernel) (pa_cons (pe_ix (ix_tupK (K := K)) (pv 4) pe_int (fun _ _ => rfl)) pa_nil)) (pe_bltn (v := .ty "int") (by rfl) T.m_int (by decide +kernel) rfl) (nomark _)) (pw_or1 (pt_not (pt_chain op_le op_lt pe_int (pe_ix (ix_tupK (K := K)) (pv 4) pe_int (fun _ _ => rfl)) (pe_dget (hu_of hr) (pv 1) (pv 5) (fun _ _ => rfl))))))).pt (pss_one (ps_ret pe_non)) pss_nil)) (pss_one (ps_if ((pw_or (pt_cmpR op_ne (pv 6) pe_int (nomark _)) (pw_or1 (pt_cmpR op_notIn_seq (pv 5) (pe_tup (pa_cons pe_str (pa_cons pe_str pa_nil))) (by rfl))))).pt (pss_one (ps_ret pe_non)) pss_nil))))))))))))))
      (pss_one (ps_ret (pv 3))))), ?_⟩
    have lx := dps_len hx
    rw [List.length_map] at lx
    refine ⟨Nat.zero_le _, fun D nD => ?_⟩
    have e1 := same_new (o := .lst []) nD
    have hD1 : upd H D (.lst []) D = some (.lst []) := upd_same
    show (gName 3 (V.ref D) _ (upd H D (.lst [])) _)
    generalize upd H D (.lst []) = H1 at e1 hD1
    refine ⟨.ref p, rfl, p, rfl, ⟨_, SqL.of (e1 _ _ hp)⟩, ?_⟩
    refine for_list (K := K) (a := p) (xs := xs) (fun j σ H' => ∃ y4 y5 y6 us, σ = [some (.ref p), some (.ref d), some (.bl dn), some (.ref D), y4, y5, y6] ∧ Same H H' ∧ H' D = some (.lst us) ∧ DpAll K H' us (((l.take j).flatMap Say.parts).map dSay))
      ⟨none, none, none, [], rfl, e1, hD1, .nil⟩ (fun j σ H' _ h => by obtain ⟨_, _, _, _, _, e, _⟩ := h; exact SqL.of (e _ _ hp)) (fun j x σ H2 hxj h => ?_) (fun σ H2 h => ?_)
    · obtain ⟨y4, y5, y6, us, rfl, e2, hD, hus⟩ := h
      obtain ⟨s, sj, sm, ds⟩ := get_say (dps_same e2 _ _ hx) hxj
      have oks := ok s sm
      have stp := parts_step sj
      have lu := dps_len hus
      rw [List.length_map] at lu
      have lt2 := parts_two (l.take j)
      have lt1 := List.length_take_le' j l
      have us_s : us.length + 1 < sizeLine := small (m := 20000) (by omega)
      rw [stp]
      clear stp
      cases s with
      | ea i t =>
        obtain ⟨a, z, rfl, hs, dz⟩ := say_ea ds
        refine ⟨.ref a, rfl, .ref a, "tuple", rfl, .tup hs, "tuple", "tuple", rfl, rfl, _, rfl, ?_⟩
        rw [notT]
        refine iteF ⟨.ref a, rfl, true, .inr (.inl ⟨_, hs, rfl⟩), ?_⟩
        refine iteF ⟨.ref a, rfl, a, _, 0, .str "each", rfl, rfl, hs, atI_nat (j := 0) rfl, .str "each", "str", rfl, .str _, "str", "str", rfl, rfl, _, rfl, ?_⟩
        rw [notS]
        refine iteF ?_
        refine ⟨.ref a, rfl, a, _, 0, .str "each", rfl, rfl, hs, atI_nat (j := 0) rfl, ?_⟩
        refine ⟨.ref a, rfl, a, _, rfl, .inr hs, ?_⟩
        refine ⟨.int 3, rfl, rfl, _, rfl, ?_⟩
        rw [dec_vint', decide_eq_true (by decide)]
        refine iteT ⟨.str "each", rfl, rfl, _, rfl, ?_⟩
        rw [dec_vstr, decide_eq_true (by decide)]
        refine iteT ⟨.ref a, rfl, a, _, 1, .int i, rfl, rfl, hs, atI_nat (j := 1) rfl, .int i, "int", rfl, .int _, "int", "int", rfl, rfl, _, rfl, ?_⟩
        rw [notI]
        refine iteF ⟨.ref a, rfl, a, _, 1, .int i, rfl, rfl, hs, atI_nat (j := 1) rfl, -3, i, rfl, rfl, _, rfl, ?_⟩
        rw [decide_eq_true oks.1]
        refine iteT ⟨i, 2, rfl, rfl, _, rfl, ?_⟩
        rw [decide_eq_true oks.2]
        refine iteF ?_
        refine ⟨.ref D, rfl, .inl ⟨rfl, _, SqL.of hD⟩, .ref a, rfl, a, _, 2, z, rfl, rfl, hs, atI_nat (j := 2) rfl, D, _, _, rfl, rfl, hD, small (m := 20000) (by omega), ?_⟩
        exact ⟨_, _, _, us ++ [z], rfl, same_upd_new e2 nD, upd_same, dps_snoc hD hus dz⟩
      | so i t =>
        obtain ⟨a, z, rfl, hs, dz⟩ := say_so ds
        refine ⟨.ref a, rfl, .ref a, "tuple", rfl, .tup hs, "tuple", "tuple", rfl, rfl, _, rfl, ?_⟩
        rw [notT]
        refine iteF ⟨.ref a, rfl, true, .inr (.inl ⟨_, hs, rfl⟩), ?_⟩
        refine iteF ⟨.ref a, rfl, a, _, 0, .str "some", rfl, rfl, hs, atI_nat (j := 0) rfl, .str "some", "str", rfl, .str _, "str", "str", rfl, rfl, _, rfl, ?_⟩
        rw [notS]
        refine iteF ?_
        refine ⟨.ref a, rfl, a, _, 0, .str "some", rfl, rfl, hs, atI_nat (j := 0) rfl, ?_⟩
        refine ⟨.ref a, rfl, a, _, rfl, .inr hs, ?_⟩
        refine ⟨.int 3, rfl, rfl, _, rfl, ?_⟩
        rw [dec_vint', decide_eq_true (by decide)]
        refine iteT ⟨.str "some", rfl, rfl, _, rfl, ?_⟩
        rw [dec_vstr, decide_eq_false (by decide)]
        refine iteF ⟨.str "some", rfl, rfl, _, rfl, ?_⟩
        rw [dec_vstr, decide_eq_true (by decide)]
        refine iteT ⟨.ref a, rfl, a, _, 1, .int i, rfl, rfl, hs, atI_nat (j := 1) rfl, .int i, "int", rfl, .int _, "int", "int", rfl, rfl, _, rfl, ?_⟩
        rw [notI]
        refine iteF ⟨.ref a, rfl, a, _, 1, .int i, rfl, rfl, hs, atI_nat (j := 1) rfl, -3, i, rfl, rfl, _, rfl, ?_⟩
        rw [decide_eq_true oks.1]
        refine iteT ⟨i, 2, rfl, rfl, _, rfl, ?_⟩
        rw [decide_eq_true oks.2]
        refine iteF ?_
        refine ⟨.ref D, rfl, .inl ⟨rfl, _, SqL.of hD⟩, .ref a, rfl, a, _, 2, z, rfl, rfl, hs, atI_nat (j := 2) rfl, D, _, _, rfl, rfl, hD, small (m := 20000) (by omega), ?_⟩
        exact ⟨_, _, _, us ++ [z], rfl, same_upd_new e2 nD, upd_same, dps_snoc hD hus dz⟩
      | an t u =>
        obtain ⟨a, z1, z2, rfl, hs, dz1, dz2⟩ := say_an ds
        refine ⟨.ref a, rfl, .ref a, "tuple", rfl, .tup hs, "tuple", "tuple", rfl, rfl, _, rfl, ?_⟩
        rw [notT]
        refine iteF ⟨.ref a, rfl, true, .inr (.inl ⟨_, hs, rfl⟩), ?_⟩
        refine iteF ⟨.ref a, rfl, a, _, 0, .str "and", rfl, rfl, hs, atI_nat (j := 0) rfl, .str "and", "str", rfl, .str _, "str", "str", rfl, rfl, _, rfl, ?_⟩
        rw [notS]
        refine iteF ?_
        refine ⟨.ref a, rfl, a, _, 0, .str "and", rfl, rfl, hs, atI_nat (j := 0) rfl, ?_⟩
        refine ⟨.ref a, rfl, a, _, rfl, .inr hs, ?_⟩
        refine ⟨.int 3, rfl, rfl, _, rfl, ?_⟩
        rw [dec_vint', decide_eq_true (by decide)]
        refine iteT ⟨.str "and", rfl, rfl, _, rfl, ?_⟩
        rw [dec_vstr, decide_eq_false (by decide)]
        refine iteF ⟨.str "and", rfl, rfl, _, rfl, ?_⟩
        rw [dec_vstr, decide_eq_false (by decide)]
        refine iteF ⟨.int 3, rfl, rfl, _, rfl, ?_⟩
        rw [dec_vint', decide_eq_true (by decide)]
        refine iteT ⟨.str "and", rfl, rfl, _, rfl, ?_⟩
        rw [dec_vstr, decide_eq_true (by decide)]
        refine iteT ?_
        refine ⟨.ref D, rfl, .inl ⟨rfl, _, SqL.of hD⟩, .ref a, rfl, a, _, 1, z1, rfl, rfl, hs, atI_nat (j := 1) rfl, D, _, _, rfl, rfl, hD, small (m := 20000) (by omega), ?_⟩
        have hs2 := sqT_upd (o := .lst (us ++ [z1])) hD hs
        refine ⟨.ref D, rfl, .inl ⟨rfl, _, SqL.of upd_same⟩, .ref a, rfl, a, _, 2, z2, rfl, rfl, hs2, atI_nat (j := 2) rfl, D, _, _, rfl, rfl, upd_same, small (m := 20000) (by rw [List.length_append]; show us.length + 1 ≤ 20000; omega), ?_⟩
        have d1 := dps_snoc hD hus dz1
        have d2 := dp_put (o := .lst (us ++ [z1])) hD _ _ (noL_say u) dz2
        refine ⟨_, _, _, us ++ [z1] ++ [z2], rfl, same_upd_new (same_upd_new e2 nD) nD, upd_same, ?_⟩
        have d3 := dps_app (dps_put (o := .lst (us ++ [z1] ++ [z2])) upd_same _ _ (noLs_app (noLs_says _) (noLs_says [t])) d1) (DpAll.cons (dp_put (o := .lst (us ++ [z1] ++ [z2])) upd_same _ _ (noL_say u) d2) .nil)
        rw [show ((Say.an t u).parts.map dSay) = [dSay t] ++ [dSay u] from rfl, ← List.append_assoc]
        exact d3
      | orr t u =>
        obtain ⟨a, z1, z2, rfl, hs, dz1, dz2⟩ := say_orr ds
        refine ⟨.ref a, rfl, .ref a, "tuple", rfl, .tup hs, "tuple", "tuple", rfl, rfl, _, rfl, ?_⟩
        rw [notT]
        refine iteF ⟨.ref a, rfl, true, .inr (.inl ⟨_, hs, rfl⟩), ?_⟩
        refine iteF ⟨.ref a, rfl, a, _, 0, .str "or", rfl, rfl, hs, atI_nat (j := 0) rfl, .str "or", "str", rfl, .str _, "str", "str", rfl, rfl, _, rfl, ?_⟩
        rw [notS]
        refine iteF ?_
        refine ⟨.ref a, rfl, a, _, 0, .str "or", rfl, rfl, hs, atI_nat (j := 0) rfl, ?_⟩
        refine ⟨.ref a, rfl, a, _, rfl, .inr hs, ?_⟩
        refine ⟨.int 3, rfl, rfl, _, rfl, ?_⟩
        rw [dec_vint', decide_eq_true (by decide)]
        refine iteT ⟨.str "or", rfl, rfl, _, rfl, ?_⟩
        rw [dec_vstr, decide_eq_false (by decide)]
        refine iteF ⟨.str "or", rfl, rfl, _, rfl, ?_⟩
        rw [dec_vstr, decide_eq_false (by decide)]
        refine iteF ⟨.int 3, rfl, rfl, _, rfl, ?_⟩
        rw [dec_vint', decide_eq_true (by decide)]
        refine iteT ⟨.str "or", rfl, rfl, _, rfl, ?_⟩
        rw [dec_vstr, decide_eq_false (by decide)]
        refine iteF ⟨.str "or", rfl, rfl, _, rfl, ?_⟩
        rw [dec_vstr, decide_eq_true (by decide)]
        refine iteT ?_
        refine ⟨.ref D, rfl, .inl ⟨rfl, _, SqL.of hD⟩, .ref a, rfl, a, _, 1, z1, rfl, rfl, hs, atI_nat (j := 1) rfl, D, _, _, rfl, rfl, hD, small (m := 20000) (by omega), ?_⟩
        have hs2 := sqT_upd (o := .lst (us ++ [z1])) hD hs
        refine ⟨.ref D, rfl, .inl ⟨rfl, _, SqL.of upd_same⟩, .ref a, rfl, a, _, 2, z2, rfl, rfl, hs2, atI_nat (j := 2) rfl, D, _, _, rfl, rfl, upd_same, small (m := 20000) (by rw [List.length_append]; show us.length + 1 ≤ 20000; omega), ?_⟩
        have d1 := dps_snoc hD hus dz1
        have d2 := dp_put (o := .lst (us ++ [z1])) hD _ _ (noL_say u) dz2
        refine ⟨_, _, _, us ++ [z1] ++ [z2], rfl, same_upd_new (same_upd_new e2 nD) nD, upd_same, ?_⟩
        have d3 := dps_app (dps_put (o := .lst (us ++ [z1] ++ [z2])) upd_same _ _ (noLs_app (noLs_says _) (noLs_says [t])) d1) (DpAll.cons (dp_put (o := .lst (us ++ [z1] ++ [z2])) upd_same _ _ (noL_say u) d2) .nil)
        rw [show ((Say.orr t u).parts.map dSay) = [dSay t] ++ [dSay u] from rfl, ← List.append_assoc]
        exact d3
      | gv t u =>
        obtain ⟨a, z1, z2, rfl, hs, dz1, dz2⟩ := say_gv ds
        refine ⟨.ref a, rfl, .ref a, "tuple", rfl, .tup hs, "tuple", "tuple", rfl, rfl, _, rfl, ?_⟩
        rw [notT]
        refine iteF ⟨.ref a, rfl, true, .inr (.inl ⟨_, hs, rfl⟩), ?_⟩
        refine iteF ⟨.ref a, rfl, a, _, 0, .str "gives", rfl, rfl, hs, atI_nat (j := 0) rfl, .str "gives", "str", rfl, .str _, "str", "str", rfl, rfl, _, rfl, ?_⟩
        rw [notS]
        refine iteF ?_
        refine ⟨.ref a, rfl, a, _, 0, .str "gives", rfl, rfl, hs, atI_nat (j := 0) rfl, ?_⟩
        refine ⟨.ref a, rfl, a, _, rfl, .inr hs, ?_⟩
        refine ⟨.int 3, rfl, rfl, _, rfl, ?_⟩
        rw [dec_vint', decide_eq_true (by decide)]
        refine iteT ⟨.str "gives", rfl, rfl, _, rfl, ?_⟩
        rw [dec_vstr, decide_eq_false (by decide)]
        refine iteF ⟨.str "gives", rfl, rfl, _, rfl, ?_⟩
        rw [dec_vstr, decide_eq_false (by decide)]
        refine iteF ⟨.int 3, rfl, rfl, _, rfl, ?_⟩
        rw [dec_vint', decide_eq_true (by decide)]
        refine iteT ⟨.str "gives", rfl, rfl, _, rfl, ?_⟩
        rw [dec_vstr, decide_eq_false (by decide)]
        refine iteF ⟨.str "gives", rfl, rfl, _, rfl, ?_⟩
        rw [dec_vstr, decide_eq_false (by decide)]
        refine iteF ⟨.str "gives", rfl, rfl, _, rfl, ?_⟩
        rw [dec_vstr, decide_eq_true (by decide)]
        refine iteT ⟨.bl dn, rfl, dn, rfl, ?_⟩
        rw [show dn = true from oks]
        refine iteT ?_
        refine ⟨.ref D, rfl, .inl ⟨rfl, _, SqL.of hD⟩, .ref a, rfl, a, _, 1, z1, rfl, rfl, hs, atI_nat (j := 1) rfl, D, _, _, rfl, rfl, hD, small (m := 20000) (by omega), ?_⟩
        have hs2 := sqT_upd (o := .lst (us ++ [z1])) hD hs
        refine ⟨.ref D, rfl, .inl ⟨rfl, _, SqL.of upd_same⟩, .ref a, rfl, a, _, 2, z2, rfl, rfl, hs2, atI_nat (j := 2) rfl, D, _, _, rfl, rfl, upd_same, small (m := 20000) (by rw [List.length_append]; show us.length + 1 ≤ 20000; omega), ?_⟩
        have d1 := dps_snoc hD hus dz1
        have d2 := dp_put (o := .lst (us ++ [z1])) hD _ _ (noL_say u) dz2
        refine ⟨_, _, _, us ++ [z1] ++ [z2], rfl, same_upd_new (same_upd_new e2 nD) nD, upd_same, ?_⟩
        have d3 := dps_app (dps_put (o := .lst (us ++ [z1] ++ [z2])) upd_same _ _ (noLs_app (noLs_says _) (noLs_says [t])) d1) (DpAll.cons (dp_put (o := .lst (us ++ [z1] ++ [z2])) upd_same _ _ (noL_say u) d2) .nil)
        rw [show ((Say.gv t u).parts.map dSay) = [dSay t] ++ [dSay u] from rfl, ← List.append_assoc]
        exact d3
      | nt t =>
        obtain ⟨a, z, rfl, hs, dz⟩ := say_nt ds
        refine ⟨.ref a, rfl, .ref a, "tuple", rfl, .tup hs, "tuple", "tuple", rfl, rfl, _, rfl, ?_⟩
        rw [notT]
        refine iteF ⟨.ref a, rfl, true, .inr (.inl ⟨_, hs, rfl⟩), ?_⟩
        refine iteF ⟨.ref a, rfl, a, _, 0, .str "not", rfl, rfl, hs, atI_nat (j := 0) rfl, .str "not", "str", rfl, .str _, "str", "str", rfl, rfl, _, rfl, ?_⟩
        rw [notS]
        refine iteF ?_
        refine ⟨.ref a, rfl, a, _, 0, .str "not", rfl, rfl, hs, atI_nat (j := 0) rfl, ?_⟩
        refine ⟨.ref a, rfl, a, _, rfl, .inr hs, ?_⟩
        refine ⟨.int 2, rfl, rfl, _, rfl, ?_⟩
        rw [dec_vint', decide_eq_false (by decide)]
        refine iteF ⟨.int 2, rfl, rfl, _, rfl, ?_⟩
        rw [dec_vint', decide_eq_false (by decide)]
        refine iteF ⟨.int 2, rfl, rfl, _, rfl, ?_⟩
        rw [dec_vint', decide_eq_true (by decide)]
        refine iteT ⟨.str "not", rfl, rfl, _, rfl, ?_⟩
        rw [dec_vstr, decide_eq_true (by decide)]
        refine iteT ⟨.bl dn, rfl, dn, rfl, ?_⟩
        rw [show dn = true from oks]
        refine iteT ?_
        refine ⟨.ref D, rfl, .inl ⟨rfl, _, SqL.of hD⟩, .ref a, rfl, a, _, 1, z, rfl, rfl, hs, atI_nat (j := 1) rfl, D, _, _, rfl, rfl, hD, small (m := 20000) (by omega), ?_⟩
        exact ⟨_, _, _, us ++ [z], rfl, same_upd_new e2 nD, upd_same, dps_snoc hD hus dz⟩
      | lt i =>
        obtain ⟨a, rfl, hs⟩ := say_lt ds
        have hn2 : Nums H2 d nl nh := e2 _ _ hn
        refine ⟨.ref a, rfl, .ref a, "tuple", rfl, .tup hs, "tuple", "tuple", rfl, rfl, _, rfl, ?_⟩
        rw [notT]
        refine iteF ⟨.ref a, rfl, true, .inr (.inl ⟨_, hs, rfl⟩), ?_⟩
        refine iteF ⟨.ref a, rfl, a, _, 0, .str "letter", rfl, rfl, hs, atI_nat (j := 0) rfl, .str "letter", "str", rfl, .str _, "str", "str", rfl, rfl, _, rfl, ?_⟩
        rw [notS]
        refine iteF ?_
        refine ⟨.ref a, rfl, a, _, 0, .str "letter", rfl, rfl, hs, atI_nat (j := 0) rfl, ?_⟩
        refine ⟨.ref a, rfl, a, _, rfl, .inr hs, ?_⟩
        refine ⟨.int 2, rfl, rfl, _, rfl, ?_⟩
        rw [dec_vint', decide_eq_false (by decide)]
        refine iteF ⟨.int 2, rfl, rfl, _, rfl, ?_⟩
        rw [dec_vint', decide_eq_false (by decide)]
        refine iteF ⟨.int 2, rfl, rfl, _, rfl, ?_⟩
        rw [dec_vint', decide_eq_true (by decide)]
        refine iteT ⟨.str "letter", rfl, rfl, _, rfl, ?_⟩
        rw [dec_vstr, decide_eq_false (by decide)]
        refine iteF ⟨.int 2, rfl, rfl, _, rfl, ?_⟩
        rw [dec_vint', decide_eq_true (by decide)]
        have hg : DGet H2 d (.str "letter") (some (.int (nl : Int))) := by
          have h := DGet.k (k := Sum.inr "letter") hn2
          rwa [nums_letter] at h
        refine iteT ⟨.str "letter", rfl, .ref d, rfl, d, _, rfl, hg, _, rfl, ?_⟩
        refine iteT ⟨.ref a, rfl, a, _, 1, .int (i : Int), rfl, rfl, hs, atI_nat (j := 1) rfl, .int (i : Int), "int", rfl, .int _, "int", "int", rfl, rfl, _, rfl, ?_⟩
        rw [notI]
        refine iteF ⟨.ref a, rfl, a, _, 1, .int (i : Int), rfl, rfl, hs, atI_nat (j := 1) rfl, 0, i, rfl, rfl, _, rfl, ?_⟩
        rw [decide_eq_true (Int.natCast_nonneg i)]
        refine iteT ⟨.ref d, rfl, .str "letter", rfl, d, _, rfl, hg, i, nl, rfl, rfl, _, rfl, ?_⟩
        rw [decide_eq_true (show (i : Int) < nl from by have : i < nl := oks; omega)]
        refine iteF ?_
        refine ⟨_, _, _, us, rfl, e2, hD, ?_⟩
        rw [show ((Say.lt i).parts.map dSay) = [] from rfl, List.append_nil]
        exact hus
      | hr i =>
        obtain ⟨a, rfl, hs⟩ := say_hr ds
        have hn2 : Nums H2 d nl nh := e2 _ _ hn
        refine ⟨.ref a, rfl, .ref a, "tuple", rfl, .tup hs, "tuple", "tuple", rfl, rfl, _, rfl, ?_⟩
        rw [notT]
        refine iteF ⟨.ref a, rfl, true, .inr (.inl ⟨_, hs, rfl⟩), ?_⟩
        refine iteF ⟨.ref a, rfl, a, _, 0, .str "here", rfl, rfl, hs, atI_nat (j := 0) rfl, .str "here", "str", rfl, .str _, "str", "str", rfl, rfl, _, rfl, ?_⟩
        rw [notS]
        refine iteF ?_
        refine ⟨.ref a, rfl, a, _, 0, .str "here", rfl, rfl, hs, atI_nat (j := 0) rfl, ?_⟩
        refine ⟨.ref a, rfl, a, _, rfl, .inr hs, ?_⟩
        refine ⟨.int 2, rfl, rfl, _, rfl, ?_⟩
        rw [dec_vint', decide_eq_false (by decide)]
        refine iteF ⟨.int 2, rfl, rfl, _, rfl, ?_⟩
        rw [dec_vint', decide_eq_false (by decide)]
        refine iteF ⟨.int 2, rfl, rfl, _, rfl, ?_⟩
        rw [dec_vint', decide_eq_true (by decide)]
        refine iteT ⟨.str "here", rfl, rfl, _, rfl, ?_⟩
        rw [dec_vstr, decide_eq_false (by decide)]
        refine iteF ⟨.int 2, rfl, rfl, _, rfl, ?_⟩
        rw [dec_vint', decide_eq_true (by decide)]
        have hg : DGet H2 d (.str "here") (some (.int (nh : Int))) := by
          have h := DGet.k (k := Sum.inr "here") hn2
          rwa [nums_here] at h
        refine iteT ⟨.str "here", rfl, .ref d, rfl, d, _, rfl, hg, _, rfl, ?_⟩
        refine iteT ⟨.ref a, rfl, a, _, 1, .int (i : Int), rfl, rfl, hs, atI_nat (j := 1) rfl, .int (i : Int), "int", rfl, .int _, "int", "int", rfl, rfl, _, rfl, ?_⟩
        rw [notI]
        refine iteF ⟨.ref a, rfl, a, _, 1, .int (i : Int), rfl, rfl, hs, atI_nat (j := 1) rfl, 0, i, rfl, rfl, _, rfl, ?_⟩
        rw [decide_eq_true (Int.natCast_nonneg i)]
        refine iteT ⟨.ref d, rfl, .str "here", rfl, d, _, rfl, hg, i, nh, rfl, rfl, _, rfl, ?_⟩
        rw [decide_eq_true (show (i : Int) < nh from by have : i < nh := oks; omega)]
        refine iteF ?_
        refine ⟨_, _, _, us, rfl, e2, hD, ?_⟩
        rw [show ((Say.hr i).parts.map dSay) = [] from rfl, List.append_nil]
        exact hus
      | yes =>
        obtain ⟨a, rfl, hs⟩ := say_yes ds
        refine ⟨.ref a, rfl, .ref a, "tuple", rfl, .tup hs, "tuple", "tuple", rfl, rfl, _, rfl, ?_⟩
        rw [notT]
        refine iteF ⟨.ref a, rfl, true, .inr (.inl ⟨_, hs, rfl⟩), ?_⟩
        refine iteF ⟨.ref a, rfl, a, _, 0, .str "yes", rfl, rfl, hs, atI_nat (j := 0) rfl, .str "yes", "str", rfl, .str _, "str", "str", rfl, rfl, _, rfl, ?_⟩
        rw [notS]
        refine iteF ?_
        refine ⟨.ref a, rfl, a, _, 0, .str "yes", rfl, rfl, hs, atI_nat (j := 0) rfl, ?_⟩
        refine ⟨.ref a, rfl, a, _, rfl, .inr hs, ?_⟩
        refine ⟨.int 1, rfl, rfl, _, rfl, ?_⟩
        rw [dec_vint', decide_eq_false (by decide)]
        refine iteF ⟨.int 1, rfl, rfl, _, rfl, ?_⟩
        rw [dec_vint', decide_eq_false (by decide)]
        refine iteF ⟨.int 1, rfl, rfl, _, rfl, ?_⟩
        rw [dec_vint', decide_eq_false (by decide)]
        refine iteF ⟨.int 1, rfl, rfl, _, rfl, ?_⟩
        rw [dec_vint', decide_eq_false (by decide)]
        refine iteF ⟨.int 1, rfl, rfl, _, rfl, ?_⟩
        rw [show (!decide (V.int 1 = V.int 1)) = false from by rw [decide_eq_true rfl]; rfl]
        refine iteF ⟨.str "yes", rfl, by show 2 ≤ sizeLine; decide, fun g ng => ⟨g, _, rfl, .inr (SqT.of upd_same), rfl, rfl, _, rfl, ?_⟩⟩
        rw [show (!L2.inV (.str "yes") [.str "yes", .str "no"]) = false by decide]
        refine iteF ?_
        refine ⟨_, _, _, us, rfl, e2.trans (same_new ng), same_new ng _ _ hD, ?_⟩
        rw [show (Say.yes.parts.map dSay) = [] from rfl, List.append_nil]
        exact dps_same (same_new ng) _ _ hus
      | no =>
        obtain ⟨a, rfl, hs⟩ := say_no ds
        refine ⟨.ref a, rfl, .ref a, "tuple", rfl, .tup hs, "tuple", "tuple", rfl, rfl, _, rfl, ?_⟩
        rw [notT]
        refine iteF ⟨.ref a, rfl, true, .inr (.inl ⟨_, hs, rfl⟩), ?_⟩
        refine iteF ⟨.ref a, rfl, a, _, 0, .str "no", rfl, rfl, hs, atI_nat (j := 0) rfl, .str "no", "str", rfl, .str _, "str", "str", rfl, rfl, _, rfl, ?_⟩
        rw [notS]
        refine iteF ?_
        refine ⟨.ref a, rfl, a, _, 0, .str "no", rfl, rfl, hs, atI_nat (j := 0) rfl, ?_⟩
        refine ⟨.ref a, rfl, a, _, rfl, .inr hs, ?_⟩
        refine ⟨.int 1, rfl, rfl, _, rfl, ?_⟩
        rw [dec_vint', decide_eq_false (by decide)]
        refine iteF ⟨.int 1, rfl, rfl, _, rfl, ?_⟩
        rw [dec_vint', decide_eq_false (by decide)]
        refine iteF ⟨.int 1, rfl, rfl, _, rfl, ?_⟩
        rw [dec_vint', decide_eq_false (by decide)]
        refine iteF ⟨.int 1, rfl, rfl, _, rfl, ?_⟩
        rw [dec_vint', decide_eq_false (by decide)]
        refine iteF ⟨.int 1, rfl, rfl, _, rfl, ?_⟩
        rw [show (!decide (V.int 1 = V.int 1)) = false from by rw [decide_eq_true rfl]; rfl]
        refine iteF ⟨.str "no", rfl, by show 2 ≤ sizeLine; decide, fun g ng => ⟨g, _, rfl, .inr (SqT.of upd_same), rfl, rfl, _, rfl, ?_⟩⟩
        rw [show (!L2.inV (.str "no") [.str "yes", .str "no"]) = false by decide]
        refine iteF ?_
        refine ⟨_, _, _, us, rfl, e2.trans (same_new ng), same_new ng _ _ hD, ?_⟩
        rw [show (Say.no.parts.map dSay) = [] from rfl, List.append_nil]
        exact dps_same (same_new ng) _ _ hus
    · obtain ⟨y4, y5, y6, us, rfl, e2, hD, hus⟩ := h
      rw [lx, List.take_length] at hus
      exact ⟨.ref D, rfl, q H2 D us e2 nD hD hus⟩
end
end K0

namespace K0
open PySem PySem.Spec PyProof.Rows L2 W0 W1 W2 W5 W6 V0
/-- lists of sayings at these addresses -/
def LvAt (K : PySem.W.Frag) (H : Hp) (ps : List Addr) (ls : List (List Say)) : Prop := ps.length = ls.length ∧ ∀ (i : Nat) p l, ps[i]? = some p → ls[i]? = some l → ∃ xs, H p = some (.lst xs) ∧ DpAll K H xs (l.map dSay)
theorem LvAt.same {K : PySem.W.Frag} {H H' : Hp} {ps : List Addr} {ls : List (List Say)} (h : LvAt K H ps ls) (e : Same H H') : LvAt K H' ps ls := ⟨h.1, fun i p l hp hl => by
  obtain ⟨xs, h1, h2⟩ := h.2 i p l hp hl
  exact ⟨xs, e _ _ h1, dps_same e _ _ h2⟩⟩
theorem LvAt.put {K : PySem.W.Frag} {H : Hp} {ps : List Addr} {ls : List (List Say)} {D : Addr} {us : List V} {o : HO} (h : LvAt K H ps ls) (hD : H D = some (.lst us)) (n : ∀ p ∈ ps, p ≠ D) : LvAt K (upd H D o) ps ls := ⟨h.1, fun i p l hp hl => by
  obtain ⟨xs, h1, h2⟩ := h.2 i p l hp hl
  exact ⟨xs, (upd_ne (n p (List.mem_of_getElem? hp))).trans h1, dps_mv (fun b zs hb => sqT_upd hD hb) _ _ (noLs_says _) h2⟩⟩
theorem LvAt.snoc {K : PySem.W.Frag} {H : Hp} {ps : List Addr} {ls : List (List Say)} {p : Addr} {l : List Say} {xs : List V} (h : LvAt K H ps ls) (hp : H p = some (.lst xs)) (hx : DpAll K H xs (l.map dSay)) : LvAt K H (ps ++ [p]) (ls ++ [l]) := by
  refine ⟨by rw [List.length_append, List.length_append, h.1]; rfl, fun i q m hq hm => ?_⟩
  by_cases c : i < ps.length
  · rw [List.getElem?_append_left c] at hq
    rw [List.getElem?_append_left (by rw [← h.1]; exact c)] at hm
    exact h.2 i q m hq hm
  · rw [List.getElem?_append_right (by omega)] at hq
    rw [List.getElem?_append_right (by rw [← h.1]; omega)] at hm
    have i0 : i - ps.length = 0 := by
      have := (List.getElem?_eq_some_iff.mp hq).1
      rw [List.length_singleton] at this
      omega
    rw [i0] at hq
    rw [← h.1, i0] at hm
    cases hq
    cases hm
    exact ⟨xs, hp, hx⟩
theorem lvls_sum {s : Say} {d : List (List Say)} {l : List Say} (h : d ++ Say.lvls (Say.maxd l) l = Say.lvls s.deep [s]) : l.length ≤ s.words.length := by
  by_cases e : l = []
  · rw [e]
    exact Nat.zero_le _
  · have p := (Say.bfs_perm s).length_eq
    unfold Say.bfs at p
    rw [← h, Say.maxd_parts e] at p
    have q : Say.lvls (Say.maxd (l.flatMap Say.parts) + 1) l = l :: Say.lvls (Say.maxd (l.flatMap Say.parts)) (l.flatMap Say.parts) := if_neg e
    rw [q, List.flatten_append, List.flatten_cons, List.length_append, List.length_append] at p
    omega
theorem lvls_next {s : Say} {d : List (List Say)} {l : List Say} (e : l ≠ []) (h : d ++ Say.lvls (Say.maxd l) l = Say.lvls s.deep [s]) : (d ++ [l]) ++ Say.lvls (Say.maxd (l.flatMap Say.parts)) (l.flatMap Say.parts) = Say.lvls s.deep [s] := by
  rw [← h, Say.maxd_parts e]
  have q : Say.lvls (Say.maxd (l.flatMap Say.parts) + 1) l = l :: Say.lvls (Say.maxd (l.flatMap Say.parts)) (l.flatMap Say.parts) := if_neg e
  rw [q, List.append_assoc]
  rfl
theorem lvls_deep {s : Say} {d : List (List Say)} {l : List Say} (h : d ++ Say.lvls (Say.maxd l) l = Say.lvls s.deep [s]) : d.length + Say.maxd l = s.deep := by
  have := congrArg List.length h
  rw [List.length_append, Say.lvls_len _ (Nat.le_refl _), Say.lvls_len _ (by rw [Say.maxd_one]; exact Nat.le_refl _), Say.maxd_one] at this
  exact this
section
variable {P : Program} {w : World} {K : PySem.W.Frag} {mg : Str → Option Value} {base : Heap}
def sp_levels_of (K : PySem.W.Frag) : Sp := fun vs H Q _ => ∃ (v : V) (s : Say), vs = [v] ∧ Dp K H v (dSay s) ∧ s.deep ≤ 200 ∧ s.words.length ≤ 5000 ∧ ∀ H' g ps, Same H H' → H g = none → H' g = some (.lst (ps.map V.ref)) → LvAt K H' ps (Say.lvls s.deep [s]) → Q (.ref g) H'
set_option maxHeartbeats 1000000 in
theorem ok_levels_of (T : Tops K w mg) : FnOk P w K mg base CX0 1 T.a_levels_of T.fd_levels_of p_levels_of (sp_levels_of K) := by
  have S := sc_levels_of
  refine T.F_levels_of.ok S (fun vs H Q E h => ?_) (fun cdv A outer s0 H vs Q E hr h => ?_)
  · obtain ⟨v, s, rfl, _⟩ := h
    rfl
  · obtain ⟨v, s, rfl, hd, dp, hw, q⟩ := h
    refine ⟨_, (pss_cons (ps_set (i := 1) S.nd rfl (Or.inl rfl) (pe_lst pa_nil))
      (pss_cons (ps_set (i := 2) S.nd rfl (Or.inl rfl) (pe_lst (pa_cons (pv 0) pa_nil)))
      (pss_cons (ps_while PassesOwn.never (pt_truth (pv 2) (by intro _; rfl)) (pss_cons (ps_expr (pe_bm PySem.F.plainAttrs_list PySem.F.slot_list_append PySem.F.type_list_append mt_append (pv 1) (pa_cons (pv 2) pa_nil)))
      (pss_one (ps_setLc2 (i := 2) (own := [("word", 3), ("part", 4)]) (vs1 := [4]) rfl S.nd rfl rfl (sw_true rfl rfl rfl (by decide +kernel)) (pi_list (pv 2)) (blkOk_by (N := n_levels_of) (sc := defScope s_levels_of) (by decide +kernel)) (by decide) (fun _ _ _ _ _ => (pg_name (i := 3) S.nd rfl (Or.inl rfl))) (fun _ _ _ _ _ => pts_nil) (fun _ _ _ _ _ => (V2.pi_tupK (K := K) (pv 3))) (fun _ _ _ _ _ => (pg_name (i := 4) S.nd rfl (Or.inl rfl))) (fun _ _ _ _ _ => (pts_one (pt_cmpR op_isTyB (pe_callTy (V11.call_typeSK (K := K)) (by rfl) T.m_type (by decide +kernel) (pa_cons (pv 4) pa_nil)) (pe_bltn (v := .ty "tuple") (by rfl) T.m_tuple (by decide +kernel) rfl) (nomark _)))) (fun _ _ _ _ _ => (pv 4))))))
      (pss_one (ps_ret (pv 1)))))), ?_⟩
    refine ⟨Nat.zero_le _, fun L nL => ⟨v, rfl, by show 1 ≤ sizeLine; decide, fun G nG => ?_⟩⟩
    have e1 := same_new (o := .lst []) nL
    have nGH : H G = none := e1.free nG
    have e2 := e1.trans (same_new (o := .lst [v]) nG)
    have LG : G ≠ L := fun z => by rw [z, upd_same] at nG; cases nG
    refine ⟨fun z σ H' => ∃ (g : Addr) (ps : List Addr) (d : List (List Say)) (l : List Say) (xs : List V) (y3 y4 : Option V), z = Say.maxd l ∧ σ = [some v, some (.ref L), some (.ref g), y3, y4] ∧ Same H H' ∧ H' L = some (.lst (ps.map V.ref)) ∧ LvAt K H' ps d ∧ (∀ p ∈ ps, p ≠ L) ∧ g ≠ L ∧ H' g = some (.lst xs) ∧ DpAll K H' xs (l.map dSay) ∧ d ++ Say.lvls (Say.maxd l) l = Say.lvls s.deep [s],
      ⟨_, G, [], [], [s], [v], none, none, rfl, rfl, e2, ?_, ⟨rfl, fun i p l h => by cases h⟩, fun p h => (List.not_mem_nil h).elim, LG, upd_same, .cons (dp_same e2 _ _ hd) .nil, ?_⟩, ?_⟩
    · rw [upd_ne (Ne.symm LG), upd_same]
      rfl
    · rw [Say.maxd_one]
      rfl
    · rintro z σ H2 ⟨g, ps, d, l, xs, y3, y4, rfl, rfl, e3, hL, lv, npL, gL, hg, hx, eq⟩
      have lx := dps_len hx
      rw [List.length_map] at lx
      have sml := lvls_sum eq
      refine ⟨.ref g, rfl, _, .inl ⟨_, SqL.of hg, rfl⟩, ?_⟩
      by_cases en : l = []
      · subst en
        have xs0 : xs = [] := List.length_eq_zero_iff.mp lx
        subst xs0
        have eq' : d ++ [] = Say.lvls s.deep [s] := eq
        rw [List.append_nil] at eq'
        rw [← eq'] at q
        exact ⟨.ref L, rfl, q H2 L ps e3 nL hL lv⟩
      · have hk : (!xs.isEmpty) = true := by
          cases xs with
          | nil => exact absurd (List.length_eq_zero_iff.mp lx.symm) en
          | cons _ _ => rfl
        rw [hk]
        have dlen := lvls_deep eq
        have mx := Say.maxd_parts en
        refine ⟨fun σ' H' => ∃ z', z' < Say.maxd l ∧ ∃ (g : Addr) (ps : List Addr) (d : List (List Say)) (l : List Say) (xs : List V) (y3 y4 : Option V), z' = Say.maxd l ∧ σ' = [some v, some (.ref L), some (.ref g), y3, y4] ∧ Same H H' ∧ H' L = some (.lst (ps.map V.ref)) ∧ LvAt K H' ps d ∧ (∀ p ∈ ps, p ≠ L) ∧ g ≠ L ∧ H' g = some (.lst xs) ∧ DpAll K H' xs (l.map dSay) ∧ d ++ Say.lvls (Say.maxd l) l = Say.lvls s.deep [s], fun σ' H' z => z, ?_⟩
        refine ⟨.ref L, rfl, .inl ⟨rfl, _, SqL.of hL⟩, .ref g, rfl, L, _, _, rfl, rfl, hL, ?_, ?_⟩
        · rw [List.length_map, lv.1]
          exact small (m := 300) (by omega)
        have e4 : Same H (upd H2 L (.lst (ps.map V.ref ++ [.ref g]))) := same_upd_new e3 nL
        have lv4 := (lv.put (o := .lst (ps.map V.ref ++ [.ref g])) hL npL).snoc ((upd_ne gL).trans hg) (dps_mv (fun b zs hb => sqT_upd hL hb) _ _ (noLs_says _) hx)
        have hg4 : upd H2 L (.lst (ps.map V.ref ++ [.ref g])) g = some (.lst xs) := (upd_ne gL).trans hg
        have hx4 := dps_mv (H' := upd H2 L (.lst (ps.map V.ref ++ [.ref g]))) (fun b zs hb => sqT_upd hL hb) _ _ (noLs_says _) hx
        have hL4 : upd H2 L (.lst (ps.map V.ref ++ [.ref g])) L = some (.lst ((ps ++ [g]).map V.ref)) := by rw [upd_same, List.map_append]; rfl
        generalize upd H2 L _ = H4 at e4 lv4 hg4 hx4 hL4
        have l2 := parts_two l
        refine ⟨.ref g, rfl, g, rfl, ⟨_, SqL.of hg4⟩, fun D nD => ?_⟩
        have DL : D ≠ L := fun z => by rw [z, hL4] at nD; cases nD
        have nDH : H D = none := e4.free nD
        refine V9.lc2_out (walk_list (K := K) (a := g) (xs := xs)) (fun i H' => Same H4 H' ∧ ∃ us, H' D = some (.lst us) ∧ DpAll K H' us (((l.take i).flatMap Say.parts).map dSay)) ⟨same_new nD, [], upd_same, .nil⟩ (fun i H' _ h => SqL.of (h.1 _ _ hg4)) (fun i x H5 H6 hi h hy => ?_) (fun H5 h => ?_)
        · obtain ⟨rfl, hxi⟩ := hy
          obtain ⟨e5, us, hD, hus⟩ := h
          obtain ⟨t, ti, tm, dt⟩ := get_say (dps_same e5 _ _ hx4) hxi
          obtain ⟨a, zs, rfl, hs, hz⟩ := say_at dt
          have lz := dps_len hz
          rw [List.length_map] at lz
          refine ⟨rfl, .ref a, rfl, a, rfl, ⟨_, hs⟩, ?_⟩
          have ex2 : t.ex.length ≤ 1 := by cases t <;> simp [Say.ex]
          have pt2 : t.parts.length ≤ 2 := by cases t <;> simp [Say.parts]
          refine V9.lc2_in (walk_tup (K := K) (a := a) (xs := .str t.hd :: (t.ex.map V.int ++ zs))) (fun j H' => Same H4 H' ∧ SqT K H' a (.str t.hd :: (t.ex.map V.int ++ zs)) ∧ DpAll K H' zs (t.parts.map dSay) ∧ ∃ us, H' D = some (.lst us) ∧ DpAll K H' us (((l.take i).flatMap Say.parts ++ t.parts.take (j - (1 + t.ex.length))).map dSay))
            ⟨e5, hs, hz, us, hD, by rw [show 0 - (1 + t.ex.length) = 0 by omega, List.take_zero, List.append_nil]; exact hus⟩ (fun j H' _ h => h.2.1) (fun j x H6 H7 hj h hy => ?_) (fun H6 h => ?_)
          · obtain ⟨rfl, hxj⟩ := hy
            obtain ⟨e6, hs6, hz6, us6, hD6, hus6⟩ := h
            have lu := dps_len hus6
            rw [List.length_map, List.length_append] at lu
            have lt1 := parts_two (l.take i)
            have lt2 := List.length_take_le' i l
            have lt3 := List.length_take_le' (j - (1 + t.ex.length)) t.parts
            by_cases c : j < 1 + t.ex.length
            · have nt : ∃ ty, TyS K H7 x ty ∧ decide (ty = "tuple") = false := by
                cases j with
                | zero =>
                  cases hxj
                  exact ⟨"str", .str _, by decide⟩
                | succ j =>
                  rw [List.getElem?_cons_succ, List.getElem?_append_left (by rw [List.length_map]; omega), List.getElem?_map] at hxj
                  obtain ⟨k, _, rfl⟩ := Option.map_eq_some_iff.mp hxj
                  exact ⟨"int", .int _, by decide⟩
              obtain ⟨ty, ht1, ht2⟩ := nt
              refine ⟨rfl, x, rfl, x, ty, rfl, ht1, ty, "tuple", rfl, rfl, _, rfl, ?_⟩
              rw [ht2]
              refine iteF ⟨e6, hs6, hz6, us6, hD6, ?_⟩
              rw [show j + 1 - (1 + t.ex.length) = j - (1 + t.ex.length) by omega]
              exact hus6
            · have hj' : j = 1 + t.ex.length + (j - (1 + t.ex.length)) := by omega
              generalize hk : j - (1 + t.ex.length) = k at hj' hus6 lu lt3
              subst hj'
              have hzk : zs[k]? = some x := by
                rw [show 1 + t.ex.length + k = t.ex.length + k + 1 by omega, List.getElem?_cons_succ, List.getElem?_append_right (by rw [List.length_map]; omega), List.length_map, Nat.add_sub_cancel_left] at hxj
                exact hxj
              obtain ⟨u, ui, um, du⟩ := get_say hz6 hzk
              obtain ⟨b, ws, rfl, hb, _⟩ := say_at du
              refine ⟨rfl, .ref b, rfl, .ref b, "tuple", rfl, .tup hb, "tuple", "tuple", rfl, rfl, _, rfl, ?_⟩
              rw [decide_eq_true (rfl : ("tuple" : String) = "tuple")]
              refine iteT ⟨.ref b, rfl, us6, hD6, small (m := 20000) (by omega), same_upd_new e6 (e4.free nD |> fun _ => nD), sqT_upd hD6 hs6, dps_mv (fun b zs hb => sqT_upd hD6 hb) _ _ (noLs_says _) hz6, us6 ++ [.ref b], upd_same, ?_⟩
              rw [show 1 + t.ex.length + k + 1 - (1 + t.ex.length) = k + 1 by omega, List.take_add_one, ui, ← List.append_assoc, List.map_append]
              exact dps_app (dps_mv (fun b zs hb => sqT_upd hD6 hb) _ _ (noLs_says _) hus6) (.cons (dp_mv (fun b zs hb => sqT_upd hD6 hb) _ _ (noL_say _) du) .nil)
          · obtain ⟨e6, hs6, hz6, us6, hD6, hus6⟩ := h
            refine ⟨e6, us6, hD6, ?_⟩
            rw [List.length_cons, List.length_append, List.length_map, lz, show t.ex.length + t.parts.length + 1 - (1 + t.ex.length) = t.parts.length by omega, List.take_length] at hus6
            rw [List.take_add_one, ti, List.flatMap_append]
            show DpAll K H6 us6 ((((l.take i).flatMap Say.parts) ++ (t.parts ++ [])).map dSay)
            rw [List.append_nil]
            exact hus6
        · obtain ⟨e5, us, hD, hus⟩ := h
          rw [lx, List.take_length] at hus
          refine ⟨_, ?_, D, ps ++ [g], d ++ [l], l.flatMap Say.parts, us, _, _, rfl, rfl, e4.trans e5, e5 _ _ hL4, lv4.same e5, fun p hp => ?_, DL, hD, hus, lvls_next en eq⟩
          · omega
          · rcases List.mem_append.mp hp with hp | hp
            · exact npL p hp
            · rw [List.mem_singleton.mp hp]
              exact gL
end
end K0

namespace K0
open PySem PySem.Spec PyProof.Rows L2 W0 W1 W2 W5 W6 V0
/-! ### a walk's object -/
def walkF (nl : Int) (dn : Bool) (md : Int) (mw : Int) (met : Int) : List (Str × V) := [(("letters" : Str), V.int nl), (("denying" : Str), V.bl dn), (("most_deep" : Str), V.int md), (("most_words" : Str), V.int mw), (("met" : Str), V.int met)]
theorem walkF_n01 : ¬ (("letters" : Str) = "denying") := by decide +kernel
theorem walkF_n02 : ¬ (("letters" : Str) = "most_deep") := by decide +kernel
theorem walkF_n03 : ¬ (("letters" : Str) = "most_words") := by decide +kernel
theorem walkF_n04 : ¬ (("letters" : Str) = "met") := by decide +kernel
theorem walkF_n12 : ¬ (("denying" : Str) = "most_deep") := by decide +kernel
theorem walkF_n13 : ¬ (("denying" : Str) = "most_words") := by decide +kernel
theorem walkF_n14 : ¬ (("denying" : Str) = "met") := by decide +kernel
theorem walkF_n23 : ¬ (("most_deep" : Str) = "most_words") := by decide +kernel
theorem walkF_n24 : ¬ (("most_deep" : Str) = "met") := by decide +kernel
theorem walkF_n34 : ¬ (("most_words" : Str) = "met") := by decide +kernel
theorem walkF_new (nl : Int) (dn : Bool) (md : Int) (mw : Int) (met : Int) : putF "met" (V.int met) (putF "most_words" (V.int mw) (putF "most_deep" (V.int md) (putF "denying" (V.bl dn) (putF "letters" (V.int nl) [])))) = walkF nl dn md mw met := by
  have e0 : putF "letters" (V.int nl) [] = [(("letters" : Str), V.int nl)] := rfl
  have e1 : putF "denying" (V.bl dn) [(("letters" : Str), V.int nl)] = [(("letters" : Str), V.int nl), (("denying" : Str), V.bl dn)] := by
    show (if ("letters" : Str) = "denying" then _ else (("letters" : Str), V.int nl) :: putF "denying" (V.bl dn) []) = _
    rw [if_neg walkF_n01]
    rfl
  have e2 : putF "most_deep" (V.int md) [(("letters" : Str), V.int nl), (("denying" : Str), V.bl dn)] = [(("letters" : Str), V.int nl), (("denying" : Str), V.bl dn), (("most_deep" : Str), V.int md)] := by
    show (if ("letters" : Str) = "most_deep" then _ else (("letters" : Str), V.int nl) :: (if ("denying" : Str) = "most_deep" then _ else (("denying" : Str), V.bl dn) :: putF "most_deep" (V.int md) [])) = _
    rw [if_neg walkF_n02, if_neg walkF_n12]
    rfl
  have e3 : putF "most_words" (V.int mw) [(("letters" : Str), V.int nl), (("denying" : Str), V.bl dn), (("most_deep" : Str), V.int md)] = [(("letters" : Str), V.int nl), (("denying" : Str), V.bl dn), (("most_deep" : Str), V.int md), (("most_words" : Str), V.int mw)] := by
    show (if ("letters" : Str) = "most_words" then _ else (("letters" : Str), V.int nl) :: (if ("denying" : Str) = "most_words" then _ else (("denying" : Str), V.bl dn) :: (if ("most_deep" : Str) = "most_words" then _ else (("most_deep" : Str), V.int md) :: putF "most_words" (V.int mw) []))) = _
    rw [if_neg walkF_n03, if_neg walkF_n13, if_neg walkF_n23]
    rfl
  have e4 : putF "met" (V.int met) [(("letters" : Str), V.int nl), (("denying" : Str), V.bl dn), (("most_deep" : Str), V.int md), (("most_words" : Str), V.int mw)] = [(("letters" : Str), V.int nl), (("denying" : Str), V.bl dn), (("most_deep" : Str), V.int md), (("most_words" : Str), V.int mw), (("met" : Str), V.int met)] := by
    show (if ("letters" : Str) = "met" then _ else (("letters" : Str), V.int nl) :: (if ("denying" : Str) = "met" then _ else (("denying" : Str), V.bl dn) :: (if ("most_deep" : Str) = "met" then _ else (("most_deep" : Str), V.int md) :: (if ("most_words" : Str) = "met" then _ else (("most_words" : Str), V.int mw) :: putF "met" (V.int met) [])))) = _
    rw [if_neg walkF_n04, if_neg walkF_n14, if_neg walkF_n24, if_neg walkF_n34]
    rfl
  rw [e0, e1, e2, e3, e4]
  rfl
theorem walkF_letters (nl : Int) (dn : Bool) (md : Int) (mw : Int) (met : Int) : (walkF nl dn md mw met).lookup ("letters" : Str) = some (V.int nl) := by
  rw [← walkF_new, lookup_putF, if_neg walkF_n04, lookup_putF, if_neg walkF_n03, lookup_putF, if_neg walkF_n02, lookup_putF, if_neg walkF_n01, lookup_putF, if_pos rfl]
theorem walkF_denying (nl : Int) (dn : Bool) (md : Int) (mw : Int) (met : Int) : (walkF nl dn md mw met).lookup ("denying" : Str) = some (V.bl dn) := by
  rw [← walkF_new, lookup_putF, if_neg walkF_n14, lookup_putF, if_neg walkF_n13, lookup_putF, if_neg walkF_n12, lookup_putF, if_pos rfl]
theorem walkF_most_deep (nl : Int) (dn : Bool) (md : Int) (mw : Int) (met : Int) : (walkF nl dn md mw met).lookup ("most_deep" : Str) = some (V.int md) := by
  rw [← walkF_new, lookup_putF, if_neg walkF_n24, lookup_putF, if_neg walkF_n23, lookup_putF, if_pos rfl]
theorem walkF_most_words (nl : Int) (dn : Bool) (md : Int) (mw : Int) (met : Int) : (walkF nl dn md mw met).lookup ("most_words" : Str) = some (V.int mw) := by
  rw [← walkF_new, lookup_putF, if_neg walkF_n34, lookup_putF, if_pos rfl]
theorem walkF_met (nl : Int) (dn : Bool) (md : Int) (mw : Int) (met : Int) : (walkF nl dn md mw met).lookup ("met" : Str) = some (V.int met) := by
  rw [← walkF_new, lookup_putF, if_pos rfl]
theorem walkF_no (nl : Int) (dn : Bool) (md : Int) (mw : Int) (met : Int) {m : Str} (h0 : ¬ m = ("letters" : Str)) (h1 : ¬ m = ("denying" : Str)) (h2 : ¬ m = ("most_deep" : Str)) (h3 : ¬ m = ("most_words" : Str)) (h4 : ¬ m = ("met" : Str)) : (walkF nl dn md mw met).lookup m = none := by
  rw [← walkF_new, lookup_putF, if_neg h4, lookup_putF, if_neg h3, lookup_putF, if_neg h2, lookup_putF, if_neg h1, lookup_putF, if_neg h0]
  rfl
theorem walkF_put_met (nl : Int) (dn : Bool) (md : Int) (mw : Int) (met : Int) (y : Int) : putF "met" (V.int y) (walkF nl dn md mw met) = walkF nl dn md mw y := by
  show (if ("letters" : Str) = "met" then _ else (("letters" : Str), V.int nl) :: (if ("denying" : Str) = "met" then _ else (("denying" : Str), V.bl dn) :: (if ("most_deep" : Str) = "met" then _ else (("most_deep" : Str), V.int md) :: (if ("most_words" : Str) = "met" then _ else (("most_words" : Str), V.int mw) :: (if ("met" : Str) = "met" then _ else _))))) = _
  rw [if_neg walkF_n04, if_neg walkF_n14, if_neg walkF_n24, if_neg walkF_n34, if_pos rfl]
  rfl
/-- all but the thing at p stays -/
def ButP (p : Addr) (H H' : Hp) : Prop := ∀ c o, c ≠ p → H c = some o → H' c = some o
theorem ButP.of {p : Addr} {H H' : Hp} (e : Same H H') : ButP p H H' := fun c o _ h => e c o h
theorem ButP.trans {p : Addr} {H H1 H2 : Hp} (a : ButP p H H1) (b : ButP p H1 H2) : ButP p H H2 := fun c o n h => b c o n (a c o n h)
theorem ButP.own {p : Addr} {H H1 : Hp} {o : HO} (a : ButP p H H1) : ButP p H (upd H1 p o) := fun c u n h => by
  rw [upd_ne n]
  exact a c u n h
theorem ButP.new {p D : Addr} {H H1 : Hp} {o : HO} (a : ButP p H H1) (h : H D = none) : ButP p H (upd H1 D o) := fun c u n e => by
  rw [upd_ne (ne_of_none e h)]
  exact a c u n e
/-- with p new all stays -/
theorem ButP.same {p : Addr} {H H1 H2 : Hp} (a : ButP p H1 H2) (e : Same H H1) (n : H p = none) : Same H H2 := fun c u h => a c u (ne_of_none h n) (e c u h)
theorem sqT_ins {K : PySem.W.Frag} {H : Hp} {p C dx : Addr} {fs : List (Str × V)} {u : HO} (h : H p = some (.ins C dx fs)) {a : Addr} {xs : List V} (q : SqT K H a xs) : SqT K (upd H p u) a xs := by
  rcases q with (q | ⟨b, q⟩) | q
  · refine .inl (.inl ?_)
    rw [upd_ne (ne_of q h (fun z => by cases z))]
    exact q
  · refine .inl (.inr ⟨b, ?_⟩)
    rw [upd_ne (ne_of q h (fun z => by cases z))]
    exact q
  · exact .inr q
theorem say_ins {K : PySem.W.Frag} {H : Hp} {p C dx : Addr} {fs : List (Str × V)} {u : HO} (h : H p = some (.ins C dx fs)) {v : V} {s : Say} (q : Dp K H v (dSay s)) : Dp K (upd H p u) v (dSay s) := dp_mv (fun _ _ z => sqT_ins h z) _ _ (noL_say s) q
section
variable {P : Program} {w : World} {K : PySem.W.Frag} {mg : Str → Option Value} {base : Heap}
def sp_Walk_init (C : Addr) : Sp := fun vs H Q _ => ∃ (p dx : Addr) (nl : Int) (dn : Bool) (md mw : Int), vs = [.ref p, .int nl, .bl dn, .int md, .int mw] ∧ H p = some (.ins C dx []) ∧ ∀ H', ButP p H H' → H' p = some (.ins C dx (walkF nl dn md mw 0)) → Q .non H'
theorem ok_Walk___init__ (T : Tops K w mg) : FnOk P w K mg base CX0 1 T.a_Walk___init__ T.fd_Walk___init__ p_Walk___init__ (sp_Walk_init T.C_Walk) := by
  have S := sc_Walk___init__
  refine T.F_Walk___init__.ok S (fun vs H Q E h => ?_) (fun cdv A outer s0 H vs Q E hr h => ?_)
  · obtain ⟨p, dx, nl, dn, md, mw, rfl, _⟩ := h
    rfl
  · obtain ⟨p, dx, nl, dn, md, mw, rfl, hp, q⟩ := h
    refine ⟨_, (pss_cons (ps_fld (pv 0) (pv 1) rfl)
      (pss_cons (ps_fld (pv 0) (pv 2) rfl)
      (pss_cons (ps_fld (pv 0) (pv 3) rfl)
      (pss_cons (ps_fld (pv 0) (pv 4) rfl)
      (pss_one (ps_fld (pv 0) pe_int rfl)))))), ?_⟩
    have l1 : (putF "letters" (V.int nl) []).length = 1 := rfl
    have l2 := length_putF "denying" (V.bl dn) (putF "letters" (V.int nl) [])
    have l3 := length_putF "most_deep" (V.int md) (putF "denying" (V.bl dn) (putF "letters" (V.int nl) []))
    have l4 := length_putF "most_words" (V.int mw) (putF "most_deep" (V.int md) (putF "denying" (V.bl dn) (putF "letters" (V.int nl) [])))
    refine ⟨.int nl, rfl, .ref p, rfl, p, T.C_Walk, dx, [], rfl, hp, T.cl_Walk, T.na_Walk_letters, by decide, ?_⟩
    refine ⟨.bl dn, rfl, .ref p, rfl, p, T.C_Walk, dx, _, rfl, upd_same, T.cl_Walk, T.na_Walk_denying, by omega, ?_⟩
    refine ⟨.int md, rfl, .ref p, rfl, p, T.C_Walk, dx, _, rfl, upd_same, T.cl_Walk, T.na_Walk_most_deep, by omega, ?_⟩
    refine ⟨.int mw, rfl, .ref p, rfl, p, T.C_Walk, dx, _, rfl, upd_same, T.cl_Walk, T.na_Walk_most_words, by omega, ?_⟩
    refine ⟨.ref p, rfl, p, T.C_Walk, dx, _, rfl, upd_same, T.cl_Walk, T.na_Walk_met, by omega, ?_⟩
    rw [walkF_new]
    exact q _ (((((ButP.of (Same.refl H)).own).own).own).own).own upd_same
theorem walkF_wp (nl : Int) (dn : Bool) (md mw met : Int) : (walkF nl dn md mw met).lookup ("wrong_path" : Str) = none := walkF_no _ _ _ _ _ (by decide +kernel) (by decide +kernel) (by decide +kernel) (by decide +kernel) (by decide +kernel)
theorem walkF_mr (nl : Int) (dn : Bool) (md mw met : Int) : (walkF nl dn md mw met).lookup ("_met_if_right" : Str) = none := walkF_no _ _ _ _ _ (by decide +kernel) (by decide +kernel) (by decide +kernel) (by decide +kernel) (by decide +kernel)
def sp_met_if_right (K : PySem.W.Frag) (C : Addr) : Sp := fun vs H Q _ => ∃ (p dx d : Addr) (v : V) (nl nh md mw met : Nat) (dn : Bool) (s : Say), vs = [.ref p, v, .ref d] ∧ H p = some (.ins C dx (walkF (nl : Int) dn md mw (met : Int))) ∧ Nums H d nl nh ∧ Dp K H v (dSay s) ∧ s.OkN nl nh dn ∧ s.deep ≤ md ∧ met + s.words.length ≤ mw ∧ md ≤ 200 ∧ mw ≤ 5000 ∧
  ∀ H', Same H H' → Q (.int ((met + s.words.length : Nat) : Int)) H'
theorem lvls_next_len {s : Say} {d : List (List Say)} {l : List Say} (h : d ++ Say.lvls (Say.maxd l) l = Say.lvls s.deep [s]) : d.flatten.length + l.length ≤ s.words.length := by
  by_cases e : l = []
  · subst e
    have p := (Say.bfs_perm s).length_eq
    unfold Say.bfs at p
    have h' : d ++ [] = Say.lvls s.deep [s] := h
    rw [List.append_nil] at h'
    rw [← h'] at p
    rw [p]
    exact Nat.le_refl _
  · have h2 := lvls_next e h
    have p := (Say.bfs_perm s).length_eq
    unfold Say.bfs at p
    rw [← h2, List.flatten_append, List.flatten_append, List.length_append, List.length_append] at p
    have : ([l] : List (List Say)).flatten.length = l.length := by simp
    omega
theorem lvls_mem {s : Say} {d : List (List Say)} {l : List Say} (h : d ++ Say.lvls (Say.maxd l) l = Say.lvls s.deep [s]) : ∀ t ∈ l, t ∈ s.words := fun t m => by
  have e : l ≠ [] := fun z => by rw [z] at m; cases m
  have h2 := lvls_next e h
  refine (Say.bfs_perm s).mem_iff.mp ?_
  unfold Say.bfs
  rw [← h2]
  exact List.mem_flatten.mpr ⟨l, List.mem_append_left _ (List.mem_append_right _ List.mem_cons_self), m⟩
set_option maxHeartbeats 1000000 in
theorem ok_Walk__met_if_right (T : Tops K w mg) : FnOk P w K mg base CX0 2 T.a_Walk__met_if_right T.fd_Walk__met_if_right p_Walk__met_if_right (sp_met_if_right K T.C_Walk) := by
  have S := sc_Walk__met_if_right
  refine T.F_Walk__met_if_right.ok S (fun vs H Q E h => ?_) (fun cdv A outer s0 H vs Q E hr h => ?_)
  · obtain ⟨p, dx, d, v, nl, nh, md, mw, met, dn, s, rfl, _⟩ := h
    rfl
  · obtain ⟨p, dx, d, v, nl, nh, md, mw, met, dn, s, rfl, hp, hn, hd, ok, hdeep, hmw, md1, mw1, q⟩ := h
    refine ⟨_, (pss_cons (ps_set (i := 3) S.nd rfl (Or.inl rfl) (V6.pe_fldK (K := K) (pv 0) rfl))
      (pss_cons (ps_set (i := 4) S.nd rfl (Or.inl rfl) pe_int)
      (pss_cons (ps_set (i := 5) S.nd rfl (Or.inl rfl) (pe_lst (pa_cons (pv 1) pa_nil)))
      (pss_cons (ps_while PassesOwn.never (pt_truth (pv 5) (by intro _; rfl)) (pss_cons (ps_set (i := 4) S.nd rfl (Or.inl rfl) (pe_op op_add (pv 4) pe_int))
      (pss_cons (ps_set (i := 3) S.nd rfl (Or.inl rfl) (pe_op op_add (pv 3) (pe_callB call_len_seq (by rfl) T.m_len (by decide +kernel) (pa_cons (pv 5) pa_nil))))
      (pss_cons (ps_if ((pw_or (pt_cmpR op_gt (pv 4) (V6.pe_fldK (K := K) (pv 0) rfl) (nomark _)) (pw_or1 (pt_cmpR op_gt (pv 3) (V6.pe_fldK (K := K) (pv 0) rfl) (nomark _))))).pt (pss_one (ps_ret pe_non)) pss_nil)
      (pss_one (ps_set (i := 5) S.nd rfl (Or.inl rfl) (pe_call (ok__parts_if_right T) (hr.mono (by first | decide | omega)) (by rfl) T.g__parts_if_right T.F__parts_if_right.kp T.b__parts_if_right .nil pass0 (pa_cons (pv 5) (pa_cons (pv 2) (pa_cons (V6.pe_fldK (K := K) (pv 0) rfl) pa_nil))))))))))
      (pss_one (ps_ret (pe_ifExp (pt_cmpR op_isN (pv 5) pe_non (nomark _)) pe_non (pv 3)))))))), ?_⟩
    refine ⟨.ref p, rfl, p, T.C_Walk, dx, _, _, rfl, hp, T.cl_Walk, T.na_Walk_met, walkF_met _ _ _ _ _, ?_⟩
    refine ⟨v, rfl, by show 1 ≤ sizeLine; decide, fun G nG => ?_⟩
    have e1 := same_new (o := .lst [v]) nG
    refine ⟨fun z σ H' => ∃ (g : Addr) (dl : List (List Say)) (l : List Say) (xs : List V), z = Say.maxd l ∧ σ = [some (.ref p), some v, some (.ref d), some (.int ((met + dl.flatten.length : Nat) : Int)), some (.int (dl.length : Int)), some (.ref g)] ∧ Same H H' ∧ H' g = some (.lst xs) ∧ DpAll K H' xs (l.map dSay) ∧ dl ++ Say.lvls (Say.maxd l) l = Say.lvls s.deep [s],
      ⟨_, G, [], [s], [v], rfl, rfl, e1, upd_same, .cons (dp_same e1 _ _ hd) .nil, by rw [Say.maxd_one]; rfl⟩, ?_⟩
    rintro z σ H2 ⟨g, dl, l, xs, rfl, rfl, e3, hg, hx, eq⟩
    have lx := dps_len hx
    rw [List.length_map] at lx
    refine ⟨.ref g, rfl, _, .inl ⟨_, SqL.of hg, rfl⟩, ?_⟩
    have dlen := lvls_deep eq
    have wlen := lvls_next_len eq
    by_cases en : l = []
    · subst en
      have xs0 : xs = [] := List.length_eq_zero_iff.mp lx
      subst xs0
      have eq' : dl ++ [] = Say.lvls s.deep [s] := eq
      rw [List.append_nil] at eq'
      have full : dl.flatten.length = s.words.length := by
        rw [eq']
        exact (Say.bfs_perm s).length_eq
      rw [full]
      refine iteF ?_
      refine ⟨.ref g, rfl, rfl, _, rfl, ?_⟩
      rw [show decide (V.ref g = V.non) = false from decide_eq_false (fun z => by cases z)]
      exact iteF ⟨_, rfl, q H2 e3⟩
    · have hk : (!xs.isEmpty) = true := by
        cases xs with
        | nil => exact absurd (List.length_eq_zero_iff.mp lx.symm) en
        | cons _ _ => rfl
      rw [hk]
      have mx := Say.maxd_parts en
      have hp2 := e3 _ _ hp
      refine ⟨fun σ' H' => ∃ z', z' < Say.maxd l ∧ ∃ (g : Addr) (dl : List (List Say)) (l : List Say) (xs : List V), z' = Say.maxd l ∧ σ' = [some (.ref p), some v, some (.ref d), some (.int ((met + dl.flatten.length : Nat) : Int)), some (.int (dl.length : Int)), some (.ref g)] ∧ Same H H' ∧ H' g = some (.lst xs) ∧ DpAll K H' xs (l.map dSay) ∧ dl ++ Say.lvls (Say.maxd l) l = Say.lvls s.deep [s], fun σ' H' z => z, ?_⟩
      refine ⟨_, rfl, _, _, rfl, rfl, ?_⟩
      refine ⟨_, rfl, .ref g, rfl, g, _, rfl, .inl (SqL.of hg), _, _, rfl, rfl, ?_⟩
      have n1 : ((met + dl.flatten.length : Nat) : Int) + (xs.length : Int) = ((met + (dl ++ [l]).flatten.length : Nat) : Int) := by
        rw [List.flatten_append, List.length_append, show ([l] : List (List Say)).flatten.length = l.length by simp, lx]
        omega
      have n2 : (dl.length : Int) + 1 = ((dl ++ [l]).length : Int) := by
        rw [List.length_append]
        rfl
      rw [show ((fun (i j : Int) => V.int (i + j)) (dl.length : Int) 1) = V.int ((dl ++ [l]).length : Int) from congrArg V.int n2, show ((fun (i j : Int) => V.int (i + j)) ((met + dl.flatten.length : Nat) : Int) (xs.length : Int)) = V.int ((met + (dl ++ [l]).flatten.length : Nat) : Int) from congrArg V.int n1]
      have n3 : (dl ++ [l]).flatten.length = dl.flatten.length + l.length := by
        rw [List.flatten_append, List.length_append]
        simp
      have n4 : (dl ++ [l]).length = dl.length + 1 := by rw [List.length_append]; rfl
      refine ⟨_, rfl, .ref p, rfl, p, T.C_Walk, dx, _, _, rfl, hp2, T.cl_Walk, T.na_Walk_most_deep, walkF_most_deep _ _ _ _ _, _, _, rfl, rfl, _, rfl, ?_⟩
      rw [decide_eq_false (by omega : ¬ ((md : Int) < ((dl ++ [l]).length : Int)))]
      refine iteF ⟨_, rfl, .ref p, rfl, p, T.C_Walk, dx, _, _, rfl, hp2, T.cl_Walk, T.na_Walk_most_words, walkF_most_words _ _ _ _ _, _, _, rfl, rfl, _, rfl, ?_⟩
      rw [decide_eq_false (by omega : ¬ ((mw : Int) < ((met + (dl ++ [l]).flatten.length : Nat) : Int)))]
      refine iteF ?_
      have mem := lvls_mem eq
      refine ⟨.ref g, rfl, .ref d, rfl, .ref p, rfl, p, T.C_Walk, dx, _, _, rfl, hp2, T.cl_Walk, T.na_Walk_denying, walkF_denying _ _ _ _ _, g, d, xs, l, nl, nh, dn, rfl, hg, hx, e3 _ _ hn, fun t m => ok t (mem t m), by omega, fun H3 G3 ys e4 nG3 hG3 hy => ?_⟩
      exact ⟨_, by omega, G3, dl ++ [l], l.flatMap Say.parts, ys, rfl, rfl, e3.trans e4, hG3, hy, lvls_next en eq⟩
def sp_wrong_path (K : PySem.W.Frag) (C : Addr) : Sp := fun vs H Q _ => ∃ (p dx : Addr) (v : V) (nl nh md mw met : Nat) (dn : Bool) (s : Say), vs = [.ref p, v, .int nh] ∧ H p = some (.ins C dx (walkF (nl : Int) dn md mw (met : Int))) ∧ Dp K H v (dSay s) ∧ s.OkN nl nh dn ∧ s.deep ≤ md ∧ met + s.words.length ≤ mw ∧ md ≤ 200 ∧ mw ≤ 5000 ∧
  ∀ H', ButP p H H' → H' p = some (.ins C dx (walkF (nl : Int) dn md mw ((met + s.words.length : Nat) : Int))) → Q .non H'
theorem merge2 (a b : V) : mergeK [] [((Sum.inr "letter" : Key), a), (Sum.inr "here", b)] = [((Sum.inr "letter" : Key), a), (Sum.inr "here", b)] := by
  show putK (putK [] (Sum.inr "letter" : Key) a) (Sum.inr "here") b = _
  have e1 : putK ([] : List (Key × V)) (Sum.inr "letter" : Key) a = [((Sum.inr "letter" : Key), a)] := rfl
  rw [e1]
  unfold putK
  rw [if_neg]
  · rfl
  · intro z
    have z' : (decide ((Sum.inr "letter" : Key) = (Sum.inr "here" : Key)) || false) = true := z
    rw [Bool.or_false] at z'
    exact absurd (Sum.inr.inj (of_decide_eq_true z')) (show ¬ ("letter" : Str) = "here" by decide)
theorem ok_Walk_wrong_path (T : Tops K w mg) : FnOk P w K mg base CX0 4 T.a_Walk_wrong_path T.fd_Walk_wrong_path p_Walk_wrong_path (sp_wrong_path K T.C_Walk) := by
  have S := sc_Walk_wrong_path
  refine T.F_Walk_wrong_path.ok S (fun vs H Q E h => ?_) (fun cdv A outer s0 H vs Q E hr h => ?_)
  · obtain ⟨p, dx, v, nl, nh, md, mw, met, dn, s, rfl, _⟩ := h
    rfl
  · obtain ⟨p, dx, v, nl, nh, md, mw, met, dn, s, rfl, hp, hd, ok, hdeep, hmw, md1, mw1, q⟩ := h
    refine ⟨_, (pss_cons (ps_set (i := 3) S.nd rfl (Or.inl rfl) (pe_disp (pps_cons pe_str (V6.pe_fldK (K := K) (pv 0) rfl) (pps_cons pe_str (pv 2) pps_nil)) (by rfl) (by rfl) (fun z => by cases z) (by decide)))
      (pss_cons (ps_set (i := 4) S.nd rfl (Or.inl rfl) (pe_meth (pv 0) T.cl_Walk T.me_Walk__met_if_right (ok_Walk__met_if_right T) (hr.mono (by first | decide | omega)) T.b_Walk__met_if_right .nil pass0 (pa_cons (pv 1) (pa_cons (pv 3) pa_nil))))
      (pss_cons (ps_if (pt_cmpR op_isN (pv 4) pe_non (nomark _)) (pss_one ps_never) pss_nil)
      (pss_cons (ps_fld (pv 0) (pv 4) rfl)
      (pss_one (ps_ret pe_non)))))), ?_⟩
    intro d nd
    have e1 := same_new (o := .dK []) nd
    refine ⟨.ref p, rfl, p, T.C_Walk, dx, _, _, rfl, e1 _ _ hp, T.cl_Walk, T.na_Walk_letters, walkF_letters _ _ _ _ _, .int nh, rfl, ?_⟩
    refine ⟨upd_same, [((Sum.inr "letter" : Key), .int nl), (Sum.inr "here", .int nh)], rfl, (by show 2 ≤ 15; decide), ?_⟩
    rw [merge2]
    have e2 := same_upd_new (o := .dK [((Sum.inr "letter" : Key), V.int (nl : Int)), (Sum.inr "here", V.int (nh : Int))]) e1 nd
    have hn : Nums (upd (upd H d (.dK [])) d (.dK [((Sum.inr "letter" : Key), V.int (nl : Int)), (Sum.inr "here", V.int (nh : Int))])) d nl nh := upd_same
    generalize upd _ d (.dK [((Sum.inr "letter" : Key), V.int (nl : Int)), (Sum.inr "here", V.int (nh : Int))]) = H1 at e2 hn
    have hp1 := e2 _ _ hp
    refine ⟨.ref p, rfl, p, dx, _, rfl, hp1, walkF_mr _ _ _ _ _, v, rfl, .ref d, rfl, p, dx, d, v, nl, nh, md, mw, met, dn, s, rfl, hp1, hn, dp_same e2 _ _ hd, ok, hdeep, hmw, md1, mw1, fun H2 e3 => ?_⟩
    refine ⟨_, rfl, rfl, _, rfl, ?_⟩
    rw [show decide (V.int ((met + s.words.length : Nat) : Int) = V.non) = false from decide_eq_false (fun z => by cases z)]
    refine iteF ⟨_, rfl, .ref p, rfl, p, T.C_Walk, dx, _, rfl, e3 _ _ hp1, T.cl_Walk, T.na_Walk_met, (by show 5 < 1000; decide), ?_⟩
    rw [walkF_put_met]
    exact q _ ((ButP.of (e2.trans e3)).own) upd_same
end
end K0

namespace K0
open PySem PySem.Spec PyProof.Rows L2 W0 W1 W2 W5 W6 V0
section
variable {P : Program} {w : World} {K : PySem.W.Frag} {mg : Str → Option Value} {base : Heap}
def sp_need_saying (K : PySem.W.Frag) : Sp := fun vs H Q _ => ∃ (v : V) (s : Say), vs = [v] ∧ Dp K H v (dSay s) ∧ s.Ok ∧ s.deep ≤ 40 ∧ s.words.length ≤ 400 ∧ ∀ H', Same H H' → Q v H'
theorem ok_need_saying (T : Tops K w mg) : FnOk P w K mg base CX0 5 T.a_need_saying T.fd_need_saying p_need_saying (sp_need_saying K) := by
  have S := sc_need_saying
  refine T.F_need_saying.ok S (fun vs H Q E h => ?_) (fun cdv A outer s0 H vs Q E hr h => ?_)
  · obtain ⟨v, s, rfl, _⟩ := h
    rfl
  · obtain ⟨v, s, rfl, hd, ok, hdeep, hw, q⟩ := h
    refine ⟨_, (pss_cons (ps_set (i := 1) S.nd rfl (Or.inl rfl) (pe_meth (pe_make T.mk_Walk (ok_Walk___init__ T) (hr.mono (by first | decide | omega)) (by rfl) T.c_Walk T.b_Walk___init__ .nil pass0 (pa_cons (pe_glob (v := .int (8)) (by rfl) T.c_LETTERS ⟨_, rfl⟩) (pa_cons pe_bl (pa_cons (pe_glob (v := .int (40)) (by rfl) T.c_MOST_DEEP ⟨_, rfl⟩) (pa_cons (pe_glob (v := .int (400)) (by rfl) T.c_MOST_WORDS ⟨_, rfl⟩) pa_nil))))) T.cl_Walk T.me_Walk_wrong_path (ok_Walk_wrong_path T) (hr.mono (by first | decide | omega)) T.b_Walk_wrong_path .nil pass0 (pa_cons (pv 0) (pa_cons pe_int pa_nil))))
      (pss_cons (ps_if (pt_cmpR op_notN (pv 1) pe_non (nomark _)) (pss_one ps_never) pss_nil)
      (pss_one (ps_ret (pv 0))))), ?_⟩
    intro x dx nx ndx nex
    refine ⟨x, dx, 8, true, 40, 400, rfl, upd_same, fun H1 bp hp1 => ⟨rfl, ?_⟩⟩
    have e0 : Same H (upd (upd H dx (.own x)) x (.ins T.C_Walk dx [])) := same_upd_new (same_new ndx) nx
    have e1 : Same H H1 := bp.same e0 nx
    refine ⟨x, dx, _, rfl, hp1, walkF_wp _ _ _ _ _, v, rfl, x, dx, v, 8, 0, 40, 400, 0, true, s, rfl, hp1, dp_same e1 _ _ hd, ok.n, hdeep, by omega, by decide, by decide, fun H2 bp2 hp2 => ?_⟩
    have e2 : Same H H2 := bp2.same e1 nx
    exact ⟨.non, rfl, rfl, _, rfl, v, rfl, q H2 e2⟩
def sp_fact_walk (K : PySem.W.Frag) (C : Addr) : Sp := fun vs H Q _ => vs = [] ∧ ∀ H' p dx, Same H H' → H p = none → H' p = some (.ins C dx (walkF 0 false 100 2000 0)) → Q (.ref p) H'
def sp_need_fact (K : PySem.W.Frag) : Sp := fun vs H Q _ => ∃ (v : V) (m : Nat) (s : Say), vs = [v, .int m] ∧ Dp K H v (dSay s) ∧ s.OkW Say.factW m ∧ 1 ≤ m ∧ m ≤ 8 ∧ s.deep ≤ 100 ∧ s.words.length ≤ 2000 ∧ ∀ H', Same H H' → Q v H'
end
end K0

/-! W7: {elt for target in iter if ..}, elt an int. -/
namespace W7
open PySem PySem.Spec PyProof.Rows L2 W1 W2 W3 W4 W5

def tScN (w : World) (wi : TI) (g : TG) (tt : TT) (te : TE) (vs : List Nat) : TE := fun σ H Q => wi σ H fun J H1 => ∀ D, H1 D = none → ∃ W : Nat → Nat → Hp → Prop, (∃ m, W 0 m (upd H1 D (SetO w D (fun _ => false) 0))) ∧ ∀ i m H, W i m H →
  (J.stop i H ∧ Q (.ref D) H) ∨ (J.go i H ∧ ∃ Nx : Hp → Prop, (∀ H', Nx H' → ∃ m', m' < m ∧ W (i + 1) m' H') ∧ ∀ x H', J.yld i H x H' → g x (wipe σ vs) H' fun σ2 H2 => wipe σ2 vs = wipe σ vs ∧ tt σ2 H2 fun b H3 =>
    if b = true then te σ2 H3 fun y H4 => ∃ (c : Int) (S : Int → Bool) (k : Nat), y = .int c ∧ H4 D = some (SetO w D S k) ∧ k + 1 < scanBound ∧
      Nx (upd H4 D (SetO w D (fun j => S j || decide (j = c)) (if S c = true then k else k + 1)))
    else Nx H3)
section
variable {X : Cx} {pins : List (Addr × Obj)} {σ : L2.St} {H : Hp} {s : Shared}
/-- set.add of an int -/
theorem addN_ok {E : Value → Shared → Prop} {D : Addr} {S : Int → Bool} {n : Nat} {c : Int} {t : Tok} {Q : Value → Shared → Prop} (I : Inv X pins σ H s) (hD : H D = some (SetO X.w D S n)) (room : n + 1 < scanBound)
    (h : ∀ s', Inv X pins σ (upd H D (SetO X.w D (fun j => S j || decide (j = c)) (if S c = true then n else n + 1))) s' → Q .none s') :
    wpAny (model X.prog X.w) X.A (call (.builtin "set.add") [.ref D, .int c t]) Q E s := by
  refine setR_add (setO_get I hD) room fun h' sb R' => h _ ?_
  have there : ∃ u, h'.get? D = some u := by
    obtain ⟨o, _, _, _, ho, _⟩ := R'
    exact ⟨o, ho⟩
  refine I.write (e := D) (t' := s.toks + 1) ?_ (.inl rfl) (fun b u hb hu => (sb.2 b hb).trans hu) there (setO_new R')
  rw [hD]
  trivial

theorem pe_scN {elt tg iter : Expr} {ifs : List Expr} {scope : Scope} {own : List (Str × Nat)} {pos : Pos} {wi : TI} {g : TG} {tt : TT} {te : TE} (hc : X.calm = true) (hN : X.N.Nodup) (hi : PI X tg iter wi) (ok : BlkOk X.N X.env.scope scope own)
    (hg : ∀ (s : Shared) (H : Hp) (C : Addr) (cl : List (Str × Addr)) (fp : List Addr), PG (X.blk s H scope (compEnvC scope cl C X.env) fp) tg g) (ht : ∀ (s : Shared) (H : Hp) (C : Addr) (cl : List (Str × Addr)) (fp : List Addr), PTs (X.blk s H scope (compEnvC scope cl C X.env) fp) ifs tt)
    (he : ∀ (s : Shared) (H : Hp) (C : Addr) (cl : List (Str × Addr)) (fp : List Addr), PE (X.blk s H scope (compEnvC scope cl C X.env) fp) elt te) (hs : ∀ x, foldedSetIterable iter X.env x = pure x := by intro _; rfl) :
    PE X (.SetComp elt [⟨tg, iter, ifs, 0⟩] scope pos) (tScN X.w wi g tt te (own.map (·.2))) := by
  refine ⟨fun pins s σ H Q I h => ?_⟩
  rw [PpSet.eval_SetComp]
  have captured : ∀ y ∈ scope.names, y.2 = .free → ∃ c, X.env.cells.lookup y.1 = some c := fun y hy e => (ok.free y hy e).elim (fun k => I.ok.has _ (.inl k)) fun k => I.ok.has _ (.inr k)
  refine wpAny_comprehension_free (use := none) rfl hs (closure_ok captured) ok.kind (fun y hy e => by rw [ok.uniq y hy, e]) (thn (hi.run pins s σ H _ I h) fun _ s1 h1 => thn h1 fun _ s2 h2 => ?_)
  obtain ⟨it, fp, tn, J, H2, rfl, I2, T, st2, f2, q⟩ := h2
  refine PpSet.newSet_ok (newEnv_comp ?_)
  -- the new set at D
  generalize eD : s2.heap.objs.size = D
  obtain ⟨W, ⟨m0, w0⟩, turn⟩ := q D (I2.hok.fresh (Nat.le_of_eq eD))
  generalize e3 : ({ s2 with heap := s2.heap.push (bare X.w) } : Shared) = s3
  have h3 : s3.heap = s2.heap.push (bare X.w) := by rw [← e3]
  have I3 : Inv X pins σ (upd H2 D (SetO X.w D (fun _ => false) 0)) s3 := by
    rw [← e3]
    refine I2.laid (t' := s2.toks) (fun b o e => Heap.get?_push_of_some _ e) (Nat.le_of_eq eD) (setO_new ?_)
    rw [← eD]
    exact (setR_new_at (ns := []) (Heap.get?_push_size _ rfl)).congr fun j => by simp
  have below : ∀ b ∈ fp, b < s2.heap.objs.size := fun b hb => by
    obtain ⟨o, e, _⟩ := T.obj _ _ st2 b hb
    exact Heap.lt_size e
  have f3 : ∀ b ∈ fp, FpOk X pins (upd H2 D (SetO X.w D (fun _ => false) 0)) b ∧ b < s3.heap.objs.size := fun b hb => by
    have lt := below b hb
    refine ⟨⟨?_, (f2 b hb).2⟩, ?_⟩
    · rw [upd_ne (by rw [← eD]; exact Nat.ne_of_lt lt)]
      exact (f2 b hb).1
    · rw [h3, Heap.size_push]
      exact Nat.lt_succ_of_lt lt
  have st3 : tn 0 s3.heap := T.keep _ _ _ st2 fun b _ o e => by
    rw [h3]
    exact Heap.get?_push_of_some _ e
  have I4 := block_start I3 ok hN f3
  have pg := hg s3 (upd H2 D (SetO X.w D (fun _ => false) 0)) s3.heap.objs.size (cellsFrom (s3.heap.objs.size + 1) scope.names (cloFrom X.env.cells scope.names [])) fp
  have pt := ht s3 (upd H2 D (SetO X.w D (fun _ => false) 0)) s3.heap.objs.size (cellsFrom (s3.heap.objs.size + 1) scope.names (cloFrom X.env.cells scope.names [])) fp
  have pe := he s3 (upd H2 D (SetO X.w D (fun _ => false) 0)) s3.heap.objs.size (cellsFrom (s3.heap.objs.size + 1) scope.names (cloFrom X.env.cells scope.names [])) fp
  show codeAny _ _ (.compStart (.SetComp elt [⟨tg, iter, ifs, 0⟩] scope pos) 0 (.ref it) (.ref D) (compEnvC scope (cellsFrom (s3.heap.objs.size + 1) scope.names (cloFrom X.env.cells scope.names [])) s3.heap.objs.size X.env)) (compPost (model X.prog X.w) X.A X.xe none (EP X pins σ Q) (.ref D) s3.heap.objs.size) { s3 with heap := pushCells (s3.heap.push { cls := .type "dict", data := .dict #[] }) scope.names }
  have n3 : ∀ b ∈ fp, (upd H2 D (SetO X.w D (fun _ => false) 0)) b = none := fun b hb => (f3 b hb).1.1
  generalize eB : compEnvC scope (cellsFrom (s3.heap.objs.size + 1) scope.names (cloFrom X.env.cells scope.names [])) s3.heap.objs.size X.env = cenv at I4 pg pt pe ⊢
  have locals : cenv.locals = s3.heap.objs.size := by rw [← eB]; rfl
  generalize eH : upd H2 D (SetO X.w D (fun _ => false) 0) = H3 at I3 I4 pg pt pe w0 n3 f3
  generalize e4 : ({ s3 with heap := pushCells (s3.heap.push { cls := .type "dict", data := .dict #[] }) scope.names } : Shared) = s4 at I4 ⊢
  have st4 : tn 0 s4.heap := T.keep _ _ _ st3 fun b _ o e => by
    rw [← e4]
    exact pushCells_keeps _ _ _ _ (Heap.get?_push_of_some _ e)
  have still : ∀ {σ' : L2.St} {H' : Hp} {s' : Shared}, Inv (X.blk s3 H3 scope cenv fp) [] σ' H' s' → (∀ b ∈ fp, H' b = none) → ∀ b ∈ fp, FpOk (X.blk s3 H3 scope cenv fp) [] H' b := by
    intro σ' H' s' I' hn b hb
    refine ⟨hn b hb, (I'.ok.exf b hb).1, I'.ok.exfs b hb, .inl hb, fun x c e => (I'.ok.exf b hb).2 x c e, fun p hp => ?_⟩
    have hp' : p ∈ ([] : List (Addr × Obj)) ++ [] := hp
    exact (List.not_mem_nil hp').elim
  have loop : codeAny (model X.prog X.w) X.A (.compLoop (.SetComp elt [⟨tg, iter, ifs, 0⟩] scope pos) 0 (.ref it) (.ref D) cenv) (compPost (model X.prog X.w) X.A X.xe none (EP X pins σ Q) (.ref D) s3.heap.objs.size) s4 := by
    refine PpSet.compLoopS_any (fun n s' => ∃ i H', Inv (X.blk s3 H3 scope cenv fp) [] (wipe σ (own.map (·.2))) H' s' ∧ tn i s'.heap ∧ (∀ b ∈ fp, H' b = none) ∧ W i n H') (fun n s5 h5 => ?_) m0 ⟨0, H3, I4, st4, n3, w0⟩
    obtain ⟨i, H5, I5, st5, n5, w5⟩ := h5
    rcases turn i n H5 w5 with ⟨stop, fin⟩ | ⟨go, Nx, hNx, step⟩
    · refine thnF (T.done (X.blk s3 H3 scope cenv fp) rfl rfl rfl hc i [] s5 _ H5 (fun _ _ => False) I5 (still I5 n5) st5 stop) fun r s6 h6 => ?_
      obtain ⟨rfl, I6⟩ := h6
      have I7 : Inv X pins σ H5 s6 := I3.call' (ch := fp) I6.os I6.base I6.hok I6.bare fun b hb => ⟨(f3 b hb).1.2.2.2.1, (f3 b hb).1.2.1, (f3 b hb).1.2.2.2.2.1, (f3 b hb).1.2.2.2.2.2⟩
      have free : H5 s3.heap.objs.size = none := by
        rw [← locals]
        exact I6.free
      obtain ⟨m, hn, _⟩ := I6.loc
      rw [show (X.blk s3 H3 scope cenv fp).env.locals = s3.heap.objs.size from locals] at hn
      obtain ⟨g0, g1, g2, g3, g4, g5⟩ := I3.fpOk (Nat.le_refl _) free
      exact ⟨m, hn, fun h'' sb => ⟨.ref D, H5, I7.turned (t' := s6.toks) (fun b o hb e => (sb.2 b hb).trans e) g0 g1 g3 g4 g5, rfl, fin⟩⟩
    · refine thnF (T.item (X.blk s3 H3 scope cenv fp) rfl rfl rfl hc i [] s5 _ H5 (fun _ _ => False) I5 (still I5 n5) st5 go) fun r s6 h6 => ?_
      obtain ⟨u, rfl, h6⟩ := h6
      refine thnF h6 fun _ s7 h7 => ?_
      obtain ⟨x, H7, I7, r7, y7, st7, n7⟩ := h7
      have I7' := I7.pinned (still I7 n7) (T.obj _ _ st7)
      refine thnF (pg.run _ s7 _ H7 x u _ I7' r7 (step x H7 y7)) fun _ s8 h8 => ?_
      obtain ⟨σ8, H8, I8, hw8, q8⟩ := h8
      refine thnF (pt.run _ s8 σ8 H8 _ I8 q8) fun b s9 h9 => ?_
      obtain ⟨H9, I9, q9⟩ := h9
      have again : ∀ {s' : Shared} {H' : Hp}, Inv (X.blk s3 H3 scope cenv fp) ([] ++ pinsAt fp s7.heap) σ8 H' s' → Nx H' → ∃ m, m < n ∧ ∃ i H', Inv (X.blk s3 H3 scope cenv fp) [] (wipe σ (own.map (·.2))) H' s' ∧ tn i s'.heap ∧ (∀ b ∈ fp, H' b = none) ∧ W i m H' := by
        intro s' H' I' nx
        obtain ⟨m', hm, w'⟩ := hNx H' nx
        have pinned : ∀ b ∈ fp, ∀ o, s7.heap.get? b = some o → s'.heap.get? b = some o ∧ H' b = none := fun b hb o e =>
          let z := I'.pin (b, o) (List.mem_append_right _ (List.mem_append_right _ (mem_pinsAt hb e)))
          ⟨z.1, z.2.1⟩
        have len : (wipe σ (own.map (·.2))).length = σ8.length := by rw [← hw8, wipe_length]
        refine ⟨m', hm, i + 1, H', (I'.unpinned (pins := [])).weak len (fun j v e => ?_), T.keep _ _ _ st7 fun b hb o e => (pinned b hb o e).1, fun b hb => ?_, w'⟩
        · rw [← hw8] at e
          exact (wipe_some e).1
        · obtain ⟨o, e, _⟩ := T.obj _ _ st7 b hb
          exact (pinned b hb o e).2
      cases b with
      | false =>
        simp only [Bool.false_eq_true, if_false] at q9 ⊢
        exact again I9 q9
      | true =>
        simp only [if_true] at q9 ⊢
        refine thnF (pe.run _ s9 σ8 H9 _ I9 q9) fun z s10 h10 => ?_
        obtain ⟨y, H10, I10, r10, c, S, k, rfl, hD, room, nx⟩ := h10
        obtain ⟨t, rfl⟩ := (show ∃ t, z = Value.int c t from r10)
        exact addN_ok (X := X.blk s3 H3 scope cenv fp) I10 hD room fun s11 I11 => again I11 nx
  exact PpSet.codeAny_compStart_set loop (T.self X.A 0 _ _ _ st4 loop)
end
/-- its reading over anything walked -/
theorem scN_it {w : World} {J : It} {n : Nat} {G : Hp → Prop} {Y : Nat → Hp → V → Hp → Prop} (wk : Walk J n G Y) {g : TG} {tt : TT} {te : TE} {vs : List Nat} {σ : L2.St} {H1 : Hp} {D : Addr} {Qd : Hp → Prop} (Pv : Nat → Hp → Prop) (h0 : Pv 0 (upd H1 D (SetO w D (fun _ => false) 0))) (hG : ∀ i H, i ≤ n → Pv i H → G H)
    (hs : ∀ i x H H', i < n → Pv i H → Y i H x H' → g x (wipe σ vs) H' fun σ2 H2 => wipe σ2 vs = wipe σ vs ∧ tt σ2 H2 fun b H3 =>
      if b = true then te σ2 H3 fun y H4 => ∃ (c : Int) (S : Int → Bool) (k : Nat), y = .int c ∧ H4 D = some (SetO w D S k) ∧ k + 1 < scanBound ∧
        Pv (i + 1) (upd H4 D (SetO w D (fun j => S j || decide (j = c)) (if S c = true then k else k + 1)))
      else Pv (i + 1) H3) (hd : ∀ H, Pv n H → Qd H) :
    ∃ W : Nat → Nat → Hp → Prop, (∃ m, W 0 m (upd H1 D (SetO w D (fun _ => false) 0))) ∧ ∀ i m H, W i m H →
      (J.stop i H ∧ Qd H) ∨ (J.go i H ∧ ∃ Nx : Hp → Prop, (∀ H', Nx H' → ∃ m', m' < m ∧ W (i + 1) m' H') ∧ ∀ x H', J.yld i H x H' → g x (wipe σ vs) H' fun σ2 H2 => wipe σ2 vs = wipe σ vs ∧ tt σ2 H2 fun b H3 =>
        if b = true then te σ2 H3 fun y H4 => ∃ (c : Int) (S : Int → Bool) (k : Nat), y = .int c ∧ H4 D = some (SetO w D S k) ∧ k + 1 < scanBound ∧
          Nx (upd H4 D (SetO w D (fun j => S j || decide (j = c)) (if S c = true then k else k + 1)))
        else Nx H3) := by
  refine ⟨fun i left H => left + i = n ∧ Pv i H, ⟨n, rfl, h0⟩, fun i left H hw => ?_⟩
  obtain ⟨e, p⟩ := hw
  cases left with
  | zero =>
    obtain rfl : i = n := by omega
    exact Or.inl ⟨wk.stops H (hG i H (Nat.le_refl _) p), hd H p⟩
  | succ left =>
    have hi : i < n := by omega
    have hg := hG i H (Nat.le_of_lt hi) p
    exact Or.inr ⟨wk.goes i H hi hg, Pv (i + 1), fun H' p' => ⟨left, Nat.lt_succ_self _, by omega, p'⟩, fun x H' y => hs i x H H' hi p (wk.yields i H x H' hi hg y)⟩
end W7

namespace K0
open PySem PySem.Spec PyProof.Rows L2 W0 W1 W2 W5 W6 V0
namespace Say
theorem hd_letter {s : Say} (h : s.hd = "letter") : ∃ i, s = .lt i := by
  cases s with
  | lt i => exact ⟨i, rfl⟩
  | hr j => exact absurd (show ("here" : Str) = "letter" from h) (by decide)
  | yes => exact absurd h (by decide)
  | no => exact absurd h (by decide)
  | nt a => exact absurd (show ("not" : Str) = "letter" from h) (by decide)
  | an a b => exact absurd (show ("and" : Str) = "letter" from h) (by decide)
  | orr a b => exact absurd (show ("or" : Str) = "letter" from h) (by decide)
  | gv a b => exact absurd (show ("gives" : Str) = "letter" from h) (by decide)
  | ea w a => exact absurd (show ("each" : Str) = "letter" from h) (by decide)
  | so w a => exact absurd (show ("some" : Str) = "letter" from h) (by decide)
end Say
theorem dps_app' {K : PySem.W.Frag} {H : Hp} : ∀ {xs ys : List V} {ds es : List PyData}, DpAll K H xs ds → DpAll K H ys es → DpAll K H (xs ++ ys) (ds ++ es)
  | _, _, _, _, .nil, h => h
  | _, _, _, _, .cons a b, h => .cons a (dps_app' b h)
section
variable {P : Program} {w : World} {K : PySem.W.Frag} {mg : Str → Option Value} {base : Heap}
theorem bfs_part (s : Say) (i : Nat) : ((Say.lvls s.deep [s]).take i).flatten.length ≤ s.words.length := by
  rw [← (Say.bfs_perm s).length_eq]
  unfold Say.bfs
  conv => rhs; rw [← List.take_append_drop i (Say.lvls s.deep [s])]
  rw [List.flatten_append, List.length_append]
  omega
def sp_words_of (K : PySem.W.Frag) : Sp := fun vs H Q _ => ∃ (v : V) (s : Say), vs = [v] ∧ Dp K H v (dSay s) ∧ s.deep ≤ 200 ∧ s.words.length ≤ 5000 ∧ ∀ H' p xs, Same H H' → H p = none → H' p = some (.lst xs) → DpAll K H' xs (s.bfs.map dSay) → Q (.ref p) H'
set_option maxHeartbeats 1000000 in
theorem ok_words_of (T : Tops K w mg) : FnOk P w K mg base CX0 2 T.a_words_of T.fd_words_of p_words_of (sp_words_of K) := by
  have S := sc_words_of
  refine T.F_words_of.ok S (fun vs H Q E h => ?_) (fun cdv A outer s0 H vs Q E hr h => ?_)
  · obtain ⟨v, s, rfl, _⟩ := h
    rfl
  · obtain ⟨v, s, rfl, hd, hdeep, hw, q⟩ := h
    refine ⟨_, (pss_one (ps_ret (pe_lc2 (own := [("level", 1), ("word", 2)]) (vs1 := [2]) rfl S.nd (pi_list (pe_call (ok_levels_of T) (hr.mono (by first | decide | omega)) (by rfl) T.g_levels_of T.F_levels_of.kp T.b_levels_of .nil pass0 (pa_cons (pv 0) pa_nil))) (blkOk_by (N := n_words_of) (sc := defScope s_words_of) (by decide +kernel)) (by decide) (fun _ _ _ _ _ => (pg_name (i := 1) S.nd rfl (Or.inl rfl))) (fun _ _ _ _ _ => pts_nil) (fun _ _ _ _ _ => (V2.pi_listK (K := K) (pv 1))) (fun _ _ _ _ _ => (pg_name (i := 2) S.nd rfl (Or.inl rfl))) (fun _ _ _ _ _ => pts_nil) (fun _ _ _ _ _ => (pv 2))))), ?_⟩
    refine ⟨v, rfl, v, s, rfl, hd, hdeep, hw, fun H1 g ps e1 ng hg lv => ?_⟩
    refine ⟨g, rfl, ⟨_, SqL.of hg⟩, fun D nD => ?_⟩
    have lp := lv.1
    refine V9.lc2_out (walk_list (K := K) (a := g) (xs := ps.map V.ref)) (fun i H' => Same H1 H' ∧ ∃ us, H' D = some (.lst us) ∧ DpAll K H' us ((((Say.lvls s.deep [s]).take i).flatten).map dSay)) ⟨same_new nD, [], upd_same, .nil⟩ (fun i H' _ h => SqL.of (h.1 _ _ hg)) (fun i x H3 H4 hi h hy => ?_) (fun H2 h => ?_)
    · obtain ⟨rfl, hxi⟩ := hy
      obtain ⟨e3, us, hD, hus⟩ := h
      rw [List.getElem?_map] at hxi
      obtain ⟨p, hpi, rfl⟩ := Option.map_eq_some_iff.mp hxi
      have il : i < (Say.lvls s.deep [s]).length := by
        rw [← lp]
        exact (List.getElem?_eq_some_iff.mp hpi).1
      have hli : (Say.lvls s.deep [s])[i]? = some (Say.lvls s.deep [s])[i] := List.getElem?_eq_getElem il
      generalize (Say.lvls s.deep [s])[i] = l at hli
      obtain ⟨ws, hpw, hws⟩ := lv.2 i p l hpi hli
      replace hpw := e3 _ _ hpw
      replace hws := dps_same e3 _ _ hws
      have lw := dps_len hws
      rw [List.length_map] at lw
      refine ⟨rfl, .ref p, rfl, p, rfl, ⟨_, SqL.of hpw⟩, ?_⟩
      have pD : p ≠ D := fun z => by
        have hp1 := lv.2 i p l hpi hli
        obtain ⟨_, h1, _⟩ := hp1
        rw [z, nD] at h1
        cases h1
      have stp : ((Say.lvls s.deep [s]).take (i + 1)).flatten = ((Say.lvls s.deep [s]).take i).flatten ++ l := by
        rw [List.take_add_one, hli, List.flatten_append]
        simp
      refine V9.lc2_in (walk_list (K := K) (a := p) (xs := ws)) (fun j H' => Same H1 H' ∧ H' p = some (.lst ws) ∧ DpAll K H' ws (l.map dSay) ∧ ∃ us, H' D = some (.lst us) ∧ DpAll K H' us ((((Say.lvls s.deep [s]).take i).flatten ++ l.take j).map dSay))
        ⟨e3, hpw, hws, us, hD, by rw [List.take_zero, List.append_nil]; exact hus⟩ (fun j H' _ h => SqL.of h.2.1) (fun j x H6 H7 hj h hy => ?_) (fun H6 h => ?_)
      · obtain ⟨rfl, hxj⟩ := hy
        obtain ⟨e6, hpw6, hws6, us6, hD6, hus6⟩ := h
        obtain ⟨u, ui, um, du⟩ := get_say hws6 hxj
        have lu := dps_len hus6
        have b1 := bfs_part s (i + 1)
        rw [stp, List.length_append] at b1
        rw [List.length_map, List.length_append] at lu
        have lt' := List.length_take_le' j l
        refine ⟨rfl, x, rfl, us6, hD6, small (m := 9000) (by omega), same_upd_new e6 nD, (upd_ne pD).trans hpw6, dps_mv (fun b zs hb => sqT_upd hD6 hb) _ _ (noLs_says _) hws6, us6 ++ [x], upd_same, ?_⟩
        rw [List.take_add_one, ui, ← List.append_assoc, List.map_append]
        exact dps_app' (dps_mv (fun b zs hb => sqT_upd hD6 hb) _ _ (noLs_says _) hus6) (.cons (dp_mv (fun b zs hb => sqT_upd hD6 hb) _ _ (noL_say _) du) .nil)
      · obtain ⟨e6, hpw6, hws6, us6, hD6, hus6⟩ := h
        rw [lw, List.take_length, ← stp] at hus6
        exact ⟨e6, us6, hD6, hus6⟩
    · obtain ⟨e3, us, hD, hus⟩ := h
      rw [List.length_map, lp, List.take_length] at hus
      exact q H2 D us (e1.trans e3) (e1.free nD) hD hus
def sp_words_in (K : PySem.W.Frag) : Sp := fun vs H Q _ => ∃ (v : V) (s : Say), vs = [v] ∧ Dp K H v (dSay s) ∧ s.Ok ∧ s.deep ≤ 40 ∧ s.words.length ≤ 400 ∧ ∀ H', Same H H' → Q (.int s.words.length) H'
def sp_deep_of (K : PySem.W.Frag) : Sp := fun vs H Q _ => ∃ (v : V) (s : Say), vs = [v] ∧ Dp K H v (dSay s) ∧ s.deep ≤ 200 ∧ s.words.length ≤ 5000 ∧ ∀ H', Same H H' → Q (.int s.deep) H'
def sp_deep_in (K : PySem.W.Frag) : Sp := fun vs H Q _ => ∃ (v : V) (s : Say), vs = [v] ∧ Dp K H v (dSay s) ∧ s.Ok ∧ s.deep ≤ 40 ∧ s.words.length ≤ 400 ∧ ∀ H', Same H H' → Q (.int s.deep) H'
theorem nodup_le {α : Type} [BEq α] [LawfulBEq α] : ∀ (l m : List α), l.Nodup → (∀ x ∈ l, x ∈ m) → l.length ≤ m.length
  | [], _, _, _ => Nat.zero_le _
  | a :: l, m, hn, hs => by
    obtain ⟨h1, h2⟩ := List.nodup_cons.mp hn
    have ha := hs a List.mem_cons_self
    have h4 := nodup_le l (m.erase a) h2 fun x hx => (List.mem_erase_of_ne (fun e => h1 (by rw [← e]; exact hx))).mpr (hs x (List.mem_cons_of_mem _ hx))
    rw [List.length_erase_of_mem ha] at h4
    have h5 := List.length_pos_of_mem ha
    rw [List.length_cons]
    omega
theorem small8 {ls : List Int} (hn : ls.Nodup) (h : ∀ k ∈ ls, 0 ≤ k ∧ k < 8) : ls.length ≤ 8 :=
  nodup_le ls [0, 1, 2, 3, 4, 5, 6, 7] hn fun k hk => by
    have := h k hk
    simp
    omega
/-- the letters that stand in a saying -/
def Say.letters (s : Say) : List Int := s.words.filterMap fun t => match t with
  | .lt i => some (i : Int)
  | _ => none
theorem Say.letters8 {s : Say} (ok : s.Ok) : ∀ t ∈ s.words, t.Ok := by
  induction s with
  | lt i => intro t m; rw [List.mem_singleton.mp m]; exact ok
  | hr j => exact ok.elim
  | yes => intro t m; rw [List.mem_singleton.mp m]; exact ok
  | no => intro t m; rw [List.mem_singleton.mp m]; exact ok
  | nt a ih =>
    intro t m
    rcases List.mem_cons.mp m with rfl | m
    · exact ok
    · exact ih ok t m
  | an a b iha ihb =>
    intro t m
    rcases List.mem_cons.mp m with rfl | m
    · exact ok
    · rcases List.mem_append.mp m with m | m
      · exact iha ok.1 t m
      · exact ihb ok.2 t m
  | orr a b iha ihb =>
    intro t m
    rcases List.mem_cons.mp m with rfl | m
    · exact ok
    · rcases List.mem_append.mp m with m | m
      · exact iha ok.1 t m
      · exact ihb ok.2 t m
  | gv a b iha ihb =>
    intro t m
    rcases List.mem_cons.mp m with rfl | m
    · exact ok
    · rcases List.mem_append.mp m with m | m
      · exact iha ok.1 t m
      · exact ihb ok.2 t m
  | ea w a ih =>
    intro t m
    rcases List.mem_cons.mp m with rfl | m
    · exact ok
    · exact ih ok.2 t m
  | so w a ih =>
    intro t m
    rcases List.mem_cons.mp m with rfl | m
    · exact ok
    · exact ih ok.2 t m
theorem mem_letters {s : Say} {k : Int} : k ∈ s.letters ↔ ∃ i : Nat, Say.lt i ∈ s.words ∧ k = i := by
  unfold Say.letters
  rw [List.mem_filterMap]
  constructor
  · rintro ⟨t, m, h⟩
    cases t with
    | lt i => exact ⟨i, m, (Option.some.inj h).symm⟩
    | _ => cases h
  · rintro ⟨i, m, rfl⟩
    exact ⟨.lt i, m, rfl⟩
theorem few8 {ms : List Int} (asc : ms.Pairwise (· < ·)) (h : ∀ k ∈ ms, 0 ≤ k ∧ k < 8) : ms.length ≤ 8 := by
  rcases asc_below (n := 8) (a := 0) asc (fun e he => h e he) with e | e
  · exact e
  · rw [e]
    exact Nat.zero_le _
theorem WL_ok {l : List Say} (h : ∀ s ∈ l, s.Ok) {t : Say} (m : t ∈ l.flatMap Say.words) : t.Ok := by
  obtain ⟨s, hs, ht⟩ := List.mem_flatMap.mp m
  exact Say.letters8 (h s hs) t ht
theorem WL_len : ∀ {l : List Say} {b : Nat}, (∀ s ∈ l, s.words.length ≤ b) → (l.flatMap Say.words).length ≤ l.length * b
  | [], _, _ => Nat.zero_le _
  | s :: l, b, h => by
    have h1 := h s List.mem_cons_self
    have h2 := WL_len (l := l) fun t m => h t (List.mem_cons_of_mem _ m)
    rw [List.flatMap_cons, List.length_append, List.length_cons, Nat.add_mul, Nat.one_mul]
    omega
theorem BL_ok {l : List Say} (h : ∀ s ∈ l, s.Ok) {t : Say} (m : t ∈ l.flatMap Say.bfs) : t.Ok := by
  obtain ⟨s, hs, ht⟩ := List.mem_flatMap.mp m
  exact Say.letters8 (h s hs) t ((Say.bfs_perm s).mem_iff.mp ht)
theorem BL_len {l : List Say} {b : Nat} (h : ∀ s ∈ l, s.words.length ≤ b) : (l.flatMap Say.bfs).length ≤ l.length * b := by
  induction l with
  | nil => exact Nat.zero_le _
  | cons s l ih =>
    have h1 := h s List.mem_cons_self
    have h2 := ih fun t m => h t (List.mem_cons_of_mem _ m)
    rw [← (Say.bfs_perm s).length_eq] at h1
    rw [List.flatMap_cons, List.length_append, List.length_cons, Nat.add_mul, Nat.one_mul]
    omega
def sp_letters_of (K : PySem.W.Frag) : Sp := fun vs H Q _ => ∃ (p : Addr) (xs : List V) (l : List Say), vs = [.ref p] ∧ H p = some (.lst xs) ∧ DpAll K H xs (l.map dSay) ∧ (∀ s ∈ l, s.Ok ∧ s.deep ≤ 40 ∧ s.words.length ≤ 400) ∧ l.length ≤ 20 ∧ ∀ H' p (ms : List Int), Same H H' → SqT K H' p (ms.map V.int) → (∃ ob, H' p = some (.frz ob (.tup (ms.map V.int))) ∧ ob.dict = none ∧ ob.cls = .type "tuple") → ms.Pairwise (· < ·) → (∀ k, k ∈ ms ↔ ∃ s ∈ l, k ∈ s.letters) → Q (.ref p) H'
set_option maxHeartbeats 1000000 in
theorem ok_letters_of (T : Tops K w mg) : FnOk P w K mg base CX0 4 T.a_letters_of T.fd_letters_of p_letters_of (sp_letters_of K) := by
  have S := sc_letters_of
  refine T.F_letters_of.ok S (fun vs H Q E h => ?_) (fun cdv A outer s0 H vs Q E hr h => ?_)
  · obtain ⟨p, xs, l, rfl, _⟩ := h
    rfl
  · obtain ⟨p0, zs, l, rfl, hp0, hzs, all, l20, q⟩ := h
    refine ⟨_, (pss_cons (ps_setLc2 (i := 1) (own := [("saying", 2), ("word", 3)]) (vs1 := [3]) rfl S.nd rfl rfl (sw_true rfl rfl rfl (by decide +kernel)) (pi_list (pv 0)) (blkOk_by (N := n_letters_of) (sc := defScope s_letters_of) (by decide +kernel)) (by decide) (fun _ _ _ _ _ => (pg_name (i := 2) S.nd rfl (Or.inl rfl))) (fun _ _ _ _ _ => pts_nil) (fun _ _ _ _ _ => (V2.pi_listK (K := K) (pe_call (ok_words_of T) (hr.mono (by first | decide | omega)) (by rfl) T.g_words_of T.F_words_of.kp T.b_words_of .nil pass0 (pa_cons (pv 2) pa_nil)))) (fun _ _ _ _ _ => (pg_name (i := 3) S.nd rfl (Or.inl rfl))) (fun _ _ _ _ _ => pts_nil) (fun _ _ _ _ _ => (pv 3)))
      (pss_one (ps_ret (pe_callTy (V7.call_tupleF (K := K)) (by rfl) T.m_tuple (by decide +kernel) (pa_cons (pe_callB (W5.cr_sortedNK (w := w) rfl) (by rfl) T.m_sorted (by decide +kernel) (pa_cons (W7.pe_scN (own := [("word", 3)]) rfl S.nd (pi_list (pv 1)) (blkOk_by (N := n_letters_of) (sc := defScope s_letters_of) (by decide +kernel)) (fun _ _ _ _ _ => (pg_name (i := 3) S.nd rfl (Or.inl rfl))) (fun _ _ _ _ _ => (pts_one (pt_cmpR op_eq (pe_ix (ix_tupK (K := K)) (pv 3) pe_int (fun _ _ => rfl)) pe_str (nomark _)))) (fun _ _ _ _ _ => (pe_ix (ix_tupK (K := K)) (pv 3) pe_int (fun _ _ => rfl)))) pa_nil)) pa_nil))))), ?_⟩
    have okl : ∀ s ∈ l, s.Ok := fun s m => (all s m).1
    have lz := dps_len hzs
    rw [List.length_map] at lz
    have full := BL_len (l := l) (b := 400) fun s m => (all s m).2.2
    have part : ∀ i, ((l.take i).flatMap Say.bfs).length ≤ 8000 := fun i => by
      have h := BL_len (l := l.take i) (b := 400) fun s m => (all s (List.mem_of_mem_take m)).2.2
      have h2 : (l.take i).length ≤ 20 := Nat.le_trans (List.length_take_le' _ _) l20
      have h3 := Nat.mul_le_mul_right 400 h2
      omega
    refine ⟨.ref p0, rfl, p0, rfl, ⟨_, SqL.of hp0⟩, fun D nD => ?_⟩
    refine V9.lc2_out (walk_list (K := K) (a := p0) (xs := zs)) (fun i H' => Same H H' ∧ ∃ us, H' D = some (.lst us) ∧ DpAll K H' us (((l.take i).flatMap Say.bfs).map dSay)) ⟨same_new nD, [], upd_same, .nil⟩ (fun i H' _ h => SqL.of (h.1 _ _ hp0)) (fun i x H3 H4 hi h hy => ?_) (fun H2 h => ?_)
    · obtain ⟨rfl, hxi⟩ := hy
      obtain ⟨e3, us, hD, hus⟩ := h
      obtain ⟨t, ti, tm, dt⟩ := get_say (dps_same e3 _ _ hzs) hxi
      obtain ⟨tok, tdeep, tw⟩ := all t tm
      refine ⟨rfl, x, rfl, x, t, rfl, dt, by omega, by omega, fun H5 pw ws e5 npw hpw hws => ?_⟩
      have lw := dps_len hws
      rw [List.length_map] at lw
      refine ⟨pw, rfl, ⟨_, SqL.of hpw⟩, ?_⟩
      have pD : pw ≠ D := fun z => by rw [z, hD] at npw; cases npw
      refine V9.lc2_in (walk_list (K := K) (a := pw) (xs := ws)) (fun j H' => Same H H' ∧ H' pw = some (.lst ws) ∧ DpAll K H' ws (t.bfs.map dSay) ∧ ∃ us, H' D = some (.lst us) ∧ DpAll K H' us (((l.take i).flatMap Say.bfs ++ t.bfs.take j).map dSay))
        ⟨e3.trans e5, hpw, hws, us, e5 _ _ hD, by rw [List.take_zero, List.append_nil]; exact dps_same e5 _ _ hus⟩ (fun j H' _ h => SqL.of h.2.1) (fun j x H6 H7 hj h hy => ?_) (fun H6 h => ?_)
      · obtain ⟨rfl, hxj⟩ := hy
        obtain ⟨e6, hpw6, hws6, us6, hD6, hus6⟩ := h
        obtain ⟨u, ui, um, du⟩ := get_say hws6 hxj
        have lu := dps_len hus6
        rw [List.length_map, List.length_append] at lu
        have lt' := List.length_take_le' j t.bfs
        have tb := (Say.bfs_perm t).length_eq
        have lp := part i
        refine ⟨rfl, x, rfl, us6, hD6, small (m := 9000) (by omega), same_upd_new e6 nD, (upd_ne pD).trans hpw6, dps_mv (fun b zs hb => sqT_upd hD6 hb) _ _ (noLs_says _) hws6, us6 ++ [x], upd_same, ?_⟩
        rw [List.take_add_one, ui, ← List.append_assoc, List.map_append]
        exact dps_app' (dps_mv (fun b zs hb => sqT_upd hD6 hb) _ _ (noLs_says _) hus6) (.cons (dp_mv (fun b zs hb => sqT_upd hD6 hb) _ _ (noL_say _) du) .nil)
      · obtain ⟨e6, hpw6, hws6, us6, hD6, hus6⟩ := h
        refine ⟨e6, us6, hD6, ?_⟩
        rw [lw, List.take_length] at hus6
        rw [List.take_add_one, ti, List.flatMap_append]
        simpa using hus6
    obtain ⟨e2, xs, hp, hx⟩ := h
    rw [lz, List.take_length] at hx
    have hlen := dps_len hx
    rw [List.length_map] at hlen
    generalize D = p at hp nD
    refine ⟨.ref p, rfl, p, rfl, ⟨_, SqL.of hp⟩, fun D nD => ?_⟩
    refine W7.scN_it (walk_list (K := K) (a := p) (xs := xs)) (D := D) (H1 := H2) (fun j H' => Same H2 H' ∧ ∃ (ls : List Int) (S : Int → Bool), H' D = some (SetO w D S ls.length) ∧ ls.Nodup ∧ (∀ k, S k = decide (k ∈ ls)) ∧ (∀ k ∈ ls, 0 ≤ k ∧ k < 8) ∧ ∀ k, k ∈ ls ↔ ∃ i : Nat, Say.lt i ∈ (l.flatMap Say.bfs).take j ∧ k = i)
      ⟨same_new nD, [], _, upd_same, List.nodup_nil, fun k => by simp, fun k z => (List.not_mem_nil z).elim, fun k => by simp⟩ (fun i H' _ h => SqL.of (h.1 _ _ hp)) (fun i x H3 H4 hi h hy => ?_) (fun H3 h => ?_)
    · obtain ⟨rfl, hxi⟩ := hy
      obtain ⟨e3, ls, S0, hD, nd, hS, rng, mem⟩ := h
      obtain ⟨t, ti, tm, dt⟩ := get_say (dps_same e3 _ _ hx) hxi
      obtain ⟨a, ys, rfl, hs, hda⟩ := say_at dt
      have tk : (l.flatMap Say.bfs).take (i + 1) = (l.flatMap Say.bfs).take i ++ [t] := by
        rw [List.take_add_one, ti]
        rfl
      refine ⟨rfl, .ref a, rfl, a, _, 0, .str t.hd, rfl, rfl, hs, atI_nat (j := 0) rfl, rfl, _, rfl, ?_⟩
      rw [dec_vstr]
      refine ite2 (fun c => ?_) (fun c => ?_)
      · obtain ⟨n, rfl⟩ := Say.hd_letter (of_decide_eq_true c)
        have n8 : n < 8 := BL_ok okl tm
        have l8 := small8 nd rng
        refine ⟨.ref a, rfl, a, _, 1, .int n, rfl, rfl, hs, atI_nat (j := 1) rfl, n, S0, ls.length, rfl, hD, by unfold scanBound; omega, same_upd_new e3 nD, ?_⟩
        by_cases m : (n : Int) ∈ ls
        · refine ⟨ls, fun j => S0 j || decide (j = (n : Int)), ?_, nd, fun k => ?_, rng, fun k => ?_⟩
          · rw [upd_same, hS n, decide_eq_true m, if_pos rfl]
            rfl
          · dsimp only
            rw [hS k]
            by_cases e : k = (n : Int)
            · rw [e, decide_eq_true m]
              rfl
            · rw [decide_eq_false e, Bool.or_false]
          · rw [mem k, tk]
            constructor
            · rintro ⟨j, h1, h2⟩
              exact ⟨j, List.mem_append_left _ h1, h2⟩
            · rintro ⟨j, h1, h2⟩
              rcases List.mem_append.mp h1 with h1 | h1
              · exact ⟨j, h1, h2⟩
              · cases List.mem_singleton.mp h1
                rw [h2]
                exact (mem _).mp m
        · refine ⟨(n : Int) :: ls, fun j => S0 j || decide (j = (n : Int)), ?_, List.nodup_cons.mpr ⟨m, nd⟩, fun k => ?_, fun k hk => ?_, fun k => ?_⟩
          · rw [upd_same, hS n, decide_eq_false m, if_neg (by decide)]
            rfl
          · dsimp only
            rw [hS k]
            by_cases e : k = (n : Int)
            · rw [e, decide_eq_true (rfl : (n : Int) = n), Bool.or_true, decide_eq_true List.mem_cons_self]
            · rw [decide_eq_false e, Bool.or_false]
              by_cases z : k ∈ ls
              · rw [decide_eq_true z, decide_eq_true (List.mem_cons_of_mem _ z)]
              · rw [decide_eq_false z, decide_eq_false (fun y => (List.mem_cons.mp y).elim e z)]
          · rcases List.mem_cons.mp hk with rfl | hk
            · exact ⟨by omega, by omega⟩
            · exact rng k hk
          · rw [List.mem_cons, mem k, tk]
            constructor
            · rintro (rfl | ⟨j, h1, h2⟩)
              · exact ⟨n, List.mem_append_right _ (List.mem_singleton.mpr rfl), rfl⟩
              · exact ⟨j, List.mem_append_left _ h1, h2⟩
            · rintro ⟨j, h1, h2⟩
              rcases List.mem_append.mp h1 with h1 | h1
              · exact Or.inr ⟨j, h1, h2⟩
              · cases List.mem_singleton.mp h1
                exact Or.inl h2
      · have hne : t.hd ≠ "letter" := fun e => c (decide_eq_true e)
        refine ⟨e3, ls, S0, hD, nd, hS, rng, fun k => ?_⟩
        rw [mem k, tk]
        constructor
        · rintro ⟨j, h1, h2⟩
          exact ⟨j, List.mem_append_left _ h1, h2⟩
        · rintro ⟨j, h1, h2⟩
          rcases List.mem_append.mp h1 with h1 | h1
          · exact ⟨j, h1, h2⟩
          · rw [← List.mem_singleton.mp h1] at hne
            exact absurd rfl hne
    · obtain ⟨e3, ls, S0, hD, nd, hS, rng, mem⟩ := h
      rw [hlen, List.take_length] at mem
      dsimp only [tNil]
      have l8 := small8 nd rng
      refine ⟨D, S0, ls.length, rfl, hD, by omega, fun ms p2 asc memb _ np => ?_⟩
      refine ⟨p2, _, rfl, SqL.of upd_same, fun l' ob nl od oc => ?_⟩
      refine q _ _ ms (e2.trans (e3.trans ((same_new np).trans (same_new nl)))) (.inl (.inr ⟨ob, upd_same⟩)) ⟨ob, upd_same, od, oc⟩ asc fun k => ?_
      rw [memb k, hS k, decide_eq_true_iff, mem k]
      constructor
      · rintro ⟨i, hi, rfl⟩
        obtain ⟨s, hs, ht⟩ := List.mem_flatMap.mp hi
        exact ⟨s, hs, mem_letters.mpr ⟨i, (Say.bfs_perm s).mem_iff.mp ht, rfl⟩⟩
      · rintro ⟨s, hs, hk⟩
        obtain ⟨i, ht, rfl⟩ := mem_letters.mp hk
        exact ⟨i, List.mem_flatMap.mpr ⟨s, hs, (Say.bfs_perm s).mem_iff.mpr ht⟩, rfl⟩
def sp_letters_in (K : PySem.W.Frag) : Sp := fun vs H Q _ => ∃ (v : V) (s : Say), vs = [v] ∧ Dp K H v (dSay s) ∧ s.Ok ∧ s.deep ≤ 40 ∧ s.words.length ≤ 400 ∧ ∀ H' p (ms : List Int), Same H H' → SqT K H' p (ms.map V.int) → (∃ ob, H' p = some (.frz ob (.tup (ms.map V.int))) ∧ ob.dict = none ∧ ob.cls = .type "tuple") → ms.Pairwise (· < ·) → (∀ k, k ∈ ms ↔ k ∈ s.letters) → Q (.ref p) H'
theorem ok_letters_in (T : Tops K w mg) : FnOk P w K mg base CX0 6 T.a_letters_in T.fd_letters_in p_letters_in (sp_letters_in K) := by
  have S := sc_letters_in
  refine T.F_letters_in.ok S (fun vs H Q E h => ?_) (fun cdv A outer s0 H vs Q E hr h => ?_)
  · obtain ⟨v, s, rfl, _⟩ := h
    rfl
  · obtain ⟨v, s, rfl, hd, ok, hdeep, hw, q⟩ := h
    refine ⟨_, (pss_one (ps_ret (pe_call (ok_letters_of T) (hr.mono (by first | decide | omega)) (by rfl) T.g_letters_of T.F_letters_of.kp T.b_letters_of .nil pass0 (pa_cons (pe_lst (pa_cons (pe_call (ok_need_saying T) (hr.mono (by first | decide | omega)) (by rfl) T.g_need_saying T.F_need_saying.kp T.b_need_saying .nil pass0 (pa_cons (pv 0) pa_nil)) pa_nil)) pa_nil)))), ?_⟩
    refine ⟨v, rfl, v, s, rfl, hd, ok, hdeep, hw, fun H1 e1 => ?_⟩
    refine ⟨by show 1 ≤ sizeLine; decide, fun p np => ?_⟩
    have e2 := same_new (o := .lst [v]) np
    refine ⟨p, [v], [s], rfl, upd_same, .cons (dp_same (e1.trans e2) _ _ hd) .nil, fun t m => ?_, (by show 1 ≤ 20; decide), fun H2 p2 ms e3 hms hfz asc mem => ?_⟩
    · rw [List.mem_singleton.mp m]
      exact ⟨ok, hdeep, hw⟩
    · refine q H2 p2 ms ((e1.trans e2).trans e3) hms hfz asc fun k => (mem k).trans ⟨fun ⟨t, m, h⟩ => ?_, fun h => ⟨s, List.mem_cons_self, h⟩⟩
      rw [← List.mem_singleton.mp m]
      exact h
end
end K0

namespace K0
open PySem PySem.Spec PyProof.Rows L2 W0 W1 W2 W5 W6 V0 V1
/-- a row of worlds -/
structure Row (n : Int) (l : List Int) : Prop where
  all : ∀ x ∈ l, 0 ≤ x ∧ x < n
  asc : l.Pairwise (· < ·)
theorem Row.few {n : Nat} {l : List Int} (r : Row n l) : l.length ≤ n := by
  rcases asc_below (n := n) (a := 0) r.asc (fun e h => r.all e h) with e | e
  · exact e
  · rw [e]
    exact Nat.zero_le _
section
variable {P : Program} {w : World} {K : PySem.W.Frag} {mg : Str → Option Value} {base : Heap}
def sp_is_ascending_int (K : PySem.W.Frag) : Sp := fun vs H Q _ => ∃ (a : Addr) (l : List Int), vs = [.ref a] ∧ SqT K H a (l.map V.int) ∧ l.Pairwise (· < ·) ∧ l.length ≤ 1000 ∧ ∀ H', Same H H' → Q (.bl true) H'
theorem ok_is_ascending_int (T : Tops K w mg) : FnOk P w K mg base CX0 1 T.a_is_ascending T.fd_is_ascending p_is_ascending (sp_is_ascending_int K) := by
  have S := sc_is_ascending
  refine T.F_is_ascending.ok S (fun vs H Q E h => ?_) (fun cdv A outer s H vs Q E hr h => ?_)
  · obtain ⟨a, l, rfl, _⟩ := h
    rfl
  · obtain ⟨a, l, rfl, hs, hp, h1000, q⟩ := h
    refine ⟨_, (pss_one (ps_ret (pe_callB (cr_all rfl) (by rfl) T.m_all (by decide +kernel) (pa_cons (pe_lc (own := [("first", 1), ("second", 2)]) rfl S.nd (RZ.pi_zipA (by rfl) T.m_zip (pa_cons (pv 0) (pa_cons (pe_slice (sl_tupK (K := K)) (pv 0) (po_some pe_int) po_none) pa_nil))) (blkOk_by (N := n_is_ascending) (sc := defScope s_is_ascending) (by decide +kernel)) (fun _ _ _ _ _ => (pg_tupK (K := K) (n := 2) rfl (pgs_cons (pg_name (i := 1) S.nd rfl (Or.inl rfl)) (pgs_cons (pg_name (i := 2) S.nd rfl (Or.inl rfl)) pgs_nil)))) (fun _ _ _ _ _ => pts_nil) (fun _ _ _ _ _ => (pe_cmpR op_lt (pv 1) (pv 2) (nomark _)))) pa_nil)))), ?_⟩
    refine ⟨.ref a, rfl, .ref a, rfl, 1, rfl, a, _, rfl, hs, fun b H1 e1 hb => ?_⟩
    rw [cutT] at hb
    refine ⟨a, b, l.map V.int, (l.map V.int).drop 1, rfl, .inr ⟨same_tup e1 hs, hb, fun D nD => ?_⟩⟩
    refine lc_it (walk_zipT (K := K) (a := a) (b := b) (xs := l.map V.int) (ys := (l.map V.int).drop 1) (n := l.length - 1) (by rw [List.length_drop, List.length_map]; omega)) (D := D) (H1 := H1) (fun i H' => Same H H' ∧ Same H1 H' ∧ H' D = some (.lst (List.replicate i (.bl true))))
        ⟨same_upd_new e1 (e1.free nD), same_new nD, upd_same⟩ (fun i H' _ h => ⟨same_tup h.1 hs, same_tup h.2.1 hb⟩) (fun i x H' H2 hi hp' hy => ?step) (fun H' hp' => ?fin)
    case step =>
      obtain ⟨TT, x1, x2, rfl, nT, rfl, g1, g2⟩ := hy
      have g2' : (l.map V.int)[i + 1]? = some x2 := by
        have g3 : ((l.map V.int).drop 1)[i]? = some x2 := g2
        rw [List.getElem?_drop, Nat.add_comm] at g3
        exact g3
      have g1' : (l.map V.int)[i]? = some x1 := g1
      rw [List.getElem?_map] at g1' g2'
      obtain ⟨k1, q1, rfl⟩ := Option.map_eq_some_iff.mp g1'
      obtain ⟨k2, q2, rfl⟩ := Option.map_eq_some_iff.mp g2'
      have lt : k1 < k2 := by
        obtain ⟨l1, rfl⟩ := List.getElem?_eq_some_iff.mp q1
        obtain ⟨l2, rfl⟩ := List.getElem?_eq_some_iff.mp q2
        exact List.pairwise_iff_getElem.mp hp i (i + 1) l1 l2 (Nat.lt_succ_self i)
      have eT : Same H (upd H' TT (.tup [.int k1, .int k2])) := hp'.1.trans (same_new nT)
      have nDT : D ≠ TT := ne_of_none hp'.2.2 nT
      refine ⟨TT, [.int k1, .int k2], rfl, SqT.of upd_same, rfl, .int k1, [.int k2], rfl, .int k2, [], rfl, rfl, ?_⟩
      refine ⟨rfl, .int k1, rfl, .int k2, rfl, k1, k2, rfl, rfl, _, (upd_ne nDT).trans hp'.2.2, ?_, same_upd_new eT (e1.free nD), same_upd_new (hp'.2.1.trans (same_new nT)) nD, ?_⟩
      · rw [List.length_replicate]
        exact small (m := 1000) (by omega)
      · rw [upd_same]
        dsimp only
        rw [decide_eq_true lt, rep_snoc]
    case fin =>
      refine ⟨D, List.replicate (l.length - 1) true, rfl, ?_, ?_⟩
      · rw [← rep_bl]
        exact SqL.of hp'.2.2
      · rw [all_true]
        exact q _ hp'.1
def sp_are_worlds (K : PySem.W.Frag) : Sp := fun vs H Q _ => ∃ (v : V) (n : Nat) (A : List T3) (b : Addr) (l : List Int), vs = [v, .ref b] ∧ Dp K H v (dWeb n A) ∧ n ≤ 200 ∧ SqT K H b (l.map V.int) ∧ Row n l ∧ ∀ H', Same H H' → Q (.bl true) H'
def dMark (M : List (List Int)) : PyData := .tuple (M.map dInts)
structure MOk (n : Int) (M : List (List Int)) : Prop where
  len : M.length ≤ 8
  all : ∀ l ∈ M, Row n l
theorem get_map {α : Type} {f : α → PyData} {H : Hp} {xs : List V} {L : List α} {i : Nat} {x : V} (h : DpAll K H xs (L.map f)) (hx : xs[i]? = some x) : ∃ t, L[i]? = some t ∧ t ∈ L ∧ Dp K H x (f t) := by
  have hl := dps_len h
  rw [List.length_map] at hl
  have hi : i < L.length := by
    have := (List.getElem?_eq_some_iff.mp hx).1
    omega
  have e : L[i]? = some L[i] := List.getElem?_eq_getElem hi
  obtain ⟨y, hy, hd⟩ := dps_get (i := i) (d := f L[i]) h (by rw [List.getElem?_map, e]; rfl)
  rw [hx] at hy
  cases hy
  exact ⟨L[i], e, List.getElem_mem hi, hd⟩
def sp_need_marking (K : PySem.W.Frag) : Sp := fun vs H Q _ => ∃ (v u : V) (n : Nat) (A : List T3) (M : List (List Int)), vs = [v, u] ∧ Dp K H v (dWeb n A) ∧ WOk n A ∧ Dp K H u (dMark M) ∧ MOk n M ∧ ∀ H', Same H H' → Q u H'
end
end K0

namespace K0
open PySem PySem.Spec PyProof.Rows L2 W0 W1 W2 W5 W6 V0 V1
theorem ix_at {n j : Nat} (hj : j < n) : ixN n (j : Int) = some j := by
  unfold ixN
  rw [if_pos (Int.natCast_nonneg j), if_pos (by omega), Int.toNat_natCast]
theorem flat_rep (n : Nat) (x : V) : (List.replicate n [x]).flatten = List.replicate n x := by
  induction n with
  | zero => rfl
  | succ n ih => rw [List.replicate_succ, List.flatten_cons, ih, List.replicate_succ]; rfl
/-- an int for each world -/
def ansN (n : Nat) (g : Int → Nat) : List Int := (List.range n).map fun (x : Nat) => ((g x : Nat) : Int)
theorem ansN_len (n : Nat) (g : Int → Nat) : (ansN n g).length = n := by
  unfold ansN
  rw [List.length_map, List.length_range]
theorem ansN_get {n x : Nat} (g : Int → Nat) (h : x < n) : (ansN n g)[x]? = some ((g x : Nat) : Int) := by
  unfold ansN
  rw [List.getElem?_map, List.getElem?_range h]
  rfl
theorem ansN_at {n x : Nat} (g : Int → Nat) (h : x < n) : ((ansN n g).map V.int)[x]? = some (V.int ((g x : Nat) : Int)) := by
  rw [List.getElem?_map, ansN_get g h]
  rfl
theorem ansN_take {n j : Nat} (g : Int → Nat) (h : j < n) : (ansN n g).take (j + 1) = (ansN n g).take j ++ [((g j : Nat) : Int)] := by
  rw [List.take_add_one, ansN_get g h]
  rfl
theorem ansN_congr {n : Nat} {f g : Int → Nat} (h : ∀ x : Nat, x < n → f x = g x) : ansN n f = ansN n g := by
  unfold ansN
  refine List.map_congr_left fun x hx => ?_
  rw [h x (List.mem_range.mp hx)]
theorem ansN_zero (n : Nat) : ansN n (fun _ => 0) = List.replicate n 0 := by
  refine List.ext_getElem (by rw [ansN_len, List.length_replicate]) fun i h1 h2 => ?_
  rw [List.getElem_replicate]
  simp [ansN]
theorem ansN_step {n j : Nat} {g : Int → Nat} {H : Hp} {E : Addr} {b : Nat} (h : j < n) (e : b = g j) : upd H E (.lst (((ansN n g).take j).map V.int ++ [V.int (b : Int)])) E = some (.lst (((ansN n g).take (j + 1)).map V.int)) := by
  rw [upd_same, ansN_take g h, List.map_append, e]
  rfl
theorem ansN_few (n j : Nat) (g : Int → Nat) (h : n ≤ 200) : (((ansN n g).take j).map V.int).length < sizeLine := by
  rw [List.length_map]
  exact small (m := 200) (Nat.le_trans (List.length_take_le' _ _) (by rw [ansN_len]; exact h))
/-- one where it is marked -/
def one (l : List Int) : Int → Nat := fun x => if x ∈ l then 1 else 0
theorem one_set {n j : Nat} (l : List Int) (h : j < n) : (ansN n (one l)).set j 1 = ansN n (one (l ++ [(j : Int)])) := by
  refine List.ext_getElem (by rw [List.length_set, ansN_len, ansN_len]) fun i h1 h2 => ?_
  have g : ∀ (m : List Int) (z : i < (ansN n (one m)).length), (ansN n (one m))[i]'z = ((one m i : Nat) : Int) := fun m z => by simp [ansN]
  rw [List.getElem_set, g, g]
  unfold one
  by_cases e : j = i
  · rw [if_pos e, if_pos (List.mem_append.mpr (.inr (by rw [e]; exact List.mem_cons_self)))]
    rfl
  · rw [if_neg e]
    by_cases m : (i : Int) ∈ l
    · rw [if_pos m, if_pos (List.mem_append_left _ m)]
    · rw [if_neg m, if_neg fun z => ?_]
      rcases List.mem_append.mp z with z | z
      · exact m z
      · have := List.mem_singleton.mp z
        omega
section
variable {P : Program} {w : World} {K : PySem.W.Frag} {mg : Str → Option Value} {base : Heap}
def sp_marked_where (K : PySem.W.Frag) : Sp := fun vs H Q _ => ∃ (v : V) (f : Addr) (n : Nat) (A : List T3) (l : List Int), vs = [v, .ref f] ∧ Dp K H v (dWeb n A) ∧ n ≤ 200 ∧ SqT K H f (l.map V.int) ∧ (∀ x ∈ l, 0 ≤ x ∧ x < n) ∧
  ∀ H' D, Same H H' → H D = none → H' D = some (.lst ((ansN n (one l)).map V.int)) → Q (.ref D) H'
/-- the worlds with an answer other than 0 -/
def heldL (n : Nat) (f : Int → Bool) : List Int := ((List.range n).filter fun (x : Nat) => f x).map fun (x : Nat) => (x : Int)
theorem heldL_succ (n : Nat) (f : Int → Bool) : heldL (n + 1) f = if f n = true then heldL n f ++ [(n : Int)] else heldL n f := by
  unfold heldL
  rw [List.range_succ, List.filter_append, List.map_append]
  by_cases h : f n = true
  · rw [if_pos h, List.filter_cons_of_pos (by simpa using h)]
    rfl
  · rw [if_neg h, List.filter_cons_of_neg (by simpa using h)]
    exact List.append_nil _
theorem heldL_few (n : Nat) (f : Int → Bool) : (heldL n f).length ≤ n := by
  unfold heldL
  rw [List.length_map]
  exact Nat.le_trans (List.length_filter_le _ _) (by rw [List.length_range]; exact Nat.le_refl _)
theorem heldL_row (n : Nat) (f : Int → Bool) : Row n (heldL n f) := by
  refine ⟨fun x h => ?_, ?_⟩
  · unfold heldL at h
    obtain ⟨y, hy, rfl⟩ := List.mem_map.mp h
    have := List.mem_range.mp (List.mem_filter.mp hy).1
    exact ⟨by omega, by omega⟩
  · unfold heldL
    refine List.pairwise_map.mpr (List.Pairwise.imp (fun {a b} h => ?_) (List.Pairwise.filter _ List.pairwise_lt_range))
    omega
def sp_worlds_where (K : PySem.W.Frag) : Sp := fun vs H Q _ => ∃ (a : Addr) (n : Nat) (g : Int → Nat), vs = [.ref a] ∧ SqL K H a ((ansN n g).map V.int) ∧ n ≤ 200 ∧ ∀ H' p, Same H H' → SqT K H' p ((heldL n fun x => g x != 0).map V.int) → Q (.ref p) H'
end
end K0

namespace K0
open PySem PySem.Spec PyProof.Rows L2 W0 W1 W2 W5 W6 V0 V1 V6
/-! ### where a saying or fact holds: v letter by letter, u world by world of the row -/
def holdV (A : List T3) (v u : Nat → Int → Bool) : Say → Int → Bool
  | .lt i, x => v i x
  | .hr j, x => u j x
  | .yes, _ => true
  | .no, _ => false
  | .nt s, x => !holdV A v u s x
  | .an a b, x => holdV A v u a x && holdV A v u b x
  | .orr a b, x => holdV A v u a x || holdV A v u b x
  | .gv a b, x => !holdV A v u a x || holdV A v u b x
  | .ea w s, x => (ledS A w x).all (holdV A v u s)
  | .so w s, x => (ledS A w x).any (holdV A v u s)
abbrev hold (A : List T3) (R : Nat → List Int) (s : Say) (x : Int) : Bool := holdV A (fun i y => decide (y ∈ R i)) (fun _ _ => false) s x
structure Leads (H : Hp) (d : Addr) (n : Nat) (A : List T3) : Prop where
  ex : ∃ kvs, H d = some (.dK kvs) ∧ ∀ w, In 6 w → ∃ (r : Addr) (cs : List Addr), valV kvs (Sum.inl w) = some (.ref r) ∧ H r = some (.lst (cs.map V.ref)) ∧ cs.length = n ∧ ∀ (x : Nat) c, cs[x]? = some c → H c = some (.lst ((ledS A w x).map V.int))
theorem Leads.on {H H' : Hp} {d : Addr} {n : Nat} {A : List T3} (l : Leads H d n A) (e : Same H H') : Leads H' d n A := by
  obtain ⟨kvs, h1, h2⟩ := l.ex
  refine ⟨kvs, e _ _ h1, fun w hw => ?_⟩
  obtain ⟨r, cs, g1, g2, g3, g4⟩ := h2 w hw
  exact ⟨r, cs, g1, e _ _ g2, g3, fun x c hx => e _ _ (g4 x c hx)⟩
theorem Lay.d {H0 H : Hp} {d : Addr} {n : Nat} {r : Int → Addr} {c : Int → Nat → Addr} {L : Int → Nat → List Int} {A : List T3} (l : Lay H0 H d n 6 r c L) (hL : ∀ w x, In 6 w → x < n → L w x = ledS A w x) : Leads H d n A := by
  obtain ⟨kvs, h1, _, h2⟩ := l.dict
  refine ⟨kvs, h1, fun w hw => ⟨r w, (List.range n).map (c w), h2 w hw, ?_, by rw [List.length_map, List.length_range], fun x y hx => ?_⟩⟩
  · rw [l.row w hw, List.map_map]
    rfl
  · rw [List.getElem?_map] at hx
    obtain ⟨z, hz, rfl⟩ := Option.map_eq_some_iff.mp hx
    obtain ⟨z1, z2⟩ := List.getElem?_eq_some_iff.mp hz
    rw [List.getElem_range] at z2
    subst z2
    rw [List.length_range] at z1
    rw [l.cell w _ hw z1, hL w _ hw z1]
def casesF (d : Addr) (D : Addr) (E : Addr) (f : Int) : List (Str × V) := [(("leads" : Str), V.ref d), (("marks" : Str), V.ref D), (("heres" : Str), V.ref E), (("full" : Str), V.int f)]
theorem casesF_n01 : ¬ (("leads" : Str) = "marks") := by decide +kernel
theorem casesF_n02 : ¬ (("leads" : Str) = "heres") := by decide +kernel
theorem casesF_n03 : ¬ (("leads" : Str) = "full") := by decide +kernel
theorem casesF_n12 : ¬ (("marks" : Str) = "heres") := by decide +kernel
theorem casesF_n13 : ¬ (("marks" : Str) = "full") := by decide +kernel
theorem casesF_n23 : ¬ (("heres" : Str) = "full") := by decide +kernel
theorem casesF_new (d : Addr) (D : Addr) (E : Addr) (f : Int) : putF "full" (V.int f) (putF "heres" (V.ref E) (putF "marks" (V.ref D) (putF "leads" (V.ref d) []))) = casesF d D E f := by
  have e1 : putF "marks" (V.ref D) [(("leads" : Str), V.ref d)] = [(("leads" : Str), V.ref d), (("marks" : Str), V.ref D)] := by
    show (if ("leads" : Str) = "marks" then _ else (("leads" : Str), V.ref d) :: putF "marks" (V.ref D) []) = _
    rw [if_neg casesF_n01]
    rfl
  have e2 : putF "heres" (V.ref E) [(("leads" : Str), V.ref d), (("marks" : Str), V.ref D)] = [(("leads" : Str), V.ref d), (("marks" : Str), V.ref D), (("heres" : Str), V.ref E)] := by
    show (if ("leads" : Str) = "heres" then _ else (("leads" : Str), V.ref d) :: (if ("marks" : Str) = "heres" then _ else (("marks" : Str), V.ref D) :: putF "heres" (V.ref E) [])) = _
    rw [if_neg casesF_n02, if_neg casesF_n12]
    rfl
  have e3 : putF "full" (V.int f) [(("leads" : Str), V.ref d), (("marks" : Str), V.ref D), (("heres" : Str), V.ref E)] = [(("leads" : Str), V.ref d), (("marks" : Str), V.ref D), (("heres" : Str), V.ref E), (("full" : Str), V.int f)] := by
    show (if ("leads" : Str) = "full" then _ else (("leads" : Str), V.ref d) :: (if ("marks" : Str) = "full" then _ else (("marks" : Str), V.ref D) :: (if ("heres" : Str) = "full" then _ else (("heres" : Str), V.ref E) :: putF "full" (V.int f) []))) = _
    rw [if_neg casesF_n03, if_neg casesF_n13, if_neg casesF_n23]
    rfl
  have e0 : putF "leads" (V.ref d) [] = [(("leads" : Str), V.ref d)] := rfl
  rw [e0, e1, e2, e3]
  rfl
theorem casesF_leads (d : Addr) (D : Addr) (E : Addr) (f : Int) : (casesF d D E f).lookup ("leads" : Str) = some (V.ref d) := by
  rw [← casesF_new, lookup_putF, if_neg casesF_n03, lookup_putF, if_neg casesF_n02, lookup_putF, if_neg casesF_n01, lookup_putF, if_pos rfl]
theorem casesF_marks (d : Addr) (D : Addr) (E : Addr) (f : Int) : (casesF d D E f).lookup ("marks" : Str) = some (V.ref D) := by
  rw [← casesF_new, lookup_putF, if_neg casesF_n13, lookup_putF, if_neg casesF_n12, lookup_putF, if_pos rfl]
theorem casesF_heres (d : Addr) (D : Addr) (E : Addr) (f : Int) : (casesF d D E f).lookup ("heres" : Str) = some (V.ref E) := by
  rw [← casesF_new, lookup_putF, if_neg casesF_n23, lookup_putF, if_pos rfl]
theorem casesF_full (d : Addr) (D : Addr) (E : Addr) (f : Int) : (casesF d D E f).lookup ("full" : Str) = some (V.int f) := by
  rw [← casesF_new, lookup_putF, if_pos rfl]
theorem casesF_no (d : Addr) (D : Addr) (E : Addr) (f : Int) {m : Str} (h0 : ¬ m = ("leads" : Str)) (h1 : ¬ m = ("marks" : Str)) (h2 : ¬ m = ("heres" : Str)) (h3 : ¬ m = ("full" : Str)) : (casesF d D E f).lookup m = none := by
  rw [← casesF_new, lookup_putF, if_neg h3, lookup_putF, if_neg h2, lookup_putF, if_neg h1, lookup_putF, if_neg h0]
  rfl
/-- all cases at once -/
abbrev ansB (N : Nat) (f : Nat → Int → Bool) : Int → Nat := fun x => bitsN N fun c => f c x
structure CaseEnv (H : Hp) (d D E : Addr) (n : Nat) (A : List T3) (N : Nat) (v u : Nat → Nat → Int → Bool) (s : Say) : Prop where
  ld : Leads H d n A
  ms : ∃ cs, H D = some (.lst cs) ∧ ∀ i, Say.lt i ∈ s.words → ∃ r, cs[i]? = some (.ref r) ∧ H r = some (.lst ((ansN n (ansB N fun c => v c i)).map V.int))
  hr : ∃ cs, H E = some (.lst cs) ∧ ∀ j, Say.hr j ∈ s.words → ∃ r, cs[j]? = some (.ref r) ∧ H r = some (.lst ((ansN n (ansB N fun c => u c j)).map V.int))
theorem CaseEnv.on {H H' : Hp} {d D E : Addr} {n : Nat} {A : List T3} {N : Nat} {v u : Nat → Nat → Int → Bool} {s : Say} (e : CaseEnv H d D E n A N v u s) (q : Same H H') : CaseEnv H' d D E n A N v u s := by
  obtain ⟨cs, h1, h2⟩ := e.ms
  obtain ⟨hs, g1, g2⟩ := e.hr
  exact ⟨e.ld.on q, ⟨cs, q _ _ h1, fun i m => let ⟨r, a, b⟩ := h2 i m; ⟨r, a, q _ _ b⟩⟩, ⟨hs, q _ _ g1, fun i m => let ⟨r, a, b⟩ := g2 i m; ⟨r, a, q _ _ b⟩⟩⟩
theorem CaseEnv.part {H : Hp} {d D E : Addr} {n : Nat} {A : List T3} {N : Nat} {v u : Nat → Nat → Int → Bool} {s t : Say} (e : CaseEnv H d D E n A N v u s) (p : t ∈ s.parts) : CaseEnv H d D E n A N v u t := by
  obtain ⟨cs, h1, h2⟩ := e.ms
  obtain ⟨hs, g1, g2⟩ := e.hr
  exact ⟨e.ld, ⟨cs, h1, fun i m => h2 i (Say.part_word p m)⟩, ⟨hs, g1, fun i m => g2 i (Say.part_word p m)⟩⟩
section
variable {P : Program} {w : World} {K : PySem.W.Frag} {mg : Str → Option Value} {base : Heap}
def sp_Cases_init (C : Addr) : Sp := fun vs H Q _ => ∃ (p dx d D E : Addr) (f : Int), vs = [.ref p, .ref d, .ref D, .ref E, .int f] ∧ H p = some (.ins C dx []) ∧ ∀ H', ButP p H H' → H' p = some (.ins C dx (casesF d D E f)) → Q .non H'
theorem ok_Cases___init__ (T : Tops K w mg) : FnOk P w K mg base CX0 1 T.a_Cases___init__ T.fd_Cases___init__ p_Cases___init__ (sp_Cases_init T.C_Cases) := by
  have S := sc_Cases___init__
  refine T.F_Cases___init__.ok S (fun vs H Q E h => ?_) (fun cdv A outer s0 H vs Q E hr h => ?_)
  · obtain ⟨p, dx, d, D, E, f, rfl, _⟩ := h
    rfl
  · obtain ⟨p, dx, d, D, E', f, rfl, hp, q⟩ := h
    refine ⟨_, (pss_cons (ps_fld (pv 0) (pv 1) rfl)
      (pss_cons (ps_fld (pv 0) (pv 2) rfl)
      (pss_cons (ps_fld (pv 0) (pv 3) rfl)
      (pss_one (ps_fld (pv 0) (pv 4) rfl))))), ?_⟩
    have l1 : (putF "leads" (.ref d) []).length = 1 := rfl
    have l2 := length_putF "marks" (.ref D) (putF "leads" (.ref d) [])
    have l3 := length_putF "heres" (.ref E') (putF "marks" (.ref D) (putF "leads" (.ref d) []))
    refine ⟨.ref d, rfl, .ref p, rfl, p, T.C_Cases, dx, [], rfl, hp, T.cl_Cases, T.na_Cases_leads, by decide, ?_⟩
    refine ⟨.ref D, rfl, .ref p, rfl, p, T.C_Cases, dx, _, rfl, upd_same, T.cl_Cases, T.na_Cases_marks, by omega, ?_⟩
    refine ⟨.ref E', rfl, .ref p, rfl, p, T.C_Cases, dx, _, rfl, upd_same, T.cl_Cases, T.na_Cases_heres, by omega, ?_⟩
    refine ⟨.int f, rfl, .ref p, rfl, p, T.C_Cases, dx, _, rfl, upd_same, T.cl_Cases, T.na_Cases_full, by omega, ?_⟩
    rw [casesF_new]
    exact q _ ((((ButP.of (Same.refl H)).own).own).own).own upd_same
/-- each, some: row by row -/
def sp_everywhere (K : PySem.W.Frag) : Sp := fun vs H Q _ => ∃ (f : Int) (r a : Addr) (n N : Nat) (cs : List Addr) (L : Nat → List Int) (g : Nat → Int → Bool), vs = [.int f, .ref r, .ref a] ∧ f = ((bitsN N fun _ => true : Nat) : Int) ∧ n ≤ 200 ∧ H r = some (.lst (cs.map V.ref)) ∧ cs.length = n ∧ (∀ (x : Nat) c, cs[x]? = some c → H c = some (.lst ((L x).map V.int))) ∧ (∀ x y, x < n → y ∈ L x → 0 ≤ y ∧ y < n) ∧
  H a = some (.lst ((ansN n (ansB N g)).map V.int)) ∧ ∀ H' p, Same H H' → H' p = some (.lst ((ansN n (ansB N fun c x => (L x.toNat).all (g c))).map V.int)) → Q (.ref p) H'
theorem ok__everywhere (T : Tops K w mg) : FnOk P w K mg base CX0 1 T.a__everywhere T.fd__everywhere p__everywhere (sp_everywhere K) := by
  have S := sc__everywhere
  refine T.F__everywhere.ok S (fun vs H Q E h => ?_) (fun cdv AA outer s0 H vs Q E hr h => ?_)
  · obtain ⟨f, r, a, n, N, cs, L, g, rfl, _⟩ := h
    rfl
  · obtain ⟨f, r, a, n, N, cs, L, g, rfl, rfl, n2, hr1, hcl, hc, rng, ha, q⟩ := h
    refine ⟨_, (pss_cons (ps_set (i := 3) S.nd rfl (Or.inl rfl) (pe_lst pa_nil))
      (pss_cons (ps_for PassesOwn.never rfl (pi_list (pv 1)) (pg_name (i := 4) S.nd rfl (Or.inl rfl)) (pss_cons (ps_set (i := 5) S.nd rfl (Or.inl rfl) (pv 0))
      (pss_cons (ps_for PassesOwn.never rfl (pi_list (pv 4)) (pg_name (i := 6) S.nd rfl (Or.inl rfl)) (pss_one (ps_set (i := 5) S.nd rfl (Or.inl rfl) (pe_op V6.op_andB (pv 5) (pe_ix (ix_listK (K := K)) (pv 2) (pv 6) (fun _ _ => rfl))))))
      (pss_one (ps_expr (pe_bm PySem.F.plainAttrs_list PySem.F.slot_list_append PySem.F.type_list_append mt_append (pv 3) (pa_cons (pv 5) pa_nil)))))))
      (pss_one (ps_ret (pv 3))))), ?_⟩
    refine ⟨Nat.zero_le _, fun D nD => ?_⟩
    have e0 := same_new (o := .lst []) nD
    refine ⟨.ref r, rfl, r, rfl, ⟨_, SqL.of (e0 _ _ hr1)⟩, ?_⟩
    refine for_list (K := K) (a := r) (xs := cs.map V.ref) (fun j σ H' => ∃ y4 y5 y6, σ = [some (.int ((bitsN N fun _ => true : Nat) : Int)), some (.ref r), some (.ref a), some (.ref D), y4, y5, y6] ∧ Same H H' ∧ H' D = some (.lst (((ansN n (ansB N fun c x => (L x.toNat).all (g c))).take j).map V.int)))
      ⟨none, none, none, rfl, e0, upd_same⟩ (fun j σ H' _ h => by obtain ⟨_, _, _, _, e, _⟩ := h; exact SqL.of (e _ _ hr1)) (fun j x σ H2 hx h => ?_) (fun σ H2 h => ?_)
    · obtain ⟨y4, y5, y6, rfl, e2, hD⟩ := h
      rw [List.getElem?_map] at hx
      obtain ⟨c, hcj, rfl⟩ := Option.map_eq_some_iff.mp hx
      have jn : j < n := by
        have := (List.getElem?_eq_some_iff.mp hcj).1
        omega
      have hcell := e2 _ _ (hc j c hcj)
      refine ⟨.int ((bitsN N fun _ => true : Nat) : Int), rfl, .ref c, rfl, c, rfl, ⟨_, SqL.of hcell⟩, ?_⟩
      refine for_list (K := K) (a := c) (xs := (L j).map V.int) (fun z σ H' => ∃ y6, σ = [some (.int ((bitsN N fun _ => true : Nat) : Int)), some (.ref r), some (.ref a), some (.ref D), some (.ref c), some (.int ((bitsN N fun k => ((L j).take z).all (g k) : Nat) : Int)), y6] ∧ H' = H2)
        ⟨y6, rfl, rfl⟩ (fun z σ H' _ h => by obtain ⟨_, _, rfl⟩ := h; exact SqL.of hcell) (fun z x σ H3 hx h => ?_) (fun σ H3 h => ?_)
      · obtain ⟨y6, rfl, rfl⟩ := h
        rw [List.getElem?_map] at hx
        obtain ⟨y, hy, rfl⟩ := Option.map_eq_some_iff.mp hx
        have ry := rng j y jn (List.mem_of_getElem? hy)
        obtain ⟨y, rfl⟩ : ∃ k : Nat, y = k := ⟨y.toNat, (Int.toNat_of_nonneg ry.1).symm⟩
        have yn : y < n := by have := ry.2; omega
        refine ⟨.int ((bitsN N fun k => ((L j).take z).all (g k) : Nat) : Int), rfl, .ref a, rfl, .int y, rfl, a, _, y, .int ((bitsN N fun k => g k y : Nat) : Int), rfl, rfl, SqL.of (e2 _ _ ha), atI_nat (ansN_at _ yn), _, _, rfl, rfl, ?_⟩
        have e : (bitsN N fun k => ((L j).take z).all (g k)) &&& (bitsN N fun k => g k y) = bitsN N fun k => ((L j).take (z + 1)).all (g k) := by
          rw [bits_and, List.take_add_one, hy]
          simp only [List.all_append, Option.toList_some, List.all_cons, List.all_nil, Bool.and_true]
        refine ⟨some (.int (y : Int)), ?_, rfl⟩
        rw [← e]
        rfl
      · obtain ⟨y6, rfl, rfl⟩ := h
        rw [List.length_map, List.take_length]
        refine ⟨.ref D, rfl, .inl ⟨rfl, _, SqL.of hD⟩, .int ((bitsN N fun k => (L j).all (g k) : Nat) : Int), rfl, D, _, _, rfl, rfl, hD, ansN_few n j _ n2, ?_⟩
        refine ⟨_, _, _, rfl, same_upd_new e2 nD, ?_⟩
        exact ansN_step jn (by show _ = bitsN N fun c => (L (j : Int).toNat).all (g c); rw [Int.toNat_natCast])
    · obtain ⟨y4, y5, y6, rfl, e2, hD⟩ := h
      rw [List.length_map, hcl, List.take_of_length_le (by rw [ansN_len]; exact Nat.le_refl _)] at hD
      exact ⟨.ref D, rfl, q H2 D e2 hD⟩
def sp_somewhere (K : PySem.W.Frag) : Sp := fun vs H Q _ => ∃ (r a : Addr) (n N : Nat) (cs : List Addr) (L : Nat → List Int) (g : Nat → Int → Bool), vs = [.ref r, .ref a] ∧ n ≤ 200 ∧ H r = some (.lst (cs.map V.ref)) ∧ cs.length = n ∧ (∀ (x : Nat) c, cs[x]? = some c → H c = some (.lst ((L x).map V.int))) ∧ (∀ x y, x < n → y ∈ L x → 0 ≤ y ∧ y < n) ∧
  H a = some (.lst ((ansN n (ansB N g)).map V.int)) ∧ ∀ H' p, Same H H' → H' p = some (.lst ((ansN n (ansB N fun c x => (L x.toNat).any (g c))).map V.int)) → Q (.ref p) H'
theorem ok_somewhere (T : Tops K w mg) : FnOk P w K mg base CX0 1 T.a_somewhere T.fd_somewhere p_somewhere (sp_somewhere K) := by
  have S := sc_somewhere
  refine T.F_somewhere.ok S (fun vs H Q E h => ?_) (fun cdv AA outer s0 H vs Q E hr h => ?_)
  · obtain ⟨r, a, n, N, cs, L, g, rfl, _⟩ := h
    rfl
  · obtain ⟨r, a, n, N, cs, L, g, rfl, n2, hr1, hcl, hc, rng, ha, q⟩ := h
    refine ⟨_, (pss_cons (ps_set (i := 2) S.nd rfl (Or.inl rfl) (pe_lst pa_nil))
      (pss_cons (ps_for PassesOwn.never rfl (pi_list (pv 0)) (pg_name (i := 3) S.nd rfl (Or.inl rfl)) (pss_cons (ps_set (i := 4) S.nd rfl (Or.inl rfl) pe_int)
      (pss_cons (ps_for PassesOwn.never rfl (pi_list (pv 3)) (pg_name (i := 5) S.nd rfl (Or.inl rfl)) (pss_one (ps_set (i := 4) S.nd rfl (Or.inl rfl) (pe_op V6.op_orB (pv 4) (pe_ix (ix_listK (K := K)) (pv 1) (pv 5) (fun _ _ => rfl))))))
      (pss_one (ps_expr (pe_bm PySem.F.plainAttrs_list PySem.F.slot_list_append PySem.F.type_list_append mt_append (pv 2) (pa_cons (pv 4) pa_nil)))))))
      (pss_one (ps_ret (pv 2))))), ?_⟩
    refine ⟨Nat.zero_le _, fun D nD => ?_⟩
    have e0 := same_new (o := .lst []) nD
    refine ⟨.ref r, rfl, r, rfl, ⟨_, SqL.of (e0 _ _ hr1)⟩, ?_⟩
    refine for_list (K := K) (a := r) (xs := cs.map V.ref) (fun j σ H' => ∃ y4 y5 y6, σ = [some (.ref r), some (.ref a), some (.ref D), y4, y5, y6] ∧ Same H H' ∧ H' D = some (.lst (((ansN n (ansB N fun c x => (L x.toNat).any (g c))).take j).map V.int)))
      ⟨none, none, none, rfl, e0, upd_same⟩ (fun j σ H' _ h => by obtain ⟨_, _, _, _, e, _⟩ := h; exact SqL.of (e _ _ hr1)) (fun j x σ H2 hx h => ?_) (fun σ H2 h => ?_)
    · obtain ⟨y4, y5, y6, rfl, e2, hD⟩ := h
      rw [List.getElem?_map] at hx
      obtain ⟨c, hcj, rfl⟩ := Option.map_eq_some_iff.mp hx
      have jn : j < n := by
        have := (List.getElem?_eq_some_iff.mp hcj).1
        omega
      have hcell := e2 _ _ (hc j c hcj)
      refine ⟨.ref c, rfl, c, rfl, ⟨_, SqL.of hcell⟩, ?_⟩
      have z0 : V.int 0 = V.int ((bitsN N fun k => ((L j).take 0).any (g k) : Nat) : Int) := by
        rw [show (fun k => ((L j).take 0).any (g k)) = fun _ => false from rfl, bits_none]
        rfl
      rw [z0]
      refine for_list (K := K) (a := c) (xs := (L j).map V.int) (fun z σ H' => ∃ y6, σ = [some (.ref r), some (.ref a), some (.ref D), some (.ref c), some (.int ((bitsN N fun k => ((L j).take z).any (g k) : Nat) : Int)), y6] ∧ H' = H2)
        ⟨y6, rfl, rfl⟩ (fun z σ H' _ h => by obtain ⟨_, _, rfl⟩ := h; exact SqL.of hcell) (fun z x σ H3 hx h => ?_) (fun σ H3 h => ?_)
      · obtain ⟨y6, rfl, rfl⟩ := h
        rw [List.getElem?_map] at hx
        obtain ⟨y, hy, rfl⟩ := Option.map_eq_some_iff.mp hx
        have ry := rng j y jn (List.mem_of_getElem? hy)
        obtain ⟨y, rfl⟩ : ∃ k : Nat, y = k := ⟨y.toNat, (Int.toNat_of_nonneg ry.1).symm⟩
        have yn : y < n := by have := ry.2; omega
        refine ⟨.int ((bitsN N fun k => ((L j).take z).any (g k) : Nat) : Int), rfl, .ref a, rfl, .int y, rfl, a, _, y, .int ((bitsN N fun k => g k y : Nat) : Int), rfl, rfl, SqL.of (e2 _ _ ha), atI_nat (ansN_at _ yn), _, _, rfl, rfl, ?_⟩
        have e : (bitsN N fun k => ((L j).take z).any (g k)) ||| (bitsN N fun k => g k y) = bitsN N fun k => ((L j).take (z + 1)).any (g k) := by
          rw [bits_or, List.take_add_one, hy]
          simp only [List.any_append, Option.toList_some, List.any_cons, List.any_nil, Bool.or_false]
        refine ⟨some (.int (y : Int)), ?_, rfl⟩
        rw [← e]
        rfl
      · obtain ⟨y6, rfl, rfl⟩ := h
        rw [List.length_map, List.take_length]
        refine ⟨.ref D, rfl, .inl ⟨rfl, _, SqL.of hD⟩, .int ((bitsN N fun k => (L j).any (g k) : Nat) : Int), rfl, D, _, _, rfl, rfl, hD, ansN_few n j _ n2, ?_⟩
        refine ⟨_, _, _, rfl, same_upd_new e2 nD, ?_⟩
        exact ansN_step jn (by show _ = bitsN N fun c => (L (j : Int).toNat).any (g c); rw [Int.toNat_natCast])
    · obtain ⟨y4, y5, y6, rfl, e2, hD⟩ := h
      rw [List.length_map, hcl, List.take_of_length_le (by rw [ansN_len]; exact Nat.le_refl _)] at hD
      exact ⟨.ref D, rfl, q H2 D e2 hD⟩
end
end K0

namespace K0
open PySem PySem.Spec PyProof.Rows L2 W0 W1 W2 W5 W6 V0 V1 V6
theorem casesF_ans (d D E : Addr) (f : Int) : (casesF d D E f).lookup ("answers" : Str) = none := casesF_no _ _ _ _ (by decide +kernel) (by decide +kernel) (by decide +kernel) (by decide +kernel)
theorem hd_here {s : Say} (h : s.hd = "here") : ∃ j, s = .hr j := by
  cases s with
  | hr j => exact ⟨j, rfl⟩
  | lt j => exact absurd (show ("letter" : Str) = "here" from h) (by decide)
  | yes  => exact absurd (show ("yes" : Str) = "here" from h) (by decide)
  | no  => exact absurd (show ("no" : Str) = "here" from h) (by decide)
  | nt t => exact absurd (show ("not" : Str) = "here" from h) (by decide)
  | an t t2 => exact absurd (show ("and" : Str) = "here" from h) (by decide)
  | orr t t2 => exact absurd (show ("or" : Str) = "here" from h) (by decide)
  | gv t t2 => exact absurd (show ("gives" : Str) = "here" from h) (by decide)
  | ea i t => exact absurd (show ("each" : Str) = "here" from h) (by decide)
  | so i t => exact absurd (show ("some" : Str) = "here" from h) (by decide)
/-- the answers of a saying at the address -/
def AnsAt (H : Hp) (p : Addr) (n N : Nat) (g : Nat → Int → Bool) : Prop := H p = some (.lst ((ansN n (ansB N g)).map V.int))
section
variable {P : Program} {w : World} {K : PySem.W.Frag} {mg : Str → Option Value} {base : Heap}
def sp_answers (K : PySem.W.Frag) (C : Addr) (e : Nat) : Sp := fun vs H Q _ => ∃ (o dx d D E : Addr) (y : V) (n : Nat) (A : List T3) (N : Nat) (v u : Nat → Nat → Int → Bool) (s : Say), vs = [.ref o, y] ∧ H o = some (.ins C dx (casesF d D E ((bitsN N fun _ => true : Nat) : Int))) ∧ CaseEnv H d D E n A N v u s ∧ Dp K H y (dSay s) ∧ (∃ nl nh dn, s.OkN nl nh dn) ∧ s.deep ≤ e ∧ WOk n A ∧
  ∀ H' p, Same H H' → AnsAt H' p n N (fun c => holdV A (v c) (u c) s) → Q (.ref p) H'
set_option maxHeartbeats 4000000 in
theorem ok_Cases_answers (T : Tops K w mg) : ∀ e : Nat, FnOk P w K mg base CX0 (e + 2) T.a_Cases_answers T.fd_Cases_answers p_Cases_answers (sp_answers K T.C_Cases e)
  | 0 => by
    have S := sc_Cases_answers
    refine T.F_Cases_answers.ok S (fun vs H Q E h => ?_) (fun cdv AA outer s0 H vs Q E hr h => ?_)
    · obtain ⟨o, dx, d, D, E, y, n, A, N, v, u, s, rfl, _⟩ := h
      rfl
    · obtain ⟨o, dx, d, D, E, y, n, A, N, v, u, s, rfl, _, _, _, _, h0, _⟩ := h
      exact absurd (Say.deep_pos s) (by omega)
  | e + 1 => by
    have ih := ok_Cases_answers T e
    have S := sc_Cases_answers
    refine T.F_Cases_answers.ok S (fun vs H Q E h => ?_) (fun cdv AA outer s0 H vs Q E' hr h => ?_)
    · obtain ⟨o, dx, d, D, E, y, n, A, N, v, u, s, rfl, _⟩ := h
      rfl
    · obtain ⟨o, dx, d, D, E, y, n, A, N, v, u, s, rfl, ho, env, hd, ⟨nl, nh, dn, ok⟩, hdeep, wok, q⟩ := h
      refine ⟨_, (pss_cons (ps_set (i := 2) S.nd rfl (Or.inl rfl) (pe_ix (ix_tupK (K := K)) (pv 1) pe_int (fun _ _ => rfl)))
      (pss_cons (ps_if (pt_cmpR op_eq (pv 2) pe_str (nomark _)) (pss_one (ps_ret (pe_ix (ix_listK (K := K)) (V6.pe_fldK (K := K) (pv 0) rfl) (pe_ix (ix_tupK (K := K)) (pv 1) pe_int (fun _ _ => rfl)) (fun _ _ => rfl)))) pss_nil)
      (pss_cons (ps_if (pt_cmpR op_eq (pv 2) pe_str (nomark _)) (pss_one (ps_ret (pe_ix (ix_listK (K := K)) (V6.pe_fldK (K := K) (pv 0) rfl) (pe_ix (ix_tupK (K := K)) (pv 1) pe_int (fun _ _ => rfl)) (fun _ _ => rfl)))) pss_nil)
      (pss_cons (ps_if (pt_cmpR op_eq (pe_callB call_len_seq (by rfl) T.m_len (by decide +kernel) (pa_cons (pv 1) pa_nil)) pe_int (nomark _)) (pss_one (ps_ret (pe_op op_rep (pe_lst (pa_cons (pe_ifExp (pt_cmpR op_eq (pv 2) pe_str (nomark _)) (V6.pe_fldK (K := K) (pv 0) rfl) pe_int) pa_nil)) (pe_callB call_len_seq (by rfl) T.m_len (by decide +kernel) (pa_cons (pe_dget (hu_of hr) (V6.pe_fldK (K := K) (pv 0) rfl) pe_int (fun _ _ => rfl)) pa_nil))))) pss_nil)
      (pss_cons (ps_if (pt_cmpR op_eq (pv 2) pe_str (nomark _)) (pss_one (ps_ret (pe_call (ok__everywhere T) (hr.mono (by first | decide | omega)) (by rfl) T.g__everywhere T.F__everywhere.kp T.b__everywhere .nil pass0 (pa_cons (V6.pe_fldK (K := K) (pv 0) rfl) (pa_cons (pe_dget (hu_of hr) (V6.pe_fldK (K := K) (pv 0) rfl) (pe_ix (ix_tupK (K := K)) (pv 1) pe_int (fun _ _ => rfl)) (fun _ _ => rfl)) (pa_cons (pe_meth (pv 0) T.cl_Cases T.me_Cases_answers ih (hr.mono (by omega)) T.b_Cases_answers .nil pass0 (pa_cons (pe_ix (ix_tupK (K := K)) (pv 1) pe_int (fun _ _ => rfl)) pa_nil)) pa_nil)))))) pss_nil)
      (pss_cons (ps_if (pt_cmpR op_eq (pv 2) pe_str (nomark _)) (pss_one (ps_ret (pe_call (ok_somewhere T) (hr.mono (by first | decide | omega)) (by rfl) T.g_somewhere T.F_somewhere.kp T.b_somewhere .nil pass0 (pa_cons (pe_dget (hu_of hr) (V6.pe_fldK (K := K) (pv 0) rfl) (pe_ix (ix_tupK (K := K)) (pv 1) pe_int (fun _ _ => rfl)) (fun _ _ => rfl)) (pa_cons (pe_meth (pv 0) T.cl_Cases T.me_Cases_answers ih (hr.mono (by omega)) T.b_Cases_answers .nil pass0 (pa_cons (pe_ix (ix_tupK (K := K)) (pv 1) pe_int (fun _ _ => rfl)) pa_nil)) pa_nil))))) pss_nil)
      (pss_cons (ps_set (i := 3) S.nd rfl (Or.inl rfl) (pe_meth (pv 0) T.cl_Cases T.me_Cases_answers ih (hr.mono (by omega)) T.b_Cases_answers .nil pass0 (pa_cons (pe_ix (ix_tupK (K := K)) (pv 1) pe_int (fun _ _ => rfl)) pa_nil)))
      (pss_cons (ps_if (pt_cmpR op_eq (pv 2) pe_str (nomark _)) (pss_one (ps_ret (pe_lc (own := [("here", 5)]) rfl S.nd (pi_list (pv 3)) (blkOk_by (N := n_Cases_answers) (sc := defScope s_Cases_answers) (by decide +kernel)) (fun _ _ _ _ _ => (pg_name (i := 5) S.nd rfl (Or.inl rfl))) (fun _ _ _ _ _ => pts_nil) (fun _ _ _ _ _ => (pe_op V6.op_xorB (V6.pe_fldK (K := K) (pv 0) rfl) (pv 5)))))) pss_nil)
      (pss_cons (ps_set (i := 4) S.nd rfl (Or.inl rfl) (pe_meth (pv 0) T.cl_Cases T.me_Cases_answers ih (hr.mono (by omega)) T.b_Cases_answers .nil pass0 (pa_cons (pe_ix (ix_tupK (K := K)) (pv 1) pe_int (fun _ _ => rfl)) pa_nil)))
      (pss_cons (ps_if (pt_cmpR op_eq (pv 2) pe_str (nomark _)) (pss_one (ps_ret (pe_lc (own := [("here", 5), ("other", 6)]) rfl S.nd (pi_zip (by rfl) T.m_zip (pa_cons (pv 3) (pa_cons (pv 4) pa_nil))) (blkOk_by (N := n_Cases_answers) (sc := defScope s_Cases_answers) (by decide +kernel)) (fun _ _ _ _ _ => (pg_tupK (K := K) (n := 2) rfl (pgs_cons (pg_name (i := 5) S.nd rfl (Or.inl rfl)) (pgs_cons (pg_name (i := 6) S.nd rfl (Or.inl rfl)) pgs_nil)))) (fun _ _ _ _ _ => pts_nil) (fun _ _ _ _ _ => (pe_op V6.op_andB (pv 5) (pv 6)))))) pss_nil)
      (pss_cons (ps_if (pt_cmpR op_eq (pv 2) pe_str (nomark _)) (pss_one (ps_ret (pe_lc (own := [("here", 5), ("other", 6)]) rfl S.nd (pi_zip (by rfl) T.m_zip (pa_cons (pv 3) (pa_cons (pv 4) pa_nil))) (blkOk_by (N := n_Cases_answers) (sc := defScope s_Cases_answers) (by decide +kernel)) (fun _ _ _ _ _ => (pg_tupK (K := K) (n := 2) rfl (pgs_cons (pg_name (i := 5) S.nd rfl (Or.inl rfl)) (pgs_cons (pg_name (i := 6) S.nd rfl (Or.inl rfl)) pgs_nil)))) (fun _ _ _ _ _ => pts_nil) (fun _ _ _ _ _ => (pe_op V6.op_orB (pv 5) (pv 6)))))) pss_nil)
      (pss_one (ps_ret (pe_lc (own := [("here", 5), ("other", 6)]) rfl S.nd (pi_zip (by rfl) T.m_zip (pa_cons (pv 3) (pa_cons (pv 4) pa_nil))) (blkOk_by (N := n_Cases_answers) (sc := defScope s_Cases_answers) (by decide +kernel)) (fun _ _ _ _ _ => (pg_tupK (K := K) (n := 2) rfl (pgs_cons (pg_name (i := 5) S.nd rfl (Or.inl rfl)) (pgs_cons (pg_name (i := 6) S.nd rfl (Or.inl rfl)) pgs_nil)))) (fun _ _ _ _ _ => pts_nil) (fun _ _ _ _ _ => (pe_op V6.op_orB (pe_op V6.op_xorB (V6.pe_fldK (K := K) (pv 0) rfl) (pv 5)) (pv 6))))))))))))))))), ?_⟩
      have n1 : 1 ≤ n := by have := wok.n1; omega
      have n2 : n ≤ 200 := by have := wok.n2; omega
      obtain ⟨kvs, hdd, hall⟩ := env.ld.ex
      have zipd : ∀ (a c0 c1 : Addr) (hd : Str) (H3 : Hp) (ta tb : Say) (tt : TE) (F : Nat → Nat → Nat), Same H H3 → AnsAt H3 c0 n N (fun c => holdV A (v c) (u c) ta) → AnsAt H3 c1 n N (fun c => holdV A (v c) (u c) tb) → (∀ x, F (bitsN N fun c => holdV A (v c) (u c) ta x) (bitsN N fun c => holdV A (v c) (u c) tb x) = bitsN N fun c => holdV A (v c) (u c) s x) →
          (∀ (b1 b2 : Nat) (H' : Hp) (Q' : VK), Same H3 H' → Q' (.int ((F b1 b2 : Nat) : Int)) H' → tt [some (.ref o), some (.ref a), some (.str hd), some (.ref c0), some (.ref c1), some (.int (b1 : Int)), some (.int (b2 : Int))] H' Q') →
          tRet (tLc (iZip K (tCons (tVar 3) (tCons (tVar 4) tNil))) (gTup K 2 (gCons (gName 5) (gCons (gName 6) gNil))) tYes tt [5, 6])
            { nx := fun _ H' => Q V.non H', rt := Q } [some (.ref o), some (.ref a), some (.str hd), some (.ref c0), some (.ref c1), none, none] H3 := fun a c0 c1 hd H3 ta tb tt F eH g0 g1 ej et => by
        refine ⟨.ref c0, rfl, .ref c1, rfl, c0, c1, _, _, rfl, SqL.of g0, SqL.of g1, fun E2 nE => ?_⟩
        refine lc_it (walk_zip (K := K) (a := c0) (b := c1) (xs := (ansN n (ansB N fun k => holdV A (v k) (u k) ta)).map V.int) (ys := (ansN n (ansB N fun k => holdV A (v k) (u k) tb)).map V.int) (n := n) (by rw [List.length_map, List.length_map, ansN_len, ansN_len, Nat.min_self])) (D := E2) (H1 := H3) (fun j H' => Same H3 H' ∧ H' E2 = some (.lst (((ansN n (ansB N fun c => holdV A (v c) (u c) s)).take j).map V.int)))
          ⟨same_new nE, upd_same⟩ (fun i H' _ h => ⟨SqL.of (h.1 _ _ g0), SqL.of (h.1 _ _ g1)⟩) (fun j x H4 H5 hj h hy => ?_) (fun H4 h => ?_)
        · obtain ⟨e4, hE⟩ := h
          obtain ⟨TT, x1, x2, rfl, nT, rfl, w1, w2⟩ := hy
          have w1' : ((ansN n (ansB N fun k => holdV A (v k) (u k) ta)).map V.int)[j]? = some x1 := w1
          have w2' : ((ansN n (ansB N fun k => holdV A (v k) (u k) tb)).map V.int)[j]? = some x2 := w2
          rw [ansN_at _ hj] at w1' w2'
          obtain rfl := Option.some.inj w1'
          obtain rfl := Option.some.inj w2'
          have eT := same_new (o := .tup [V.int ((bitsN N fun c => holdV A (v c) (u c) ta j : Nat) : Int), V.int ((bitsN N fun c => holdV A (v c) (u c) tb j : Nat) : Int)]) nT
          refine ⟨TT, [_, _], rfl, SqT.of upd_same, rfl, _, _, rfl, _, _, rfl, rfl, ?_⟩
          refine ⟨rfl, et _ _ _ _ (e4.trans eT) ?_⟩
          exact ⟨_, eT _ _ hE, ansN_few n j _ n2, same_upd_new (e4.trans eT) nE, ansN_step hj (ej j)⟩
        · obtain ⟨e4, hE⟩ := h
          refine q H4 E2 (eH.trans e4) ?_
          rw [List.take_of_length_le (by rw [ansN_len]; exact Nat.le_refl _)] at hE
          exact hE
      cases s with
      | lt i =>
        obtain ⟨a, rfl, hs⟩ := say_lt hd
        refine ⟨.ref a, rfl, a, _, 0, .str "letter", rfl, rfl, hs, atI_nat (j := 0) rfl, ?_⟩
        refine ⟨.str "letter", rfl, rfl, _, rfl, ?_⟩
        rw [dec_vstr, decide_eq_true (by decide)]
        obtain ⟨cs, hD, hcs⟩ := env.ms
        obtain ⟨r, hr1, hr2⟩ := hcs i (Say.self_word _)
        exact iteT ⟨.ref o, rfl, o, T.C_Cases, dx, _, _, rfl, ho, T.cl_Cases, T.na_Cases_marks, casesF_marks _ _ _ _, .ref a, rfl, a, _, 1, .int i, rfl, rfl, hs, atI_nat (j := 1) rfl, D, _, i, .ref r, rfl, rfl, SqL.of hD, atI_nat hr1, q H r (Same.refl H) hr2⟩
      | hr i =>
        obtain ⟨a, rfl, hs⟩ := say_hr hd
        refine ⟨.ref a, rfl, a, _, 0, .str "here", rfl, rfl, hs, atI_nat (j := 0) rfl, ?_⟩
        refine ⟨.str "here", rfl, rfl, _, rfl, ?_⟩
        rw [dec_vstr, decide_eq_false (by decide)]
        refine iteF ⟨.str "here", rfl, rfl, _, rfl, ?_⟩
        rw [dec_vstr, decide_eq_true (by decide)]
        obtain ⟨cs, hD, hcs⟩ := env.hr
        obtain ⟨r, hr1, hr2⟩ := hcs i (Say.self_word _)
        exact iteT ⟨.ref o, rfl, o, T.C_Cases, dx, _, _, rfl, ho, T.cl_Cases, T.na_Cases_heres, casesF_heres _ _ _ _, .ref a, rfl, a, _, 1, .int i, rfl, rfl, hs, atI_nat (j := 1) rfl, E, _, i, .ref r, rfl, rfl, SqL.of hD, atI_nat hr1, q H r (Same.refl H) hr2⟩
      | yes =>
        obtain ⟨a, rfl, hs⟩ := say_yes hd
        refine ⟨.ref a, rfl, a, _, 0, .str "yes", rfl, rfl, hs, atI_nat (j := 0) rfl, ?_⟩
        refine ⟨.str "yes", rfl, rfl, _, rfl, ?_⟩
        rw [dec_vstr, decide_eq_false (by decide)]
        refine iteF ⟨.str "yes", rfl, rfl, _, rfl, ?_⟩
        rw [dec_vstr, decide_eq_false (by decide)]
        refine iteF ⟨.ref a, rfl, a, _, rfl, .inr hs, rfl, _, rfl, ?_⟩
        rw [dec_vint', decide_eq_true (by show (1 : Int) = 1; decide)]
        obtain ⟨r, rs, hv, hr1, hr2, hr3⟩ := hall 0 ⟨by decide, by decide⟩
        have ln : (List.map V.ref rs).length = n := by rw [List.length_map]; exact hr2
        refine iteT ⟨.str "yes", rfl, rfl, _, rfl, ?_⟩
        rw [dec_vstr, decide_eq_true (by decide)]
        refine iteT ⟨.ref o, rfl, o, T.C_Cases, dx, _, _, rfl, ho, T.cl_Cases, T.na_Cases_full, casesF_full _ _ _ _, by show 1 ≤ sizeLine; decide, fun F nF => ?_⟩
        have eF := same_new (o := .lst [.int ((bitsN N fun _ => true : Nat) : Int)]) nF
        refine ⟨.ref o, rfl, o, T.C_Cases, dx, _, _, rfl, (eF _ _ ho), T.cl_Cases, T.na_Cases_leads, casesF_leads _ _ _ _, d, .ref r, rfl, dget (eF _ _ hdd) hv, r, _, rfl, .inl (SqL.of (eF _ _ hr1)), ?_⟩
        rw [ln]
        refine ⟨F, n, _, rfl, rfl, upd_same, by omega, by omega, ?_, fun p np => q _ p (eF.trans (same_new np)) ?_⟩
        · rw [Int.toNat_natCast]
          show 1 * n ≤ sizeLine
          rw [Nat.one_mul]
          exact Nat.le_of_lt (small (m := 200) n2)
        · unfold AnsAt
          rw [upd_same, Int.toNat_natCast, flat_rep]
          have e3 : ansN n (ansB N fun c => holdV A (v c) (u c) .yes) = List.replicate n ((bitsN N fun _ => true : Nat) : Int) := by
            refine List.ext_getElem (by rw [ansN_len, List.length_replicate]) fun i h1 h2 => ?_
            rw [List.getElem_replicate]
            have : (ansN n (ansB N fun c => holdV A (v c) (u c) .yes))[i]? = some (((ansB N fun c => holdV A (v c) (u c) .yes) i : Nat) : Int) := ansN_get _ (by rw [ansN_len] at h1; exact h1)
            rw [List.getElem?_eq_getElem h1] at this
            rw [Option.some.inj this]
            show ((bitsN N fun _ => true : Nat) : Int) = _
            rfl
          rw [e3, List.map_replicate]
      | no =>
        obtain ⟨a, rfl, hs⟩ := say_no hd
        refine ⟨.ref a, rfl, a, _, 0, .str "no", rfl, rfl, hs, atI_nat (j := 0) rfl, ?_⟩
        refine ⟨.str "no", rfl, rfl, _, rfl, ?_⟩
        rw [dec_vstr, decide_eq_false (by decide)]
        refine iteF ⟨.str "no", rfl, rfl, _, rfl, ?_⟩
        rw [dec_vstr, decide_eq_false (by decide)]
        refine iteF ⟨.ref a, rfl, a, _, rfl, .inr hs, rfl, _, rfl, ?_⟩
        rw [dec_vint', decide_eq_true (by show (1 : Int) = 1; decide)]
        obtain ⟨r, rs, hv, hr1, hr2, hr3⟩ := hall 0 ⟨by decide, by decide⟩
        have ln : (List.map V.ref rs).length = n := by rw [List.length_map]; exact hr2
        refine iteT ⟨.str "no", rfl, rfl, _, rfl, ?_⟩
        rw [dec_vstr, decide_eq_false (by decide)]
        refine iteF ⟨by show 1 ≤ sizeLine; decide, fun F nF => ?_⟩
        have eF := same_new (o := .lst [.int 0]) nF
        refine ⟨.ref o, rfl, o, T.C_Cases, dx, _, _, rfl, (eF _ _ ho), T.cl_Cases, T.na_Cases_leads, casesF_leads _ _ _ _, d, .ref r, rfl, dget (eF _ _ hdd) hv, r, _, rfl, .inl (SqL.of (eF _ _ hr1)), ?_⟩
        rw [ln]
        refine ⟨F, n, _, rfl, rfl, upd_same, by omega, by omega, ?_, fun p np => q _ p (eF.trans (same_new np)) ?_⟩
        · rw [Int.toNat_natCast]
          show 1 * n ≤ sizeLine
          rw [Nat.one_mul]
          exact Nat.le_of_lt (small (m := 200) n2)
        · unfold AnsAt
          rw [upd_same, Int.toNat_natCast, flat_rep]
          have e3 : ansN n (ansB N fun c => holdV A (v c) (u c) .no) = List.replicate n 0 := by
            refine List.ext_getElem (by rw [ansN_len, List.length_replicate]) fun i h1 h2 => ?_
            rw [List.getElem_replicate]
            have : (ansN n (ansB N fun c => holdV A (v c) (u c) .no))[i]? = some (((ansB N fun c => holdV A (v c) (u c) .no) i : Nat) : Int) := ansN_get _ (by rw [ansN_len] at h1; exact h1)
            rw [List.getElem?_eq_getElem h1] at this
            rw [Option.some.inj this]
            show ((bitsN N fun _ => false : Nat) : Int) = _
            rw [bits_none]; rfl
          rw [e3, List.map_replicate]
      | ea i t =>
        obtain ⟨a, z, rfl, hs, dz⟩ := say_ea hd
        refine ⟨.ref a, rfl, a, _, 0, .str "each", rfl, rfl, hs, atI_nat (j := 0) rfl, ?_⟩
        refine ⟨.str "each", rfl, rfl, _, rfl, ?_⟩
        rw [dec_vstr, decide_eq_false (by decide)]
        refine iteF ⟨.str "each", rfl, rfl, _, rfl, ?_⟩
        rw [dec_vstr, decide_eq_false (by decide)]
        refine iteF ⟨.ref a, rfl, a, _, rfl, .inr hs, rfl, _, rfl, ?_⟩
        rw [dec_vint', decide_eq_false (by show ¬ (3 : Int) = 1; decide)]
        refine iteF ⟨.str "each", rfl, rfl, _, rfl, ?_⟩
        rw [dec_vstr, decide_eq_true (by decide)]
        have wi : -3 ≤ i ∧ i ≤ 2 := ok.own
        obtain ⟨r, rs, hv, hr1, hr2, hr3⟩ := hall i ⟨wi.1, by omega⟩
        have pm : t ∈ (Say.ea i t).parts := List.mem_singleton.mpr rfl
        have pd := Say.deep_part pm
        refine iteT ⟨.ref o, rfl, o, T.C_Cases, dx, _, _, rfl, ho, T.cl_Cases, T.na_Cases_full, casesF_full _ _ _ _, .ref o, rfl, o, T.C_Cases, dx, _, _, rfl, ho, T.cl_Cases, T.na_Cases_leads, casesF_leads _ _ _ _, .ref a, rfl, a, _, 1, .int i, rfl, rfl, hs, atI_nat (j := 1) rfl, d, .ref r, rfl, dget hdd hv, .ref o, rfl, o, dx, _, rfl, ho, casesF_ans _ _ _ _, .ref a, rfl, a, _, 2, z, rfl, rfl, hs, atI_nat (j := 2) rfl, o, dx, d, D, E, z, n, A, N, v, u, t, rfl, ho, env.part pm, dz, ⟨nl, nh, dn, ok.part pm⟩, by omega, wok, fun H4 c e4 hc => ?_⟩
        refine ⟨_, r, c, n, N, rs, fun x => ledS A i x, fun c => holdV A (v c) (u c) t, rfl, rfl, n2, e4 _ _ hr1, hr2, fun x c hx => e4 _ _ (hr3 x c hx), fun x y _ hy => ledS_in wok hy, hc, fun H5 p5 e5 hp5 => q H5 p5 (e4.trans e5) ?_⟩
        exact hp5.trans (congrArg (fun l => some (HO.lst (List.map V.int l))) (ansN_congr fun x _ => rfl))
      | so i t =>
        obtain ⟨a, z, rfl, hs, dz⟩ := say_so hd
        refine ⟨.ref a, rfl, a, _, 0, .str "some", rfl, rfl, hs, atI_nat (j := 0) rfl, ?_⟩
        refine ⟨.str "some", rfl, rfl, _, rfl, ?_⟩
        rw [dec_vstr, decide_eq_false (by decide)]
        refine iteF ⟨.str "some", rfl, rfl, _, rfl, ?_⟩
        rw [dec_vstr, decide_eq_false (by decide)]
        refine iteF ⟨.ref a, rfl, a, _, rfl, .inr hs, rfl, _, rfl, ?_⟩
        rw [dec_vint', decide_eq_false (by show ¬ (3 : Int) = 1; decide)]
        refine iteF ⟨.str "some", rfl, rfl, _, rfl, ?_⟩
        rw [dec_vstr, decide_eq_false (by decide)]
        refine iteF ⟨.str "some", rfl, rfl, _, rfl, ?_⟩
        rw [dec_vstr, decide_eq_true (by decide)]
        have wi : -3 ≤ i ∧ i ≤ 2 := ok.own
        obtain ⟨r, rs, hv, hr1, hr2, hr3⟩ := hall i ⟨wi.1, by omega⟩
        have pm : t ∈ (Say.so i t).parts := List.mem_singleton.mpr rfl
        have pd := Say.deep_part pm
        refine iteT ⟨.ref o, rfl, o, T.C_Cases, dx, _, _, rfl, ho, T.cl_Cases, T.na_Cases_leads, casesF_leads _ _ _ _, .ref a, rfl, a, _, 1, .int i, rfl, rfl, hs, atI_nat (j := 1) rfl, d, .ref r, rfl, dget hdd hv, .ref o, rfl, o, dx, _, rfl, ho, casesF_ans _ _ _ _, .ref a, rfl, a, _, 2, z, rfl, rfl, hs, atI_nat (j := 2) rfl, o, dx, d, D, E, z, n, A, N, v, u, t, rfl, ho, env.part pm, dz, ⟨nl, nh, dn, ok.part pm⟩, by omega, wok, fun H4 c e4 hc => ?_⟩
        refine ⟨r, c, n, N, rs, fun x => ledS A i x, fun c => holdV A (v c) (u c) t, rfl, n2, e4 _ _ hr1, hr2, fun x c hx => e4 _ _ (hr3 x c hx), fun x y _ hy => ledS_in wok hy, hc, fun H5 p5 e5 hp5 => q H5 p5 (e4.trans e5) ?_⟩
        exact hp5.trans (congrArg (fun l => some (HO.lst (List.map V.int l))) (ansN_congr fun x _ => rfl))
      | nt t =>
        obtain ⟨a, z, rfl, hs, dz⟩ := say_nt hd
        refine ⟨.ref a, rfl, a, _, 0, .str "not", rfl, rfl, hs, atI_nat (j := 0) rfl, ?_⟩
        refine ⟨.str "not", rfl, rfl, _, rfl, ?_⟩
        rw [dec_vstr, decide_eq_false (by decide)]
        refine iteF ⟨.str "not", rfl, rfl, _, rfl, ?_⟩
        rw [dec_vstr, decide_eq_false (by decide)]
        refine iteF ⟨.ref a, rfl, a, _, rfl, .inr hs, rfl, _, rfl, ?_⟩
        rw [dec_vint', decide_eq_false (by show ¬ (2 : Int) = 1; decide)]
        refine iteF ⟨.str "not", rfl, rfl, _, rfl, ?_⟩
        rw [dec_vstr, decide_eq_false (by decide)]
        refine iteF ⟨.str "not", rfl, rfl, _, rfl, ?_⟩
        rw [dec_vstr, decide_eq_false (by decide)]
        have pm : t ∈ (Say.nt t).parts := List.mem_singleton.mpr rfl
        have pd := Say.deep_part pm
        refine iteF ⟨.ref o, rfl, o, dx, _, rfl, ho, casesF_ans _ _ _ _, .ref a, rfl, a, _, 1, z, rfl, rfl, hs, atI_nat (j := 1) rfl, o, dx, d, D, E, z, n, A, N, v, u, t, rfl, ho, env.part pm, dz, ⟨nl, nh, dn, ok.part pm⟩, by omega, wok, fun H4 c e4 hc => ?_⟩
        refine ⟨.str "not", rfl, rfl, _, rfl, ?_⟩
        rw [dec_vstr, decide_eq_true (by decide)]
        have ho3 := e4 _ _ ho
        refine iteT ⟨.ref c, rfl, c, rfl, ⟨_, SqL.of hc⟩, fun E2 nE => ?_⟩
        refine lc_list (K := K) (a := c) (xs := (ansN n (ansB N fun k => holdV A (v k) (u k) t)).map V.int) (fun j H' => Same H4 H' ∧ H' E2 = some (.lst (((ansN n (ansB N fun c => holdV A (v c) (u c) (.nt t))).take j).map V.int))) ⟨same_new nE, upd_same⟩ (fun i H' _ h => SqL.of (h.1 _ _ hc)) (fun j x H5 hx h => ?_) (fun H5 h => ?_)
        · obtain ⟨e5, hE⟩ := h
          have hj : j < n := by
            have := (List.getElem?_eq_some_iff.mp hx).1
            rw [List.length_map, ansN_len] at this
            exact this
          rw [ansN_at _ hj] at hx
          obtain rfl := Option.some.inj hx
          refine ⟨rfl, .ref o, rfl, o, T.C_Cases, dx, _, _, rfl, e5 _ _ ho3, T.cl_Cases, T.na_Cases_full, casesF_full _ _ _ _, _, rfl, _, _, rfl, rfl, ?_⟩
          refine ⟨_, hE, ansN_few n j _ n2, same_upd_new e5 nE, ansN_step hj ?_⟩
          exact bits_xor N _
        · obtain ⟨e5, hE⟩ := h
          refine q H5 E2 (e4.trans e5) ?_
          rw [List.length_map, ansN_len, List.take_of_length_le (by rw [ansN_len]; exact Nat.le_refl _)] at hE
          exact hE
      | an t1 t2 =>
        obtain ⟨a, z1, z2, rfl, hs, dz1, dz2⟩ := say_an hd
        refine ⟨.ref a, rfl, a, _, 0, .str "and", rfl, rfl, hs, atI_nat (j := 0) rfl, ?_⟩
        refine ⟨.str "and", rfl, rfl, _, rfl, ?_⟩
        rw [dec_vstr, decide_eq_false (by decide)]
        refine iteF ⟨.str "and", rfl, rfl, _, rfl, ?_⟩
        rw [dec_vstr, decide_eq_false (by decide)]
        refine iteF ⟨.ref a, rfl, a, _, rfl, .inr hs, rfl, _, rfl, ?_⟩
        rw [dec_vint', decide_eq_false (by show ¬ (3 : Int) = 1; decide)]
        refine iteF ⟨.str "and", rfl, rfl, _, rfl, ?_⟩
        rw [dec_vstr, decide_eq_false (by decide)]
        refine iteF ⟨.str "and", rfl, rfl, _, rfl, ?_⟩
        rw [dec_vstr, decide_eq_false (by decide)]
        have pm1 : t1 ∈ (Say.an t1 t2).parts := List.mem_cons_self
        have pm2 : t2 ∈ (Say.an t1 t2).parts := List.mem_cons_of_mem _ (List.mem_singleton.mpr rfl)
        have pd1 := Say.deep_part pm1
        have pd2 := Say.deep_part pm2
        refine iteF ⟨.ref o, rfl, o, dx, _, rfl, ho, casesF_ans _ _ _ _, .ref a, rfl, a, _, 1, z1, rfl, rfl, hs, atI_nat (j := 1) rfl, o, dx, d, D, E, z1, n, A, N, v, u, t1, rfl, ho, env.part pm1, dz1, ⟨nl, nh, dn, ok.part pm1⟩, by omega, wok, fun H4 c0 e4 hc0 => ?_⟩
        refine ⟨.str "and", rfl, rfl, _, rfl, ?_⟩
        rw [dec_vstr, decide_eq_false (by decide)]
        have hs4 := same_tup e4 hs
        have ho4 := e4 _ _ ho
        refine iteF ⟨.ref o, rfl, o, dx, _, rfl, ho4, casesF_ans _ _ _ _, .ref a, rfl, a, _, 2, z2, rfl, rfl, hs4, atI_nat (j := 2) rfl, o, dx, d, D, E, z2, n, A, N, v, u, t2, rfl, ho4, (env.on e4).part pm2, dp_same e4 _ _ dz2, ⟨nl, nh, dn, ok.part pm2⟩, by omega, wok, fun H5 c1 e5 hc1 => ?_⟩
        have hc0b : AnsAt H5 c0 n N (fun c => holdV A (v c) (u c) t1) := e5 _ _ hc0
        have ho5 := e5 _ _ ho4
        refine ⟨.str "and", rfl, rfl, _, rfl, ?_⟩
        rw [dec_vstr, decide_eq_true (by decide)]
        exact iteT (zipd a c0 c1 _ H5 t1 t2 _ (· &&& ·) (e4.trans e5) hc0b hc1 (fun x => bits_and N _ _) (fun b1 b2 H' Q' _ q' => ⟨_, rfl, _, rfl, b1, b2, rfl, rfl, q'⟩))
      | orr t1 t2 =>
        obtain ⟨a, z1, z2, rfl, hs, dz1, dz2⟩ := say_orr hd
        refine ⟨.ref a, rfl, a, _, 0, .str "or", rfl, rfl, hs, atI_nat (j := 0) rfl, ?_⟩
        refine ⟨.str "or", rfl, rfl, _, rfl, ?_⟩
        rw [dec_vstr, decide_eq_false (by decide)]
        refine iteF ⟨.str "or", rfl, rfl, _, rfl, ?_⟩
        rw [dec_vstr, decide_eq_false (by decide)]
        refine iteF ⟨.ref a, rfl, a, _, rfl, .inr hs, rfl, _, rfl, ?_⟩
        rw [dec_vint', decide_eq_false (by show ¬ (3 : Int) = 1; decide)]
        refine iteF ⟨.str "or", rfl, rfl, _, rfl, ?_⟩
        rw [dec_vstr, decide_eq_false (by decide)]
        refine iteF ⟨.str "or", rfl, rfl, _, rfl, ?_⟩
        rw [dec_vstr, decide_eq_false (by decide)]
        have pm1 : t1 ∈ (Say.orr t1 t2).parts := List.mem_cons_self
        have pm2 : t2 ∈ (Say.orr t1 t2).parts := List.mem_cons_of_mem _ (List.mem_singleton.mpr rfl)
        have pd1 := Say.deep_part pm1
        have pd2 := Say.deep_part pm2
        refine iteF ⟨.ref o, rfl, o, dx, _, rfl, ho, casesF_ans _ _ _ _, .ref a, rfl, a, _, 1, z1, rfl, rfl, hs, atI_nat (j := 1) rfl, o, dx, d, D, E, z1, n, A, N, v, u, t1, rfl, ho, env.part pm1, dz1, ⟨nl, nh, dn, ok.part pm1⟩, by omega, wok, fun H4 c0 e4 hc0 => ?_⟩
        refine ⟨.str "or", rfl, rfl, _, rfl, ?_⟩
        rw [dec_vstr, decide_eq_false (by decide)]
        have hs4 := same_tup e4 hs
        have ho4 := e4 _ _ ho
        refine iteF ⟨.ref o, rfl, o, dx, _, rfl, ho4, casesF_ans _ _ _ _, .ref a, rfl, a, _, 2, z2, rfl, rfl, hs4, atI_nat (j := 2) rfl, o, dx, d, D, E, z2, n, A, N, v, u, t2, rfl, ho4, (env.on e4).part pm2, dp_same e4 _ _ dz2, ⟨nl, nh, dn, ok.part pm2⟩, by omega, wok, fun H5 c1 e5 hc1 => ?_⟩
        have hc0b : AnsAt H5 c0 n N (fun c => holdV A (v c) (u c) t1) := e5 _ _ hc0
        have ho5 := e5 _ _ ho4
        refine ⟨.str "or", rfl, rfl, _, rfl, ?_⟩
        rw [dec_vstr, decide_eq_false (by decide)]
        refine iteF ⟨.str "or", rfl, rfl, _, rfl, ?_⟩
        rw [dec_vstr, decide_eq_true (by decide)]
        exact iteT (zipd a c0 c1 _ H5 t1 t2 _ (· ||| ·) (e4.trans e5) hc0b hc1 (fun x => bits_or N _ _) (fun b1 b2 H' Q' _ q' => ⟨_, rfl, _, rfl, b1, b2, rfl, rfl, q'⟩))
      | gv t1 t2 =>
        obtain ⟨a, z1, z2, rfl, hs, dz1, dz2⟩ := say_gv hd
        refine ⟨.ref a, rfl, a, _, 0, .str "gives", rfl, rfl, hs, atI_nat (j := 0) rfl, ?_⟩
        refine ⟨.str "gives", rfl, rfl, _, rfl, ?_⟩
        rw [dec_vstr, decide_eq_false (by decide)]
        refine iteF ⟨.str "gives", rfl, rfl, _, rfl, ?_⟩
        rw [dec_vstr, decide_eq_false (by decide)]
        refine iteF ⟨.ref a, rfl, a, _, rfl, .inr hs, rfl, _, rfl, ?_⟩
        rw [dec_vint', decide_eq_false (by show ¬ (3 : Int) = 1; decide)]
        refine iteF ⟨.str "gives", rfl, rfl, _, rfl, ?_⟩
        rw [dec_vstr, decide_eq_false (by decide)]
        refine iteF ⟨.str "gives", rfl, rfl, _, rfl, ?_⟩
        rw [dec_vstr, decide_eq_false (by decide)]
        have pm1 : t1 ∈ (Say.gv t1 t2).parts := List.mem_cons_self
        have pm2 : t2 ∈ (Say.gv t1 t2).parts := List.mem_cons_of_mem _ (List.mem_singleton.mpr rfl)
        have pd1 := Say.deep_part pm1
        have pd2 := Say.deep_part pm2
        refine iteF ⟨.ref o, rfl, o, dx, _, rfl, ho, casesF_ans _ _ _ _, .ref a, rfl, a, _, 1, z1, rfl, rfl, hs, atI_nat (j := 1) rfl, o, dx, d, D, E, z1, n, A, N, v, u, t1, rfl, ho, env.part pm1, dz1, ⟨nl, nh, dn, ok.part pm1⟩, by omega, wok, fun H4 c0 e4 hc0 => ?_⟩
        refine ⟨.str "gives", rfl, rfl, _, rfl, ?_⟩
        rw [dec_vstr, decide_eq_false (by decide)]
        have hs4 := same_tup e4 hs
        have ho4 := e4 _ _ ho
        refine iteF ⟨.ref o, rfl, o, dx, _, rfl, ho4, casesF_ans _ _ _ _, .ref a, rfl, a, _, 2, z2, rfl, rfl, hs4, atI_nat (j := 2) rfl, o, dx, d, D, E, z2, n, A, N, v, u, t2, rfl, ho4, (env.on e4).part pm2, dp_same e4 _ _ dz2, ⟨nl, nh, dn, ok.part pm2⟩, by omega, wok, fun H5 c1 e5 hc1 => ?_⟩
        have hc0b : AnsAt H5 c0 n N (fun c => holdV A (v c) (u c) t1) := e5 _ _ hc0
        have ho5 := e5 _ _ ho4
        refine ⟨.str "gives", rfl, rfl, _, rfl, ?_⟩
        rw [dec_vstr, decide_eq_false (by decide)]
        refine iteF ⟨.str "gives", rfl, rfl, _, rfl, ?_⟩
        rw [dec_vstr, decide_eq_false (by decide)]
        refine iteF (zipd a c0 c1 _ H5 t1 t2 _ (fun x y => ((bitsN N fun _ => true) ^^^ x) ||| y) (e4.trans e5) hc0b hc1 (fun x => ?_) (fun b1 b2 H' Q' e' q' => ⟨.ref o, rfl, o, T.C_Cases, dx, _, _, rfl, e' _ _ ho5, T.cl_Cases, T.na_Cases_full, casesF_full _ _ _ _, _, rfl, _, b1, rfl, rfl, _, rfl, _, b2, rfl, rfl, q'⟩))
        show ((bitsN N fun _ => true) ^^^ (bitsN N fun c => holdV A (v c) (u c) t1 x)) ||| (bitsN N fun c => holdV A (v c) (u c) t2 x) = _
        rw [bits_xor, bits_or]
        rfl
end
end K0

namespace K0
open PySem PySem.Spec PyProof.Rows L2 W0 W1 W2 W5 W6 V0 V1 V6
/-- a trial's fields so far: its size, its letters' tuple, the bits of all cases -/
structure TrialAt (H : Hp) (C p : Addr) (n b : Nat) (ms : List Int) : Prop where
  ex : ∃ (dx q : Addr) (fs : List (Str × V)) (ob : Obj), H p = some (.ins C dx fs) ∧ fs.lookup ("size" : Str) = some (V.int n) ∧ fs.lookup ("letters" : Str) = some (V.ref q) ∧ fs.lookup ("full" : Str) = some (V.int ((2 ^ (2 ^ b) - 1 : Nat) : Int)) ∧
    fs.lookup ("_bit" : Str) = none ∧ fs.lookup ("_marked" : Str) = none ∧ H q = some (.frz ob (.tup (ms.map V.int))) ∧ ob.dict = none ∧ ob.cls = .type "tuple"
theorem TrialAt.on {H H' : Hp} {C p : Addr} {n b : Nat} {ms : List Int} (t : TrialAt H C p n b ms) (e : Same H H') : TrialAt H' C p n b ms := by
  obtain ⟨dx, q, fs, ob, h1, h2, h3, h4, h5, h6, h7, h8, h9⟩ := t.ex
  exact ⟨dx, q, fs, ob, e _ _ h1, h2, h3, h4, h5, h6, e _ _ h7, h8, h9⟩
theorem flat_ints' (l : List Int) : (l.map V.int).all flatV = true := by
  rw [List.all_map]
  exact List.all_eq_true.mpr fun _ _ => rfl
section
variable {P : Program} {w : World} {K : PySem.W.Frag} {mg : Str → Option Value} {base : Heap}
def sp_Trial_bit (C : Addr) : Sp := fun vs H Q _ => ∃ (p : Addr) (n b i x : Nat) (k : Int) (ms : List Int), vs = [.ref p, .int k, .int x] ∧ TrialAt H C p n b ms ∧ ms[i]? = some k ∧ (∀ m, m < i → ms[m]? ≠ some k) ∧ n ≤ 200 ∧ i ≤ 200 ∧ Q (.int ((i * n + x : Nat) : Int)) H
theorem ok_Trial__bit (T : Tops K w mg) : FnOk P w K mg base CX0 1 T.a_Trial__bit T.fd_Trial__bit p_Trial__bit (sp_Trial_bit T.C_Trial) := by
  have S := sc_Trial__bit
  refine T.F_Trial__bit.ok S (fun vs H Q E h => ?_) (fun cdv AA outer s0 H vs Q E hr h => ?_)
  · obtain ⟨p, n, b, i, x, k, ms, rfl, _⟩ := h
    rfl
  · obtain ⟨p, n, b, i, x, k, ms, rfl, t, hi, hno, n2, i2, q⟩ := h
    refine ⟨_, (pss_one (ps_ret (pe_op op_add (pe_op op_mul (V7.pe_idx (K := K) (V6.pe_fldK (K := K) (pv 0) rfl) (pa_cons (pv 1) pa_nil)) (V6.pe_fldK (K := K) (pv 0) rfl)) (pv 2)))), ?_⟩
    obtain ⟨dx, qq, fs, ob, h1, h2, h3, h4, h5, h6, h7, h8, h9⟩ := t.ex
    refine ⟨.ref p, rfl, p, T.C_Trial, dx, fs, _, rfl, h1, T.cl_Trial, T.na_Trial_letters, h3, ⟨qq, ob, _, rfl, h7, h8, h9⟩, .int k, rfl, qq, ms.map V.int, .int k, i, .int k, rfl, rfl, .inl (.inr ⟨_, h7⟩), rfl, flat_ints' _, ?_, ?_, ?_, ?_⟩
    · rw [List.getElem?_map, hi]
      rfl
    · show (k == k) = true
      exact beq_self_eq_true k
    · intro m z hm hz
      rw [List.getElem?_map] at hz
      obtain ⟨k', hk', rfl⟩ := Option.map_eq_some_iff.mp hz
      show (k' == k) = false
      exact beq_eq_false_iff_ne.mpr fun e => hno m hm (by rw [hk', e])
    · refine ⟨.ref p, rfl, p, T.C_Trial, dx, fs, _, rfl, h1, T.cl_Trial, T.na_Trial_size, h2, i, n, rfl, rfl, ?_⟩
      refine ⟨?_, .int x, rfl, _, x, rfl, rfl, ?_⟩
      · unfold CMul
        have a1 : (i : Int) * n ≤ 200 * n := Int.mul_le_mul_of_nonneg_right (by omega) (by omega)
        have a0 : 0 ≤ (i : Int) * n := Int.mul_nonneg (by omega) (by omega)
        omega
      · show Q (V.int ((i : Int) * n + x)) H
        rw [show (i : Int) * n + x = ((i * n + x : Nat) : Int) by rw [Int.natCast_add, Int.natCast_mul]]
        exact q
def sp_Trial_marked (C : Addr) : Sp := fun vs H Q _ => ∃ (p : Addr) (n b i x : Nat) (k : Int) (ms : List Int), vs = [.ref p, .int k, .int x] ∧ TrialAt H C p n b ms ∧ ms[i]? = some k ∧ (∀ m, m < i → ms[m]? ≠ some k) ∧ n ≤ 200 ∧ i ≤ 200 ∧ i * n + x < b ∧ b ≤ 12 ∧ Q (.int ((bitsN (2 ^ b) fun c => c.testBit (i * n + x) : Nat) : Int)) H
theorem ok_Trial__marked (T : Tops K w mg) : FnOk P w K mg base CX0 2 T.a_Trial__marked T.fd_Trial__marked p_Trial__marked (sp_Trial_marked T.C_Trial) := by
  have S := sc_Trial__marked
  refine T.F_Trial__marked.ok S (fun vs H Q E h => ?_) (fun cdv AA outer s0 H vs Q E hr h => ?_)
  · obtain ⟨p, n, b, i, x, k, ms, rfl, _⟩ := h
    rfl
  · obtain ⟨p, n, b, i, x, k, ms, rfl, t, hi, hno, n2, i2, jb, b12, q⟩ := h
    refine ⟨_, (pss_cons (ps_set (i := 3) S.nd rfl (Or.inl rfl) (pe_op op_oneShl pe_int (pe_meth (pv 0) T.cl_Trial T.me_Trial__bit (ok_Trial__bit T) (hr.mono (by first | decide | omega)) T.b_Trial__bit .nil pass0 (pa_cons (pv 1) (pa_cons (pv 2) pa_nil)))))
      (pss_one (ps_ret (pe_op V6.op_xorB (V6.pe_fldK (K := K) (pv 0) rfl) (pe_op op_fdivW (V6.pe_fldK (K := K) (pv 0) rfl) (pe_op op_add (pe_op op_oneShl pe_int (pv 3)) pe_int)))))), ?_⟩
    obtain ⟨dx, qq, fs, ob, h1, h2, h3, h4, h5, h6, h7, h8, h9⟩ := id t.ex
    generalize hj : i * n + x = j at jb q
    have j12 : j < 12 := by omega
    refine ⟨.ref p, rfl, p, dx, fs, rfl, h1, h5, .int k, rfl, .int x, rfl, p, n, b, i, x, k, ms, rfl, t, hi, hno, n2, i2, ?_⟩
    rw [hj]
    refine ⟨j, rfl, rfl, by omega, ?_⟩
    have ej : ((2 : Int) ^ j) = ((2 ^ j : Nat) : Int) := (Int.natCast_pow 2 j).symm
    have p12 : 2 ^ j ≤ 2 ^ 12 := Nat.pow_le_pow_right (by decide) (by omega)
    refine ⟨.ref p, rfl, p, T.C_Trial, dx, fs, _, rfl, h1, T.cl_Trial, T.na_Trial_full, h4, .ref p, rfl, p, T.C_Trial, dx, fs, _, rfl, h1, T.cl_Trial, T.na_Trial_full, h4, ?_⟩
    refine ⟨.int (2 ^ j), rfl, 2 ^ j, rfl, congrArg V.int ej, Nat.le_trans p12 (by decide), ?_⟩
    refine ⟨2 ^ 2 ^ j, 1, rfl, rfl, ?_⟩
    have e1 : ((2 : Int) ^ (2 ^ j)) + 1 = ((2 ^ (2 ^ j) + 1 : Nat) : Int) := by
      rw [Int.natCast_add, Int.natCast_pow]
      rfl
    refine ⟨((2 ^ (2 ^ b) - 1 : Nat) : Int), 2 ^ 2 ^ j + 1, rfl, rfl, ?_, ?_⟩
    · refine ⟨by rw [e1]; exact Int.natCast_pos.mpr (Nat.succ_pos _), ?_⟩
      rw [e1]
      show ((2 ^ (2 ^ j) + 1 : Nat)).log2 < 9000
      have m1 : 2 ^ (2 ^ j) + 1 ≤ 2 ^ (2 ^ j + 1) := by
        have := Nat.one_le_two_pow (n := 2 ^ j)
        rw [Nat.pow_succ]
        omega
      have m2 : 2 ^ (2 ^ j + 1) < 2 ^ 9000 := Nat.pow_lt_pow_right (by decide) (Nat.lt_of_le_of_lt (Nat.succ_le_succ p12) (by decide))
      exact (Nat.log2_lt (Nat.succ_ne_zero _)).mpr (Nat.lt_of_le_of_lt m1 m2)
    · refine ⟨2 ^ (2 ^ b) - 1, (2 ^ (2 ^ b) - 1) / (2 ^ (2 ^ j) + 1), rfl, ?_, ?_⟩
      · rw [e1]
        rfl
      · have := V10.mask_of jb
        show Q (V.int (((2 ^ (2 ^ b) - 1) ^^^ ((2 ^ (2 ^ b) - 1) / (2 ^ (2 ^ j) + 1)) : Nat) : Int)) H
        rw [this]
        exact q
end
end K0

/-! L1: a def's run by values alone: data, lists of one's own, the state. -/
namespace K0
open PySem PySem.Spec PyProof.Rows L2 W0 W1 W2 W5 W6 V0 V1 V6
mutual
/-- data whose lists stand at shared places, which nobody changes any more -/
inductive Fv (K : PySem.W.Frag) (F : Addr → Prop) (H : Hp) : V → PyData → Prop
  | non : Fv K F H .non .none
  | bl (b : Bool) : Fv K F H (.bl b) (.bool b)
  | int (i : Int) : Fv K F H (.int i) (.int i)
  | str (x : Str) : Fv K F H (.str x) (.str x)
  | lst {a : Addr} {xs : List V} {ds : List PyData} : F a → H a = some (.lst xs) → FvAll K F H xs ds → Fv K F H (.ref a) (.list ds)
  | tup {a : Addr} {xs : List V} {ds : List PyData} : SqT K H a xs → FvAll K F H xs ds → Fv K F H (.ref a) (.tuple ds)
inductive FvAll (K : PySem.W.Frag) (F : Addr → Prop) (H : Hp) : List V → List PyData → Prop
  | nil : FvAll K F H [] []
  | cons {v : V} {d : PyData} {vs : List V} {ds : List PyData} : Fv K F H v d → FvAll K F H vs ds → FvAll K F H (v :: vs) (d :: ds)
end
section
variable {K : PySem.W.Frag} {F F' : Addr → Prop} {H H' : Hp}
mutual
theorem fv_move (hT : ∀ a xs, SqT K H a xs → SqT K H' a xs) (hL : ∀ a xs, F a → H a = some (.lst xs) → H' a = some (.lst xs)) (hF : ∀ a, F a → F' a) : ∀ (d : PyData) (v : V), Fv K F H v d → Fv K F' H' v d
  | .none, _, h => by cases h; exact .non
  | .bool b, _, h => by cases h; exact .bl b
  | .int i, _, h => by cases h; exact .int i
  | .str x, _, h => by cases h; exact .str x
  | .list ds, _, h => by
    cases h with
    | lst f hs ha => exact .lst (hF _ f) (hL _ _ f hs) (fvs_move hT hL hF ds _ ha)
  | .tuple ds, _, h => by
    cases h with
    | tup hs ha => exact .tup (hT _ _ hs) (fvs_move hT hL hF ds _ ha)
  | .dict _, _, h => by cases h
theorem fvs_move (hT : ∀ a xs, SqT K H a xs → SqT K H' a xs) (hL : ∀ a xs, F a → H a = some (.lst xs) → H' a = some (.lst xs)) (hF : ∀ a, F a → F' a) : ∀ (ds : List PyData) (vs : List V), FvAll K F H vs ds → FvAll K F' H' vs ds
  | [], _, h => by cases h; exact .nil
  | d :: ds, _, h => by
    cases h with
    | cons h1 h2 => exact .cons (fv_move hT hL hF d _ h1) (fvs_move hT hL hF ds _ h2)
end
mutual
theorem fv_dp : ∀ (d : PyData) (v : V), Fv K F H v d → Dp K H v d
  | .none, _, h => by cases h; exact .non
  | .bool b, _, h => by cases h; exact .bl b
  | .int i, _, h => by cases h; exact .int i
  | .str x, _, h => by cases h; exact .str x
  | .list ds, _, h => by
    cases h with
    | lst f hs ha => exact .lst (SqL.of hs) (fvs_dp ds _ ha)
  | .tuple ds, _, h => by
    cases h with
    | tup hs ha => exact .tup hs (fvs_dp ds _ ha)
  | .dict _, _, h => by cases h
theorem fvs_dp : ∀ (ds : List PyData) (vs : List V), FvAll K F H vs ds → DpAll K H vs ds
  | [], _, h => by cases h; exact .nil
  | d :: ds, _, h => by
    cases h with
    | cons h1 h2 => exact .cons (fv_dp d _ h1) (fvs_dp ds _ h2)
end
mutual
/-- data without lists -/
theorem dp_fv : ∀ (d : PyData) (v : V), noL d = true → Dp K H v d → Fv K F H v d
  | .none, _, _, h => by cases h; exact .non
  | .bool b, _, _, h => by cases h; exact .bl b
  | .int i, _, _, h => by cases h; exact .int i
  | .str x, _, _, h => by cases h; exact .str x
  | .list ds, _, n, h => by cases n
  | .tuple ds, _, n, h => by
    cases h with
    | tup hs ha => exact .tup hs (dps_fv ds _ n ha)
  | .dict _, _, _, h => by cases h
theorem dps_fv : ∀ (ds : List PyData) (vs : List V), noLs ds = true → DpAll K H vs ds → FvAll K F H vs ds
  | [], _, _, h => by cases h; exact .nil
  | d :: ds, _, n, h => by
    have n' : (noL d && noLs ds) = true := n
    rw [Bool.and_eq_true] at n'
    cases h with
    | cons h1 h2 => exact .cons (dp_fv d _ n'.1 h1) (dps_fv ds _ n'.2 h2)
end
theorem fvs_len : ∀ {vs : List V} {ds : List PyData}, FvAll K F H vs ds → vs.length = ds.length
  | _, _, .nil => rfl
  | _, _, .cons _ h => by rw [List.length_cons, List.length_cons, fvs_len h]
theorem fvs_app : ∀ {vs : List V} {ds : List PyData} {us : List V} {es : List PyData}, FvAll K F H vs ds → FvAll K F H us es → FvAll K F H (vs ++ us) (ds ++ es)
  | _, _, _, _, .nil, h => h
  | _, _, _, _, .cons a b, h => .cons a (fvs_app b h)
theorem fvs_get : ∀ {vs : List V} {ds : List PyData} {i : Nat} {d : PyData}, FvAll K F H vs ds → ds[i]? = some d → ∃ v, vs[i]? = some v ∧ Fv K F H v d
  | _, _, 0, _, .cons h _, e => by cases e; exact ⟨_, rfl, h⟩
  | _, _, i + 1, _, .cons _ h, e => fvs_get (i := i) h e
theorem fvs_get' : ∀ {vs : List V} {ds : List PyData} {i : Nat} {v : V}, FvAll K F H vs ds → vs[i]? = some v → ∃ d, ds[i]? = some d ∧ Fv K F H v d
  | _, _, 0, _, .cons h _, e => by cases e; exact ⟨_, rfl, h⟩
  | _, _, i + 1, _, .cons _ h, e => fvs_get' (i := i) h e
theorem fvs_mem {vs : List V} {ds : List PyData} (h : FvAll K F H vs ds) {v : V} (m : v ∈ vs) : ∃ d ∈ ds, Fv K F H v d := by
  obtain ⟨i, hi⟩ := List.getElem?_of_mem m
  obtain ⟨d, hd, f⟩ := fvs_get' h hi
  exact ⟨d, List.mem_of_getElem? hd, f⟩
end
/-- what a name holds: data, a list of the frame's own, a list just made, the state -/
inductive Val where
  | dat (d : PyData)
  | own (ds : List PyData)
  | new (ds : List PyData)
  | st
/-- a source that is walked through -/
structure Src where
  isT : Bool
  a : Addr
  xs : List V
  ds : List PyData
/-- a run: the state's places, what was shared and what stood at its begin, what is walked through -/
structure Run where
  K : PySem.W.Frag
  st : Option (Addr × Addr × Addr)
  F0 : Addr → Prop
  H0 : Hp
  held : List Src
def Run.X (C : Run) (a : Addr) : Prop := ∃ t, C.st = some t ∧ (a = t.1 ∨ a = t.2.2)
def Hold (K : PySem.W.Frag) (F : Addr → Prop) (H : Hp) (f : Src) : Prop := (if f.isT = true then SqT K H f.a f.xs else F f.a ∧ H f.a = some (.lst f.xs)) ∧ FvAll K F H f.xs f.ds
structure Inv3 (C : Run) (H : Hp) (F : Addr → Prop) (n : Nat) : Prop where
  f0 : ∀ a, C.F0 a → F a
  fn : ∀ a, F a → C.F0 a ∨ C.H0 a = none
  same : ∀ b o, C.H0 b = some o → ¬C.X b → H b = some o
  nx : ∀ a, F a → ¬C.X a
  st : ∀ s c l, C.st = some (s, c, l) → StAt C.K H s c l n
  held : ∀ f ∈ C.held, Hold C.K F H f
  cst : ∀ s c l, C.st = some (s, c, l) → C.H0 c ≠ none
  fh : ∀ a, F a → H a ≠ none
structure Ext3 (C : Run) (F : Addr → Prop) (H : Hp) (F' : Addr → Prop) (H' : Hp) : Prop where
  f : ∀ a, F a → F' a
  g : ∀ a, ¬C.X a → F' a → F a ∨ H a = none
  h : ∀ b o, H b = some o → ¬C.X b → H' b = some o
theorem Ext3.refl (C : Run) (F : Addr → Prop) (H : Hp) : Ext3 C F H F H := ⟨fun _ h => h, fun _ _ h => .inl h, fun _ _ h _ => h⟩
theorem Ext3.trans {C : Run} {F F1 F2 : Addr → Prop} {H H1 H2 : Hp} (a : Ext3 C F H F1 H1) (b : Ext3 C F1 H1 F2 H2) : Ext3 C F H F2 H2 := by
  refine ⟨fun x h => b.f x (a.f x h), fun x nx h => ?_, fun x o h nx => b.h x o (a.h x o h nx) nx⟩
  rcases b.g x nx h with h | h
  · exact a.g x nx h
  · right
    cases e : H x with
    | none => rfl
    | some o =>
      have := a.h x o e nx
      rw [h] at this
      cases this
theorem Ext3.back {C : Run} {F F1 : Addr → Prop} {H H1 : Hp} (a : Ext3 C F H F1 H1) {x : Addr} (nx : ¬C.X x) (h : H1 x = none) : H x = none := by
  cases e : H x with
  | none => rfl
  | some o =>
    have := a.h x o e nx
    rw [h] at this
    cases this
theorem Ext3.of {C : Run} {F : Addr → Prop} {H H' : Hp} (e : Same H H') : Ext3 C F H F H' := ⟨fun _ h => h, fun _ _ h => .inl h, fun b o h _ => e b o h⟩
theorem Inv3.tup {C : Run} {H H' : Hp} {F F' : Addr → Prop} {n : Nat} (I : Inv3 C H F n) (e : Ext3 C F H F' H') : ∀ a xs, SqT C.K H a xs → SqT C.K H' a xs := fun a xs q => by
  cases hst : C.st with
  | none => exact same_tup (fun b o h => e.h b o h (fun ⟨t, ht, _⟩ => by rw [hst] at ht; cases ht)) q
  | some t =>
    obtain ⟨s, c, l⟩ := t
    exact sqT_x (I.st s c l hst) (fun b o h n1 n2 => e.h b o h (fun ⟨t, ht, hx⟩ => by
      rw [hst] at ht
      cases ht
      exact hx.elim n1 n2)) q
theorem Inv3.lst {C : Run} {H H' : Hp} {F F' : Addr → Prop} {n : Nat} (I : Inv3 C H F n) (e : Ext3 C F H F' H') : ∀ a xs, F a → H a = some (.lst xs) → H' a = some (.lst xs) := fun a _ f h => e.h a _ h (I.nx a f)
theorem Inv3.fv {C : Run} {H H' : Hp} {F F' : Addr → Prop} {n : Nat} (I : Inv3 C H F n) (e : Ext3 C F H F' H') {v : V} {d : PyData} (h : Fv C.K F H v d) : Fv C.K F' H' v d := fv_move (I.tup e) (I.lst e) e.f d v h
theorem Inv3.fvs {C : Run} {H H' : Hp} {F F' : Addr → Prop} {n : Nat} (I : Inv3 C H F n) (e : Ext3 C F H F' H') {v : List V} {d : List PyData} (h : FvAll C.K F H v d) : FvAll C.K F' H' v d := fvs_move (I.tup e) (I.lst e) e.f d v h
theorem Inv3.hold {C : Run} {H H' : Hp} {F F' : Addr → Prop} {n : Nat} (I : Inv3 C H F n) (e : Ext3 C F H F' H') {f : Src} (h : Hold C.K F H f) : Hold C.K F' H' f := by
  refine ⟨?_, I.fvs e h.2⟩
  have h1 := h.1
  by_cases c : f.isT = true
  · rw [if_pos c] at h1 ⊢
    exact I.tup e _ _ h1
  · rw [if_neg c] at h1 ⊢
    exact ⟨e.f _ h1.1, I.lst e _ _ h1.1 h1.2⟩
/-- nothing of the state turned -/
theorem Inv3.on {C : Run} {H H' : Hp} {F F' : Addr → Prop} {n : Nat} (I : Inv3 C H F n) (e : Ext3 C F H F' H') (nx : ∀ a, F' a → ¬C.X a) (st : ∀ s c l, C.st = some (s, c, l) → StAt C.K H' s c l n) (fh : ∀ a, F' a → H' a ≠ none) : Inv3 C H' F' n where
  f0 := fun a h => e.f a (I.f0 a h)
  fn := fun a h => by
    rcases e.g a (nx a h) h with h1 | h1
    · exact I.fn a h1
    · right
      cases e0 : C.H0 a with
      | none => rfl
      | some o =>
        have := I.same a o e0 (nx a h)
        rw [h1] at this
        cases this
  same := fun b o h x => e.h b o (I.same b o h x) x
  nx := nx
  st := st
  held := fun f m => I.hold e (I.held f m)
  cst := I.cst
  fh := fh
theorem Inv3.sames {C : Run} {H H' : Hp} {F : Addr → Prop} {n : Nat} (I : Inv3 C H F n) (e : Same H H') : Inv3 C H' F n := I.on (Ext3.of e) I.nx (fun s c l h => (I.st s c l h).same e) fun a h z => by
  cases e0 : H a with
  | none => exact I.fh a h e0
  | some o => rw [e _ _ e0] at z; cases z
/-- a new place is no volatile one -/
theorem StAt.newp {K : PySem.W.Frag} {H : Hp} {st c l : Addr} {B : Nat} (h : StAt K H st c l B) {p : Addr} (n : H p = none) : p ≠ st ∧ p ≠ l := by
  obtain ⟨⟨kvs, h1⟩, ⟨ls, h2⟩⟩ := h.two
  refine ⟨fun z => ?_, fun z => ?_⟩
  · rw [z, h1] at n
    cases n
  · rw [z, h2] at n
    cases n
theorem Inv3.new {C : Run} {H : Hp} {F : Addr → Prop} {n : Nat} (I : Inv3 C H F n) {p : Addr} (h : H p = none) : ¬C.X p := fun ⟨t, ht, hx⟩ => by
  obtain ⟨s, c, l⟩ := t
  obtain ⟨n1, n2⟩ := (I.st s c l ht).newp h
  exact hx.elim n1 n2
theorem Inv3.h0 {C : Run} {H : Hp} {F : Addr → Prop} {n : Nat} (I : Inv3 C H F n) {p : Addr} (h : H p = none) : C.H0 p = none := by
  cases e0 : C.H0 p with
  | none => rfl
  | some o =>
    have := I.same p o e0 (I.new h)
    rw [h] at this
    cases this
/-- a list of one's own is shared from now on -/
theorem Inv3.share {C : Run} {H : Hp} {F : Addr → Prop} {n : Nat} (I : Inv3 C H F n) {p : Addr} {o : HO} (hp : H p = some o) (nx : ¬C.X p) (h0 : C.H0 p = none) : Inv3 C H (fun a => F a ∨ a = p) n where
  f0 := fun a h => .inl (I.f0 a h)
  fn := fun a h => h.elim (I.fn a) fun e => .inr (e ▸ h0)
  same := I.same
  nx := fun a h => h.elim (I.nx a) fun e => e ▸ nx
  st := I.st
  held := fun f m => by
    obtain ⟨h1, h2⟩ := I.held f m
    refine ⟨?_, fvs_move (fun _ _ q => q) (fun _ _ _ q => q) (fun _ q => .inl q) _ _ h2⟩
    by_cases c : f.isT = true
    · rw [if_pos c] at h1 ⊢
      exact h1
    · rw [if_neg c] at h1 ⊢
      exact ⟨.inl h1.1, h1.2⟩
  cst := I.cst
  fh := fun a h => h.elim (I.fh a) fun e z => by rw [e, hp] at z; cases z
/-- a list at p, no shared one, is changed -/
theorem Inv3.put {C : Run} {H : Hp} {F : Addr → Prop} {n : Nat} (I : Inv3 C H F n) {p : Addr} {xs ys : List V} (hp : H p = some (.lst xs)) (nf : ¬F p) (nx : ¬C.X p) (h0 : C.H0 p = none) : Inv3 C (upd H p (.lst ys)) F n where
  f0 := I.f0
  fn := I.fn
  same := fun b o h x => by
    have : b ≠ p := fun e => by rw [e, h0] at h; cases h
    rw [upd_ne this]
    exact I.same b o h x
  nx := I.nx
  st := fun s c l h => by
    have t := I.st s c l h
    obtain ⟨kvs, cells, lefts, a, h1, h2, h3, h4, h5, h6, h7, h8, h9, h10⟩ := t.ex
    have p1 : s ≠ p := fun e => nx ⟨_, h, .inl e.symm⟩
    have p2 : l ≠ p := fun e => nx ⟨_, h, .inr e.symm⟩
    have p3 : c ≠ p := fun e => I.cst s c l h (e ▸ h0)
    exact ⟨⟨kvs, cells, lefts, a, (upd_ne p1).trans h1, h2, h3, h4, h5, (upd_ne p3).trans h6, (upd_ne p2).trans h7, h8, h9, h10⟩, t.apart⟩
  held := fun f m => by
    obtain ⟨h1, h2⟩ := I.held f m
    have nL : ∀ a xs, F a → H a = some (.lst xs) → upd H p (.lst ys) a = some (.lst xs) := fun a xs fa q => by
      have : a ≠ p := fun e => nf (by rw [← e]; exact fa)
      rw [upd_ne this]
      exact q
    refine ⟨?_, fvs_move (fun _ _ q => sqT_upd hp q) nL (fun _ q => q) _ _ h2⟩
    by_cases c : f.isT = true
    · rw [if_pos c] at h1 ⊢
      exact sqT_upd hp h1
    · rw [if_neg c] at h1 ⊢
      exact ⟨h1.1, nL _ _ h1.1 h1.2⟩
  cst := I.cst
  fh := fun a h z => by
    by_cases e : a = p
    · rw [e, upd_same] at z
      cases z
    · rw [upd_ne e] at z
      exact I.fh a h z
end K0

/-! LA: mirrors of expressions, and that they tell what is asked. -/
namespace K0
open PySem PySem.Spec PyProof.Rows L2 W0 W1 W2 W5 W6 V0 V1 V6
abbrev Env3 := List (Option Val)
abbrev EW := Nat → Env3 → (Nat → Val → Prop) → Prop
abbrev TW := Nat → Env3 → (Nat → Bool → Prop) → Prop
abbrev AW := Nat → Env3 → (Nat → List Val → Prop) → Prop
abbrev OW := Nat → Env3 → (Nat → Option Int → Prop) → Prop
def OwnAt (C : Run) (F : Addr → Prop) (H : Hp) (v : V) (ds : List PyData) : Prop := ∃ p xs, v = .ref p ∧ H p = some (.lst xs) ∧ FvAll C.K F H xs ds ∧ ¬F p ∧ ¬C.X p ∧ C.H0 p = none
def RelV (C : Run) (F : Addr → Prop) (H : Hp) (v : V) : Val → Prop
  | .dat d => Fv C.K F H v d
  | .own ds => OwnAt C F H v ds
  | .new ds => OwnAt C F H v ds
  | .st => ∃ t, C.st = some t ∧ v = .ref t.1
def RelR (C : Run) (F : Addr → Prop) (H Hs : Hp) (v : V) (w : Val) : Prop := RelV C F H v w ∧ ∀ ds, w = .new ds → ∀ p, v = .ref p → Hs p = none
inductive RelVs (C : Run) (F : Addr → Prop) (H : Hp) : List V → List Val → Prop
  | nil : RelVs C F H [] []
  | cons {v : V} {w : Val} {vs : List V} {ws : List Val} : RelV C F H v w → RelVs C F H vs ws → RelVs C F H (v :: vs) (w :: ws)
structure RelE (C : Run) (F : Addr → Prop) (H : Hp) (σ : L2.St) (env : Env3) : Prop where
  len : σ.length = env.length
  at_ : ∀ (i : Nat) (w : Val), env[i]? = some (some w) → ∃ v, σ[i]? = some (some v) ∧ RelV C F H v w
  inj : ∀ (i j : Nat) (ds es : List PyData) (p : Addr), env[i]? = some (some (.own ds)) → env[j]? = some (some (.own es)) → σ[i]? = some (some (.ref p)) → σ[j]? = some (some (.ref p)) → i = j
  nonew : ∀ (i : Nat) (ds : List PyData), env[i]? ≠ some (some (.new ds))
section
variable {C : Run} {F F' : Addr → Prop} {H H' : Hp} {n : Nat}
theorem own_ext (I : Inv3 C H F n) (e : Ext3 C F H F' H') {v : V} {ds : List PyData} (h : OwnAt C F H v ds) : OwnAt C F' H' v ds := by
  obtain ⟨p, xs, rfl, hp, hx, nf, nx, h0⟩ := h
  refine ⟨p, xs, rfl, e.h _ _ hp nx, I.fvs e hx, fun f => ?_, nx, h0⟩
  rcases e.g p nx f with f | f
  · exact nf f
  · rw [hp] at f
    cases f
theorem relV_ext (I : Inv3 C H F n) (e : Ext3 C F H F' H') {v : V} : ∀ {w : Val}, RelV C F H v w → RelV C F' H' v w
  | .dat _, h => I.fv e h
  | .own _, h => own_ext I e h
  | .new _, h => own_ext I e h
  | .st, h => h
theorem relVs_ext (I : Inv3 C H F n) (e : Ext3 C F H F' H') : ∀ {vs : List V} {ws : List Val}, RelVs C F H vs ws → RelVs C F' H' vs ws
  | _, _, .nil => .nil
  | _, _, .cons a b => .cons (relV_ext I e a) (relVs_ext I e b)
theorem relE_ext (I : Inv3 C H F n) (e : Ext3 C F H F' H') {σ : L2.St} {env : Env3} (h : RelE C F H σ env) : RelE C F' H' σ env :=
  ⟨h.len, fun i w hw => let ⟨v, a, b⟩ := h.at_ i w hw; ⟨v, a, relV_ext I e b⟩, h.inj, h.nonew⟩
theorem relR_back (e : Ext3 C F H F' H') {F2 : Addr → Prop} {H2 : Hp} {v : V} {w : Val} (h : RelR C F2 H2 H' v w) : RelR C F2 H2 H v w := by
  refine ⟨h.1, fun ds ew p ev => ?_⟩
  have h2 := h.2 ds ew p ev
  have h1 := h.1
  rw [ew] at h1
  obtain ⟨p', xs, e1, _, _, _, nx, _⟩ := h1
  rw [ev] at e1
  cases e1
  exact e.back nx h2
end
/-- a list just made is shared at once -/
def frz : Val → Val
  | .new ds => .dat (.list ds)
  | w => w
/-- at a def's end all is shared -/
def fin3 : Val → Val
  | .new ds => .dat (.list ds)
  | .own ds => .dat (.list ds)
  | w => w
def frzW (m : EW) : EW := fun n env post => m n env fun n1 w => post n1 (frz w)
section
variable (K : PySem.W.Frag)
def SndE (t : TE) (m : EW) : Prop := ∀ (C : Run), C.K = K → ∀ (n : Nat) (env : Env3) (post : Nat → Val → Prop) (σ : L2.St) (H : Hp) (F : Addr → Prop) (Q : VK), Inv3 C H F n → RelE C F H σ env → m n env post →
  (∀ n' w v H' F', Inv3 C H' F' n' → Ext3 C F H F' H' → RelR C F' H' H v w → post n' w → Q v H') → t σ H Q
def SndT (t : TT) (m : TW) : Prop := ∀ (C : Run), C.K = K → ∀ (n : Nat) (env : Env3) (post : Nat → Bool → Prop) (σ : L2.St) (H : Hp) (F : Addr → Prop) (Q : Bool → Hp → Prop), Inv3 C H F n → RelE C F H σ env → m n env post →
  (∀ n' b H' F', Inv3 C H' F' n' → Ext3 C F H F' H' → post n' b → Q b H') → t σ H Q
def SndA (t : TA) (m : AW) (k : Nat) : Prop := ∀ (C : Run), C.K = K → ∀ (n : Nat) (env : Env3) (post : Nat → List Val → Prop) (σ : L2.St) (H : Hp) (F : Addr → Prop) (Q : List V → Hp → Prop), Inv3 C H F n → RelE C F H σ env → m n env post →
  (∀ n' ws vs H' F', Inv3 C H' F' n' → Ext3 C F H F' H' → RelVs C F' H' vs ws → ws.length = k → post n' ws → Q vs H') → t σ H Q
/-- an operation of two values -/
def SndOp (r : R2) (g : Nat → Val → Val → (Nat → Val → Prop) → Prop) : Prop := ∀ (C : Run), C.K = K → ∀ (n : Nat) (a b : Val) (x y : V) (H : Hp) (F : Addr → Prop) (post : Nat → Val → Prop) (Q : VK), Inv3 C H F n → RelV C F H x a → RelV C F H y b → g n a b post →
  (∀ n' w v H' F', Inv3 C H' F' n' → Ext3 C F H F' H' → RelR C F' H' H v w → post n' w → Q v H') → r x y H Q
/-- a call by values -/
def SndB (r : List V → Hp → VK → Prop) (g : Nat → List Val → (Nat → Val → Prop) → Prop) : Prop := ∀ (C : Run), C.K = K → ∀ (n : Nat) (ws : List Val) (vs : List V) (H : Hp) (F : Addr → Prop) (post : Nat → Val → Prop) (Q : VK), Inv3 C H F n → RelVs C F H vs ws → g n ws post →
  (∀ n' w v H' F', Inv3 C H' F' n' → Ext3 C F H F' H' → RelR C F' H' H v w → post n' w → Q v H') → r vs H Q
end
section
variable {K : PySem.W.Frag}
theorem snd_frz {t : TE} {m : EW} (h : SndE K t m) : SndE K t (frzW m) := by
  intro C hK n env post σ H F Q I R hm q
  refine h C hK n env _ σ H F Q I R hm fun n' w v H' F' I' e r hp => ?_
  cases w with
  | new ds =>
    obtain ⟨p, xs, rfl, hp', hx, nf, nx, h0⟩ := r.1
    have hs := r.2 ds rfl p rfl
    refine q n' _ _ H' (fun a => F' a ∨ a = p) (I'.share hp' nx h0) ⟨fun a h => .inl (e.f a h), fun a na h => ?_, e.h⟩ ⟨?_, fun _ z => by cases z⟩ hp
    · rcases h with h | rfl
      · exact e.g a na h
      · exact .inr hs
    · exact .lst (.inr rfl) hp' (fvs_move (fun _ _ q => q) (fun _ _ _ q => q) (fun _ q => .inl q) _ _ hx)
  | dat d => exact q n' _ v H' F' I' e r hp
  | own ds => exact q n' _ v H' F' I' e r hp
  | st => exact q n' _ v H' F' I' e r hp
theorem relV_dat {C : Run} {F : Addr → Prop} {H Hs : Hp} {v : V} {d : PyData} (h : Fv C.K F H v d) : RelR C F H Hs v (.dat d) := ⟨h, fun _ z => by cases z⟩
/-! ### names, constants -/
def eVar (i : Nat) : EW := fun n env post => match env[i]? with
  | some (some w) => post n w
  | _ => False
theorem snd_var {i : Nat} : SndE K (tVar i) (eVar i) := by
  intro C hK n env post σ H F Q I R hm q
  unfold eVar at hm
  split at hm
  · rename_i w hw
    obtain ⟨v, hv, rv⟩ := R.at_ i w hw
    exact ⟨v, hv, q n w v H F I (Ext3.refl _ _ _) ⟨rv, fun ds e => absurd (e ▸ hw) (R.nonew i ds)⟩ hm⟩
  · exact hm.elim
def eC (w : PyData) : EW := fun n _ post => post n (.dat w)
theorem snd_int {i : Int} : SndE K (tC (.int i)) (eC (.int i)) := fun C hK n env post σ H F Q I R hm q => q n _ _ H F I (Ext3.refl _ _ _) (relV_dat (.int i)) hm
theorem snd_bl {b : Bool} : SndE K (tC (.bl b)) (eC (.bool b)) := fun C hK n env post σ H F Q I R hm q => q n _ _ H F I (Ext3.refl _ _ _) (relV_dat (.bl b)) hm
theorem snd_str {x : Str} : SndE K (tC (.str x)) (eC (.str x)) := fun C hK n env post σ H F Q I R hm q => q n _ _ H F I (Ext3.refl _ _ _) (relV_dat (.str x)) hm
theorem snd_non : SndE K (tC .non) (eC .none) := fun C hK n env post σ H F Q I R hm q => q n _ _ H F I (Ext3.refl _ _ _) (relV_dat .non) hm
/-! ### arguments, tuples, lists -/
def aNil : AW := fun n _ post => post n []
def aCons (m : EW) (ms : AW) : AW := fun n env post => m n env fun n1 w => ms n1 env fun n2 ws => post n2 (frz w :: ws)
theorem snd_nil : SndA K tNil aNil 0 := fun C hK n env post σ H F Q I R hm q => q n [] [] H F I (Ext3.refl _ _ _) .nil rfl hm
theorem snd_cons {t : TE} {m : EW} {ts : TA} {ms : AW} {k : Nat} (h : SndE K t m) (hs : SndA K ts ms k) : SndA K (tCons t ts) (aCons m ms) (k + 1) := by
  intro C hK n env post σ H F Q I R hm q
  refine snd_frz h C hK n env (fun n1 w => ms n1 env fun n2 ws => post n2 (w :: ws)) σ H F _ I R hm fun n1 w v H1 F1 I1 e1 r1 hp => ?_
  refine hs C hK n1 env _ σ H1 F1 _ I1 (relE_ext I e1 R) hp fun n2 ws vs H2 F2 I2 e2 r2 hl hp2 => ?_
  exact q n2 _ _ H2 F2 I2 (e1.trans e2) (.cons (relV_ext I1 e2 r1.1) r2) (by rw [List.length_cons, hl]) hp2
/-- all are data -/
def dats : List Val → Option (List PyData)
  | [] => some []
  | .dat d :: ws => (dats ws).map (d :: ·)
  | _ :: _ => none
theorem dats_fv {C : Run} {F : Addr → Prop} {H : Hp} : ∀ {vs : List V} {ws : List Val} {ds : List PyData}, RelVs C F H vs ws → dats ws = some ds → FvAll C.K F H vs ds
  | _, _, _, .nil, e => by cases e; exact .nil
  | _, .dat d :: ws, ds, .cons h hs, e => by
    have e' : (dats ws).map (d :: ·) = some ds := e
    obtain ⟨es, h1, rfl⟩ := Option.map_eq_some_iff.mp e'
    exact .cons h (dats_fv hs h1)
  | _, .own _ :: _, _, .cons _ _, e => by cases e
  | _, .new _ :: _, _, .cons _ _, e => by cases e
  | _, .st :: _, _, .cons _ _, e => by cases e
theorem relVs_len {C : Run} {F : Addr → Prop} {H : Hp} : ∀ {vs : List V} {ws : List Val}, RelVs C F H vs ws → vs.length = ws.length
  | _, _, .nil => rfl
  | _, _, .cons _ h => by rw [List.length_cons, List.length_cons, relVs_len h]
def eTup (ms : AW) : EW := fun n env post => ms n env fun n1 ws => match dats ws with
  | some ds => post n1 (.dat (.tuple ds))
  | none => False
def eLst (ms : AW) : EW := fun n env post => ms n env fun n1 ws => match dats ws with
  | some ds => post n1 (.new ds)
  | none => False
theorem snd_tup {ts : TA} {ms : AW} {k : Nat} (hs : SndA K ts ms k) (hk : k ≤ 1000 := by decide) : SndE K (tTup ts) (eTup ms) := by
  intro C hK n env post σ H F Q I R hm q
  refine hs C hK n env _ σ H F _ I R hm fun n' ws vs H' F' I' e r hl hp => ?_
  split at hp
  · rename_i ds hd
    refine ⟨?_, fun p np => ?_⟩
    · rw [relVs_len r, hl]
      exact Nat.le_of_lt (small (m := 1000) hk)
    · have es := same_new (o := .tup vs) np
      have e2 := Ext3.of (C := C) (F := F') es
      exact q n' _ _ _ F' (I'.sames es) (e.trans e2) (relV_dat (.tup (SqT.of upd_same) (I'.fvs e2 (dats_fv r hd)))) hp
  · exact hp.elim
theorem new_own {C : Run} {F : Addr → Prop} {H : Hp} {n : Nat} (I : Inv3 C H F n) {p : Addr} (np : H p = none) {xs : List V} {ds : List PyData} (hx : FvAll C.K F H xs ds) (hf : ¬F p) : OwnAt C F (upd H p (.lst xs)) (.ref p) ds :=
  ⟨p, xs, rfl, upd_same, I.fvs (Ext3.of (same_new np)) hx, hf, I.new np, I.h0 np⟩
theorem snd_lst {ts : TA} {ms : AW} {k : Nat} (hs : SndA K ts ms k) (hk : k ≤ 1000 := by decide) : SndE K (tLst ts) (eLst ms) := by
  intro C hK n env post σ H F Q I R hm q
  refine hs C hK n env _ σ H F _ I R hm fun n' ws vs H' F' I' e r hl hp => ?_
  split at hp
  · rename_i ds hd
    refine ⟨?_, fun p np => ?_⟩
    · rw [relVs_len r, hl]
      exact Nat.le_of_lt (small (m := 1000) hk)
    · have es := same_new (o := .lst vs) np
      have e2 := Ext3.of (C := C) (F := F') es
      have hf : ¬F' p := fun f => I'.fh p f np
      exact q n' (.new ds) _ _ F' (I'.sames es) (e.trans e2) ⟨new_own I' np (dats_fv r hd) hf, fun _ _ p' z => by cases z; exact e.back (I'.new np) np⟩ hp
  · exact hp.elim
end
end K0

/-! LB: operations, tests, slices, built-ins. -/
namespace K0
open PySem PySem.Spec PyProof.Rows L2 W0 W1 W2 W5 W6 V0 V1 V6
/-! ### views -/
def asL : Val → Option (List PyData)
  | .dat (.list ds) => some ds
  | .own ds => some ds
  | .new ds => some ds
  | _ => none
def asT : Val → Option (List PyData)
  | .dat (.tuple ds) => some ds
  | _ => none
def asS : Val → Option (List PyData)
  | .dat (.tuple ds) => some ds
  | .dat (.list ds) => some ds
  | .own ds => some ds
  | .new ds => some ds
  | _ => none
def asD : Val → Option PyData
  | .dat d => some d
  | .own ds => some (.list ds)
  | .new ds => some (.list ds)
  | .st => none
def toF : PyData → Option V
  | .none => some .non
  | .bool b => some (.bl b)
  | .int i => some (.int i)
  | .str x => some (.str x)
  | _ => none
def toFs : List PyData → Option (List V)
  | [] => some []
  | d :: ds => match toF d, toFs ds with
    | some v, some vs => some (v :: vs)
    | _, _ => none
section
variable {C : Run} {F : Addr → Prop} {H : Hp} {v : V}
theorem relL {w : Val} {ds : List PyData} (h : RelV C F H v w) (e : asL w = some ds) : ∃ p xs, v = .ref p ∧ H p = some (.lst xs) ∧ FvAll C.K F H xs ds := by
  cases w with
  | dat d =>
    cases d with
    | list es =>
      cases e
      cases h with
      | lst f hs ha => exact ⟨_, _, rfl, hs, ha⟩
    | _ => cases e
  | own es =>
    cases e
    obtain ⟨p, xs, h1, h2, h3, _⟩ := h
    exact ⟨p, xs, h1, h2, h3⟩
  | new es =>
    cases e
    obtain ⟨p, xs, h1, h2, h3, _⟩ := h
    exact ⟨p, xs, h1, h2, h3⟩
  | st => cases e
theorem relT {w : Val} {ds : List PyData} (h : RelV C F H v w) (e : asT w = some ds) : ∃ p xs, v = .ref p ∧ SqT C.K H p xs ∧ FvAll C.K F H xs ds := by
  cases w with
  | dat d =>
    cases d with
    | tuple es =>
      cases e
      cases h with
      | tup hs ha => exact ⟨_, _, rfl, hs, ha⟩
    | _ => cases e
  | _ => cases e
theorem relS {w : Val} {ds : List PyData} (h : RelV C F H v w) (e : asS w = some ds) : ∃ p xs, v = .ref p ∧ (SqL C.K H p xs ∨ SqT C.K H p xs) ∧ FvAll C.K F H xs ds := by
  cases w with
  | dat d =>
    cases d with
    | tuple es =>
      obtain ⟨p, xs, h1, h2, h3⟩ := relT h (ds := es) rfl
      cases e
      exact ⟨p, xs, h1, .inr h2, h3⟩
    | list es =>
      obtain ⟨p, xs, h1, h2, h3⟩ := relL h (ds := es) rfl
      cases e
      exact ⟨p, xs, h1, .inl (SqL.of h2), h3⟩
    | _ => cases e
  | own es =>
    obtain ⟨p, xs, h1, h2, h3⟩ := relL h (ds := es) rfl
    cases e
    exact ⟨p, xs, h1, .inl (SqL.of h2), h3⟩
  | new es =>
    obtain ⟨p, xs, h1, h2, h3⟩ := relL h (ds := es) rfl
    cases e
    exact ⟨p, xs, h1, .inl (SqL.of h2), h3⟩
  | st => cases e
theorem relD {w : Val} {d : PyData} (h : RelV C F H v w) (e : asD w = some d) : Dp C.K H v d := by
  cases w with
  | dat d' =>
    cases e
    exact fv_dp _ _ h
  | own es =>
    cases e
    obtain ⟨p, xs, rfl, h2, h3⟩ := relL h (ds := es) rfl
    exact .lst (SqL.of h2) (fvs_dp _ _ h3)
  | new es =>
    cases e
    obtain ⟨p, xs, rfl, h2, h3⟩ := relL h (ds := es) rfl
    exact .lst (SqL.of h2) (fvs_dp _ _ h3)
  | st => cases e
theorem fv_flat {d : PyData} {x : V} (h : Fv C.K F H v d) (e : toF d = some x) : v = x ∧ flatV x = true := by
  cases h with
  | non => cases e; exact ⟨rfl, rfl⟩
  | bl b => cases e; exact ⟨rfl, rfl⟩
  | int i => cases e; exact ⟨rfl, rfl⟩
  | str x => cases e; exact ⟨rfl, rfl⟩
  | lst _ _ _ => cases e
  | tup _ _ => cases e
theorem fvs_flat : ∀ {vs xs : List V} {ds : List PyData}, FvAll C.K F H vs ds → toFs ds = some xs → vs = xs ∧ xs.all flatV = true
  | _, _, _, .nil, e => by cases e; exact ⟨rfl, rfl⟩
  | _, _, _, .cons (d := d) (ds := ds) h hs, e => by
    unfold toFs at e
    split at e
    · rename_i x xs' e1 e2
      cases e
      obtain ⟨rfl, f1⟩ := fv_flat h e1
      obtain ⟨rfl, f2⟩ := fvs_flat hs e2
      exact ⟨rfl, by rw [List.all_cons, f1, f2]; rfl⟩
    · cases e
end
theorem toFs_ints (l : List Int) : toFs (l.map PyData.int) = some (l.map V.int) := by
  induction l with
  | nil => rfl
  | cons x l ih =>
    show (match toF (.int x), toFs (l.map PyData.int) with | some v, some vs => some (v :: vs) | _, _ => none) = _
    rw [ih]
    rfl
theorem toFs_strs (l : List Str) : toFs (l.map PyData.str) = some (l.map V.str) := by
  induction l with
  | nil => rfl
  | cons x l ih =>
    show (match toF (.str x), toFs (l.map PyData.str) with | some v, some vs => some (v :: vs) | _, _ => none) = _
    rw [ih]
    rfl
abbrev GW2 := Nat → Val → Val → (Nat → Val → Prop) → Prop
abbrev GB := Nat → List Val → (Nat → Val → Prop) → Prop
def eOp (g : GW2) (ma mb : EW) : EW := fun n env post => ma n env fun n1 a => mb n1 env fun n2 b => g n2 (frz a) (frz b) post
section
variable {K : PySem.W.Frag}
theorem snd_op {r : R2} {g : GW2} {ta tb : TE} {ma mb : EW} (hr : SndOp K r g) (ha : SndE K ta ma) (hb : SndE K tb mb) : SndE K (tOp r ta tb) (eOp g ma mb) := by
  intro C hK n env post σ H F Q I R hm q
  refine snd_frz ha C hK n env (fun n1 a => frzW mb n1 env fun n2 b => g n2 a b post) σ H F _ I R hm fun n1 a x H1 F1 I1 e1 r1 hp => ?_
  refine snd_frz hb C hK n1 env (fun n2 b => g n2 a b post) σ H1 F1 _ I1 (relE_ext I e1 R) hp fun n2 b y H2 F2 I2 e2 r2 hp2 => ?_
  exact hr C hK n2 a b x y H2 F2 post Q I2 (relV_ext I1 e2 r1.1) r2.1 hp2 fun n3 w v H3 F3 I3 e3 r3 hp3 => q n3 w v H3 F3 I3 ((e1.trans e2).trans e3) (relR_back (e1.trans e2) r3) hp3
/-! ### ints -/
def gI (D : Int → Int → Prop) (f : Int → Int → Int) : GW2 := fun n a b post => match a, b with
  | .dat (.int i), .dat (.int j) => D i j ∧ post n (.dat (.int (f i j)))
  | _, _ => False
@[irreducible] def gI0 (f : Int → Int → Int) : GW2 := fun n a b post => match a, b with
  | .dat (.int i), .dat (.int j) => post n (.dat (.int (f i j)))
  | _, _ => False
@[irreducible] def gIB (f : Int → Int → Bool) : GW2 := fun n a b post => match a, b with
  | .dat (.int i), .dat (.int j) => post n (.dat (.bool (f i j)))
  | _, _ => False
theorem fv_int {C : Run} {F : Addr → Prop} {H : Hp} {v : V} {i : Int} (h : Fv C.K F H v (.int i)) : v = .int i := by cases h; rfl
theorem fv_bl {C : Run} {F : Addr → Prop} {H : Hp} {v : V} {i : Bool} (h : Fv C.K F H v (.bool i)) : v = .bl i := by cases h; rfl
theorem fv_str {C : Run} {F : Addr → Prop} {H : Hp} {v : V} {i : Str} (h : Fv C.K F H v (.str i)) : v = .str i := by cases h; rfl
theorem op_rI {D : Int → Int → Prop} {f : Int → Int → Int} : SndOp K (rI D fun i j => .int (f i j)) (gI D f) := by
  intro C hK n a b x y H F post Q I ra rb hm q
  unfold gI at hm
  split at hm
  · exact ⟨_, _, fv_int ra, fv_int rb, hm.1, q n _ _ H F I (Ext3.refl _ _ _) (relV_dat (.int _)) hm.2⟩
  · exact hm.elim
theorem op_rI0 {f : Int → Int → Int} : SndOp K (rI0 fun i j => .int (f i j)) (gI0 f) := by
  intro C hK n a b x y H F post Q I ra rb hm q
  unfold gI0 at hm
  split at hm
  · exact ⟨_, _, fv_int ra, fv_int rb, q n _ _ H F I (Ext3.refl _ _ _) (relV_dat (.int _)) hm⟩
  · exact hm.elim
theorem op_rIB {f : Int → Int → Bool} : SndOp K (rI0 fun i j => .bl (f i j)) (gIB f) := by
  intro C hK n a b x y H F post Q I ra rb hm q
  unfold gIB at hm
  split at hm
  · exact ⟨_, _, fv_int ra, fv_int rb, q n _ _ H F I (Ext3.refl _ _ _) (relV_dat (.bl _)) hm⟩
  · exact hm.elim
theorem sop_add : SndOp K rAdd (gI0 (· + ·)) := op_rI0
theorem sop_sub : SndOp K rSub (gI0 (· - ·)) := op_rI0
@[irreducible] def gBit (f : Nat → Nat → Nat) : GW2 := fun n a b post => match a, b with
  | .dat (.int i), .dat (.int j) => 0 ≤ i ∧ 0 ≤ j ∧ post n (.dat (.int ((f i.toNat j.toNat : Nat) : Int)))
  | _, _ => False
theorem sop_bit {f : Nat → Nat → Nat} : SndOp K (rBit f) (gBit f) := by
  intro C hK n a b x y H F post Q I ra rb hm q
  unfold gBit at hm
  split at hm
  · obtain ⟨h1, h2, h3⟩ := hm
    exact ⟨_, _, (fv_int ra).trans (congrArg V.int (Int.toNat_of_nonneg h1).symm), (fv_int rb).trans (congrArg V.int (Int.toNat_of_nonneg h2).symm), q n _ _ H F I (Ext3.refl _ _ _) (relV_dat (.int _)) h3⟩
  · exact hm.elim
/-! ### equality -/
@[irreducible] def gEq (neg : Bool) : GW2 := fun n a b post => match a, b with
  | .dat (.int i), .dat (.int j) => post n (.dat (.bool (neg != decide (i = j))))
  | .dat (.str i), .dat (.str j) => post n (.dat (.bool (neg != decide (i = j))))
  | .dat (.bool i), .dat (.bool j) => post n (.dat (.bool (neg != decide (i = j))))
  | _, _ => False
theorem dec_v {α : Type} [DecidableEq α] {f : α → V} (hf : ∀ a b, f a = f b → a = b) (a b : α) : decide (f a = f b) = decide (a = b) := by
  by_cases h : a = b
  · rw [decide_eq_true h, decide_eq_true (congrArg f h)]
  · rw [decide_eq_false h, decide_eq_false fun z => h (hf a b z)]
theorem sop_eq : SndOp K rEq (gEq false) := by
  intro C hK n a b x y H F post Q I ra rb hm q
  unfold gEq at hm
  split at hm
  · rw [fv_int ra, fv_int rb]
    refine ⟨rfl, ?_⟩
    rw [dec_v (f := V.int) fun a b e => V.int.inj e]
    exact q n _ _ H F I (Ext3.refl _ _ _) (relV_dat (.bl _)) (by rw [Bool.false_bne] at hm; exact hm)
  · rw [fv_str ra, fv_str rb]
    refine ⟨rfl, ?_⟩
    rw [dec_v (f := V.str) fun a b e => V.str.inj e]
    exact q n _ _ H F I (Ext3.refl _ _ _) (relV_dat (.bl _)) (by rw [Bool.false_bne] at hm; exact hm)
  · rw [fv_bl ra, fv_bl rb]
    refine ⟨rfl, ?_⟩
    rw [dec_v (f := V.bl) fun a b e => V.bl.inj e]
    exact q n _ _ H F I (Ext3.refl _ _ _) (relV_dat (.bl _)) (by rw [Bool.false_bne] at hm; exact hm)
  · exact hm.elim
theorem sop_ne : SndOp K rNe (gEq true) := by
  intro C hK n a b x y H F post Q I ra rb hm q
  unfold gEq at hm
  split at hm
  · rw [fv_int ra, fv_int rb]
    refine ⟨rfl, ?_⟩
    rw [dec_v (f := V.int) fun a b e => V.int.inj e]
    exact q n _ _ H F I (Ext3.refl _ _ _) (relV_dat (.bl _)) (by rw [Bool.true_bne] at hm; exact hm)
  · rw [fv_str ra, fv_str rb]
    refine ⟨rfl, ?_⟩
    rw [dec_v (f := V.str) fun a b e => V.str.inj e]
    exact q n _ _ H F I (Ext3.refl _ _ _) (relV_dat (.bl _)) (by rw [Bool.true_bne] at hm; exact hm)
  · rw [fv_bl ra, fv_bl rb]
    refine ⟨rfl, ?_⟩
    rw [dec_v (f := V.bl) fun a b e => V.bl.inj e]
    exact q n _ _ H F I (Ext3.refl _ _ _) (relV_dat (.bl _)) (by rw [Bool.true_bne] at hm; exact hm)
  · exact hm.elim
@[irreducible] def gEqD (neg : Bool) : GW2 := fun n a b post => match asD a, asD b with
  | some d, some e => SeqAt.shaped d = true ∧ SeqAt.shaped e = true ∧ post n (.dat (.bool (neg != PyData.eqv d e)))
  | _, _ => False
theorem sop_eqD : SndOp K (rEqD K) (gEqD false) := by
  intro C hK n a b x y H F post Q I ra rb hm q
  subst hK
  unfold gEqD at hm
  split at hm
  · rename_i d e h1 h2
    rw [Bool.false_bne] at hm
    exact ⟨d, e, relD ra h1, relD rb h2, hm.1, hm.2.1, q n _ _ H F I (Ext3.refl _ _ _) (relV_dat (.bl _)) hm.2.2⟩
  · exact hm.elim
theorem sop_neD : SndOp K (rNeD K) (gEqD true) := by
  intro C hK n a b x y H F post Q I ra rb hm q
  subst hK
  unfold gEqD at hm
  split at hm
  · rename_i d e h1 h2
    rw [Bool.true_bne] at hm
    exact ⟨d, e, relD ra h1, relD rb h2, hm.1, hm.2.1, q n _ _ H F I (Ext3.refl _ _ _) (relV_dat (.bl _)) hm.2.2⟩
  · exact hm.elim
@[irreducible] def gIn (neg : Bool) : GW2 := fun n a b post => match a, asS b with
  | .dat d, some ds => (match toF d, toFs ds with
    | some x, some xs => post n (.dat (.bool (if neg then !inV x xs else inV x xs)))
    | _, _ => False)
  | _, _ => False
theorem sop_in {neg : Bool} : SndOp K (rIn K neg) (gIn neg) := by
  intro C hK n a b x y H F post Q I ra rb hm q
  subst hK
  unfold gIn at hm
  split at hm
  · rename_i d ds hb
    split at hm
    · rename_i x' xs' e1 e2
      obtain ⟨p, xs, rfl, hs, hx⟩ := relS rb hb
      obtain ⟨rfl, f1⟩ := fv_flat ra e1
      obtain ⟨rfl, f2⟩ := fvs_flat hx e2
      exact ⟨p, xs, rfl, hs, f1, f2, q n _ _ H F I (Ext3.refl _ _ _) (relV_dat (.bl _)) hm⟩
    · exact hm.elim
  · exact hm.elim
/-! ### places -/
theorem atI_fv {C : Run} {F : Addr → Prop} {H : Hp} {xs : List V} {ds : List PyData} {i : Int} {d : PyData} (h : FvAll C.K F H xs ds) (e : atI ds i = some d) : ∃ v, atI xs i = some v ∧ Fv C.K F H v d := by
  unfold atI at e ⊢
  rw [fvs_len h]
  cases hj : ixN ds.length i with
  | none => rw [hj] at e; cases e
  | some j =>
    rw [hj] at e
    exact fvs_get h e
@[irreducible] def gIx (v : Val → Option (List PyData)) : GW2 := fun n a b post => match v a, b with
  | some ds, .dat (.int i) => (match atI ds i with
    | some d => post n (.dat d)
    | none => False)
  | _, _ => False
theorem sop_ixL : SndOp K (rIxL K) (gIx asL) := by
  intro C hK n a b x y H F post Q I ra rb hm q
  subst hK
  unfold gIx at hm
  split at hm
  · rename_i ds i ha
    split at hm
    · rename_i d hd
      obtain ⟨p, xs, rfl, hs, hx⟩ := relL ra ha
      obtain ⟨v, hv, fv⟩ := atI_fv hx hd
      exact ⟨p, xs, i, v, rfl, fv_int rb, SqL.of hs, hv, q n _ _ H F I (Ext3.refl _ _ _) (relV_dat fv) hm⟩
    · exact hm.elim
  · exact hm.elim
theorem sop_ixT : SndOp K (rIxT K) (gIx asT) := by
  intro C hK n a b x y H F post Q I ra rb hm q
  subst hK
  unfold gIx at hm
  split at hm
  · rename_i ds i ha
    split at hm
    · rename_i d hd
      obtain ⟨p, xs, rfl, hs, hx⟩ := relT ra ha
      obtain ⟨v, hv, fv⟩ := atI_fv hx hd
      exact ⟨p, xs, i, v, rfl, fv_int rb, hs, hv, q n _ _ H F I (Ext3.refl _ _ _) (relV_dat fv) hm⟩
    · exact hm.elim
  · exact hm.elim
def gIxB : GW2 := fun n a b post => match asL a, b with
  | some ds, .dat (.bool i) => (match ds[V4.bN i]? with
    | some d => post n (.dat d)
    | none => False)
  | _, _ => False
theorem sop_ixB : SndOp K (V4.rIxB K) gIxB := by
  intro C hK n a b x y H F post Q I ra rb hm q
  subst hK
  unfold gIxB at hm
  split at hm
  · rename_i ds i ha
    split at hm
    · rename_i d hd
      obtain ⟨p, xs, rfl, hs, hx⟩ := relL ra ha
      obtain ⟨v, hv, fv⟩ := fvs_get hx hd
      exact ⟨p, xs, i, v, rfl, fv_bl rb, SqL.of hs, hv, q n _ _ H F I (Ext3.refl _ _ _) (relV_dat fv) hm⟩
    · exact hm.elim
  · exact hm.elim
/-! ### put together, repeated -/
/-- a new list comes -/
theorem new_list {C : Run} {F : Addr → Prop} {H : Hp} {n : Nat} {post : Nat → Val → Prop} {Q : VK} (I : Inv3 C H F n) {xs : List V} {ds : List PyData} (hx : FvAll C.K F H xs ds) (hm : post n (.new ds))
    (q : ∀ n' w v H' F', Inv3 C H' F' n' → Ext3 C F H F' H' → RelR C F' H' H v w → post n' w → Q v H') (p : Addr) (np : H p = none) : Q (.ref p) (upd H p (.lst xs)) :=
  q n (.new ds) _ _ F (I.sames (same_new np)) (Ext3.of (same_new np)) ⟨new_own I np hx fun f => I.fh p f np, fun _ _ p' z => by cases z; exact np⟩ hm
def gCatL : GW2 := fun n a b post => match asL a, asL b with
  | some ds, some es => ds.length + es.length ≤ 10000000 ∧ post n (.new (ds ++ es))
  | _, _ => False
theorem le_size {m : Nat} (h : m ≤ 10000000) : m ≤ sizeLine := Nat.le_of_lt (small h)
theorem sop_catL : SndOp K rCat gCatL := by
  intro C hK n a b x y H F post Q I ra rb hm q
  unfold gCatL at hm
  split at hm
  · rename_i ds es ha hb
    obtain ⟨p, xs, rfl, hs, hx⟩ := relL ra ha
    obtain ⟨p2, ys, rfl, hs2, hy⟩ := relL rb hb
    exact ⟨p, p2, xs, ys, rfl, rfl, hs, hs2, by rw [fvs_len hx, fvs_len hy]; exact le_size hm.1, new_list I (fvs_app hx hy) hm.2 q⟩
  · exact hm.elim
def gCatT : GW2 := fun n a b post => match asT a, asT b with
  | some ds, some es => ds.length + es.length ≤ 10000000 ∧ post n (.dat (.tuple (ds ++ es)))
  | _, _ => False
theorem sop_catT : SndOp K (rCatW K) gCatT := by
  intro C hK n a b x y H F post Q I ra rb hm q
  subst hK
  unfold gCatT at hm
  split at hm
  · rename_i ds es ha hb
    obtain ⟨p, xs, rfl, hs, hx⟩ := relT ra ha
    obtain ⟨p2, ys, rfl, hs2, hy⟩ := relT rb hb
    refine ⟨p, p2, xs, ys, rfl, rfl, hs, hs2, by rw [fvs_len hx, fvs_len hy]; exact le_size hm.1, fun p' H1 e hp' => ?_⟩
    have e2 := Ext3.of (C := C) (F := F) e
    exact q n _ _ H1 F (I.sames e) e2 (relV_dat (.tup hp' (I.fvs e2 (fvs_app hx hy)))) hm.2
  · exact hm.elim
theorem fvs_rep {C : Run} {F : Addr → Prop} {H : Hp} {xs : List V} {ds : List PyData} (h : FvAll C.K F H xs ds) : ∀ k : Nat, FvAll C.K F H (List.replicate k xs).flatten (List.replicate k ds).flatten
  | 0 => .nil
  | k + 1 => by
    rw [List.replicate_succ, List.replicate_succ, List.flatten_cons, List.flatten_cons]
    exact fvs_app h (fvs_rep h k)
@[irreducible] def gRepL : GW2 := fun n a b post => match asL a, b with
  | some ds, .dat (.int k) => -1000000 ≤ k ∧ k ≤ 1000000 ∧ ds.length * k.toNat ≤ 10000000 ∧ post n (.new (List.replicate k.toNat ds).flatten)
  | _, _ => False
theorem sop_repL : SndOp K rRep gRepL := by
  intro C hK n a b x y H F post Q I ra rb hm q
  unfold gRepL at hm
  split at hm
  · rename_i ds k ha
    obtain ⟨p, xs, rfl, hs, hx⟩ := relL ra ha
    exact ⟨p, k, xs, rfl, fv_int rb, hs, by omega, by omega, by rw [fvs_len hx]; exact le_size hm.2.2.1, new_list I (fvs_rep hx _) hm.2.2.2 q⟩
  · exact hm.elim
/-! ### not, and, or, minus -/
def eNot (m : EW) : EW := fun n env post => m n env fun n1 w => match w with
  | .dat (.bool b) => post n1 (.dat (.bool (!b)))
  | _ => False
theorem snd_not {t : TE} {m : EW} (h : SndE K t m) : SndE K (tNotV t) (eNot m) := by
  intro C hK n env post σ H F Q I R hm q
  refine h C hK n env _ σ H F _ I R hm fun n' w v H' F' I' e r hp => ?_
  split at hp
  · exact ⟨_, fv_bl r.1, q n' _ _ H' F' I' e (relV_dat (.bl _)) hp⟩
  · exact hp.elim
def eAnd (ma mb : EW) : EW := fun n env post => ma n env fun n1 w => match w with
  | .dat (.bool true) => mb n1 env post
  | .dat (.bool false) => post n1 (.dat (.bool false))
  | _ => False
theorem snd_and {ta tb : TE} {ma mb : EW} (ha : SndE K ta ma) (hb : SndE K tb mb) : SndE K (tAndV ta tb) (eAnd ma mb) := by
  intro C hK n env post σ H F Q I R hm q
  refine ha C hK n env _ σ H F _ I R hm fun n' w v H' F' I' e r hp => ?_
  split at hp
  · refine ⟨true, fv_bl r.1, ?_⟩
    rw [if_pos rfl]
    exact hb C hK n' env post σ H' F' Q I' (relE_ext I e R) hp fun n2 w2 v2 H2 F2 I2 e2 r2 hp2 => q n2 w2 v2 H2 F2 I2 (e.trans e2) (relR_back e r2) hp2
  · refine ⟨false, fv_bl r.1, ?_⟩
    rw [if_neg Bool.false_ne_true]
    exact q n' _ _ H' F' I' e (relV_dat (.bl _)) hp
  · exact hp.elim
def eOr (ma mb : EW) : EW := fun n env post => ma n env fun n1 w => match w with
  | .dat (.bool false) => mb n1 env post
  | .dat (.bool true) => post n1 (.dat (.bool true))
  | _ => False
theorem snd_or {ta tb : TE} {ma mb : EW} (ha : SndE K ta ma) (hb : SndE K tb mb) : SndE K (tOrV ta tb) (eOr ma mb) := by
  intro C hK n env post σ H F Q I R hm q
  refine ha C hK n env _ σ H F _ I R hm fun n' w v H' F' I' e r hp => ?_
  split at hp
  · refine ⟨false, fv_bl r.1, ?_⟩
    rw [if_neg Bool.false_ne_true]
    exact hb C hK n' env post σ H' F' Q I' (relE_ext I e R) hp fun n2 w2 v2 H2 F2 I2 e2 r2 hp2 => q n2 w2 v2 H2 F2 I2 (e.trans e2) (relR_back e r2) hp2
  · refine ⟨true, fv_bl r.1, ?_⟩
    rw [if_pos rfl]
    exact q n' _ _ H' F' I' e (relV_dat (.bl _)) hp
  · exact hp.elim
def eNeg (m : EW) : EW := fun n env post => m n env fun n1 w => match w with
  | .dat (.int i) => post n1 (.dat (.int (-i)))
  | _ => False
theorem snd_neg {t : TE} {m : EW} (h : SndE K t m) : SndE K (tUn (rU fun i => .int (-i)) t) (eNeg m) := by
  intro C hK n env post σ H F Q I R hm q
  refine h C hK n env _ σ H F _ I R hm fun n' w v H' F' I' e r hp => ?_
  split at hp
  · exact ⟨_, fv_int r.1, q n' _ _ H' F' I' e (relV_dat (.int _)) hp⟩
  · exact hp.elim
/-! ### tests -/
def tw (m : EW) : TW := fun n env post => m n env fun n1 w => match w with
  | .dat (.bool b) => post n1 b
  | _ => False
theorem snt_test {t : TE} {m : EW} (h : SndE K t m) : SndT K (tTest t) (tw m) := by
  intro C hK n env post σ H F Q I R hm q
  refine h C hK n env _ σ H F _ I R hm fun n' w v H' F' I' e r hp => ?_
  split at hp
  · exact ⟨_, fv_bl r.1, q n' _ H' F' I' e hp⟩
  · exact hp.elim
def tru : Val → Option Bool
  | .dat (.bool b) => some b
  | .dat (.int i) => some (i != 0)
  | .dat .none => some false
  | .dat (.list ds) => some (!ds.isEmpty)
  | .dat (.tuple ds) => some (!ds.isEmpty)
  | .own ds => some (!ds.isEmpty)
  | .new ds => some (!ds.isEmpty)
  | _ => none
def twT (m : EW) : TW := fun n env post => m n env fun n1 w => match tru w with
  | some b => post n1 b
  | none => False
theorem fvs_emp {C : Run} {F : Addr → Prop} {H : Hp} {xs : List V} {ds : List PyData} (h : FvAll C.K F H xs ds) : (!ds.isEmpty) = !xs.isEmpty := by cases h <;> rfl
theorem snt_tru {t : TE} {m : EW} (h : SndE K t m) : SndT K (V6.tTru K t) (twT m) := by
  intro C hK n env post σ H F Q I R hm q
  refine h C hK n env _ σ H F _ I R hm fun n' w v H' F' I' e r hp => ?_
  subst hK
  cases w with
  | dat d =>
    have r1 : Fv C.K F' H' v d := r.1
    cases r1 with
    | bl b => exact ⟨b, rfl, q n' _ H' F' I' e hp⟩
    | int i => exact ⟨_, rfl, q n' _ H' F' I' e hp⟩
    | non => exact ⟨_, rfl, q n' _ H' F' I' e hp⟩
    | str x => exact hp.elim
    | lst f hs ha => exact ⟨_, .inl ⟨_, SqL.of hs, fvs_emp ha⟩, q n' _ H' F' I' e hp⟩
    | tup hs ha => exact ⟨_, .inr (.inl ⟨_, hs, fvs_emp ha⟩), q n' _ H' F' I' e hp⟩
  | own ds =>
    obtain ⟨p, xs, rfl, hs, ha, _⟩ := r.1
    exact ⟨_, .inl ⟨_, SqL.of hs, fvs_emp ha⟩, q n' _ H' F' I' e hp⟩
  | new ds =>
    obtain ⟨p, xs, rfl, hs, ha, _⟩ := r.1
    exact ⟨_, .inl ⟨_, SqL.of hs, fvs_emp ha⟩, q n' _ H' F' I' e hp⟩
  | st => exact hp.elim
def twAnd (a b : TW) : TW := fun n env post => a n env fun n1 k => match k with
  | true => b n1 env post
  | false => post n1 false
def twOr (a b : TW) : TW := fun n env post => a n env fun n1 k => match k with
  | true => post n1 true
  | false => b n1 env post
def twNot (a : TW) : TW := fun n env post => a n env fun n1 k => post n1 (!k)
def twYes : TW := fun n _ post => post n true
theorem snt_yes : SndT K tYes twYes := fun C hK n env post σ H F Q I R hm q => q n true H F I (Ext3.refl _ _ _) hm
theorem snt_and {t u : TT} {a b : TW} (ha : SndT K t a) (hb : SndT K u b) : SndT K (tAnd t u) (twAnd a b) := by
  intro C hK n env post σ H F Q I R hm q
  refine ha C hK n env _ σ H F _ I R hm fun n' k H' F' I' e hp => ?_
  cases k with
  | true =>
    show (if true = true then _ else _)
    rw [if_pos rfl]
    exact hb C hK n' env post σ H' F' Q I' (relE_ext I e R) hp fun n2 k2 H2 F2 I2 e2 hp2 => q n2 k2 H2 F2 I2 (e.trans e2) hp2
  | false =>
    show (if false = true then _ else _)
    rw [if_neg Bool.false_ne_true]
    exact q n' _ H' F' I' e hp
theorem snt_or {t u : TT} {a b : TW} (ha : SndT K t a) (hb : SndT K u b) : SndT K (tOr t u) (twOr a b) := by
  intro C hK n env post σ H F Q I R hm q
  refine ha C hK n env _ σ H F _ I R hm fun n' k H' F' I' e hp => ?_
  cases k with
  | false =>
    show (if false = true then _ else _)
    rw [if_neg Bool.false_ne_true]
    exact hb C hK n' env post σ H' F' Q I' (relE_ext I e R) hp fun n2 k2 H2 F2 I2 e2 hp2 => q n2 k2 H2 F2 I2 (e.trans e2) hp2
  | true =>
    show (if true = true then _ else _)
    rw [if_pos rfl]
    exact q n' _ H' F' I' e hp
theorem snt_not {t : TT} {a : TW} (ha : SndT K t a) : SndT K (tNot t) (twNot a) := by
  intro C hK n env post σ H F Q I R hm q
  exact ha C hK n env _ σ H F _ I R hm fun n' k H' F' I' e hp => q n' _ H' F' I' e hp
def eIf (c : TW) (a b : EW) : EW := fun n env post => c n env fun n1 k => match k with
  | true => a n1 env post
  | false => b n1 env post
theorem snd_if {t : TT} {c : TW} {ta tb : TE} {a b : EW} (hc : SndT K t c) (ha : SndE K ta a) (hb : SndE K tb b) : SndE K (tIf t ta tb) (eIf c a b) := by
  intro C hK n env post σ H F Q I R hm q
  refine hc C hK n env _ σ H F _ I R hm fun n' k H' F' I' e hp => ?_
  cases k with
  | true =>
    show (if true = true then _ else _)
    rw [if_pos rfl]
    exact ha C hK n' env post σ H' F' Q I' (relE_ext I e R) hp fun n2 w2 v2 H2 F2 I2 e2 r2 hp2 => q n2 w2 v2 H2 F2 I2 (e.trans e2) (relR_back e r2) hp2
  | false =>
    show (if false = true then _ else _)
    rw [if_neg Bool.false_ne_true]
    exact hb C hK n' env post σ H' F' Q I' (relE_ext I e R) hp fun n2 w2 v2 H2 F2 I2 e2 r2 hp2 => q n2 w2 v2 H2 F2 I2 (e.trans e2) (relR_back e r2) hp2
def chT (g' : GW2) (mc : EW) (env : Env3) (post : Nat → Val → Prop) (b : Val) : Nat → Val → Prop := fun n3 z => match z with
  | .dat (.bool true) => frzW mc n3 env fun n4 c => g' n4 b c post
  | .dat (.bool false) => post n3 (.dat (.bool false))
  | _ => False
def eChain (g g' : GW2) (ma mb mc : EW) : EW := fun n env post => frzW ma n env fun n1 a => frzW mb n1 env fun n2 b => g n2 a b (chT g' mc env post b)
theorem snd_chain {r r' : R2} {g g' : GW2} {ta tb tc : TE} {ma mb mc : EW} (hr : SndOp K r g) (hr' : SndOp K r' g') (ha : SndE K ta ma) (hb : SndE K tb mb) (hc : SndE K tc mc) : SndE K (tChain r r' ta tb tc) (eChain g g' ma mb mc) := by
  intro C hK n env post σ H F Q I R hm q
  refine snd_frz ha C hK n env (fun n1 a => frzW mb n1 env fun n2 b => g n2 a b (chT g' mc env post b)) σ H F _ I R hm fun n1 a x H1 F1 I1 e1 r1 hp => ?_
  refine snd_frz hb C hK n1 env (fun n2 b => g n2 a b (chT g' mc env post b)) σ H1 F1 _ I1 (relE_ext I e1 R) hp fun n2 b y H2 F2 I2 e2 r2 hp2 => ?_
  refine hr C hK n2 a b x y H2 F2 _ _ I2 (relV_ext I1 e2 r1.1) r2.1 hp2 fun n3 w v H3 F3 I3 e3 r3 hp3 => ?_
  have e123 := (e1.trans e2).trans e3
  unfold chT at hp3
  split at hp3
  · refine ⟨true, fv_bl r3.1, ?_⟩
    rw [if_pos rfl]
    refine snd_frz hc C hK n3 env (fun n4 c => g' n4 b c post) σ H3 F3 _ I3 (relE_ext I e123 R) hp3 fun n4 c z H4 F4 I4 e4 r4 hp4 => ?_
    exact hr' C hK n4 b c y z H4 F4 post Q I4 (relV_ext I2 (e3.trans e4) r2.1) r4.1 hp4 fun n5 w5 v5 H5 F5 I5 e5 r5 hp5 => q n5 w5 v5 H5 F5 I5 (e123.trans (e4.trans e5)) (relR_back (e123.trans e4) r5) hp5
  · refine ⟨false, fv_bl r3.1, ?_⟩
    rw [if_neg Bool.false_ne_true]
    exact q n3 _ _ H3 F3 I3 e123 (relV_dat (.bl _)) hp3
  · exact hp3.elim
end
end K0

/-! LC: slices, built-ins, walks, comprehensions. -/
namespace K0
open PySem PySem.Spec PyProof.Rows L2 W0 W1 W2 W5 W6 V0 V1 V6
section
variable {C : Run} {F : Addr → Prop} {H : Hp}
theorem fvs_drop : ∀ {vs : List V} {ds : List PyData} (k : Nat), FvAll C.K F H vs ds → FvAll C.K F H (vs.drop k) (ds.drop k)
  | _, _, 0, h => h
  | _, _, k + 1, .nil => .nil
  | _, _, k + 1, .cons _ h => fvs_drop k h
theorem fvs_take : ∀ {vs : List V} {ds : List PyData} (k : Nat), FvAll C.K F H vs ds → FvAll C.K F H (vs.take k) (ds.take k)
  | _, _, 0, _ => .nil
  | _, _, k + 1, .nil => .nil
  | _, _, k + 1, .cons a h => .cons a (fvs_take k h)
end
def cutD (xs : List PyData) (lo hi : Option Int) : List PyData := (xs.drop (HT.sIx xs.length 0 lo)).take (HT.sIx xs.length xs.length hi - HT.sIx xs.length 0 lo)
theorem fvs_cut {C : Run} {F : Addr → Prop} {H : Hp} {vs : List V} {ds : List PyData} (h : FvAll C.K F H vs ds) (lo hi : Option Int) : FvAll C.K F H (cutV vs lo hi) (cutD ds lo hi) := by
  unfold cutV cutD
  rw [fvs_len h]
  exact fvs_take _ (fvs_drop _ h)
def oNone : OW := fun n _ post => post n none
def oSome (m : EW) : OW := fun n env post => m n env fun n1 w => match w with
  | .dat (.int i) => post n1 (some i)
  | _ => False
section
variable {K : PySem.W.Frag}
variable (K) in
def SndO (t : TO) (m : OW) : Prop := ∀ (C : Run), C.K = K → ∀ (n : Nat) (env : Env3) (post : Nat → Option Int → Prop) (σ : L2.St) (H : Hp) (F : Addr → Prop) (Q : Option Int → Hp → Prop), Inv3 C H F n → RelE C F H σ env → m n env post →
  (∀ n' o H' F', Inv3 C H' F' n' → Ext3 C F H F' H' → post n' o → Q o H') → t σ H Q
theorem sno_none : SndO K tNoPart oNone := fun C hK n env post σ H F Q I R hm q => q n none H F I (Ext3.refl _ _ _) hm
theorem sno_some {t : TE} {m : EW} (h : SndE K t m) : SndO K (tPart t) (oSome m) := by
  intro C hK n env post σ H F Q I R hm q
  refine h C hK n env _ σ H F _ I R hm fun n' w v H' F' I' e r hp => ?_
  split at hp
  · exact ⟨_, fv_int r.1, q n' _ H' F' I' e hp⟩
  · exact hp.elim
def eSl (v : Val → Option (List PyData)) (mk : List PyData → Val) (m : EW) (lo hi : OW) : EW := fun n env post => frzW m n env fun n1 w => lo n1 env fun n2 l => hi n2 env fun n3 u => match v w with
  | some ds => post n3 (mk (cutD ds l u))
  | none => False
theorem snd_slT {t : TE} {m : EW} {tl th : TO} {lo hi : OW} (h : SndE K t m) (hl : SndO K tl lo) (hh : SndO K th hi) : SndE K (tSl (rSlW K) t tl th) (eSl asT (fun ds => .dat (.tuple ds)) m lo hi) := by
  intro C hK n env post σ H F Q I R hm q
  subst hK
  refine snd_frz h C rfl n env (fun n1 w => lo n1 env fun n2 l => hi n2 env fun n3 u => match asT w with | some ds => post n3 (.dat (.tuple (cutD ds l u))) | none => False) σ H F _ I R hm fun n1 w v H1 F1 I1 e1 r1 hp => ?_
  refine hl C rfl n1 env _ σ H1 F1 _ I1 (relE_ext I e1 R) hp fun n2 l H2 F2 I2 e2 hp2 => ?_
  refine hh C rfl n2 env _ σ H2 F2 _ I2 (relE_ext I (e1.trans e2) R) hp2 fun n3 u H3 F3 I3 e3 hp3 => ?_
  split at hp3
  · rename_i ds hw
    obtain ⟨p, xs, rfl, hs, hx⟩ := relT (relV_ext I1 (e2.trans e3) r1.1) hw
    refine ⟨p, xs, rfl, hs, fun b H4 e4 hb => ?_⟩
    have x4 := Ext3.of (C := C) (F := F3) e4
    exact q n3 _ _ H4 F3 (I3.sames e4) ((e1.trans (e2.trans e3)).trans x4) (relV_dat (.tup hb (I3.fvs x4 (fvs_cut hx l u)))) hp3
  · exact hp3.elim
theorem snd_slL {t : TE} {m : EW} {tl th : TO} {lo hi : OW} (h : SndE K t m) (hl : SndO K tl lo) (hh : SndO K th hi) : SndE K (tSl (rSlL K) t tl th) (eSl asL (fun ds => .new ds) m lo hi) := by
  intro C hK n env post σ H F Q I R hm q
  subst hK
  refine snd_frz h C rfl n env (fun n1 w => lo n1 env fun n2 l => hi n2 env fun n3 u => match asL w with | some ds => post n3 (.new (cutD ds l u)) | none => False) σ H F _ I R hm fun n1 w v H1 F1 I1 e1 r1 hp => ?_
  refine hl C rfl n1 env _ σ H1 F1 _ I1 (relE_ext I e1 R) hp fun n2 l H2 F2 I2 e2 hp2 => ?_
  refine hh C rfl n2 env _ σ H2 F2 _ I2 (relE_ext I (e1.trans e2) R) hp2 fun n3 u H3 F3 I3 e3 hp3 => ?_
  split at hp3
  · rename_i ds hw
    obtain ⟨p, xs, rfl, hs, hx⟩ := relL (relV_ext I1 (e2.trans e3) r1.1) hw
    have e := e1.trans (e2.trans e3)
    exact ⟨p, xs, rfl, SqL.of hs, new_list I3 (fvs_cut hx l u) hp3 fun n' w' v' H' F' I' e' r' hp' => q n' w' v' H' F' I' (e.trans e') (relR_back e r') hp'⟩
  · exact hp3.elim
/-! ### calls -/
def eCB (g : GB) (ms : AW) : EW := fun n env post => ms n env fun n1 ws => g n1 ws post
theorem snd_cb {r : List V → Hp → VK → Prop} {g : GB} {ts : TA} {ms : AW} {k : Nat} (hr : SndB K r g) (hs : SndA K ts ms k) : SndE K (tCB r ts) (eCB g ms) := by
  intro C hK n env post σ H F Q I R hm q
  refine hs C hK n env _ σ H F _ I R hm fun n' ws vs H' F' I' e r hl hp => ?_
  exact hr C hK n' ws vs H' F' post Q I' r hp fun n2 w v H2 F2 I2 e2 r2 hp2 => q n2 w v H2 F2 I2 (e.trans e2) (relR_back e r2) hp2
theorem snd_call {sp : Sp} {g : GB} {ts : TA} {ms : AW} {k : Nat} (hr : SndB K (fun vs H Q => sp vs H Q E0) g) (hs : SndA K ts ms k) : SndE K (tCall sp [] E0 ts) (eCB g ms) := by
  intro C hK n env post σ H F Q I R hm q
  refine hs C hK n env _ σ H F _ I R hm fun n' ws vs H' F' I' e r hl hp => ?_
  show sp (vs ++ []) H' Q E0
  rw [List.append_nil]
  exact hr C hK n' ws vs H' F' post Q I' r hp fun n2 w v H2 F2 I2 e2 r2 hp2 => q n2 w v H2 F2 I2 (e.trans e2) (relR_back e r2) hp2
theorem relVs1 {C : Run} {F : Addr → Prop} {H : Hp} {vs : List V} {w : Val} (h : RelVs C F H vs [w]) : ∃ v, vs = [v] ∧ RelV C F H v w := by
  cases h with
  | cons a b => cases b; exact ⟨_, rfl, a⟩
theorem relVs2 {C : Run} {F : Addr → Prop} {H : Hp} {vs : List V} {w u : Val} (h : RelVs C F H vs [w, u]) : ∃ v x, vs = [v, x] ∧ RelV C F H v w ∧ RelV C F H x u := by
  cases h with
  | cons a b =>
    obtain ⟨x, rfl, c⟩ := relVs1 b
    exact ⟨_, x, rfl, a, c⟩
theorem relVs3 {C : Run} {F : Addr → Prop} {H : Hp} {vs : List V} {w u z : Val} (h : RelVs C F H vs [w, u, z]) : ∃ v x y, vs = [v, x, y] ∧ RelV C F H v w ∧ RelV C F H x u ∧ RelV C F H y z := by
  cases h with
  | cons a b =>
    obtain ⟨x, y, rfl, c, d⟩ := relVs2 b
    exact ⟨_, x, y, rfl, a, c, d⟩
def gLen : GB := fun n ws post => match ws with
  | [w] => (match asS w with
    | some ds => post n (.dat (.int (ds.length : Int)))
    | none => False)
  | _ => False
theorem snb_len : SndB K (fun xs H Q => ∃ p ys, xs = [.ref p] ∧ (SqL K H p ys ∨ SqT K H p ys) ∧ Q (.int ys.length) H) gLen := by
  intro C hK n ws vs H F post Q I r hm q
  subst hK
  unfold gLen at hm
  split at hm
  · obtain ⟨v, rfl, rv⟩ := relVs1 r
    split at hm
    · rename_i ds hw
      obtain ⟨p, xs, rfl, hs, hx⟩ := relS rv hw
      refine ⟨p, xs, rfl, hs, ?_⟩
      rw [fvs_len hx]
      exact q n _ _ H F I (Ext3.refl _ _ _) (relV_dat (.int _)) hm
    · exact hm.elim
  · exact hm.elim
def gTupOf : GB := fun n ws post => match ws with
  | [w] => (match asS w with
    | some ds => post n (.dat (.tuple ds))
    | none => False)
  | _ => False
theorem snb_tup : SndB K (rTup K) gTupOf := by
  intro C hK n ws vs H F post Q I r hm q
  subst hK
  unfold gTupOf at hm
  split at hm
  · obtain ⟨v, rfl, rv⟩ := relVs1 r
    split at hm
    · rename_i ds hw
      obtain ⟨p, xs, rfl, hs, hx⟩ := relS rv hw
      rcases hs with hs | hs
      · refine ⟨p, xs, rfl, .inl ⟨hs, fun l nl => ?_⟩⟩
        have e2 := Ext3.of (C := C) (F := F) (same_new (o := .tup xs) nl)
        exact q n _ _ _ F (I.sames (same_new nl)) e2 (relV_dat (.tup (SqT.of upd_same) (I.fvs e2 hx))) hm
      · exact ⟨p, xs, rfl, .inr ⟨hs, q n _ _ H F I (Ext3.refl _ _ _) (relV_dat (.tup hs hx)) hm⟩⟩
    · exact hm.elim
  · exact hm.elim
def gListOf : GB := fun n ws post => match ws with
  | [w] => (match asS w with
    | some ds => post n (.new ds)
    | none => False)
  | _ => False
theorem snb_list : SndB K (fun xs H Q => ∃ p ys, xs = [.ref p] ∧ (SqL K H p ys ∨ SqT K H p ys) ∧ ∀ l, H l = none → Q (.ref l) (upd H l (.lst ys))) gListOf := by
  intro C hK n ws vs H F post Q I r hm q
  subst hK
  unfold gListOf at hm
  split at hm
  · obtain ⟨v, rfl, rv⟩ := relVs1 r
    split at hm
    · rename_i ds hw
      obtain ⟨p, xs, rfl, hs, hx⟩ := relS rv hw
      exact ⟨p, xs, rfl, hs, new_list I hx hm q⟩
    · exact hm.elim
  · exact hm.elim
def intsD : List PyData → Option (List Int)
  | [] => some []
  | .int i :: ds => (intsD ds).map (i :: ·)
  | _ :: _ => none
theorem intsD_map (l : List Int) : intsD (l.map PyData.int) = some l := by
  induction l with
  | nil => rfl
  | cons x l ih =>
    show (intsD (l.map PyData.int)).map (x :: ·) = _
    rw [ih]
    rfl
theorem fvs_ints {C : Run} {F : Addr → Prop} {H : Hp} : ∀ {vs : List V} {ds : List PyData} {ns : List Int}, FvAll C.K F H vs ds → intsD ds = some ns → vs = ns.map V.int
  | _, _, _, .nil, e => by cases e; rfl
  | _, .int i :: ds, ns, .cons h hs, e => by
    have e' : (intsD ds).map (i :: ·) = some ns := e
    obtain ⟨es, h1, rfl⟩ := Option.map_eq_some_iff.mp e'
    rw [fv_int h, fvs_ints hs h1]
    rfl
  | _, .none :: _, _, .cons _ _, e => by cases e
  | _, .bool _ :: _, _, .cons _ _, e => by cases e
  | _, .str _ :: _, _, .cons _ _, e => by cases e
  | _, .list _ :: _, _, .cons _ _, e => by cases e
  | _, .tuple _ :: _, _, .cons _ _, e => by cases e
  | _, .dict _ :: _, _, .cons _ _, e => by cases e
theorem fv_ints {C : Run} {F : Addr → Prop} {H : Hp} : ∀ l : List Int, FvAll C.K F H (l.map V.int) (l.map PyData.int)
  | [] => .nil
  | x :: l => .cons (.int x) (fv_ints l)
def gSortI : GB := fun n ws post => match ws with
  | [w] => (match (asL w).bind intsD with
    | some ns => ns.length < 64 ∧ ∀ ms : List Int, ms.Perm ns → ms.Pairwise (· ≤ ·) → post n (.new (ms.map PyData.int))
    | none => False)
  | _ => False
theorem snb_sortI : SndB K (rSorted K) gSortI := by
  intro C hK n ws vs H F post Q I r hm q
  subst hK
  unfold gSortI at hm
  split at hm
  · obtain ⟨v, rfl, rv⟩ := relVs1 r
    split at hm
    · rename_i ns hw
      obtain ⟨ds, h1, h2⟩ := Option.bind_eq_some_iff.mp hw
      obtain ⟨p, xs, rfl, hs, hx⟩ := relL rv h1
      rw [fvs_ints hx h2] at hs
      exact ⟨p, ns, rfl, SqL.of hs, hm.1, fun ms p' hp hs' np => new_list I (fv_ints ms) (hm.2 ms hp hs') q p' np⟩
    · exact hm.elim
  · exact hm.elim
def gMax : GB := fun n ws post => match ws with
  | [.dat (.int i), .dat (.int j)] => post n (.dat (.int (if j > i then j else i)))
  | _ => False
theorem snb_max : SndB K (fun xs H Q => ∃ i j, xs = [.int i, .int j] ∧ Q (.int (if j > i then j else i)) H) gMax := by
  intro C hK n ws vs H F post Q I r hm q
  unfold gMax at hm
  split at hm
  · obtain ⟨v, x, rfl, rv, rx⟩ := relVs2 r
    exact ⟨_, _, by rw [fv_int rv, fv_int rx], q n _ _ H F I (Ext3.refl _ _ _) (relV_dat (.int _)) hm⟩
  · exact hm.elim
def gInt : GB := fun n ws post => match ws with
  | [.dat (.int i)] => post n (.dat (.int i))
  | _ => False
theorem snb_int : SndB K (fun xs H Q => (∃ i, xs = [.int i] ∧ Q (.int i) H) ∨ ∃ k, xs = [.bl k] ∧ Q (.int (if k then 1 else 0)) H) gInt := by
  intro C hK n ws vs H F post Q I r hm q
  unfold gInt at hm
  split at hm
  · obtain ⟨v, rfl, rv⟩ := relVs1 r
    exact .inl ⟨_, by rw [fv_int rv], q n _ _ H F I (Ext3.refl _ _ _) (relV_dat (.int _)) hm⟩
  · exact hm.elim
def gSum : GB := fun n ws post => match ws with
  | [w] => (match (asL w).bind intsD with
    | some ns => post n (.dat (.int ns.sum))
    | none => False)
  | _ => False
theorem snb_sum : SndB K (rSum K) gSum := by
  intro C hK n ws vs H F post Q I r hm q
  subst hK
  unfold gSum at hm
  split at hm
  · obtain ⟨v, rfl, rv⟩ := relVs1 r
    split at hm
    · rename_i ns hw
      obtain ⟨ds, h1, h2⟩ := Option.bind_eq_some_iff.mp hw
      obtain ⟨p, xs, rfl, hs, hx⟩ := relL rv h1
      rw [fvs_ints hx h2] at hs
      exact ⟨p, ns, rfl, SqL.of hs, q n _ _ H F I (Ext3.refl _ _ _) (relV_dat (.int _)) hm⟩
    · exact hm.elim
  · exact hm.elim
/-- isinstance(x, tuple) -/
@[irreducible] def eIsTup (m : EW) : EW := fun n env post => m n env fun n1 w => match w with
  | .dat (.tuple _) => post n1 (.dat (.bool true))
  | .dat (.int _) => post n1 (.dat (.bool false))
  | .dat (.str _) => post n1 (.dat (.bool false))
  | _ => False
theorem snd_isTup {t : TE} {m : EW} (h : SndE K t m) : SndE K (tCB (V7.rIsTup K) (tCons t (tCons (tC (.ty "tuple")) tNil))) (eIsTup m) := by
  intro C hK n env post σ H F Q I R hm q
  subst hK
  unfold eIsTup at hm
  refine h C rfl n env _ σ H F _ I R hm fun n' w v H' F' I' e r hp => ?_
  split at hp
  · obtain ⟨p, xs, rfl, hs, hx⟩ := relT r.1 rfl
    exact ⟨_, rfl, .inl ⟨⟨p, xs, rfl, hs⟩, q n' _ _ H' F' I' e (relV_dat (.bl _)) hp⟩⟩
  · exact ⟨_, rfl, .inr ⟨.inr ⟨_, fv_int r.1⟩, q n' _ _ H' F' I' e (relV_dat (.bl _)) hp⟩⟩
  · exact ⟨_, rfl, .inr ⟨.inl ⟨_, fv_str r.1⟩, q n' _ _ H' F' I' e (relV_dat (.bl _)) hp⟩⟩
  · exact hp.elim
/-- sorted(set(x)) of ints -/
def ssW (n1 : Nat) (w : Val) (post : Nat → Val → Prop) : Prop := match (asS w).bind intsD with
  | some ns => ns.length ≤ 60 ∧ ∀ ms : List Int, ms.Pairwise (· < ·) → (∀ k, k ∈ ms ↔ k ∈ ns) → post n1 (.new (ms.map PyData.int))
  | none => False
def eSortSet (m : EW) : EW := fun n env post => frzW m n env fun n1 w => ssW n1 w post
theorem snd_sortSet {w : World} {t : TE} {m : EW} (h : SndE K t m) : SndE K (tCB (rSortedSet w) (tCons (tCB (rSetN K w) (tCons t tNil)) tNil)) (eSortSet m) := by
  intro C hK n env post σ H F Q I R hm q
  subst hK
  refine snd_frz h C rfl n env (fun n1 u => ssW n1 u post) σ H F _ I R hm fun n' u v H' F' I' e r hp => ?_
  unfold ssW at hp
  split at hp
  · rename_i ns hw
    obtain ⟨ds, h1, h2⟩ := Option.bind_eq_some_iff.mp hw
    obtain ⟨p, xs, rfl, hs, hx⟩ := relS r.1 h1
    rw [fvs_ints hx h2] at hs
    refine ⟨p, ns, rfl, hs, hp.1, fun a k na hk => ?_⟩
    have ea := same_new (o := SetO w a (fun j => decide (j ∈ ns)) k) na
    have e2 := Ext3.of (C := C) (F := F') ea
    refine ⟨a, _, k, rfl, upd_same, by have := hp.1; omega, fun ms p' asc mem _ np => ?_⟩
    have hm' := hp.2 ms asc fun k => (mem k).trans decide_eq_true_iff
    exact new_list (I'.sames ea) (fv_ints ms) hm' (fun n2 w2 v2 H2 F2 I2 e3 r2 hp2 => q n2 w2 v2 H2 F2 I2 (e.trans (e2.trans e3)) (relR_back (e.trans e2) r2) hp2) p' np
  · exact hp.elim
/-! ### walks -/
abbrev IW := Nat → Env3 → (Nat → List PyData → Prop) → Prop
def IterOk (C : Run) (J : It) (items : List PyData) : Prop := ∃ (G : Hp → Prop) (Y : Nat → Hp → V → Hp → Prop), L2.Walk J items.length G Y ∧ (∀ H F n, Inv3 C H F n → G H) ∧ ∀ (i : Nat) H x H3 F n, Inv3 C H F n → i < items.length → Y i H x H3 → ∃ d, items[i]? = some d ∧ Same H H3 ∧ Fv C.K F H3 x d
def Run.also (C : Run) (hs : List Src) : Run := { C with held := hs ++ C.held }
variable (K) in
def SndI (wi : TI) (iw : IW) : Prop := ∀ (C : Run), C.K = K → ∀ (n : Nat) (env : Env3) (post : Nat → List PyData → Prop) (σ : L2.St) (H : Hp) (F : Addr → Prop) (R : It → Hp → Prop), Inv3 C H F n → RelE C F H σ env → iw n env post →
  (∀ n' items J H' F' hs, Inv3 (C.also hs) H' F' n' → Ext3 C F H F' H' → IterOk (C.also hs) J items → post n' items → R J H') → wi σ H R
theorem Inv3.hold' {C : Run} {H : Hp} {F : Addr → Prop} {n : Nat} (I : Inv3 C H F n) {hs : List Src} (h : ∀ f ∈ hs, Hold C.K F H f) : Inv3 (C.also hs) H F n :=
  ⟨I.f0, I.fn, I.same, I.nx, I.st, fun f m => (List.mem_append.mp m).elim (h f) (I.held f), I.cst, I.fh⟩
theorem Inv3.less {C : Run} {H : Hp} {F : Addr → Prop} {n : Nat} {hs : List Src} (I : Inv3 (C.also hs) H F n) : Inv3 C H F n :=
  ⟨I.f0, I.fn, I.same, I.nx, I.st, fun f m => I.held f (List.mem_append_right _ m), I.cst, I.fh⟩
theorem Ext3.more {C : Run} {F F' : Addr → Prop} {H H' : Hp} (e : Ext3 C F H F' H') (hs : List Src) : Ext3 (C.also hs) F H F' H' := ⟨e.f, e.g, e.h⟩
theorem Ext3.less {C : Run} {F F' : Addr → Prop} {H H' : Hp} {hs : List Src} (e : Ext3 (C.also hs) F H F' H') : Ext3 C F H F' H' := ⟨e.f, e.g, e.h⟩
theorem relV_more {C : Run} {F : Addr → Prop} {H : Hp} {v : V} {hs : List Src} : ∀ {w : Val}, RelV C F H v w → RelV (C.also hs) F H v w
  | .dat _, h => h
  | .own _, h => h
  | .new _, h => h
  | .st, h => h
theorem relV_less {C : Run} {F : Addr → Prop} {H : Hp} {v : V} {hs : List Src} : ∀ {w : Val}, RelV (C.also hs) F H v w → RelV C F H v w
  | .dat _, h => h
  | .own _, h => h
  | .new _, h => h
  | .st, h => h
theorem RelE.more {C : Run} {F : Addr → Prop} {H : Hp} {σ : L2.St} {env : Env3} (R : RelE C F H σ env) (hs : List Src) : RelE (C.also hs) F H σ env :=
  ⟨R.len, fun i w h => let ⟨v, a, b⟩ := R.at_ i w h; ⟨v, a, relV_more b⟩, R.inj, R.nonew⟩
theorem RelE.less {C : Run} {F : Addr → Prop} {H : Hp} {σ : L2.St} {env : Env3} {hs : List Src} (R : RelE (C.also hs) F H σ env) : RelE C F H σ env :=
  ⟨R.len, fun i w h => let ⟨v, a, b⟩ := R.at_ i w h; ⟨v, a, relV_less b⟩, R.inj, R.nonew⟩
def iSeq (v : Val → Option (List PyData)) (m : EW) : IW := fun n env post => frzW m n env fun n1 w => match v w with
  | some ds => post n1 ds
  | none => False
def datL : Val → Option (List PyData)
  | .dat (.list ds) => some ds
  | _ => none
theorem sni_list {t : TE} {m : EW} (h : SndE K t m) : SndI K (iList K t) (iSeq datL m) := by
  intro C hK n env post σ H F R0 I R hm q
  subst hK
  refine snd_frz h C rfl n env (fun n1 w => match datL w with | some ds => post n1 ds | none => False) σ H F _ I R hm fun n' w v H' F' I' e r hp => ?_
  split at hp
  · rename_i ds hw
    cases w with
    | dat d =>
      cases d with
      | list es =>
        cases hw
        have r1 : Fv C.K F' H' v (.list ds) := r.1
        cases r1 with
        | @lst a xs _ f hs hx =>
          refine ⟨a, rfl, ⟨xs, SqL.of hs⟩, q n' ds _ H' F' [⟨false, a, xs, ds⟩] (I'.hold' fun f' m' => ?_) e ?_ hp⟩
          · rw [List.mem_singleton.mp m']
            exact ⟨⟨f, hs⟩, hx⟩
          · have hw' := walk_list (K := C.K) (a := a) (xs := xs)
            rw [fvs_len hx] at hw'
            refine ⟨_, _, hw', fun H F n I => ?_, fun i H x H3 F n I hi y => ?_⟩
            · exact SqL.of (I.held ⟨false, a, xs, ds⟩ (List.mem_cons_self)).1.2
            · obtain ⟨rfl, hxi⟩ := y
              have hh := (I.held ⟨false, a, xs, ds⟩ (List.mem_cons_self)).2
              obtain ⟨d, hd, fd⟩ := fvs_get' hh hxi
              exact ⟨d, hd, Same.refl _, fd⟩
      | _ => cases hw
    | _ => cases hw
  · exact hp.elim
theorem sni_tup {t : TE} {m : EW} (h : SndE K t m) : SndI K (iTup K t) (iSeq asT m) := by
  intro C hK n env post σ H F R0 I R hm q
  subst hK
  refine snd_frz h C rfl n env (fun n1 w => match asT w with | some ds => post n1 ds | none => False) σ H F _ I R hm fun n' w v H' F' I' e r hp => ?_
  split at hp
  · rename_i ds hw
    obtain ⟨a, xs, rfl, hs, hx⟩ := relT r.1 hw
    refine ⟨a, rfl, ⟨xs, hs⟩, q n' ds _ H' F' [⟨true, a, xs, ds⟩] (I'.hold' fun f' m' => ?_) e ?_ hp⟩
    · rw [List.mem_singleton.mp m']
      exact ⟨hs, hx⟩
    · have hw' := walk_tup (K := C.K) (a := a) (xs := xs)
      rw [fvs_len hx] at hw'
      refine ⟨_, _, hw', fun H F n I => ?_, fun i H x H3 F n I hi y => ?_⟩
      · exact (I.held ⟨true, a, xs, ds⟩ (List.mem_cons_self)).1
      · obtain ⟨rfl, hxi⟩ := y
        have hh := (I.held ⟨true, a, xs, ds⟩ (List.mem_cons_self)).2
        obtain ⟨d, hd, fd⟩ := fvs_get' hh hxi
        exact ⟨d, hd, Same.refl _, fd⟩
  · exact hp.elim
def rgD (lo : Int) (k : Nat) : List PyData := (List.range k).map fun (i : Nat) => PyData.int (lo + (i : Int))
theorem rgD_len (lo : Int) (k : Nat) : (rgD lo k).length = k := by unfold rgD; rw [List.length_map, List.length_range]
theorem rgD_get {lo : Int} {k i : Nat} (h : i < k) : (rgD lo k)[i]? = some (.int (lo + (i : Int))) := by
  unfold rgD
  rw [List.getElem?_map, List.getElem?_range h]
  rfl
theorem iter_rg {C : Run} {lo : Int} {k : Nat} : IterOk C (Itr lo k) (rgD lo k) := by
  have hw := walk_range (lo := lo) (n := k)
  rw [← rgD_len lo k] at hw
  rw [rgD_len lo k] at hw
  refine ⟨_, _, (by rw [rgD_len]; exact hw), fun _ _ _ _ => trivial, fun i H x H3 F n I hi y => ?_⟩
  obtain ⟨rfl, rfl⟩ := y
  rw [rgD_len] at hi
  exact ⟨_, rgD_get hi, Same.refl _, .int _⟩
def iRg1 (m : EW) : IW := fun n env post => m n env fun n1 w => match w with
  | .dat (.int j) => -1000000000 ≤ j ∧ j ≤ 1000000000 ∧ post n1 (rgD 0 j.toNat)
  | _ => False
theorem sni_rg1 {t : TE} {m : EW} (h : SndE K t m) : SndI K (iRng1 (tCons t tNil)) (iRg1 m) := by
  intro C hK n env post σ H F R0 I R hm q
  refine h C hK n env _ σ H F _ I R hm fun n' w v H' F' I' e r hp => ?_
  split at hp
  · rename_i j
    refine ⟨j, by rw [fv_int r.1], by omega, by omega, q n' _ _ H' F' [] (I'.hold' fun _ m => by cases m) e iter_rg hp.2.2⟩
  · exact hp.elim
def iRg2 (m m' : EW) : IW := fun n env post => m n env fun n1 w => m' n1 env fun n2 u => match w, u with
  | .dat (.int i), .dat (.int j) => -1000000000 ≤ i ∧ i ≤ 1000000000 ∧ -1000000000 ≤ j ∧ j ≤ 1000000000 ∧ post n2 (rgD i (j - i).toNat)
  | _, _ => False
theorem sni_rg2 {t t' : TE} {m m' : EW} (h : SndE K t m) (h' : SndE K t' m') : SndI K (iRng2 (tCons t (tCons t' tNil))) (iRg2 m m') := by
  intro C hK n env post σ H F R0 I R hm q
  refine h C hK n env _ σ H F _ I R hm fun n1 w v H1 F1 I1 e1 r1 hp1 => ?_
  refine h' C hK n1 env _ σ H1 F1 _ I1 (relE_ext I e1 R) hp1 fun n2 u x H2 F2 I2 e2 r2 hp => ?_
  split at hp
  · rename_i i j
    have rv : v = .int i := fv_int r1.1
    refine ⟨i, j, by rw [rv, fv_int r2.1], ⟨by omega, by omega, by omega, by omega⟩, q n2 _ _ H2 F2 [] (I2.hold' fun _ m => by cases m) (e1.trans e2) iter_rg hp.2.2.2.2⟩
  · exact hp.elim
def enumD : Nat → List PyData → List PyData
  | _, [] => []
  | k, d :: ds => .tuple [.int (k : Int), d] :: enumD (k + 1) ds
theorem enumD_len : ∀ (k : Nat) (ds : List PyData), (enumD k ds).length = ds.length
  | _, [] => rfl
  | k, d :: ds => congrArg (· + 1) (enumD_len (k + 1) ds)
theorem enumD_get : ∀ {k : Nat} {ds : List PyData} {i : Nat} {d : PyData}, ds[i]? = some d → (enumD k ds)[i]? = some (.tuple [.int ((k + i : Nat) : Int), d])
  | k, d :: ds, 0, _, h => by cases h; rfl
  | k, d :: ds, i + 1, e, h => by
    show (enumD (k + 1) ds)[i]? = _
    rw [enumD_get (k := k + 1) (show ds[i]? = some e from h), show k + 1 + i = k + (i + 1) by omega]
def iEnD (v : Val → Option (List PyData)) (m : EW) : IW := fun n env post => frzW m n env fun n1 w => match v w with
  | some ds => post n1 (enumD 0 ds)
  | none => False
theorem fv_pair {K : PySem.W.Frag} {F : Addr → Prop} {H : Hp} {T : Addr} {x y : V} {d e : PyData} (nT : H T = none) (h : Fv K F H x d) (g : Fv K F H y e) : Fv K F (upd H T (.tup [x, y])) (.ref T) (.tuple [d, e]) := by
  have es := same_new (o := .tup [x, y]) nT
  have mv := fun d v h => fv_move (K := K) (F := F) (F' := F) (H := H) (H' := upd H T (.tup [x, y])) (fun a xs q => same_tup es q) (fun a xs _ q => es _ _ q) (fun _ q => q) d v h
  exact .tup (SqT.of upd_same) (.cons (mv _ _ h) (.cons (mv _ _ g) .nil))
theorem sni_enL {t : TE} {m : EW} (h : SndE K t m) : SndI K (iEnum K (tCons t tNil)) (iEnD datL m) := by
  intro C hK n env post σ H F R0 I R hm q
  subst hK
  refine snd_frz h C rfl n env (fun n1 w => match datL w with | some ds => post n1 (enumD 0 ds) | none => False) σ H F _ I R hm fun n' w v H' F' I' e r hp => ?_
  split at hp
  · rename_i ds hw
    cases w with
    | dat d =>
      cases d with
      | list es =>
        cases hw
        have r1 : Fv C.K F' H' v (.list ds) := r.1
        cases r1 with
        | @lst a xs _ f hs hx =>
          refine ⟨a, xs, rfl, SqL.of hs, q n' _ _ H' F' [⟨false, a, xs, ds⟩] (I'.hold' fun f' m' => ?_) e ?_ hp⟩
          · rw [List.mem_singleton.mp m']
            exact ⟨⟨f, hs⟩, hx⟩
          · have hw' := walk_enum (K := C.K) (a := a) (xs := xs)
            rw [fvs_len hx, ← enumD_len 0 ds] at hw'
            refine ⟨_, _, hw', fun H F n I => ?_, fun i H x H3 F n I hi y => ?_⟩
            · exact SqL.of (I.held ⟨false, a, xs, ds⟩ (List.mem_cons_self)).1.2
            · obtain ⟨T, x1, x2, rfl, nT, rfl, g1, g2⟩ := y
              cases g1
              have hh := (I.held ⟨false, a, xs, ds⟩ (List.mem_cons_self)).2
              obtain ⟨d, hd, fd⟩ := fvs_get' hh g2
              refine ⟨_, enumD_get hd, same_new nT, ?_⟩
              rw [Nat.zero_add]
              exact fv_pair nT (.int _) fd
      | _ => cases hw
    | _ => cases hw
  · exact hp.elim
theorem sni_enT {t : TE} {m : EW} (h : SndE K t m) : SndI K (V1.iEnT K (tCons t tNil)) (iEnD asT m) := by
  intro C hK n env post σ H F R0 I R hm q
  subst hK
  refine snd_frz h C rfl n env (fun n1 w => match asT w with | some ds => post n1 (enumD 0 ds) | none => False) σ H F _ I R hm fun n' w v H' F' I' e r hp => ?_
  split at hp
  · rename_i ds hw
    obtain ⟨a, xs, rfl, hs, hx⟩ := relT r.1 hw
    refine ⟨a, xs, rfl, hs, q n' _ _ H' F' [⟨true, a, xs, ds⟩] (I'.hold' fun f' m' => ?_) e ?_ hp⟩
    · rw [List.mem_singleton.mp m']
      exact ⟨hs, hx⟩
    · have hw' := V1.walk_enT (K := C.K) (a := a) (xs := xs)
      rw [fvs_len hx, ← enumD_len 0 ds] at hw'
      refine ⟨_, _, hw', fun H F n I => ?_, fun i H x H3 F n I hi y => ?_⟩
      · exact (I.held ⟨true, a, xs, ds⟩ (List.mem_cons_self)).1
      · obtain ⟨T, x2, rfl, nT, rfl, g2⟩ := y
        have hh := (I.held ⟨true, a, xs, ds⟩ (List.mem_cons_self)).2
        obtain ⟨d, hd, fd⟩ := fvs_get' hh g2
        refine ⟨_, enumD_get hd, same_new nT, ?_⟩
        rw [Nat.zero_add]
        exact fv_pair nT (.int _) fd
  · exact hp.elim
end
end K0

/-! LD: targets, comprehensions, statements, defs. -/
namespace K0
open PySem PySem.Spec PyProof.Rows L2 W0 W1 W2 W5 W6 V0 V1 V6
/-! ### slots -/
def Fresh3 (env : Env3) (σ : L2.St) (v : V) (w : Val) : Prop := ∀ (ds : List PyData), w = .new ds → ∀ (j : Nat) (es : List PyData), env[j]? = some (some (Val.own es)) → σ[j]? ≠ some (some v)
def slotV : Val → Option Val
  | .dat d => some (.dat d)
  | .new ds => some (.own ds)
  | .own _ => none
  | .st => some .st
def SetOn (is : List Nat) (σ σ' : L2.St) : Prop := σ'.length = σ.length ∧ ∀ j, j ∉ is → σ'[j]? = σ[j]?
theorem SetOn.refl (is : List Nat) (σ : L2.St) : SetOn is σ σ := ⟨rfl, fun _ _ => rfl⟩
theorem SetOn.trans {is js : List Nat} {σ σ' σ'' : L2.St} (a : SetOn is σ σ') (b : SetOn js σ' σ'') : SetOn (is ++ js) σ σ'' :=
  ⟨b.1.trans a.1, fun j h => (b.2 j fun m => h (List.mem_append_right _ m)).trans (a.2 j fun m => h (List.mem_append_left _ m))⟩
theorem wipe_at (σ : L2.St) : ∀ (vs : List Nat) (j : Nat), (wipe σ vs)[j]? = if j ∈ vs then (σ[j]?).map fun _ => none else σ[j]?
  | [], j => by rw [if_neg (List.not_mem_nil)]; rfl
  | v :: vs, j => by
    show ((wipe σ vs).set v none)[j]? = _
    rw [List.getElem?_set, wipe_length, wipe_at σ vs j]
    by_cases e : v = j
    · subst e
      rw [if_pos rfl, if_pos List.mem_cons_self]
      by_cases h : v < σ.length
      · rw [if_pos h, List.getElem?_eq_getElem h]
        rfl
      · rw [if_neg h, List.getElem?_eq_none (by omega)]
        rfl
    · rw [if_neg e]
      by_cases m : j ∈ vs
      · rw [if_pos m, if_pos (List.mem_cons_of_mem _ m)]
      · rw [if_neg m, if_neg fun z => (List.mem_cons.mp z).elim (fun q => e q.symm) m]
theorem wipe_on {σ σ2 : L2.St} {vs : List Nat} (h : SetOn vs (wipe σ vs) σ2) : wipe σ2 vs = wipe σ vs := by
  refine List.ext_getElem? fun j => ?_
  rw [wipe_at σ2 vs j, wipe_at σ vs j]
  have hl : σ2.length = σ.length := by rw [h.1, wipe_length]
  by_cases m : j ∈ vs
  · rw [if_pos m, if_pos m]
    by_cases c : j < σ.length
    · rw [List.getElem?_eq_getElem c, List.getElem?_eq_getElem (by omega)]
      rfl
    · rw [List.getElem?_eq_none (by omega), List.getElem?_eq_none (by omega)]
  · rw [if_neg m, if_neg m, h.2 j m, wipe_at σ vs j, if_neg m]
def wipeE (env : Env3) : List Nat → Env3
  | [] => env
  | v :: vs => (wipeE env vs).set v none
theorem wipeE_at (σ : Env3) : ∀ (vs : List Nat) (j : Nat), (wipeE σ vs)[j]? = if j ∈ vs then (σ[j]?).map fun _ => none else σ[j]?
  | [], j => by rw [if_neg (List.not_mem_nil)]; rfl
  | v :: vs, j => by
    show ((wipeE σ vs).set v none)[j]? = _
    have hl : ∀ vs : List Nat, (wipeE σ vs).length = σ.length := fun vs => by
      induction vs with
      | nil => rfl
      | cons v vs ih => exact (List.length_set).trans ih
    rw [List.getElem?_set, hl, wipeE_at σ vs j]
    by_cases e : v = j
    · subst e
      rw [if_pos rfl, if_pos List.mem_cons_self]
      by_cases h : v < σ.length
      · rw [if_pos h, List.getElem?_eq_getElem h]
        rfl
      · rw [if_neg h, List.getElem?_eq_none (by omega)]
        rfl
    · rw [if_neg e]
      by_cases m : j ∈ vs
      · rw [if_pos m, if_pos (List.mem_cons_of_mem _ m)]
      · rw [if_neg m, if_neg fun z => (List.mem_cons.mp z).elim (fun q => e q.symm) m]
theorem wipeE_len (σ : Env3) (vs : List Nat) : (wipeE σ vs).length = σ.length := by
  induction vs with
  | nil => rfl
  | cons v vs ih => exact (List.length_set).trans ih
section
variable {C : Run} {F : Addr → Prop} {H : Hp} {σ : L2.St} {env : Env3}
theorem RelE.wipe (R : RelE C F H σ env) (vs : List Nat) : RelE C F H (L2.wipe σ vs) (wipeE env vs) := by
  have back : ∀ {j : Nat} {w : Val}, (wipeE env vs)[j]? = some (some w) → j ∉ vs ∧ env[j]? = some (some w) := fun {j w} h => by
    rw [wipeE_at] at h
    by_cases m : j ∈ vs
    · rw [if_pos m] at h
      cases e : env[j]? with
      | none => rw [e] at h; cases h
      | some x => rw [e] at h; cases h
    · rw [if_neg m] at h
      exact ⟨m, h⟩
  refine ⟨by rw [wipe_length, wipeE_len, R.len], fun i w h => ?_, fun i j ds es p h1 h2 g1 g2 => ?_, fun i ds h => R.nonew i ds (back h).2⟩
  · obtain ⟨m, h'⟩ := back h
    obtain ⟨v, a, b⟩ := R.at_ i w h'
    exact ⟨v, by rw [wipe_at, if_neg m]; exact a, b⟩
  · obtain ⟨m1, h1'⟩ := back h1
    obtain ⟨m2, h2'⟩ := back h2
    rw [wipe_at, if_neg m1] at g1
    rw [wipe_at, if_neg m2] at g2
    exact R.inj i j ds es p h1' h2' g1 g2
/-- a name takes a value -/
theorem RelE.put (R : RelE C F H σ env) {i : Nat} {v : V} {w u : Val} (r : RelV C F H v w) (fr : Fresh3 env σ v w) (hu : slotV w = some u) : RelE C F H (σ.set i (some v)) (env.set i (some u)) := by
  have gu : ∀ ds, u ≠ .new ds := fun ds e => by
    cases w <;> cases hu <;> cases e
  have ru : RelV C F H v u := by
    cases w <;> cases hu <;> exact r
  refine ⟨by rw [List.length_set, List.length_set, R.len], fun j x hx => ?_, fun j k ds es p h1 h2 g1 g2 => ?_, fun j ds hx => ?_⟩
  · rw [List.getElem?_set] at hx ⊢
    by_cases e : i = j
    · rw [if_pos e] at hx ⊢
      by_cases c : j < env.length
      · rw [if_pos (by omega)] at hx
        cases hx
        rw [if_pos (by rw [R.len]; omega)]
        exact ⟨v, rfl, ru⟩
      · rw [if_neg (by omega)] at hx
        cases hx
    · rw [if_neg e] at hx ⊢
      exact R.at_ j x hx
  · rw [List.getElem?_set] at h1 h2 g1 g2
    have own_new : ∀ es', u = .own es' → w = .new es' := fun es' e => by
      cases w <;> cases hu <;> cases e <;> rfl
    by_cases e1 : i = j
    · by_cases e2 : i = k
      · exact e1.symm.trans e2
      · rw [if_pos e1] at h1 g1
        rw [if_neg e2] at h2 g2
        split at h1
        · split at g1
          · cases h1
            cases g1
            exact absurd g2 (fr _ (own_new _ rfl) k _ h2)
          · cases g1
        · cases h1
    · by_cases e2 : i = k
      · rw [if_neg e1] at h1 g1
        rw [if_pos e2] at h2 g2
        split at h2
        · split at g2
          · cases h2
            cases g2
            exact absurd g1 (fr _ (own_new _ rfl) j _ h1)
          · cases g2
        · cases h2
      · rw [if_neg e1] at h1 g1
        rw [if_neg e2] at h2 g2
        exact R.inj j k ds es p h1 h2 g1 g2
  · rw [List.getElem?_set] at hx
    by_cases e : i = j
    · rw [if_pos e] at hx
      split at hx
      · cases hx
        exact gu ds rfl
      · cases hx
    · rw [if_neg e] at hx
      exact R.nonew j ds hx
theorem fresh_slots (R : RelE C F H σ env) {v : V} {w : Val} {F2 : Addr → Prop} {H2 : Hp} (r : RelR C F2 H2 H v w) : Fresh3 env σ v w := fun ds e j es hj hs => by
  obtain ⟨u, hu, ru⟩ := R.at_ j _ hj
  obtain ⟨p, xs, rfl, hp, _⟩ := ru
  rw [hs] at hu
  cases hu
  have := r.2 ds e p rfl
  rw [hp] at this
  cases this
end
/-! ### targets -/
abbrev GWt := Val → Env3 → (Env3 → Prop) → Prop
abbrev GWs := List PyData → Env3 → (Env3 → Prop) → Prop
section
variable {K : PySem.W.Frag}
variable (K) in
def SndG (g : TG) (m : GWt) (is : List Nat) : Prop := ∀ (C : Run), C.K = K → ∀ (w : Val) (v : V) (env : Env3) (post : Env3 → Prop) (σ : L2.St) (H : Hp) (F : Addr → Prop) (Q : L2.St → Hp → Prop), RelE C F H σ env → RelV C F H v w → (Fresh3 env σ v w) → m w env post →
  (∀ env' σ', RelE C F H σ' env' → SetOn is σ σ' → post env' → Q σ' H) → g v σ H Q
variable (K) in
def SndGs (g : TGs) (m : GWs) (is : List Nat) : Prop := ∀ (C : Run), C.K = K → ∀ (ds : List PyData) (vs : List V) (env : Env3) (post : Env3 → Prop) (σ : L2.St) (H : Hp) (F : Addr → Prop) (Q : L2.St → Hp → Prop), RelE C F H σ env → FvAll C.K F H vs ds → m ds env post →
  (∀ env' σ', RelE C F H σ' env' → SetOn is σ σ' → post env' → Q σ' H) → g vs σ H Q
def gwName (i : Nat) : GWt := fun w env post => match slotV w with
  | some u => post (env.set i (some u))
  | none => False
theorem sng_name {i : Nat} : SndG K (gName i) (gwName i) [i] := by
  intro C hK w v env post σ H F Q R r fr hm q
  unfold gwName at hm
  split at hm
  · rename_i u hu
    refine q _ _ (R.put r fr hu) ⟨List.length_set, fun j h => ?_⟩ hm
    rw [List.getElem?_set, if_neg fun e => h (by rw [e]; exact List.mem_singleton.mpr rfl)]
  · exact hm.elim
def gwNil : GWs := fun ds env post => match ds with
  | [] => post env
  | _ => False
def gwCons (m : GWt) (ms : GWs) : GWs := fun ds env post => match ds with
  | d :: ds => m (.dat d) env fun env1 => ms ds env1 post
  | [] => False
def gwTup (k : Nat) (ms : GWs) : GWt := fun w env post => match w with
  | .dat (.tuple ds) => ds.length = k ∧ ms ds env post
  | _ => False
theorem sng_nil : SndGs K gNil gwNil [] := by
  intro C hK ds vs env post σ H F Q R r hm q
  cases r with
  | nil => exact ⟨rfl, q env σ R (SetOn.refl _ _) hm⟩
  | cons _ _ => exact hm.elim
theorem sng_cons {g : TG} {gs : TGs} {m : GWt} {ms : GWs} {is js : List Nat} (h : SndG K g m is) (hs : SndGs K gs ms js) : SndGs K (gCons g gs) (gwCons m ms) (is ++ js) := by
  intro C hK ds vs env post σ H F Q R r hm q
  cases r with
  | nil => exact hm.elim
  | @cons v d vs ds r1 r2 =>
    refine ⟨v, vs, rfl, h C hK (.dat d) v env _ σ H F _ R r1 (fun _ e => by cases e) hm fun env1 σ1 R1 s1 hp => ?_⟩
    exact hs C hK ds vs env1 post σ1 H F Q R1 r2 hp fun env2 σ2 R2 s2 hp2 => q env2 σ2 R2 (s1.trans s2) hp2
theorem sng_tup {k : Nat} {gs : TGs} {ms : GWs} {is : List Nat} (hs : SndGs K gs ms is) : SndG K (gTup K k gs) (gwTup k ms) is := by
  intro C hK w v env post σ H F Q R r fr hm q
  subst hK
  unfold gwTup at hm
  split at hm
  · rename_i ds
    obtain ⟨a, xs, rfl, ht, hx⟩ := relT r (ds := ds) rfl
    exact ⟨a, xs, rfl, ht, (fvs_len hx).trans hm.1, hs C rfl ds xs env post σ H F Q R hx hm.2 q⟩
  · exact hm.elim
/-! ### comprehensions -/
/-- one item of a comprehension: what is kept of it, if anything -/
def elW (g : GWt) (c : TW) (m : EW) (env : Env3) (x : PyData) (n : Nat) (k : Nat → Option PyData → Prop) : Prop := g (.dat x) env fun env1 => c n env1 fun n1 b => match b with
  | true => frzW m n1 env1 fun n2 w => (match w with
    | .dat d => k n2 (some d)
    | _ => False)
  | false => k n1 none
def lcW (g : GWt) (c : TW) (m : EW) (env : Env3) : List PyData → Nat → List PyData → (Nat → Val → Prop) → Prop
  | [], n, acc, post => post n (.new acc)
  | x :: xs, n, acc, post => elW g c m env x n fun n' o => match o with
    | some d => acc.length ≤ 1000000 ∧ lcW g c m env xs n' (acc ++ [d]) post
    | none => lcW g c m env xs n' acc post
def eLc (iw : IW) (g : GWt) (c : TW) (m : EW) (vs : List Nat) : EW := fun n env post => iw n env fun n1 items => lcW g c m (wipeE env vs) items n1 [] post
theorem drop_get {α : Type} {l : List α} {i : Nat} {x : α} (h : l[i]? = some x) : l.drop i = x :: l.drop (i + 1) := by
  obtain ⟨hi, rfl⟩ := List.getElem?_eq_some_iff.mp h
  exact List.drop_eq_getElem_cons hi
theorem snd_lc {wi : TI} {iw : IW} {g : TG} {gw : GWt} {tt : TT} {c : TW} {te : TE} {m : EW} {vs is : List Nat} (hi : SndI K wi iw) (hg : SndG K g gw is) (ht : SndT K tt c) (he : SndE K te m) (sub : ∀ j ∈ is, j ∈ vs) : SndE K (tLc wi g tt te vs) (eLc iw gw c m vs) := by
  intro C hK n env post σ H F Q I R hm q
  subst hK
  refine hi C rfl n env _ σ H F _ I R hm fun n1 items J H1 F1 hs I1 e1 ok hp => fun D nD => ?_
  obtain ⟨G, Y, wk, hG, hY⟩ := ok
  have nXD : ¬C.X D := I1.less.new nD
  have h0D : C.H0 D = none := I1.less.h0 nD
  have R1 : RelE (C.also hs) F1 H1 (L2.wipe σ vs) (wipeE env vs) := ((relE_ext I e1 R).wipe vs).more hs
  refine lc_it wk (fun i Hh => ∃ nn F', Inv3 (C.also hs) Hh F' nn ∧ Ext3 (C.also hs) F1 H1 F' Hh ∧ ∃ acc us, Hh D = some (.lst us) ∧ FvAll C.K F' Hh us acc ∧ ¬F' D ∧ lcW gw c m (wipeE env vs) (items.drop i) nn acc post)
    ⟨n1, F1, I1.sames (same_new nD), Ext3.of (same_new nD), [], [], upd_same, .nil, fun f => I1.fh D f nD, hp⟩ (fun i Hh _ h => by obtain ⟨nn, F', I', _⟩ := h; exact hG _ _ _ I') (fun i x H2 H3 hi h hy => ?_) (fun H2 h => ?_)
  · obtain ⟨nn, F', I', e', acc, us, hD, hus, nF, hl⟩ := h
    obtain ⟨d, hd, es, fd⟩ := hY i H2 x H3 F' nn I' hi hy
    rw [drop_get hd] at hl
    have x3 := Ext3.of (C := C.also hs) (F := F') es
    have I3 := I'.sames es
    have hD3 := es _ _ hD
    have hus3 := I'.fvs x3 hus
    have e3 := e'.trans x3
    refine hg (C.also hs) rfl (.dat d) x (wipeE env vs) _ (L2.wipe σ vs) H3 F' _ (relE_ext I1 e3 R1) fd (fun _ z => by cases z) hl fun env2 σ2 R2 s2 hp2 => ⟨wipe_on ⟨s2.1, fun j h => s2.2 j fun z => h (sub j z)⟩, ?_⟩
    refine ht (C.also hs) rfl nn env2 _ σ2 H3 F' _ I3 R2 hp2 fun n4 b H4 F4 I4 e4 hp4 => ?_
    have hD4 := e4.h _ _ hD3 nXD
    have nF4 : ¬F4 D := fun f => (e4.g D nXD f).elim nF fun z => by rw [hD3] at z; cases z
    cases b with
    | false =>
      show (if false = true then _ else _)
      rw [if_neg Bool.false_ne_true]
      exact ⟨n4, F4, I4, e3.trans e4, acc, us, hD4, I3.fvs e4 hus3, nF4, hp4⟩
    | true =>
      show (if true = true then _ else _)
      rw [if_pos rfl]
      refine snd_frz he (C.also hs) rfl n4 env2 _ σ2 H4 F4 _ I4 (relE_ext I3 e4 R2) hp4 fun n5 w v H5 F5 I5 e5 r5 hp5 => ?_
      split at hp5
      · rename_i dd
        have hp5 : acc.length ≤ 1000000 ∧ lcW gw c m (wipeE env vs) (items.drop (i + 1)) n5 (acc ++ [dd]) post := hp5
        have hD5 := e5.h _ _ hD4 nXD
        have nF5 : ¬F5 D := fun f => (e5.g D nXD f).elim nF4 fun z => by rw [hD4] at z; cases z
        have hus5 := I4.fvs e5 (I3.fvs e4 hus3)
        have e35 := e3.trans (e4.trans e5)
        have mvT : ∀ a xs, SqT C.K H5 a xs → SqT C.K (upd H5 D (.lst (us ++ [v]))) a xs := fun a xs z => sqT_upd hD5 z
        have mvL : ∀ a xs, F5 a → H5 a = some (.lst xs) → upd H5 D (.lst (us ++ [v])) a = some (.lst xs) := fun a xs f z => by
          have : a ≠ D := fun e => nF5 (by rw [← e]; exact f)
          rw [upd_ne this]
          exact z
        refine ⟨us, hD5, ?_, n5, F5, I5.put hD5 nF5 nXD h0D, ⟨e35.f, e35.g, fun b o hb nx => ?_⟩, acc ++ [dd], us ++ [v], upd_same, ?_, nF5, hp5.2⟩
        · rw [fvs_len hus5]
          exact small hp5.1
        · have : b ≠ D := fun e => by rw [e, nD] at hb; cases hb
          rw [upd_ne this]
          exact e35.h b o hb nx
        · exact fvs_app (fvs_move mvT mvL (fun _ z => z) _ _ hus5) (.cons (fv_move mvT mvL (fun _ z => z) _ _ r5.1) .nil)
      · exact hp5.elim
  · obtain ⟨nn, F', I', e', acc, us, hD, hus, nF, hl⟩ := h
    rw [List.drop_length] at hl
    exact q nn (.new acc) _ H2 F' I'.less (e1.trans e'.less) ⟨⟨D, us, rfl, hD, hus, nF, nXD, h0D⟩, fun _ _ p z => by cases z; exact e1.back nXD nD⟩ hl
/-! ### statements -/
structure Ks where
  nx : Nat → Env3 → Prop
  rt : Nat → Val → Prop
  bk : Nat → Env3 → Prop
  ct : Nat → Env3 → Prop
abbrev SW := Nat → Env3 → Ks → Prop
structure KOk (C : Run) (ks : Ks) (D : Ends) : Prop where
  nx : ∀ n env σ H F, Inv3 C H F n → RelE C F H σ env → ks.nx n env → D.nx σ H
  rt : ∀ n w v H F, Inv3 C H F n → RelV C F H v w → ks.rt n w → D.rt v H
  bk : ∀ n env σ H F, Inv3 C H F n → RelE C F H σ env → ks.bk n env → D.bk σ H
  ct : ∀ n env σ H F, Inv3 C H F n → RelE C F H σ env → ks.ct n env → D.ct σ H
variable (K) in
def SndS (t : TS) (s : SW) : Prop := ∀ (C : Run), C.K = K → ∀ (n : Nat) (env : Env3) (ks : Ks) (σ : L2.St) (H : Hp) (F : Addr → Prop) (D : Ends), Inv3 C H F n → RelE C F H σ env → KOk C ks D → s n env ks → t D σ H
def sNext : SW := fun n env ks => ks.nx n env
def sSeq (a b : SW) : SW := fun n env ks => a n env { ks with nx := fun n1 e1 => b n1 e1 ks }
def sRet (m : EW) : SW := fun n env ks => m n env ks.rt
def sIf (c : TW) (a b : SW) : SW := fun n env ks => c n env fun n1 k => match k with
  | true => a n1 env ks
  | false => b n1 env ks
def sDrop (m : EW) : SW := fun n env ks => m n env fun n1 _ => ks.nx n1 env
/-- e to a target, shared if it is a new list -/
def sSet (m : EW) (g : GWt) : SW := fun n env ks => frzW m n env fun n1 w => g w env fun env1 => ks.nx n1 env1
/-- e to a target, a new list one's own -/
def sOwn (m : EW) (g : GWt) : SW := fun n env ks => m n env fun n1 w => g w env fun env1 => ks.nx n1 env1
def sBreak : SW := fun n env ks => ks.bk n env
def sCont : SW := fun n env ks => ks.ct n env
theorem sns_next : SndS K tNext sNext := fun C hK n env ks σ H F D I R k h => k.nx n env σ H F I R h
theorem sns_break : SndS K tBreak sBreak := fun C hK n env ks σ H F D I R k h => k.bk n env σ H F I R h
theorem sns_cont : SndS K tCont sCont := fun C hK n env ks σ H F D I R k h => k.ct n env σ H F I R h
theorem sns_seq {t u : TS} {a b : SW} (ha : SndS K t a) (hb : SndS K u b) : SndS K (tSeq t u) (sSeq a b) := fun C hK n env ks σ H F D I R k h =>
  ha C hK n env { ks with nx := fun n1 e1 => b n1 e1 ks } σ H F { D with nx := u D } I R ⟨fun n1 e1 σ1 H1 F1 I1 R1 h1 => hb C hK n1 e1 ks σ1 H1 F1 D I1 R1 k h1, k.rt, k.bk, k.ct⟩ h
theorem sns_ret {t : TE} {m : EW} (h : SndE K t m) : SndS K (tRet t) (sRet m) := fun C hK n env ks σ H F D I R k hm =>
  h C hK n env ks.rt σ H F D.rt I R hm fun n' w v H' F' I' e r hp => k.rt n' w v H' F' I' r.1 hp
theorem sns_if {c : TT} {w : TW} {t u : TS} {a b : SW} (hc : SndT K c w) (ha : SndS K t a) (hb : SndS K u b) : SndS K (tIfS c t u) (sIf w a b) := by
  intro C hK n env ks σ H F D I R k hm
  refine hc C hK n env _ σ H F _ I R hm fun n' b' H' F' I' e hp => ?_
  cases b' with
  | true =>
    show (if true = true then _ else _)
    rw [if_pos rfl]
    exact ha C hK n' env ks σ H' F' D I' (relE_ext I e R) k hp
  | false =>
    show (if false = true then _ else _)
    rw [if_neg Bool.false_ne_true]
    exact hb C hK n' env ks σ H' F' D I' (relE_ext I e R) k hp
theorem sns_drop {t : TE} {m : EW} (h : SndE K t m) : SndS K (tDrop t) (sDrop m) := fun C hK n env ks σ H F D I R k hm =>
  h C hK n env _ σ H F _ I R hm fun n' w v H' F' I' e r hp => k.nx n' env σ H' F' I' (relE_ext I e R) hp
theorem sns_own {t : TE} {m : EW} {g : TG} {gw : GWt} {is : List Nat} (h : SndE K t m) (hg : SndG K g gw is) : SndS K (tAsg t g) (sOwn m gw) := fun C hK n env ks σ H F D I R k hm =>
  h C hK n env _ σ H F _ I R hm fun n' w v H' F' I' e r hp => hg C hK w v env _ σ H' F' D.nx (relE_ext I e R) r.1 (fresh_slots R r) hp fun env' σ' R' _ hp' => k.nx n' env' σ' H' F' I' R' hp'
theorem sns_set {t : TE} {m : EW} {g : TG} {gw : GWt} {is : List Nat} (h : SndE K t m) (hg : SndG K g gw is) : SndS K (tAsg t g) (sSet m gw) := sns_own (snd_frz h) hg
end
end K0

/-! LE: lists of one's own, loops, whole defs. -/
namespace K0
open PySem PySem.Spec PyProof.Rows L2 W0 W1 W2 W5 W6 V0 V1 V6
section
variable {K : PySem.W.Frag}
def two3 (env : Env3) (i j : Nat) (f : Env3 → Prop) : Val → Val → Prop
  | .dat d, .dat e => f ((env.set i (some (.dat d))).set j (some (.dat e)))
  | _, _ => False
def three3 (env : Env3) (i j l : Nat) (f : Env3 → Prop) : Val → Val → Val → Prop
  | .dat a, .dat b, .dat c => f (((env.set i (some (.dat a))).set j (some (.dat b))).set l (some (.dat c)))
  | _, _, _ => False
def sPar (i j : Nat) (a b : EW) : SW := fun n env ks => frzW a n env fun n1 x => frzW b n1 env fun n2 y => two3 env i j (ks.nx n2) x y
theorem sns_par {i j : Nat} {ta tb : TE} {a b : EW} (ha : SndE K ta a) (hb : SndE K tb b) : SndS K (tPar i j (tCons ta (tCons tb tNil))) (sPar i j a b) := by
  intro C hK n env ks σ H F D I R k hm
  refine snd_frz ha C hK n env (fun n1 x => frzW b n1 env fun n2 y => two3 env i j (ks.nx n2) x y) σ H F _ I R hm fun n1 x v H1 F1 I1 e1 r1 hp1 => ?_
  refine snd_frz hb C hK n1 env (fun n2 y => two3 env i j (ks.nx n2) x y) σ H1 F1 _ I1 (relE_ext I e1 R) hp1 fun n2 y u H2 F2 I2 e2 r2 hp => ?_
  cases x with
  | dat d =>
    cases y with
    | dat e =>
      refine ⟨v, u, rfl, ?_⟩
      have R2 := relE_ext I (e1.trans e2) R
      have q1 := R2.put (i := i) (w := .dat d) (u := .dat d) (relV_ext I1 e2 r1.1) (fun _ z => by cases z) rfl
      have q2 := q1.put (i := j) (w := .dat e) (u := .dat e) r2.1 (fun _ z => by cases z) rfl
      exact k.nx n2 _ _ H2 F2 I2 q2 hp
    | _ => exact hp.elim
  | _ => exact hp.elim
def sPar3 (i j l : Nat) (a b c : EW) : SW := fun n env ks => frzW a n env fun n1 x => frzW b n1 env fun n2 y => frzW c n2 env fun n3 z => three3 env i j l (ks.nx n3) x y z
theorem sns_par3 {i j l : Nat} {ta tb tc : TE} {a b c : EW} (ha : SndE K ta a) (hb : SndE K tb b) (hc : SndE K tc c) : SndS K (tPar3 i j l (tCons ta (tCons tb (tCons tc tNil)))) (sPar3 i j l a b c) := by
  intro C hK n env ks σ H F D I R k hm
  refine snd_frz ha C hK n env (fun n1 x => frzW b n1 env fun n2 y => frzW c n2 env fun n3 z => three3 env i j l (ks.nx n3) x y z) σ H F _ I R hm fun n1 x v H1 F1 I1 e1 r1 hp1 => ?_
  refine snd_frz hb C hK n1 env (fun n2 y => frzW c n2 env fun n3 z => three3 env i j l (ks.nx n3) x y z) σ H1 F1 _ I1 (relE_ext I e1 R) hp1 fun n2 y u H2 F2 I2 e2 r2 hp2 => ?_
  refine snd_frz hc C hK n2 env (fun n3 z => three3 env i j l (ks.nx n3) x y z) σ H2 F2 _ I2 (relE_ext I (e1.trans e2) R) hp2 fun n3 z t H3 F3 I3 e3 r3 hp => ?_
  cases x with
  | dat d =>
    cases y with
    | dat e =>
      cases z with
      | dat f =>
        refine ⟨v, u, t, rfl, ?_⟩
        have R3 := relE_ext I ((e1.trans e2).trans e3) R
        have q1 := R3.put (i := i) (w := .dat d) (u := .dat d) (relV_ext I1 (e2.trans e3) r1.1) (fun _ z => by cases z) rfl
        have q2 := q1.put (i := j) (w := .dat e) (u := .dat e) (relV_ext I2 e3 r2.1) (fun _ z => by cases z) rfl
        have q3 := q2.put (i := l) (w := .dat f) (u := .dat f) r3.1 (fun _ z => by cases z) rfl
        exact k.nx n3 _ _ H3 F3 I3 q3 hp
      | _ => exact hp.elim
    | _ => exact hp.elim
  | _ => exact hp.elim
/-! ### a list of one's own changes -/
theorem mv_put {C : Run} {F : Addr → Prop} {H : Hp} {p : Addr} {xs ys : List V} (hp : H p = some (.lst xs)) (nf : ¬F p) : (∀ a zs, SqT C.K H a zs → SqT C.K (upd H p (.lst ys)) a zs) ∧ ∀ a zs, F a → H a = some (.lst zs) → upd H p (.lst ys) a = some (.lst zs) :=
  ⟨fun a zs z => sqT_upd hp z, fun a zs f z => by
    have : a ≠ p := fun e => nf (by rw [← e]; exact f)
    rw [upd_ne this]
    exact z⟩
theorem RelE.mut {C : Run} {F : Addr → Prop} {H : Hp} {σ : L2.St} {env : Env3} (R : RelE C F H σ env) {i : Nat} {ds es : List PyData} {p : Addr} {xs ys : List V} (hi : env[i]? = some (some (.own ds))) (hs : σ[i]? = some (some (.ref p))) (hp : H p = some (.lst xs)) (nf : ¬F p) (nx : ¬C.X p) (h0 : C.H0 p = none) (hy : FvAll C.K F (upd H p (.lst ys)) ys es) : RelE C F (upd H p (.lst ys)) σ (env.set i (some (.own es))) := by
  obtain ⟨mT, mL⟩ := mv_put (C := C) (ys := ys) hp nf
  have il : i < env.length := (List.getElem?_eq_some_iff.mp hi).1
  refine ⟨by rw [List.length_set, R.len], fun j w hw => ?_, fun j k ds' es' p' h1 h2 g1 g2 => ?_, fun j ds' hw => ?_⟩
  · rw [List.getElem?_set] at hw
    by_cases e : i = j
    · subst e
      rw [if_pos rfl, if_pos il] at hw
      cases hw
      exact ⟨_, hs, p, ys, rfl, upd_same, hy, nf, nx, h0⟩
    · rw [if_neg e] at hw
      obtain ⟨v, hv, rv⟩ := R.at_ j w hw
      refine ⟨v, hv, ?_⟩
      cases w with
      | dat d => exact fv_move mT mL (fun _ z => z) _ _ rv
      | own ds' =>
        obtain ⟨p', xs', rfl, a1, a2, a3, a4, a5⟩ := rv
        have ne : p' ≠ p := fun z => e (R.inj i j ds ds' p hi hw hs (by rw [← z]; exact hv))
        exact ⟨p', xs', rfl, (upd_ne ne).trans a1, fvs_move mT mL (fun _ z => z) _ _ a2, a3, a4, a5⟩
      | new ds' => exact absurd hw (R.nonew j ds')
      | st => exact rv
  · have back : ∀ {j : Nat} {ds' : List PyData}, (env.set i (some (.own es)))[j]? = some (some (.own ds')) → ∃ ds'', env[j]? = some (some (.own ds'')) := fun {j ds'} h => by
      rw [List.getElem?_set] at h
      by_cases e : i = j
      · exact ⟨ds, by rw [← e]; exact hi⟩
      · rw [if_neg e] at h
        exact ⟨ds', h⟩
    obtain ⟨_, h1'⟩ := back h1
    obtain ⟨_, h2'⟩ := back h2
    exact R.inj j k _ _ p' h1' h2' g1 g2
  · rw [List.getElem?_set] at hw
    by_cases e : i = j
    · rw [if_pos e] at hw
      split at hw
      · cases hw
      · cases hw
    · rw [if_neg e] at hw
      exact R.nonew j ds' hw
/-- names[i].append(e) -/
def sApp (i : Nat) (m : EW) : SW := fun n env ks => match env[i]? with
  | some (some (.own ds)) => frzW m n env fun n1 w => (match w with
    | .dat d => ds.length ≤ 1000000 ∧ ks.nx n1 (env.set i (some (.own (ds ++ [d]))))
    | _ => False)
  | _ => False
theorem sns_app {i : Nat} {t : TE} {m : EW} (h : SndE K t m) : SndS K (tDrop (tBM K "list" rAppend (tVar i) (tCons t tNil))) (sApp i m) := by
  intro C hK n env ks σ H F D I R k hm
  subst hK
  unfold sApp at hm
  split at hm
  · rename_i ds hi
    obtain ⟨v, hv, p, xs, rfl, hp, hx, nf, nx, h0⟩ := R.at_ i _ hi
    refine ⟨.ref p, hv, .inl ⟨rfl, _, SqL.of hp⟩, ?_⟩
    refine snd_frz h C rfl n env (fun n1 w => (match w with | .dat d => ds.length ≤ 1000000 ∧ ks.nx n1 (env.set i (some (.own (ds ++ [d])))) | _ => False)) σ H F _ I R hm fun n1 w y H1 F1 I1 e1 r1 hp1 => ?_
    split at hp1
    · rename_i d
      have hp' := e1.h _ _ hp nx
      have nf1 : ¬F1 p := fun f => (e1.g p nx f).elim nf fun z => by rw [hp] at z; cases z
      have hx1 := I.fvs e1 hx
      obtain ⟨mT, mL⟩ := mv_put (C := C) (ys := xs ++ [y]) hp' nf1
      refine ⟨p, xs, y, rfl, rfl, hp', ?_, ?_⟩
      · rw [fvs_len hx]
        exact small hp1.1
      · refine k.nx n1 _ σ _ F1 (I1.put hp' nf1 nx h0) ((relE_ext I e1 R).mut hi hv hp' nf1 nx h0 ?_) hp1.2
        exact fvs_app (fvs_move mT mL (fun _ z => z) _ _ hx1) (.cons (fv_move mT mL (fun _ z => z) _ _ r1.1) .nil)
    · exact hp1.elim
  · exact hm.elim
theorem fvs_set {C : Run} {F : Addr → Prop} {H : Hp} : ∀ {vs : List V} {ds : List PyData} {v : V} {d : PyData} (j : Nat), FvAll C.K F H vs ds → Fv C.K F H v d → FvAll C.K F H (vs.set j v) (ds.set j d)
  | _, _, _, _, _, .nil, _ => .nil
  | _, _, _, _, 0, .cons _ h, g => .cons g h
  | _, _, _, _, j + 1, .cons a h, g => .cons a (fvs_set j h g)
/-- names[i][k] = e -/
@[irreducible] def putK (ds : List PyData) (f : List PyData → Prop) : Val → Val → Prop
  | .dat (.int k), .dat d => (match ixN ds.length k with
    | some j => f (ds.set j d)
    | none => False)
  | _, _ => False
def sPut (i : Nat) (mi me : EW) : SW := fun n env ks => match env[i]? with
  | some (some (.own ds)) => frzW me n env fun n1 w => frzW mi n1 env fun n2 u => putK ds (fun es => ks.nx n2 (env.set i (some (.own es)))) u w
  | _ => False
theorem sns_put {i : Nat} {ti te : TE} {mi me : EW} (hi : SndE K ti mi) (he : SndE K te me) : SndS K (tAsg te (gSub (tVar i) ti rSetL)) (sPut i mi me) := by
  intro C hK n env ks σ H F D I R k hm
  subst hK
  unfold sPut at hm
  split at hm
  · rename_i ds hi'
    obtain ⟨v0, hv, p, xs, rfl, hp, hx, nf, nx, h0⟩ := R.at_ i _ hi'
    refine snd_frz he C rfl n env (fun n1 w => frzW mi n1 env fun n2 u => putK ds (fun es => ks.nx n2 (env.set i (some (.own es)))) u w) σ H F _ I R hm fun n1 w v H1 F1 I1 e1 r1 hp1 => ?_
    refine ⟨.ref p, hv, ?_⟩
    refine snd_frz hi C rfl n1 env (fun n2 u => putK ds (fun es => ks.nx n2 (env.set i (some (.own es)))) u w) σ H1 F1 _ I1 (relE_ext I e1 R) hp1 fun n2 u x H2 F2 I2 e2 r2 hpp => ?_
    unfold putK at hpp
    split at hpp
    · rename_i kk d
      split at hpp
      · rename_i j hj
        have e := e1.trans e2
        have hp' := e.h _ _ hp nx
        have nf2 : ¬F2 p := fun f => (e.g p nx f).elim nf fun z => by rw [hp] at z; cases z
        have hx2 := I.fvs e hx
        obtain ⟨mT, mL⟩ := mv_put (C := C) (ys := xs.set j v) hp' nf2
        refine ⟨p, xs, kk, j, rfl, fv_int r2.1, hp', by rw [fvs_len hx]; exact hj, ?_⟩
        refine k.nx n2 _ σ _ F2 (I2.put hp' nf2 nx h0) ((relE_ext I e R).mut hi' hv hp' nf2 nx h0 ?_) hpp
        exact fvs_set j (fvs_move mT mL (fun _ z => z) _ _ hx2) (fv_move mT mL (fun _ z => z) _ _ (relV_ext I1 e2 r1.1))
      · exact hpp.elim
    · exact hpp.elim
  · exact hm.elim
/-- t = names[i].pop() -/
def sPop (i : Nat) (g : GWt) : SW := fun n env ks => match env[i]? with
  | some (some (.own ds)) => (match ds[ds.length - 1]? with
    | some d => g (.dat d) (env.set i (some (.own ds.dropLast))) fun env1 => ks.nx n env1
    | none => False)
  | _ => False
theorem fvs_init {C : Run} {F : Addr → Prop} {H : Hp} {vs : List V} {ds : List PyData} (h : FvAll C.K F H vs ds) : FvAll C.K F H vs.dropLast ds.dropLast := by
  rw [List.dropLast_eq_take, List.dropLast_eq_take, fvs_len h]
  exact fvs_take _ h
theorem sns_pop {i : Nat} {g : TG} {gw : GWt} {is : List Nat} (hg : SndG K g gw is) : SndS K (tAsg (tBM0 K "list" rPop (tVar i)) g) (sPop i gw) := by
  intro C hK n env ks σ H F D I R k hm
  subst hK
  unfold sPop at hm
  split at hm
  · rename_i ds hi
    obtain ⟨v, hv, p, xs, rfl, hp, hx, nf, nx, h0⟩ := R.at_ i _ hi
    split at hm
    · rename_i d hd
      obtain ⟨y, hy, fy⟩ := fvs_get hx hd
      rw [← fvs_len hx] at hy
      obtain ⟨mT, mL⟩ := mv_put (C := C) (ys := xs.dropLast) hp nf
      refine ⟨.ref p, hv, .inl ⟨rfl, _, SqL.of hp⟩, p, xs, y, rfl, rfl, hp, hy, ?_⟩
      have I2 := I.put (ys := xs.dropLast) hp nf nx h0
      have R2 := R.mut hi hv hp nf nx h0 (fvs_move mT mL (fun _ z => z) _ _ (fvs_init hx))
      exact hg C rfl (.dat d) y _ _ σ _ F _ R2 (fv_move mT mL (fun _ z => z) _ _ fy) (fun _ z => by cases z) hm fun env' σ' R' _ hp' => k.nx n env' σ' _ F I2 R' hp'
    · exact hm.elim
  · exact hm.elim
/-- names[i] is shared from now on -/
def sFrz (i : Nat) (s : SW) : SW := fun n env ks => match env[i]? with
  | some (some (.own ds)) => s n (env.set i (some (.dat (.list ds)))) ks
  | _ => s n env ks
theorem sns_frz {i : Nat} {t : TS} {s : SW} (h : SndS K t s) : SndS K t (sFrz i s) := by
  intro C hK n env ks σ H F D I R k hm
  unfold sFrz at hm
  split at hm
  · rename_i ds hi
    obtain ⟨v, hv, p, xs, rfl, hp, hx, nf, nx, h0⟩ := R.at_ i _ hi
    have il : i < env.length := (List.getElem?_eq_some_iff.mp hi).1
    have up : ∀ d v, Fv C.K F H v d → Fv C.K (fun a => F a ∨ a = p) H v d := fun d v h => fv_move (fun _ _ z => z) (fun _ _ _ z => z) (fun _ z => .inl z) d v h
    have ups : ∀ d v, FvAll C.K F H v d → FvAll C.K (fun a => F a ∨ a = p) H v d := fun d v h => fvs_move (fun _ _ z => z) (fun _ _ _ z => z) (fun _ z => .inl z) d v h
    refine h C hK n _ ks σ H (fun a => F a ∨ a = p) D (I.share hp nx h0) ⟨by rw [List.length_set, R.len], fun j w hw => ?_, fun j l ds' es' p' h1 h2 g1 g2 => ?_, fun j ds' hw => ?_⟩ k hm
    · rw [List.getElem?_set] at hw
      by_cases e : i = j
      · subst e
        rw [if_pos rfl, if_pos il] at hw
        cases hw
        exact ⟨_, hv, .lst (.inr rfl) hp (ups _ _ hx)⟩
      · rw [if_neg e] at hw
        obtain ⟨u, hu, ru⟩ := R.at_ j w hw
        refine ⟨u, hu, ?_⟩
        cases w with
        | dat d => exact up _ _ ru
        | own ds' =>
          obtain ⟨p', xs', rfl, a1, a2, a3, a4, a5⟩ := ru
          have ne : p' ≠ p := fun z => e (R.inj i j ds ds' p hi hw hv (by rw [← z]; exact hu))
          exact ⟨p', xs', rfl, a1, ups _ _ a2, fun z => z.elim a3 ne, a4, a5⟩
        | new ds' => exact absurd hw (R.nonew j ds')
        | st => exact ru
    · have back : ∀ {j : Nat} {ds' : List PyData}, (env.set i (some (.dat (.list ds))))[j]? = some (some (Val.own ds')) → env[j]? = some (some (Val.own ds')) := fun {j ds'} h => by
        rw [List.getElem?_set] at h
        by_cases e : i = j
        · rw [if_pos e] at h
          split at h
          · cases h
          · cases h
        · rw [if_neg e] at h
          exact h
      exact R.inj j l _ _ p' (back h1) (back h2) g1 g2
    · rw [List.getElem?_set] at hw
      by_cases e : i = j
      · rw [if_pos e] at hw
        split at hw
        · cases hw
        · cases hw
      · rw [if_neg e] at hw
        exact R.nonew j ds' hw
  · exact h C hK n env ks σ H F D I R k hm
/-! ### loops -/
def forW (g : GWt) (b : SW) (ks : Ks) : List PyData → Nat → Env3 → Prop
  | [], n, env => ks.nx n env
  | x :: xs, n, env => g (.dat x) env fun env1 => b n env1 { nx := forW g b ks xs, ct := forW g b ks xs, bk := ks.nx, rt := ks.rt }
def sFor (iw : IW) (g : GWt) (b : SW) : SW := fun n env ks => iw n env fun n1 items => forW g b ks items n1 env
theorem KOk.more {C : Run} {ks : Ks} {D : Ends} (k : KOk C ks D) (hs : List Src) : KOk (C.also hs) ks D :=
  ⟨fun n env σ H F I R h => k.nx n env σ H F I.less R.less h, fun n w v H F I r h => k.rt n w v H F I.less (relV_less r) h, fun n env σ H F I R h => k.bk n env σ H F I.less R.less h, fun n env σ H F I R h => k.ct n env σ H F I.less R.less h⟩
theorem sns_for {wi : TI} {iw : IW} {g : TG} {gw : GWt} {is : List Nat} {t : TS} {s : SW} (hi : SndI K wi iw) (hg : SndG K g gw is) (hs : SndS K t s) : SndS K (tFor wi g t) (sFor iw gw s) := by
  intro C hK n env ks σ H F D I R k hm
  subst hK
  refine hi C rfl n env _ σ H F _ I R hm fun n1 items J H1 F1 hs' I1 e1 ok hp => ?_
  obtain ⟨G, Y, wk, hG, hY⟩ := ok
  have k' := k.more hs'
  refine for_it wk (fun i σ' Hh => ∃ nn F' env', Inv3 (C.also hs') Hh F' nn ∧ RelE (C.also hs') F' Hh σ' env' ∧ forW gw s ks (items.drop i) nn env')
    ⟨n1, F1, env, I1, (relE_ext I e1 R).more hs', hp⟩ (fun i σ' Hh _ h => by obtain ⟨nn, F', env', I', _⟩ := h; exact hG _ _ _ I') (fun i x σ2 H2 H3 hi h hy => ?_) (fun σ2 H2 h => ?_)
  · obtain ⟨nn, F', env', I', R', hl⟩ := h
    obtain ⟨d, hd, es, fd⟩ := hY i H2 x H3 F' nn I' hi hy
    rw [drop_get hd] at hl
    have I3 := I'.sames es
    have R3 := relE_ext I' (Ext3.of es) R'
    refine hg (C.also hs') rfl (.dat d) x env' _ σ2 H3 F' _ R3 fd (fun _ z => by cases z) hl fun env2 σ3 R4 _ hp2 => ?_
    exact hs (C.also hs') rfl nn env2 { nx := forW gw s ks (items.drop (i + 1)), ct := forW gw s ks (items.drop (i + 1)), bk := ks.nx, rt := ks.rt } σ3 H3 F' _ I3 R4 ⟨fun n env σ H F I R h => ⟨n, F, env, I, R, h⟩, k'.rt, k'.nx, fun n env σ H F I R h => ⟨n, F, env, I, R, h⟩⟩ hp2
  · obtain ⟨nn, F', env', I', R', hl⟩ := h
    rw [List.drop_length] at hl
    exact k.nx nn env' σ2 H2 F' I'.less R'.less hl
def whW (c : TW) (b : SW) (ks : Ks) : Nat → Nat → Env3 → Prop
  | 0, _, _ => False
  | z + 1, n, env => c n env fun n1 k => match k with
    | true => b n1 env { nx := whW c b ks z, ct := whW c b ks z, bk := ks.nx, rt := ks.rt }
    | false => ks.nx n1 env
def sWhile (c : TW) (b : SW) : SW := fun n env ks => ∃ z, whW c b ks z n env
theorem sns_while {tc : TT} {c : TW} {t : TS} {s : SW} (hc : SndT K tc c) (hs : SndS K t s) : SndS K (tWhile tc t) (sWhile c s) := by
  intro C hK n env ks σ H F D I R k hm
  obtain ⟨z, hz⟩ := hm
  refine ⟨fun m σ' H' => ∃ n' env' F', Inv3 C H' F' n' ∧ RelE C F' H' σ' env' ∧ whW c s ks m n' env', ⟨z, n, env, F, I, R, hz⟩, ?_⟩
  rintro m σ' H' ⟨n', env', F', I', R', hm⟩
  cases m with
  | zero => exact hm.elim
  | succ m =>
    refine hc C hK n' env' _ σ' H' F' _ I' R' hm fun n2 b H2 F2 I2 e2 hp => ?_
    cases b with
    | true =>
      show (if true = true then _ else _)
      rw [if_pos rfl]
      refine ⟨fun σ3 H3 => ∃ m', m' < m + 1 ∧ ∃ n' env' F', Inv3 C H3 F' n' ∧ RelE C F' H3 σ3 env' ∧ whW c s ks m' n' env', fun _ _ z => z, ?_⟩
      exact hs C hK n2 env' { nx := whW c s ks m, ct := whW c s ks m, bk := ks.nx, rt := ks.rt } σ' H2 F2 _ I2 (relE_ext I' e2 R') ⟨fun n env σ H F I R h => ⟨m, Nat.lt_succ_self _, n, env, F, I, R, h⟩, k.rt, k.nx, fun n env σ H F I R h => ⟨m, Nat.lt_succ_self _, n, env, F, I, R, h⟩⟩ hp
    | false =>
      show (if false = true then _ else _)
      rw [if_neg Bool.false_ne_true]
      exact k.nx n2 env' σ' H2 F2 I2 (relE_ext I' e2 R') hp
/-! ### whole defs -/
abbrev MF := List Val → Nat → (Nat → Val → Prop) → Prop
def run0 (K : PySem.W.Frag) (st : Option (Addr × Addr × Addr)) (F : Addr → Prop) (H : Hp) : Run := ⟨K, st, F, H, []⟩
def sp3 (K : PySem.W.Frag) (m : MF) : Sp := fun vs H Q _ => ∃ (st : Option (Addr × Addr × Addr)) (F : Addr → Prop) (n : Nat) (ws : List Val) (post : Nat → Val → Prop), Inv3 (run0 K st F H) H F n ∧ RelVs (run0 K st F H) F H vs ws ∧ (∀ ds, .own ds ∉ ws ∧ .new ds ∉ ws) ∧ m ws n post ∧
  ∀ n' d v H' F', Inv3 (run0 K st F H) H' F' n' → Fv K F' H' v d → post n' (.dat d) → Q v H'
def rt3 (post : Nat → Val → Prop) (n : Nat) : Val → Prop
  | .dat d => post n (.dat d)
  | .own ds => post n (.dat (.list ds))
  | .new ds => post n (.dat (.list ds))
  | .st => False
/-- what a def's body tells -/
def body3 (N p : Nat) (s : SW) : MF := fun ws n post => ws.length = p ∧ s n (ws.map some ++ List.replicate (N - ws.length) none) ⟨fun n1 _ => post n1 (.dat .none), fun n1 w => rt3 post n1 w, fun _ _ => False, fun _ _ => False⟩
theorem relE_start {C : Run} {F : Addr → Prop} {H : Hp} {vs : List V} {ws : List Val} (r : RelVs C F H vs ws) (no : ∀ ds, .own ds ∉ ws ∧ .new ds ∉ ws) (N : List Str) : RelE C F H (L2.start N vs) (ws.map some ++ List.replicate (N.length - ws.length) none) := by
  have hl := relVs_len r
  have key : ∀ {i : Nat} {w : Val}, (ws.map some ++ List.replicate (N.length - ws.length) none)[i]? = some (some w) → ws[i]? = some w := fun {i w} h => by
    by_cases c : i < ws.length
    · rw [List.getElem?_append_left (by rw [List.length_map]; exact c), List.getElem?_map] at h
      cases e : ws[i]? with
      | none => rw [e] at h; cases h
      | some x => rw [e] at h; cases h; rfl
    · rw [List.getElem?_append_right (by rw [List.length_map]; omega), List.getElem?_replicate] at h
      split at h <;> cases h
  have get : ∀ {vs : List V} {ws : List Val} {i : Nat} {w : Val}, RelVs C F H vs ws → ws[i]? = some w → ∃ v, vs[i]? = some v ∧ RelV C F H v w := fun {vs ws i w} r => by
    induction r generalizing i with
    | nil => intro h; cases h
    | cons a b ih =>
      intro h
      cases i with
      | zero => cases h; exact ⟨_, rfl, a⟩
      | succ i => exact ih h
  refine ⟨?_, fun i w h => ?_, fun i j ds es p h1 => ?_, fun i ds h => ?_⟩
  · unfold L2.start
    rw [List.length_append, List.length_append, List.length_map, List.length_map, List.length_replicate, List.length_replicate, hl]
  · obtain ⟨v, hv, rv⟩ := get r (key h)
    refine ⟨v, ?_, rv⟩
    unfold L2.start
    rw [List.getElem?_append_left (by rw [List.length_map]; exact (List.getElem?_eq_some_iff.mp hv).1), List.getElem?_map, hv]
    rfl
  · exact absurd (List.mem_of_getElem? (key h1)) (no ds).1
  · exact absurd (List.mem_of_getElem? (key h)) (no ds).2
/-- a def by its body -/
theorem run3 {N : List Str} {p : Nat} {t : TS} {s : SW} {vs : List V} {H : Hp} {Q : VK} {E : XK} (hs : SndS K t s) (h : sp3 K (body3 N.length p s) vs H Q E) : t { nx := fun _ H' => Q .non H', rt := Q } (L2.start N vs) H := by
  obtain ⟨st, F, n, ws, post, I, r, no, ⟨_, hm⟩, q⟩ := h
  refine hs (run0 K st F H) rfl n _ _ _ H F _ I (relE_start r no N) ⟨fun n1 env σ H1 F1 I1 _ hp => q n1 .none .non H1 F1 I1 .non hp, fun n1 w v H1 F1 I1 rv hp => ?_, fun _ _ _ _ _ _ _ (z : False) => z.elim, fun _ _ _ _ _ _ _ (z : False) => z.elim⟩ hm
  have own : ∀ ds, OwnAt (run0 K st F H) F1 H1 v ds → post n1 (.dat (.list ds)) → Q v H1 := fun ds o hp => by
    obtain ⟨a, xs, rfl, ha, hx, nf, nx, h0⟩ := o
    exact q n1 (.list ds) _ H1 (fun b => F1 b ∨ b = a) (I1.share ha nx h0) (.lst (.inr rfl) ha (fvs_move (fun _ _ z => z) (fun _ _ _ z => z) (fun _ z => .inl z) _ _ hx)) hp
  cases w with
  | dat d => exact q n1 d v H1 F1 I1 rv hp
  | own ds => exact own ds rv hp
  | new ds => exact own ds rv hp
  | st => exact hp.elim
theorem len3 {N p : Nat} {s : SW} {vs : List V} {H : Hp} {Q : VK} {E : XK} (h : sp3 K (body3 N p s) vs H Q E) : vs.length = p := by
  obtain ⟨st, F, n, ws, post, I, r, no, ⟨hl, _⟩, q⟩ := h
  rw [relVs_len r, hl]
/-- calls of such a def -/
theorem snb_3 {m : MF} : SndB K (fun vs H Q => sp3 K m vs H Q E0) (fun n ws post => (∀ ds, .own ds ∉ ws ∧ .new ds ∉ ws) ∧ m ws n post) := by
  intro C hK n ws vs H F post Q I r hm q
  subst hK
  have mo : ∀ {v w}, RelV C F H v w → (∀ ds, w ≠ .own ds ∧ w ≠ .new ds) → RelV (run0 C.K C.st F H) F H v w := fun {v w} h no => by
    cases w with
    | dat d => exact h
    | own ds => exact absurd rfl (no ds).1
    | new ds => exact absurd rfl (no ds).2
    | st => exact h
  have ms : ∀ {vs ws}, RelVs C F H vs ws → (∀ ds, .own ds ∉ ws ∧ .new ds ∉ ws) → RelVs (run0 C.K C.st F H) F H vs ws := fun {vs ws} h no => by
    induction h with
    | nil => exact .nil
    | @cons v w vs ws a b ih => exact .cons (mo a fun ds => ⟨fun e => (no ds).1 (e ▸ List.mem_cons_self), fun e => (no ds).2 (e ▸ List.mem_cons_self)⟩) (ih fun ds => ⟨fun m => (no ds).1 (List.mem_cons_of_mem _ m), fun m => (no ds).2 (List.mem_cons_of_mem _ m)⟩)
  have cst : ∀ s c l, C.st = some (s, c, l) → H c ≠ none := fun s c l h z => by
    obtain ⟨kvs, cells, lefts, a, _, _, _, _, _, h6, _⟩ := (I.st s c l h).ex
    rw [z] at h6
    cases h6
  refine ⟨C.st, F, n, ws, post, ⟨fun _ h => h, fun _ h => .inl h, fun b o h _ => h, I.nx, I.st, fun f m => (by cases m), cst, I.fh⟩, ms r hm.1, hm.1, hm.2, fun n' d v H' F' I' fv hp => ?_⟩
  have e : Ext3 C F H F' H' := ⟨I'.f0, fun a _ h => I'.fn a h, fun b o h nx => I'.same b o h nx⟩
  refine q n' (.dat d) v H' F' ⟨fun a h => e.f a (I.f0 a h), fun a h => ?_, fun b o h x => e.h b o (I.same b o h x) x, I'.nx, I'.st, fun f m => I.hold e (I.held f m), I.cst, I'.fh⟩ e (relV_dat fv) hp
  rcases I'.fn a h with h1 | h1
  · exact I.fn a h1
  · right
    cases e0 : C.H0 a with
    | none => rfl
    | some o =>
      have := I.same a o e0 (I'.nx a h)
      rw [show H a = none from h1] at this
      cases this
end
end K0

/-! V12: rules with the frag named, so that they serve within comprehensions too. -/
namespace V12
open PySem PySem.Spec PyProof.Rows L2 W1
variable {X : Cx} {K : PySem.W.Frag}
theorem op_inK (hK : X.K = K := by rfl) : OpR X (compareOp .In) (rIn K false) := hK ▸ op_in_seq
theorem op_notInK (hK : X.K = K := by rfl) : OpR X (compareOp .NotIn) (rIn K true) := hK ▸ op_notIn_seq
theorem call_lenK (hK : X.K = K := by rfl) : CallR X (.builtin "len") (fun xs H Q => ∃ p ys, xs = [.ref p] ∧ (SqL K H p ys ∨ SqT K H p ys) ∧ Q (.int ys.length) H) := hK ▸ call_len_seq
theorem call_listK (hK : X.K = K := by rfl) : CallR X (.type "list") (fun xs H Q => ∃ p ys, xs = [.ref p] ∧ (SqL K H p ys ∨ SqT K H p ys) ∧ ∀ l, H l = none → Q (.ref l) (upd H l (.lst ys))) := hK ▸ call_list_of
theorem cr_sortedK (hK : X.K = K := by rfl) : CallR X (.builtin "sorted") (rSorted K) := hK ▸ cr_sorted
theorem cr_sumK (hc : X.calm = true) (hK : X.K = K := by rfl) : CallR X (.builtin "sum") (rSum K) := hK ▸ cr_sum hc
theorem op_eqDK (hu : X.A.units + 64 < cLine) (hK : X.K = K := by rfl) : OpR X (compareOp .Eq) (rEqD K) := hK ▸ op_eqD hu
theorem op_neDK (hu : X.A.units + 64 < cLine) (hK : X.K = K := by rfl) : OpR X (compareOp .NotEq) (rNeD K) := hK ▸ op_neD hu
theorem sl_listK (hK : X.K = K := by rfl) : SlR X (rSlL K) := hK ▸ sl_list
theorem cr_maxK (hc : X.calm = true) (hK : X.K = K := by rfl) : CallR X (.builtin "max") (rMax K) := hK ▸ cr_max hc
theorem cr_minK (hc : X.calm = true) (hK : X.K = K := by rfl) : CallR X (.builtin "min") (rMin K) := hK ▸ cr_min hc
end V12

/-! S8: the size of a saying. -/
namespace K0
open PySem PySem.Spec PyProof.Rows L2 W0 W1 W2 W5 W6 V0 V1 V6
section
variable {P : Program} {w : World} {K : PySem.W.Frag} {mg : Str → Option Value} {base : Heap}
theorem lvls_tot (s : Say) : ((Say.lvls s.deep [s]).map fun l => (l.length : Int)).sum = (s.words.length : Int) := by
  have e : ∀ ls : List (List Say), (ls.map fun l => (l.length : Int)).sum = (ls.flatten.length : Int) := fun ls => by
    induction ls with
    | nil => rfl
    | cons l ls ih =>
      rw [List.map_cons, List.sum_cons, ih, List.flatten_cons, List.length_append, Int.natCast_add]
  rw [e]
  exact congrArg _ (Say.bfs_perm s).length_eq
def sp_size_of (K : PySem.W.Frag) : Sp := fun vs H Q _ => ∃ (v : V) (s : Say), vs = [v] ∧ Dp K H v (dSay s) ∧ s.deep ≤ 200 ∧ s.words.length ≤ 5000 ∧ ∀ H' p, Same H H' → SqT K H' p ([(s.words.length : Int), (s.deep : Int)].map V.int) → Q (.ref p) H'
theorem ok_size_of (T : Tops K w mg) : FnOk P w K mg base CX0 2 T.a_size_of T.fd_size_of p_size_of (sp_size_of K) := by
  have S := sc_size_of
  refine T.F_size_of.ok S (fun vs H Q E h => ?_) (fun cdv A outer s0 H vs Q E hr h => ?_)
  · obtain ⟨v, s, rfl, _⟩ := h
    rfl
  · obtain ⟨v, s, rfl, hd, hdeep, hw, q⟩ := h
    refine ⟨_, (pss_cons (ps_set (i := 1) S.nd rfl (Or.inl rfl) (pe_call (ok_levels_of T) (hr.mono (by first | decide | omega)) (by rfl) T.g_levels_of T.F_levels_of.kp T.b_levels_of .nil pass0 (pa_cons (pv 0) pa_nil)))
      (pss_one (ps_ret (pe_tup (pa_cons (pe_callB (V12.cr_sumK (K := K) rfl) (by rfl) T.m_sum (by decide +kernel) (pa_cons (pe_lc (own := [("level", 2)]) rfl S.nd (pi_list (pv 1)) (blkOk_by (N := n_size_of) (sc := defScope s_size_of) (by decide +kernel)) (fun _ _ _ _ _ => (pg_name (i := 2) S.nd rfl (Or.inl rfl))) (fun _ _ _ _ _ => pts_nil) (fun _ _ _ _ _ => (pe_callB (V12.call_lenK (K := K)) (by rfl) T.m_len (by decide +kernel) (pa_cons (pv 2) pa_nil)))) pa_nil)) (pa_cons (pe_callB call_len_seq (by rfl) T.m_len (by decide +kernel) (pa_cons (pv 1) pa_nil)) pa_nil)))))), ?_⟩
    refine ⟨v, rfl, v, s, rfl, hd, hdeep, hw, fun H1 g ps e1 ng hg lv => ?_⟩
    have lp := lv.1
    have ll := Say.lvls_len s.deep (l := [s]) (by rw [Say.maxd_one]; exact Nat.le_refl _)
    rw [Say.maxd_one] at ll
    refine ⟨.ref g, rfl, g, rfl, ⟨_, SqL.of hg⟩, fun D nD => ?_⟩
    dsimp only [tNil]
    refine lc_it (walk_list (K := K) (a := g) (xs := ps.map V.ref)) (D := D) (H1 := H1) (fun j H' => Same H1 H' ∧ H' D = some (.lst ((((Say.lvls s.deep [s]).take j).map fun l => (l.length : Int)).map V.int)))
      ⟨same_new nD, upd_same⟩ (fun i H' _ h => SqL.of (h.1 _ _ hg)) (fun i x H3 H4 hi h hy => ?_) (fun H2 h => ?_)
    · obtain ⟨rfl, hxi⟩ := hy
      obtain ⟨e3, hD⟩ := h
      rw [List.getElem?_map] at hxi
      obtain ⟨p, hpi, rfl⟩ := Option.map_eq_some_iff.mp hxi
      have il : i < (Say.lvls s.deep [s]).length := by
        rw [← lp]
        exact (List.getElem?_eq_some_iff.mp hpi).1
      have hli : (Say.lvls s.deep [s])[i]? = some (Say.lvls s.deep [s])[i] := List.getElem?_eq_getElem il
      generalize (Say.lvls s.deep [s])[i] = l at hli
      obtain ⟨ws, hpw, hws⟩ := lv.2 i p l hpi hli
      have lw := dps_len hws
      rw [List.length_map] at lw
      refine ⟨rfl, .ref p, rfl, p, ws, rfl, .inl (SqL.of (e3 _ _ hpw)), ?_⟩
      refine ⟨_, hD, ?_, same_upd_new e3 nD, ?_⟩
      · rw [List.length_map, List.length_map, List.length_take]
        exact small (m := 300) (by omega)
      · rw [upd_same, List.take_add_one, hli, List.map_append, List.map_append, lw]
        rfl
    · obtain ⟨e3, hD⟩ := h
      rw [List.length_map, lp, List.take_length] at hD
      refine ⟨D, _, rfl, SqL.of hD, .ref g, rfl, g, _, rfl, .inl (SqL.of (e3 _ _ hg)), ?_⟩
      rw [lvls_tot s, List.length_map, lp, ll]
      refine ⟨by show 2 ≤ sizeLine; decide, fun p np => ?_⟩
      exact q _ p (e1.trans (e3.trans (same_new np))) (SqT.of upd_same)
end
end K0

/-! LF: calls of defs; draws; what is like. -/
namespace K0
open PySem PySem.Spec PyProof.Rows L2 W0 W1 W2 W5 W6 V0 V1 V6
def noOwn : List Val → Bool
  | [] => true
  | .own _ :: _ => false
  | .new _ :: _ => false
  | _ :: ws => noOwn ws
theorem noOwn_mem : ∀ {ws : List Val}, noOwn ws = true → ∀ ds, .own ds ∉ ws ∧ .new ds ∉ ws
  | [], _, ds => ⟨List.not_mem_nil, List.not_mem_nil⟩
  | .dat _ :: ws, h, ds => ⟨fun m => (List.mem_cons.mp m).elim (fun z => by cases z) (noOwn_mem (ws := ws) h ds).1, fun m => (List.mem_cons.mp m).elim (fun z => by cases z) (noOwn_mem (ws := ws) h ds).2⟩
  | .st :: ws, h, ds => ⟨fun m => (List.mem_cons.mp m).elim (fun z => by cases z) (noOwn_mem (ws := ws) h ds).1, fun m => (List.mem_cons.mp m).elim (fun z => by cases z) (noOwn_mem (ws := ws) h ds).2⟩
def call3 (m : MF) : GB := fun n ws post => match noOwn ws with
  | true => m ws n post
  | false => False
section
variable {K : PySem.W.Frag}
theorem snb_call {m : MF} : SndB K (fun vs H Q => sp3 K m vs H Q E0) (call3 m) := fun C hK n ws vs H F post Q I r hm q => by
  unfold call3 at hm
  cases e : noOwn ws with
  | true =>
    rw [e] at hm
    exact snb_3 C hK n ws vs H F post Q I r ⟨noOwn_mem e, hm⟩ q
  | false =>
    rw [e] at hm
    exact hm.elim
theorem no3 {vs : List V} {H : Hp} {Q : VK} {E : XK} (h : sp3 K (fun _ _ _ => False) vs H Q E) : False := by
  obtain ⟨_, _, _, _, _, _, _, _, h, _⟩ := h
  exact h
/-- a draw -/
def gDraw : GB := fun n ws post => match ws with
  | [.st, .dat (.int m)] => 0 < m ∧ m < 1000 ∧ n ≤ 100000 ∧ ∀ i : Int, 0 ≤ i → i < m → post (n + 1) (.dat (.int i))
  | _ => False
theorem snb_draw : SndB K (fun vs H Q => sp_draw K vs H Q E0) gDraw := by
  intro C hK n ws vs H F post Q I r hm q
  subst hK
  unfold gDraw at hm
  split at hm
  · rename_i m
    obtain ⟨v, x, rfl, rv, rx⟩ := relVs2 r
    obtain ⟨⟨s, c, l⟩, ht, rfl⟩ := rv
    refine ⟨s, c, l, n, m, by rw [fv_int rx], hm.1, hm.2.1, I.st s c l ht, hm.2.2.1, fun H' i h0 h1 st' off => ?_⟩
    have xs : ∀ b, ¬C.X b → b ≠ s ∧ b ≠ l := fun b nx => ⟨fun e => nx ⟨_, ht, .inl e⟩, fun e => nx ⟨_, ht, .inr e⟩⟩
    have e : Ext3 C F H F H' := ⟨fun _ h => h, fun _ _ h => .inl h, fun b o h nx => (off b (xs b nx).1 (xs b nx).2).trans h⟩
    have fh : ∀ a, F a → H' a ≠ none := fun a h => by
      rw [off a (xs a (I.nx a h)).1 (xs a (I.nx a h)).2]
      exact I.fh a h
    refine q (n + 1) _ _ H' F ⟨I.f0, I.fn, fun b o h nx => e.h b o (I.same b o h nx) nx, I.nx, fun s' c' l' h => ?_, fun f m => I.hold e (I.held f m), I.cst, fh⟩ e (relV_dat (.int i)) (hm.2.2.2 i h0 h1)
    rw [ht] at h
    cases h
    exact st'
  · exact hm.elim
/-- two things that are the same -/
def gLike : GB := fun n ws post => match ws with
  | [.dat d, .dat e] => d = e ∧ (match d with | .tuple _ => True | .list _ => True | _ => False) ∧ Fine 20 (2 ^ 20) d ∧ post n (.dat (.bool true))
  | _ => False
theorem snb_like : SndB K (fun vs H Q => sp_like K vs H Q E0) gLike := by
  intro C hK n ws vs H F post Q I r hm q
  subst hK
  unfold gLike at hm
  split at hm
  · rename_i d e
    obtain ⟨v, x, rfl, rv, rx⟩ := relVs2 r
    obtain ⟨rfl, hr, hf, hp⟩ := hm
    have ref : ∀ {v : V}, Fv C.K F H v d → ∃ a, v = .ref a := fun {v} h => by
      cases h with
      | lst _ _ _ => exact ⟨_, rfl⟩
      | tup _ _ => exact ⟨_, rfl⟩
      | _ => exact hr.elim
    obtain ⟨a, rfl⟩ := ref rv
    obtain ⟨b, rfl⟩ := ref rx
    exact ⟨a, b, d, rfl, fv_dp _ _ rv, fv_dp _ _ rx, hf, q n _ _ H F I (Ext3.refl _ _ _) (relV_dat (.bl true)) hp⟩
  · exact hm.elim
/-- max of a list of ints -/
@[irreducible] def gMaxL : GB := fun n ws post => match ws with
  | [w] => (match (asL w).bind intsD with
    | some ns => 0 < ns.length ∧ ∀ m, m ∈ ns → (∀ y, y ∈ ns → y ≤ m) → post n (.dat (.int m))
    | none => False)
  | _ => False
theorem snb_maxL : SndB K (rMax K) gMaxL := by
  intro C hK n ws vs H F post Q I r hm q
  subst hK
  unfold gMaxL at hm
  split at hm
  · obtain ⟨v, rfl, rv⟩ := relVs1 r
    split at hm
    · rename_i ns hw
      obtain ⟨ds, h1, h2⟩ := Option.bind_eq_some_iff.mp hw
      obtain ⟨p, xs, rfl, hs, hx⟩ := relL rv h1
      rw [fvs_ints hx h2] at hs
      exact ⟨p, ns, rfl, SqL.of hs, hm.1, fun m h1 h2 => q n _ _ H F I (Ext3.refl _ _ _) (relV_dat (.int _)) (hm.2 m h1 h2)⟩
    · exact hm.elim
  · exact hm.elim
/-- what an older promise leaves -/
theorem old_x {C : Run} {H H' : Hp} {F : Addr → Prop} {n n' : Nat} (I : Inv3 C H F n) {s c l : Addr} (ht : C.st = some (s, c, l)) (st' : StAt C.K H' s c l n') (sx : SameX s l H H') : Inv3 C H' F n' ∧ Ext3 C F H F H' := by
  have xs : ∀ b, ¬C.X b → b ≠ s ∧ b ≠ l := fun b nx => ⟨fun e => nx ⟨_, ht, .inl e⟩, fun e => nx ⟨_, ht, .inr e⟩⟩
  have e : Ext3 C F H F H' := ⟨fun _ h => h, fun _ _ h => .inl h, fun b o h nx => sx b o h (xs b nx).1 (xs b nx).2⟩
  refine ⟨⟨I.f0, I.fn, fun b o h nx => e.h b o (I.same b o h nx) nx, I.nx, fun s' c' l' h => ?_, fun f m => I.hold e (I.held f m), I.cst, fun a h z => ?_⟩, e⟩
  · rw [ht] at h
    cases h
    exact st'
  · cases e0 : H a with
    | none => exact I.fh a h e0
    | some o => rw [e.h a o e0 (I.nx a h)] at z; cases z
/-- a drawn web -/
def gWeb : GB := fun n ws post => match ws with
  | [.st, .dat (.int m), .dat (.int k)] => 1 ≤ m ∧ m ≤ 5 ∧ 0 ≤ k ∧ k ≤ 3 ∧ n ≤ 90000 ∧ ∀ (s : Nat) (A : List T3), (s : Int) ≤ m → WOk s A → A.length ≤ 75 → post (n + 100) (.dat (dWeb s A))
  | _ => False
theorem snb_web : SndB K (fun vs H Q => sp_web K vs H Q E0) gWeb := by
  intro C hK n ws vs H F post Q I r hm q
  subst hK
  unfold gWeb at hm
  split at hm
  · rename_i m k
    obtain ⟨v, x, y, rfl, rv, rx, ry⟩ := relVs3 r
    obtain ⟨⟨s, c, l⟩, ht, rfl⟩ := rv
    obtain ⟨h1, h2, h3, h4, h5, hp⟩ := hm
    obtain ⟨m, rfl⟩ : ∃ z : Nat, m = z := ⟨m.toNat, (Int.toNat_of_nonneg (by omega)).symm⟩
    obtain ⟨k, rfl⟩ : ∃ z : Nat, k = z := ⟨k.toNat, (Int.toNat_of_nonneg (by omega)).symm⟩
    refine ⟨s, c, l, n, m, k, by rw [fv_int rx, fv_int ry], by omega, by omega, by omega, I.st s c l ht, h5, fun H' v z A st' sx d ok zm la => ?_⟩
    obtain ⟨I', e⟩ := old_x I ht st' sx
    exact q (n + 100) _ v H' F I' e (relV_dat (dp_fv _ _ (noL_web _ _) d)) (hp z A (by omega) ok la)
  · exact hm.elim
end
end K0

/-! LG: calls by names, tuple(range(n)), what follows on the state's begin. -/
namespace K0
open PySem PySem.Spec PyProof.Rows L2 W0 W1 W2 W5 W6 V0 V1 V6
section
variable {K : PySem.W.Frag}
theorem snd_call0K {sp : Sp} {g : GB} {ts : TA} {ms : AW} {k : Nat} (hr : SndB K (fun vs H Q => sp vs H Q E0) g) (hs : SndA K ts ms k) : SndE K (V7.tCall0K sp E0 ts) (eCB g ms) := by
  intro C hK n env post σ H F Q I R hm q
  refine hs C hK n env _ σ H F _ I R hm fun n' ws vs H' F' I' e r hl hp => ?_
  exact hr C hK n' ws vs H' F' post Q I' r hp fun n2 w v H2 F2 I2 e2 r2 hp2 => q n2 w v H2 F2 I2 (e.trans e2) (relR_back e r2) hp2
@[irreducible] def eTupRg (m : EW) : EW := fun n env post => m n env fun n1 w => match w with
  | .dat (.int k) => 0 ≤ k ∧ k ≤ 16777216 ∧ post n1 (.dat (.tuple (rgD 0 k.toNat)))
  | _ => False
theorem fv_rg {C : Run} {F : Addr → Prop} {H : Hp} : ∀ (l : List Nat), FvAll C.K F H (l.map fun (i : Nat) => V.int (0 + (i : Int))) (l.map fun (i : Nat) => PyData.int (0 + (i : Int)))
  | [] => .nil
  | i :: l => .cons (.int _) (fv_rg l)
theorem snd_tupRg {t : TE} {m : EW} (h : SndE K t m) : SndE K (tTupRg (tRg1 t)) (eTupRg m) := by
  intro C hK n env post σ H F Q I R hm q
  subst hK
  unfold eTupRg at hm
  refine h C rfl n env _ σ H F _ I R hm fun n' w v H' F' I' e r hp => ?_
  split at hp
  · rename_i k
    obtain ⟨h0, h1, hp⟩ := hp
    refine ⟨k, fv_int r.1, RgOk.of_le (by omega) h1 (by omega) h0, fun p np => ?_⟩
    have es := same_new (o := .tup (rgV 0 k)) np
    have e2 := Ext3.of (C := C) (F := F') es
    have fx : FvAll C.K F' (upd H' p (.tup (rgV 0 k))) (rgV 0 k) (rgD 0 k.toNat) := by
      unfold rgV rgD
      rw [Int.sub_zero]
      exact fv_rg _
    exact q n' _ _ _ F' (I'.sames es) (e.trans e2) (relV_dat (.tup (SqT.of upd_same) fx)) hp
  · exact hp.elim
/-- the run from the state's begin on -/
theorem rest3 {t : TS} {s : SW} (hs : SndS K t s) {H : Hp} {st c l : Addr} (h1 : StAt K H st c l 0) {v : V} {k : Nat} {Q : VK}
    (hm : s 0 (none :: some .st :: List.replicate k none) ⟨fun _ _ => False, fun _ w => w = .dat (.bool true), fun _ _ => False, fun _ _ => False⟩) (q : ∀ H', Q (.bl true) H') :
    t { nx := fun _ H' => Q .non H', rt := Q } (some v :: some (.ref st) :: List.replicate k none) H := by
  have I : Inv3 (run0 K (some (st, c, l)) (fun _ => False) H) H (fun _ => False) 0 := {
    f0 := fun _ h => h
    fn := fun _ h => h.elim
    same := fun _ _ h _ => h
    nx := fun _ h => h.elim
    st := fun s c' l' e => by
      obtain ⟨⟩ := e
      exact h1
    held := fun f hf => nomatch hf
    cst := fun s c' l' e => by
      obtain ⟨⟩ := e
      obtain ⟨⟨_, _, _, _, _, _, _, _, _, hc, _⟩, _⟩ := h1
      show H c ≠ none
      rw [hc]
      exact fun z => nomatch z
    fh := fun _ h => h.elim }
  have R : RelE (run0 K (some (st, c, l)) (fun _ => False) H) (fun _ => False) H (some v :: some (.ref st) :: List.replicate k none) (none :: some .st :: List.replicate k none) := {
    len := by simp
    at_ := fun i w h => by
      match i, h with
      | 1, h =>
        obtain rfl := Option.some.inj (Option.some.inj h)
        exact ⟨.ref st, rfl, (st, c, l), rfl, rfl⟩
      | i + 2, h =>
        have h : (List.replicate k none)[i]? = some (some w) := h
        rw [List.getElem?_replicate] at h
        split at h <;> cases h
    inj := fun i j ds es p h _ _ _ => by
      match i, h with
      | 1, h => cases h
      | i + 2, h =>
        have h : (List.replicate k none)[i]? = some (some (Val.own ds)) := h
        rw [List.getElem?_replicate] at h
        split at h <;> cases h
    nonew := fun i ds h => by
      match i, h with
      | 1, h => cases h
      | i + 2, h =>
        have h : (List.replicate k none)[i]? = some (some (Val.new ds)) := h
        rw [List.getElem?_replicate] at h
        split at h <;> cases h }
  refine hs _ rfl 0 _ _ _ H _ _ I R ⟨fun _ _ _ _ _ _ _ (z : False) => z.elim, fun n1 w v H1 F1 I1 rv hp => ?_, fun _ _ _ _ _ _ _ (z : False) => z.elim, fun _ _ _ _ _ _ _ (z : False) => z.elim⟩ hm
  have hp : w = .dat (.bool true) := hp
  subst hp
  rw [fv_bl rv]
  exact q H1
end
end K0

namespace K0
open PySem PySem.Spec PyProof.Rows L2 W0 W1 W2 W5 W6 V0 V1 V6
section
variable {P : Program} {w : World} {K : PySem.W.Frag} {mg : Str → Option Value} {base : Heap}
@[irreducible] def m__law_bit : MF := body3 n__law_bit.length 1
    (sSeq (sSet (eC (.int 1)) (gwName 1))
    (sSeq (sFor (iRg1 (eVar 0)) (gwName 2) (sSet (eOp (gI0 (· + ·)) (eVar 1) (eVar 1)) (gwName 1)))
    (sRet (eVar 1))))
theorem ok__law_bit (T : Tops K w mg) : FnOk P w K mg base CX0 1 T.a__law_bit T.fd__law_bit p__law_bit (sp3 K m__law_bit) := by
  have S := sc__law_bit
  refine T.F__law_bit.ok S (fun vs H Q E h => by unfold m__law_bit at h; exact len3 h) (fun cdv A outer s0 H vs Q E hr h => ?_)
  unfold m__law_bit at h
  exact ⟨_, (pss_cons (ps_set (i := 1) S.nd rfl (Or.inl rfl) pe_int)
      (pss_cons (ps_for PassesOwn.never rfl (pi_range1 (by rfl) T.m_range (pa_cons (pv 0) pa_nil)) (pg_name (i := 2) S.nd rfl (Or.inl rfl)) (pss_one (ps_set (i := 1) S.nd rfl (Or.inl rfl) (pe_op op_add (pv 1) (pv 1)))))
      (pss_one (ps_ret (pv 1))))), run3 (sns_seq (sns_set snd_int sng_name)
      (sns_seq (sns_for (sni_rg1 snd_var) sng_name (sns_set (snd_op sop_add snd_var snd_var) sng_name))
      (sns_ret snd_var))) h⟩

@[irreducible] def m__law_way : MF := body3 n__law_way.length 3
    (sSeq (sSet (eCB gDraw (aCons (eVar 0) (aCons (eVar 1) aNil))) (gwName 3))
    (sRet (eIf (twAnd (tw (eVar 2)) (tw (eOp (gEq false) (eCB gDraw (aCons (eVar 0) (aCons (eC (.int 3)) aNil))) (eC (.int 0))))) (eOp (gI0 (· - ·)) (eNeg (eC (.int 1))) (eVar 3)) (eVar 3))))
theorem ok__law_way (T : Tops K w mg) : FnOk P w K mg base CX0 3 T.a__law_way T.fd__law_way p__law_way (sp3 K m__law_way) := by
  have S := sc__law_way
  refine T.F__law_way.ok S (fun vs H Q E h => by unfold m__law_way at h; exact len3 h) (fun cdv A outer s0 H vs Q E hr h => ?_)
  unfold m__law_way at h
  exact ⟨_, (pss_cons (ps_set (i := 3) S.nd rfl (Or.inl rfl) (pe_call (ok__law_draw T) (hr.mono (by first | decide | omega)) (by rfl) T.g__law_draw T.F__law_draw.kp T.b__law_draw .nil pass0 (pa_cons (pv 0) (pa_cons (pv 1) pa_nil))))
      (pss_one (ps_ret (pe_ifExp ((pw_and (pt_val (pv 2)) (pw_and1 (pt_cmpR op_eq (pe_call (ok__law_draw T) (hr.mono (by first | decide | omega)) (by rfl) T.g__law_draw T.F__law_draw.kp T.b__law_draw .nil pass0 (pa_cons (pv 0) (pa_cons pe_int pa_nil))) pe_int (nomark _))))).pt (pe_op op_sub (pe_un un_neg pe_int) (pv 3)) (pv 3))))), run3 (sns_seq (sns_set (snd_call snb_draw (snd_cons snd_var (snd_cons snd_var snd_nil))) sng_name)
      (sns_ret (snd_if (snt_and (snt_test snd_var) (snt_test (snd_op sop_eq (snd_call snb_draw (snd_cons snd_var (snd_cons snd_int snd_nil))) snd_int))) (snd_op sop_sub (snd_neg snd_int) snd_var) snd_var))) h⟩

@[irreducible] def ms__law_saying (r : MF) : MF := body3 n__law_saying.length 5
    (sSeq (sSet (eIf (tw (eOp (gIB fun i j => decide (j < i)) (eVar 1) (eC (.int 1)))) (eCB gDraw (aCons (eVar 0) (aCons (eC (.int 9)) aNil))) (eCB gDraw (aCons (eVar 0) (aCons (eC (.int 3)) aNil)))) (gwName 5))
    (sSeq (sIf (tw (eOp (gIB fun i j => decide (i < j)) (eVar 5) (eC (.int 2)))) (sRet (eTup (aCons (eC (.str "letter")) (aCons (eCB gDraw (aCons (eVar 0) (aCons (eVar 2) aNil))) aNil)))) sNext)
    (sSeq (sIf (tw (eOp (gEq false) (eVar 5) (eC (.int 2)))) (sRet (eTup (aCons (eOp (gIx asL) (eLst (aCons (eC (.str "yes")) (aCons (eC (.str "no")) aNil))) (eCB gDraw (aCons (eVar 0) (aCons (eC (.int 2)) aNil)))) aNil))) sNext)
    (sSeq (sIf (tw (eOp (gEq false) (eVar 5) (eC (.int 3)))) (sRet (eTup (aCons (eC (.str "not")) (aCons (eCB (call3 r) (aCons (eVar 0) (aCons (eOp (gI0 (· - ·)) (eVar 1) (eC (.int 1))) (aCons (eVar 2) (aCons (eVar 3) (aCons (eVar 4) aNil)))))) aNil)))) sNext)
    (sSeq (sIf (tw (eOp (gIB fun i j => decide (i < j)) (eVar 5) (eC (.int 6)))) (sSeq (sSet (eOp (gIx asL) (eLst (aCons (eC (.str "and")) (aCons (eC (.str "or")) (aCons (eC (.str "gives")) aNil)))) (eCB gDraw (aCons (eVar 0) (aCons (eC (.int 3)) aNil)))) (gwName 6))
    (sSeq (sSet (eCB (call3 r) (aCons (eVar 0) (aCons (eOp (gI0 (· - ·)) (eVar 1) (eC (.int 1))) (aCons (eVar 2) (aCons (eVar 3) (aCons (eVar 4) aNil)))))) (gwName 8))
    (sRet (eTup (aCons (eVar 6) (aCons (eVar 8) (aCons (eCB (call3 r) (aCons (eVar 0) (aCons (eOp (gI0 (· - ·)) (eVar 1) (eC (.int 1))) (aCons (eVar 2) (aCons (eVar 3) (aCons (eVar 4) aNil)))))) aNil))))))) sNext)
    (sSeq (sPar 6 7 (eOp (gIx asL) (eLst (aCons (eC (.str "each")) (aCons (eC (.str "some")) aNil))) (eCB gDraw (aCons (eVar 0) (aCons (eC (.int 2)) aNil)))) (eCB (call3 m__law_way) (aCons (eVar 0) (aCons (eVar 3) (aCons (eVar 4) aNil)))))
    (sRet (eTup (aCons (eVar 6) (aCons (eVar 7) (aCons (eCB (call3 r) (aCons (eVar 0) (aCons (eOp (gI0 (· - ·)) (eVar 1) (eC (.int 1))) (aCons (eVar 2) (aCons (eVar 3) (aCons (eVar 4) aNil)))))) aNil)))))))))))
def m__law_saying : Nat → MF
  | 0 => fun _ _ _ => False
  | d + 1 => ms__law_saying (m__law_saying d)
theorem ok__law_saying (T : Tops K w mg) : ∀ d : Nat, FnOk P w K mg base CX0 (d + 4) T.a__law_saying T.fd__law_saying p__law_saying (sp3 K (m__law_saying d))
  | 0 => by
    have S := sc__law_saying
    exact T.F__law_saying.ok S (fun vs H Q E h => (no3 h).elim) (fun cdv A outer s0 H vs Q E hr h => (no3 h).elim)
  | d + 1 => by
    have ih := ok__law_saying T d
    have S := sc__law_saying
    refine T.F__law_saying.ok S (fun vs H Q E h => ?_) (fun cdv A outer s0 H vs Q E hr h => ?_)
    · have h : sp3 K (ms__law_saying (m__law_saying d)) vs H Q E := h
      unfold ms__law_saying at h
      exact len3 h
    have h : sp3 K (ms__law_saying (m__law_saying d)) vs H Q E := h
    unfold ms__law_saying at h
    exact ⟨_, (pss_cons (ps_set (i := 5) S.nd rfl (Or.inl rfl) (pe_ifExp (pt_cmpR op_gt (pv 1) pe_int (nomark _)) (pe_call (ok__law_draw T) (hr.mono (by first | decide | omega)) (by rfl) T.g__law_draw T.F__law_draw.kp T.b__law_draw .nil pass0 (pa_cons (pv 0) (pa_cons pe_int pa_nil))) (pe_call (ok__law_draw T) (hr.mono (by first | decide | omega)) (by rfl) T.g__law_draw T.F__law_draw.kp T.b__law_draw .nil pass0 (pa_cons (pv 0) (pa_cons pe_int pa_nil)))))
      (pss_cons (ps_if (pt_cmpR op_lt (pv 5) pe_int (nomark _)) (pss_one (ps_ret (pe_tup (pa_cons pe_str (pa_cons (pe_call (ok__law_draw T) (hr.mono (by first | decide | omega)) (by rfl) T.g__law_draw T.F__law_draw.kp T.b__law_draw .nil pass0 (pa_cons (pv 0) (pa_cons (pv 2) pa_nil))) pa_nil))))) pss_nil)
      (pss_cons (ps_if (pt_cmpR op_eq (pv 5) pe_int (nomark _)) (pss_one (ps_ret (pe_tup (pa_cons (pe_ix (ix_listK (K := K)) (pe_lst (pa_cons pe_str (pa_cons pe_str pa_nil))) (pe_call (ok__law_draw T) (hr.mono (by first | decide | omega)) (by rfl) T.g__law_draw T.F__law_draw.kp T.b__law_draw .nil pass0 (pa_cons (pv 0) (pa_cons pe_int pa_nil))) (fun _ _ => rfl)) pa_nil)))) pss_nil)
      (pss_cons (ps_if (pt_cmpR op_eq (pv 5) pe_int (nomark _)) (pss_one (ps_ret (pe_tup (pa_cons pe_str (pa_cons (pe_call ih (hr.mono (by omega)) (by rfl) T.g__law_saying T.F__law_saying.kp T.b__law_saying .nil pass0 (pa_cons (pv 0) (pa_cons (pe_op op_sub (pv 1) pe_int) (pa_cons (pv 2) (pa_cons (pv 3) (pa_cons (pv 4) pa_nil)))))) pa_nil))))) pss_nil)
      (pss_cons (ps_if (pt_cmpR op_lt (pv 5) pe_int (nomark _)) (pss_cons (ps_set (i := 6) S.nd rfl (Or.inl rfl) (pe_ix (ix_listK (K := K)) (pe_lst (pa_cons pe_str (pa_cons pe_str (pa_cons pe_str pa_nil)))) (pe_call (ok__law_draw T) (hr.mono (by first | decide | omega)) (by rfl) T.g__law_draw T.F__law_draw.kp T.b__law_draw .nil pass0 (pa_cons (pv 0) (pa_cons pe_int pa_nil))) (fun _ _ => rfl)))
      (pss_cons (ps_set (i := 8) S.nd rfl (Or.inl rfl) (pe_call ih (hr.mono (by omega)) (by rfl) T.g__law_saying T.F__law_saying.kp T.b__law_saying .nil pass0 (pa_cons (pv 0) (pa_cons (pe_op op_sub (pv 1) pe_int) (pa_cons (pv 2) (pa_cons (pv 3) (pa_cons (pv 4) pa_nil)))))))
      (pss_one (ps_ret (pe_tup (pa_cons (pv 6) (pa_cons (pv 8) (pa_cons (pe_call ih (hr.mono (by omega)) (by rfl) T.g__law_saying T.F__law_saying.kp T.b__law_saying .nil pass0 (pa_cons (pv 0) (pa_cons (pe_op op_sub (pv 1) pe_int) (pa_cons (pv 2) (pa_cons (pv 3) (pa_cons (pv 4) pa_nil)))))) pa_nil)))))))) pss_nil)
      (pss_cons (ps_par (i := 6) (j := 7) rfl S.nd rfl rfl (by decide) rfl rfl (pa_cons (pe_ix (ix_listK (K := K)) (pe_lst (pa_cons pe_str (pa_cons pe_str pa_nil))) (pe_call (ok__law_draw T) (hr.mono (by first | decide | omega)) (by rfl) T.g__law_draw T.F__law_draw.kp T.b__law_draw .nil pass0 (pa_cons (pv 0) (pa_cons pe_int pa_nil))) (fun _ _ => rfl)) (pa_cons (pe_call (ok__law_way T) (hr.mono (by first | decide | omega)) (by rfl) T.g__law_way T.F__law_way.kp T.b__law_way .nil pass0 (pa_cons (pv 0) (pa_cons (pv 3) (pa_cons (pv 4) pa_nil)))) pa_nil)) (by rfl))
      (pss_one (ps_ret (pe_tup (pa_cons (pv 6) (pa_cons (pv 7) (pa_cons (pe_call ih (hr.mono (by omega)) (by rfl) T.g__law_saying T.F__law_saying.kp T.b__law_saying .nil pass0 (pa_cons (pv 0) (pa_cons (pe_op op_sub (pv 1) pe_int) (pa_cons (pv 2) (pa_cons (pv 3) (pa_cons (pv 4) pa_nil)))))) pa_nil)))))))))))), run3 (sns_seq (sns_set (snd_if (snt_test (snd_op op_rIB snd_var snd_int)) (snd_call snb_draw (snd_cons snd_var (snd_cons snd_int snd_nil))) (snd_call snb_draw (snd_cons snd_var (snd_cons snd_int snd_nil)))) sng_name)
      (sns_seq (sns_if (snt_test (snd_op op_rIB snd_var snd_int)) (sns_ret (snd_tup (snd_cons snd_str (snd_cons (snd_call snb_draw (snd_cons snd_var (snd_cons snd_var snd_nil))) snd_nil)))) sns_next)
      (sns_seq (sns_if (snt_test (snd_op sop_eq snd_var snd_int)) (sns_ret (snd_tup (snd_cons (snd_op sop_ixL (snd_lst (snd_cons snd_str (snd_cons snd_str snd_nil))) (snd_call snb_draw (snd_cons snd_var (snd_cons snd_int snd_nil)))) snd_nil))) sns_next)
      (sns_seq (sns_if (snt_test (snd_op sop_eq snd_var snd_int)) (sns_ret (snd_tup (snd_cons snd_str (snd_cons (snd_call snb_call (snd_cons snd_var (snd_cons (snd_op sop_sub snd_var snd_int) (snd_cons snd_var (snd_cons snd_var (snd_cons snd_var snd_nil)))))) snd_nil)))) sns_next)
      (sns_seq (sns_if (snt_test (snd_op op_rIB snd_var snd_int)) (sns_seq (sns_set (snd_op sop_ixL (snd_lst (snd_cons snd_str (snd_cons snd_str (snd_cons snd_str snd_nil)))) (snd_call snb_draw (snd_cons snd_var (snd_cons snd_int snd_nil)))) sng_name)
      (sns_seq (sns_set (snd_call snb_call (snd_cons snd_var (snd_cons (snd_op sop_sub snd_var snd_int) (snd_cons snd_var (snd_cons snd_var (snd_cons snd_var snd_nil)))))) sng_name)
      (sns_ret (snd_tup (snd_cons snd_var (snd_cons snd_var (snd_cons (snd_call snb_call (snd_cons snd_var (snd_cons (snd_op sop_sub snd_var snd_int) (snd_cons snd_var (snd_cons snd_var (snd_cons snd_var snd_nil)))))) snd_nil))))))) sns_next)
      (sns_seq (sns_par (snd_op sop_ixL (snd_lst (snd_cons snd_str (snd_cons snd_str snd_nil))) (snd_call snb_draw (snd_cons snd_var (snd_cons snd_int snd_nil)))) (snd_call snb_call (snd_cons snd_var (snd_cons snd_var (snd_cons snd_var snd_nil)))))
      (sns_ret (snd_tup (snd_cons snd_var (snd_cons snd_var (snd_cons (snd_call snb_call (snd_cons snd_var (snd_cons (snd_op sop_sub snd_var snd_int) (snd_cons snd_var (snd_cons snd_var (snd_cons snd_var snd_nil)))))) snd_nil))))))))))) h⟩

@[irreducible] def m__law_along : MF := body3 n__law_along.length 2
    (sSeq (sSet (eVar 0) (gwTup 2 (gwCons (gwName 2) (gwCons (gwName 3) gwNil))))
    (sSeq (sOwn (eOp gRepL (eLst (aCons (eC (.int 0)) aNil)) (eVar 2)) (gwName 4))
    (sSeq (sFor (iSeq asT (eVar 3)) (gwTup 3 (gwCons (gwName 5) (gwCons (gwName 6) (gwCons (gwName 7) gwNil)))) (sSeq (sIf (tw (eOp (gEq false) (eVar 1) (eVar 5))) (sPut 4 (eVar 6) (eOp (gBit (· ||| ·)) (eOp (gIx asL) (eVar 4) (eVar 6)) (eCB (call3 m__law_bit) (aCons (eVar 7) aNil)))) sNext)
    (sIf (tw (eOp (gEq false) (eVar 1) (eOp (gI0 (· - ·)) (eNeg (eC (.int 1))) (eVar 5)))) (sPut 4 (eVar 7) (eOp (gBit (· ||| ·)) (eOp (gIx asL) (eVar 4) (eVar 7)) (eCB (call3 m__law_bit) (aCons (eVar 6) aNil)))) sNext)))
    (sRet (eVar 4)))))
theorem ok__law_along (T : Tops K w mg) : FnOk P w K mg base CX0 2 T.a__law_along T.fd__law_along p__law_along (sp3 K m__law_along) := by
  have S := sc__law_along
  refine T.F__law_along.ok S (fun vs H Q E h => by unfold m__law_along at h; exact len3 h) (fun cdv A outer s0 H vs Q E hr h => ?_)
  unfold m__law_along at h
  exact ⟨_, (pss_cons (ps_asg (pv 0) (pg_tupK (K := K) (n := 2) rfl (pgs_cons (pg_name (i := 2) S.nd rfl (Or.inl rfl)) (pgs_cons (pg_name (i := 3) S.nd rfl (Or.inl rfl)) pgs_nil))))
      (pss_cons (ps_set (i := 4) S.nd rfl (Or.inl rfl) (pe_op op_rep (pe_lst (pa_cons pe_int pa_nil)) (pv 2)))
      (pss_cons (ps_for PassesOwn.never rfl (pi_tup (pv 3)) (pg_tupK (K := K) (n := 3) rfl (pgs_cons (pg_name (i := 5) S.nd rfl (Or.inl rfl)) (pgs_cons (pg_name (i := 6) S.nd rfl (Or.inl rfl)) (pgs_cons (pg_name (i := 7) S.nd rfl (Or.inl rfl)) pgs_nil)))) (pss_cons (ps_if (pt_cmpR op_eq (pv 1) (pv 5) (nomark _)) (pss_one (ps_asg (pe_op V6.op_orB (pe_ix (ix_listK (K := K)) (pv 4) (pv 6) (fun _ _ => rfl)) (pe_call (ok__law_bit T) (hr.mono (by first | decide | omega)) (by rfl) T.g__law_bit T.F__law_bit.kp T.b__law_bit .nil pass0 (pa_cons (pv 7) pa_nil))) (pg_sub (pv 4) (pv 6) set_list))) pss_nil)
      (pss_one (ps_if (pt_cmpR op_eq (pv 1) (pe_op op_sub (pe_un un_neg pe_int) (pv 5)) (nomark _)) (pss_one (ps_asg (pe_op V6.op_orB (pe_ix (ix_listK (K := K)) (pv 4) (pv 7) (fun _ _ => rfl)) (pe_call (ok__law_bit T) (hr.mono (by first | decide | omega)) (by rfl) T.g__law_bit T.F__law_bit.kp T.b__law_bit .nil pass0 (pa_cons (pv 6) pa_nil))) (pg_sub (pv 4) (pv 7) set_list))) pss_nil))))
      (pss_one (ps_ret (pv 4)))))), run3 (sns_seq (sns_set snd_var (sng_tup (sng_cons sng_name (sng_cons sng_name sng_nil))))
      (sns_seq (sns_own (snd_op sop_repL (snd_lst (snd_cons snd_int snd_nil)) snd_var) sng_name)
      (sns_seq (sns_for (sni_tup snd_var) (sng_tup (sng_cons sng_name (sng_cons sng_name (sng_cons sng_name sng_nil)))) (sns_seq (sns_if (snt_test (snd_op sop_eq snd_var snd_var)) (sns_put (i := 4) snd_var (snd_op sop_bit (snd_op sop_ixL snd_var snd_var) (snd_call snb_call (snd_cons snd_var snd_nil)))) sns_next)
      (sns_if (snt_test (snd_op sop_eq snd_var (snd_op sop_sub (snd_neg snd_int) snd_var))) (sns_put (i := 4) snd_var (snd_op sop_bit (snd_op sop_ixL snd_var snd_var) (snd_call snb_call (snd_cons snd_var snd_nil)))) sns_next)))
      (sns_ret snd_var)))) h⟩

@[irreducible] def m__law_spots : MF := body3 n__law_spots.length 2
    (sRet (eCB gTupOf (aCons (eLc (iRg1 (eVar 1)) (gwName 2) (tw (eOp (gEq true) (eOp (gBit (· &&& ·)) (eVar 0) (eCB (call3 m__law_bit) (aCons (eVar 2) aNil))) (eC (.int 0)))) (eVar 2) [2]) aNil)))
theorem ok__law_spots (T : Tops K w mg) : FnOk P w K mg base CX0 2 T.a__law_spots T.fd__law_spots p__law_spots (sp3 K m__law_spots) := by
  have S := sc__law_spots
  refine T.F__law_spots.ok S (fun vs H Q E h => by unfold m__law_spots at h; exact len3 h) (fun cdv A outer s0 H vs Q E hr h => ?_)
  unfold m__law_spots at h
  exact ⟨_, (pss_one (ps_ret (pe_callTy (call_tupleK (K := K)) (by rfl) T.m_tuple (by decide +kernel) (pa_cons (pe_lc (own := [("spot", 2)]) rfl S.nd (pi_range1 (by rfl) T.m_range (pa_cons (pv 1) pa_nil)) (blkOk_by (N := n__law_spots) (sc := defScope s__law_spots) (by decide +kernel)) (fun _ _ _ _ _ => (pg_name (i := 2) S.nd rfl (Or.inl rfl))) (fun _ _ _ _ _ => (pts_one (pt_cmpR op_ne (pe_op V6.op_andB (pv 0) (pe_call (ok__law_bit T) (hr.mono (by first | decide | omega)) (by rfl) T.g__law_bit T.F__law_bit.kp T.b__law_bit .nil pass0 (pa_cons (pv 2) pa_nil))) pe_int (nomark _)))) (fun _ _ _ _ _ => (pv 2))) pa_nil)))), run3 (sns_ret (snd_cb snb_tup (snd_cons (snd_lc (sni_rg1 snd_var) sng_name (snt_test (snd_op sop_ne (snd_op sop_bit snd_var (snd_call snb_call (snd_cons snd_var snd_nil))) snd_int)) snd_var (by decide)) snd_nil))) h⟩

@[irreducible] def ms__law_holds (r : MF) : MF := body3 n__law_holds.length 3
    (sSeq (sPar 3 4 (eOp (gIx asT) (eVar 0) (eC (.int 0))) (eOp (gIx asT) (eVar 1) (eC (.int 0))))
    (sSeq (sSet (eOp (gI0 (· - ·)) (eCB (call3 m__law_bit) (aCons (eVar 3) aNil)) (eC (.int 1))) (gwName 5))
    (sSeq (sIf (tw (eOp (gEq false) (eVar 4) (eC (.str "letter")))) (sRet (eIf (tw (eOp (gIB fun i j => decide (i < j)) (eOp (gIx asT) (eVar 1) (eC (.int 1))) (eCB gLen (aCons (eVar 2) aNil)))) (eOp (gIx asL) (eVar 2) (eOp (gIx asT) (eVar 1) (eC (.int 1)))) (eC (.int 0)))) sNext)
    (sSeq (sIf (tw (eOp (gIn false) (eVar 4) (eTup (aCons (eC (.str "yes")) (aCons (eC (.str "no")) aNil))))) (sRet (eIf (tw (eOp (gEq false) (eVar 4) (eC (.str "yes")))) (eVar 5) (eC (.int 0)))) sNext)
    (sSeq (sSet (eCB (call3 r) (aCons (eVar 0) (aCons (eOp (gIx asT) (eVar 1) (eIf (tw (eOp (gIn false) (eVar 4) (eTup (aCons (eC (.str "each")) (aCons (eC (.str "some")) aNil))))) (eC (.int 2)) (eC (.int 1)))) (aCons (eVar 2) aNil)))) (gwName 6))
    (sSeq (sIf (tw (eOp (gEq false) (eVar 4) (eC (.str "not")))) (sRet (eOp (gI0 (· - ·)) (eVar 5) (eVar 6))) sNext)
    (sSeq (sIf (tw (eOp (gIn false) (eVar 4) (eTup (aCons (eC (.str "each")) (aCons (eC (.str "some")) aNil))))) (sSeq (sPar 8 9 (eCB (call3 m__law_along) (aCons (eVar 0) (aCons (eOp (gIx asT) (eVar 1) (eC (.int 1))) aNil))) (eC (.int 0)))
    (sSeq (sFor (iRg1 (eVar 3)) (gwName 10) (sSeq (sSet (eIf (tw (eOp (gEq false) (eVar 4) (eC (.str "each")))) (eOp (gEq false) (eOp (gBit (· &&& ·)) (eOp (gIx asL) (eVar 8) (eVar 10)) (eVar 6)) (eOp (gIx asL) (eVar 8) (eVar 10))) (eOp (gEq true) (eOp (gBit (· &&& ·)) (eOp (gIx asL) (eVar 8) (eVar 10)) (eVar 6)) (eC (.int 0)))) (gwName 11))
    (sSet (eOp (gBit (· ||| ·)) (eVar 9) (eIf (tw (eVar 11)) (eCB (call3 m__law_bit) (aCons (eVar 10) aNil)) (eC (.int 0)))) (gwName 9))))
    (sRet (eVar 9)))) sNext)
    (sSeq (sSet (eCB (call3 r) (aCons (eVar 0) (aCons (eOp (gIx asT) (eVar 1) (eC (.int 2))) (aCons (eVar 2) aNil)))) (gwName 7))
    (sSeq (sIf (tw (eOp (gEq false) (eVar 4) (eC (.str "and")))) (sRet (eOp (gBit (· &&& ·)) (eVar 6) (eVar 7))) sNext)
    (sRet (eIf (tw (eOp (gEq false) (eVar 4) (eC (.str "or")))) (eOp (gBit (· ||| ·)) (eVar 6) (eVar 7)) (eOp (gBit (· ||| ·)) (eOp (gI0 (· - ·)) (eVar 5) (eVar 6)) (eVar 7)))))))))))))
def m__law_holds : Nat → MF
  | 0 => fun _ _ _ => False
  | d + 1 => ms__law_holds (m__law_holds d)
theorem ok__law_holds (T : Tops K w mg) : ∀ d : Nat, FnOk P w K mg base CX0 (d + 3) T.a__law_holds T.fd__law_holds p__law_holds (sp3 K (m__law_holds d))
  | 0 => by
    have S := sc__law_holds
    exact T.F__law_holds.ok S (fun vs H Q E h => (no3 h).elim) (fun cdv A outer s0 H vs Q E hr h => (no3 h).elim)
  | d + 1 => by
    have ih := ok__law_holds T d
    have S := sc__law_holds
    refine T.F__law_holds.ok S (fun vs H Q E h => ?_) (fun cdv A outer s0 H vs Q E hr h => ?_)
    · have h : sp3 K (ms__law_holds (m__law_holds d)) vs H Q E := h
      unfold ms__law_holds at h
      exact len3 h
    have h : sp3 K (ms__law_holds (m__law_holds d)) vs H Q E := h
    unfold ms__law_holds at h
    exact ⟨_, (pss_cons (ps_par (i := 3) (j := 4) rfl S.nd rfl rfl (by decide) rfl rfl (pa_cons (pe_ix (ix_tupK (K := K)) (pv 0) pe_int (fun _ _ => rfl)) (pa_cons (pe_ix (ix_tupK (K := K)) (pv 1) pe_int (fun _ _ => rfl)) pa_nil)) (by rfl))
      (pss_cons (ps_set (i := 5) S.nd rfl (Or.inl rfl) (pe_op op_sub (pe_call (ok__law_bit T) (hr.mono (by first | decide | omega)) (by rfl) T.g__law_bit T.F__law_bit.kp T.b__law_bit .nil pass0 (pa_cons (pv 3) pa_nil)) pe_int))
      (pss_cons (ps_if (pt_cmpR op_eq (pv 4) pe_str (nomark _)) (pss_one (ps_ret (pe_ifExp (pt_cmpR op_lt (pe_ix (ix_tupK (K := K)) (pv 1) pe_int (fun _ _ => rfl)) (pe_callB (V12.call_lenK (K := K)) (by rfl) T.m_len (by decide +kernel) (pa_cons (pv 2) pa_nil)) (nomark _)) (pe_ix (ix_listK (K := K)) (pv 2) (pe_ix (ix_tupK (K := K)) (pv 1) pe_int (fun _ _ => rfl)) (fun _ _ => rfl)) pe_int))) pss_nil)
      (pss_cons (ps_if (pt_cmpR (V12.op_inK (K := K)) (pv 4) (pe_tup (pa_cons pe_str (pa_cons pe_str pa_nil))) (by rfl)) (pss_one (ps_ret (pe_ifExp (pt_cmpR op_eq (pv 4) pe_str (nomark _)) (pv 5) pe_int))) pss_nil)
      (pss_cons (ps_set (i := 6) S.nd rfl (Or.inl rfl) (pe_call ih (hr.mono (by omega)) (by rfl) T.g__law_holds T.F__law_holds.kp T.b__law_holds .nil pass0 (pa_cons (pv 0) (pa_cons (pe_ix (ix_tupK (K := K)) (pv 1) (pe_ifExp (pt_cmpR (V12.op_inK (K := K)) (pv 4) (pe_tup (pa_cons pe_str (pa_cons pe_str pa_nil))) (by rfl)) pe_int pe_int) (fun _ _ => rfl)) (pa_cons (pv 2) pa_nil)))))
      (pss_cons (ps_if (pt_cmpR op_eq (pv 4) pe_str (nomark _)) (pss_one (ps_ret (pe_op op_sub (pv 5) (pv 6)))) pss_nil)
      (pss_cons (ps_if (pt_cmpR (V12.op_inK (K := K)) (pv 4) (pe_tup (pa_cons pe_str (pa_cons pe_str pa_nil))) (by rfl)) (pss_cons (ps_par (i := 8) (j := 9) rfl S.nd rfl rfl (by decide) rfl rfl (pa_cons (pe_call (ok__law_along T) (hr.mono (by first | decide | omega)) (by rfl) T.g__law_along T.F__law_along.kp T.b__law_along .nil pass0 (pa_cons (pv 0) (pa_cons (pe_ix (ix_tupK (K := K)) (pv 1) pe_int (fun _ _ => rfl)) pa_nil))) (pa_cons pe_int pa_nil)) (by rfl))
      (pss_cons (ps_for PassesOwn.never rfl (pi_range1 (by rfl) T.m_range (pa_cons (pv 3) pa_nil)) (pg_name (i := 10) S.nd rfl (Or.inl rfl)) (pss_cons (ps_set (i := 11) S.nd rfl (Or.inl rfl) (pe_ifExp (pt_cmpR op_eq (pv 4) pe_str (nomark _)) (pe_cmpR op_eq (pe_op V6.op_andB (pe_ix (ix_listK (K := K)) (pv 8) (pv 10) (fun _ _ => rfl)) (pv 6)) (pe_ix (ix_listK (K := K)) (pv 8) (pv 10) (fun _ _ => rfl)) (nomark _)) (pe_cmpR op_ne (pe_op V6.op_andB (pe_ix (ix_listK (K := K)) (pv 8) (pv 10) (fun _ _ => rfl)) (pv 6)) pe_int (nomark _))))
      (pss_one (ps_set (i := 9) S.nd rfl (Or.inl rfl) (pe_op V6.op_orB (pv 9) (pe_ifExp (pt_val (pv 11)) (pe_call (ok__law_bit T) (hr.mono (by first | decide | omega)) (by rfl) T.g__law_bit T.F__law_bit.kp T.b__law_bit .nil pass0 (pa_cons (pv 10) pa_nil)) pe_int))))))
      (pss_one (ps_ret (pv 9))))) pss_nil)
      (pss_cons (ps_set (i := 7) S.nd rfl (Or.inl rfl) (pe_call ih (hr.mono (by omega)) (by rfl) T.g__law_holds T.F__law_holds.kp T.b__law_holds .nil pass0 (pa_cons (pv 0) (pa_cons (pe_ix (ix_tupK (K := K)) (pv 1) pe_int (fun _ _ => rfl)) (pa_cons (pv 2) pa_nil)))))
      (pss_cons (ps_if (pt_cmpR op_eq (pv 4) pe_str (nomark _)) (pss_one (ps_ret (pe_op V6.op_andB (pv 6) (pv 7)))) pss_nil)
      (pss_one (ps_ret (pe_ifExp (pt_cmpR op_eq (pv 4) pe_str (nomark _)) (pe_op V6.op_orB (pv 6) (pv 7)) (pe_op V6.op_orB (pe_op op_sub (pv 5) (pv 6)) (pv 7)))))))))))))), run3 (sns_seq (sns_par (snd_op sop_ixT snd_var snd_int) (snd_op sop_ixT snd_var snd_int))
      (sns_seq (sns_set (snd_op sop_sub (snd_call snb_call (snd_cons snd_var snd_nil)) snd_int) sng_name)
      (sns_seq (sns_if (snt_test (snd_op sop_eq snd_var snd_str)) (sns_ret (snd_if (snt_test (snd_op op_rIB (snd_op sop_ixT snd_var snd_int) (snd_cb snb_len (snd_cons snd_var snd_nil)))) (snd_op sop_ixL snd_var (snd_op sop_ixT snd_var snd_int)) snd_int)) sns_next)
      (sns_seq (sns_if (snt_test (snd_op sop_in snd_var (snd_tup (snd_cons snd_str (snd_cons snd_str snd_nil))))) (sns_ret (snd_if (snt_test (snd_op sop_eq snd_var snd_str)) snd_var snd_int)) sns_next)
      (sns_seq (sns_set (snd_call snb_call (snd_cons snd_var (snd_cons (snd_op sop_ixT snd_var (snd_if (snt_test (snd_op sop_in snd_var (snd_tup (snd_cons snd_str (snd_cons snd_str snd_nil))))) snd_int snd_int)) (snd_cons snd_var snd_nil)))) sng_name)
      (sns_seq (sns_if (snt_test (snd_op sop_eq snd_var snd_str)) (sns_ret (snd_op sop_sub snd_var snd_var)) sns_next)
      (sns_seq (sns_if (snt_test (snd_op sop_in snd_var (snd_tup (snd_cons snd_str (snd_cons snd_str snd_nil))))) (sns_seq (sns_par (snd_call snb_call (snd_cons snd_var (snd_cons (snd_op sop_ixT snd_var snd_int) snd_nil))) snd_int)
      (sns_seq (sns_for (sni_rg1 snd_var) sng_name (sns_seq (sns_set (snd_if (snt_test (snd_op sop_eq snd_var snd_str)) (snd_op sop_eq (snd_op sop_bit (snd_op sop_ixL snd_var snd_var) snd_var) (snd_op sop_ixL snd_var snd_var)) (snd_op sop_ne (snd_op sop_bit (snd_op sop_ixL snd_var snd_var) snd_var) snd_int)) sng_name)
      (sns_set (snd_op sop_bit snd_var (snd_if (snt_test snd_var) (snd_call snb_call (snd_cons snd_var snd_nil)) snd_int)) sng_name)))
      (sns_ret snd_var))) sns_next)
      (sns_seq (sns_set (snd_call snb_call (snd_cons snd_var (snd_cons (snd_op sop_ixT snd_var snd_int) (snd_cons snd_var snd_nil)))) sng_name)
      (sns_seq (sns_if (snt_test (snd_op sop_eq snd_var snd_str)) (sns_ret (snd_op sop_bit snd_var snd_var)) sns_next)
      (sns_ret (snd_if (snt_test (snd_op sop_eq snd_var snd_str)) (snd_op sop_bit snd_var snd_var) (snd_op sop_bit (snd_op sop_sub snd_var snd_var) snd_var)))))))))))) h⟩

@[irreducible] def ms__law_letters (r : MF) : MF := body3 n__law_letters.length 1
    (sSeq (sIf (tw (eOp (gEq false) (eOp (gIx asT) (eVar 0) (eC (.int 0))) (eC (.str "letter")))) (sRet (eLst (aCons (eOp (gIx asT) (eVar 0) (eC (.int 1))) aNil))) sNext)
    (sSeq (sSet (eLst aNil) (gwName 1))
    (sSeq (sFor (iSeq asT (eSl asT (fun ds => .dat (.tuple ds)) (eVar 0) (oSome (eC (.int 1))) oNone)) (gwName 2) (sIf (tw (eIsTup (eVar 2))) (sSet (eOp gCatL (eVar 1) (eCB (call3 r) (aCons (eVar 2) aNil))) (gwName 1)) sNext))
    (sRet (eSortSet (eVar 1))))))
def m__law_letters : Nat → MF
  | 0 => fun _ _ _ => False
  | d + 1 => ms__law_letters (m__law_letters d)
theorem ok__law_letters (T : Tops K w mg) : ∀ d : Nat, FnOk P w K mg base CX0 (d + 1) T.a__law_letters T.fd__law_letters p__law_letters (sp3 K (m__law_letters d))
  | 0 => by
    have S := sc__law_letters
    exact T.F__law_letters.ok S (fun vs H Q E h => (no3 h).elim) (fun cdv A outer s0 H vs Q E hr h => (no3 h).elim)
  | d + 1 => by
    have ih := ok__law_letters T d
    have S := sc__law_letters
    refine T.F__law_letters.ok S (fun vs H Q E h => ?_) (fun cdv A outer s0 H vs Q E hr h => ?_)
    · have h : sp3 K (ms__law_letters (m__law_letters d)) vs H Q E := h
      unfold ms__law_letters at h
      exact len3 h
    have h : sp3 K (ms__law_letters (m__law_letters d)) vs H Q E := h
    unfold ms__law_letters at h
    exact ⟨_, (pss_cons (ps_if (pt_cmpR op_eq (pe_ix (ix_tupK (K := K)) (pv 0) pe_int (fun _ _ => rfl)) pe_str (nomark _)) (pss_one (ps_ret (pe_lst (pa_cons (pe_ix (ix_tupK (K := K)) (pv 0) pe_int (fun _ _ => rfl)) pa_nil)))) pss_nil)
      (pss_cons (ps_set (i := 1) S.nd rfl (Or.inl rfl) (pe_lst pa_nil))
      (pss_cons (ps_for PassesOwn.never rfl (pi_tup (pe_slice (sl_tupK (K := K)) (pv 0) (po_some pe_int) po_none)) (pg_name (i := 2) S.nd rfl (Or.inl rfl)) (pss_one (ps_if (pt_val (pe_callB (id := "isinstance") (V7.call_isTup (K := K) rfl) (by rfl) T.m_isinstance (by decide +kernel) (pa_cons (pv 2) (pa_cons (pe_bltn (v := .ty "tuple") (by rfl) T.m_tuple (by decide +kernel) rfl) pa_nil)))) (pss_one (ps_set (i := 1) S.nd rfl (Or.inl rfl) (pe_op op_cat (pv 1) (pe_call ih (hr.mono (by omega)) (by rfl) T.g__law_letters T.F__law_letters.kp T.b__law_letters .nil pass0 (pa_cons (pv 2) pa_nil))))) pss_nil)))
      (pss_one (ps_ret (pe_callB (W5.cr_sortedNK (w := w) rfl) (by rfl) T.m_sorted (by decide +kernel) (pa_cons (pe_callTy (W5.cr_setNK (K := K) (w := w) rfl) (by rfl) T.m_set (by decide +kernel) (pa_cons (pv 1) pa_nil)) pa_nil))))))), run3 (sns_seq (sns_if (snt_test (snd_op sop_eq (snd_op sop_ixT snd_var snd_int) snd_str)) (sns_ret (snd_lst (snd_cons (snd_op sop_ixT snd_var snd_int) snd_nil))) sns_next)
      (sns_seq (sns_set (snd_lst snd_nil) sng_name)
      (sns_seq (sns_for (sni_tup (snd_slT snd_var (sno_some snd_int) sno_none)) sng_name (sns_if (snt_test (snd_isTup snd_var)) (sns_set (snd_op sop_catL snd_var (snd_call snb_call (snd_cons snd_var snd_nil))) sng_name) sns_next))
      (sns_ret (snd_sortSet snd_var))))) h⟩

@[irreducible] def m__law_markings : MF := body3 n__law_markings.length 2
    (sSeq (sSet (eIf (tw (eOp (gEqD true) (eVar 1) (eLst aNil))) (eLst (aCons (eOp gRepL (eLst (aCons (eC (.int 0)) aNil)) (eOp (gI0 (· + ·)) (eCB gMaxL (aCons (eVar 1) aNil)) (eC (.int 1)))) aNil)) (eLst (aCons (eLst aNil) aNil))) (gwName 2))
    (sSeq (sFor (iSeq datL (eVar 1)) (gwName 3) (sSeq (sOwn (eLst aNil) (gwName 4))
    (sSeq (sFor (iSeq datL (eVar 2)) (gwName 5) (sFor (iRg1 (eCB (call3 m__law_bit) (aCons (eVar 0) aNil))) (gwName 6) (sSeq (sOwn (eCB gListOf (aCons (eVar 5) aNil)) (gwName 7))
    (sSeq (sPut 7 (eVar 3) (eVar 6))
    (sFrz 7 (sApp 4 (eVar 7)))))))
    (sSet (eCB gListOf (aCons (eVar 4) aNil)) (gwName 2)))))
    (sRet (eVar 2))))
theorem ok__law_markings (T : Tops K w mg) : FnOk P w K mg base CX0 2 T.a__law_markings T.fd__law_markings p__law_markings (sp3 K m__law_markings) := by
  have S := sc__law_markings
  refine T.F__law_markings.ok S (fun vs H Q E h => by unfold m__law_markings at h; exact len3 h) (fun cdv A outer s0 H vs Q E hr h => ?_)
  unfold m__law_markings at h
  exact ⟨_, (pss_cons (ps_set (i := 2) S.nd rfl (Or.inl rfl) (pe_ifExp (pt_cmpR (V12.op_neDK (K := K) hr.units) (pv 1) (pe_lst pa_nil) (nomark _)) (pe_lst (pa_cons (pe_op op_rep (pe_lst (pa_cons pe_int pa_nil)) (pe_op op_add (pe_callB (V12.cr_maxK (K := K) rfl) (by rfl) T.m_max (by decide +kernel) (pa_cons (pv 1) pa_nil)) pe_int)) pa_nil)) (pe_lst (pa_cons (pe_lst pa_nil) pa_nil))))
      (pss_cons (ps_for PassesOwn.never rfl (pi_list (pv 1)) (pg_name (i := 3) S.nd rfl (Or.inl rfl)) (pss_cons (ps_set (i := 4) S.nd rfl (Or.inl rfl) (pe_lst pa_nil))
      (pss_cons (ps_for PassesOwn.never rfl (pi_list (pv 2)) (pg_name (i := 5) S.nd rfl (Or.inl rfl)) (pss_one (ps_for PassesOwn.never rfl (pi_range1 (by rfl) T.m_range (pa_cons (pe_call (ok__law_bit T) (hr.mono (by first | decide | omega)) (by rfl) T.g__law_bit T.F__law_bit.kp T.b__law_bit .nil pass0 (pa_cons (pv 0) pa_nil)) pa_nil)) (pg_name (i := 6) S.nd rfl (Or.inl rfl)) (pss_cons (ps_set (i := 7) S.nd rfl (Or.inl rfl) (pe_callTy (V12.call_listK (K := K)) (by rfl) T.m_list (by decide +kernel) (pa_cons (pv 5) pa_nil)))
      (pss_cons (ps_asg (pv 6) (pg_sub (pv 7) (pv 3) set_list))
      (pss_one (ps_expr (pe_bm PySem.F.plainAttrs_list PySem.F.slot_list_append PySem.F.type_list_append mt_append (pv 4) (pa_cons (pv 7) pa_nil)))))))))
      (pss_one (ps_set (i := 2) S.nd rfl (Or.inl rfl) (pe_callTy (V12.call_listK (K := K)) (by rfl) T.m_list (by decide +kernel) (pa_cons (pv 4) pa_nil)))))))
      (pss_one (ps_ret (pv 2))))), run3 (sns_seq (sns_set (snd_if (snt_test (snd_op sop_neD snd_var (snd_lst snd_nil))) (snd_lst (snd_cons (snd_op sop_repL (snd_lst (snd_cons snd_int snd_nil)) (snd_op sop_add (snd_cb snb_maxL (snd_cons snd_var snd_nil)) snd_int)) snd_nil)) (snd_lst (snd_cons (snd_lst snd_nil) snd_nil))) sng_name)
      (sns_seq (sns_for (sni_list snd_var) sng_name (sns_seq (sns_own (snd_lst snd_nil) sng_name)
      (sns_seq (sns_for (sni_list snd_var) sng_name (sns_for (sni_rg1 (snd_call snb_call (snd_cons snd_var snd_nil))) sng_name (sns_seq (sns_own (snd_cb snb_list (snd_cons snd_var snd_nil)) sng_name)
      (sns_seq (sns_put (i := 7) snd_var snd_var)
      (sns_frz (i := 7) (sns_app (i := 4) snd_var))))))
      (sns_set (snd_cb snb_list (snd_cons snd_var snd_nil)) sng_name))))
      (sns_ret snd_var))) h⟩

@[irreducible] def m__law_kept : MF := body3 n__law_kept.length 2
    (sSeq (sSet (eOp (gI0 (· - ·)) (eCB (call3 m__law_bit) (aCons (eOp (gIx asT) (eVar 0) (eC (.int 0))) aNil)) (eC (.int 1))) (gwName 2))
    (sSeq (sFor (iSeq datL (eCB (call3 m__law_markings) (aCons (eOp (gIx asT) (eVar 0) (eC (.int 0))) (aCons (eCB (call3 (m__law_letters 12)) (aCons (eVar 1) aNil)) aNil)))) (gwName 3) (sSet (eOp (gBit (· &&& ·)) (eVar 2) (eCB (call3 (m__law_holds 12)) (aCons (eVar 0) (aCons (eVar 1) (aCons (eVar 3) aNil))))) (gwName 2)))
    (sRet (eVar 2))))
theorem ok__law_kept (T : Tops K w mg) : FnOk P w K mg base CX0 16 T.a__law_kept T.fd__law_kept p__law_kept (sp3 K m__law_kept) := by
  have S := sc__law_kept
  refine T.F__law_kept.ok S (fun vs H Q E h => by unfold m__law_kept at h; exact len3 h) (fun cdv A outer s0 H vs Q E hr h => ?_)
  unfold m__law_kept at h
  exact ⟨_, (pss_cons (ps_set (i := 2) S.nd rfl (Or.inl rfl) (pe_op op_sub (pe_call (ok__law_bit T) (hr.mono (by first | decide | omega)) (by rfl) T.g__law_bit T.F__law_bit.kp T.b__law_bit .nil pass0 (pa_cons (pe_ix (ix_tupK (K := K)) (pv 0) pe_int (fun _ _ => rfl)) pa_nil)) pe_int))
      (pss_cons (ps_for PassesOwn.never rfl (pi_list (pe_call (ok__law_markings T) (hr.mono (by first | decide | omega)) (by rfl) T.g__law_markings T.F__law_markings.kp T.b__law_markings .nil pass0 (pa_cons (pe_ix (ix_tupK (K := K)) (pv 0) pe_int (fun _ _ => rfl)) (pa_cons (pe_call (ok__law_letters T 12) (hr.mono (by omega)) (by rfl) T.g__law_letters T.F__law_letters.kp T.b__law_letters .nil pass0 (pa_cons (pv 1) pa_nil)) pa_nil)))) (pg_name (i := 3) S.nd rfl (Or.inl rfl)) (pss_one (ps_set (i := 2) S.nd rfl (Or.inl rfl) (pe_op V6.op_andB (pv 2) (pe_call (ok__law_holds T 12) (hr.mono (by omega)) (by rfl) T.g__law_holds T.F__law_holds.kp T.b__law_holds .nil pass0 (pa_cons (pv 0) (pa_cons (pv 1) (pa_cons (pv 3) pa_nil))))))))
      (pss_one (ps_ret (pv 2))))), run3 (sns_seq (sns_set (snd_op sop_sub (snd_call snb_call (snd_cons (snd_op sop_ixT snd_var snd_int) snd_nil)) snd_int) sng_name)
      (sns_seq (sns_for (sni_list (snd_call snb_call (snd_cons (snd_op sop_ixT snd_var snd_int) (snd_cons (snd_call snb_call (snd_cons snd_var snd_nil)) snd_nil)))) sng_name (sns_set (snd_op sop_bit snd_var (snd_call snb_call (snd_cons snd_var (snd_cons snd_var (snd_cons snd_var snd_nil))))) sng_name))
      (sns_ret snd_var))) h⟩

@[irreducible] def ms__law_moved (r : MF) : MF := body3 n__law_moved.length 2
    (sSeq (sIf (tw (eOp (gEq false) (eOp (gIx asT) (eVar 0) (eC (.int 0))) (eC (.str "letter")))) (sRet (eTup (aCons (eC (.str "letter")) (aCons (eOp (gIx asT) (eVar 1) (eOp (gIx asT) (eVar 0) (eC (.int 1)))) aNil)))) sNext)
    (sRet (eCB gTupOf (aCons (eLc (iSeq asT (eVar 0)) (gwName 2) twYes (eIf (tw (eIsTup (eVar 2))) (eCB (call3 r) (aCons (eVar 2) (aCons (eVar 1) aNil))) (eVar 2)) [2]) aNil))))
def m__law_moved : Nat → MF
  | 0 => fun _ _ _ => False
  | d + 1 => ms__law_moved (m__law_moved d)
theorem ok__law_moved (T : Tops K w mg) : ∀ d : Nat, FnOk P w K mg base CX0 (d + 1) T.a__law_moved T.fd__law_moved p__law_moved (sp3 K (m__law_moved d))
  | 0 => by
    have S := sc__law_moved
    exact T.F__law_moved.ok S (fun vs H Q E h => (no3 h).elim) (fun cdv A outer s0 H vs Q E hr h => (no3 h).elim)
  | d + 1 => by
    have ih := ok__law_moved T d
    have S := sc__law_moved
    refine T.F__law_moved.ok S (fun vs H Q E h => ?_) (fun cdv A outer s0 H vs Q E hr h => ?_)
    · have h : sp3 K (ms__law_moved (m__law_moved d)) vs H Q E := h
      unfold ms__law_moved at h
      exact len3 h
    have h : sp3 K (ms__law_moved (m__law_moved d)) vs H Q E := h
    unfold ms__law_moved at h
    exact ⟨_, (pss_cons (ps_if (pt_cmpR op_eq (pe_ix (ix_tupK (K := K)) (pv 0) pe_int (fun _ _ => rfl)) pe_str (nomark _)) (pss_one (ps_ret (pe_tup (pa_cons pe_str (pa_cons (pe_ix (ix_tupK (K := K)) (pv 1) (pe_ix (ix_tupK (K := K)) (pv 0) pe_int (fun _ _ => rfl)) (fun _ _ => rfl)) pa_nil))))) pss_nil)
      (pss_one (ps_ret (pe_callTy (call_tupleK (K := K)) (by rfl) T.m_tuple (by decide +kernel) (pa_cons (pe_lc (own := [("part", 2)]) rfl S.nd (pi_tup (pv 0)) (blkOk_by (N := n__law_moved) (sc := defScope s__law_moved) (by decide +kernel)) (fun _ _ _ _ _ => (pg_name (i := 2) S.nd rfl (Or.inl rfl))) (fun _ _ _ _ _ => pts_nil) (fun _ _ _ _ _ => (pe_ifExp (pt_val (pe_callB (id := "isinstance") (V7.call_isTup (K := K) rfl) (by rfl) T.m_isinstance (by decide +kernel) (pa_cons (pv 2) (pa_cons (pe_bltn (v := .ty "tuple") (by rfl) T.m_tuple (by decide +kernel) rfl) pa_nil)))) (pe_call ih (hr.mono (by omega)) (by rfl) T.g__law_moved T.F__law_moved.kp T.b__law_moved .nil pass0 (pa_cons (pv 2) (pa_cons (pv 1) pa_nil))) (pv 2)))) pa_nil))))), run3 (sns_seq (sns_if (snt_test (snd_op sop_eq (snd_op sop_ixT snd_var snd_int) snd_str)) (sns_ret (snd_tup (snd_cons snd_str (snd_cons (snd_op sop_ixT snd_var (snd_op sop_ixT snd_var snd_int)) snd_nil)))) sns_next)
      (sns_ret (snd_cb snb_tup (snd_cons (snd_lc (sni_tup snd_var) sng_name snt_yes (snd_if (snt_test (snd_isTup snd_var)) (snd_call snb_call (snd_cons snd_var (snd_cons snd_var snd_nil))) snd_var) (by decide)) snd_nil)))) h⟩

end
end K0

namespace K0
open PySem PySem.Spec PyProof.Rows L2 W0 W1 W2 W5 W6 V0 V1 V6
/-! ### rows of worlds as bits -/
abbrev maskF (n : Nat) (f : Int → Bool) : Nat := bitsN n fun y => f y
abbrev maskL (n : Nat) (l : List Int) : Nat := maskF n fun y => decide (y ∈ l)
theorem two_test (y i : Nat) : (2 ^ y).testBit i = decide (y = i) := Nat.testBit_two_pow
theorem mask_add {n y : Nat} (l : List Int) (h : y < n) : maskL n l ||| 2 ^ y = maskL n (l ++ [(y : Int)]) := bits_ext fun i => by
  rw [Nat.testBit_or, two_test]
  show ((bitsN n fun y => decide ((y : Int) ∈ l)).testBit i || decide (y = i)) = (decide (i < n) && decide ((i : Int) ∈ l ++ [(y : Int)]))
  rw [bits_test]
  by_cases e : y = i
  · subst e
    rw [decide_eq_true (rfl : y = y), Bool.or_true, decide_eq_true h, Bool.true_and, decide_eq_true (List.mem_append.mpr (.inr List.mem_cons_self))]
  · rw [decide_eq_false e, Bool.or_false]
    congr 1
    by_cases m : (i : Int) ∈ l
    · rw [decide_eq_true m, decide_eq_true (List.mem_append_left _ m)]
    · rw [decide_eq_false m]
      refine (decide_eq_false fun z => ?_).symm
      rcases List.mem_append.mp z with z | z
      · exact m z
      · have := List.mem_singleton.mp z
        omega
theorem mask_nil (n : Nat) : maskL n [] = 0 := by
  show (bitsN n fun y => decide ((y : Int) ∈ ([] : List Int))) = 0
  rw [show (fun y : Nat => decide ((y : Int) ∈ ([] : List Int))) = fun _ => false from funext fun y => decide_eq_false (List.not_mem_nil)]
  exact bits_none n
theorem and_two (n y : Nat) (f : Int → Bool) (h : y < n) : (maskF n f &&& 2 ^ y != 0) = f y := by
  have t : (maskF n f &&& 2 ^ y).testBit y = f y := by
    rw [Nat.testBit_and, two_test, decide_eq_true (rfl : y = y), Bool.and_true]
    show (bitsN n fun y => f y).testBit y = f y
    rw [bits_test, decide_eq_true h, Bool.true_and]
  cases b : f y with
  | true =>
    refine bne_iff_ne.mpr fun z => ?_
    rw [z, Nat.zero_testBit, b] at t
    cases t
  | false =>
    have z : maskF n f &&& 2 ^ y = 0 := Nat.eq_of_testBit_eq fun i => by
      rw [Nat.zero_testBit, Nat.testBit_and, two_test]
      by_cases e : y = i
      · subst e
        show ((bitsN n fun y => f y).testBit y && _) = false
        rw [bits_test, b, Bool.and_false, Bool.false_and]
      · rw [decide_eq_false e, Bool.and_false]
    rw [z]
    rfl
theorem ansN_set {n j b : Nat} {g h : Int → Nat} (hj : j < n) (e1 : h j = b) (e2 : ∀ x : Nat, x ≠ j → h x = g x) : ((ansN n g).map V.int).set j (V.int (b : Int)) = (ansN n h).map V.int := by
  rw [← List.map_set]
  congr 1
  refine List.ext_getElem (by rw [List.length_set, ansN_len, ansN_len]) fun i h1 h2 => ?_
  have q : ∀ (f : Int → Nat) (z : i < (ansN n f).length), (ansN n f)[i]'z = ((f i : Nat) : Int) := fun f z => by simp [ansN]
  rw [List.getElem_set, q, q]
  by_cases e : j = i
  · rw [if_pos e, ← e, e1]
  · rw [if_neg e, e2 i (fun z => e z.symm)]
abbrev along (n : Nat) (A : List T3) (w : Int) : Int → Nat := fun x => maskL n (ledS A w x)
theorem along_off {n : Nat} {A : List T3} {t : T3} {w x : Int} (h : ledF w x t = none) : along n (A ++ [t]) w x = along n A w x := by
  show maskL n (ledS (A ++ [t]) w x) = _
  rw [ledS_snoc, h]
  show maskL n (ledS A w x ++ []) = _
  rw [List.append_nil]
theorem along_on {n y : Nat} {A : List T3} {t : T3} {w x : Int} (h : ledF w x t = some (y : Int)) (hy : y < n) : along n (A ++ [t]) w x = along n A w x ||| 2 ^ y := by
  show maskL n (ledS (A ++ [t]) w x) = _
  rw [ledS_snoc, h]
  exact (mask_add _ hy).symm
theorem bits_full' (N : Nat) : 2 ^ N - 1 = bitsN N fun _ => true := bits_ext fun i => by
  rw [Nat.testBit_two_pow_sub_one, Bool.and_true]
theorem bits_on {j : Nat} {G : Nat → Bool} (h : G j = true) : bitsN j G ||| 2 ^ j = bitsN (j + 1) G := bits_ext fun i => by
  rw [Nat.testBit_or, bits_test, two_test]
  by_cases e : j = i
  · subst e
    rw [decide_eq_true (rfl : j = j), Bool.or_true, decide_eq_true (Nat.lt_succ_self j), h]
    rfl
  · rw [decide_eq_false e, Bool.or_false]
    congr 1
    exact decide_eq_decide.mpr (by omega)
theorem bits_off {j : Nat} {G : Nat → Bool} (h : G j = false) : bitsN j G ||| 0 = bitsN (j + 1) G := bits_ext fun i => by
  rw [Nat.or_zero, bits_test]
  by_cases e : j = i
  · subst e
    rw [h, Bool.and_false, Bool.and_false]
  · congr 1
    exact decide_eq_decide.mpr (by omega)
theorem mask_one {n : Nat} {k : Int} (h0 : 0 ≤ k) (h1 : k < n) {f : Int → Bool} (hf : ∀ x, f x = decide (x = k)) : 2 ^ k.toNat = maskF n f := bits_ext fun i => by
  rw [two_test]
  show _ = (decide (i < n) && f i)
  rw [hf]
  by_cases e : k.toNat = i
  · rw [decide_eq_true e, decide_eq_true (by omega : i < n), decide_eq_true (by omega : (i : Int) = k)]
    rfl
  · rw [decide_eq_false e, decide_eq_false (by omega : ¬ (i : Int) = k), Bool.and_false]
theorem mask_test {n : Nat} {l : List Int} {x : Nat} (h : x < n) : (maskL n l).testBit x = decide ((x : Int) ∈ l) := by
  show (bitsN n fun y => decide ((y : Int) ∈ l)).testBit x = _
  rw [bits_test, decide_eq_true h, Bool.true_and]
theorem maskF_test {n : Nat} {f : Int → Bool} {x : Nat} (h : x < n) : (maskF n f).testBit x = f x := by
  show (bitsN n fun y => f y).testBit x = _
  rw [bits_test, decide_eq_true h, Bool.true_and]
theorem mask_all {n : Nat} {l : List Int} {f : Int → Bool} (rng : ∀ x ∈ l, 0 ≤ x ∧ x < (n : Int)) : decide (maskL n l &&& maskF n f = maskL n l) = l.all f := by
  cases h : l.all f with
  | true =>
    refine decide_eq_true (Nat.eq_of_testBit_eq fun i => ?_)
    rw [Nat.testBit_and]
    cases b : (maskL n l).testBit i with
    | false => rfl
    | true =>
      have b' : (decide (i < n) && decide ((i : Int) ∈ l)) = true := (bits_test n (fun y => decide ((y : Int) ∈ l)) i).symm.trans b
      rw [Bool.and_eq_true, decide_eq_true_eq, decide_eq_true_eq] at b'
      rw [maskF_test b'.1, Bool.true_and]
      exact List.all_eq_true.mp h _ b'.2
  | false =>
    refine decide_eq_false fun z => ?_
    have : l.all f = true := List.all_eq_true.mpr fun x hx => by
      have r := rng x hx
      obtain ⟨y, rfl⟩ : ∃ k : Nat, x = k := ⟨x.toNat, (Int.toNat_of_nonneg r.1).symm⟩
      have yn : y < n := by have := r.2; omega
      have t := congrArg (fun m => m.testBit y) z
      rw [Nat.testBit_and, mask_test yn, maskF_test yn, decide_eq_true hx, Bool.true_and] at t
      exact t
    rw [h] at this
    cases this
theorem mask_any {n : Nat} {l : List Int} {f : Int → Bool} (rng : ∀ x ∈ l, 0 ≤ x ∧ x < (n : Int)) : (!decide (V.int ((maskL n l &&& maskF n f : Nat) : Int) = V.int 0)) = l.any f := by
  rw [dec_vint']
  cases h : l.any f with
  | true =>
    rw [decide_eq_false]
    · rfl
    intro z
    have z0 : maskL n l &&& maskF n f = 0 := by omega
    obtain ⟨x, hx, fx⟩ := List.any_eq_true.mp h
    have r := rng x hx
    obtain ⟨y, rfl⟩ : ∃ k : Nat, x = k := ⟨x.toNat, (Int.toNat_of_nonneg r.1).symm⟩
    have yn : y < n := by have := r.2; omega
    have t := congrArg (fun m => m.testBit y) z0
    rw [Nat.testBit_and, mask_test yn, maskF_test yn, decide_eq_true hx, Bool.true_and, fx, Nat.zero_testBit] at t
    cases t
  | false =>
    rw [decide_eq_true]
    · rfl
    have z : maskL n l &&& maskF n f = 0 := Nat.eq_of_testBit_eq fun i => by
      rw [Nat.testBit_and, Nat.zero_testBit]
      cases b : (maskL n l).testBit i with
      | false => rfl
      | true =>
        have b' : (decide (i < n) && decide ((i : Int) ∈ l)) = true := (bits_test n (fun y => decide ((y : Int) ∈ l)) i).symm.trans b
        rw [Bool.and_eq_true, decide_eq_true_eq, decide_eq_true_eq] at b'
        rw [maskF_test b'.1, Bool.true_and]
        cases q : f i with
        | false => rfl
        | true => rw [List.any_eq_true.mpr ⟨_, b'.2, q⟩] at h; cases h
    rw [z]
    rfl
theorem in2 (x a b : Str) : L2.inV (.str x) [.str a, .str b] = (decide (x = a) || decide (x = b)) := by
  show ((a == x) || ((b == x) || false)) = _
  rw [Bool.or_false]
  have e : ∀ y : Str, (y == x) = decide (x = y) := fun y => by
    by_cases h : x = y
    · rw [decide_eq_true h, h, beq_self_eq_true]
    · rw [decide_eq_false h, beq_eq_false_iff_ne.mpr (fun z => h z.symm)]
  rw [e, e]
end K0

/-! M2: what the mirrors give. -/
namespace K0
open PySem PySem.Spec PyProof.Rows L2 W0 W1 W2 W5 W6 V0 V1 V6
theorem lcW_fm {g : GWt} {c : TW} {m : EW} {env : Env3} {post : Nat → Val → Prop} (f : PyData → Option PyData) : ∀ (items : List PyData) {n : Nat} (acc : List PyData), (∀ x ∈ items, ∀ (n : Nat) (k : Nat → Option PyData → Prop), k n (f x) → elW g c m env x n k) → acc.length + items.length ≤ 1000000 → post n (.new (acc ++ items.filterMap f)) → lcW g c m env items n acc post
  | [], n, acc, _, _, q => by
    rw [List.filterMap_nil, List.append_nil] at q
    exact q
  | x :: xs, n, acc, h, hl, q => by
    rw [List.length_cons] at hl
    refine h x List.mem_cons_self n _ ?_
    have ih := lcW_fm f xs (n := n) (g := g) (c := c) (m := m) (env := env) (post := post)
    cases hf : f x with
    | none =>
      rw [List.filterMap_cons_none hf] at q
      exact ih acc (fun y hy => h y (List.mem_cons_of_mem _ hy)) (by omega) q
    | some d =>
      rw [List.filterMap_cons_some hf] at q
      refine ⟨by omega, ih (acc ++ [d]) (fun y hy => h y (List.mem_cons_of_mem _ hy)) (by rw [List.length_append]; show acc.length + 1 + xs.length ≤ _; omega) ?_⟩
      rw [List.append_assoc]
      exact q
theorem rg_mem {k : Nat} {x : PyData} (h : x ∈ rgD 0 k) : ∃ i : Nat, i < k ∧ x = .int (i : Int) := by
  unfold rgD at h
  obtain ⟨i, hi, rfl⟩ := List.mem_map.mp h
  exact ⟨i, List.mem_range.mp hi, by rw [Int.zero_add]⟩
theorem rgD_len' (k : Nat) : (rgD 0 k).length = k := by
  unfold rgD
  rw [List.length_map, List.length_range]
theorem rgD_inv {k j : Nat} {x : PyData} (h : (rgD 0 k)[j]? = some x) : j < k ∧ x = .int (j : Int) := by
  unfold rgD at h
  rw [List.getElem?_map] at h
  obtain ⟨i, hi, rfl⟩ := Option.map_eq_some_iff.mp h
  obtain ⟨h1, h2⟩ := List.getElem?_eq_some_iff.mp hi
  rw [List.getElem_range] at h2
  subst h2
  rw [List.length_range] at h1
  exact ⟨h1, by rw [Int.zero_add]⟩
/-- a loop's run, by places -/
theorem forW_at {g : GWt} {b : SW} {ks : Ks} {n : Nat} (I : Nat → Env3 → Prop) (items : List PyData) {env : Env3} (h0 : I 0 env)
    (step : ∀ (j : Nat) (x : PyData), items[j]? = some x → ∀ env, I j env → ∀ k : Nat → Env3 → Prop, (∀ env', I (j + 1) env' → k n env') → g (.dat x) env fun env1 => b n env1 { nx := k, ct := k, bk := ks.nx, rt := ks.rt })
    (fin : ∀ env, I items.length env → ks.nx n env) : forW g b ks items n env := by
  have go : ∀ (xs : List PyData) (j : Nat) (env : Env3), items.drop j = xs → j ≤ items.length → I j env → forW g b ks xs n env := by
    intro xs
    induction xs with
    | nil =>
      intro j env e hj hI
      have : items.length - j = 0 := by rw [← List.length_drop, e]; rfl
      have ej : j = items.length := by omega
      subst ej
      exact fin env hI
    | cons x xs ih =>
      intro j env e hj hI
      have hx : items[j]? = some x := by
        have := List.getElem?_drop (xs := items) (i := j) (j := 0)
        rw [e] at this
        exact this.symm
      have hl : j < items.length := (List.getElem?_eq_some_iff.mp hx).1
      have e' : items.drop (j + 1) = xs := by
        rw [← List.drop_drop, e]
        rfl
      exact step j x hx env hI _ fun env' h' => ih (j + 1) env' e' hl h'
  exact go items 0 env rfl (Nat.zero_le _) h0
theorem forW_rg {g : GWt} {b : SW} {ks : Ks} {n : Nat} (I : Nat → Env3 → Prop) (N : Nat) {env : Env3} (h0 : I 0 env)
    (step : ∀ (j : Nat), j < N → ∀ env, I j env → ∀ k : Nat → Env3 → Prop, (∀ env', I (j + 1) env' → k n env') → g (.dat (.int (j : Int))) env fun env1 => b n env1 { nx := k, ct := k, bk := ks.nx, rt := ks.rt })
    (fin : ∀ env, I N env → ks.nx n env) : forW g b ks (rgD 0 N) n env :=
  forW_at I (rgD 0 N) h0 (fun j x hx => by
    obtain ⟨hj, rfl⟩ := rgD_inv hx
    exact step j hj) (by rw [rgD_len']; exact fin)
/-! ### the steps -/
theorem gIx_of {v : Val → Option (List PyData)} {n : Nat} {a : Val} {i : Int} {post : Nat → Val → Prop} {ds : List PyData} {d : PyData} (h1 : v a = some ds) (h2 : atI ds i = some d) (q : post n (.dat d)) : gIx v n a (.dat (.int i)) post := by
  unfold gIx
  rw [h1]
  show match atI ds i with
    | some d => post n (.dat d)
    | none => False
  rw [h2]
  exact q
theorem gEq_i {neg : Bool} {n : Nat} {i j : Int} {post : Nat → Val → Prop} {b : Bool} (h : (neg != decide (i = j)) = b) (q : post n (.dat (.bool b))) : gEq neg n (.dat (.int i)) (.dat (.int j)) post := by
  unfold gEq
  show post n (.dat (.bool (neg != decide (i = j))))
  rw [h]
  exact q
theorem gEq_s {neg : Bool} {n : Nat} {i j : Str} {post : Nat → Val → Prop} {b : Bool} (h : (neg != decide (i = j)) = b) (q : post n (.dat (.bool b))) : gEq neg n (.dat (.str i)) (.dat (.str j)) post := by
  unfold gEq
  show post n (.dat (.bool (neg != decide (i = j))))
  rw [h]
  exact q
theorem gIB_of {f : Int → Int → Bool} {n : Nat} {i j : Int} {post : Nat → Val → Prop} {b : Bool} (h : f i j = b) (q : post n (.dat (.bool b))) : gIB f n (.dat (.int i)) (.dat (.int j)) post := by
  unfold gIB
  show post n (.dat (.bool (f i j)))
  rw [h]
  exact q
theorem gBit_of {f : Nat → Nat → Nat} {n : Nat} {i j : Nat} {post : Nat → Val → Prop} (q : post n (.dat (.int ((f i j : Nat) : Int)))) : gBit f n (.dat (.int (i : Int))) (.dat (.int (j : Int))) post := by
  unfold gBit
  exact ⟨Int.natCast_nonneg _, Int.natCast_nonneg _, q⟩
theorem gIn_s {n : Nat} {x a c : Str} {post : Nat → Val → Prop} {b : Bool} (h : (decide (x = a) || decide (x = c)) = b) (q : post n (.dat (.bool b))) : gIn false n (.dat (.str x)) (.dat (.tuple [.str a, .str c])) post := by
  unfold gIn
  show post n (.dat (.bool (if false = true then !inV (.str x) [.str a, .str c] else inV (.str x) [.str a, .str c])))
  rw [if_neg (by decide), in2, h]
  exact q
theorem gI0_of {f : Int → Int → Int} {n : Nat} {i j r : Int} {post : Nat → Val → Prop} (h : f i j = r) (q : post n (.dat (.int r))) : gI0 f n (.dat (.int i)) (.dat (.int j)) post := by
  unfold gI0
  show post n (.dat (.int (f i j)))
  rw [h]
  exact q
theorem putK_of {ds : List PyData} {f : List PyData → Prop} {i : Int} {d : PyData} {j : Nat} (h : ixN ds.length i = some j) (q : f (ds.set j d)) : putK ds f (.dat (.int i)) (.dat d) := by
  unfold putK
  show match ixN ds.length i with
    | some j => f (ds.set j d)
    | none => False
  rw [h]
  exact q
section
/-- 2 to the power -/
theorem w_bit {k : Nat} (hk : k ≤ 1000) {n : Nat} {post : Nat → Val → Prop} (q : post n (.dat (.int ((2 ^ k : Nat) : Int)))) : m__law_bit [.dat (.int (k : Int))] n post := by
  unfold m__law_bit
  refine ⟨rfl, by omega, by omega, ?_⟩
  refine forW_rg (fun j env => ∃ y : Option Val, env = [some (Val.dat (.int (k : Int))), some (Val.dat (.int ((2 ^ j : Nat) : Int))), y]) k ⟨_, rfl⟩ (fun j hj env hI K hK => ?_) (fun env hI => ?_)
  · obtain ⟨y, rfl⟩ := hI
    refine gI0_of rfl (hK _ ⟨some (.dat (.int (j : Int))), ?_⟩)
    show [some (Val.dat (.int (k : Int))), some (Val.dat (.int (((2 ^ j : Nat) : Int) + ((2 ^ j : Nat) : Int)))), some (Val.dat (.int (j : Int)))] = _
    rw [show ((2 ^ j : Nat) : Int) + ((2 ^ j : Nat) : Int) = ((2 ^ (j + 1) : Nat) : Int) by rw [Nat.pow_succ]; omega]
  · obtain ⟨y, rfl⟩ := hI
    exact q
/-- the places of the bits -/
theorem w_spots {s : Nat} {f : Int → Bool} (hs : s ≤ 1000) {n : Nat} {post : Nat → Val → Prop} (q : post n (.dat (dInts (heldL s f)))) : m__law_spots [.dat (.int ((maskF s f : Nat) : Int)), .dat (.int (s : Int))] n post := by
  unfold m__law_spots
  refine ⟨rfl, by omega, by omega, ?_⟩
  refine lcW_fm (fun x => match x with | .int i => if f i = true then some (.int i) else none | _ => none) (rgD 0 s) [] (fun x hx n k hk => ?_) (by rw [rgD_len']; show 0 + s ≤ _; omega) ?_
  · obtain ⟨i, hi, rfl⟩ := rg_mem hx
    refine w_bit (k := i) (by omega) (gBit_of (gEq_i (b := f i) ?_ ?_))
    · rw [← and_two s i f hi]
      rw [Bool.true_bne]
      by_cases z : maskF s f &&& 2 ^ i = 0
      · rw [z]
        rfl
      · rw [decide_eq_false (by omega)]
        exact (bne_iff_ne.mpr z).symm
    · have hk : k n (if f i = true then some (.int (i : Int)) else none) := hk
      cases hf : f i with
      | true =>
        rw [if_pos hf] at hk
        exact hk
      | false =>
        rw [if_neg (by rw [hf]; decide)] at hk
        exact hk
  · have e : (rgD 0 s).filterMap (fun x => match x with | .int i => if f i = true then some (.int i) else none | _ => none) = (heldL s f).map PyData.int := by
      unfold rgD heldL
      rw [List.filterMap_map, List.map_map]
      generalize List.range s = l
      induction l with
      | nil => rfl
      | cons i l ih =>
        have e1 : ((fun x : PyData => match x with | .int i => if f i = true then some (PyData.int i) else none | _ => none) ∘ fun i : Nat => PyData.int (0 + (i : Int))) i = if f i = true then some (.int (i : Int)) else none := by
          show (if f (0 + (i : Int)) = true then some (PyData.int (0 + (i : Int))) else none) = _
          rw [Int.zero_add]
        cases hf : f i with
        | true =>
          rw [List.filter_cons_of_pos (by exact hf), List.filterMap_cons_some (e1.trans (if_pos hf)), ih]
          rfl
        | false =>
          rw [List.filter_cons_of_neg (by rw [hf]; decide), List.filterMap_cons_none (e1.trans (if_neg (by rw [hf]; decide))), ih]
    show post n (.dat (.tuple ([] ++ (rgD 0 s).filterMap _)))
    rw [e]
    exact q
theorem flat_repD (x : PyData) : ∀ k : Nat, (List.replicate k [x]).flatten = List.replicate k x
  | 0 => rfl
  | k + 1 => by rw [List.replicate_succ, List.flatten_cons, flat_repD x k]; rfl
theorem gRepL_of {n : Nat} {a : Val} {k : Nat} {x : PyData} {post : Nat → Val → Prop} (h : asL a = some [x]) (hk : k ≤ 1000) (q : post n (.new (List.replicate k x))) : gRepL n a (.dat (.int (k : Int))) post := by
  unfold gRepL
  rw [h]
  refine ⟨by omega, by omega, by show 1 * k ≤ _; omega, ?_⟩
  rw [Int.toNat_natCast, flat_repD]
  exact q
theorem ansN_setD {n j b : Nat} {g h : Int → Nat} (hj : j < n) (e1 : h j = b) (e2 : ∀ x : Nat, x ≠ j → h x = g x) : ((ansN n g).map PyData.int).set j (PyData.int (b : Int)) = (ansN n h).map PyData.int := by
  rw [← List.map_set]
  congr 1
  refine List.ext_getElem (by rw [List.length_set, ansN_len, ansN_len]) fun i h1 h2 => ?_
  have q : ∀ (f : Int → Nat) (z : i < (ansN n f).length), (ansN n f)[i]'z = ((f i : Nat) : Int) := fun f z => by simp [ansN]
  rw [List.getElem_set, q, q]
  by_cases e : j = i
  · rw [if_pos e, ← e, e1]
  · rw [if_neg e, e2 i (fun z => e z.symm)]
theorem ansN_getD {n j : Nat} (g : Int → Nat) (hj : j < n) : atI ((ansN n g).map PyData.int) (j : Int) = some (.int ((g j : Nat) : Int)) := atI_nat (by
  rw [List.getElem?_map, List.getElem?_eq_getElem (by rw [ansN_len]; exact hj)]
  simp [ansN])
/-- what each place reaches by a way, as bits -/
theorem w_along {s : Nat} {A : List T3} (wok : WOk s A) (i : Int) {n : Nat} {post : Nat → Val → Prop} (q : post n (.dat (.list ((ansN s (along s A i)).map PyData.int)))) : m__law_along [.dat (dWeb s A), .dat (.int i)] n post := by
  unfold m__law_along
  have s2 : s ≤ 200 := by have := wok.n2; omega
  refine ⟨rfl, rfl, gRepL_of rfl (by omega) ?_⟩
  have e0 : List.replicate s (PyData.int 0) = (ansN s (along s (A.take 0) i)).map PyData.int := by
    rw [show along s (A.take 0) i = fun _ => 0 from funext fun x => mask_nil s, ansN_zero, List.map_replicate]
  refine forW_at (fun j env => ∃ y5 y6 y7, env = [some (.dat (dWeb s A)), some (.dat (.int i)), some (.dat (.int (s : Int))), some (.dat (dArr A)), some (.own ((ansN s (along s (A.take j) i)).map PyData.int)), y5, y6, y7]) (A.map dTri) ⟨none, none, none, ?_⟩ (fun j x hx env hI k hk => ?_) (fun env hI => ?_)
  · rw [← e0]
    rfl
  · obtain ⟨y5, y6, y7, rfl⟩ := hI
    rw [List.getElem?_map] at hx
    obtain ⟨t, tj, rfl⟩ := Option.map_eq_some_iff.mp hx
    have inw := wok.all t (List.mem_of_getElem? tj)
    obtain ⟨f, hf⟩ : ∃ f : Nat, t.2.1 = f := ⟨t.2.1.toNat, (Int.toNat_of_nonneg inw.f0).symm⟩
    obtain ⟨g, hg⟩ : ∃ g : Nat, t.2.2 = g := ⟨t.2.2.toNat, (Int.toNat_of_nonneg inw.e0).symm⟩
    have fn : f < s := by have := inw.fn; omega
    have gn : g < s := by have := inw.en; omega
    have k0 := inw.k0
    have at' : A.take (j + 1) = A.take j ++ [t] := by
      rw [List.take_add_one, tj]
      rfl
    rw [at'] at hk
    have et : dTri t = .tuple [.int t.1, .int (f : Int), .int (g : Int)] := by
      unfold dTri tri
      rw [hf, hg]
      rfl
    rw [et]
    refine ⟨rfl, ?_⟩
    by_cases z : i = t.1
    · have l1 : ledF i f t = some (g : Int) := by unfold ledF; rw [if_pos (by omega), if_pos ⟨z.symm, hf⟩, hg]
      have l2 : ∀ x : Nat, x ≠ f → ledF i x t = none := fun x nx => by unfold ledF; rw [if_pos (by omega), if_neg (fun q => nx (by have := q.2; omega))]
      refine gEq_i (b := true) (by rw [decide_eq_true z]; rfl) ?_
      refine gIx_of rfl (ansN_getD _ fn) (w_bit (by omega) (gBit_of ?_))
      refine putK_of (ix_at (by rw [List.length_map, ansN_len]; exact fn)) ?_
      rw [ansN_setD fn (along_on l1 gn) fun x nx => along_off (l2 x nx)]
      refine gI0_of (r := -1 - t.1) rfl (gEq_i (b := false) (by rw [decide_eq_false (by omega : ¬ i = -1 - t.1)]; rfl) ?_)
      exact hk _ ⟨_, _, _, rfl⟩
    · refine gEq_i (b := false) (by rw [decide_eq_false z]; rfl) ?_
      by_cases y : i = -1 - t.1
      · have l1 : ledF i g t = some (f : Int) := by unfold ledF; rw [if_neg (by omega), if_pos ⟨by omega, hg⟩, hf]
        have l2 : ∀ x : Nat, x ≠ g → ledF i x t = none := fun x nx => by unfold ledF; rw [if_neg (by omega), if_neg (fun q => nx (by have := q.2; omega))]
        refine gI0_of (r := -1 - t.1) rfl (gEq_i (b := true) (by rw [decide_eq_true y]; rfl) ?_)
        refine gIx_of rfl (ansN_getD _ gn) (w_bit (by omega) (gBit_of ?_))
        refine putK_of (ix_at (by rw [List.length_map, ansN_len]; exact gn)) ?_
        rw [ansN_setD gn (along_on l1 fn) fun x nx => along_off (l2 x nx)]
        exact hk _ ⟨_, _, _, rfl⟩
      · have l2 : ∀ x : Int, ledF i x t = none := fun x => by
          unfold ledF
          split
          · exact if_neg fun q => z q.1.symm
          · exact if_neg fun q => y (by have := q.1; omega)
        refine gI0_of (r := -1 - t.1) rfl (gEq_i (b := false) (by rw [decide_eq_false y]; rfl) ?_)
        rw [show ansN s (along s (A.take j ++ [t]) i) = ansN s (along s (A.take j) i) from ansN_congr fun x _ => along_off (l2 x)] at hk
        exact hk _ ⟨_, _, _, rfl⟩
  · obtain ⟨y5, y6, y7, rfl⟩ := hI
    rw [List.length_map, List.take_length]
    exact q
end
end K0

/-! M3: what the mirrors give, of a saying. -/
namespace K0
open PySem PySem.Spec PyProof.Rows L2 W0 W1 W2 W5 W6 V0 V1 V6
theorem gBit_e {f : Nat → Nat → Nat} {n : Nat} {a b : Int} {i j r : Nat} {post : Nat → Val → Prop} (ha : a = i) (hb : b = j) (h : f i j = r) (q : post n (.dat (.int (r : Int)))) : gBit f n (.dat (.int a)) (.dat (.int b)) post := by
  subst ha hb h
  exact gBit_of q
theorem whole_eq (s : Nat) : ((2 ^ s : Nat) : Int) - 1 = ((maskF s fun _ => true : Nat) : Int) := by
  have := bits_full' s
  have := Nat.one_le_two_pow (n := s)
  show ((2 ^ s : Nat) : Int) - 1 = ((bitsN s fun _ => true : Nat) : Int)
  omega
theorem not_eq (s : Nat) (f : Int → Bool) : ((maskF s fun _ => true : Nat) : Int) - ((maskF s f : Nat) : Int) = ((maskF s fun x => !f x : Nat) : Int) := by
  have e := V10.bits_add s (fun y => f y) (fun y => !f y) (fun c _ h => by
    obtain ⟨h1, h2⟩ := h
    have h1 : f c = true := h1
    have h2 : (!f c) = true := h2
    rw [h1] at h2
    cases h2)
  have e2 : (bitsN s fun c => f c || !f c) = bitsN s fun _ => true := congrArg (bitsN s) (funext fun c => Bool.or_not_self _)
  rw [e2] at e
  show ((bitsN s fun _ => true : Nat) : Int) - ((bitsN s fun y => f y : Nat) : Int) = ((bitsN s fun y => !f y : Nat) : Int)
  omega
theorem mask_and (s : Nat) (f g : Int → Bool) : maskF s f &&& maskF s g = maskF s fun x => f x && g x := bits_and s _ _
theorem mask_or (s : Nat) (f g : Int → Bool) : maskF s f ||| maskF s g = maskF s fun x => f x || g x := bits_or s _ _
theorem mask_none (s : Nat) : maskF s (fun _ => false) = 0 := bits_none s
/-- the marks of the letters, world by world -/
structure BOk (s : Nat) (L : List Nat) (v : Nat → Int → Bool) : Prop where
  on : ∀ (i m : Nat), L[i]? = some m → m = maskF s (v i)
  off : ∀ (i : Nat), L[i]? = none → ∀ x, v i x = false
abbrev dMs (L : List Nat) : PyData := .list (L.map fun (m : Nat) => PyData.int (m : Int))
abbrev no0 : Nat → Int → Bool := fun _ _ => false
/-- the bits where a saying holds -/
abbrev hM (s : Nat) (A : List T3) (v : Nat → Int → Bool) (t : Say) : Nat := maskF s (holdV A v no0 t)
set_option maxHeartbeats 2000000 in
theorem w_holds {s : Nat} {A : List T3} (wok : WOk s A) {L : List Nat} {v : Nat → Int → Bool} (mok : BOk s L v) : ∀ (d : Nat) (t : Say), t.Ok → t.deep ≤ d → ∀ (n : Nat) (post : Nat → Val → Prop), post n (.dat (.int ((hM s A v t : Nat) : Int))) → m__law_holds d [.dat (dWeb s A), .dat (dSay t), .dat (dMs L)] n post
  | 0, t, _, hd, _, _, _ => by have := Say.deep_pos t; omega
  | d + 1, t, ok, hd, n, post, q => by
    have s2 : s ≤ 200 := by have := wok.n2; omega
    have ih := w_holds wok mok d
    show ms__law_holds (m__law_holds d) _ n post
    unfold ms__law_holds
    cases t with
    | hr j => exact ok.elim
    | lt i =>
      refine ⟨rfl, gIx_of rfl (atI_nat (j := 0) rfl) (gIx_of rfl (atI_nat (j := 0) rfl) (w_bit (by omega) (gI0_of (whole_eq s) (gEq_s (b := true) (by decide +kernel) ?_))))⟩
      refine gIx_of rfl (atI_nat (j := 1) rfl) ?_
      cases hL : L[i]? with
      | some m =>
        have hi : i < L.length := (List.getElem?_eq_some_iff.mp hL).1
        refine gIB_of (b := true) (by rw [List.length_map]; exact decide_eq_true (by omega)) (gIx_of rfl (atI_nat (j := 1) rfl) (gIx_of rfl (atI_nat (j := i) (by rw [List.getElem?_map, hL]; rfl)) ?_))
        rw [mok.on i m hL]
        exact q
      | none =>
        have hi : L.length ≤ i := List.getElem?_eq_none_iff.mp hL
        refine gIB_of (b := false) (by rw [List.length_map]; exact decide_eq_false (by omega)) ?_
        have q : post n (.dat (.int ((maskF s (v i) : Nat) : Int))) := q
        rw [show v i = fun _ => false from funext (mok.off i hL), mask_none] at q
        exact q
    | yes =>
      refine ⟨rfl, gIx_of rfl (atI_nat (j := 0) rfl) (gIx_of rfl (atI_nat (j := 0) rfl) (w_bit (by omega) (gI0_of (whole_eq s) (gEq_s (b := false) (by decide +kernel) ?_))))⟩
      refine gIn_s (b := true) (by decide +kernel) (gEq_s (b := true) (by decide +kernel) ?_)
      exact q
    | no =>
      refine ⟨rfl, gIx_of rfl (atI_nat (j := 0) rfl) (gIx_of rfl (atI_nat (j := 0) rfl) (w_bit (by omega) (gI0_of (whole_eq s) (gEq_s (b := false) (by decide +kernel) ?_))))⟩
      refine gIn_s (b := true) (by decide +kernel) (gEq_s (b := false) (by decide +kernel) ?_)
      have q : post n (.dat (.int ((maskF s fun _ => false : Nat) : Int))) := q
      rw [mask_none] at q
      exact q
    | nt a =>
      have hd : a.deep + 1 ≤ d + 1 := hd
      refine ⟨rfl, gIx_of rfl (atI_nat (j := 0) rfl) (gIx_of rfl (atI_nat (j := 0) rfl) (w_bit (by omega) (gI0_of (whole_eq s) (gEq_s (b := false) (by decide +kernel) ?_))))⟩
      refine gIn_s (b := false) (by decide +kernel) (gIn_s (b := false) (by decide +kernel) (gIx_of rfl (atI_nat (j := 1) rfl) (ih a ok (by omega) _ _ ?_)))
      refine gEq_s (b := true) (by decide +kernel) (gI0_of (not_eq s _) ?_)
      exact q
    | an a b =>
      have hd : max a.deep b.deep + 1 ≤ d + 1 := hd
      refine ⟨rfl, gIx_of rfl (atI_nat (j := 0) rfl) (gIx_of rfl (atI_nat (j := 0) rfl) (w_bit (by omega) (gI0_of (whole_eq s) (gEq_s (b := false) (by decide +kernel) ?_))))⟩
      refine gIn_s (b := false) (by decide +kernel) (gIn_s (b := false) (by decide +kernel) (gIx_of rfl (atI_nat (j := 1) rfl) (ih a ok.1 (by omega) _ _ ?_)))
      refine gEq_s (b := false) (by decide +kernel) (gIn_s (b := false) (by decide +kernel) ?_)
      refine gIx_of rfl (atI_nat (j := 2) rfl) (ih b ok.2 (by omega) _ _ ?_)
      refine gEq_s (b := true) (by decide +kernel) (gBit_e rfl rfl (mask_and s _ _) ?_)
      exact q
    | orr a b =>
      have hd : max a.deep b.deep + 1 ≤ d + 1 := hd
      refine ⟨rfl, gIx_of rfl (atI_nat (j := 0) rfl) (gIx_of rfl (atI_nat (j := 0) rfl) (w_bit (by omega) (gI0_of (whole_eq s) (gEq_s (b := false) (by decide +kernel) ?_))))⟩
      refine gIn_s (b := false) (by decide +kernel) (gIn_s (b := false) (by decide +kernel) (gIx_of rfl (atI_nat (j := 1) rfl) (ih a ok.1 (by omega) _ _ ?_)))
      refine gEq_s (b := false) (by decide +kernel) (gIn_s (b := false) (by decide +kernel) ?_)
      refine gIx_of rfl (atI_nat (j := 2) rfl) (ih b ok.2 (by omega) _ _ ?_)
      refine gEq_s (b := false) (by decide +kernel) (gEq_s (b := true) (by decide +kernel) (gBit_e rfl rfl (mask_or s _ _) ?_))
      exact q
    | gv a b =>
      have hd : max a.deep b.deep + 1 ≤ d + 1 := hd
      refine ⟨rfl, gIx_of rfl (atI_nat (j := 0) rfl) (gIx_of rfl (atI_nat (j := 0) rfl) (w_bit (by omega) (gI0_of (whole_eq s) (gEq_s (b := false) (by decide +kernel) ?_))))⟩
      refine gIn_s (b := false) (by decide +kernel) (gIn_s (b := false) (by decide +kernel) (gIx_of rfl (atI_nat (j := 1) rfl) (ih a ok.1 (by omega) _ _ ?_)))
      refine gEq_s (b := false) (by decide +kernel) (gIn_s (b := false) (by decide +kernel) ?_)
      refine gIx_of rfl (atI_nat (j := 2) rfl) (ih b ok.2 (by omega) _ _ ?_)
      refine gEq_s (b := false) (by decide +kernel) (gEq_s (b := false) (by decide +kernel) (gI0_of (not_eq s _) (gBit_e rfl rfl (mask_or s _ _) ?_)))
      exact q
    | ea w a =>
      have hd : a.deep + 1 ≤ d + 1 := hd
      refine ⟨rfl, gIx_of rfl (atI_nat (j := 0) rfl) (gIx_of rfl (atI_nat (j := 0) rfl) (w_bit (by omega) (gI0_of (whole_eq s) (gEq_s (b := false) (by decide +kernel) ?_))))⟩
      refine gIn_s (b := false) (by decide +kernel) (gIn_s (b := true) (by decide +kernel) (gIx_of rfl (atI_nat (j := 2) rfl) (ih a ok.2 (by omega) _ _ ?_)))
      refine gEq_s (b := false) (by decide +kernel) (gIn_s (b := true) (by decide +kernel) ?_)
      refine gIx_of rfl (atI_nat (j := 1) rfl) (w_along wok w ⟨by omega, by omega, ?_⟩)
      refine forW_rg (fun j env => ∃ y10 y11 y7 : Option Val, env = [some (Val.dat (dWeb s A)), some (Val.dat (dSay (.ea w a))), some (Val.dat (dMs L)), some (Val.dat (.int (s : Int))), some (Val.dat (.str "each")), some (Val.dat (.int ((maskF s fun _ => true : Nat) : Int))), some (Val.dat (.int ((hM s A v a : Nat) : Int))), y7, some (Val.dat (.list ((ansN s (along s A w)).map PyData.int))), some (Val.dat (.int ((bitsN j fun y : Nat => holdV A v no0 (.ea w a) y : Nat) : Int))), y10, y11]) s ⟨_, _, _, rfl⟩ (fun j hj env hI k hk => ?_) (fun env hI => ?_)
      · obtain ⟨y10, y11, y7, rfl⟩ := hI
        refine gEq_s (b := true) (by decide +kernel) (gIx_of rfl (ansN_getD _ hj) (gBit_of (gIx_of rfl (ansN_getD _ hj) ?_)))
        have inr : ∀ x ∈ ledS A w j, 0 ≤ x ∧ x < (s : Int) := fun x hx => ledS_in wok hx
        have eb : (false != decide (((along s A w j &&& hM s A v a : Nat) : Int) = ((along s A w j : Nat) : Int))) = holdV A v no0 (.ea w a) j := by
          rw [Bool.false_bne, show holdV A v no0 (.ea w a) (j : Nat) = (ledS A w j).all (holdV A v no0 a) from rfl, ← mask_all inr]
          exact decide_eq_decide.mpr ⟨fun h => by have := Int.ofNat.inj h; exact this, fun h => congrArg _ h⟩
        refine gEq_i eb ?_
        cases hb : holdV A v no0 (.ea w a) j with
        | true =>
          refine w_bit (by omega) (gBit_e rfl rfl (bits_on (G := fun y : Nat => holdV A v no0 (.ea w a) y) hb) ?_)
          exact hk _ ⟨_, _, _, rfl⟩
        | false =>
          refine gBit_e (j := 0) rfl rfl (bits_off (G := fun y : Nat => holdV A v no0 (.ea w a) y) hb) ?_
          exact hk _ ⟨_, _, _, rfl⟩
      · obtain ⟨y10, y11, y7, rfl⟩ := hI
        exact q
    | so w a =>
      have hd : a.deep + 1 ≤ d + 1 := hd
      refine ⟨rfl, gIx_of rfl (atI_nat (j := 0) rfl) (gIx_of rfl (atI_nat (j := 0) rfl) (w_bit (by omega) (gI0_of (whole_eq s) (gEq_s (b := false) (by decide +kernel) ?_))))⟩
      refine gIn_s (b := false) (by decide +kernel) (gIn_s (b := true) (by decide +kernel) (gIx_of rfl (atI_nat (j := 2) rfl) (ih a ok.2 (by omega) _ _ ?_)))
      refine gEq_s (b := false) (by decide +kernel) (gIn_s (b := true) (by decide +kernel) ?_)
      refine gIx_of rfl (atI_nat (j := 1) rfl) (w_along wok w ⟨by omega, by omega, ?_⟩)
      refine forW_rg (fun j env => ∃ y10 y11 y7 : Option Val, env = [some (Val.dat (dWeb s A)), some (Val.dat (dSay (.so w a))), some (Val.dat (dMs L)), some (Val.dat (.int (s : Int))), some (Val.dat (.str "some")), some (Val.dat (.int ((maskF s fun _ => true : Nat) : Int))), some (Val.dat (.int ((hM s A v a : Nat) : Int))), y7, some (Val.dat (.list ((ansN s (along s A w)).map PyData.int))), some (Val.dat (.int ((bitsN j fun y : Nat => holdV A v no0 (.so w a) y : Nat) : Int))), y10, y11]) s ⟨_, _, _, rfl⟩ (fun j hj env hI k hk => ?_) (fun env hI => ?_)
      · obtain ⟨y10, y11, y7, rfl⟩ := hI
        refine gEq_s (b := false) (by decide +kernel) (gIx_of rfl (ansN_getD _ hj) (gBit_of ?_))
        have inr : ∀ x ∈ ledS A w j, 0 ≤ x ∧ x < (s : Int) := fun x hx => ledS_in wok hx
        have eb : (true != decide (((along s A w j &&& hM s A v a : Nat) : Int) = 0)) = holdV A v no0 (.so w a) j := by
          rw [Bool.true_bne, show holdV A v no0 (.so w a) (j : Nat) = (ledS A w j).any (holdV A v no0 a) from rfl, ← mask_any inr, dec_vint']
        refine gEq_i eb ?_
        cases hb : holdV A v no0 (.so w a) j with
        | true =>
          refine w_bit (by omega) (gBit_e rfl rfl (bits_on (G := fun y : Nat => holdV A v no0 (.so w a) y) hb) ?_)
          exact hk _ ⟨_, _, _, rfl⟩
        | false =>
          refine gBit_e (j := 0) rfl rfl (bits_off (G := fun y : Nat => holdV A v no0 (.so w a) y) hb) ?_
          exact hk _ ⟨_, _, _, rfl⟩
      · obtain ⟨y10, y11, y7, rfl⟩ := hI
        exact q
end K0

/-! M4: a saying's letters, the markings of them. -/
namespace K0
open PySem PySem.Spec PyProof.Rows L2 W0 W1 W2 W5 W6 V0 V1 V6
theorem isTup_of {i n : Nat} {env : Env3} {post : Nat → Val → Prop} {ds : List PyData} (h : env[i]? = some (some (.dat (.tuple ds)))) (q : post n (.dat (.bool true))) : eIsTup (eVar i) n env post := by
  unfold eIsTup eVar
  rw [h]
  exact q
theorem isTup_say {i n : Nat} {env : Env3} {post : Nat → Val → Prop} {t : Say} (h : env[i]? = some (some (.dat (dSay t)))) (q : post n (.dat (.bool true))) : eIsTup (eVar i) n env post := isTup_of (by rw [h, dSay_eq]) q
theorem isTup_int {i n : Nat} {env : Env3} {post : Nat → Val → Prop} {k : Int} (h : env[i]? = some (some (.dat (.int k)))) (q : post n (.dat (.bool false))) : eIsTup (eVar i) n env post := by
  unfold eIsTup eVar
  rw [h]
  exact q
theorem isTup_str {i n : Nat} {env : Env3} {post : Nat → Val → Prop} {k : Str} (h : env[i]? = some (some (.dat (.str k)))) (q : post n (.dat (.bool false))) : eIsTup (eVar i) n env post := by
  unfold eIsTup eVar
  rw [h]
  exact q
abbrev dN (L : List Nat) : PyData := .list (L.map fun (m : Nat) => PyData.int (m : Int))
theorem dN_ints (L : List Nat) : (L.map fun (m : Nat) => PyData.int (m : Int)) = (L.map fun (m : Nat) => (m : Int)).map PyData.int := by
  rw [List.map_map]
  rfl
theorem ssW_of {n : Nat} {ds : List PyData} {L : List Nat} {post : Nat → Val → Prop} (e : ds = L.map fun (m : Nat) => PyData.int (m : Int)) (hl : L.length ≤ 60) (q : ∀ ms : List Nat, ms.Pairwise (· < ·) → (∀ k, k ∈ ms ↔ k ∈ L) → post n (.new (ms.map fun (m : Nat) => PyData.int (m : Int)))) : ssW n (.dat (.list ds)) post := by
  subst e
  unfold ssW
  show match intsD (L.map fun (m : Nat) => PyData.int (m : Int)) with
    | some ns => ns.length ≤ 60 ∧ ∀ ms : List Int, ms.Pairwise (· < ·) → (∀ k, k ∈ ms ↔ k ∈ ns) → post n (.new (ms.map PyData.int))
    | none => False
  rw [dN_ints, intsD_map]
  refine ⟨by rw [List.length_map]; exact hl, fun ms asc mem => ?_⟩
  have e : ms = (ms.map Int.toNat).map fun (m : Nat) => (m : Int) := by
    rw [List.map_map]
    have : ms.map ((fun (m : Nat) => (m : Int)) ∘ Int.toNat) = ms.map id := List.map_congr_left fun k hk => by
      obtain ⟨i, _, hi⟩ := List.mem_map.mp ((mem k).mp hk)
      subst hi
      rfl
    rw [this, List.map_id]
  have q := q (ms.map Int.toNat) (by
    rw [e, List.pairwise_map] at asc
    exact asc.imp fun h => by omega) (fun k => by
    have := mem (k : Int)
    rw [e, List.mem_map, List.mem_map] at this
    constructor
    · intro h
      obtain ⟨y, hy, e2⟩ := this.mp ⟨k, h, rfl⟩
      rw [← show y = k by omega]
      exact hy
    · intro h
      obtain ⟨y, hy, e2⟩ := this.mpr ⟨k, h, rfl⟩
      rw [← show y = k by omega]
      exact hy)
  rw [dN_ints, ← e] at q
  exact q
/-- the letters of a saying, by their own numbers -/
def IsL (t : Say) (L : List Nat) : Prop := L.Pairwise (· < ·) ∧ ∀ i, i ∈ L ↔ Say.lt i ∈ t.words
theorem asc8 : ∀ {L : List Nat} (c : Nat), L.Pairwise (· < ·) → (∀ i ∈ L, c ≤ i ∧ i < 8) → L.length + c ≤ 8 ∨ L = []
  | [], _, _, _ => .inr rfl
  | a :: l, c, h, b => by
    have ha := b a List.mem_cons_self
    have hp := List.pairwise_cons.mp h
    refine .inl ?_
    rcases asc8 (a + 1) hp.2 (fun i hi => ⟨hp.1 i hi, (b i (List.mem_cons_of_mem _ hi)).2⟩) with e | e
    · rw [List.length_cons]; omega
    · subst e; show 1 + c ≤ 8; omega
theorem IsL.lt8 {t : Say} {L : List Nat} (ok : t.Ok) (h : IsL t L) : ∀ i ∈ L, i < 8 := fun i hi => Say.letters8 ok _ ((h.2 i).mp hi)
theorem IsL.few {t : Say} {L : List Nat} (ok : t.Ok) (h : IsL t L) : L.length ≤ 8 := by
  rcases asc8 0 h.1 (fun i hi => ⟨Nat.zero_le _, h.lt8 ok i hi⟩) with e | e
  · omega
  · subst e; exact Nat.zero_le _
theorem asc_nil {L : List Nat} (h : ∀ i, ¬ i ∈ L) : L = [] := List.eq_nil_iff_forall_not_mem.mpr h
set_option maxHeartbeats 2000000 in
theorem w_letters : ∀ (d : Nat) (t : Say), t.Ok → t.deep ≤ d → ∀ (n : Nat) (post : Nat → Val → Prop), (∀ L, IsL t L → post n (.dat (dN L))) → m__law_letters d [.dat (dSay t)] n post
  | 0, t, _, hd, _, _, _ => by have := Say.deep_pos t; omega
  | d + 1, t, ok, hd, n, post, q => by
    have ih := w_letters d
    show ms__law_letters (m__law_letters d) _ n post
    unfold ms__law_letters
    have one : ∀ (a : Say), (∀ i, Say.lt i ∈ t.words ↔ Say.lt i ∈ a.words) → a.Ok → ∀ La, IsL a La → ssW n (.dat (.list ([] ++ La.map fun (m : Nat) => PyData.int (m : Int)))) (fun n1 w => rt3 post n1 w) := fun a ha oa La hL => by
      refine ssW_of (L := La) rfl (by have := hL.few oa; omega) fun ms asc mem => ?_
      exact q ms ⟨asc, fun i => (mem i).trans ((hL.2 i).trans (ha i).symm)⟩
    have two : ∀ (a b : Say), (∀ i, Say.lt i ∈ t.words ↔ Say.lt i ∈ a.words ∨ Say.lt i ∈ b.words) → a.Ok → b.Ok → ∀ La Lb, IsL a La → IsL b Lb → ssW n (.dat (.list (([] ++ La.map fun (m : Nat) => PyData.int (m : Int)) ++ Lb.map fun (m : Nat) => PyData.int (m : Int)))) (fun n1 w => rt3 post n1 w) := fun a b hab oa ob La Lb hL hM => by
      refine ssW_of (L := La ++ Lb) (by rw [List.map_append]; rfl) (by have := hL.few oa; have := hM.few ob; rw [List.length_append]; omega) fun ms asc mem => ?_
      refine q ms ⟨asc, fun i => (mem i).trans ?_⟩
      rw [List.mem_append, hL.2 i, hM.2 i]
      exact (hab i).symm
    have len1 : ∀ {a : Say} {La : List Nat}, a.Ok → IsL a La → ([] : List PyData).length + (La.map fun (m : Nat) => PyData.int (m : Int)).length ≤ 10000000 := fun oa hL => by
      have := hL.few oa
      rw [List.length_map]
      show 0 + _ ≤ _
      omega
    have len2 : ∀ {a b : Say} {La Lb : List Nat}, a.Ok → b.Ok → IsL a La → IsL b Lb → ([] ++ La.map fun (m : Nat) => PyData.int (m : Int)).length + (Lb.map fun (m : Nat) => PyData.int (m : Int)).length ≤ 10000000 := fun oa ob hL hM => by
      have := hL.few oa
      have := hM.few ob
      rw [List.length_map, List.nil_append, List.length_map]
      omega
    cases t with
    | hr j => exact ok.elim
    | lt i =>
      refine ⟨rfl, gIx_of rfl (atI_nat (j := 0) rfl) (gEq_s (b := true) (by decide +kernel) (gIx_of rfl (atI_nat (j := 1) rfl) ?_))⟩
      exact q [i] ⟨List.pairwise_singleton _ _, fun k => by
        rw [List.mem_singleton]
        show k = i ↔ Say.lt k ∈ [Say.lt i]
        rw [List.mem_singleton]
        exact ⟨fun e => by rw [e], fun e => by injection e⟩⟩
    | yes =>
      refine ⟨rfl, gIx_of rfl (atI_nat (j := 0) rfl) (gEq_s (b := false) (by decide +kernel) ?_)⟩
      refine ssW_of (L := []) rfl (Nat.zero_le _) fun ms asc mem => ?_
      exact q ms ⟨asc, fun i => (mem i).trans ⟨fun z => (nomatch z), fun z => (nomatch (List.mem_singleton.mp z))⟩⟩
    | no =>
      refine ⟨rfl, gIx_of rfl (atI_nat (j := 0) rfl) (gEq_s (b := false) (by decide +kernel) ?_)⟩
      refine ssW_of (L := []) rfl (Nat.zero_le _) fun ms asc mem => ?_
      exact q ms ⟨asc, fun i => (mem i).trans ⟨fun z => (nomatch z), fun z => (nomatch (List.mem_singleton.mp z))⟩⟩
    | nt a =>
      have hd : a.deep + 1 ≤ d + 1 := hd
      refine ⟨rfl, gIx_of rfl (atI_nat (j := 0) rfl) (gEq_s (b := false) (by decide +kernel) ?_)⟩
      refine isTup_say rfl (ih a ok (by omega) _ _ fun La hL => ⟨len1 (a := a) ok hL, ?_⟩)
      exact one a (fun i => ⟨fun z => (List.mem_cons.mp z).elim (fun e => by cases e) id, fun z => List.mem_cons_of_mem _ z⟩) ok La hL
    | ea w a =>
      have hd : a.deep + 1 ≤ d + 1 := hd
      refine ⟨rfl, gIx_of rfl (atI_nat (j := 0) rfl) (gEq_s (b := false) (by decide +kernel) ?_)⟩
      refine isTup_int rfl (isTup_say rfl (ih a ok.2 (by omega) _ _ fun La hL => ⟨len1 ok.2 hL, ?_⟩))
      exact one a (fun i => ⟨fun z => (List.mem_cons.mp z).elim (fun e => by cases e) id, fun z => List.mem_cons_of_mem _ z⟩) ok.2 La hL
    | so w a =>
      have hd : a.deep + 1 ≤ d + 1 := hd
      refine ⟨rfl, gIx_of rfl (atI_nat (j := 0) rfl) (gEq_s (b := false) (by decide +kernel) ?_)⟩
      refine isTup_int rfl (isTup_say rfl (ih a ok.2 (by omega) _ _ fun La hL => ⟨len1 ok.2 hL, ?_⟩))
      exact one a (fun i => ⟨fun z => (List.mem_cons.mp z).elim (fun e => by cases e) id, fun z => List.mem_cons_of_mem _ z⟩) ok.2 La hL
    | an a b =>
      have hd : max a.deep b.deep + 1 ≤ d + 1 := hd
      refine ⟨rfl, gIx_of rfl (atI_nat (j := 0) rfl) (gEq_s (b := false) (by decide +kernel) ?_)⟩
      refine isTup_say rfl (ih a ok.1 (by omega) _ _ fun La hL => ⟨len1 ok.1 hL, isTup_say rfl (ih b ok.2 (by omega) _ _ fun Lb hM => ⟨len2 ok.1 ok.2 hL hM, ?_⟩)⟩)
      exact two a b (fun i => ⟨fun z => (List.mem_cons.mp z).elim (fun e => by cases e) List.mem_append.mp, fun z => List.mem_cons_of_mem _ (List.mem_append.mpr z)⟩) ok.1 ok.2 La Lb hL hM
    | orr a b =>
      have hd : max a.deep b.deep + 1 ≤ d + 1 := hd
      refine ⟨rfl, gIx_of rfl (atI_nat (j := 0) rfl) (gEq_s (b := false) (by decide +kernel) ?_)⟩
      refine isTup_say rfl (ih a ok.1 (by omega) _ _ fun La hL => ⟨len1 ok.1 hL, isTup_say rfl (ih b ok.2 (by omega) _ _ fun Lb hM => ⟨len2 ok.1 ok.2 hL hM, ?_⟩)⟩)
      exact two a b (fun i => ⟨fun z => (List.mem_cons.mp z).elim (fun e => by cases e) List.mem_append.mp, fun z => List.mem_cons_of_mem _ (List.mem_append.mpr z)⟩) ok.1 ok.2 La Lb hL hM
    | gv a b =>
      have hd : max a.deep b.deep + 1 ≤ d + 1 := hd
      refine ⟨rfl, gIx_of rfl (atI_nat (j := 0) rfl) (gEq_s (b := false) (by decide +kernel) ?_)⟩
      refine isTup_say rfl (ih a ok.1 (by omega) _ _ fun La hL => ⟨len1 ok.1 hL, isTup_say rfl (ih b ok.2 (by omega) _ _ fun Lb hM => ⟨len2 ok.1 ok.2 hL hM, ?_⟩)⟩)
      exact two a b (fun i => ⟨fun z => (List.mem_cons.mp z).elim (fun e => by cases e) List.mem_append.mp, fun z => List.mem_cons_of_mem _ (List.mem_append.mpr z)⟩) ok.1 ok.2 La Lb hL hM
/-! ### the markings -/
def stepM (s : Nat) (found : List (List Nat)) (l : Nat) : List (List Nat) := found.flatMap fun m => (List.range (2 ^ s)).map fun b => m.set l b
abbrev allM (s M : Nat) (L : List Nat) : List (List Nat) := L.foldl (stepM s) [List.replicate M 0]
theorem allM_snoc (s M : Nat) (L : List Nat) (l : Nat) : allM s M (L ++ [l]) = stepM s (allM s M L) l := by
  unfold allM
  rw [List.foldl_append]
  rfl
theorem mem_stepM {s : Nat} {found : List (List Nat)} {l : Nat} {m : List Nat} : m ∈ stepM s found l ↔ ∃ m' ∈ found, ∃ b, b < 2 ^ s ∧ m = m'.set l b := by
  unfold stepM
  rw [List.mem_flatMap]
  constructor
  · rintro ⟨m', hm, h⟩
    obtain ⟨b, hb, rfl⟩ := List.mem_map.mp h
    exact ⟨m', hm, b, List.mem_range.mp hb, rfl⟩
  · rintro ⟨m', hm, b, hb, rfl⟩
    exact ⟨m', hm, List.mem_map.mpr ⟨b, List.mem_range.mpr hb, rfl⟩⟩
theorem rev_ind {P : List Nat → Prop} (h0 : P []) (hs : ∀ l a, P l → P (l ++ [a])) (l : List Nat) : P l := by
  rw [← List.reverse_reverse l]
  induction l.reverse with
  | nil => exact h0
  | cons a l ih =>
    rw [List.reverse_cons]
    exact hs _ a ih
theorem allM_form {s M : Nat} (L : List Nat) : ∀ m ∈ allM s M L, m.length = M ∧ ∀ (i x : Nat), m[i]? = some x → x < 2 ^ s := by
  refine rev_ind (P := fun L => ∀ m ∈ allM s M L, m.length = M ∧ ∀ (i x : Nat), m[i]? = some x → x < 2 ^ s) ?_ ?_ L
  · intro m hm
    rw [List.mem_singleton.mp hm]
    refine ⟨List.length_replicate, fun i x hx => ?_⟩
    rw [List.getElem?_replicate] at hx
    split at hx
    · rw [← Option.some.inj hx]; exact Nat.two_pow_pos s
    · cases hx
  · intro L l ih m hm
    rw [allM_snoc] at hm
    obtain ⟨m', hm', b, hb, rfl⟩ := mem_stepM.mp hm
    obtain ⟨h1, h2⟩ := ih m' hm'
    refine ⟨by rw [List.length_set]; exact h1, fun i x hx => ?_⟩
    rw [List.getElem?_set] at hx
    split at hx
    · split at hx
      · rw [← Option.some.inj hx]; exact hb
      · cases hx
    · exact h2 i x hx
theorem allM_len {s M : Nat} (L : List Nat) : (allM s M L).length = 2 ^ (s * L.length) := by
  refine rev_ind (P := fun L => (allM s M L).length = 2 ^ (s * L.length)) rfl ?_ L
  intro L l ih
  rw [allM_snoc]
  unfold stepM
  rw [List.length_flatMap]
  have : (allM s M L).map (fun m => ((List.range (2 ^ s)).map fun b => m.set l b).length) = (allM s M L).map fun _ => 2 ^ s := List.map_congr_left fun m _ => by
    rw [List.length_map, List.length_range]
  rw [this, List.map_const', List.sum_replicate_nat, ih, List.length_append, List.length_singleton, Nat.mul_add, Nat.mul_one, Nat.pow_add]
/-- each marking of the letters is among them -/
theorem allM_has {s M : Nat} (v : Nat → Nat) (hv : ∀ i, v i < 2 ^ s) (L : List Nat) : (List.range M).map (fun i => if i ∈ L then v i else 0) ∈ allM s M L := by
  refine rev_ind (P := fun L => (List.range M).map (fun i => if i ∈ L then v i else 0) ∈ allM s M L) ?_ ?_ L
  · show _ ∈ [List.replicate M 0]
    rw [List.mem_singleton]
    refine List.ext_getElem (by rw [List.length_map, List.length_range, List.length_replicate]) fun i h1 h2 => ?_
    simp
  · intro L l ih
    rw [allM_snoc]
    refine mem_stepM.mpr ⟨_, ih, v l, hv l, ?_⟩
    refine List.ext_getElem (by simp) fun i h1 h2 => ?_
    rw [List.getElem_set]
    simp only [List.getElem_map, List.getElem_range, List.mem_append, List.mem_singleton]
    by_cases e : l = i
    · subst e
      simp
    · have e' : ¬ i = l := fun z => e z.symm
      simp [e, e']
end K0

/-! M5: the worlds that keep a saying, marking by marking. -/
namespace K0
open PySem PySem.Spec PyProof.Rows L2 W0 W1 W2 W5 W6 V0 V1 V6
theorem gEqD_of {neg : Bool} {n : Nat} {a b : Val} {post : Nat → Val → Prop} {d e : PyData} {r : Bool} (h1 : asD a = some d) (h2 : asD b = some e) (s1 : SeqAt.shaped d = true) (s2 : SeqAt.shaped e = true) (h : (neg != PyData.eqv d e) = r) (q : post n (.dat (.bool r))) : gEqD neg n a b post := by
  unfold gEqD
  rw [h1, h2]
  exact ⟨s1, s2, by rw [h]; exact q⟩
theorem dMs_set (m : List Nat) (l b : Nat) : (m.map fun (x : Nat) => PyData.int (x : Int)).set l (.int (b : Int)) = (m.set l b).map fun (x : Nat) => PyData.int (x : Int) := by
  rw [List.map_set]
theorem gMaxL_of {n : Nat} {L : List Nat} {post : Nat → Val → Prop} (h0 : L ≠ []) (q : ∀ m : Nat, m ∈ L → (∀ y ∈ L, y ≤ m) → post n (.dat (.int (m : Int)))) : gMaxL n [.dat (dN L)] post := by
  unfold gMaxL
  show match intsD (L.map fun (m : Nat) => PyData.int (m : Int)) with
    | some ns => 0 < ns.length ∧ ∀ m, m ∈ ns → (∀ y, y ∈ ns → y ≤ m) → post n (.dat (.int m))
    | none => False
  rw [dN_ints, intsD_map]
  refine ⟨by rw [List.length_map]; exact List.length_pos_iff.mpr h0, fun m hm hy => ?_⟩
  obtain ⟨k, hk, rfl⟩ := List.mem_map.mp hm
  exact q k hk fun y hy' => by
    have := hy (y : Int) (List.mem_map.mpr ⟨y, hy', rfl⟩)
    omega
set_option maxHeartbeats 2000000 in
theorem w_markings {s : Nat} {L : List Nat} (hs : s ≤ 12) (h8 : ∀ i ∈ L, i < 8) (h12 : s * L.length ≤ 12) {n : Nat} {post : Nat → Val → Prop} (q : ∀ M, (∀ i ∈ L, i < M) → post n (.dat (.list ((allM s M L).map dMs)))) : m__law_markings [.dat (.int (s : Int)), .dat (dN L)] n post := by
  unfold m__law_markings
  refine ⟨rfl, ?_⟩
  have s12 : 2 ^ s ≤ 4096 := Nat.le_trans (Nat.pow_le_pow_right (by decide) hs) (by decide)
  have sh : SeqAt.shaped (dN L) = true := by
    show SeqAt.shaped (.list (L.map fun (m : Nat) => PyData.int (m : Int))) = true
    rw [dN_ints]
    exact shaped_ints _
  have sh0 : SeqAt.shaped (.list []) = true := shaped_ints []
  by_cases hL : L = []
  · subst hL
    refine gEqD_of (r := false) rfl rfl sh sh0 ?_ ?_
    · rfl
    · exact q 0 fun i hi => nomatch hi
  · refine gEqD_of (r := true) rfl rfl sh sh0 ?_ ?_
    · obtain ⟨a, l, rfl⟩ := List.exists_cons_of_ne_nil hL
      rfl
    refine gMaxL_of hL fun m hm hy => gI0_of (r := ((m + 1 : Nat) : Int)) (by omega) (gRepL_of rfl (by have := h8 m hm; omega) ?_)
    have hM : ∀ i ∈ L, i < m + 1 := fun i hi => Nat.lt_succ_of_le (hy i hi)
    refine forW_at (fun j env => ∃ y3 y4 y5 y6 y7 : Option Val, env = [some (Val.dat (.int (s : Int))), some (Val.dat (dN L)), some (Val.dat (.list ((allM s (m + 1) (L.take j)).map dMs))), y3, y4, y5, y6, y7]) (L.map fun (m : Nat) => PyData.int (m : Int)) ⟨none, none, none, none, none, ?_⟩ (fun j x hx env hI k hk => ?_) (fun env hI => ?_)
    · show _ = [some (Val.dat (.int (s : Int))), some (Val.dat (dN L)), some (Val.dat (.list ([List.replicate (m + 1) 0].map dMs))), none, none, none, none, none]
      show _ = [some (Val.dat (.int (s : Int))), some (Val.dat (dN L)), some (Val.dat (.list [.list ((List.replicate (m + 1) 0).map fun (m : Nat) => PyData.int (m : Int))])), none, none, none, none, none]
      rw [List.map_replicate]
      rfl
    · obtain ⟨y3, y4, y5, y6, y7, rfl⟩ := hI
      rw [List.getElem?_map] at hx
      obtain ⟨l, hl, rfl⟩ := Option.map_eq_some_iff.mp hx
      have hlL : l ∈ L := List.mem_of_getElem? hl
      have jl : j < L.length := (List.getElem?_eq_some_iff.mp hl).1
      have et : L.take (j + 1) = L.take j ++ [l] := by
        rw [List.take_add_one, hl]
        rfl
      rw [et, allM_snoc] at hk
      have form := allM_form (s := s) (M := m + 1) (L.take j)
      have flen : (allM s (m + 1) (L.take j)).length * 2 ^ s ≤ 4096 := by
        rw [allM_len, List.length_take, Nat.min_eq_left (by omega), ← Nat.pow_add]
        refine Nat.le_trans (Nat.pow_le_pow_right (by decide) (show s * j + s ≤ 12 from ?_)) (by decide)
        have := Nat.mul_le_mul_left s (show j + 1 ≤ L.length from jl)
        rw [Nat.mul_add, Nat.mul_one] at this
        omega
      generalize allM s (m + 1) (L.take j) = found at hk form flen
      refine forW_at (fun i env => ∃ y5 y6 y7 : Option Val, env = [some (Val.dat (.int (s : Int))), some (Val.dat (dN L)), some (Val.dat (.list (found.map dMs))), some (Val.dat (.int (l : Int))), some (Val.own ((stepM s (found.take i) l).map dMs)), y5, y6, y7]) (found.map dMs) ⟨_, _, _, rfl⟩ (fun i x hx env hI k2 hk2 => ?_) (fun env hI => ?_)
      · obtain ⟨y5, y6, y7, rfl⟩ := hI
        rw [List.getElem?_map] at hx
        obtain ⟨u, hu, rfl⟩ := Option.map_eq_some_iff.mp hx
        have ul := (form u (List.mem_of_getElem? hu)).1
        have il : i < found.length := (List.getElem?_eq_some_iff.mp hu).1
        have et2 : stepM s (found.take (i + 1)) l = stepM s (found.take i) l ++ (List.range (2 ^ s)).map fun b => u.set l b := by
          rw [List.take_add_one, hu]
          unfold stepM
          rw [List.flatMap_append]
          show _ ++ List.flatMap _ [u] = _
          rw [List.flatMap_singleton]
        rw [et2] at hk2
        have blen : (stepM s (found.take i) l).length + 2 ^ s ≤ 4096 := by
          unfold stepM
          rw [List.length_flatMap]
          have : (found.take i).map (fun m => ((List.range (2 ^ s)).map fun b => m.set l b).length) = (found.take i).map fun _ => 2 ^ s := List.map_congr_left fun m _ => by
            rw [List.length_map, List.length_range]
          rw [this, List.map_const', List.sum_replicate_nat, List.length_take, Nat.min_eq_left (by omega)]
          have := Nat.mul_le_mul_right (2 ^ s) (show i + 1 ≤ found.length from il)
          rw [Nat.add_mul, Nat.one_mul] at this
          omega
        generalize stepM s (found.take i) l = more at hk2 blen
        refine w_bit (by omega) ⟨Int.le_trans (by decide) (Int.natCast_nonneg _), Int.ofNat_le.mpr (Nat.le_trans s12 (by decide)), ?_⟩
        refine forW_rg (fun b env => ∃ y6 y7 : Option Val, env = [some (Val.dat (.int (s : Int))), some (Val.dat (dN L)), some (Val.dat (.list (found.map dMs))), some (Val.dat (.int (l : Int))), some (Val.own ((more ++ (List.range b).map fun b => u.set l b).map dMs)), some (Val.dat (dMs u)), y6, y7]) (2 ^ s) ⟨y6, y7, ?_⟩ (fun b hb env hI k3 hk3 => ?_) (fun env hI => ?_)
        · show _ = [some (Val.dat (.int (s : Int))), some (Val.dat (dN L)), some (Val.dat (.list (found.map dMs))), some (Val.dat (.int (l : Int))), some (Val.own ((more ++ []).map dMs)), some (Val.dat (dMs u)), y6, y7]
          rw [List.append_nil]
          rfl
        · obtain ⟨y6, y7, rfl⟩ := hI
          have e : ((more ++ (List.range b).map fun b => u.set l b).map dMs) ++ [PyData.list ((u.map fun (x : Nat) => PyData.int (x : Int)).set l (.int (b : Int)))] = (more ++ (List.range (b + 1)).map fun b => u.set l b).map dMs := by
            rw [dMs_set, List.range_succ, List.map_append (f := fun b => u.set l b), ← List.append_assoc, List.map_append (l₁ := more ++ _)]
            rfl
          rw [← e] at hk3
          refine putK_of (ix_at (by rw [List.length_map, ul]; exact hM l hlL)) ⟨?_, hk3 _ ⟨_, _, rfl⟩⟩
          rw [List.length_map, List.length_append, List.length_map, List.length_range]
          omega
        · obtain ⟨y6, y7, rfl⟩ := hI
          exact hk2 _ ⟨_, _, _, rfl⟩
      · obtain ⟨y5, y6, y7, rfl⟩ := hI
        rw [List.length_map, List.take_length]
        exact hk _ ⟨_, _, _, _, _, rfl⟩
    · obtain ⟨y3, y4, y5, y6, y7, rfl⟩ := hI
      rw [List.length_map, List.take_length]
      exact q (m + 1) hM
theorem bitsN_lt (s : Nat) (f : Nat → Bool) : bitsN s f < 2 ^ s := Nat.lt_pow_two_of_testBit _ fun i hi => by
  rw [bits_test, decide_eq_false (by omega), Bool.false_and]
/-- the marks that a marking tells -/
def vOf (m : List Nat) : Nat → Int → Bool := fun i x => ((m[i]?).getD 0).testBit x.toNat
theorem bOk {s : Nat} {m : List Nat} (h : ∀ (i x : Nat), m[i]? = some x → x < 2 ^ s) : BOk s m (vOf m) where
  on := fun i x hx => by
    have hl := h i x hx
    refine bits_ext fun j => ?_
    show _ = (decide (j < s) && ((m[i]?).getD 0).testBit ((j : Int)).toNat)
    rw [hx]
    show x.testBit j = (decide (j < s) && x.testBit j)
    by_cases e : j < s
    · rw [decide_eq_true e, Bool.true_and]
    · rw [decide_eq_false e, Bool.false_and]
      exact Nat.testBit_lt_two_pow (Nat.lt_of_lt_of_le hl (Nat.pow_le_pow_right (by decide) (by omega)))
  off := fun i hi x => by
    unfold vOf
    rw [hi]
    exact Nat.zero_testBit _
/-- who agrees on a saying's letters, agrees on the saying -/
theorem hold_agree {s : Nat} {A : List T3} (wok : WOk s A) {v u : Nat → Int → Bool} : ∀ (t : Say), (∀ i, Say.lt i ∈ t.words → ∀ y : Int, 0 ≤ y → y < s → v i y = u i y) → ∀ x : Int, 0 ≤ x → x < s → holdV A v no0 t x = holdV A u no0 t x
  | .lt i, h, x, h0, h1 => h i (List.mem_singleton.mpr rfl) x h0 h1
  | .hr _, _, _, _, _ => rfl
  | .yes, _, _, _, _ => rfl
  | .no, _, _, _, _ => rfl
  | .nt a, h, x, h0, h1 => by
    show (!holdV A v no0 a x) = !holdV A u no0 a x
    rw [hold_agree wok a (fun i m => h i (List.mem_cons_of_mem _ m)) x h0 h1]
  | .an a b, h, x, h0, h1 => by
    show (holdV A v no0 a x && holdV A v no0 b x) = (holdV A u no0 a x && holdV A u no0 b x)
    rw [hold_agree wok a (fun i m => h i (List.mem_cons_of_mem _ (List.mem_append_left _ m))) x h0 h1, hold_agree wok b (fun i m => h i (List.mem_cons_of_mem _ (List.mem_append_right _ m))) x h0 h1]
  | .orr a b, h, x, h0, h1 => by
    show (holdV A v no0 a x || holdV A v no0 b x) = (holdV A u no0 a x || holdV A u no0 b x)
    rw [hold_agree wok a (fun i m => h i (List.mem_cons_of_mem _ (List.mem_append_left _ m))) x h0 h1, hold_agree wok b (fun i m => h i (List.mem_cons_of_mem _ (List.mem_append_right _ m))) x h0 h1]
  | .gv a b, h, x, h0, h1 => by
    show (!holdV A v no0 a x || holdV A v no0 b x) = (!holdV A u no0 a x || holdV A u no0 b x)
    rw [hold_agree wok a (fun i m => h i (List.mem_cons_of_mem _ (List.mem_append_left _ m))) x h0 h1, hold_agree wok b (fun i m => h i (List.mem_cons_of_mem _ (List.mem_append_right _ m))) x h0 h1]
  | .ea w a, h, x, h0, h1 => by
    show (ledS A w x).all (holdV A v no0 a) = (ledS A w x).all (holdV A u no0 a)
    rw [Bool.eq_iff_iff, List.all_eq_true, List.all_eq_true]
    have e : ∀ y ∈ ledS A w x, holdV A v no0 a y = holdV A u no0 a y := fun y hy => hold_agree wok a (fun i m => h i (List.mem_cons_of_mem _ m)) y (ledS_in wok hy).1 (ledS_in wok hy).2
    exact ⟨fun g y hy => (e y hy).symm.trans (g y hy), fun g y hy => (e y hy).trans (g y hy)⟩
  | .so w a, h, x, h0, h1 => by
    show (ledS A w x).any (holdV A v no0 a) = (ledS A w x).any (holdV A u no0 a)
    rw [Bool.eq_iff_iff, List.any_eq_true, List.any_eq_true]
    have e : ∀ y ∈ ledS A w x, holdV A v no0 a y = holdV A u no0 a y := fun y hy => hold_agree wok a (fun i m => h i (List.mem_cons_of_mem _ m)) y (ledS_in wok hy).1 (ledS_in wok hy).2
    exact ⟨fun ⟨y, hy, g⟩ => ⟨y, hy, (e y hy).symm.trans g⟩, fun ⟨y, hy, g⟩ => ⟨y, hy, (e y hy).trans g⟩⟩
/-- the world keeps the saying, however the letters are marked -/
def Keeps (A : List T3) (t : Say) (x : Int) : Prop := ∀ v, holdV A v no0 t x = true
noncomputable def keepB (A : List T3) (t : Say) (x : Int) : Bool := @decide (Keeps A t x) (Classical.propDecidable _)
theorem keepB_iff {A : List T3} {t : Say} {x : Int} : keepB A t x = true ↔ Keeps A t x := @decide_eq_true_iff _ (Classical.propDecidable _)
/-- the markings of the letters tell who keeps the saying -/
theorem keep_all {s : Nat} {A : List T3} (wok : WOk s A) {t : Say} {L : List Nat} (hL : IsL t L) {M : Nat} (hM : ∀ i ∈ L, i < M) {x : Nat} (hx : x < s) : ((allM s M L).all fun m => holdV A (vOf m) no0 t x) = keepB A t x := by
  rw [Bool.eq_iff_iff, keepB_iff, List.all_eq_true]
  constructor
  · intro h v
    have hin := allM_has (s := s) (M := M) (fun i => maskF s (v i)) (fun i => bitsN_lt s _) L
    rw [← h _ hin]
    refine hold_agree wok t (fun i hi y y0 y1 => ?_) x (by omega) (by omega)
    have iL := (hL.2 i).mpr hi
    unfold vOf
    rw [List.getElem?_map, List.getElem?_range (hM i iL)]
    show _ = (if i ∈ L then maskF s (v i) else 0).testBit y.toNat
    rw [if_pos iL]
    obtain ⟨z, rfl⟩ : ∃ z : Nat, y = z := ⟨y.toNat, (Int.toNat_of_nonneg y0).symm⟩
    exact (maskF_test (f := v i) (by omega)).symm
  · intro h m _
    exact h _
/-- the bits of the worlds that keep a saying -/
noncomputable abbrev kM (s : Nat) (A : List T3) (t : Say) : Nat := maskF s (keepB A t)
theorem w_kept {s : Nat} {A : List T3} (wok : WOk s A) {t : Say} (ok : t.Ok) (hd : t.deep ≤ 12) (hs : s ≤ 12) (h12 : ∀ L, IsL t L → s * L.length ≤ 12) {n : Nat} {post : Nat → Val → Prop} (q : post n (.dat (.int ((kM s A t : Nat) : Int)))) : m__law_kept [.dat (dWeb s A), .dat (dSay t)] n post := by
  unfold m__law_kept
  refine ⟨rfl, gIx_of rfl (atI_nat (j := 0) rfl) (w_bit (by omega) (gI0_of (whole_eq s) (gIx_of rfl (atI_nat (j := 0) rfl) ?_)))⟩
  refine w_letters 12 t ok hd _ _ fun L hL => w_markings hs (hL.lt8 ok) (h12 L hL) fun M hM => ?_
  refine forW_at (fun j env => ∃ y : Option Val, env = [some (Val.dat (dWeb s A)), some (Val.dat (dSay t)), some (Val.dat (.int ((maskF s (fun x => ((allM s M L).take j).all fun m => holdV A (vOf m) no0 t x) : Nat) : Int))), y]) ((allM s M L).map dMs) ⟨none, rfl⟩ (fun j x hx env hI k hk => ?_) (fun env hI => ?_)
  · obtain ⟨y, rfl⟩ := hI
    rw [List.getElem?_map] at hx
    obtain ⟨m, hm, rfl⟩ := Option.map_eq_some_iff.mp hx
    refine w_holds wok (bOk (allM_form L m (List.mem_of_getElem? hm)).2) 12 t ok hd _ _ (gBit_e rfl rfl (mask_and s _ _) ?_)
    have e : (fun x : Int => (((allM s M L).take j).all fun m => holdV A (vOf m) no0 t x) && holdV A (vOf m) no0 t x) = fun x => ((allM s M L).take (j + 1)).all fun m => holdV A (vOf m) no0 t x := funext fun x => by
      rw [List.take_add_one, hm, List.all_append]
      show _ = (_ && ([m].all fun m => holdV A (vOf m) no0 t x))
      rw [List.all_cons, List.all_nil, Bool.and_true]
    rw [e]
    exact hk _ ⟨_, rfl⟩
  · obtain ⟨y, rfl⟩ := hI
    rw [List.length_map, List.take_length]
    have e : maskF s (fun x => (allM s M L).all fun m => holdV A (vOf m) no0 t x) = kM s A t := bits_ext fun i => by
      rw [bits_test]
      by_cases hi : i < s
      · rw [decide_eq_true hi, Bool.true_and, Bool.true_and]
        exact keep_all wok hL hM hi
      · rw [decide_eq_false hi, Bool.false_and, Bool.false_and]
    rw [e]
    exact q
end K0

/-! M6: what is drawn. -/
namespace K0
open PySem PySem.Spec PyProof.Rows L2 W0 W1 W2 W5 W6 V0 V1 V6
theorem w_way {n : Nat} (hn : n ≤ 99000) {post : Nat → Val → Prop} (q : ∀ n' (w : Int), n' ≤ n + 2 → -2 ≤ w → w ≤ 1 → post n' (.dat (.int w))) : m__law_way [.st, .dat (.int 2), .dat (.bool true)] n post := by
  unfold m__law_way
  refine ⟨rfl, by decide, by decide, by omega, fun i i0 i1 => ?_⟩
  refine ⟨by decide, by decide, by omega, fun j j0 j1 => ?_⟩
  by_cases e : j = 0
  · refine gEq_i (b := true) (by rw [decide_eq_true e]; rfl) (gI0_of rfl ?_)
    exact q _ _ (by omega) (by omega) (by omega)
  · refine gEq_i (b := false) (by rw [decide_eq_false e]; rfl) ?_
    exact q _ _ (by omega) (by omega) (by omega)
/-- a drawn saying -/
structure SayF (few deep : Nat) (t : Say) : Prop where
  ok : t.Ok
  deep : t.deep ≤ deep
  few : ∀ i, Say.lt i ∈ t.words → i < few
theorem SayF.leaf {few deep : Nat} (h : 1 ≤ deep) {t : Say} (ht : t = .yes ∨ t = .no) : SayF few deep t := by
  rcases ht with rfl | rfl
  · exact ⟨trivial, h, fun i m => nomatch (List.mem_singleton.mp m)⟩
  · exact ⟨trivial, h, fun i m => nomatch (List.mem_singleton.mp m)⟩
theorem SayF.nt {few deep : Nat} {a : Say} (h : SayF few deep a) : SayF few (deep + 1) (.nt a) := ⟨h.ok, Nat.succ_le_succ h.deep, fun i m => h.few i ((List.mem_cons.mp m).elim (fun e => by cases e) id)⟩
theorem SayF.ea {few deep : Nat} {a : Say} {w : Int} (h : SayF few deep a) (h0 : -2 ≤ w) (h1 : w ≤ 1) : SayF few (deep + 1) (.ea w a) := ⟨⟨⟨by omega, by omega⟩, h.ok⟩, Nat.succ_le_succ h.deep, fun i m => h.few i ((List.mem_cons.mp m).elim (fun e => by cases e) id)⟩
theorem SayF.so {few deep : Nat} {a : Say} {w : Int} (h : SayF few deep a) (h0 : -2 ≤ w) (h1 : w ≤ 1) : SayF few (deep + 1) (.so w a) := ⟨⟨⟨by omega, by omega⟩, h.ok⟩, Nat.succ_le_succ h.deep, fun i m => h.few i ((List.mem_cons.mp m).elim (fun e => by cases e) id)⟩
theorem SayF.an {few deep : Nat} {a b : Say} (h : SayF few deep a) (k : SayF few deep b) : SayF few (deep + 1) (.an a b) := ⟨⟨h.ok, k.ok⟩, Nat.succ_le_succ (Nat.max_le.mpr ⟨h.deep, k.deep⟩), fun i m => (List.mem_cons.mp m).elim (fun e => by cases e) fun m => (List.mem_append.mp m).elim (h.few i) (k.few i)⟩
theorem SayF.orr {few deep : Nat} {a b : Say} (h : SayF few deep a) (k : SayF few deep b) : SayF few (deep + 1) (.orr a b) := ⟨⟨h.ok, k.ok⟩, Nat.succ_le_succ (Nat.max_le.mpr ⟨h.deep, k.deep⟩), fun i m => (List.mem_cons.mp m).elim (fun e => by cases e) fun m => (List.mem_append.mp m).elim (h.few i) (k.few i)⟩
theorem SayF.gv {few deep : Nat} {a b : Say} (h : SayF few deep a) (k : SayF few deep b) : SayF few (deep + 1) (.gv a b) := ⟨⟨h.ok, k.ok⟩, Nat.succ_le_succ (Nat.max_le.mpr ⟨h.deep, k.deep⟩), fun i m => (List.mem_cons.mp m).elim (fun e => by cases e) fun m => (List.mem_append.mp m).elim (h.few i) (k.few i)⟩
theorem SayF.mono {few deep few' deep' : Nat} {a : Say} (h : SayF few deep a) (h1 : few ≤ few') (h2 : deep ≤ deep') : SayF few' deep' a := ⟨h.ok, Nat.le_trans h.deep h2, fun i m => Nat.lt_of_lt_of_le (h.few i m) h1⟩
set_option maxHeartbeats 2000000 in
theorem w_saying {few : Nat} (f0 : 1 ≤ few) (f8 : few ≤ 8) : ∀ (d deep : Nat), 1 ≤ deep → deep ≤ d → deep ≤ 8 → ∀ (n : Nat) (post : Nat → Val → Prop), n + 2 ^ (deep + 1) ≤ 95000 → (∀ n' t, n' + 2 ≤ n + 2 ^ (deep + 1) → SayF few deep t → post n' (.dat (dSay t))) → m__law_saying d [.st, .dat (.int (deep : Int)), .dat (.int (few : Int)), .dat (.int 2), .dat (.bool true)] n post
  | 0, deep, h1, h2, _, _, _, _, _ => by omega
  | d + 1, deep, h1, h2, h8, n, post, hn, q => by
    have ih := w_saying f0 f8 d
    show ms__law_saying (m__law_saying d) _ n post
    unfold ms__law_saying
    have leaf : ∀ (n : Nat), n ≤ 95000 → n + 1 ≤ n + 1 → True := fun _ _ _ => trivial
    obtain ⟨e, rfl⟩ : ∃ e, deep = e + 1 := ⟨deep - 1, by omega⟩
    have p1 : 2 ^ (e + 1 + 1) = 2 ^ (e + 1) + 2 ^ (e + 1) := by rw [Nat.pow_succ 2 (e + 1)]; omega
    have p2 : 2 ≤ 2 ^ (e + 1) := by rw [Nat.pow_succ]; have := Nat.one_le_two_pow (n := e); omega
    have p3 : 2 ^ (e + 1) ≤ 2 ^ 8 := Nat.pow_le_pow_right (by decide) h8
    have p4 : (2 : Nat) ^ 8 = 256 := rfl
    have edeep : (((e + 1 : Nat) : Int)) - 1 = (e : Int) := by omega
    have small : ∀ (p : Int), 0 ≤ p → p < 3 → ∀ k : Nat → Val → Prop, True := fun _ _ _ _ => trivial
    have lt3 : ∀ (i : Int), 0 ≤ i → i < (few : Int) → post (n + 1 + 1) (.dat (.tuple [.str "letter", .int i])) := fun i i0 i1 => by
      obtain ⟨k, rfl⟩ : ∃ k : Nat, i = k := ⟨i.toNat, (Int.toNat_of_nonneg i0).symm⟩
      have hk : k < few := by omega
      exact q _ (.lt k) (by omega) ⟨by show k < 8; omega, by show 1 ≤ e + 1; omega, fun j m => by have := List.mem_singleton.mp m; injection this with this; omega⟩
    refine ⟨rfl, ?_⟩
    by_cases big : 1 < e + 1
    · refine gIB_of (b := true) (decide_eq_true (by omega)) ⟨by decide, by decide, by omega, fun p q0 q1 => ?_⟩
      by_cases a2 : p < 2
      · refine gIB_of (b := true) (decide_eq_true a2) ⟨by omega, by omega, by omega, fun i i0 i1 => lt3 i i0 i1⟩
      refine gIB_of (b := false) (decide_eq_false a2) ?_
      by_cases a3 : p = 2
      · refine gEq_i (b := true) (by rw [decide_eq_true a3]; rfl) ⟨by decide, by decide, by omega, fun i i0 i1 => ?_⟩
        rcases (show i = 0 ∨ i = 1 by omega) with rfl | rfl
        · exact gIx_of rfl (atI_nat (j := 0) rfl) (q _ .yes (by omega) (SayF.leaf (by omega) (.inl rfl)))
        · exact gIx_of rfl (atI_nat (j := 1) rfl) (q _ .no (by omega) (SayF.leaf (by omega) (.inr rfl)))
      refine gEq_i (b := false) (by rw [decide_eq_false a3]; rfl) ?_
      by_cases a4 : p = 3
      · refine gEq_i (b := true) (by rw [decide_eq_true a4]; rfl) (gI0_of edeep ?_)
        exact ih e (by omega) (by omega) (by omega) _ _ (by omega) fun n' t hn' ht => q n' (.nt t) (by omega) ht.nt
      refine gEq_i (b := false) (by rw [decide_eq_false a4]; rfl) ?_
      by_cases a5 : p < 6
      · refine gIB_of (b := true) (decide_eq_true a5) ⟨by decide, by decide, by omega, fun i i0 i1 => ?_⟩
        rcases (show i = 0 ∨ i = 1 ∨ i = 2 by omega) with rfl | rfl | rfl
        · refine gIx_of rfl (atI_nat (j := 0) rfl) (gI0_of edeep (ih e (by omega) (by omega) (by omega) _ _ (by omega) fun n1 a hn1 ha => gI0_of edeep (ih e (by omega) (by omega) (by omega) _ _ (by omega) fun n2 b hn2 hb => ?_)))
          exact q n2 (.an a b) (by omega) (ha.an hb)
        · refine gIx_of rfl (atI_nat (j := 1) rfl) (gI0_of edeep (ih e (by omega) (by omega) (by omega) _ _ (by omega) fun n1 a hn1 ha => gI0_of edeep (ih e (by omega) (by omega) (by omega) _ _ (by omega) fun n2 b hn2 hb => ?_)))
          exact q n2 (.orr a b) (by omega) (ha.orr hb)
        · refine gIx_of rfl (atI_nat (j := 2) rfl) (gI0_of edeep (ih e (by omega) (by omega) (by omega) _ _ (by omega) fun n1 a hn1 ha => gI0_of edeep (ih e (by omega) (by omega) (by omega) _ _ (by omega) fun n2 b hn2 hb => ?_)))
          exact q n2 (.gv a b) (by omega) (ha.gv hb)
      refine gIB_of (b := false) (decide_eq_false a5) ⟨by decide, by decide, by omega, fun i i0 i1 => ?_⟩
      have p5 : 4 ≤ 2 ^ (e + 1) := by
        have : (2 : Nat) ^ 2 ≤ 2 ^ (e + 1) := Nat.pow_le_pow_right (by decide) (by omega)
        exact this
      rcases (show i = 0 ∨ i = 1 by omega) with rfl | rfl
      · refine gIx_of rfl (atI_nat (j := 0) rfl) (w_way (by omega) fun n1 w hn1 w0 w1 => gI0_of edeep (ih e (by omega) (by omega) (by omega) _ _ (by omega) fun n2 a hn2 ha => ?_))
        exact q n2 (.ea w a) (by omega) (ha.ea w0 w1)
      · refine gIx_of rfl (atI_nat (j := 1) rfl) (w_way (by omega) fun n1 w hn1 w0 w1 => gI0_of edeep (ih e (by omega) (by omega) (by omega) _ _ (by omega) fun n2 a hn2 ha => ?_))
        exact q n2 (.so w a) (by omega) (ha.so w0 w1)
    · refine gIB_of (b := false) (decide_eq_false (by omega)) ⟨by decide, by decide, by omega, fun p q0 q1 => ?_⟩
      by_cases a2 : p < 2
      · refine gIB_of (b := true) (decide_eq_true a2) ⟨by omega, by omega, by omega, fun i i0 i1 => lt3 i i0 i1⟩
      refine gIB_of (b := false) (decide_eq_false a2) ?_
      refine gEq_i (b := true) (by rw [decide_eq_true (by omega : p = 2)]; rfl) ⟨by decide, by decide, by omega, fun i i0 i1 => ?_⟩
      rcases (show i = 0 ∨ i = 1 by omega) with rfl | rfl
      · exact gIx_of rfl (atI_nat (j := 0) rfl) (q _ .yes (by omega) (SayF.leaf (by omega) (.inl rfl)))
      · exact gIx_of rfl (atI_nat (j := 1) rfl) (q _ .no (by omega) (SayF.leaf (by omega) (.inr rfl)))
/-- a drawn scene -/
structure SceneF (s : Nat) (A : List T3) (t : Say) (few : Nat) : Prop where
  web : WOk s A
  say : SayF few 4 t
  most : s * few ≤ 6
  four : s ≤ 4 ∧ few ≤ 4
  both : s ≤ 2 → s * max few 2 ≤ 6
/-- other letters in a saying -/
def lren (f : Nat → Nat) : Say → Say
  | .lt i => .lt (f i)
  | .hr j => .hr j
  | .yes => .yes
  | .no => .no
  | .nt a => .nt (lren f a)
  | .an a b => .an (lren f a) (lren f b)
  | .orr a b => .orr (lren f a) (lren f b)
  | .gv a b => .gv (lren f a) (lren f b)
  | .ea w a => .ea w (lren f a)
  | .so w a => .so w (lren f a)
set_option maxHeartbeats 2000000 in
theorem w_moved {N : List Nat} : ∀ (d : Nat) (t : Say), t.Ok → (∀ i, Say.lt i ∈ t.words → i < N.length) → t.deep ≤ d → ∀ (n : Nat) (post : Nat → Val → Prop), post n (.dat (dSay (lren (fun i => (N[i]?).getD 0) t))) → m__law_moved d [.dat (dSay t), .dat (.tuple (N.map fun (m : Nat) => PyData.int (m : Int)))] n post
  | 0, t, _, _, hd, _, _, _ => by have := Say.deep_pos t; omega
  | d + 1, t, ok, hN, hd, n, post, q => by
    have ih := w_moved (N := N) d
    show ms__law_moved (m__law_moved d) _ n post
    unfold ms__law_moved
    cases t with
    | hr j => exact ok.elim
    | lt i =>
      have hi : i < N.length := hN i (List.mem_singleton.mpr rfl)
      refine ⟨rfl, gIx_of rfl (atI_nat (j := 0) rfl) (gEq_s (b := true) (by decide +kernel) (gIx_of rfl (atI_nat (j := 1) rfl) (gIx_of rfl (atI_nat (j := i) (by rw [List.getElem?_map, List.getElem?_eq_getElem hi]; rfl)) ?_)))⟩
      have q : post n (.dat (.tuple [.str "letter", .int (((N[i]?).getD 0 : Nat) : Int)])) := q
      rw [List.getElem?_eq_getElem hi] at q
      exact q
    | yes =>
      refine ⟨rfl, gIx_of rfl (atI_nat (j := 0) rfl) (gEq_s (b := false) (by decide +kernel) (isTup_str rfl ⟨Nat.zero_le _, ?_⟩))⟩
      exact q
    | no =>
      refine ⟨rfl, gIx_of rfl (atI_nat (j := 0) rfl) (gEq_s (b := false) (by decide +kernel) (isTup_str rfl ⟨Nat.zero_le _, ?_⟩))⟩
      exact q
    | nt a =>
      have hd : a.deep + 1 ≤ d + 1 := hd
      refine ⟨rfl, gIx_of rfl (atI_nat (j := 0) rfl) (gEq_s (b := false) (by decide +kernel) (isTup_str rfl ⟨Nat.zero_le _, isTup_say rfl (ih a ok (fun i m => hN i (List.mem_cons_of_mem _ m)) (by omega) _ _ ⟨by first | decide | (show 1 ≤ 1000000; decide) | (show 2 ≤ 1000000; decide), ?_⟩)⟩))⟩
      exact q
    | ea w a =>
      have hd : a.deep + 1 ≤ d + 1 := hd
      refine ⟨rfl, gIx_of rfl (atI_nat (j := 0) rfl) (gEq_s (b := false) (by decide +kernel) (isTup_str rfl ⟨Nat.zero_le _, isTup_int rfl ⟨by first | decide | (show 1 ≤ 1000000; decide) | (show 2 ≤ 1000000; decide), isTup_say rfl (ih a ok.2 (fun i m => hN i (List.mem_cons_of_mem _ m)) (by omega) _ _ ⟨by first | decide | (show 1 ≤ 1000000; decide) | (show 2 ≤ 1000000; decide), ?_⟩)⟩⟩))⟩
      exact q
    | so w a =>
      have hd : a.deep + 1 ≤ d + 1 := hd
      refine ⟨rfl, gIx_of rfl (atI_nat (j := 0) rfl) (gEq_s (b := false) (by decide +kernel) (isTup_str rfl ⟨Nat.zero_le _, isTup_int rfl ⟨by first | decide | (show 1 ≤ 1000000; decide) | (show 2 ≤ 1000000; decide), isTup_say rfl (ih a ok.2 (fun i m => hN i (List.mem_cons_of_mem _ m)) (by omega) _ _ ⟨by first | decide | (show 1 ≤ 1000000; decide) | (show 2 ≤ 1000000; decide), ?_⟩)⟩⟩))⟩
      exact q
    | an a b =>
      have hd : max a.deep b.deep + 1 ≤ d + 1 := hd
      refine ⟨rfl, gIx_of rfl (atI_nat (j := 0) rfl) (gEq_s (b := false) (by decide +kernel) (isTup_str rfl ⟨Nat.zero_le _, isTup_say rfl (ih a ok.1 (fun i m => hN i (List.mem_cons_of_mem _ (List.mem_append_left _ m))) (by omega) _ _ ⟨by first | decide | (show 1 ≤ 1000000; decide) | (show 2 ≤ 1000000; decide), isTup_say rfl (ih b ok.2 (fun i m => hN i (List.mem_cons_of_mem _ (List.mem_append_right _ m))) (by omega) _ _ ⟨by first | decide | (show 1 ≤ 1000000; decide) | (show 2 ≤ 1000000; decide), ?_⟩)⟩)⟩))⟩
      exact q
    | orr a b =>
      have hd : max a.deep b.deep + 1 ≤ d + 1 := hd
      refine ⟨rfl, gIx_of rfl (atI_nat (j := 0) rfl) (gEq_s (b := false) (by decide +kernel) (isTup_str rfl ⟨Nat.zero_le _, isTup_say rfl (ih a ok.1 (fun i m => hN i (List.mem_cons_of_mem _ (List.mem_append_left _ m))) (by omega) _ _ ⟨by first | decide | (show 1 ≤ 1000000; decide) | (show 2 ≤ 1000000; decide), isTup_say rfl (ih b ok.2 (fun i m => hN i (List.mem_cons_of_mem _ (List.mem_append_right _ m))) (by omega) _ _ ⟨by first | decide | (show 1 ≤ 1000000; decide) | (show 2 ≤ 1000000; decide), ?_⟩)⟩)⟩))⟩
      exact q
    | gv a b =>
      have hd : max a.deep b.deep + 1 ≤ d + 1 := hd
      refine ⟨rfl, gIx_of rfl (atI_nat (j := 0) rfl) (gEq_s (b := false) (by decide +kernel) (isTup_str rfl ⟨Nat.zero_le _, isTup_say rfl (ih a ok.1 (fun i m => hN i (List.mem_cons_of_mem _ (List.mem_append_left _ m))) (by omega) _ _ ⟨by first | decide | (show 1 ≤ 1000000; decide) | (show 2 ≤ 1000000; decide), isTup_say rfl (ih b ok.2 (fun i m => hN i (List.mem_cons_of_mem _ (List.mem_append_right _ m))) (by omega) _ _ ⟨by first | decide | (show 1 ≤ 1000000; decide) | (show 2 ≤ 1000000; decide), ?_⟩)⟩)⟩))⟩
      exact q
theorem enumD_inv : ∀ {ds : List PyData} {k j : Nat} {x : PyData}, (enumD k ds)[j]? = some x → ∃ d, ds[j]? = some d ∧ x = .tuple [.int ((k + j : Nat) : Int), d]
  | [], _, _, _, h => by cases h
  | d :: ds, k, 0, x, h => ⟨d, rfl, (Option.some.inj h).symm⟩
  | d :: ds, k, j + 1, x, h => by
    obtain ⟨e, h1, h2⟩ := enumD_inv (ds := ds) (k := k + 1) (j := j) h
    exact ⟨e, h1, by rw [h2, show k + 1 + j = k + (j + 1) by omega]⟩
end K0

/-! T2: a trial, tried, is_kept. -/
namespace K0
open PySem PySem.Spec PyProof.Rows L2 W0 W1 W2 W5 W6 V0 V1 V6
def trial2 (n : Int) (q : Addr) : List (Str × V) := [(("size" : Str), V.int n), (("letters" : Str), V.ref q)]
theorem trial2_n01 : ¬ (("size" : Str) = "letters") := by decide +kernel
theorem trial2_new (n : Int) (q : Addr) : putF "letters" (V.ref q) (putF "size" (V.int n) []) = trial2 n q := by
  have e0 : putF "size" (V.int n) [] = [(("size" : Str), V.int n)] := rfl
  have e1 : putF "letters" (V.ref q) [(("size" : Str), V.int n)] = [(("size" : Str), V.int n), (("letters" : Str), V.ref q)] := by
    show (if ("size" : Str) = "letters" then _ else (("size" : Str), V.int n) :: putF "letters" (V.ref q) []) = _
    rw [if_neg trial2_n01]
    rfl
  rw [e0, e1]
  rfl
theorem trial2_size (n : Int) (q : Addr) : (trial2 n q).lookup ("size" : Str) = some (V.int n) := by
  rw [← trial2_new, lookup_putF, if_neg trial2_n01, lookup_putF, if_pos rfl]
theorem trial2_letters (n : Int) (q : Addr) : (trial2 n q).lookup ("letters" : Str) = some (V.ref q) := by
  rw [← trial2_new, lookup_putF, if_pos rfl]
theorem trial2_no (n : Int) (q : Addr) {m : Str} (h0 : ¬ m = ("size" : Str)) (h1 : ¬ m = ("letters" : Str)) : (trial2 n q).lookup m = none := by
  rw [← trial2_new, lookup_putF, if_neg h1, lookup_putF, if_neg h0]
  rfl

def trial3 (n : Int) (q : Addr) (b : Int) : List (Str × V) := [(("size" : Str), V.int n), (("letters" : Str), V.ref q), (("bits" : Str), V.int b)]
theorem trial3_n01 : ¬ (("size" : Str) = "letters") := by decide +kernel
theorem trial3_n02 : ¬ (("size" : Str) = "bits") := by decide +kernel
theorem trial3_n12 : ¬ (("letters" : Str) = "bits") := by decide +kernel
theorem trial3_new (n : Int) (q : Addr) (b : Int) : putF "bits" (V.int b) (putF "letters" (V.ref q) (putF "size" (V.int n) [])) = trial3 n q b := by
  have e0 : putF "size" (V.int n) [] = [(("size" : Str), V.int n)] := rfl
  have e1 : putF "letters" (V.ref q) [(("size" : Str), V.int n)] = [(("size" : Str), V.int n), (("letters" : Str), V.ref q)] := by
    show (if ("size" : Str) = "letters" then _ else (("size" : Str), V.int n) :: putF "letters" (V.ref q) []) = _
    rw [if_neg trial3_n01]
    rfl
  have e2 : putF "bits" (V.int b) [(("size" : Str), V.int n), (("letters" : Str), V.ref q)] = [(("size" : Str), V.int n), (("letters" : Str), V.ref q), (("bits" : Str), V.int b)] := by
    show (if ("size" : Str) = "bits" then _ else (("size" : Str), V.int n) :: (if ("letters" : Str) = "bits" then _ else (("letters" : Str), V.ref q) :: putF "bits" (V.int b) [])) = _
    rw [if_neg trial3_n02, if_neg trial3_n12]
    rfl
  rw [e0, e1, e2]
  rfl
theorem trial3_size (n : Int) (q : Addr) (b : Int) : (trial3 n q b).lookup ("size" : Str) = some (V.int n) := by
  rw [← trial3_new, lookup_putF, if_neg trial3_n02, lookup_putF, if_neg trial3_n01, lookup_putF, if_pos rfl]
theorem trial3_letters (n : Int) (q : Addr) (b : Int) : (trial3 n q b).lookup ("letters" : Str) = some (V.ref q) := by
  rw [← trial3_new, lookup_putF, if_neg trial3_n12, lookup_putF, if_pos rfl]
theorem trial3_bits (n : Int) (q : Addr) (b : Int) : (trial3 n q b).lookup ("bits" : Str) = some (V.int b) := by
  rw [← trial3_new, lookup_putF, if_pos rfl]
theorem trial3_no (n : Int) (q : Addr) (b : Int) {m : Str} (h0 : ¬ m = ("size" : Str)) (h1 : ¬ m = ("letters" : Str)) (h2 : ¬ m = ("bits" : Str)) : (trial3 n q b).lookup m = none := by
  rw [← trial3_new, lookup_putF, if_neg h2, lookup_putF, if_neg h1, lookup_putF, if_neg h0]
  rfl

def trial4 (n : Int) (q : Addr) (b : Int) (f : Int) : List (Str × V) := [(("size" : Str), V.int n), (("letters" : Str), V.ref q), (("bits" : Str), V.int b), (("full" : Str), V.int f)]
theorem trial4_n01 : ¬ (("size" : Str) = "letters") := by decide +kernel
theorem trial4_n02 : ¬ (("size" : Str) = "bits") := by decide +kernel
theorem trial4_n03 : ¬ (("size" : Str) = "full") := by decide +kernel
theorem trial4_n12 : ¬ (("letters" : Str) = "bits") := by decide +kernel
theorem trial4_n13 : ¬ (("letters" : Str) = "full") := by decide +kernel
theorem trial4_n23 : ¬ (("bits" : Str) = "full") := by decide +kernel
theorem trial4_new (n : Int) (q : Addr) (b : Int) (f : Int) : putF "full" (V.int f) (putF "bits" (V.int b) (putF "letters" (V.ref q) (putF "size" (V.int n) []))) = trial4 n q b f := by
  have e0 : putF "size" (V.int n) [] = [(("size" : Str), V.int n)] := rfl
  have e1 : putF "letters" (V.ref q) [(("size" : Str), V.int n)] = [(("size" : Str), V.int n), (("letters" : Str), V.ref q)] := by
    show (if ("size" : Str) = "letters" then _ else (("size" : Str), V.int n) :: putF "letters" (V.ref q) []) = _
    rw [if_neg trial4_n01]
    rfl
  have e2 : putF "bits" (V.int b) [(("size" : Str), V.int n), (("letters" : Str), V.ref q)] = [(("size" : Str), V.int n), (("letters" : Str), V.ref q), (("bits" : Str), V.int b)] := by
    show (if ("size" : Str) = "bits" then _ else (("size" : Str), V.int n) :: (if ("letters" : Str) = "bits" then _ else (("letters" : Str), V.ref q) :: putF "bits" (V.int b) [])) = _
    rw [if_neg trial4_n02, if_neg trial4_n12]
    rfl
  have e3 : putF "full" (V.int f) [(("size" : Str), V.int n), (("letters" : Str), V.ref q), (("bits" : Str), V.int b)] = [(("size" : Str), V.int n), (("letters" : Str), V.ref q), (("bits" : Str), V.int b), (("full" : Str), V.int f)] := by
    show (if ("size" : Str) = "full" then _ else (("size" : Str), V.int n) :: (if ("letters" : Str) = "full" then _ else (("letters" : Str), V.ref q) :: (if ("bits" : Str) = "full" then _ else (("bits" : Str), V.int b) :: putF "full" (V.int f) []))) = _
    rw [if_neg trial4_n03, if_neg trial4_n13, if_neg trial4_n23]
    rfl
  rw [e0, e1, e2, e3]
  rfl
theorem trial4_size (n : Int) (q : Addr) (b : Int) (f : Int) : (trial4 n q b f).lookup ("size" : Str) = some (V.int n) := by
  rw [← trial4_new, lookup_putF, if_neg trial4_n03, lookup_putF, if_neg trial4_n02, lookup_putF, if_neg trial4_n01, lookup_putF, if_pos rfl]
theorem trial4_letters (n : Int) (q : Addr) (b : Int) (f : Int) : (trial4 n q b f).lookup ("letters" : Str) = some (V.ref q) := by
  rw [← trial4_new, lookup_putF, if_neg trial4_n13, lookup_putF, if_neg trial4_n12, lookup_putF, if_pos rfl]
theorem trial4_bits (n : Int) (q : Addr) (b : Int) (f : Int) : (trial4 n q b f).lookup ("bits" : Str) = some (V.int b) := by
  rw [← trial4_new, lookup_putF, if_neg trial4_n23, lookup_putF, if_pos rfl]
theorem trial4_full (n : Int) (q : Addr) (b : Int) (f : Int) : (trial4 n q b f).lookup ("full" : Str) = some (V.int f) := by
  rw [← trial4_new, lookup_putF, if_pos rfl]
theorem trial4_no (n : Int) (q : Addr) (b : Int) (f : Int) {m : Str} (h0 : ¬ m = ("size" : Str)) (h1 : ¬ m = ("letters" : Str)) (h2 : ¬ m = ("bits" : Str)) (h3 : ¬ m = ("full" : Str)) : (trial4 n q b f).lookup m = none := by
  rw [← trial4_new, lookup_putF, if_neg h3, lookup_putF, if_neg h2, lookup_putF, if_neg h1, lookup_putF, if_neg h0]
  rfl

def trial5 (n : Int) (q : Addr) (b : Int) (f : Int) (r : Addr) : List (Str × V) := [(("size" : Str), V.int n), (("letters" : Str), V.ref q), (("bits" : Str), V.int b), (("full" : Str), V.int f), (("found" : Str), V.ref r)]
theorem trial5_n01 : ¬ (("size" : Str) = "letters") := by decide +kernel
theorem trial5_n02 : ¬ (("size" : Str) = "bits") := by decide +kernel
theorem trial5_n03 : ¬ (("size" : Str) = "full") := by decide +kernel
theorem trial5_n04 : ¬ (("size" : Str) = "found") := by decide +kernel
theorem trial5_n12 : ¬ (("letters" : Str) = "bits") := by decide +kernel
theorem trial5_n13 : ¬ (("letters" : Str) = "full") := by decide +kernel
theorem trial5_n14 : ¬ (("letters" : Str) = "found") := by decide +kernel
theorem trial5_n23 : ¬ (("bits" : Str) = "full") := by decide +kernel
theorem trial5_n24 : ¬ (("bits" : Str) = "found") := by decide +kernel
theorem trial5_n34 : ¬ (("full" : Str) = "found") := by decide +kernel
theorem trial5_new (n : Int) (q : Addr) (b : Int) (f : Int) (r : Addr) : putF "found" (V.ref r) (putF "full" (V.int f) (putF "bits" (V.int b) (putF "letters" (V.ref q) (putF "size" (V.int n) [])))) = trial5 n q b f r := by
  have e0 : putF "size" (V.int n) [] = [(("size" : Str), V.int n)] := rfl
  have e1 : putF "letters" (V.ref q) [(("size" : Str), V.int n)] = [(("size" : Str), V.int n), (("letters" : Str), V.ref q)] := by
    show (if ("size" : Str) = "letters" then _ else (("size" : Str), V.int n) :: putF "letters" (V.ref q) []) = _
    rw [if_neg trial5_n01]
    rfl
  have e2 : putF "bits" (V.int b) [(("size" : Str), V.int n), (("letters" : Str), V.ref q)] = [(("size" : Str), V.int n), (("letters" : Str), V.ref q), (("bits" : Str), V.int b)] := by
    show (if ("size" : Str) = "bits" then _ else (("size" : Str), V.int n) :: (if ("letters" : Str) = "bits" then _ else (("letters" : Str), V.ref q) :: putF "bits" (V.int b) [])) = _
    rw [if_neg trial5_n02, if_neg trial5_n12]
    rfl
  have e3 : putF "full" (V.int f) [(("size" : Str), V.int n), (("letters" : Str), V.ref q), (("bits" : Str), V.int b)] = [(("size" : Str), V.int n), (("letters" : Str), V.ref q), (("bits" : Str), V.int b), (("full" : Str), V.int f)] := by
    show (if ("size" : Str) = "full" then _ else (("size" : Str), V.int n) :: (if ("letters" : Str) = "full" then _ else (("letters" : Str), V.ref q) :: (if ("bits" : Str) = "full" then _ else (("bits" : Str), V.int b) :: putF "full" (V.int f) []))) = _
    rw [if_neg trial5_n03, if_neg trial5_n13, if_neg trial5_n23]
    rfl
  have e4 : putF "found" (V.ref r) [(("size" : Str), V.int n), (("letters" : Str), V.ref q), (("bits" : Str), V.int b), (("full" : Str), V.int f)] = [(("size" : Str), V.int n), (("letters" : Str), V.ref q), (("bits" : Str), V.int b), (("full" : Str), V.int f), (("found" : Str), V.ref r)] := by
    show (if ("size" : Str) = "found" then _ else (("size" : Str), V.int n) :: (if ("letters" : Str) = "found" then _ else (("letters" : Str), V.ref q) :: (if ("bits" : Str) = "found" then _ else (("bits" : Str), V.int b) :: (if ("full" : Str) = "found" then _ else (("full" : Str), V.int f) :: putF "found" (V.ref r) [])))) = _
    rw [if_neg trial5_n04, if_neg trial5_n14, if_neg trial5_n24, if_neg trial5_n34]
    rfl
  rw [e0, e1, e2, e3, e4]
  rfl
theorem trial5_size (n : Int) (q : Addr) (b : Int) (f : Int) (r : Addr) : (trial5 n q b f r).lookup ("size" : Str) = some (V.int n) := by
  rw [← trial5_new, lookup_putF, if_neg trial5_n04, lookup_putF, if_neg trial5_n03, lookup_putF, if_neg trial5_n02, lookup_putF, if_neg trial5_n01, lookup_putF, if_pos rfl]
theorem trial5_letters (n : Int) (q : Addr) (b : Int) (f : Int) (r : Addr) : (trial5 n q b f r).lookup ("letters" : Str) = some (V.ref q) := by
  rw [← trial5_new, lookup_putF, if_neg trial5_n14, lookup_putF, if_neg trial5_n13, lookup_putF, if_neg trial5_n12, lookup_putF, if_pos rfl]
theorem trial5_bits (n : Int) (q : Addr) (b : Int) (f : Int) (r : Addr) : (trial5 n q b f r).lookup ("bits" : Str) = some (V.int b) := by
  rw [← trial5_new, lookup_putF, if_neg trial5_n24, lookup_putF, if_neg trial5_n23, lookup_putF, if_pos rfl]
theorem trial5_full (n : Int) (q : Addr) (b : Int) (f : Int) (r : Addr) : (trial5 n q b f r).lookup ("full" : Str) = some (V.int f) := by
  rw [← trial5_new, lookup_putF, if_neg trial5_n34, lookup_putF, if_pos rfl]
theorem trial5_found (n : Int) (q : Addr) (b : Int) (f : Int) (r : Addr) : (trial5 n q b f r).lookup ("found" : Str) = some (V.ref r) := by
  rw [← trial5_new, lookup_putF, if_pos rfl]
theorem trial5_no (n : Int) (q : Addr) (b : Int) (f : Int) (r : Addr) {m : Str} (h0 : ¬ m = ("size" : Str)) (h1 : ¬ m = ("letters" : Str)) (h2 : ¬ m = ("bits" : Str)) (h3 : ¬ m = ("full" : Str)) (h4 : ¬ m = ("found" : Str)) : (trial5 n q b f r).lookup m = none := by
  rw [← trial5_new, lookup_putF, if_neg h4, lookup_putF, if_neg h3, lookup_putF, if_neg h2, lookup_putF, if_neg h1, lookup_putF, if_neg h0]
  rfl

theorem trial_put3 (n : Int) (q : Addr) (b : Int) : putF "bits" (V.int b) (trial2 n q) = trial3 n q b := by rw [← trial2_new, trial3_new]
theorem trial_put4 (n : Int) (q : Addr) (b f : Int) : putF "full" (V.int f) (trial3 n q b) = trial4 n q b f := by rw [← trial3_new, trial4_new]
theorem trial_put5 (n : Int) (q : Addr) (b f : Int) (r : Addr) : putF "found" (V.ref r) (trial4 n q b f) = trial5 n q b f r := by rw [← trial4_new, trial5_new]
/-- the marks of a case -/
def vT (ms : List Int) (n : Nat) (c : Nat) : Nat → Int → Bool := fun k x => c.testBit (ms.idxOf (k : Int) * n + x.toNat)
theorem idx_at : ∀ {ms : List Int} {i : Nat} {k : Int}, ms[i]? = some k → (∀ m, m < i → ms[m]? ≠ some k) → ms.idxOf k = i
  | [], _, _, h, _ => by cases h
  | a :: l, 0, k, h, _ => by
    obtain rfl := Option.some.inj h
    exact List.idxOf_cons_self
  | a :: l, i + 1, k, h, hn => by
    have na : a ≠ k := fun e => hn 0 (Nat.succ_pos _) (by rw [e]; rfl)
    rw [List.idxOf_cons, beq_eq_false_iff_ne.mpr na, cond_false, idx_at (ms := l) (i := i) h fun m hm => hn (m + 1) (Nat.succ_lt_succ hm)]
theorem asc_no {ms : List Int} (asc : ms.Pairwise (· < ·)) {i : Nat} {k : Int} (h : ms[i]? = some k) : ∀ m, m < i → ms[m]? ≠ some k := fun m hm e => by
  obtain ⟨h1, h2⟩ := List.getElem?_eq_some_iff.mp h
  obtain ⟨g1, g2⟩ := List.getElem?_eq_some_iff.mp e
  have := (List.pairwise_iff_getElem.mp asc) m i g1 h1 hm
  omega
theorem isL_of {s : Say} {ms : List Int} (asc : ms.Pairwise (· < ·)) (mem : ∀ k, k ∈ ms ↔ k ∈ s.letters) : IsL s (ms.map Int.toNat) := by
  have nn : ∀ k ∈ ms, 0 ≤ k := fun k hk => by
    obtain ⟨i, _, rfl⟩ := mem_letters.mp ((mem k).mp hk)
    omega
  refine ⟨?_, fun i => ?_⟩
  · rw [List.pairwise_map]
    refine asc.imp_of_mem fun {a b} ha hb h => ?_
    have := nn a ha
    have := nn b hb
    omega
  · rw [List.mem_map]
    constructor
    · rintro ⟨k, hk, rfl⟩
      obtain ⟨j, hj, rfl⟩ := mem_letters.mp ((mem k).mp hk)
      exact hj
    · intro h
      exact ⟨(i : Int), (mem _).mpr (mem_letters.mpr ⟨i, h, rfl⟩), rfl⟩
/-- all cases tell who keeps the saying -/
theorem keep_cases {n : Nat} {A : List T3} (wok : WOk n A) {s : Say} {ms : List Int} (asc : ms.Pairwise (· < ·)) (mem : ∀ k, k ∈ ms ↔ k ∈ s.letters) {b : Nat} (hb : b = ms.length * n) {x : Nat} (hx : x < n) :
    decide (((ansB (2 ^ b) fun c => holdV A (vT ms n c) no0 s) x) = bitsN (2 ^ b) fun _ => true) = keepB A s x := by
  rw [Bool.eq_iff_iff, keepB_iff, decide_eq_true_iff]
  constructor
  · intro h v
    have n1 : 0 < n := by omega
    let c := bitsN b fun j => v ((ms[j / n]?).getD 0).toNat (j % n : Nat)
    have hc : c < 2 ^ b := bitsN_lt _ _
    have t := congrArg (fun m : Nat => m.testBit c) h
    have t : (bitsN (2 ^ b) fun c => holdV A (vT ms n c) no0 s x).testBit c = (bitsN (2 ^ b) fun _ => true).testBit c := t
    rw [bits_test, bits_test, decide_eq_true hc, Bool.true_and, Bool.true_and] at t
    rw [← t]
    refine hold_agree wok s (fun i hi y y0 y1 => ?_) x (by omega) (by omega)
    have hk : (i : Int) ∈ ms := (mem _).mpr (mem_letters.mpr ⟨i, hi, rfl⟩)
    obtain ⟨j, hj1, hj2⟩ := List.getElem_of_mem hk
    have hj : ms[j]? = some (i : Int) := by rw [List.getElem?_eq_getElem hj1, hj2]
    obtain ⟨z, rfl⟩ : ∃ z : Nat, y = z := ⟨y.toNat, (Int.toNat_of_nonneg y0).symm⟩
    have zn : z < n := by omega
    show _ = c.testBit (ms.idxOf (i : Int) * n + z)
    rw [idx_at hj (asc_no asc hj)]
    show _ = (bitsN b _).testBit _
    have lt : j * n + z < b := by
      rw [hb]
      have := Nat.mul_le_mul_right n (show j + 1 ≤ ms.length from hj1)
      rw [Nat.add_mul, Nat.one_mul] at this
      omega
    rw [bits_test, decide_eq_true lt, Bool.true_and]
    have d1 : (j * n + z) / n = j := by
      rw [Nat.mul_comm, Nat.mul_add_div n1, Nat.div_eq_of_lt zn, Nat.add_zero]
    have d2 : (j * n + z) % n = z := by
      rw [Nat.mul_comm, Nat.mul_add_mod, Nat.mod_eq_of_lt zn]
    rw [d1, d2, hj]
    rfl
  · intro h
    exact congrArg (bitsN (2 ^ b)) (funext fun c => h _)
theorem web_ins {K : PySem.W.Frag} {H : Hp} {p C dx : Addr} {fs : List (Str × V)} {u : HO} (h : H p = some (.ins C dx fs)) {v : V} {n : Int} {A : List T3} (q : Dp K H v (dWeb n A)) : Dp K (upd H p u) v (dWeb n A) := dp_mv (fun _ _ z => sqT_ins h z) _ _ (noL_web n A) q
theorem ansN_atI {n j : Nat} (g : Int → Nat) (hj : j < n) : (ansN n g)[j]? = some ((g j : Nat) : Int) := by
  rw [List.getElem?_eq_getElem (by rw [ansN_len]; exact hj)]
  simp [ansN]
section
variable {P : Program} {w : World} {K : PySem.W.Frag} {mg : Str → Option Value} {base : Heap}
def sp_Trial_init (K : PySem.W.Frag) (C : Addr) : Sp := fun vs H Q _ => ∃ (p dx : Addr) (v z : V) (n : Nat) (A : List T3) (s : Say), vs = [.ref p, v, z] ∧ H p = some (.ins C dx []) ∧ Dp K H v (dWeb n A) ∧ WOk n A ∧ Dp K H z (dSay s) ∧ s.Ok ∧ s.deep ≤ 40 ∧ s.words.length ≤ 400 ∧ (∀ L, IsL s L → n * L.length ≤ 12) ∧
  ∀ H' (q r : Addr) (b : Int) (F : Nat) (g : Int → Nat), ButP p H H' → H' p = some (.ins C dx (trial5 n q b F r)) → H' r = some (.lst ((ansN n g).map V.int)) → (∀ x : Nat, x < n → decide (g x = F) = keepB A s x) → Q .non H'
set_option maxHeartbeats 4000000 in
theorem ok_Trial___init__ (T : Tops K w mg) : FnOk P w K mg base CX0 43 T.a_Trial___init__ T.fd_Trial___init__ p_Trial___init__ (sp_Trial_init K T.C_Trial) := by
  have S := sc_Trial___init__
  refine T.F_Trial___init__.ok S (fun vs H Q E h => ?_) (fun cdv AA outer s0 H vs Q E hr h => ?_)
  · obtain ⟨p, dx, v, z, n, A, s, rfl, _⟩ := h
    rfl
  · obtain ⟨p, dx, v, z, n, A, s, rfl, hp, hd, wok, hz, ok, hdeep, hw, h12, q⟩ := h
    refine ⟨_, (pss_cons (ps_fld (pv 0) (pe_ix (ix_tupK (K := K)) (pv 1) pe_int (fun _ _ => rfl)) rfl)
      (pss_cons (ps_fld (pv 0) (pe_call (ok_letters_in T) (hr.mono (by first | decide | omega)) (by rfl) T.g_letters_in T.F_letters_in.kp T.b_letters_in .nil pass0 (pa_cons (pv 2) pa_nil)) rfl)
      (pss_cons (ps_fld (pv 0) (pe_op op_mul (pe_callB call_len_seq (by rfl) T.m_len (by decide +kernel) (pa_cons (V6.pe_fldK (K := K) (pv 0) rfl) pa_nil)) (V6.pe_fldK (K := K) (pv 0) rfl)) rfl)
      (pss_cons (ps_if (pt_cmpR op_gt (V6.pe_fldK (K := K) (pv 0) rfl) (pe_glob (v := .int (12)) (by rfl) T.c_MOST_MARKS ⟨_, rfl⟩) (nomark _)) (pss_one ps_never) pss_nil)
      (pss_cons (ps_fld (pv 0) (pe_op op_sub (pe_op op_oneShl pe_int (pe_op op_oneShl pe_int (V6.pe_fldK (K := K) (pv 0) rfl))) pe_int) rfl)
      (pss_cons (ps_set (i := 3) S.nd rfl (Or.inl rfl) (pe_op op_rep (pe_lst (pa_cons (pe_lst pa_nil) pa_nil)) (pe_glob (v := .int (8)) (by rfl) T.c_LETTERS ⟨_, rfl⟩)))
      (pss_cons (ps_for PassesOwn.never rfl (pi_tup (V6.pe_fldK (K := K) (pv 0) rfl)) (pg_name (i := 4) S.nd rfl (Or.inr rfl)) (pss_one (ps_asg (pe_lc (own := [("world", 5)]) rfl S.nd (pi_range1 (by rfl) T.m_range (pa_cons (V6.pe_fldK (K := K) (pv 0) rfl) pa_nil)) (blkOk_by (N := n_Trial___init__) (sc := defScope s_Trial___init__) (by decide +kernel)) (fun _ _ _ _ _ => (pg_name (i := 5) S.nd rfl (Or.inl rfl))) (fun _ _ _ _ _ => pts_nil) (fun _ _ _ _ _ => (pe_meth (pv 0) T.cl_Trial T.me_Trial__marked (ok_Trial__marked T) (hr.mono (by first | decide | omega)) T.b_Trial__marked .nil pass0 (pa_cons (pv 4) (pa_cons (pv 5) pa_nil))))) (pg_sub (pv 3) (pv 4) set_list))))
      (pss_one (ps_fld (pv 0) (pe_meth (pe_make T.mk_Cases (ok_Cases___init__ T) (hr.mono (by first | decide | omega)) (by rfl) T.c_Cases T.b_Cases___init__ .nil pass0 (pa_cons (pe_call (ok_leads_of T) (hr.mono (by first | decide | omega)) (by rfl) T.g_leads_of T.F_leads_of.kp T.b_leads_of .nil pass0 (pa_cons (pv 1) pa_nil)) (pa_cons (pv 3) (pa_cons (pe_lst pa_nil) (pa_cons (V6.pe_fldK (K := K) (pv 0) rfl) pa_nil))))) T.cl_Cases T.me_Cases_answers (ok_Cases_answers T 40) (hr.mono (by omega)) T.b_Cases_answers .nil pass0 (pa_cons (pv 2) pa_nil)) rfl))))))))), ?_⟩
    have n1 : 1 ≤ n := by have := wok.n1; omega
    have n2 : n ≤ 200 := by have := wok.n2; omega
    obtain ⟨wa, wb, ys, rfl, hs, _, _⟩ := dp_web hd
    refine ⟨.ref wa, rfl, wa, [.int n, .ref wb], 0, .int n, rfl, rfl, hs, atI_nat (j := 0) rfl, ?_⟩
    refine ⟨.ref p, rfl, p, T.C_Trial, dx, [], rfl, hp, T.cl_Trial, T.na_Trial_size, by decide, ?_⟩
    have hd1 := web_ins (u := .ins T.C_Trial dx (putF "size" (.int n) [])) hp hd
    have hz1 := say_ins (u := .ins T.C_Trial dx (putF "size" (.int n) [])) hp hz
    have b1 : ButP p H (upd H p (.ins T.C_Trial dx (putF "size" (.int n) []))) := (ButP.of (Same.refl H)).own
    have hp1 : upd H p (.ins T.C_Trial dx (putF "size" (.int n) [])) p = some (.ins T.C_Trial dx (putF "size" (.int n) [])) := upd_same
    generalize upd H p (.ins T.C_Trial dx (putF "size" (.int n) [])) = H1 at hd1 hz1 b1 hp1
    refine ⟨z, rfl, z, s, rfl, hz1, ok, hdeep, hw, fun H2 lq ms e2 hq ⟨ob, hob, ob1, ob2⟩ asc mem => ?_⟩
    have isl := isL_of asc mem
    have hbits : ms.length * n ≤ 12 := by
      have := h12 _ isl
      rw [List.length_map, Nat.mul_comm] at this
      exact this
    have l8 : ms.length ≤ 8 := by have := isl.few ok; rwa [List.length_map] at this
    have hp2 := e2 _ _ hp1
    refine ⟨.ref p, rfl, p, T.C_Trial, dx, _, rfl, hp2, T.cl_Trial, T.na_Trial_letters, by rw [show (putF "size" (V.int n) []).length = 1 from rfl]; decide, ?_⟩
    rw [trial2_new]
    have hd3 := web_ins (u := .ins T.C_Trial dx (trial2 n lq)) hp2 (dp_same e2 _ _ hd1)
    have hz3 := say_ins (u := .ins T.C_Trial dx (trial2 n lq)) hp2 (dp_same e2 _ _ hz1)
    have hq3 := sqT_ins (u := .ins T.C_Trial dx (trial2 n lq)) hp2 hq
    have b3 : ButP p H (upd H2 p (.ins T.C_Trial dx (trial2 n lq))) := (b1.trans (ButP.of e2)).own
    have nlq : lq ≠ p := fun z => by rw [z, hp2] at hob; cases hob
    have hob3 : upd H2 p (.ins T.C_Trial dx (trial2 n lq)) lq = some (.frz ob (.tup (ms.map V.int))) := (upd_ne nlq).trans hob
    have hp3 : upd H2 p (.ins T.C_Trial dx (trial2 n lq)) p = some (.ins T.C_Trial dx (trial2 n lq)) := upd_same
    generalize upd H2 p (.ins T.C_Trial dx (trial2 n lq)) = H3 at hd3 hz3 hq3 b3 hob3 hp3
    have eb : (((ms.map V.int).length : Nat) : Int) * n = ((ms.length * n : Nat) : Int) := by rw [List.length_map, Int.natCast_mul]
    refine ⟨.ref p, rfl, p, T.C_Trial, dx, trial2 n lq, _, rfl, hp3, T.cl_Trial, T.na_Trial_letters, trial2_letters _ _, lq, ms.map V.int, rfl, .inr hq3, .ref p, rfl, p, T.C_Trial, dx, trial2 n lq, _, rfl, hp3, T.cl_Trial, T.na_Trial_size, trial2_size _ _, ((ms.map V.int).length : Nat), n, rfl, rfl, ?_⟩
    dsimp only
    rw [eb]
    generalize hbe : ms.length * n = b at hbits eb
    refine ⟨?_, .ref p, rfl, p, T.C_Trial, dx, _, rfl, hp3, T.cl_Trial, T.na_Trial_bits, by rw [show (trial2 (n : Int) lq).length = 2 from rfl]; decide, ?_⟩
    · unfold CMul
      omega
    rw [trial_put3]
    have hd4 := web_ins (u := .ins T.C_Trial dx (trial3 n lq b)) hp3 hd3
    have hz4 := say_ins (u := .ins T.C_Trial dx (trial3 n lq b)) hp3 hz3
    have hq4 := sqT_ins (u := .ins T.C_Trial dx (trial3 n lq b)) hp3 hq3
    have b4 : ButP p H (upd H3 p (.ins T.C_Trial dx (trial3 n lq b))) := b3.own
    have hob4 : upd H3 p (.ins T.C_Trial dx (trial3 n lq b)) lq = some (.frz ob (.tup (ms.map V.int))) := (upd_ne nlq).trans hob3
    have hp4 : upd H3 p (.ins T.C_Trial dx (trial3 n lq b)) p = some (.ins T.C_Trial dx (trial3 n lq b)) := upd_same
    generalize upd H3 p (.ins T.C_Trial dx (trial3 n lq b)) = H4 at hd4 hz4 hq4 b4 hob4 hp4
    refine ⟨.ref p, rfl, p, T.C_Trial, dx, trial3 n lq b, _, rfl, hp4, T.cl_Trial, T.na_Trial_bits, trial3_bits _ _ _, b, 12, rfl, rfl, _, rfl, ?_⟩
    refine ite2 (fun z => absurd (of_decide_eq_true z) (by omega)) (fun _ => ?_)
    have ej : ((2 : Int) ^ b) = ((2 ^ b : Nat) : Int) := (Int.natCast_pow 2 b).symm
    have p12 : 2 ^ b ≤ 2 ^ 12 := Nat.pow_le_pow_right (by decide) hbits
    have eF : ((2 : Int) ^ (2 ^ b)) - 1 = ((2 ^ (2 ^ b) - 1 : Nat) : Int) := by
      rw [Int.ofNat_sub (Nat.one_le_two_pow (n := 2 ^ b)), Int.natCast_pow]
      rfl
    refine ⟨.ref p, rfl, p, T.C_Trial, dx, trial3 n lq b, _, rfl, hp4, T.cl_Trial, T.na_Trial_bits, trial3_bits _ _ _, b, rfl, rfl, by omega, 2 ^ b, rfl, congrArg V.int ej, Nat.le_trans p12 (by decide), 2 ^ (2 ^ b), 1, rfl, rfl, ?_⟩
    refine ⟨.ref p, rfl, p, T.C_Trial, dx, _, rfl, hp4, T.cl_Trial, T.na_Trial_full, by rw [show (trial3 (n : Int) lq b).length = 3 from rfl]; decide, ?_⟩
    dsimp only
    rw [eF, trial_put4]
    generalize hF : 2 ^ (2 ^ b) - 1 = F at eF
    have hd5 := web_ins (u := .ins T.C_Trial dx (trial4 n lq b F)) hp4 hd4
    have hz5 := say_ins (u := .ins T.C_Trial dx (trial4 n lq b F)) hp4 hz4
    have hq5 := sqT_ins (u := .ins T.C_Trial dx (trial4 n lq b F)) hp4 hq4
    have b5 : ButP p H (upd H4 p (.ins T.C_Trial dx (trial4 n lq b F))) := b4.own
    have hob5 : upd H4 p (.ins T.C_Trial dx (trial4 n lq b F)) lq = some (.frz ob (.tup (ms.map V.int))) := (upd_ne nlq).trans hob4
    have hp5 : upd H4 p (.ins T.C_Trial dx (trial4 n lq b F)) p = some (.ins T.C_Trial dx (trial4 n lq b F)) := upd_same
    generalize upd H4 p (.ins T.C_Trial dx (trial4 n lq b F)) = H5 at hd5 hz5 hq5 b5 hob5 hp5
    have tr : ∀ H', Same H5 H' → TrialAt H' T.C_Trial p n b ms := fun H' e => ⟨dx, lq, trial4 n lq b F, ob, e _ _ hp5, trial4_size _ _ _ _, trial4_letters _ _ _ _, by rw [trial4_full, ← hF], trial4_no _ _ _ _ (by decide +kernel) (by decide +kernel) (by decide +kernel) (by decide +kernel), trial4_no _ _ _ _ (by decide +kernel) (by decide +kernel) (by decide +kernel) (by decide +kernel), e _ _ hob5, ob1, ob2⟩
    refine ⟨Nat.zero_le _, fun y0 n0 => ⟨by show 1 ≤ sizeLine; decide, fun y1 n1 => ?_⟩⟩
    have e0 := same_new (o := .lst []) n0
    have e1 := same_new (o := .lst [.ref y0]) n1
    refine ⟨y1, 8, _, rfl, rfl, upd_same, by omega, by omega, (by show 1 * 8 ≤ sizeLine; decide), fun D nD => ?_⟩
    have nD5 : H5 D = none := (e0.trans e1).free nD
    have eD := (e0.trans e1).trans (same_new (o := .lst (List.replicate 8 (V.ref y0))) nD)
    have er : (List.replicate (8 : Int).toNat [V.ref y0]).flatten = List.replicate 8 (V.ref y0) := rfl
    rw [er]
    have hD : upd (upd (upd H5 y0 (.lst [])) y1 (.lst [.ref y0])) D (.lst (List.replicate 8 (V.ref y0))) D = some (.lst (List.replicate 8 (V.ref y0))) := upd_same
    show gName 3 (V.ref D) _ (upd (upd (upd H5 y0 (.lst [])) y1 (.lst [.ref y0])) D (.lst (List.replicate 8 (V.ref y0)))) _
    generalize upd (upd (upd H5 y0 (.lst [])) y1 (.lst [.ref y0])) D (.lst (List.replicate 8 (V.ref y0))) = H6 at eD hD
    refine ⟨.ref p, rfl, p, T.C_Trial, dx, trial4 n lq b F, _, rfl, eD _ _ hp5, T.cl_Trial, T.na_Trial_letters, trial4_letters _ _ _ _, lq, rfl, ⟨_, same_tup eD hq5⟩, ?_⟩
    have hob6 := eD _ _ hob5
    have hq6 := same_tup eD hq5
    have hp6 := eD _ _ hp5
    refine for_tup (K := K) (a := lq) (xs := ms.map V.int) (fun j σ H' => ∃ (y4 y5 : Option V) (cs : List V), σ = [some (.ref p), some (.ref wa), some z, some (.ref D), y4, y5] ∧ Same H5 H' ∧ H' D = some (.lst cs) ∧ cs.length = 8 ∧ ∀ (m : Nat) (k : Int), m < j → ms[m]? = some k → ∃ r, cs[k.toNat]? = some (.ref r) ∧ r ≠ D ∧ H' r = some (.lst ((ansN n (ansB (2 ^ b) fun c => vT ms n c k.toNat)).map V.int)))
      ⟨none, none, _, rfl, eD, hD, List.length_replicate, fun m k h => absurd h (Nat.not_lt_zero _)⟩ (fun j σ H' _ h => by obtain ⟨_, _, _, _, e, _⟩ := h; exact same_tup e hq5) (fun j x σ H7 hx h => ?_) (fun σ H7 h => ?_)
    · obtain ⟨y4, y5, cs, rfl, e7, hD7, cl, hcs⟩ := h
      rw [List.getElem?_map] at hx
      obtain ⟨k, hk, rfl⟩ := Option.map_eq_some_iff.mp hx
      have k8 : 0 ≤ k ∧ k < 8 := by
        obtain ⟨i, hi, rfl⟩ := mem_letters.mp ((mem k).mp (List.mem_of_getElem? hk))
        have : i < 8 := Say.letters8 ok _ hi
        omega
      have jl : j < ms.length := (List.getElem?_eq_some_iff.mp hk).1
      refine ⟨.ref p, rfl, p, T.C_Trial, dx, trial4 n lq b F, _, rfl, e7 _ _ hp5, T.cl_Trial, T.na_Trial_size, trial4_size _ _ _ _, n, rfl, by omega, by omega, fun E2 nE => ?_⟩
      have nE5 := e7.free nE
      refine lc_range (lo := 0) (n := n) (fun x H' => Same H7 H' ∧ H' E2 = some (.lst (((ansN n (ansB (2 ^ b) fun c => vT ms n c k.toNat)).take x).map V.int))) ⟨same_new nE, upd_same⟩ (fun x H8 hx h => ?_) (fun H8 h => ?_)
      · obtain ⟨e8, hE⟩ := h
        rw [Int.zero_add]
        have e78 := e7.trans e8
        have lt : j * n + x < b := by
          rw [← hbe]
          have := Nat.mul_le_mul_right n (show j + 1 ≤ ms.length from jl)
          rw [Nat.add_mul, Nat.one_mul] at this
          omega
        refine ⟨rfl, .ref p, rfl, p, dx, trial4 n lq b F, rfl, e78 _ _ hp5, trial4_no _ _ _ _ (by decide +kernel) (by decide +kernel) (by decide +kernel) (by decide +kernel), .int k, rfl, .int x, rfl, p, n, b, j, x, k, ms, rfl, tr _ e78, hk, asc_no asc hk, n2, by omega, lt, hbits, ?_⟩
        have ev : (bitsN (2 ^ b) fun c => c.testBit (j * n + x)) = ansB (2 ^ b) (fun c => vT ms n c k.toNat) x := by
          show _ = bitsN (2 ^ b) fun c => c.testBit (ms.idxOf ((k.toNat : Nat) : Int) * n + ((x : Nat) : Int).toNat)
          rw [Int.toNat_of_nonneg k8.1, idx_at hk (asc_no asc hk)]
          rfl
        rw [ev]
        refine ⟨_, hE, ?_, same_upd_new e8 nE, ?_⟩
        · rw [List.length_map, List.length_take, ansN_len]
          exact small (m := 200) (by omega)
        · rw [upd_same, List.take_add_one, ansN_atI _ hx, List.map_append]
          rfl
      · obtain ⟨e8, hE⟩ := h
        have e78 := e7.trans e8
        have lk : k.toNat < 8 := by omega
        have hD8 := e8 _ _ hD7
        have nED : E2 ≠ D := fun z => by rw [z, hD7] at nE; cases nE
        have etk : (ansN n (ansB (2 ^ b) fun c => vT ms n c k.toNat)).take n = ansN n (ansB (2 ^ b) fun c => vT ms n c k.toNat) := List.take_of_length_le (by rw [ansN_len]; exact Nat.le_refl _)
        rw [etk] at hE
        refine ⟨.ref D, rfl, .int k, rfl, D, cs, k, k.toNat, rfl, rfl, hD8, ?_, ?_⟩
        · have := ix_at (n := cs.length) (j := k.toNat) (by omega)
          rw [Int.toNat_of_nonneg k8.1] at this
          exact this
        refine ⟨_, _, cs.set k.toNat (.ref E2), rfl, same_upd_new e78 nD5, upd_same, by rw [List.length_set]; exact cl, fun m k' hm hk' => ?_⟩
        by_cases mj : m = j
        · subst mj
          rw [hk] at hk'
          obtain rfl := Option.some.inj hk'
          exact ⟨E2, List.getElem?_set_self (by omega), nED, by rw [upd_ne nED]; exact hE⟩
        · obtain ⟨r, h1, h2, h3⟩ := hcs m k' (by omega) hk'
          have nk : k.toNat ≠ k'.toNat := fun z => by
            have k'8 : 0 ≤ k' := by
              obtain ⟨i, hi, rfl⟩ := mem_letters.mp ((mem k').mp (List.mem_of_getElem? hk'))
              omega
            exact asc_no asc hk m (by omega) (by rw [hk', show k' = k by omega])
          exact ⟨r, by rw [List.getElem?_set_ne nk]; exact h1, h2, by rw [upd_ne h2]; exact e8 _ _ h3⟩
    · obtain ⟨y4, y5, cs, rfl, e7, hD7, cl, hcs⟩ := h
      rw [List.length_map] at hcs
      refine ⟨.ref wa, rfl, .ref wa, n, A, rfl, dp_same e7 _ _ hd5, wok, fun H8 d r c' L lay hL => ?_⟩
      have ld := lay.d hL
      have e8 := lay.same
      refine ⟨.ref D, rfl, Nat.zero_le _, fun E2 nE2 => ?_⟩
      have eD2 := same_new (o := .lst []) nE2
      have e9 := (e7.trans e8).trans eD2
      refine ⟨.ref p, rfl, p, T.C_Trial, dx, trial4 n lq b F, _, rfl, e9 _ _ hp5, T.cl_Trial, T.na_Trial_full, trial4_full _ _ _ _, ?_⟩
      intro x dx2 nx ndx nex
      refine ⟨x, dx2, d, D, E2, F, rfl, upd_same, fun H9 bp hp9 => ⟨rfl, ?_⟩⟩
      have hF' : F = bitsN (2 ^ b) fun _ => true := by rw [← hF]; exact bits_full' _
      have e0' : Same (upd H8 E2 (.lst [])) (upd (upd (upd H8 E2 (.lst [])) dx2 (.own x)) x (.ins T.C_Cases dx2 [])) := same_upd_new (same_new ndx) nx
      have e10 := bp.same e0' nx
      have e59 := e9.trans e10
      have hE9 : H9 E2 = some (.lst []) := e10 _ _ upd_same
      have e89 := eD2.trans e10
      have e79 := e8.trans e89
      have env : CaseEnv H9 d D E2 n A (2 ^ b) (vT ms n) (fun _ => no0) s := by
        refine ⟨ld.on e89, ⟨cs, e79 _ _ hD7, fun i m => ?_⟩, ⟨_, hE9, fun j m => (Say.letters8 ok _ m).elim⟩⟩
        have hi : (i : Int) ∈ ms := (mem _).mpr (mem_letters.mpr ⟨i, m, rfl⟩)
        obtain ⟨k, hk1, hk2⟩ := List.getElem_of_mem hi
        obtain ⟨r, h1, _, h3⟩ := hcs k i hk1 (by rw [List.getElem?_eq_getElem hk1, hk2])
        exact ⟨r, h1, e79 _ _ h3⟩
      refine ⟨x, dx2, _, rfl, hp9, casesF_ans _ _ _ _, z, rfl, x, dx2, d, D, E2, z, n, A, 2 ^ b, _, _, s, rfl, by rw [← hF']; exact hp9, env, dp_same e59 _ _ hz5, ⟨_, _, _, ok.n⟩, hdeep, wok, fun H10 fr e11 hfr => ?_⟩
      have e510 := e59.trans e11
      refine ⟨.ref p, rfl, p, T.C_Trial, dx, _, rfl, e510 _ _ hp5, T.cl_Trial, T.na_Trial_found, by rw [show (trial4 (n : Int) lq b F).length = 4 from rfl]; decide, ?_⟩
      rw [trial_put5]
      have nfp : fr ≠ p := fun z => by
        have h : H10 fr = _ := hfr
        rw [z, e510 _ _ hp5] at h
        cases h
      refine q _ lq fr b F _ (b5.trans (ButP.of e510)).own upd_same ((upd_ne nfp).trans hfr) fun x hx => ?_
      rw [hF']
      exact keep_cases wok asc mem hbe.symm hx
end
end K0

/-! T3: tried, is_kept. -/
namespace K0
open PySem PySem.Spec PyProof.Rows L2 W0 W1 W2 W5 W6 V0 V1 V6
section
variable {P : Program} {w : World} {K : PySem.W.Frag} {mg : Str → Option Value} {base : Heap}
def sp_tried (K : PySem.W.Frag) : Sp := fun vs H Q _ => ∃ (v z : V) (n : Nat) (A : List T3) (s : Say), vs = [v, z] ∧ Dp K H v (dWeb n A) ∧ WOk n A ∧ Dp K H z (dSay s) ∧ s.Ok ∧ s.deep ≤ 40 ∧ s.words.length ≤ 400 ∧ (∀ L, IsL s L → n * L.length ≤ 12) ∧
  ∀ H' p, Same H H' → SqT K H' p ((heldL n (keepB A s)).map V.int) → Q (.ref p) H'
theorem ok_tried (T : Tops K w mg) : FnOk P w K mg base CX0 46 T.a_tried T.fd_tried p_tried (sp_tried K) := by
  have S := sc_tried
  refine T.F_tried.ok S (fun vs H Q E h => ?_) (fun cdv AA outer s0 H vs Q E hr h => ?_)
  · obtain ⟨v, z, n, A, s, rfl, _⟩ := h
    rfl
  · obtain ⟨v, z, n, A, s, rfl, hd, wok, hz, ok, hdeep, hw, h12, q⟩ := h
    refine ⟨_, (pss_cons (ps_expr (pe_call (ok_need_web T) (hr.mono (by first | decide | omega)) (by rfl) T.g_need_web T.F_need_web.kp T.b_need_web .nil pass0 (pa_cons (pv 0) pa_nil)))
      (pss_cons (ps_expr (pe_call (ok_need_saying T) (hr.mono (by first | decide | omega)) (by rfl) T.g_need_saying T.F_need_saying.kp T.b_need_saying .nil pass0 (pa_cons (pv 1) pa_nil)))
      (pss_cons (ps_set (i := 2) S.nd rfl (Or.inr rfl) (pe_make T.mk_Trial (ok_Trial___init__ T) (hr.mono (by first | decide | omega)) (by rfl) T.c_Trial T.b_Trial___init__ .nil pass0 (pa_cons (pv 0) (pa_cons (pv 1) pa_nil))))
      (pss_one (ps_ret (pe_callTy (call_tupleK (K := K)) (by rfl) T.m_tuple (by decide +kernel) (pa_cons (pe_lc (own := [("world", 3), ("answer", 4)]) rfl S.nd (pi_enum (by rfl) T.m_enumerate (pa_cons (V6.pe_fldK (K := K) (pv 2) rfl) pa_nil)) (blkOk_by (N := n_tried) (sc := defScope s_tried) (by decide +kernel)) (fun _ _ _ _ _ => (pg_tupK (K := K) (n := 2) rfl (pgs_cons (pg_name (i := 3) S.nd rfl (Or.inl rfl)) (pgs_cons (pg_name (i := 4) S.nd rfl (Or.inl rfl)) pgs_nil)))) (fun _ _ _ _ _ => (pts_one (pt_cmpR op_eq (pv 4) (V6.pe_fldK (K := K) (pv 2) rfl) (nomark _)))) (fun _ _ _ _ _ => (pv 3))) pa_nil))))))), ?_⟩
    have n2 : n ≤ 200 := by have := wok.n2; omega
    refine ⟨v, rfl, v, n, A, rfl, hd, wok, fun H1 e1 => ?_⟩
    refine ⟨z, rfl, z, s, rfl, dp_same e1 _ _ hz, ok, hdeep, hw, fun H2 e2 => ?_⟩
    have e12 := e1.trans e2
    refine ⟨v, rfl, z, rfl, ?_⟩
    intro p dx np ndx nex
    have en : Same H2 (upd (upd H2 dx (.own p)) p (.ins T.C_Trial dx [])) := same_upd_new (same_new ndx) np
    refine ⟨p, dx, v, z, n, A, s, rfl, upd_same, dp_same (e12.trans en) _ _ hd, wok, dp_same (e12.trans en) _ _ hz, ok, hdeep, hw, h12, fun H3 lq r b F g bp hp3 hr3 hk => ⟨rfl, ?_⟩⟩
    have e3 := e12.trans (bp.same en np)
    refine ⟨.ref p, rfl, p, T.C_Trial, dx, trial5 n lq b F r, _, rfl, hp3, T.cl_Trial, T.na_Trial_found, trial5_found _ _ _ _ _, r, _, rfl, SqL.of hr3, fun E' nE => ?_⟩
    dsimp only [tNil]
    refine lc_it (walk_enum (K := K) (a := r) (xs := (ansN n g).map V.int)) (D := E') (H1 := H3) (fun j H' => Same H3 H' ∧ H' E' = some (.lst ((heldL j (keepB A s)).map V.int)))
      ⟨same_new nE, upd_same⟩ (fun i H' _ h => SqL.of (h.1 _ _ hr3)) (fun j x H6 H7 hj h hy => ?_) (fun H6 h => ?_)
    · obtain ⟨e6, hE⟩ := h
      obtain ⟨TT, x1, x2, rfl, nT, rfl, w1, w2⟩ := hy
      rw [List.length_map, ansN_len] at hj
      obtain rfl : V.int (j : Nat) = x1 := Option.some.inj w1
      have w2' : ((ansN n g).map V.int)[j]? = some x2 := w2
      rw [ansN_at _ hj] at w2'
      obtain rfl : V.int ((g j : Nat) : Int) = x2 := Option.some.inj w2'
      have eT := same_new (o := .tup [V.int (j : Nat), V.int ((g j : Nat) : Int)]) nT
      refine ⟨TT, [.int (j : Nat), .int ((g j : Nat) : Int)], rfl, SqT.of upd_same, rfl, .int (j : Nat), _, rfl, .int ((g j : Nat) : Int), _, rfl, rfl, ?_⟩
      refine ⟨rfl, .int ((g j : Nat) : Int), rfl, .ref p, rfl, p, T.C_Trial, dx, trial5 n lq b F r, _, rfl, eT _ _ (e6 _ _ hp3), T.cl_Trial, T.na_Trial_full, trial5_full _ _ _ _ _, rfl, _, rfl, ?_⟩
      have few := heldL_few j (keepB A s)
      have eb : decide (V.int ((g j : Nat) : Int) = V.int ((F : Nat) : Int)) = keepB A s j := by
        rw [dec_vint', ← hk j hj]
        exact decide_eq_decide.mpr ⟨fun h => by have := Int.ofNat.inj h; exact this, fun h => congrArg _ h⟩
      rw [eb]
      refine ite2 (fun hb => ?_) (fun hb => ?_)
      · refine ⟨.int (j : Nat), rfl, _, eT _ _ hE, ?_, same_upd_new (e6.trans eT) nE, ?_⟩
        · rw [List.length_map]
          exact small (m := 200) (by omega)
        · rw [upd_same, heldL_succ, if_pos hb, List.map_append]
          rfl
      · refine ⟨e6.trans eT, ?_⟩
        rw [heldL_succ, if_neg hb]
        exact eT _ _ hE
    · obtain ⟨e6, hE⟩ := h
      rw [List.length_map, ansN_len] at hE
      refine ⟨E', _, rfl, .inl ⟨SqL.of hE, fun p np => ?_⟩⟩
      exact q _ p (e3.trans (e6.trans (same_new np))) (SqT.of upd_same)
def sp_trial_at (K : PySem.W.Frag) (C : Addr) : Sp := fun vs H Q _ => ∃ (v z : V) (x : Nat) (n : Nat) (A : List T3) (s : Say), vs = [v, z, .int x] ∧ Dp K H v (dWeb n A) ∧ WOk n A ∧ Dp K H z (dSay s) ∧ s.Ok ∧ s.deep ≤ 40 ∧ s.words.length ≤ 400 ∧ (∀ L, IsL s L → n * L.length ≤ 12) ∧ x < n ∧
  ∀ H' (p dx q r : Addr) (b : Int) (F : Nat) (g : Int → Nat), Same H H' → H' p = some (.ins C dx (trial5 n q b F r)) → H' r = some (.lst ((ansN n g).map V.int)) → (∀ x : Nat, x < n → decide (g x = F) = keepB A s x) → Q (.ref p) H'
def sp_is_kept (K : PySem.W.Frag) : Sp := fun vs H Q _ => ∃ (v z : V) (x : Nat) (n : Nat) (A : List T3) (s : Say), vs = [v, z, .int x] ∧ Dp K H v (dWeb n A) ∧ WOk n A ∧ Dp K H z (dSay s) ∧ s.Ok ∧ s.deep ≤ 40 ∧ s.words.length ≤ 400 ∧ (∀ L, IsL s L → n * L.length ≤ 12) ∧ x < n ∧
  ∀ H', Same H H' → Q (.bl (keepB A s x)) H'
end
end K0

/-! T4: tried, is_kept, as they are called. -/
namespace K0
open PySem PySem.Spec PyProof.Rows L2 W0 W1 W2 W5 W6 V0 V1 V6
theorem noL_ints (l : List Int) : noL (dInts l) = true := by
  show noLs (l.map PyData.int) = true
  exact noLs_of fun d m => by
    obtain ⟨i, _, rfl⟩ := List.mem_map.mp m
    rfl
/-- what may be tried -/
structure Tryable (s : Nat) (A : List T3) (t : Say) : Prop where
  web : WOk s A
  ok : t.Ok
  deep : t.deep ≤ 40
  words : t.words.length ≤ 400
  few : ∀ L, IsL t L → s * L.length ≤ 12
@[irreducible] noncomputable def gTried : GB := fun n ws post => match ws with
  | [.dat v, .dat z] => ∃ (s : Nat) (A : List T3) (t : Say), v = dWeb s A ∧ z = dSay t ∧ Tryable s A t ∧ post n (.dat (dInts (heldL s (keepB A t))))
  | _ => False
@[irreducible] noncomputable def gIsKept : GB := fun n ws post => match ws with
  | [.dat v, .dat z, .dat (.int i)] => ∃ (s : Nat) (A : List T3) (t : Say) (x : Nat), v = dWeb s A ∧ z = dSay t ∧ i = x ∧ Tryable s A t ∧ x < s ∧ post n (.dat (.bool (keepB A t x)))
  | _ => False
theorem gTried_of {n s : Nat} {A : List T3} {t : Say} {post : Nat → Val → Prop} (h : Tryable s A t) (q : post n (.dat (dInts (heldL s (keepB A t))))) : gTried n [.dat (dWeb s A), .dat (dSay t)] post := by
  unfold gTried
  exact ⟨s, A, t, rfl, rfl, h, q⟩
theorem gIsKept_of {n s x : Nat} {A : List T3} {t : Say} {post : Nat → Val → Prop} (h : Tryable s A t) (hx : x < s) (q : post n (.dat (.bool (keepB A t x)))) : gIsKept n [.dat (dWeb s A), .dat (dSay t), .dat (.int (x : Int))] post := by
  unfold gIsKept
  exact ⟨s, A, t, x, rfl, rfl, rfl, h, hx, q⟩
section
variable {K : PySem.W.Frag}
theorem snb_tried : SndB K (fun vs H Q => sp_tried K vs H Q E0) gTried := by
  intro C hK n ws vs H F post Q I r hm q
  subst hK
  unfold gTried at hm
  split at hm
  · obtain ⟨x, y, rfl, rx, ry⟩ := relVs2 r
    obtain ⟨s, A, t, rfl, rfl, h, hp⟩ := hm
    refine ⟨x, y, s, A, t, rfl, fv_dp _ _ rx, h.web, fv_dp _ _ ry, h.ok, h.deep, h.words, h.few, fun H' p e hs => ?_⟩
    exact q n _ _ H' F (I.sames e) (Ext3.of e) (relV_dat (dp_fv _ _ (noL_ints _) (dp_of_ints hs))) hp
  · exact hm.elim
theorem snb_is_kept : SndB K (fun vs H Q => sp_is_kept K vs H Q E0) gIsKept := by
  intro C hK n ws vs H F post Q I r hm q
  subst hK
  unfold gIsKept at hm
  split at hm
  · obtain ⟨x, y, u, rfl, rx, ry, ru⟩ := relVs3 r
    obtain ⟨s, A, t, k, rfl, rfl, rfl, h, hx, hp⟩ := hm
    refine ⟨x, y, k, s, A, t, by rw [fv_int ru], fv_dp _ _ rx, h.web, fv_dp _ _ ry, h.ok, h.deep, h.words, h.few, hx, fun H' e => ?_⟩
    exact q n _ _ H' F (I.sames e) (Ext3.of e) (relV_dat (.bl _)) hp
  · exact hm.elim
end
end K0

/-! T5: what of the program goes as it is called. -/
namespace K0
open PySem PySem.Spec PyProof.Rows L2 W0 W1 W2 W5 W6 V0 V1 V6
def sNever : SW := fun _ _ _ => False
@[irreducible] def gNeedSay : GB := fun n ws post => match ws with
  | [.dat z] => ∃ t : Say, z = dSay t ∧ t.Ok ∧ t.deep ≤ 40 ∧ t.words.length ≤ 400 ∧ post n (.dat z)
  | _ => False
theorem gNeedSay_of {n : Nat} {t : Say} {post : Nat → Val → Prop} (ok : t.Ok) (hd : t.deep ≤ 40) (hw : t.words.length ≤ 400) (q : post n (.dat (dSay t))) : gNeedSay n [.dat (dSay t)] post := by
  unfold gNeedSay
  exact ⟨t, rfl, ok, hd, hw, q⟩
@[irreducible] def gIsLetter : GB := fun n ws post => match ws with
  | [.dat (.int i)] => 0 ≤ i ∧ i < 8 ∧ post n (.dat (.bool true))
  | _ => False
theorem gIsLetter_of {n i : Nat} {post : Nat → Val → Prop} (hi : i < 8) (q : post n (.dat (.bool true))) : gIsLetter n [.dat (.int (i : Int))] post := by
  unfold gIsLetter
  exact ⟨by omega, by omega, q⟩
@[irreducible] def gAreNums : GB := fun n ws post => match ws with
  | [.dat d, .dat (.int m), .dat (.int lo), .dat (.int hi)] => ∃ ns : List Int, d = dInts ns ∧ (ns.length : Int) = m ∧ ns.length ≤ 1000 ∧ (∀ x ∈ ns, lo ≤ x ∧ x ≤ hi) ∧ post n (.dat (.bool true))
  | _ => False
theorem gAreNums_of {n : Nat} {ns : List Int} {m lo hi : Int} {post : Nat → Val → Prop} (hm : (ns.length : Int) = m) (h1 : ns.length ≤ 1000) (h : ∀ x ∈ ns, lo ≤ x ∧ x ≤ hi) (q : post n (.dat (.bool true))) : gAreNums n [.dat (dInts ns), .dat (.int m), .dat (.int lo), .dat (.int hi)] post := by
  unfold gAreNums
  exact ⟨ns, rfl, hm, h1, h, q⟩
@[irreducible] def gSizeOf : GB := fun n ws post => match ws with
  | [.dat z] => ∃ t : Say, z = dSay t ∧ t.deep ≤ 200 ∧ t.words.length ≤ 5000 ∧ post n (.dat (dInts [(t.words.length : Int), (t.deep : Int)]))
  | _ => False
theorem gSizeOf_of {n : Nat} {t : Say} {post : Nat → Val → Prop} (hd : t.deep ≤ 200) (hw : t.words.length ≤ 5000) (q : post n (.dat (dInts [(t.words.length : Int), (t.deep : Int)]))) : gSizeOf n [.dat (dSay t)] post := by
  unfold gSizeOf
  exact ⟨t, rfl, hd, hw, q⟩
section
variable {K : PySem.W.Frag}
theorem sns_never : SndS K tNever sNever := fun C hK n env ks σ H F D I R k hm => (hm : False).elim
theorem snb_need_saying : SndB K (fun vs H Q => sp_need_saying K vs H Q E0) gNeedSay := by
  intro C hK n ws vs H F post Q I r hm q
  subst hK
  unfold gNeedSay at hm
  split at hm
  · obtain ⟨x, rfl, rx⟩ := relVs1 r
    obtain ⟨t, rfl, ok, hd, hw, hp⟩ := hm
    refine ⟨x, t, rfl, fv_dp _ _ rx, ok, hd, hw, fun H' e => ?_⟩
    exact q n _ _ H' F (I.sames e) (Ext3.of e) (relV_dat (I.fv (Ext3.of e) rx)) hp
  · exact hm.elim
theorem snb_size_of : SndB K (fun vs H Q => sp_size_of K vs H Q E0) gSizeOf := by
  intro C hK n ws vs H F post Q I r hm q
  subst hK
  unfold gSizeOf at hm
  split at hm
  · obtain ⟨x, rfl, rx⟩ := relVs1 r
    obtain ⟨t, rfl, hd, hw, hp⟩ := hm
    refine ⟨x, t, rfl, fv_dp _ _ rx, hd, hw, fun H' p e hs => ?_⟩
    exact q n _ _ H' F (I.sames e) (Ext3.of e) (relV_dat (dp_fv _ _ (noL_ints _) (dp_of_ints hs))) hp
  · exact hm.elim
theorem snb_is_letter : SndB K (fun vs H Q => sp_is_letter vs H Q E0) gIsLetter := by
  intro C hK n ws vs H F post Q I r hm q
  subst hK
  unfold gIsLetter at hm
  split at hm
  · rename_i i
    obtain ⟨x, rfl, rx⟩ := relVs1 r
    obtain ⟨h0, h8, hp⟩ := hm
    refine ⟨i.toNat, by rw [fv_int rx, Int.toNat_of_nonneg h0], by omega, ?_⟩
    exact q n _ _ H F I (Ext3.refl _ _ _) (relV_dat (.bl _)) hp
  · exact hm.elim
theorem snb_are_numbers : SndB K (fun vs H Q => sp_are_numbers K vs H Q E0) gAreNums := by
  intro C hK n ws vs H F post Q I r hm q
  subst hK
  unfold gAreNums at hm
  split at hm
  · rename_i d m lo hi
    obtain ⟨ns, rfl, hl, h1, h, hp⟩ := hm
    cases r with
    | cons ra r =>
      cases r with
      | cons rb r =>
        cases r with
        | cons rc r =>
          cases r with
          | cons rd r =>
            cases r
            obtain ⟨a, rfl, hs⟩ := dp_ints (fv_dp _ _ ra)
            exact ⟨a, ns, ns.length, lo, hi, by rw [fv_int rb, fv_int rc, fv_int rd, ← hl], hs, rfl, h1, h, fun H' e => q n _ _ H' F (I.sames e) (Ext3.of e) (relV_dat (.bl _)) hp⟩
  · exact hm.elim
end
end K0

/-! X2: the mirrors of what the law asks. -/
namespace K0
open PySem PySem.Spec PyProof.Rows L2 W0 W1 W2 W5 W6 V0 V1 V6
section
variable {P : Program} {w : World} {K : PySem.W.Frag} {mg : Str → Option Value} {base : Heap}
@[irreducible] def ms_size_with (r : MF) : MF := body3 n_size_with.length 2
    (sSeq (sSet (eOp (gIx asT) (eVar 0) (eC (.int 0))) (gwName 2))
    (sSeq (sIf (tw (eOp (gEq false) (eVar 2) (eC (.str "letter")))) (sRet (eOp (gIx asL) (eVar 1) (eOp (gIx asT) (eVar 0) (eC (.int 1))))) sNext)
    (sSeq (sIf (twAnd (tw (eOp (gIB fun i j => decide (i < j)) (eCB gLen (aCons (eVar 0) aNil)) (eC (.int 3)))) (tw (eOp (gEq true) (eVar 2) (eC (.str "not"))))) (sRet (eTup (aCons (eC (.int 1)) (aCons (eC (.int 1)) aNil)))) sNext)
    (sSeq (sSet (eCB (call3 r) (aCons (eOp (gIx asT) (eVar 0) (eNeg (eC (.int 1)))) (aCons (eVar 1) aNil))) (gwTup 2 (gwCons (gwName 3) (gwCons (gwName 4) gwNil))))
    (sSeq (sIf (twOr (tw (eOp (gIB fun i j => decide (i < j)) (eCB gLen (aCons (eVar 0) aNil)) (eC (.int 3)))) (twOr (tw (eOp (gEq false) (eVar 2) (eC (.str "each")))) (tw (eOp (gEq false) (eVar 2) (eC (.str "some")))))) (sRet (eTup (aCons (eOp (gI0 (· + ·)) (eVar 3) (eC (.int 1))) (aCons (eOp (gI0 (· + ·)) (eVar 4) (eC (.int 1))) aNil)))) sNext)
    (sSeq (sSet (eCB (call3 r) (aCons (eOp (gIx asT) (eVar 0) (eC (.int 1))) (aCons (eVar 1) aNil))) (gwTup 2 (gwCons (gwName 5) (gwCons (gwName 6) gwNil))))
    (sRet (eTup (aCons (eOp (gI0 (· + ·)) (eOp (gI0 (· + ·)) (eVar 3) (eVar 5)) (eC (.int 1))) (aCons (eOp (gI0 (· + ·)) (eCB gMax (aCons (eVar 4) (aCons (eVar 6) aNil))) (eC (.int 1))) aNil))))))))))
def m_size_with : Nat → MF
  | 0 => fun _ _ _ => False
  | d + 1 => ms_size_with (m_size_with d)
theorem ok_size_with (T : Tops K w mg) : ∀ d : Nat, FnOk P w K mg base CX0 (d + 1) T.a_size_with T.fd_size_with p_size_with (sp3 K (m_size_with d))
  | 0 => by
    have S := sc_size_with
    exact T.F_size_with.ok S (fun vs H Q E h => (no3 h).elim) (fun cdv A outer s0 H vs Q E hr h => (no3 h).elim)
  | d + 1 => by
    have ih := ok_size_with T d
    have S := sc_size_with
    refine T.F_size_with.ok S (fun vs H Q E h => ?_) (fun cdv A outer s0 H vs Q E hr h => ?_)
    · have h : sp3 K (ms_size_with (m_size_with d)) vs H Q E := h
      unfold ms_size_with at h
      exact len3 h
    have h : sp3 K (ms_size_with (m_size_with d)) vs H Q E := h
    unfold ms_size_with at h
    exact ⟨_, (pss_cons (ps_set (i := 2) S.nd rfl (Or.inl rfl) (pe_ix (ix_tupK (K := K)) (pv 0) pe_int (fun _ _ => rfl)))
      (pss_cons (ps_if (pt_cmpR op_eq (pv 2) pe_str (nomark _)) (pss_one (ps_ret (pe_ix (ix_listK (K := K)) (pv 1) (pe_ix (ix_tupK (K := K)) (pv 0) pe_int (fun _ _ => rfl)) (fun _ _ => rfl)))) pss_nil)
      (pss_cons (ps_if ((pw_and (pt_cmpR op_lt (pe_callB (V12.call_lenK (K := K)) (by rfl) T.m_len (by decide +kernel) (pa_cons (pv 0) pa_nil)) pe_int (nomark _)) (pw_and1 (pt_cmpR op_ne (pv 2) pe_str (nomark _))))).pt (pss_one (ps_ret (pe_tup (pa_cons pe_int (pa_cons pe_int pa_nil))))) pss_nil)
      (pss_cons (ps_asg (pe_call ih (hr.mono (by omega)) (by rfl) T.g_size_with T.F_size_with.kp T.b_size_with .nil pass0 (pa_cons (pe_ix (ix_tupK (K := K)) (pv 0) (pe_un un_neg pe_int) (fun _ _ => rfl)) (pa_cons (pv 1) pa_nil))) (pg_tupK (K := K) (n := 2) rfl (pgs_cons (pg_name (i := 3) S.nd rfl (Or.inl rfl)) (pgs_cons (pg_name (i := 4) S.nd rfl (Or.inl rfl)) pgs_nil))))
      (pss_cons (ps_if ((pw_or (pt_cmpR op_lt (pe_callB (V12.call_lenK (K := K)) (by rfl) T.m_len (by decide +kernel) (pa_cons (pv 0) pa_nil)) pe_int (nomark _)) (pw_or (pt_cmpR op_eq (pv 2) pe_str (nomark _)) (pw_or1 (pt_cmpR op_eq (pv 2) pe_str (nomark _)))))).pt (pss_one (ps_ret (pe_tup (pa_cons (pe_op op_add (pv 3) pe_int) (pa_cons (pe_op op_add (pv 4) pe_int) pa_nil))))) pss_nil)
      (pss_cons (ps_asg (pe_call ih (hr.mono (by omega)) (by rfl) T.g_size_with T.F_size_with.kp T.b_size_with .nil pass0 (pa_cons (pe_ix (ix_tupK (K := K)) (pv 0) pe_int (fun _ _ => rfl)) (pa_cons (pv 1) pa_nil))) (pg_tupK (K := K) (n := 2) rfl (pgs_cons (pg_name (i := 5) S.nd rfl (Or.inl rfl)) (pgs_cons (pg_name (i := 6) S.nd rfl (Or.inl rfl)) pgs_nil))))
      (pss_one (ps_ret (pe_tup (pa_cons (pe_op op_add (pe_op op_add (pv 3) (pv 5)) pe_int) (pa_cons (pe_op op_add (pe_callB (call_max2 rfl) (by rfl) T.m_max (by decide +kernel) (pa_cons (pv 4) (pa_cons (pv 6) pa_nil))) pe_int) pa_nil))))))))))), run3 (sns_seq (sns_set (snd_op sop_ixT snd_var snd_int) sng_name)
      (sns_seq (sns_if (snt_test (snd_op sop_eq snd_var snd_str)) (sns_ret (snd_op sop_ixL snd_var (snd_op sop_ixT snd_var snd_int))) sns_next)
      (sns_seq (sns_if (snt_and (snt_test (snd_op op_rIB (snd_cb snb_len (snd_cons snd_var snd_nil)) snd_int)) (snt_test (snd_op sop_ne snd_var snd_str))) (sns_ret (snd_tup (snd_cons snd_int (snd_cons snd_int snd_nil)))) sns_next)
      (sns_seq (sns_set (snd_call snb_call (snd_cons (snd_op sop_ixT snd_var (snd_neg snd_int)) (snd_cons snd_var snd_nil))) (sng_tup (sng_cons sng_name (sng_cons sng_name sng_nil))))
      (sns_seq (sns_if (snt_or (snt_test (snd_op op_rIB (snd_cb snb_len (snd_cons snd_var snd_nil)) snd_int)) (snt_or (snt_test (snd_op sop_eq snd_var snd_str)) (snt_test (snd_op sop_eq snd_var snd_str)))) (sns_ret (snd_tup (snd_cons (snd_op sop_add snd_var snd_int) (snd_cons (snd_op sop_add snd_var snd_int) snd_nil)))) sns_next)
      (sns_seq (sns_set (snd_call snb_call (snd_cons (snd_op sop_ixT snd_var snd_int) (snd_cons snd_var snd_nil))) (sng_tup (sng_cons sng_name (sng_cons sng_name sng_nil))))
      (sns_ret (snd_tup (snd_cons (snd_op sop_add (snd_op sop_add snd_var snd_var) snd_int) (snd_cons (snd_op sop_add (snd_cb snb_max (snd_cons snd_var (snd_cons snd_var snd_nil))) snd_int) snd_nil)))))))))) h⟩

@[irreducible] def ms_replaced (r : MF) : MF := body3 n_replaced.length 3
    (sSeq (sSet (eOp (gIx asT) (eVar 0) (eC (.int 0))) (gwName 3))
    (sSeq (sIf (tw (eOp (gEq false) (eVar 3) (eVar 1))) (sRet (eOp (gIx asL) (eVar 2) (eOp (gIx asT) (eVar 0) (eC (.int 1))))) sNext)
    (sSeq (sIf (tw (eOp (gIB fun i j => decide (i < j)) (eCB gLen (aCons (eVar 0) aNil)) (eC (.int 3)))) (sRet (eIf (tw (eOp (gEq false) (eVar 3) (eC (.str "not")))) (eTup (aCons (eVar 3) (aCons (eCB (call3 r) (aCons (eOp (gIx asT) (eVar 0) (eC (.int 1))) (aCons (eVar 1) (aCons (eVar 2) aNil)))) aNil))) (eVar 0))) sNext)
    (sSeq (sIf (twOr (tw (eOp (gEq false) (eVar 3) (eC (.str "each")))) (tw (eOp (gEq false) (eVar 3) (eC (.str "some"))))) (sRet (eTup (aCons (eVar 3) (aCons (eOp (gIx asT) (eVar 0) (eC (.int 1))) (aCons (eCB (call3 r) (aCons (eOp (gIx asT) (eVar 0) (eC (.int 2))) (aCons (eVar 1) (aCons (eVar 2) aNil)))) aNil))))) sNext)
    (sRet (eTup (aCons (eVar 3) (aCons (eCB (call3 r) (aCons (eOp (gIx asT) (eVar 0) (eC (.int 1))) (aCons (eVar 1) (aCons (eVar 2) aNil)))) (aCons (eCB (call3 r) (aCons (eOp (gIx asT) (eVar 0) (eC (.int 2))) (aCons (eVar 1) (aCons (eVar 2) aNil)))) aNil)))))))))
def m_replaced : Nat → MF
  | 0 => fun _ _ _ => False
  | d + 1 => ms_replaced (m_replaced d)
theorem ok_replaced (T : Tops K w mg) : ∀ d : Nat, FnOk P w K mg base CX0 (d + 1) T.a_replaced T.fd_replaced p_replaced (sp3 K (m_replaced d))
  | 0 => by
    have S := sc_replaced
    exact T.F_replaced.ok S (fun vs H Q E h => (no3 h).elim) (fun cdv A outer s0 H vs Q E hr h => (no3 h).elim)
  | d + 1 => by
    have ih := ok_replaced T d
    have S := sc_replaced
    refine T.F_replaced.ok S (fun vs H Q E h => ?_) (fun cdv A outer s0 H vs Q E hr h => ?_)
    · have h : sp3 K (ms_replaced (m_replaced d)) vs H Q E := h
      unfold ms_replaced at h
      exact len3 h
    have h : sp3 K (ms_replaced (m_replaced d)) vs H Q E := h
    unfold ms_replaced at h
    exact ⟨_, (pss_cons (ps_set (i := 3) S.nd rfl (Or.inl rfl) (pe_ix (ix_tupK (K := K)) (pv 0) pe_int (fun _ _ => rfl)))
      (pss_cons (ps_if (pt_cmpR op_eq (pv 3) (pv 1) (nomark _)) (pss_one (ps_ret (pe_ix (ix_listK (K := K)) (pv 2) (pe_ix (ix_tupK (K := K)) (pv 0) pe_int (fun _ _ => rfl)) (fun _ _ => rfl)))) pss_nil)
      (pss_cons (ps_if (pt_cmpR op_lt (pe_callB (V12.call_lenK (K := K)) (by rfl) T.m_len (by decide +kernel) (pa_cons (pv 0) pa_nil)) pe_int (nomark _)) (pss_one (ps_ret (pe_ifExp (pt_cmpR op_eq (pv 3) pe_str (nomark _)) (pe_tup (pa_cons (pv 3) (pa_cons (pe_call ih (hr.mono (by omega)) (by rfl) T.g_replaced T.F_replaced.kp T.b_replaced .nil pass0 (pa_cons (pe_ix (ix_tupK (K := K)) (pv 0) pe_int (fun _ _ => rfl)) (pa_cons (pv 1) (pa_cons (pv 2) pa_nil)))) pa_nil))) (pv 0)))) pss_nil)
      (pss_cons (ps_if ((pw_or (pt_cmpR op_eq (pv 3) pe_str (nomark _)) (pw_or1 (pt_cmpR op_eq (pv 3) pe_str (nomark _))))).pt (pss_one (ps_ret (pe_tup (pa_cons (pv 3) (pa_cons (pe_ix (ix_tupK (K := K)) (pv 0) pe_int (fun _ _ => rfl)) (pa_cons (pe_call ih (hr.mono (by omega)) (by rfl) T.g_replaced T.F_replaced.kp T.b_replaced .nil pass0 (pa_cons (pe_ix (ix_tupK (K := K)) (pv 0) pe_int (fun _ _ => rfl)) (pa_cons (pv 1) (pa_cons (pv 2) pa_nil)))) pa_nil)))))) pss_nil)
      (pss_one (ps_ret (pe_tup (pa_cons (pv 3) (pa_cons (pe_call ih (hr.mono (by omega)) (by rfl) T.g_replaced T.F_replaced.kp T.b_replaced .nil pass0 (pa_cons (pe_ix (ix_tupK (K := K)) (pv 0) pe_int (fun _ _ => rfl)) (pa_cons (pv 1) (pa_cons (pv 2) pa_nil)))) (pa_cons (pe_call ih (hr.mono (by omega)) (by rfl) T.g_replaced T.F_replaced.kp T.b_replaced .nil pass0 (pa_cons (pe_ix (ix_tupK (K := K)) (pv 0) pe_int (fun _ _ => rfl)) (pa_cons (pv 1) (pa_cons (pv 2) pa_nil)))) pa_nil)))))))))), run3 (sns_seq (sns_set (snd_op sop_ixT snd_var snd_int) sng_name)
      (sns_seq (sns_if (snt_test (snd_op sop_eq snd_var snd_var)) (sns_ret (snd_op sop_ixL snd_var (snd_op sop_ixT snd_var snd_int))) sns_next)
      (sns_seq (sns_if (snt_test (snd_op op_rIB (snd_cb snb_len (snd_cons snd_var snd_nil)) snd_int)) (sns_ret (snd_if (snt_test (snd_op sop_eq snd_var snd_str)) (snd_tup (snd_cons snd_var (snd_cons (snd_call snb_call (snd_cons (snd_op sop_ixT snd_var snd_int) (snd_cons snd_var (snd_cons snd_var snd_nil)))) snd_nil))) snd_var)) sns_next)
      (sns_seq (sns_if (snt_or (snt_test (snd_op sop_eq snd_var snd_str)) (snt_test (snd_op sop_eq snd_var snd_str))) (sns_ret (snd_tup (snd_cons snd_var (snd_cons (snd_op sop_ixT snd_var snd_int) (snd_cons (snd_call snb_call (snd_cons (snd_op sop_ixT snd_var snd_int) (snd_cons snd_var (snd_cons snd_var snd_nil)))) snd_nil))))) sns_next)
      (sns_ret (snd_tup (snd_cons snd_var (snd_cons (snd_call snb_call (snd_cons (snd_op sop_ixT snd_var snd_int) (snd_cons snd_var (snd_cons snd_var snd_nil)))) (snd_cons (snd_call snb_call (snd_cons (snd_op sop_ixT snd_var snd_int) (snd_cons snd_var (snd_cons snd_var snd_nil)))) snd_nil))))))))) h⟩

@[irreducible] def m_put_in : MF := body3 n_put_in.length 3
    (sSeq (sDrop (eCB gNeedSay (aCons (eVar 0) aNil)))
    (sSeq (sIf (twNot (tw (eCB gIsLetter (aCons (eVar 1) aNil)))) sNever sNext)
    (sSeq (sOwn (eOp gRepL (eLst (aCons (eTup (aCons (eC (.int 1)) (aCons (eC (.int 1)) aNil))) aNil)) (eC (.int (8)))) (gwName 3))
    (sSeq (sPut 3 (eVar 1) (eCB gSizeOf (aCons (eCB gNeedSay (aCons (eVar 2) aNil)) aNil)))
    (sSeq (sFrz 3 (sSet (eCB (call3 (m_size_with 40)) (aCons (eVar 0) (aCons (eVar 3) aNil))) (gwTup 2 (gwCons (gwName 4) (gwCons (gwName 5) gwNil)))))
    (sSeq (sIf (tw (eOp (gIB fun i j => decide (j < i)) (eVar 4) (eC (.int (400))))) sNever sNext)
    (sSeq (sIf (tw (eOp (gIB fun i j => decide (j < i)) (eVar 5) (eC (.int (40))))) sNever sNext)
    (sSeq (sOwn (eLc (iRg1 (eC (.int (8)))) (gwName 7) twYes (eTup (aCons (eC (.str "letter")) (aCons (eVar 7) aNil))) [7]) (gwName 6))
    (sSeq (sPut 6 (eVar 1) (eVar 2))
    (sFrz 6 (sRet (eCB (call3 (m_replaced 40)) (aCons (eVar 0) (aCons (eC (.str "letter")) (aCons (eVar 6) aNil)))))))))))))))
theorem ok_put_in (T : Tops K w mg) : FnOk P w K mg base CX0 42 T.a_put_in T.fd_put_in p_put_in (sp3 K m_put_in) := by
  have S := sc_put_in
  refine T.F_put_in.ok S (fun vs H Q E h => by unfold m_put_in at h; exact len3 h) (fun cdv A outer s0 H vs Q E hr h => ?_)
  unfold m_put_in at h
  exact ⟨_, (pss_cons (ps_expr (pe_call (ok_need_saying T) (hr.mono (by first | decide | omega)) (by rfl) T.g_need_saying T.F_need_saying.kp T.b_need_saying .nil pass0 (pa_cons (pv 0) pa_nil)))
      (pss_cons (ps_if (pt_not (pt_val (pe_call (ok_is_letter T) (hr.mono (by first | decide | omega)) (by rfl) T.g_is_letter T.F_is_letter.kp T.b_is_letter .nil pass0 (pa_cons (pv 1) pa_nil)))) (pss_one ps_never) pss_nil)
      (pss_cons (ps_set (i := 3) S.nd rfl (Or.inl rfl) (pe_op op_rep (pe_lst (pa_cons (pe_tup (pa_cons pe_int (pa_cons pe_int pa_nil))) pa_nil)) (pe_glob (v := .int (8)) (by rfl) T.c_LETTERS ⟨_, rfl⟩)))
      (pss_cons (ps_asg (pe_call (ok_size_of T) (hr.mono (by first | decide | omega)) (by rfl) T.g_size_of T.F_size_of.kp T.b_size_of .nil pass0 (pa_cons (pe_call (ok_need_saying T) (hr.mono (by first | decide | omega)) (by rfl) T.g_need_saying T.F_need_saying.kp T.b_need_saying .nil pass0 (pa_cons (pv 2) pa_nil)) pa_nil)) (pg_sub (pv 3) (pv 1) set_list))
      (pss_cons (ps_asg (pe_call (ok_size_with T 40) (hr.mono (by omega)) (by rfl) T.g_size_with T.F_size_with.kp T.b_size_with .nil pass0 (pa_cons (pv 0) (pa_cons (pv 3) pa_nil))) (pg_tupK (K := K) (n := 2) rfl (pgs_cons (pg_name (i := 4) S.nd rfl (Or.inl rfl)) (pgs_cons (pg_name (i := 5) S.nd rfl (Or.inl rfl)) pgs_nil))))
      (pss_cons (ps_if (pt_cmpR op_gt (pv 4) (pe_glob (v := .int (400)) (by rfl) T.c_MOST_WORDS ⟨_, rfl⟩) (nomark _)) (pss_one ps_never) pss_nil)
      (pss_cons (ps_if (pt_cmpR op_gt (pv 5) (pe_glob (v := .int (40)) (by rfl) T.c_MOST_DEEP ⟨_, rfl⟩) (nomark _)) (pss_one ps_never) pss_nil)
      (pss_cons (ps_setLc (i := 6) (own := [("index", 7)]) rfl S.nd rfl rfl (sw_true rfl rfl rfl (by decide +kernel)) (pi_range1 (by rfl) T.m_range (pa_cons (pe_glob (v := .int (8)) (by rfl) T.c_LETTERS ⟨_, rfl⟩) pa_nil)) (blkOk_by (N := n_put_in) (sc := defScope s_put_in) (by decide +kernel)) (fun _ _ _ _ _ => (pg_name (i := 7) S.nd rfl (Or.inl rfl))) (fun _ _ _ _ _ => pts_nil) (fun _ _ _ _ _ => (pe_tup (pa_cons pe_str (pa_cons (pv 7) pa_nil)))))
      (pss_cons (ps_asg (pv 2) (pg_sub (pv 6) (pv 1) set_list))
      (pss_one (ps_ret (pe_call (ok_replaced T 40) (hr.mono (by omega)) (by rfl) T.g_replaced T.F_replaced.kp T.b_replaced .nil pass0 (pa_cons (pv 0) (pa_cons pe_str (pa_cons (pv 6) pa_nil))))))))))))))), run3 (sns_seq (sns_drop (snd_call snb_need_saying (snd_cons snd_var snd_nil)))
      (sns_seq (sns_if (snt_not (snt_test (snd_call snb_is_letter (snd_cons snd_var snd_nil)))) sns_never sns_next)
      (sns_seq (sns_own (snd_op sop_repL (snd_lst (snd_cons (snd_tup (snd_cons snd_int (snd_cons snd_int snd_nil))) snd_nil)) snd_int) sng_name)
      (sns_seq (sns_put (i := 3) snd_var (snd_call snb_size_of (snd_cons (snd_call snb_need_saying (snd_cons snd_var snd_nil)) snd_nil)))
      (sns_seq (sns_frz (i := 3) (sns_set (snd_call snb_call (snd_cons snd_var (snd_cons snd_var snd_nil))) (sng_tup (sng_cons sng_name (sng_cons sng_name sng_nil)))))
      (sns_seq (sns_if (snt_test (snd_op op_rIB snd_var snd_int)) sns_never sns_next)
      (sns_seq (sns_if (snt_test (snd_op op_rIB snd_var snd_int)) sns_never sns_next)
      (sns_seq (sns_own (snd_lc (sni_rg1 snd_int) sng_name snt_yes (snd_tup (snd_cons snd_str (snd_cons snd_var snd_nil))) (by decide)) sng_name)
      (sns_seq (sns_put (i := 6) snd_var snd_var)
      (sns_frz (i := 6) (sns_ret (snd_call snb_call (snd_cons snd_var (snd_cons snd_str (snd_cons snd_var snd_nil))))))))))))))) h⟩

@[irreducible] def m_renamed : MF := body3 n_renamed.length 2
    (sSeq (sDrop (eCB gNeedSay (aCons (eVar 0) aNil)))
    (sSeq (sIf (twNot (tw (eCB gAreNums (aCons (eVar 1) (aCons (eC (.int (8))) (aCons (eC (.int 0)) (aCons (eOp (gI0 (· - ·)) (eC (.int (8))) (eC (.int 1))) aNil))))))) sNever sNext)
    (sRet (eCB (call3 (m_replaced 40)) (aCons (eVar 0) (aCons (eC (.str "letter")) (aCons (eLc (iSeq asT (eVar 1)) (gwName 2) twYes (eTup (aCons (eC (.str "letter")) (aCons (eVar 2) aNil))) [2]) aNil)))))))
theorem ok_renamed (T : Tops K w mg) : FnOk P w K mg base CX0 42 T.a_renamed T.fd_renamed p_renamed (sp3 K m_renamed) := by
  have S := sc_renamed
  refine T.F_renamed.ok S (fun vs H Q E h => by unfold m_renamed at h; exact len3 h) (fun cdv A outer s0 H vs Q E hr h => ?_)
  unfold m_renamed at h
  exact ⟨_, (pss_cons (ps_expr (pe_call (ok_need_saying T) (hr.mono (by first | decide | omega)) (by rfl) T.g_need_saying T.F_need_saying.kp T.b_need_saying .nil pass0 (pa_cons (pv 0) pa_nil)))
      (pss_cons (ps_if (pt_not (pt_val (pe_call (ok_are_numbers T) (hr.mono (by first | decide | omega)) (by rfl) T.g_are_numbers T.F_are_numbers.kp T.b_are_numbers .nil pass0 (pa_cons (pv 1) (pa_cons (pe_glob (v := .int (8)) (by rfl) T.c_LETTERS ⟨_, rfl⟩) (pa_cons pe_int (pa_cons (pe_op op_sub (pe_glob (v := .int (8)) (by rfl) T.c_LETTERS ⟨_, rfl⟩) pe_int) pa_nil))))))) (pss_one ps_never) pss_nil)
      (pss_one (ps_ret (pe_call (ok_replaced T 40) (hr.mono (by omega)) (by rfl) T.g_replaced T.F_replaced.kp T.b_replaced .nil pass0 (pa_cons (pv 0) (pa_cons pe_str (pa_cons (pe_lc (own := [("letter", 2)]) rfl S.nd (pi_tup (pv 1)) (blkOk_by (N := n_renamed) (sc := defScope s_renamed) (by decide +kernel)) (fun _ _ _ _ _ => (pg_name (i := 2) S.nd rfl (Or.inl rfl))) (fun _ _ _ _ _ => pts_nil) (fun _ _ _ _ _ => (pe_tup (pa_cons pe_str (pa_cons (pv 2) pa_nil))))) pa_nil)))))))), run3 (sns_seq (sns_drop (snd_call snb_need_saying (snd_cons snd_var snd_nil)))
      (sns_seq (sns_if (snt_not (snt_test (snd_call snb_are_numbers (snd_cons snd_var (snd_cons snd_int (snd_cons snd_int (snd_cons (snd_op sop_sub snd_int snd_int) snd_nil))))))) sns_never sns_next)
      (sns_ret (snd_call snb_call (snd_cons snd_var (snd_cons snd_str (snd_cons (snd_lc (sni_tup snd_var) sng_name snt_yes (snd_tup (snd_cons snd_str (snd_cons snd_var snd_nil))) (by decide)) snd_nil))))))) h⟩

@[irreducible] def ms__law_put (r : MF) : MF := body3 n__law_put.length 3
    (sSeq (sIf (tw (eOp (gEq false) (eOp (gIx asT) (eVar 0) (eC (.int 0))) (eC (.str "letter")))) (sRet (eIf (tw (eOp (gEq false) (eOp (gIx asT) (eVar 0) (eC (.int 1))) (eVar 1))) (eVar 2) (eVar 0))) sNext)
    (sRet (eCB gTupOf (aCons (eLc (iSeq asT (eVar 0)) (gwName 3) twYes (eIf (tw (eIsTup (eVar 3))) (eCB (call3 r) (aCons (eVar 3) (aCons (eVar 1) (aCons (eVar 2) aNil)))) (eVar 3)) [3]) aNil))))
def m__law_put : Nat → MF
  | 0 => fun _ _ _ => False
  | d + 1 => ms__law_put (m__law_put d)
theorem ok__law_put (T : Tops K w mg) : ∀ d : Nat, FnOk P w K mg base CX0 (d + 1) T.a__law_put T.fd__law_put p__law_put (sp3 K (m__law_put d))
  | 0 => by
    have S := sc__law_put
    exact T.F__law_put.ok S (fun vs H Q E h => (no3 h).elim) (fun cdv A outer s0 H vs Q E hr h => (no3 h).elim)
  | d + 1 => by
    have ih := ok__law_put T d
    have S := sc__law_put
    refine T.F__law_put.ok S (fun vs H Q E h => ?_) (fun cdv A outer s0 H vs Q E hr h => ?_)
    · have h : sp3 K (ms__law_put (m__law_put d)) vs H Q E := h
      unfold ms__law_put at h
      exact len3 h
    have h : sp3 K (ms__law_put (m__law_put d)) vs H Q E := h
    unfold ms__law_put at h
    exact ⟨_, (pss_cons (ps_if (pt_cmpR op_eq (pe_ix (ix_tupK (K := K)) (pv 0) pe_int (fun _ _ => rfl)) pe_str (nomark _)) (pss_one (ps_ret (pe_ifExp (pt_cmpR op_eq (pe_ix (ix_tupK (K := K)) (pv 0) pe_int (fun _ _ => rfl)) (pv 1) (nomark _)) (pv 2) (pv 0)))) pss_nil)
      (pss_one (ps_ret (pe_callTy (call_tupleK (K := K)) (by rfl) T.m_tuple (by decide +kernel) (pa_cons (pe_lc (own := [("part", 3)]) rfl S.nd (pi_tup (pv 0)) (blkOk_by (N := n__law_put) (sc := defScope s__law_put) (by decide +kernel)) (fun _ _ _ _ _ => (pg_name (i := 3) S.nd rfl (Or.inl rfl))) (fun _ _ _ _ _ => pts_nil) (fun _ _ _ _ _ => (pe_ifExp (pt_val (pe_callB (id := "isinstance") (V7.call_isTup (K := K) rfl) (by rfl) T.m_isinstance (by decide +kernel) (pa_cons (pv 3) (pa_cons (pe_bltn (v := .ty "tuple") (by rfl) T.m_tuple (by decide +kernel) rfl) pa_nil)))) (pe_call ih (hr.mono (by omega)) (by rfl) T.g__law_put T.F__law_put.kp T.b__law_put .nil pass0 (pa_cons (pv 3) (pa_cons (pv 1) (pa_cons (pv 2) pa_nil)))) (pv 3)))) pa_nil))))), run3 (sns_seq (sns_if (snt_test (snd_op sop_eq (snd_op sop_ixT snd_var snd_int) snd_str)) (sns_ret (snd_if (snt_test (snd_op sop_eq (snd_op sop_ixT snd_var snd_int) snd_var)) snd_var snd_var)) sns_next)
      (sns_ret (snd_cb snb_tup (snd_cons (snd_lc (sni_tup snd_var) sng_name snt_yes (snd_if (snt_test (snd_isTup snd_var)) (snd_call snb_call (snd_cons snd_var (snd_cons snd_var (snd_cons snd_var snd_nil)))) snd_var) (by decide)) snd_nil)))) h⟩

@[irreducible] def m__law_shape : MF := body3 n__law_shape.length 1
    (sSeq (sPar3 1 2 3 (eTup (aCons (eC (.str "letter")) (aCons (eC (.int 0)) aNil))) (eTup (aCons (eC (.str "letter")) (aCons (eC (.int 1)) aNil))) (eCB (call3 m__law_way) (aCons (eVar 0) (aCons (eC (.int 2)) (aCons (eC (.bool true)) aNil)))))
    (sSeq (sSet (eCB gDraw (aCons (eVar 0) (aCons (eC (.int 4)) aNil))) (gwName 4))
    (sSeq (sIf (tw (eOp (gEq false) (eVar 4) (eC (.int 0)))) (sSeq (sSet (eCB (call3 (m__law_saying 3)) (aCons (eVar 0) (aCons (eC (.int 3)) (aCons (eC (.int 2)) (aCons (eC (.int 2)) (aCons (eC (.bool true)) aNil)))))) (gwName 5))
    (sRet (eTup (aCons (eC (.str "or")) (aCons (eVar 5) (aCons (eTup (aCons (eC (.str "not")) (aCons (eVar 5) aNil))) aNil)))))) sNext)
    (sSeq (sIf (tw (eOp (gEq false) (eVar 4) (eC (.int 1)))) (sRet (eTup (aCons (eC (.str "gives")) (aCons (eTup (aCons (eC (.str "each")) (aCons (eVar 3) (aCons (eTup (aCons (eC (.str "gives")) (aCons (eVar 1) (aCons (eVar 2) aNil)))) aNil)))) (aCons (eTup (aCons (eC (.str "gives")) (aCons (eTup (aCons (eC (.str "each")) (aCons (eVar 3) (aCons (eVar 1) aNil)))) (aCons (eTup (aCons (eC (.str "each")) (aCons (eVar 3) (aCons (eVar 2) aNil)))) aNil)))) aNil))))) sNext)
    (sSeq (sIf (tw (eOp (gEq false) (eVar 4) (eC (.int 2)))) (sRet (eTup (aCons (eC (.str "gives")) (aCons (eVar 1) (aCons (eTup (aCons (eC (.str "each")) (aCons (eVar 3) (aCons (eTup (aCons (eC (.str "some")) (aCons (eOp (gI0 (· - ·)) (eNeg (eC (.int 1))) (eVar 3)) (aCons (eVar 1) aNil)))) aNil)))) aNil))))) sNext)
    (sRet (eTup (aCons (eC (.str "gives")) (aCons (eTup (aCons (eC (.str "some")) (aCons (eVar 3) (aCons (eTup (aCons (eC (.str "or")) (aCons (eVar 1) (aCons (eVar 2) aNil)))) aNil)))) (aCons (eTup (aCons (eC (.str "or")) (aCons (eTup (aCons (eC (.str "some")) (aCons (eVar 3) (aCons (eVar 2) aNil)))) (aCons (eTup (aCons (eC (.str "some")) (aCons (eVar 3) (aCons (eVar 1) aNil)))) aNil)))) aNil))))))))))
theorem ok__law_shape (T : Tops K w mg) : FnOk P w K mg base CX0 8 T.a__law_shape T.fd__law_shape p__law_shape (sp3 K m__law_shape) := by
  have S := sc__law_shape
  refine T.F__law_shape.ok S (fun vs H Q E h => by unfold m__law_shape at h; exact len3 h) (fun cdv A outer s0 H vs Q E hr h => ?_)
  unfold m__law_shape at h
  exact ⟨_, (pss_cons (ps_par3 (i := 1) (j := 2) (l := 3) rfl S.nd rfl rfl rfl (by decide) (by decide) (by decide) rfl rfl rfl (pa_cons (pe_tup (pa_cons pe_str (pa_cons pe_int pa_nil))) (pa_cons (pe_tup (pa_cons pe_str (pa_cons pe_int pa_nil))) (pa_cons (pe_call (ok__law_way T) (hr.mono (by first | decide | omega)) (by rfl) T.g__law_way T.F__law_way.kp T.b__law_way .nil pass0 (pa_cons (pv 0) (pa_cons pe_int (pa_cons pe_bl pa_nil)))) pa_nil))) (by rfl))
      (pss_cons (ps_set (i := 4) S.nd rfl (Or.inl rfl) (pe_call (ok__law_draw T) (hr.mono (by first | decide | omega)) (by rfl) T.g__law_draw T.F__law_draw.kp T.b__law_draw .nil pass0 (pa_cons (pv 0) (pa_cons pe_int pa_nil))))
      (pss_cons (ps_if (pt_cmpR op_eq (pv 4) pe_int (nomark _)) (pss_cons (ps_set (i := 5) S.nd rfl (Or.inl rfl) (pe_call (ok__law_saying T 3) (hr.mono (by omega)) (by rfl) T.g__law_saying T.F__law_saying.kp T.b__law_saying .nil pass0 (pa_cons (pv 0) (pa_cons pe_int (pa_cons pe_int (pa_cons pe_int (pa_cons pe_bl pa_nil)))))))
      (pss_one (ps_ret (pe_tup (pa_cons pe_str (pa_cons (pv 5) (pa_cons (pe_tup (pa_cons pe_str (pa_cons (pv 5) pa_nil))) pa_nil))))))) pss_nil)
      (pss_cons (ps_if (pt_cmpR op_eq (pv 4) pe_int (nomark _)) (pss_one (ps_ret (pe_tup (pa_cons pe_str (pa_cons (pe_tup (pa_cons pe_str (pa_cons (pv 3) (pa_cons (pe_tup (pa_cons pe_str (pa_cons (pv 1) (pa_cons (pv 2) pa_nil)))) pa_nil)))) (pa_cons (pe_tup (pa_cons pe_str (pa_cons (pe_tup (pa_cons pe_str (pa_cons (pv 3) (pa_cons (pv 1) pa_nil)))) (pa_cons (pe_tup (pa_cons pe_str (pa_cons (pv 3) (pa_cons (pv 2) pa_nil)))) pa_nil)))) pa_nil)))))) pss_nil)
      (pss_cons (ps_if (pt_cmpR op_eq (pv 4) pe_int (nomark _)) (pss_one (ps_ret (pe_tup (pa_cons pe_str (pa_cons (pv 1) (pa_cons (pe_tup (pa_cons pe_str (pa_cons (pv 3) (pa_cons (pe_tup (pa_cons pe_str (pa_cons (pe_op op_sub (pe_un un_neg pe_int) (pv 3)) (pa_cons (pv 1) pa_nil)))) pa_nil)))) pa_nil)))))) pss_nil)
      (pss_one (ps_ret (pe_tup (pa_cons pe_str (pa_cons (pe_tup (pa_cons pe_str (pa_cons (pv 3) (pa_cons (pe_tup (pa_cons pe_str (pa_cons (pv 1) (pa_cons (pv 2) pa_nil)))) pa_nil)))) (pa_cons (pe_tup (pa_cons pe_str (pa_cons (pe_tup (pa_cons pe_str (pa_cons (pv 3) (pa_cons (pv 2) pa_nil)))) (pa_cons (pe_tup (pa_cons pe_str (pa_cons (pv 3) (pa_cons (pv 1) pa_nil)))) pa_nil)))) pa_nil))))))))))), run3 (sns_seq (sns_par3 (snd_tup (snd_cons snd_str (snd_cons snd_int snd_nil))) (snd_tup (snd_cons snd_str (snd_cons snd_int snd_nil))) (snd_call snb_call (snd_cons snd_var (snd_cons snd_int (snd_cons snd_bl snd_nil)))))
      (sns_seq (sns_set (snd_call snb_draw (snd_cons snd_var (snd_cons snd_int snd_nil))) sng_name)
      (sns_seq (sns_if (snt_test (snd_op sop_eq snd_var snd_int)) (sns_seq (sns_set (snd_call snb_call (snd_cons snd_var (snd_cons snd_int (snd_cons snd_int (snd_cons snd_int (snd_cons snd_bl snd_nil)))))) sng_name)
      (sns_ret (snd_tup (snd_cons snd_str (snd_cons snd_var (snd_cons (snd_tup (snd_cons snd_str (snd_cons snd_var snd_nil))) snd_nil)))))) sns_next)
      (sns_seq (sns_if (snt_test (snd_op sop_eq snd_var snd_int)) (sns_ret (snd_tup (snd_cons snd_str (snd_cons (snd_tup (snd_cons snd_str (snd_cons snd_var (snd_cons (snd_tup (snd_cons snd_str (snd_cons snd_var (snd_cons snd_var snd_nil)))) snd_nil)))) (snd_cons (snd_tup (snd_cons snd_str (snd_cons (snd_tup (snd_cons snd_str (snd_cons snd_var (snd_cons snd_var snd_nil)))) (snd_cons (snd_tup (snd_cons snd_str (snd_cons snd_var (snd_cons snd_var snd_nil)))) snd_nil)))) snd_nil))))) sns_next)
      (sns_seq (sns_if (snt_test (snd_op sop_eq snd_var snd_int)) (sns_ret (snd_tup (snd_cons snd_str (snd_cons snd_var (snd_cons (snd_tup (snd_cons snd_str (snd_cons snd_var (snd_cons (snd_tup (snd_cons snd_str (snd_cons (snd_op sop_sub (snd_neg snd_int) snd_var) (snd_cons snd_var snd_nil)))) snd_nil)))) snd_nil))))) sns_next)
      (sns_ret (snd_tup (snd_cons snd_str (snd_cons (snd_tup (snd_cons snd_str (snd_cons snd_var (snd_cons (snd_tup (snd_cons snd_str (snd_cons snd_var (snd_cons snd_var snd_nil)))) snd_nil)))) (snd_cons (snd_tup (snd_cons snd_str (snd_cons (snd_tup (snd_cons snd_str (snd_cons snd_var (snd_cons snd_var snd_nil)))) (snd_cons (snd_tup (snd_cons snd_str (snd_cons snd_var (snd_cons snd_var snd_nil)))) snd_nil)))) snd_nil)))))))))) h⟩

@[irreducible] def m__law_stays : MF := body3 n__law_stays.length 4
    (sSeq (sIf (twNot (tw (eCB gLike (aCons (eVar 3) (aCons (eVar 2) aNil))))) (sRet (eC (.bool false))) sNext)
    (sSeq (sSet (eCB (call3 m__law_kept) (aCons (eVar 0) (aCons (eVar 2) aNil))) (gwName 4))
    (sRet (eAnd (eCB gLike (aCons (eCB gTried (aCons (eVar 0) (aCons (eVar 3) aNil))) (aCons (eCB (call3 m__law_spots) (aCons (eVar 4) (aCons (eOp (gIx asT) (eVar 0) (eC (.int 0))) aNil))) aNil))) (eOp (gEq false) (eOp (gBit (· &&& ·)) (eVar 1) (eVar 4)) (eVar 1))))))
theorem ok__law_stays (T : Tops K w mg) : FnG P w K mg base 47 T.a__law_stays T.fd__law_stays p__law_stays (sp3 K m__law_stays) := by
  have S := sc__law_stays
  refine of_body T.F__law_stays S (fun vs H Q E h => by unfold m__law_stays at h; exact len3 h) (fun cdv A outer s0 H vs Q E hgd hr h => ?_)
  unfold m__law_stays at h
  exact ⟨_, (pss_cons (ps_if (pt_not (pt_val (pe_callG (ok__law_like T) (hr.mono (by first | decide | omega)) hgd (by rfl) T.g__law_like T.F__law_like.kp T.b__law_like .nil pass0 (pa_cons (pv 3) (pa_cons (pv 2) pa_nil))))) (pss_one (ps_ret pe_bl)) pss_nil)
      (pss_cons (ps_set (i := 4) S.nd rfl (Or.inl rfl) (pe_call (ok__law_kept T) (hr.mono (by first | decide | omega)) (by rfl) T.g__law_kept T.F__law_kept.kp T.b__law_kept .nil pass0 (pa_cons (pv 0) (pa_cons (pv 2) pa_nil))))
      (pss_one (ps_ret (pe_and (pe_callG (ok__law_like T) (hr.mono (by first | decide | omega)) hgd (by rfl) T.g__law_like T.F__law_like.kp T.b__law_like .nil pass0 (pa_cons (pe_call (ok_tried T) (hr.mono (by first | decide | omega)) (by rfl) T.g_tried T.F_tried.kp T.b_tried .nil pass0 (pa_cons (pv 0) (pa_cons (pv 3) pa_nil))) (pa_cons (pe_call (ok__law_spots T) (hr.mono (by first | decide | omega)) (by rfl) T.g__law_spots T.F__law_spots.kp T.b__law_spots .nil pass0 (pa_cons (pv 4) (pa_cons (pe_ix (ix_tupK (K := K)) (pv 0) pe_int (fun _ _ => rfl)) pa_nil))) pa_nil))) (pe_one (pe_cmpR op_eq (pe_op V6.op_andB (pv 1) (pv 4)) (pv 1) (nomark _)))))))), run3 (sns_seq (sns_if (snt_not (snt_test (snd_call snb_like (snd_cons snd_var (snd_cons snd_var snd_nil))))) (sns_ret snd_bl) sns_next)
      (sns_seq (sns_set (snd_call snb_call (snd_cons snd_var (snd_cons snd_var snd_nil))) sng_name)
      (sns_ret (snd_and (snd_call snb_like (snd_cons (snd_call snb_tried (snd_cons snd_var (snd_cons snd_var snd_nil))) (snd_cons (snd_call snb_call (snd_cons snd_var (snd_cons (snd_op sop_ixT snd_var snd_int) snd_nil))) snd_nil))) (snd_op sop_eq (snd_op sop_bit snd_var snd_var) snd_var))))) h⟩

@[irreducible] def m__law_right : MF := body3 n__law_right.length 3
    (sSeq (sSet (eCB (call3 m__law_kept) (aCons (eVar 1) (aCons (eVar 2) aNil))) (gwName 3))
    (sSeq (sIf (twNot (tw (eCB gLike (aCons (eCB gTried (aCons (eVar 1) (aCons (eVar 2) aNil))) (aCons (eCB (call3 m__law_spots) (aCons (eVar 3) (aCons (eOp (gIx asT) (eVar 1) (eC (.int 0))) aNil))) aNil))))) (sRet (eC (.bool false))) sNext)
    (sSeq (sPar 4 5 (eCB gDraw (aCons (eVar 0) (aCons (eC (.int 2)) aNil))) (eCB (call3 (m__law_saying 3)) (aCons (eVar 0) (aCons (eC (.int 3)) (aCons (eC (.int 2)) (aCons (eC (.int 2)) (aCons (eC (.bool true)) aNil)))))))
    (sSeq (sIf (twNot (tw (eCB (call3 m__law_stays) (aCons (eVar 1) (aCons (eVar 3) (aCons (eCB (call3 (m__law_put 12)) (aCons (eVar 2) (aCons (eVar 4) (aCons (eVar 5) aNil)))) (aCons (eCB (call3 m_put_in) (aCons (eVar 2) (aCons (eVar 4) (aCons (eVar 5) aNil)))) aNil))))))) (sRet (eC (.bool false))) sNext)
    (sSeq (sSet (eCB gTupOf (aCons (eLc (iRg1 (eC (.int 8))) (gwName 7) twYes (eCB gDraw (aCons (eVar 0) (aCons (eC (.int 2)) aNil))) [7]) aNil)) (gwName 6))
    (sRet (eCB (call3 m__law_stays) (aCons (eVar 1) (aCons (eVar 3) (aCons (eCB (call3 (m__law_moved 12)) (aCons (eVar 2) (aCons (eVar 6) aNil))) (aCons (eCB (call3 m_renamed) (aCons (eVar 2) (aCons (eVar 6) aNil))) aNil)))))))))))
theorem ok__law_right (T : Tops K w mg) : FnG P w K mg base 48 T.a__law_right T.fd__law_right p__law_right (sp3 K m__law_right) := by
  have S := sc__law_right
  refine of_body T.F__law_right S (fun vs H Q E h => by unfold m__law_right at h; exact len3 h) (fun cdv A outer s0 H vs Q E hgd hr h => ?_)
  unfold m__law_right at h
  exact ⟨_, (pss_cons (ps_set (i := 3) S.nd rfl (Or.inl rfl) (pe_call (ok__law_kept T) (hr.mono (by first | decide | omega)) (by rfl) T.g__law_kept T.F__law_kept.kp T.b__law_kept .nil pass0 (pa_cons (pv 1) (pa_cons (pv 2) pa_nil))))
      (pss_cons (ps_if (pt_not (pt_val (pe_callG (ok__law_like T) (hr.mono (by first | decide | omega)) hgd (by rfl) T.g__law_like T.F__law_like.kp T.b__law_like .nil pass0 (pa_cons (pe_call (ok_tried T) (hr.mono (by first | decide | omega)) (by rfl) T.g_tried T.F_tried.kp T.b_tried .nil pass0 (pa_cons (pv 1) (pa_cons (pv 2) pa_nil))) (pa_cons (pe_call (ok__law_spots T) (hr.mono (by first | decide | omega)) (by rfl) T.g__law_spots T.F__law_spots.kp T.b__law_spots .nil pass0 (pa_cons (pv 3) (pa_cons (pe_ix (ix_tupK (K := K)) (pv 1) pe_int (fun _ _ => rfl)) pa_nil))) pa_nil))))) (pss_one (ps_ret pe_bl)) pss_nil)
      (pss_cons (ps_par (i := 4) (j := 5) rfl S.nd rfl rfl (by decide) rfl rfl (pa_cons (pe_call (ok__law_draw T) (hr.mono (by first | decide | omega)) (by rfl) T.g__law_draw T.F__law_draw.kp T.b__law_draw .nil pass0 (pa_cons (pv 0) (pa_cons pe_int pa_nil))) (pa_cons (pe_call (ok__law_saying T 3) (hr.mono (by omega)) (by rfl) T.g__law_saying T.F__law_saying.kp T.b__law_saying .nil pass0 (pa_cons (pv 0) (pa_cons pe_int (pa_cons pe_int (pa_cons pe_int (pa_cons pe_bl pa_nil)))))) pa_nil)) (by rfl))
      (pss_cons (ps_if (pt_not (pt_val (pe_callG (ok__law_stays T) (hr.mono (by first | decide | omega)) hgd (by rfl) T.g__law_stays T.F__law_stays.kp T.b__law_stays .nil pass0 (pa_cons (pv 1) (pa_cons (pv 3) (pa_cons (pe_call (ok__law_put T 12) (hr.mono (by omega)) (by rfl) T.g__law_put T.F__law_put.kp T.b__law_put .nil pass0 (pa_cons (pv 2) (pa_cons (pv 4) (pa_cons (pv 5) pa_nil)))) (pa_cons (pe_call (ok_put_in T) (hr.mono (by first | decide | omega)) (by rfl) T.g_put_in T.F_put_in.kp T.b_put_in .nil pass0 (pa_cons (pv 2) (pa_cons (pv 4) (pa_cons (pv 5) pa_nil)))) pa_nil))))))) (pss_one (ps_ret pe_bl)) pss_nil)
      (pss_cons (ps_set (i := 6) S.nd rfl (Or.inl rfl) (pe_callTy (call_tupleK (K := K)) (by rfl) T.m_tuple (by decide +kernel) (pa_cons (pe_lc (own := [("step", 7)]) rfl S.nd (pi_range1 (by rfl) T.m_range (pa_cons pe_int pa_nil)) (blkOk_by (N := n__law_right) (sc := defScope s__law_right) (by decide +kernel)) (fun _ _ _ _ _ => (pg_name (i := 7) S.nd rfl (Or.inl rfl))) (fun _ _ _ _ _ => pts_nil) (fun _ _ _ _ _ => (pe_call (ok__law_draw T) (hr.mono (by first | decide | omega)) (by rfl) T.g__law_draw T.F__law_draw.kp T.b__law_draw .nil pass0 (pa_cons (pv 0) (pa_cons pe_int pa_nil))))) pa_nil)))
      (pss_one (ps_ret (pe_callG (ok__law_stays T) (hr.mono (by first | decide | omega)) hgd (by rfl) T.g__law_stays T.F__law_stays.kp T.b__law_stays .nil pass0 (pa_cons (pv 1) (pa_cons (pv 3) (pa_cons (pe_call (ok__law_moved T 12) (hr.mono (by omega)) (by rfl) T.g__law_moved T.F__law_moved.kp T.b__law_moved .nil pass0 (pa_cons (pv 2) (pa_cons (pv 6) pa_nil))) (pa_cons (pe_call (ok_renamed T) (hr.mono (by first | decide | omega)) (by rfl) T.g_renamed T.F_renamed.kp T.b_renamed .nil pass0 (pa_cons (pv 2) (pa_cons (pv 6) pa_nil))) pa_nil)))))))))))), run3 (sns_seq (sns_set (snd_call snb_call (snd_cons snd_var (snd_cons snd_var snd_nil))) sng_name)
      (sns_seq (sns_if (snt_not (snt_test (snd_call snb_like (snd_cons (snd_call snb_tried (snd_cons snd_var (snd_cons snd_var snd_nil))) (snd_cons (snd_call snb_call (snd_cons snd_var (snd_cons (snd_op sop_ixT snd_var snd_int) snd_nil))) snd_nil))))) (sns_ret snd_bl) sns_next)
      (sns_seq (sns_par (snd_call snb_draw (snd_cons snd_var (snd_cons snd_int snd_nil))) (snd_call snb_call (snd_cons snd_var (snd_cons snd_int (snd_cons snd_int (snd_cons snd_int (snd_cons snd_bl snd_nil)))))))
      (sns_seq (sns_if (snt_not (snt_test (snd_call snb_call (snd_cons snd_var (snd_cons snd_var (snd_cons (snd_call snb_call (snd_cons snd_var (snd_cons snd_var (snd_cons snd_var snd_nil)))) (snd_cons (snd_call snb_call (snd_cons snd_var (snd_cons snd_var (snd_cons snd_var snd_nil)))) snd_nil))))))) (sns_ret snd_bl) sns_next)
      (sns_seq (sns_set (snd_cb snb_tup (snd_cons (snd_lc (sni_rg1 snd_int) sng_name snt_yes (snd_call snb_draw (snd_cons snd_var (snd_cons snd_int snd_nil))) (by decide)) snd_nil)) sng_name)
      (sns_ret (snd_call snb_call (snd_cons snd_var (snd_cons snd_var (snd_cons (snd_call snb_call (snd_cons snd_var (snd_cons snd_var snd_nil))) (snd_cons (snd_call snb_call (snd_cons snd_var (snd_cons snd_var snd_nil))) snd_nil))))))))))) h⟩

end
end K0

/-! M7: what is told is right. -/
namespace K0
open PySem PySem.Spec PyProof.Rows L2 W0 W1 W2 W5 W6 V0 V1 V6
theorem inV_ints (x : Int) : ∀ l : List Int, L2.inV (V.int x) (l.map V.int) = decide (x ∈ l)
  | [] => by rw [decide_eq_false List.not_mem_nil]; rfl
  | y :: l => by
    have ih := inV_ints x l
    show ((y == x) || L2.inV (V.int x) (l.map V.int)) = _
    rw [ih]
    by_cases e : y = x
    · rw [e, beq_self_eq_true, Bool.true_or, decide_eq_true List.mem_cons_self]
    · rw [beq_eq_false_iff_ne.mpr e, Bool.false_or]
      exact decide_eq_decide.mpr ⟨fun h => List.mem_cons_of_mem _ h, fun h => (List.mem_cons.mp h).elim (fun z => absurd z.symm e) id⟩
theorem gIn_i {n : Nat} {x : Int} {l : List Int} {post : Nat → Val → Prop} {b : Bool} (h : decide (x ∈ l) = b) (q : post n (.dat (.bool b))) : gIn false n (.dat (.int x)) (.dat (.tuple (l.map PyData.int))) post := by
  unfold gIn
  show match toF (.int x), toFs (l.map PyData.int) with
    | some x, some xs => post n (.dat (.bool (if false = true then !inV x xs else inV x xs)))
    | _, _ => False
  rw [toFs_ints]
  show post n (.dat (.bool (if false = true then !inV (.int x) (l.map V.int) else inV (.int x) (l.map V.int))))
  rw [if_neg (by decide), inV_ints, h]
  exact q
theorem mem_held {s : Nat} {f : Int → Bool} {i : Nat} (h : i < s) : decide ((i : Int) ∈ heldL s f) = f i := by
  rw [Bool.eq_iff_iff, decide_eq_true_iff]
  unfold heldL
  rw [List.mem_map]
  constructor
  · rintro ⟨j, hj, e⟩
    have : j = i := by omega
    subst this
    exact (List.mem_filter.mp hj).2
  · intro hf
    exact ⟨i, List.mem_filter.mpr ⟨List.mem_range.mpr h, hf⟩, rfl⟩
theorem ascB {B : Nat} : ∀ {L : List Nat} (c : Nat), L.Pairwise (· < ·) → (∀ i ∈ L, c ≤ i ∧ i < B) → L.length + c ≤ B ∨ L = []
  | [], _, _, _ => .inr rfl
  | a :: l, c, h, b => by
    have ha := b a List.mem_cons_self
    have hp := List.pairwise_cons.mp h
    refine .inl ?_
    rcases ascB (a + 1) hp.2 (fun i hi => ⟨hp.1 i hi, (b i (List.mem_cons_of_mem _ hi)).2⟩) with e | e
    · rw [List.length_cons]; omega
    · subst e; show 1 + c ≤ B; omega
theorem IsL.most {t : Say} {L : List Nat} {m : Nat} (h : IsL t L) (few : ∀ i, Say.lt i ∈ t.words → i < m) : L.length ≤ m := by
  rcases ascB (B := m) 0 h.1 (fun i hi => ⟨Nat.zero_le _, few i ((h.2 i).mp hi)⟩) with e | e
  · omega
  · subst e; exact Nat.zero_le _
theorem sub_len : ∀ {L M : List Nat}, L.Pairwise (· < ·) → (∀ x ∈ L, x ∈ M) → L.length ≤ M.length
  | [], _, _, _ => Nat.zero_le _
  | a :: l, M, h, s => by
    have hp := List.pairwise_cons.mp h
    have ha := s a List.mem_cons_self
    have := sub_len (L := l) (M := M.erase a) hp.2 fun x hx => (List.mem_erase_of_ne (by have := hp.1 x hx; omega)).mpr (s x (List.mem_cons_of_mem _ hx))
    rw [List.length_erase_of_mem ha] at this
    have := List.length_pos_of_mem ha
    rw [List.length_cons]
    omega
theorem words_le : ∀ t : Say, t.words.length + 1 ≤ 2 ^ t.deep
  | .lt _ => (by decide : 1 + 1 ≤ 2 ^ 1)
  | .hr _ => (by decide : 1 + 1 ≤ 2 ^ 1)
  | .yes => by decide
  | .no => by decide
  | .nt a => by
    have := words_le a
    show (a.words.length + 1) + 1 ≤ 2 ^ (a.deep + 1)
    rw [Nat.pow_succ]; omega
  | .ea _ a => by
    have := words_le a
    show (a.words.length + 1) + 1 ≤ 2 ^ (a.deep + 1)
    rw [Nat.pow_succ]; omega
  | .so _ a => by
    have := words_le a
    show (a.words.length + 1) + 1 ≤ 2 ^ (a.deep + 1)
    rw [Nat.pow_succ]; omega
  | .an a b => by
    have h1 := words_le a
    have h2 := words_le b
    show ((a.words ++ b.words).length + 1) + 1 ≤ 2 ^ (max a.deep b.deep + 1)
    have p1 : 2 ^ a.deep ≤ 2 ^ max a.deep b.deep := Nat.pow_le_pow_right (by decide) (Nat.le_max_left _ _)
    have p2 : 2 ^ b.deep ≤ 2 ^ max a.deep b.deep := Nat.pow_le_pow_right (by decide) (Nat.le_max_right _ _)
    rw [Nat.pow_succ, List.length_append]; omega
  | .orr a b => by
    have h1 := words_le a
    have h2 := words_le b
    show ((a.words ++ b.words).length + 1) + 1 ≤ 2 ^ (max a.deep b.deep + 1)
    have p1 : 2 ^ a.deep ≤ 2 ^ max a.deep b.deep := Nat.pow_le_pow_right (by decide) (Nat.le_max_left _ _)
    have p2 : 2 ^ b.deep ≤ 2 ^ max a.deep b.deep := Nat.pow_le_pow_right (by decide) (Nat.le_max_right _ _)
    rw [Nat.pow_succ, List.length_append]; omega
  | .gv a b => by
    have h1 := words_le a
    have h2 := words_le b
    show ((a.words ++ b.words).length + 1) + 1 ≤ 2 ^ (max a.deep b.deep + 1)
    have p1 : 2 ^ a.deep ≤ 2 ^ max a.deep b.deep := Nat.pow_le_pow_right (by decide) (Nat.le_max_left _ _)
    have p2 : 2 ^ b.deep ≤ 2 ^ max a.deep b.deep := Nat.pow_le_pow_right (by decide) (Nat.le_max_right _ _)
    rw [Nat.pow_succ, List.length_append]; omega
theorem words_few {t : Say} (h : t.deep ≤ 6) : t.words.length ≤ 400 := by
  have h1 := words_le t
  have h2 : 2 ^ t.deep ≤ 2 ^ 6 := Nat.pow_le_pow_right (by decide) h
  have h3 : (2 : Nat) ^ 6 = 64 := rfl
  omega
theorem mask_congr {s : Nat} {f g : Int → Bool} (h : ∀ x : Nat, x < s → f x = g x) : maskF s f = maskF s g := bits_ext fun i => by
  rw [bits_test]
  by_cases hi : i < s
  · rw [decide_eq_true hi, Bool.true_and, Bool.true_and]
    exact h i hi
  · rw [decide_eq_false hi, Bool.false_and, Bool.false_and]
/-- the items of a row of truths -/
def boolF (f : Int → Bool) : PyData → Option PyData := fun x => match x with
  | .int i => some (.bool (f i))
  | _ => none
theorem boolF_bl {f : Int → Bool} {s : Nat} : ∀ d ∈ (rgD 0 s).filterMap (boolF f), ∃ b : Bool, d = .bool b := fun d hd => by
  obtain ⟨x, hx, e⟩ := List.mem_filterMap.mp hd
  obtain ⟨i, _, rfl⟩ := rg_mem hx
  exact ⟨f i, (Option.some.inj e).symm⟩
theorem keep_an (A : List T3) (a b : Say) (x : Int) : keepB A (.an a b) x = (keepB A a x && keepB A b x) := by
  rw [Bool.eq_iff_iff, Bool.and_eq_true, keepB_iff, keepB_iff, keepB_iff]
  constructor
  · intro h
    exact ⟨fun v => (Bool.and_eq_true _ _ ▸ h v : _ ∧ _).1, fun v => (Bool.and_eq_true _ _ ▸ h v : _ ∧ _).2⟩
  · intro ⟨h, k⟩ v
    show (holdV A v no0 a x && holdV A v no0 b x) = true
    rw [h v, k v]
    rfl
theorem keep_ea (A : List T3) (w : Int) (a : Say) (x : Int) : keepB A (.ea w a) x = (ledS A w x).all (keepB A a) := by
  rw [Bool.eq_iff_iff, List.all_eq_true, keepB_iff]
  constructor
  · intro h y hy
    exact keepB_iff.mpr fun v => List.all_eq_true.mp (h v) y hy
  · intro h v
    exact List.all_eq_true.mpr fun y hy => keepB_iff.mp (h y hy) v
theorem keep_gv {A : List T3} {a b : Say} {x : Int} (h : keepB A (.gv a b) x = true) (k : keepB A a x = true) : keepB A b x = true := by
  refine keepB_iff.mpr fun v => ?_
  have h1 : (!holdV A v no0 a x || holdV A v no0 b x) = true := keepB_iff.mp h v
  rw [keepB_iff.mp k v] at h1
  exact h1
theorem lren_hold (A : List T3) (f : Nat → Nat) (v : Nat → Int → Bool) : ∀ (t : Say) (x : Int), holdV A v no0 (lren f t) x = holdV A (fun i => v (f i)) no0 t x
  | .lt _, _ => rfl
  | .hr _, _ => rfl
  | .yes, _ => rfl
  | .no, _ => rfl
  | .nt a, x => by
    show (!holdV A v no0 (lren f a) x) = !holdV A _ no0 a x
    rw [lren_hold A f v a]
  | .an a b, x => by
    show (holdV A v no0 (lren f a) x && holdV A v no0 (lren f b) x) = (holdV A _ no0 a x && holdV A _ no0 b x)
    rw [lren_hold A f v a, lren_hold A f v b]
  | .orr a b, x => by
    show (holdV A v no0 (lren f a) x || holdV A v no0 (lren f b) x) = (holdV A _ no0 a x || holdV A _ no0 b x)
    rw [lren_hold A f v a, lren_hold A f v b]
  | .gv a b, x => by
    show (!holdV A v no0 (lren f a) x || holdV A v no0 (lren f b) x) = (!holdV A _ no0 a x || holdV A _ no0 b x)
    rw [lren_hold A f v a, lren_hold A f v b]
  | .ea w a, x => by
    show (ledS A w x).all (holdV A v no0 (lren f a)) = (ledS A w x).all (holdV A _ no0 a)
    rw [funext (lren_hold A f v a)]
  | .so w a, x => by
    show (ledS A w x).any (holdV A v no0 (lren f a)) = (ledS A w x).any (holdV A _ no0 a)
    rw [funext (lren_hold A f v a)]
theorem lren_deep (f : Nat → Nat) : ∀ t : Say, (lren f t).deep = t.deep
  | .lt _ => rfl
  | .hr _ => rfl
  | .yes => rfl
  | .no => rfl
  | .nt a => congrArg (· + 1) (lren_deep f a)
  | .ea _ a => congrArg (· + 1) (lren_deep f a)
  | .so _ a => congrArg (· + 1) (lren_deep f a)
  | .an a b => by show max (lren f a).deep (lren f b).deep + 1 = max a.deep b.deep + 1; rw [lren_deep f a, lren_deep f b]
  | .orr a b => by show max (lren f a).deep (lren f b).deep + 1 = max a.deep b.deep + 1; rw [lren_deep f a, lren_deep f b]
  | .gv a b => by show max (lren f a).deep (lren f b).deep + 1 = max a.deep b.deep + 1; rw [lren_deep f a, lren_deep f b]
theorem lren_words (f : Nat → Nat) : ∀ t : Say, (lren f t).words = t.words.map (lren f)
  | .lt _ => rfl
  | .hr _ => rfl
  | .yes => rfl
  | .no => rfl
  | .nt a => by show lren f (.nt a) :: (lren f a).words = _; rw [lren_words f a]; rfl
  | .ea w a => by show lren f (.ea w a) :: (lren f a).words = _; rw [lren_words f a]; rfl
  | .so w a => by show lren f (.so w a) :: (lren f a).words = _; rw [lren_words f a]; rfl
  | .an a b => by show lren f (.an a b) :: ((lren f a).words ++ (lren f b).words) = lren f (.an a b) :: (a.words ++ b.words).map (lren f); rw [lren_words f a, lren_words f b, List.map_append]
  | .orr a b => by show lren f (.orr a b) :: ((lren f a).words ++ (lren f b).words) = lren f (.orr a b) :: (a.words ++ b.words).map (lren f); rw [lren_words f a, lren_words f b, List.map_append]
  | .gv a b => by show lren f (.gv a b) :: ((lren f a).words ++ (lren f b).words) = lren f (.gv a b) :: (a.words ++ b.words).map (lren f); rw [lren_words f a, lren_words f b, List.map_append]
theorem lren_letter {f : Nat → Nat} {t : Say} {i : Nat} (h : Say.lt i ∈ (lren f t).words) : ∃ j, Say.lt j ∈ t.words ∧ f j = i := by
  rw [lren_words] at h
  obtain ⟨u, hu, e⟩ := List.mem_map.mp h
  cases u with
  | lt j => exact ⟨j, hu, by injection e⟩
  | _ => cases e
theorem lren_ok {f : Nat → Nat} (hf : ∀ i, f i < 8) : ∀ t : Say, t.Ok → (lren f t).Ok
  | .lt i, _ => hf i
  | .hr _, h => h
  | .yes, _ => trivial
  | .no, _ => trivial
  | .nt a, h => lren_ok hf a h
  | .ea _ a, h => ⟨h.1, lren_ok hf a h.2⟩
  | .so _ a, h => ⟨h.1, lren_ok hf a h.2⟩
  | .an a b, h => ⟨lren_ok hf a h.1, lren_ok hf b h.2⟩
  | .orr a b, h => ⟨lren_ok hf a h.1, lren_ok hf b h.2⟩
  | .gv a b, h => ⟨lren_ok hf a h.1, lren_ok hf b h.2⟩
theorem keep_lren {s : Nat} {A : List T3} (wok : WOk s A) {f g : Nat → Nat} {t : Say} (inv : ∀ i, Say.lt i ∈ t.words → g (f i) = i) {x : Nat} (hx : x < s) : keepB A t x = keepB A (lren f t) x := by
  rw [Bool.eq_iff_iff, keepB_iff, keepB_iff]
  constructor
  · intro h v
    rw [lren_hold]
    exact h _
  · intro h v
    have h1 := h fun k => v (g k)
    rw [lren_hold] at h1
    rw [← h1]
    exact hold_agree wok t (fun i hi y _ _ => by show v i y = v (g (f i)) y; rw [inv i hi]) x (by omega) (by omega)
end K0

/-! M8: sayings put in for letters. -/
namespace K0
open PySem PySem.Spec PyProof.Rows L2 W0 W1 W2 W5 W6 V0 V1 V6
def ssub (f : Nat → Say) : Say → Say
  | .lt i => f i
  | .hr j => .hr j
  | .yes => .yes
  | .no => .no
  | .nt a => .nt (ssub f a)
  | .an a b => .an (ssub f a) (ssub f b)
  | .orr a b => .orr (ssub f a) (ssub f b)
  | .gv a b => .gv (ssub f a) (ssub f b)
  | .ea w a => .ea w (ssub f a)
  | .so w a => .so w (ssub f a)
theorem ssub_hold (A : List T3) (f : Nat → Say) (v : Nat → Int → Bool) : ∀ (t : Say) (x : Int), holdV A v no0 (ssub f t) x = holdV A (fun i y => holdV A v no0 (f i) y) no0 t x
  | .lt _, _ => rfl
  | .hr _, _ => rfl
  | .yes, _ => rfl
  | .no, _ => rfl
  | .nt a, x => by
    show (!holdV A v no0 (ssub f a) x) = !holdV A _ no0 a x
    rw [ssub_hold A f v a]
  | .an a b, x => by
    show (holdV A v no0 (ssub f a) x && holdV A v no0 (ssub f b) x) = (holdV A _ no0 a x && holdV A _ no0 b x)
    rw [ssub_hold A f v a, ssub_hold A f v b]
  | .orr a b, x => by
    show (holdV A v no0 (ssub f a) x || holdV A v no0 (ssub f b) x) = (holdV A _ no0 a x || holdV A _ no0 b x)
    rw [ssub_hold A f v a, ssub_hold A f v b]
  | .gv a b, x => by
    show (!holdV A v no0 (ssub f a) x || holdV A v no0 (ssub f b) x) = (!holdV A _ no0 a x || holdV A _ no0 b x)
    rw [ssub_hold A f v a, ssub_hold A f v b]
  | .ea w a, x => by
    show (ledS A w x).all (holdV A v no0 (ssub f a)) = (ledS A w x).all (holdV A _ no0 a)
    rw [funext (ssub_hold A f v a)]
  | .so w a, x => by
    show (ledS A w x).any (holdV A v no0 (ssub f a)) = (ledS A w x).any (holdV A _ no0 a)
    rw [funext (ssub_hold A f v a)]
theorem keep_ssub {A : List T3} {f : Nat → Say} {t : Say} {x : Int} (h : keepB A t x = true) : keepB A (ssub f t) x = true := keepB_iff.mpr fun v => by
  rw [ssub_hold]
  exact keepB_iff.mp h _
theorem SayF.sub {few m deep : Nat} {f : Nat → Say} (hf : ∀ i, i < few → SayF few (m + 1) (f i)) : ∀ {t : Say}, SayF few deep t → SayF few (deep + m) (ssub f t)
  | .lt i, h => (hf i (h.few i (List.mem_singleton.mpr rfl))).mono (Nat.le_refl _) (by have : 1 ≤ deep := h.deep; omega)
  | .hr _, h => h.ok.elim
  | .yes, h => SayF.leaf (by have : 1 ≤ deep := h.deep; omega) (.inl rfl)
  | .no, h => SayF.leaf (by have : 1 ≤ deep := h.deep; omega) (.inr rfl)
  | .nt a, h => by
    obtain ⟨d, rfl⟩ : ∃ d, deep = d + 1 := ⟨deep - 1, by have : a.deep + 1 ≤ deep := h.deep; omega⟩
    have ha : SayF few d a := ⟨h.ok, Nat.le_of_succ_le_succ h.deep, fun i k => h.few i (List.mem_cons_of_mem _ k)⟩
    exact (SayF.nt (ha.sub hf)).mono (Nat.le_refl _) (by omega)
  | .ea w a, h => by
    obtain ⟨d, rfl⟩ : ∃ d, deep = d + 1 := ⟨deep - 1, by have : a.deep + 1 ≤ deep := h.deep; omega⟩
    have ha : SayF few d a := ⟨h.ok.2, Nat.le_of_succ_le_succ h.deep, fun i k => h.few i (List.mem_cons_of_mem _ k)⟩
    have hs := ha.sub hf
    exact ⟨⟨h.ok.1, hs.ok⟩, by show (ssub f a).deep + 1 ≤ _; have := hs.deep; omega, fun i k => hs.few i ((List.mem_cons.mp k).elim (fun e => by cases e) id)⟩
  | .so w a, h => by
    obtain ⟨d, rfl⟩ : ∃ d, deep = d + 1 := ⟨deep - 1, by have : a.deep + 1 ≤ deep := h.deep; omega⟩
    have ha : SayF few d a := ⟨h.ok.2, Nat.le_of_succ_le_succ h.deep, fun i k => h.few i (List.mem_cons_of_mem _ k)⟩
    have hs := ha.sub hf
    exact ⟨⟨h.ok.1, hs.ok⟩, by show (ssub f a).deep + 1 ≤ _; have := hs.deep; omega, fun i k => hs.few i ((List.mem_cons.mp k).elim (fun e => by cases e) id)⟩
  | .an a b, h => by
    obtain ⟨d, rfl⟩ : ∃ d, deep = d + 1 := ⟨deep - 1, by have : max a.deep b.deep + 1 ≤ deep := h.deep; omega⟩
    have hd : max a.deep b.deep + 1 ≤ d + 1 := h.deep
    have ha : SayF few d a := ⟨h.ok.1, by omega, fun i k => h.few i (List.mem_cons_of_mem _ (List.mem_append_left _ k))⟩
    have hb : SayF few d b := ⟨h.ok.2, by omega, fun i k => h.few i (List.mem_cons_of_mem _ (List.mem_append_right _ k))⟩
    exact ((ha.sub hf).an (hb.sub hf)).mono (Nat.le_refl _) (by omega)
  | .orr a b, h => by
    obtain ⟨d, rfl⟩ : ∃ d, deep = d + 1 := ⟨deep - 1, by have : max a.deep b.deep + 1 ≤ deep := h.deep; omega⟩
    have hd : max a.deep b.deep + 1 ≤ d + 1 := h.deep
    have ha : SayF few d a := ⟨h.ok.1, by omega, fun i k => h.few i (List.mem_cons_of_mem _ (List.mem_append_left _ k))⟩
    have hb : SayF few d b := ⟨h.ok.2, by omega, fun i k => h.few i (List.mem_cons_of_mem _ (List.mem_append_right _ k))⟩
    exact ((ha.sub hf).orr (hb.sub hf)).mono (Nat.le_refl _) (by omega)
  | .gv a b, h => by
    obtain ⟨d, rfl⟩ : ∃ d, deep = d + 1 := ⟨deep - 1, by have : max a.deep b.deep + 1 ≤ deep := h.deep; omega⟩
    have hd : max a.deep b.deep + 1 ≤ d + 1 := h.deep
    have ha : SayF few d a := ⟨h.ok.1, by omega, fun i k => h.few i (List.mem_cons_of_mem _ (List.mem_append_left _ k))⟩
    have hb : SayF few d b := ⟨h.ok.2, by omega, fun i k => h.few i (List.mem_cons_of_mem _ (List.mem_append_right _ k))⟩
    exact ((ha.sub hf).gv (hb.sub hf)).mono (Nat.le_refl _) (by omega)
/-- the letters of a part stand in the whole -/
theorem lets_nt {a : Say} {i : Nat} (h : Say.lt i ∈ a.words) : Say.lt i ∈ (Say.nt a).words := List.mem_cons_of_mem _ h
set_option maxHeartbeats 2000000 in
theorem w_replaced {f : Nat → Say} {tb : List PyData} : ∀ (d : Nat) (t : Say), t.Ok → (∀ i, Say.lt i ∈ t.words → tb[i]? = some (dSay (f i))) → t.deep ≤ d → ∀ (n : Nat) (post : Nat → Val → Prop), post n (.dat (dSay (ssub f t))) → m_replaced d [.dat (dSay t), .dat (.str "letter"), .dat (.list tb)] n post
  | 0, t, _, _, hd, _, _, _ => by have := Say.deep_pos t; omega
  | d + 1, t, ok, hT, hd, n, post, q => by
    have ih := w_replaced (f := f) (tb := tb) d
    show ms_replaced (m_replaced d) _ n post
    unfold ms_replaced
    cases t with
    | hr j => exact ok.elim
    | lt i => exact ⟨rfl, gIx_of rfl (atI_nat (j := 0) rfl) (gEq_s (b := true) (by decide +kernel) (gIx_of rfl (atI_nat (j := 1) rfl) (gIx_of rfl (atI_nat (j := i) (hT i (List.mem_singleton.mpr rfl))) q)))⟩
    | yes => exact ⟨rfl, gIx_of rfl (atI_nat (j := 0) rfl) (gEq_s (b := false) (by decide +kernel) (gIB_of (b := true) rfl (gEq_s (b := false) (by decide +kernel) q)))⟩
    | no => exact ⟨rfl, gIx_of rfl (atI_nat (j := 0) rfl) (gEq_s (b := false) (by decide +kernel) (gIB_of (b := true) rfl (gEq_s (b := false) (by decide +kernel) q)))⟩
    | nt a =>
      have hd : a.deep + 1 ≤ d + 1 := hd
      exact ⟨rfl, gIx_of rfl (atI_nat (j := 0) rfl) (gEq_s (b := false) (by decide +kernel) (gIB_of (b := true) rfl (gEq_s (b := true) (by decide +kernel) (gIx_of rfl (atI_nat (j := 1) rfl) (ih a ok (fun i m => hT i (List.mem_cons_of_mem _ m)) (by omega) _ _ q)))))⟩
    | ea w a =>
      have hd : a.deep + 1 ≤ d + 1 := hd
      exact ⟨rfl, gIx_of rfl (atI_nat (j := 0) rfl) (gEq_s (b := false) (by decide +kernel) (gIB_of (b := false) rfl (gEq_s (b := true) (by decide +kernel) (gIx_of rfl (atI_nat (j := 1) rfl) (gIx_of rfl (atI_nat (j := 2) rfl) (ih a ok.2 (fun i m => hT i (List.mem_cons_of_mem _ m)) (by omega) _ _ q))))))⟩
    | so w a =>
      have hd : a.deep + 1 ≤ d + 1 := hd
      exact ⟨rfl, gIx_of rfl (atI_nat (j := 0) rfl) (gEq_s (b := false) (by decide +kernel) (gIB_of (b := false) rfl (gEq_s (b := false) (by decide +kernel) (gEq_s (b := true) (by decide +kernel) (gIx_of rfl (atI_nat (j := 1) rfl) (gIx_of rfl (atI_nat (j := 2) rfl) (ih a ok.2 (fun i m => hT i (List.mem_cons_of_mem _ m)) (by omega) _ _ q)))))))⟩
    | an a b =>
      have hd : max a.deep b.deep + 1 ≤ d + 1 := hd
      exact ⟨rfl, gIx_of rfl (atI_nat (j := 0) rfl) (gEq_s (b := false) (by decide +kernel) (gIB_of (b := false) rfl (gEq_s (b := false) (by decide +kernel) (gEq_s (b := false) (by decide +kernel) (gIx_of rfl (atI_nat (j := 1) rfl) (ih a ok.1 (fun i m => hT i (List.mem_cons_of_mem _ (List.mem_append_left _ m))) (by omega) _ _ (gIx_of rfl (atI_nat (j := 2) rfl) (ih b ok.2 (fun i m => hT i (List.mem_cons_of_mem _ (List.mem_append_right _ m))) (by omega) _ _ q))))))))⟩
    | orr a b =>
      have hd : max a.deep b.deep + 1 ≤ d + 1 := hd
      exact ⟨rfl, gIx_of rfl (atI_nat (j := 0) rfl) (gEq_s (b := false) (by decide +kernel) (gIB_of (b := false) rfl (gEq_s (b := false) (by decide +kernel) (gEq_s (b := false) (by decide +kernel) (gIx_of rfl (atI_nat (j := 1) rfl) (ih a ok.1 (fun i m => hT i (List.mem_cons_of_mem _ (List.mem_append_left _ m))) (by omega) _ _ (gIx_of rfl (atI_nat (j := 2) rfl) (ih b ok.2 (fun i m => hT i (List.mem_cons_of_mem _ (List.mem_append_right _ m))) (by omega) _ _ q))))))))⟩
    | gv a b =>
      have hd : max a.deep b.deep + 1 ≤ d + 1 := hd
      exact ⟨rfl, gIx_of rfl (atI_nat (j := 0) rfl) (gEq_s (b := false) (by decide +kernel) (gIB_of (b := false) rfl (gEq_s (b := false) (by decide +kernel) (gEq_s (b := false) (by decide +kernel) (gIx_of rfl (atI_nat (j := 1) rfl) (ih a ok.1 (fun i m => hT i (List.mem_cons_of_mem _ (List.mem_append_left _ m))) (by omega) _ _ (gIx_of rfl (atI_nat (j := 2) rfl) (ih b ok.2 (fun i m => hT i (List.mem_cons_of_mem _ (List.mem_append_right _ m))) (by omega) _ _ q))))))))⟩
abbrev dSize (t : Say) : PyData := dInts [(t.words.length : Int), (t.deep : Int)]
theorem words_bin (a b : Say) : (Say.an a b).words.length = a.words.length + b.words.length + 1 := by
  show (a.words ++ b.words).length + 1 = _
  rw [List.length_append]
set_option maxHeartbeats 2000000 in
theorem w_size_with {f : Nat → Say} {tb : List PyData} : ∀ (d : Nat) (t : Say), t.Ok → (∀ i, Say.lt i ∈ t.words → tb[i]? = some (dSize (f i))) → t.deep ≤ d → ∀ (n : Nat) (post : Nat → Val → Prop), post n (.dat (dSize (ssub f t))) → m_size_with d [.dat (dSay t), .dat (.list tb)] n post
  | 0, t, _, _, hd, _, _, _ => by have := Say.deep_pos t; omega
  | d + 1, t, ok, hT, hd, n, post, q => by
    have ih := w_size_with (f := f) (tb := tb) d
    show ms_size_with (m_size_with d) _ n post
    unfold ms_size_with
    cases t with
    | hr j => exact ok.elim
    | lt i => exact ⟨rfl, gIx_of rfl (atI_nat (j := 0) rfl) (gEq_s (b := true) (by decide +kernel) (gIx_of rfl (atI_nat (j := 1) rfl) (gIx_of rfl (atI_nat (j := i) (hT i (List.mem_singleton.mpr rfl))) q)))⟩
    | yes => exact ⟨rfl, gIx_of rfl (atI_nat (j := 0) rfl) (gEq_s (b := false) (by decide +kernel) (gIB_of (b := true) rfl (gEq_s (b := true) (by decide +kernel) q)))⟩
    | no => exact ⟨rfl, gIx_of rfl (atI_nat (j := 0) rfl) (gEq_s (b := false) (by decide +kernel) (gIB_of (b := true) rfl (gEq_s (b := true) (by decide +kernel) q)))⟩
    | nt a =>
      have hd : a.deep + 1 ≤ d + 1 := hd
      refine ⟨rfl, gIx_of rfl (atI_nat (j := 0) rfl) (gEq_s (b := false) (by decide +kernel) (gIB_of (b := true) rfl (gEq_s (b := false) (by decide +kernel) (gIx_of rfl rfl (ih a ok (fun i m => hT i (List.mem_cons_of_mem _ m)) (by omega) _ _ ⟨rfl, gIB_of (b := true) rfl (gI0_of rfl (gI0_of rfl ?_))⟩)))))⟩
      exact q
    | ea w a =>
      have hd : a.deep + 1 ≤ d + 1 := hd
      refine ⟨rfl, gIx_of rfl (atI_nat (j := 0) rfl) (gEq_s (b := false) (by decide +kernel) (gIB_of (b := false) rfl (gIx_of rfl rfl (ih a ok.2 (fun i m => hT i (List.mem_cons_of_mem _ m)) (by omega) _ _ ⟨rfl, gIB_of (b := false) rfl (gEq_s (b := true) (by decide +kernel) (gI0_of rfl (gI0_of rfl ?_)))⟩))))⟩
      exact q
    | so w a =>
      have hd : a.deep + 1 ≤ d + 1 := hd
      refine ⟨rfl, gIx_of rfl (atI_nat (j := 0) rfl) (gEq_s (b := false) (by decide +kernel) (gIB_of (b := false) rfl (gIx_of rfl rfl (ih a ok.2 (fun i m => hT i (List.mem_cons_of_mem _ m)) (by omega) _ _ ⟨rfl, gIB_of (b := false) rfl (gEq_s (b := false) (by decide +kernel) (gEq_s (b := true) (by decide +kernel) (gI0_of rfl (gI0_of rfl ?_))))⟩))))⟩
      exact q
    | an a b =>
      have hd : max a.deep b.deep + 1 ≤ d + 1 := hd
      have q : post n (.dat (dInts [((Say.an (ssub f a) (ssub f b)).words.length : Int), ((max (ssub f a).deep (ssub f b).deep + 1 : Nat) : Int)])) := q
      refine ⟨rfl, gIx_of rfl (atI_nat (j := 0) rfl) (gEq_s (b := false) (by decide +kernel) (gIB_of (b := false) rfl (gIx_of rfl rfl (ih b ok.2 (fun i m => hT i (List.mem_cons_of_mem _ (List.mem_append_right _ m))) (by omega) _ _ ⟨rfl, gIB_of (b := false) rfl (gEq_s (b := false) (by decide +kernel) (gEq_s (b := false) (by decide +kernel) (gIx_of rfl (atI_nat (j := 1) rfl) (ih a ok.1 (fun i m => hT i (List.mem_cons_of_mem _ (List.mem_append_left _ m))) (by omega) _ _ ⟨rfl, gI0_of rfl (gI0_of (r := ((Say.an (ssub f a) (ssub f b)).words.length : Int)) ?_ (gI0_of (r := ((max (ssub f a).deep (ssub f b).deep + 1 : Nat) : Int)) ?_ ?_))⟩))))⟩))))⟩
      · rw [words_bin]; omega
      · split <;> omega
      · exact q
    | orr a b =>
      have hd : max a.deep b.deep + 1 ≤ d + 1 := hd
      have q : post n (.dat (dInts [((Say.an (ssub f a) (ssub f b)).words.length : Int), ((max (ssub f a).deep (ssub f b).deep + 1 : Nat) : Int)])) := q
      refine ⟨rfl, gIx_of rfl (atI_nat (j := 0) rfl) (gEq_s (b := false) (by decide +kernel) (gIB_of (b := false) rfl (gIx_of rfl rfl (ih b ok.2 (fun i m => hT i (List.mem_cons_of_mem _ (List.mem_append_right _ m))) (by omega) _ _ ⟨rfl, gIB_of (b := false) rfl (gEq_s (b := false) (by decide +kernel) (gEq_s (b := false) (by decide +kernel) (gIx_of rfl (atI_nat (j := 1) rfl) (ih a ok.1 (fun i m => hT i (List.mem_cons_of_mem _ (List.mem_append_left _ m))) (by omega) _ _ ⟨rfl, gI0_of rfl (gI0_of (r := ((Say.an (ssub f a) (ssub f b)).words.length : Int)) ?_ (gI0_of (r := ((max (ssub f a).deep (ssub f b).deep + 1 : Nat) : Int)) ?_ ?_))⟩))))⟩))))⟩
      · rw [words_bin]; omega
      · split <;> omega
      · exact q
    | gv a b =>
      have hd : max a.deep b.deep + 1 ≤ d + 1 := hd
      have q : post n (.dat (dInts [((Say.an (ssub f a) (ssub f b)).words.length : Int), ((max (ssub f a).deep (ssub f b).deep + 1 : Nat) : Int)])) := q
      refine ⟨rfl, gIx_of rfl (atI_nat (j := 0) rfl) (gEq_s (b := false) (by decide +kernel) (gIB_of (b := false) rfl (gIx_of rfl rfl (ih b ok.2 (fun i m => hT i (List.mem_cons_of_mem _ (List.mem_append_right _ m))) (by omega) _ _ ⟨rfl, gIB_of (b := false) rfl (gEq_s (b := false) (by decide +kernel) (gEq_s (b := false) (by decide +kernel) (gIx_of rfl (atI_nat (j := 1) rfl) (ih a ok.1 (fun i m => hT i (List.mem_cons_of_mem _ (List.mem_append_left _ m))) (by omega) _ _ ⟨rfl, gI0_of rfl (gI0_of (r := ((Say.an (ssub f a) (ssub f b)).words.length : Int)) ?_ (gI0_of (r := ((max (ssub f a).deep (ssub f b).deep + 1 : Nat) : Int)) ?_ ?_))⟩))))⟩))))⟩
      · rw [words_bin]; omega
      · split <;> omega
      · exact q
end K0

/-! MF: a saying may be shown. -/
namespace K0
open PySem PySem.Spec PyProof.Rows L2 W0 W1 W2 W5 W6 V0 V1 V6
theorem fine_hd (s : Say) : Fine 0 6 (.str s.hd) := by
  cases s with
  | lt i => exact (show Fine 0 6 (.str "letter") from ⟨by decide +kernel, by decide +kernel, rfl, by decide +kernel, Nat.le_refl _, by decide +kernel⟩)
  | hr i => exact (show Fine 0 6 (.str "here") from ⟨by decide +kernel, by decide +kernel, rfl, by decide +kernel, Nat.le_refl _, by decide +kernel⟩)
  | yes => exact (show Fine 0 6 (.str "yes") from ⟨by decide +kernel, by decide +kernel, rfl, by decide +kernel, Nat.le_refl _, by decide +kernel⟩)
  | no => exact (show Fine 0 6 (.str "no") from ⟨by decide +kernel, by decide +kernel, rfl, by decide +kernel, Nat.le_refl _, by decide +kernel⟩)
  | nt a => exact (show Fine 0 6 (.str "not") from ⟨by decide +kernel, by decide +kernel, rfl, by decide +kernel, Nat.le_refl _, by decide +kernel⟩)
  | an a b => exact (show Fine 0 6 (.str "and") from ⟨by decide +kernel, by decide +kernel, rfl, by decide +kernel, Nat.le_refl _, by decide +kernel⟩)
  | orr a b => exact (show Fine 0 6 (.str "or") from ⟨by decide +kernel, by decide +kernel, rfl, by decide +kernel, Nat.le_refl _, by decide +kernel⟩)
  | gv a b => exact (show Fine 0 6 (.str "gives") from ⟨by decide +kernel, by decide +kernel, rfl, by decide +kernel, Nat.le_refl _, by decide +kernel⟩)
  | ea w a => exact (show Fine 0 6 (.str "each") from ⟨by decide +kernel, by decide +kernel, rfl, by decide +kernel, Nat.le_refl _, by decide +kernel⟩)
  | so w a => exact (show Fine 0 6 (.str "some") from ⟨by decide +kernel, by decide +kernel, rfl, by decide +kernel, Nat.le_refl _, by decide +kernel⟩)
theorem fine_say : ∀ (d : Nat) (s : Say), s.Ok → s.deep ≤ d → Fine d (10 * 4 ^ d) (dSay s)
  | 0, s, _, h => absurd (Say.deep_pos s) (by omega)
  | d + 1, s, ok, h => by
    have p1 : 1 ≤ 4 ^ d := Nat.one_le_pow _ _ (by decide)
    have l3 : (PyData.str s.hd :: (s.ex.map PyData.int ++ s.parts.map dSay)).length ≤ 3 := by cases s <;> simp [Say.ex, Say.parts]
    have f : Fine (d + 1) (3 * (10 * 4 ^ d + 1)) (.tuple (.str s.hd :: (s.ex.map PyData.int ++ s.parts.map dSay))) := by
      refine Fine.tup (k := d) (n := 10 * 4 ^ d) (m := 3) (fun e he => ?_) l3
      rcases List.mem_cons.mp he with rfl | he
      · exact (fine_hd s).mono (Nat.zero_le _) (by omega)
      rcases List.mem_append.mp he with he | he
      · obtain ⟨i, hi, rfl⟩ := List.mem_map.mp he
        refine (Fine.int ?_).mono (Nat.zero_le _) (Nat.zero_le _)
        cases s with
        | lt j =>
          have := List.mem_singleton.mp hi
          have h8 : j < 8 := ok
          omega
        | ea j a =>
          have := List.mem_singleton.mp hi
          have h8 : -3 ≤ j ∧ j ≤ 2 := ok.1
          omega
        | so j a =>
          have := List.mem_singleton.mp hi
          have h8 : -3 ≤ j ∧ j ≤ 2 := ok.1
          omega
        | hr j => exact (show False from ok).elim
        | _ => exact (List.not_mem_nil hi).elim
      · obtain ⟨t, ht, rfl⟩ := List.mem_map.mp he
        have := Say.deep_part ht
        exact fine_say d t (ok.part ht) (by omega)
    rw [dSay_eq]
    refine f.mono (Nat.le_refl _) ?_
    rw [Nat.pow_succ]
    omega
theorem fine_say8 {s : Say} (ok : s.Ok) (h : s.deep ≤ 8) : Fine 8 655360 (dSay s) := (fine_say 8 s ok h).mono (Nat.le_refl _) (by decide)
end K0

/-! M9: what is put in stays kept. -/
namespace K0
open PySem PySem.Spec PyProof.Rows L2 W0 W1 W2 W5 W6 V0 V1 V6
theorem SayF.try {s few deep : Nat} {A : List T3} {t : Say} (h : SayF few deep t) (wok : WOk s A) (hd : deep ≤ 8) (hm : s * few ≤ 12) : Tryable s A t := ⟨wok, h.ok, Nat.le_trans h.deep (by omega), (by
  have h1 := words_le t
  have h2 : 2 ^ t.deep ≤ 2 ^ 8 := Nat.pow_le_pow_right (by decide) (Nat.le_trans h.deep hd)
  have h3 : (2 : Nat) ^ 8 = 256 := rfl
  omega), fun L hL => Nat.le_trans (Nat.mul_le_mul_left s (hL.most h.few)) hm⟩
theorem words_8 {few deep : Nat} {t : Say} (h : SayF few deep t) (hd : deep ≤ 8) : t.words.length ≤ 400 := by
  have h1 := words_le t
  have h2 : 2 ^ t.deep ≤ 2 ^ 8 := Nat.pow_le_pow_right (by decide) (Nat.le_trans h.deep hd)
  have h3 : (2 : Nat) ^ 8 = 256 := rfl
  omega
/-- one letter's place taken by a saying -/
def put1 (k : Nat) (m : Say) : Nat → Say := fun i => if i = k then m else .lt i
theorem put1_f {few d k : Nat} {m : Say} (h : SayF few (d + 1) m) (f8 : few ≤ 8) : ∀ i, i < few → SayF few (d + 1) (put1 k m i) := fun i hi => by
  unfold put1
  split
  · exact h
  · exact ⟨by show i < 8; omega, by show 1 ≤ d + 1; omega, fun j hj => by have := List.mem_singleton.mp hj; injection this with this; omega⟩
set_option maxHeartbeats 2000000 in
theorem w_put {k : Nat} {m : Say} : ∀ (d : Nat) (t : Say), t.Ok → t.deep ≤ d → ∀ (n : Nat) (post : Nat → Val → Prop), post n (.dat (dSay (ssub (put1 k m) t))) → m__law_put d [.dat (dSay t), .dat (.int (k : Int)), .dat (dSay m)] n post
  | 0, t, _, hd, _, _, _ => by have := Say.deep_pos t; omega
  | d + 1, t, ok, hd, n, post, q => by
    have ih := w_put (k := k) (m := m) d
    show ms__law_put (m__law_put d) _ n post
    unfold ms__law_put
    cases t with
    | hr j => exact ok.elim
    | lt i =>
      have q : post n (.dat (dSay (if i = k then m else .lt i))) := q
      by_cases e : i = k
      · rw [if_pos e] at q
        exact ⟨rfl, gIx_of rfl (atI_nat (j := 0) rfl) (gEq_s (b := true) (by decide +kernel) (gIx_of rfl (atI_nat (j := 1) rfl) (gEq_i (b := true) (by rw [decide_eq_true (by omega : (i : Int) = k)]; rfl) q)))⟩
      · rw [if_neg e] at q
        exact ⟨rfl, gIx_of rfl (atI_nat (j := 0) rfl) (gEq_s (b := true) (by decide +kernel) (gIx_of rfl (atI_nat (j := 1) rfl) (gEq_i (b := false) (by rw [decide_eq_false (by omega : ¬ (i : Int) = k)]; rfl) q)))⟩
    | yes => exact ⟨rfl, gIx_of rfl (atI_nat (j := 0) rfl) (gEq_s (b := false) (by decide +kernel) (isTup_str rfl ⟨Nat.zero_le _, q⟩))⟩
    | no => exact ⟨rfl, gIx_of rfl (atI_nat (j := 0) rfl) (gEq_s (b := false) (by decide +kernel) (isTup_str rfl ⟨Nat.zero_le _, q⟩))⟩
    | nt a =>
      have hd : a.deep + 1 ≤ d + 1 := hd
      exact ⟨rfl, gIx_of rfl (atI_nat (j := 0) rfl) (gEq_s (b := false) (by decide +kernel) (isTup_str rfl ⟨Nat.zero_le _, isTup_say rfl (ih a ok (by omega) _ _ ⟨by decide, q⟩)⟩))⟩
    | ea w a =>
      have hd : a.deep + 1 ≤ d + 1 := hd
      exact ⟨rfl, gIx_of rfl (atI_nat (j := 0) rfl) (gEq_s (b := false) (by decide +kernel) (isTup_str rfl ⟨Nat.zero_le _, isTup_int rfl ⟨by decide, isTup_say rfl (ih a ok.2 (by omega) _ _ ⟨by show 2 ≤ 1000000; decide, q⟩)⟩⟩))⟩
    | so w a =>
      have hd : a.deep + 1 ≤ d + 1 := hd
      exact ⟨rfl, gIx_of rfl (atI_nat (j := 0) rfl) (gEq_s (b := false) (by decide +kernel) (isTup_str rfl ⟨Nat.zero_le _, isTup_int rfl ⟨by decide, isTup_say rfl (ih a ok.2 (by omega) _ _ ⟨by show 2 ≤ 1000000; decide, q⟩)⟩⟩))⟩
    | an a b =>
      have hd : max a.deep b.deep + 1 ≤ d + 1 := hd
      exact ⟨rfl, gIx_of rfl (atI_nat (j := 0) rfl) (gEq_s (b := false) (by decide +kernel) (isTup_str rfl ⟨Nat.zero_le _, isTup_say rfl (ih a ok.1 (by omega) _ _ ⟨by decide, isTup_say rfl (ih b ok.2 (by omega) _ _ ⟨by show 2 ≤ 1000000; decide, q⟩)⟩)⟩))⟩
    | orr a b =>
      have hd : max a.deep b.deep + 1 ≤ d + 1 := hd
      exact ⟨rfl, gIx_of rfl (atI_nat (j := 0) rfl) (gEq_s (b := false) (by decide +kernel) (isTup_str rfl ⟨Nat.zero_le _, isTup_say rfl (ih a ok.1 (by omega) _ _ ⟨by decide, isTup_say rfl (ih b ok.2 (by omega) _ _ ⟨by show 2 ≤ 1000000; decide, q⟩)⟩)⟩))⟩
    | gv a b =>
      have hd : max a.deep b.deep + 1 ≤ d + 1 := hd
      exact ⟨rfl, gIx_of rfl (atI_nat (j := 0) rfl) (gEq_s (b := false) (by decide +kernel) (isTup_str rfl ⟨Nat.zero_le _, isTup_say rfl (ih a ok.1 (by omega) _ _ ⟨by decide, isTup_say rfl (ih b ok.2 (by omega) _ _ ⟨by show 2 ≤ 1000000; decide, q⟩)⟩)⟩))⟩
/-- the eight letters -/
def lets8 : List PyData := (List.range 8).map fun (i : Nat) => dSay (.lt i)
theorem lets8_get {k i : Nat} {m : Say} (hi : i < 8) : (lets8.set k (dSay m))[i]? = some (dSay (put1 k m i)) := by
  unfold put1
  by_cases e : i = k
  · subst e
    rw [if_pos rfl, List.getElem?_set_self (by unfold lets8; rw [List.length_map, List.length_range]; exact hi)]
  · rw [if_neg e, List.getElem?_set_ne (fun z => e z.symm)]
    unfold lets8
    rw [List.getElem?_map, List.getElem?_range hi]
    rfl
theorem ones_get {k i : Nat} {m : Say} (hi : i < 8) : ((List.replicate 8 (PyData.tuple [.int 1, .int 1])).set k (dSize m))[i]? = some (dSize (put1 k m i)) := by
  unfold put1
  by_cases e : i = k
  · subst e
    rw [if_pos rfl, List.getElem?_set_self (by rw [List.length_replicate]; exact hi)]
  · rw [if_neg e, List.getElem?_set_ne (fun z => e z.symm), List.getElem?_replicate, if_pos hi]
    rfl
set_option maxHeartbeats 2000000 in
theorem w_put_in {few k a b : Nat} (f8 : few ≤ 8) (hk : k < 8) {t m : Say} (ht : SayF few a t) (hm : SayF few (b + 1) m) (hab : a + b ≤ 8) {n : Nat} {post : Nat → Val → Prop} (q : post n (.dat (dSay (ssub (put1 k m) t)))) : m_put_in [.dat (dSay t), .dat (.int (k : Int)), .dat (dSay m)] n post := by
  have h8 : ∀ i, Say.lt i ∈ t.words → i < 8 := fun i h => Nat.lt_of_lt_of_le (ht.few i h) f8
  have hs := ht.sub (put1_f (k := k) hm f8)
  have a1 : 1 ≤ a := Nat.le_trans (Say.deep_pos t) ht.deep
  have hsw := words_8 hs hab
  have hsd := hs.deep
  unfold m_put_in
  refine ⟨rfl, gNeedSay_of ht.ok (by have := ht.deep; omega) (words_8 ht (by omega)) (gIsLetter_of hk (gRepL_of (k := 8) rfl (by decide) (gNeedSay_of hm.ok (by have := hm.deep; omega) (words_8 hm (by omega)) (gSizeOf_of (by have := hm.deep; omega) (by have := words_8 hm (by omega); omega) (putK_of (j := k) (ix_at (by rw [List.length_replicate]; exact hk)) ?_)))))⟩
  refine w_size_with (f := put1 k m) 40 t ht.ok (fun i h => ones_get (h8 i h)) (by have := ht.deep; omega) _ _ ⟨rfl, gIB_of (b := false) (decide_eq_false (by omega)) (gIB_of (b := false) (decide_eq_false (by omega)) ⟨by decide, by decide, ?_⟩)⟩
  refine lcW_fm (fun x => some (.tuple [.str "letter", x])) (rgD 0 8) [] (fun x hx n k hk => ?_) (by rw [rgD_len']; decide) ?_
  · obtain ⟨i, hi, rfl⟩ := rg_mem hx
    exact hk
  refine putK_of (j := k) (ix_at ?_) ?_
  · show k < 8
    exact hk
  exact w_replaced (f := put1 k m) (tb := lets8.set k (dSay m)) 40 t ht.ok (fun i h => lets8_get (h8 i h)) (by have := ht.deep; omega) _ _ q
theorem fm_lets (l : List PyData) : l.filterMap (fun x => some (PyData.tuple [.str "letter", x])) = l.map fun x => .tuple [.str "letter", x] := by
  induction l with
  | nil => rfl
  | cons a l ih =>
    exact congrArg (PyData.tuple [.str "letter", a] :: ·) ih
theorem w_renamed {N : List Nat} (hN : N.length = 8) (h8 : ∀ k ∈ N, k < 8) {few a : Nat} (f8 : few ≤ 8) {t : Say} (ht : SayF few a t) (ha : a ≤ 8) {n : Nat} {post : Nat → Val → Prop} (q : post n (.dat (dSay (ssub (fun i => .lt ((N[i]?).getD 0)) t)))) : m_renamed [.dat (dSay t), .dat (.tuple (N.map fun (m : Nat) => PyData.int (m : Int)))] n post := by
  unfold m_renamed
  refine ⟨rfl, gNeedSay_of ht.ok (by have := ht.deep; omega) (words_8 ht ha) (gI0_of rfl ?_)⟩
  rw [show PyData.tuple (N.map fun (m : Nat) => PyData.int (m : Int)) = dInts (N.map fun (m : Nat) => (m : Int)) from congrArg _ (dN_ints N)]
  refine gAreNums_of (by rw [List.length_map, hN]; rfl) (by rw [List.length_map, hN]; decide) (fun x hx => ?_) ?_
  · obtain ⟨i, hi, rfl⟩ := List.mem_map.mp hx
    have := h8 i hi
    show 0 ≤ (i : Int) ∧ (i : Int) ≤ 8 - 1
    omega
  refine lcW_fm (fun x => some (.tuple [.str "letter", x])) ((N.map fun (m : Nat) => (m : Int)).map PyData.int) [] (fun x hx n k hk => hk) (by rw [List.length_map, List.length_map, hN]; decide) ?_
  refine w_replaced (f := fun i => .lt ((N[i]?).getD 0)) 40 t ht.ok (fun i h => ?_) (by have := ht.deep; omega) _ _ q
  have hi : i < N.length := by rw [hN]; exact Nat.lt_of_lt_of_le (ht.few i h) f8
  rw [List.nil_append, fm_lets, List.getElem?_map, List.getElem?_map, List.getElem?_map, List.getElem?_eq_getElem hi]
  rfl
theorem lren_ssub (f : Nat → Nat) : ∀ t : Say, lren f t = ssub (fun i => .lt (f i)) t
  | .lt _ => rfl
  | .hr _ => rfl
  | .yes => rfl
  | .no => rfl
  | .nt a => congrArg Say.nt (lren_ssub f a)
  | .ea w a => congrArg (Say.ea w) (lren_ssub f a)
  | .so w a => congrArg (Say.so w) (lren_ssub f a)
  | .an a b => by show Say.an _ _ = Say.an _ _; rw [lren_ssub f a, lren_ssub f b]
  | .orr a b => by show Say.orr _ _ = Say.orr _ _; rw [lren_ssub f a, lren_ssub f b]
  | .gv a b => by show Say.gv _ _ = Say.gv _ _; rw [lren_ssub f a, lren_ssub f b]
theorem fine_held {s : Nat} {f : Int → Bool} (hs : s ≤ 200) : Fine 1 200 (dInts (heldL s f)) := fine_ints' (fun x hx => by
  unfold heldL at hx
  obtain ⟨i, hi, rfl⟩ := List.mem_map.mp hx
  have := List.mem_range.mp (List.mem_filter.mp hi).1
  omega) (by have := heldL_few s f; omega)
theorem say_tup (t : Say) : (match dSay t with | .tuple _ => True | .list _ => True | _ => False) := by cases t <;> exact trivial
theorem gLike_say {n : Nat} {t : Say} {post : Nat → Val → Prop} (ok : t.Ok) (h : t.deep ≤ 8) (q : post n (.dat (.bool true))) : gLike n [.dat (dSay t), .dat (dSay t)] post := ⟨rfl, say_tup t, (fine_say8 ok h).mono (by decide) (by decide), q⟩
theorem w_stays {s few a : Nat} {A : List T3} (wok : WOk s A) {t u : Say} (hu : SayF few a u) (ha : a ≤ 8) (hm : s * few ≤ 12) (hs : s ≤ 12) (hk : ∀ x : Nat, x < s → keepB A t x = true → keepB A u x = true) {n : Nat} {post : Nat → Val → Prop} (q : post n (.dat (.bool true))) : m__law_stays [.dat (dWeb s A), .dat (.int ((kM s A t : Nat) : Int)), .dat (dSay u), .dat (dSay u)] n post := by
  have tu : Tryable s A u := hu.try wok ha hm
  unfold m__law_stays
  refine ⟨rfl, rfl, say_tup u, (fine_say8 hu.ok (by have := hu.deep; omega)).mono (by decide) (by decide), ?_⟩
  refine w_kept wok hu.ok (by have := hu.deep; omega) hs tu.few ?_
  refine gTried_of tu (gIx_of rfl (atI_nat (j := 0) rfl) (w_spots (by omega) ⟨rfl, trivial, (fine_held (by omega)).mono (by decide) (by decide), ?_⟩))
  refine gBit_e rfl rfl (mask_and s _ _) (gEq_i (b := true) ?_ q)
  rw [Bool.false_bne]
  refine decide_eq_true (congrArg _ (mask_congr fun x hx => ?_))
  show (keepB A t x && keepB A u x) = keepB A t x
  cases h : keepB A t x with
  | false => rfl
  | true => rw [hk x hx h]; rfl
end K0

/-! X3: the law's own mirror. -/
namespace K0
open PySem PySem.Spec PyProof.Rows L2 W0 W1 W2 W5 W6 V0 V1 V6
section
variable {P : Program} {w : World} {K : PySem.W.Frag} {mg : Str → Option Value} {base : Heap}
@[irreducible] noncomputable def m_law : SW :=
    (sSeq (sFor (iRg1 (eC (.int 3))) (gwName 2) (sSeq (sPar 4 6 (eCB gWeb (aCons (eVar 1) (aCons (eOp (gI0 (· + ·)) (eC (.int 2)) (eCB gDraw (aCons (eVar 1) (aCons (eC (.int 2)) aNil)))) (aCons (eC (.int 2)) aNil)))) (eCB (call3 m__law_shape) (aCons (eVar 1) aNil)))
    (sSeq (sIf (twOr (twNot (tw (eCB gLike (aCons (eCB gTried (aCons (eVar 4) (aCons (eVar 6) aNil))) (aCons (eTupRg (eOp (gIx asT) (eVar 4) (eC (.int 0)))) aNil))))) (twNot (tw (eCB (call3 m__law_right) (aCons (eVar 1) (aCons (eVar 4) (aCons (eVar 6) aNil))))))) (sRet (eC (.bool false))) sNext)
    (sIf (twNot (tw (eCB (call3 m__law_right) (aCons (eVar 1) (aCons (eCB gWeb (aCons (eVar 1) (aCons (eC (.int 2)) (aCons (eC (.int 2)) aNil)))) (aCons (eCB (call3 (m__law_saying 4)) (aCons (eVar 1) (aCons (eC (.int 4)) (aCons (eC (.int 2)) (aCons (eC (.int 2)) (aCons (eC (.bool true)) aNil)))))) aNil)))))) (sRet (eC (.bool false))) sNext))))
    (sSeq (sSet (eTup (aCons (eTup (aCons (eC (.str "letter")) (aCons (eC (.int 0)) aNil))) (aCons (eTup (aCons (eC (.int 2)) (aCons (eTup (aCons (eTup (aCons (eC (.int 0)) (aCons (eC (.int 0)) (aCons (eC (.int 1)) aNil)))) (aCons (eTup (aCons (eC (.int 0)) (aCons (eC (.int 1)) (aCons (eC (.int 0)) aNil)))) aNil))) aNil))) aNil))) (gwTup 2 (gwCons (gwName 3) (gwCons (gwName 4) gwNil))))
    (sSeq (sSet (eCB (call3 m_put_in) (aCons (eTup (aCons (eC (.str "gives")) (aCons (eVar 3) (aCons (eTup (aCons (eC (.str "letter")) (aCons (eC (.int 1)) aNil))) aNil)))) (aCons (eC (.int 1)) (aCons (eVar 3) aNil)))) (gwName 5))
    (sRet (eCB gLike (aCons (eLst (aCons (eVar 5) (aCons (eCB gTried (aCons (eVar 4) (aCons (eVar 5) aNil))) aNil))) (aCons (eLst (aCons (eTup (aCons (eC (.str "gives")) (aCons (eVar 3) (aCons (eVar 3) aNil)))) (aCons (eTup (aCons (eC (.int 0)) (aCons (eC (.int 1)) aNil))) aNil))) aNil)))))))
def sp_law (K : PySem.W.Frag) : Sp := fun vs H Q _ => ∃ (a : Addr) (ns : List Int), vs = [.ref a] ∧ SqL K H a (ns.map V.int) ∧ ns.length ≤ 63 ∧ ∀ H', Q (.bl true) H'
end
end K0

/-! M10: the law. -/
namespace K0
open PySem PySem.Spec PyProof.Rows L2 W0 W1 W2 W5 W6 V0 V1 V6
theorem lcW_any {g : GWt} {c : TW} {m : EW} {env : Env3} {post : Nat → Val → Prop} {N : Nat} (R : PyData → Prop) : ∀ (items : List PyData) {n : Nat} (acc : List PyData), (∀ x ∈ items, ∀ (n : Nat) (k : Nat → Option PyData → Prop), n ≤ N → (∀ d, R d → k (n + 1) (some d)) → elW g c m env x n k) → n + items.length ≤ N + 1 → acc.length + items.length ≤ 1000000 → (∀ ds : List PyData, ds.length = items.length → (∀ d ∈ ds, R d) → post (n + items.length) (.new (acc ++ ds))) → lcW g c m env items n acc post
  | [], n, acc, _, _, _, q => by
    have := q [] rfl (fun d h => nomatch h)
    rw [List.append_nil] at this
    exact this
  | x :: xs, n, acc, h, hN, hl, q => by
    rw [List.length_cons] at hN hl
    refine h x List.mem_cons_self n _ (by omega) fun d hd => ?_
    refine ⟨by omega, lcW_any R xs (acc ++ [d]) (fun y hy => h y (List.mem_cons_of_mem _ hy)) (by omega) (by rw [List.length_append]; show acc.length + 1 + xs.length ≤ _; omega) fun ds h1 h2 => ?_⟩
    have := q (d :: ds) (by rw [List.length_cons, List.length_cons, h1]) (fun e he => (List.mem_cons.mp he).elim (fun z => z ▸ hd) (h2 e))
    rw [List.length_cons, show n + (xs.length + 1) = n + 1 + xs.length by omega] at this
    rw [List.append_assoc]
    exact this
theorem tupRg_e {m : EW} {n : Nat} {env : Env3} {post : Nat → Val → Prop} (h : m n env fun n1 w => match w with
    | .dat (.int k) => 0 ≤ k ∧ k ≤ 16777216 ∧ post n1 (.dat (.tuple (rgD 0 k.toNat)))
    | _ => False) : eTupRg m n env post := by
  unfold eTupRg
  exact h
theorem held_all {f : Int → Bool} (h : ∀ x, f x = true) (s : Nat) : (heldL s f).map PyData.int = rgD 0 s := by
  unfold heldL rgD
  have e : (List.range s).filter (fun (x : Nat) => f x) = List.range s := List.filter_eq_self.mpr fun x _ => h x
  rw [e, List.map_map]
  refine List.map_congr_left fun i _ => ?_
  show PyData.int (i : Int) = .int (0 + (i : Int))
  rw [Int.zero_add]
theorem keep_t {A : List T3} {t : Say} {x : Int} (h : ∀ v, holdV A v no0 t x = true) : keepB A t x = true := keepB_iff.mpr h
theorem led_back {A : List T3} {w x y : Int} (h : y ∈ ledS A w x) : x ∈ ledS A (-1 - w) y := by
  unfold ledS at h ⊢
  obtain ⟨t, ht, e⟩ := List.mem_filterMap.mp h
  refine List.mem_filterMap.mpr ⟨t, ht, ?_⟩
  unfold ledF at e ⊢
  by_cases c : 0 ≤ w
  · rw [if_pos c] at e
    rw [if_neg (by omega)]
    split at e
    · rename_i k
      obtain rfl := Option.some.inj e
      rw [if_pos ⟨by omega, rfl⟩, k.2]
    · cases e
  · rw [if_neg c] at e
    rw [if_pos (by omega)]
    split at e
    · rename_i k
      obtain rfl := Option.some.inj e
      rw [if_pos ⟨by omega, rfl⟩, k.2]
    · cases e
theorem sayLt {few i : Nat} (h : i < few) (f8 : few ≤ 8) : SayF few 1 (.lt i) := ⟨by show i < 8; omega, Nat.le_refl _, fun j hj => by have := List.mem_singleton.mp hj; injection this with this; omega⟩
theorem w_shape {n : Nat} (hn : n ≤ 80000) {post : Nat → Val → Prop} (q : ∀ n' t, n' ≤ n + 40 → SayF 2 5 t → (∀ A x, keepB A t x = true) → post n' (.dat (dSay t))) : m__law_shape [.st] n post := by
  have P := sayLt (few := 2) (i := 0) (by decide) (by decide)
  have R := sayLt (few := 2) (i := 1) (by decide) (by decide)
  unfold m__law_shape
  refine ⟨rfl, w_way (by omega) fun n1 w hn1 w0 w1 => ⟨by decide, by decide, by omega, fun p p0 p1 => ?_⟩⟩
  by_cases a0 : p = 0
  · have p16 : (2 : Nat) ^ (3 + 1) = 16 := rfl
    refine gEq_i (b := true) (by rw [decide_eq_true a0]; rfl) (w_saying (few := 2) (by decide) (by decide) 3 3 (by decide) (by decide) (by decide) _ _ (by omega) fun n2 m hn2 hm => ?_)
    refine q n2 (.orr m (.nt m)) (by omega) ((hm.mono (Nat.le_refl _) (by decide : 3 ≤ 4)).orr hm.nt) fun A x => keep_t fun v => ?_
    show (holdV A v no0 m x || !holdV A v no0 m x) = true
    cases holdV A v no0 m x <;> rfl
  refine gEq_i (b := false) (by rw [decide_eq_false a0]; rfl) ?_
  by_cases a1 : p = 1
  · refine gEq_i (b := true) (by rw [decide_eq_true a1]; rfl) ?_
    refine q _ (.gv (.ea w (.gv (.lt 0) (.lt 1))) (.gv (.ea w (.lt 0)) (.ea w (.lt 1)))) (by omega) ((((P.gv R).ea w0 w1).gv (((P.ea w0 w1).gv (R.ea w0 w1)))).mono (Nat.le_refl _) (by decide)) fun A x => keep_t fun v => ?_
    show (!((ledS A w x).all fun y => !v 0 y || v 1 y) || (!((ledS A w x).all (v 0)) || (ledS A w x).all (v 1))) = true
    generalize ledS A w x = l
    cases h1 : l.all fun y => !v 0 y || v 1 y with
    | false => rfl
    | true =>
      cases h2 : l.all (v 0) with
      | false => rfl
      | true =>
        have : l.all (v 1) = true := List.all_eq_true.mpr fun y hy => by
          have k1 := List.all_eq_true.mp h1 y hy
          rw [List.all_eq_true.mp h2 y hy] at k1
          exact k1
        rw [this]
        rfl
  refine gEq_i (b := false) (by rw [decide_eq_false a1]; rfl) ?_
  by_cases a2 : p = 2
  · refine gEq_i (b := true) (by rw [decide_eq_true a2]; rfl) (gI0_of rfl ?_)
    refine q _ (.gv (.lt 0) (.ea w (.so (-1 - w) (.lt 0)))) (by omega) (((P.mono (Nat.le_refl _) (by decide : 1 ≤ 3)).gv ((P.so (by omega) (by omega)).ea w0 w1)).mono (Nat.le_refl _) (by decide)) fun A x => keep_t fun v => ?_
    show (!v 0 x || (ledS A w x).all fun y => (ledS A (-1 - w) y).any (v 0)) = true
    cases h : v 0 x with
    | false => rfl
    | true =>
      show ((ledS A w x).all fun y => (ledS A (-1 - w) y).any (v 0)) = true
      exact List.all_eq_true.mpr fun y hy => List.any_eq_true.mpr ⟨x, led_back hy, h⟩
  refine gEq_i (b := false) (by rw [decide_eq_false a2]; rfl) ?_
  refine q _ (.gv (.so w (.orr (.lt 0) (.lt 1))) (.orr (.so w (.lt 1)) (.so w (.lt 0)))) (by omega) ((((P.orr R).so w0 w1).gv ((R.so w0 w1).orr (P.so w0 w1))).mono (Nat.le_refl _) (by decide)) fun A x => keep_t fun v => ?_
  show (!((ledS A w x).any fun y => v 0 y || v 1 y) || ((ledS A w x).any (v 1) || (ledS A w x).any (v 0))) = true
  generalize ledS A w x = l
  cases h1 : l.any fun y => v 0 y || v 1 y with
  | false => rfl
  | true =>
    obtain ⟨y, hy, h⟩ := List.any_eq_true.mp h1
    show (l.any (v 1) || l.any (v 0)) = true
    rcases (Bool.or_eq_true _ _).mp h with h | h
    · rw [List.any_eq_true.mpr ⟨y, hy, h⟩, Bool.or_true]
    · rw [List.any_eq_true.mpr ⟨y, hy, h⟩, Bool.true_or]
theorem nats_of : ∀ {ds : List PyData}, (∀ d ∈ ds, ∃ k : Nat, k < 2 ∧ d = .int (k : Int)) → ∃ N : List Nat, ds = N.map (fun (m : Nat) => PyData.int (m : Int)) ∧ ∀ k ∈ N, k < 2
  | [], _ => ⟨[], rfl, fun _ h => nomatch h⟩
  | d :: ds, h => by
    obtain ⟨N, rfl, h2⟩ := nats_of fun e he => h e (List.mem_cons_of_mem _ he)
    obtain ⟨k, hk, rfl⟩ := h d List.mem_cons_self
    exact ⟨k :: N, rfl, fun j hj => (List.mem_cons.mp hj).elim (fun e => e ▸ hk) (h2 j)⟩
theorem w_right {s : Nat} {A : List T3} {t : Say} (wok : WOk s A) (s3 : s ≤ 4) (ht : SayF 2 5 t) {n : Nat} (hn : n ≤ 70000) {post : Nat → Val → Prop} (q : ∀ n', n' ≤ n + 60 → post n' (.dat (.bool true))) : m__law_right [.st, .dat (dWeb s A), .dat (dSay t)] n post := by
  have tt : Tryable s A t := ht.try wok (by decide) (by omega)
  have p16 : (2 : Nat) ^ (3 + 1) = 16 := rfl
  unfold m__law_right
  refine ⟨rfl, w_kept wok ht.ok (by have := ht.deep; omega) (by omega) tt.few (gTried_of tt (gIx_of rfl (atI_nat (j := 0) rfl) (w_spots (by omega) ⟨rfl, trivial, (fine_held (by omega)).mono (by decide) (by decide), ?_⟩)))⟩
  refine ⟨by decide, by decide, by omega, fun i i0 i1 => ?_⟩
  obtain ⟨k, rfl⟩ : ∃ k : Nat, i = k := ⟨i.toNat, (Int.toNat_of_nonneg i0).symm⟩
  refine w_saying (few := 2) (by decide) (by decide) 3 3 (by decide) (by decide) (by decide) _ _ (by omega) fun n2 m hn2 hm => ?_
  refine w_put 12 t ht.ok (by have := ht.deep; omega) _ _ (w_put_in (few := 2) (k := k) (a := 5) (b := 2) (by decide) (by omega) ht hm (by decide) ?_)
  refine w_stays wok (ht.sub (put1_f (k := k) hm (by decide))) (by decide) (by omega) (by omega) (fun x _ h => keep_ssub h) ?_
  refine ⟨by decide, by decide, ?_⟩
  refine lcW_any (N := 80000) (fun d => ∃ k : Nat, k < 2 ∧ d = .int (k : Int)) (rgD 0 8) [] (fun x hx n k hN hk => ?_) (by rw [rgD_len']; omega) (by rw [rgD_len']; decide) fun ds h1 h2 => ?_
  · obtain ⟨i, hi, rfl⟩ := rg_mem hx
    refine ⟨by decide, by decide, by omega, fun j j0 j1 => hk _ ⟨j.toNat, by omega, by rw [Int.toNat_of_nonneg j0]⟩⟩
  obtain ⟨N, rfl, N2⟩ := nats_of h2
  rw [rgD_len'] at h1
  rw [List.length_map] at h1
  have lt2 : ∀ i : Nat, (N[i]?).getD 0 < 2 := fun i => by
    cases h : N[i]? with
    | none => decide
    | some k => exact N2 k (List.mem_of_getElem? h)
  refine w_moved (N := N) 12 t ht.ok (fun i h => by have := ht.few i h; omega) (by have := ht.deep; omega) _ _ ?_
  rw [lren_ssub]
  refine w_renamed h1 (fun k hk => by have := N2 k hk; omega) (few := 2) (by decide) ht (by decide) ?_
  refine w_stays wok (ht.sub (m := 0) fun i _ => sayLt (lt2 i) (by decide)) (by decide) (by omega) (by omega) (fun x _ h => keep_ssub h) (q _ ?_)
  rw [rgD_len']
  omega
theorem wokW : WOk (2 : Nat) [(0, 0, 1), (0, 1, 0)] := ⟨by decide, by decide, by decide, fun t h => by
  rcases List.mem_cons.mp h with rfl | h
  · exact ⟨by decide, by decide, by decide, by decide, by decide, by decide⟩
  · rw [List.mem_singleton.mp h]
    exact ⟨by decide, by decide, by decide, by decide, by decide, by decide⟩, .cons (fun t h => by rw [List.mem_singleton.mp h]; show HT.lexLt (tri (0, 0, 1)) (tri (0, 1, 0)) = true; decide +kernel) (List.pairwise_singleton _ _)⟩
abbrev A2 : List T3 := [(0, 0, 1), (0, 1, 0)]
abbrev t0 : Say := .gv (.lt 0) (.lt 0)
theorem keep0 (x : Int) : keepB A2 t0 x = true := keep_t fun v => by
  show (!v 0 x || v 0 x) = true
  cases v 0 x <;> rfl
theorem e_0 : dInts (heldL 2 (keepB A2 t0)) = .tuple [.int 0, .int 1] := congrArg PyData.tuple (held_all keep0 2)
theorem try0 : Tryable 2 A2 t0 := (((sayLt (few := 2) (i := 0) (by decide) (by decide)).gv (sayLt (few := 2) (i := 0) (by decide) (by decide)))).try wokW (by decide) (by decide)
set_option maxHeartbeats 4000000 in
theorem w_law : m_law 0 (none :: some .st :: List.replicate 5 none) ⟨fun _ _ => False, fun _ w => w = .dat (.bool true), fun _ _ => False, fun _ _ => False⟩ := by
  have P := sayLt (few := 2) (i := 0) (by decide) (by decide)
  have R := sayLt (few := 2) (i := 1) (by decide) (by decide)
  have p32 : (2 : Nat) ^ (4 + 1) = 32 := rfl
  unfold m_law
  refine ⟨by decide, by decide, ?_⟩
  refine ⟨by decide, by decide, by omega, fun ia i0 i1 => gI0_of rfl ⟨by omega, by omega, by decide, by decide, by omega, fun sa Aa hs wok _ => w_shape (by omega) fun n1a ta hn1a ht hk => ?_⟩⟩
  refine gTried_of (ht.try wok (by decide) (by omega)) (tupRg_e (gIx_of rfl (atI_nat (j := 0) rfl) ⟨by omega, by omega, ?_⟩))
  refine ⟨congrArg PyData.tuple (held_all (hk Aa) sa), trivial, (fine_held (by omega)).mono (by decide) (by decide), ?_⟩
  refine w_right wok (by omega) ht (by omega) fun n2a hn2a => ?_
  refine ⟨by decide, by decide, by decide, by decide, by omega, fun s'a A'a hs' wok' _ => w_saying (few := 2) (by decide) (by decide) 4 4 (by decide) (by decide) (by decide) _ _ (by omega) fun n3a ua hn3a hu => ?_⟩
  refine w_right wok' (by omega) (hu.mono (Nat.le_refl _) (by decide)) (by omega) fun n4a hn4a => ?_
  clear hs wok ht hk hs' wok' hu
  refine ⟨by decide, by decide, by omega, fun ib i0 i1 => gI0_of rfl ⟨by omega, by omega, by decide, by decide, by omega, fun sb Ab hs wok _ => w_shape (by omega) fun n1b tb hn1b ht hk => ?_⟩⟩
  refine gTried_of (ht.try wok (by decide) (by omega)) (tupRg_e (gIx_of rfl (atI_nat (j := 0) rfl) ⟨by omega, by omega, ?_⟩))
  refine ⟨congrArg PyData.tuple (held_all (hk Ab) sb), trivial, (fine_held (by omega)).mono (by decide) (by decide), ?_⟩
  refine w_right wok (by omega) ht (by omega) fun n2b hn2b => ?_
  refine ⟨by decide, by decide, by decide, by decide, by omega, fun s'b A'b hs' wok' _ => w_saying (few := 2) (by decide) (by decide) 4 4 (by decide) (by decide) (by decide) _ _ (by omega) fun n3b ub hn3b hu => ?_⟩
  refine w_right wok' (by omega) (hu.mono (Nat.le_refl _) (by decide)) (by omega) fun n4b hn4b => ?_
  clear hs wok ht hk hs' wok' hu
  refine ⟨by decide, by decide, by omega, fun ic i0 i1 => gI0_of rfl ⟨by omega, by omega, by decide, by decide, by omega, fun sc Ac hs wok _ => w_shape (by omega) fun n1c tc hn1c ht hk => ?_⟩⟩
  refine gTried_of (ht.try wok (by decide) (by omega)) (tupRg_e (gIx_of rfl (atI_nat (j := 0) rfl) ⟨by omega, by omega, ?_⟩))
  refine ⟨congrArg PyData.tuple (held_all (hk Ac) sc), trivial, (fine_held (by omega)).mono (by decide) (by decide), ?_⟩
  refine w_right wok (by omega) ht (by omega) fun n2c hn2c => ?_
  refine ⟨by decide, by decide, by decide, by decide, by omega, fun s'c A'c hs' wok' _ => w_saying (few := 2) (by decide) (by decide) 4 4 (by decide) (by decide) (by decide) _ _ (by omega) fun n3c uc hn3c hu => ?_⟩
  refine w_right wok' (by omega) (hu.mono (Nat.le_refl _) (by decide)) (by omega) fun n4c hn4c => ?_
  clear hs wok ht hk hs' wok' hu
  refine ⟨rfl, ?_⟩
  refine w_put_in (few := 2) (k := 1) (a := 2) (b := 0) (t := .gv (.lt 0) (.lt 1)) (m := .lt 0) (by decide) (by decide) (P.gv R) P (by decide) ?_
  rw [show ssub (put1 1 (.lt 0)) (.gv (.lt 0) (.lt 1)) = t0 from rfl]
  refine gTried_of (s := 2) (A := A2) (t := t0) try0 ?_
  rw [e_0]
  refine ⟨rfl, trivial, ?_, rfl⟩
  refine Fine.mono (Fine.lst (k := 2) (n := 200) (m := 2) (fun d hd => ?_) (Nat.le_refl _)) (by decide) (by decide)
  have hd' : d = dSay t0 ∨ d = dInts [0, 1] := by
    have hd : d ∈ [dSay t0, dInts [0, 1]] := hd
    simp only [List.mem_cons, List.not_mem_nil, or_false] at hd
    exact hd
  rcases hd' with rfl | rfl
  · exact (fine_say 2 t0 ⟨(by decide : 0 < 8), (by decide : 0 < 8)⟩ (by decide)).mono (by decide) (by decide)
  · exact (fine_ints' (by decide) (by decide)).mono (by decide) (by decide)
end K0

/-! X3: the law, if its mirror runs. -/
namespace K0
open PySem PySem.Spec PyProof.Rows L2 W0 W1 W2 W5 W6 V0 V1 V6
section
variable {P : Program} {w : World} {K : PySem.W.Frag} {mg : Str → Option Value} {base : Heap}
set_option maxHeartbeats 4000000 in
theorem ok_law_if (T : Tops K w mg) (hm : m_law 0 (none :: some .st :: List.replicate 5 none) ⟨fun _ _ => False, fun _ w => w = .dat (.bool true), fun _ _ => False, fun _ _ => False⟩) : FnG P w K mg base 49 T.a_law T.fd_law p_law (sp_law K) := by
  have S := sc_law
  refine of_body T.F_law S (fun vs H Q E h => ?_) (fun cdv AA outer s H vs Q E hgd hr h => ?_)
  · obtain ⟨a, ns, rfl, _⟩ := h
    rfl
  · obtain ⟨a, ns, rfl, hs, hn, q⟩ := h
    refine ⟨_, (pss_cons (ps_set (i := 1) S.nd rfl (Or.inl rfl) (pe_call (ok__law_begin T) (hr.mono (by first | decide | omega)) (by rfl) T.g__law_begin T.F__law_begin.kp T.b__law_begin .nil pass0 (pa_cons (pv 0) pa_nil)))
      (pss_cons (ps_for PassesOwn.never rfl (pi_range1 (by rfl) T.m_range (pa_cons pe_int pa_nil)) (pg_name (i := 2) S.nd rfl (Or.inl rfl)) (pss_cons (ps_par (i := 4) (j := 6) rfl S.nd rfl rfl (by decide) rfl rfl (pa_cons (pe_call (ok__law_web T) (hr.mono (by first | decide | omega)) (by rfl) T.g__law_web T.F__law_web.kp T.b__law_web .nil pass0 (pa_cons (pv 1) (pa_cons (pe_op op_add pe_int (pe_call (ok__law_draw T) (hr.mono (by first | decide | omega)) (by rfl) T.g__law_draw T.F__law_draw.kp T.b__law_draw .nil pass0 (pa_cons (pv 1) (pa_cons pe_int pa_nil)))) (pa_cons pe_int pa_nil)))) (pa_cons (pe_call (ok__law_shape T) (hr.mono (by first | decide | omega)) (by rfl) T.g__law_shape T.F__law_shape.kp T.b__law_shape .nil pass0 (pa_cons (pv 1) pa_nil)) pa_nil)) (by rfl))
      (pss_cons (ps_if ((pw_or (pt_not (pt_val (pe_callG (ok__law_like T) (hr.mono (by first | decide | omega)) hgd (by rfl) T.g__law_like T.F__law_like.kp T.b__law_like .nil pass0 (pa_cons (pe_call (ok_tried T) (hr.mono (by first | decide | omega)) (by rfl) T.g_tried T.F_tried.kp T.b_tried .nil pass0 (pa_cons (pv 4) (pa_cons (pv 6) pa_nil))) (pa_cons (pe_tupRg rfl (by rfl) T.m_tuple (prg_1 (by rfl) T.m_range (pe_ix (ix_tupK (K := K)) (pv 4) pe_int (fun _ _ => rfl)))) pa_nil))))) (pw_or1 (pt_not (pt_val (pe_callG (ok__law_right T) (hr.mono (by first | decide | omega)) hgd (by rfl) T.g__law_right T.F__law_right.kp T.b__law_right .nil pass0 (pa_cons (pv 1) (pa_cons (pv 4) (pa_cons (pv 6) pa_nil))))))))).pt (pss_one (ps_ret pe_bl)) pss_nil)
      (pss_one (ps_if (pt_not (pt_val (pe_callG (ok__law_right T) (hr.mono (by first | decide | omega)) hgd (by rfl) T.g__law_right T.F__law_right.kp T.b__law_right .nil pass0 (pa_cons (pv 1) (pa_cons (pe_call (ok__law_web T) (hr.mono (by first | decide | omega)) (by rfl) T.g__law_web T.F__law_web.kp T.b__law_web .nil pass0 (pa_cons (pv 1) (pa_cons pe_int (pa_cons pe_int pa_nil)))) (pa_cons (pe_call (ok__law_saying T 4) (hr.mono (by omega)) (by rfl) T.g__law_saying T.F__law_saying.kp T.b__law_saying .nil pass0 (pa_cons (pv 1) (pa_cons pe_int (pa_cons pe_int (pa_cons pe_int (pa_cons pe_bl pa_nil)))))) pa_nil)))))) (pss_one (ps_ret pe_bl)) pss_nil)))))
      (pss_cons (ps_asg (pe_tup (pa_cons (pe_tup (pa_cons pe_str (pa_cons pe_int pa_nil))) (pa_cons (pe_tup (pa_cons pe_int (pa_cons (pe_tup (pa_cons (pe_tup (pa_cons pe_int (pa_cons pe_int (pa_cons pe_int pa_nil)))) (pa_cons (pe_tup (pa_cons pe_int (pa_cons pe_int (pa_cons pe_int pa_nil)))) pa_nil))) pa_nil))) pa_nil))) (pg_tupK (K := K) (n := 2) rfl (pgs_cons (pg_name (i := 3) S.nd rfl (Or.inl rfl)) (pgs_cons (pg_name (i := 4) S.nd rfl (Or.inl rfl)) pgs_nil))))
      (pss_cons (ps_set (i := 5) S.nd rfl (Or.inl rfl) (V7.pe_call0K (ok_put_in T) (hr.mono (by first | decide | omega)) (by rfl) T.g_put_in T.F_put_in.kp (V7.kb0_of T.F_put_in fun _ _ _ _ _ _ us hl => match us, hl with | [_, _, _], _ => rfl) pass0 (pk_cons (pe_tup (pa_cons pe_str (pa_cons (pv 3) (pa_cons (pe_tup (pa_cons pe_str (pa_cons pe_int pa_nil))) pa_nil)))) (pk_cons pe_int (pk_cons (pv 3) pk_nil)))))
      (pss_one (ps_ret (pe_callG (ok__law_like T) (hr.mono (by first | decide | omega)) hgd (by rfl) T.g__law_like T.F__law_like.kp T.b__law_like .nil pass0 (pa_cons (pe_lst (pa_cons (pv 5) (pa_cons (pe_call (ok_tried T) (hr.mono (by first | decide | omega)) (by rfl) T.g_tried T.F_tried.kp T.b_tried .nil pass0 (pa_cons (pv 4) (pa_cons (pv 5) pa_nil))) pa_nil))) (pa_cons (pe_lst (pa_cons (pe_tup (pa_cons pe_str (pa_cons (pv 3) (pa_cons (pv 3) pa_nil)))) (pa_cons (pe_tup (pa_cons pe_int (pa_cons pe_int pa_nil))) pa_nil))) pa_nil))))))))), ?_⟩
    refine ⟨.ref a, rfl, a, ns, rfl, hs, hn, fun H1 st c l e1 h1 _ _ => ?_⟩
    unfold m_law at hm
    exact rest3 (k := 5) (sns_seq (sns_for (sni_rg1 snd_int) sng_name (sns_seq (sns_par (snd_call snb_web (snd_cons snd_var (snd_cons (snd_op sop_add snd_int (snd_call snb_draw (snd_cons snd_var (snd_cons snd_int snd_nil)))) (snd_cons snd_int snd_nil)))) (snd_call snb_call (snd_cons snd_var snd_nil)))
      (sns_seq (sns_if (snt_or (snt_not (snt_test (snd_call snb_like (snd_cons (snd_call snb_tried (snd_cons snd_var (snd_cons snd_var snd_nil))) (snd_cons (snd_tupRg (snd_op sop_ixT snd_var snd_int)) snd_nil))))) (snt_not (snt_test (snd_call snb_call (snd_cons snd_var (snd_cons snd_var (snd_cons snd_var snd_nil))))))) (sns_ret snd_bl) sns_next)
      (sns_if (snt_not (snt_test (snd_call snb_call (snd_cons snd_var (snd_cons (snd_call snb_web (snd_cons snd_var (snd_cons snd_int (snd_cons snd_int snd_nil)))) (snd_cons (snd_call snb_call (snd_cons snd_var (snd_cons snd_int (snd_cons snd_int (snd_cons snd_int (snd_cons snd_bl snd_nil)))))) snd_nil)))))) (sns_ret snd_bl) sns_next))))
      (sns_seq (sns_set (snd_tup (snd_cons (snd_tup (snd_cons snd_str (snd_cons snd_int snd_nil))) (snd_cons (snd_tup (snd_cons snd_int (snd_cons (snd_tup (snd_cons (snd_tup (snd_cons snd_int (snd_cons snd_int (snd_cons snd_int snd_nil)))) (snd_cons (snd_tup (snd_cons snd_int (snd_cons snd_int (snd_cons snd_int snd_nil)))) snd_nil))) snd_nil))) snd_nil))) (sng_tup (sng_cons sng_name (sng_cons sng_name sng_nil))))
      (sns_seq (sns_set (snd_call0K snb_call (snd_cons (snd_tup (snd_cons snd_str (snd_cons snd_var (snd_cons (snd_tup (snd_cons snd_str (snd_cons snd_int snd_nil))) snd_nil)))) (snd_cons snd_int (snd_cons snd_var snd_nil)))) sng_name)
      (sns_ret (snd_call snb_like (snd_cons (snd_lst (snd_cons snd_var (snd_cons (snd_call snb_tried (snd_cons snd_var (snd_cons snd_var snd_nil))) snd_nil))) (snd_cons (snd_lst (snd_cons (snd_tup (snd_cons snd_str (snd_cons snd_var (snd_cons snd_var snd_nil)))) (snd_cons (snd_tup (snd_cons snd_int (snd_cons snd_int snd_nil))) snd_nil))) snd_nil))))))) h1 hm q

end
end K0

/-! M11: the law's promise. -/
namespace K0
open PySem PySem.Spec PyProof.Rows L2 W0 W1 W2 W5 W6 V0 V1 V6
section
variable {P : Program} {w : World} {K : PySem.W.Frag} {mg : Str → Option Value} {base : Heap}
theorem ok_law (T : Tops K w mg) : FnG P w K mg base 49 T.a_law T.fd_law p_law (sp_law K) := ok_law_if T w_law
end
end K0

namespace K0
open PySem PySem.Spec PyProof.Rows L2 W0 W1 W2 W5 W6
theorem keys_lit {P : Params} {l : List DictEntry} {ks : List (Str × Tok)} (h : l.map (fun e => (e.key, e.hash)) = ks.map fun k => (Value.str k.1 k.2, PyData.keyHash P k.1)) : PySem.W.KeysLit P l := by
  induction l generalizing ks with
  | nil => trivial
  | cons e l ih =>
    cases ks with
    | nil => cases h
    | cons k ks =>
      obtain ⟨h1, h2⟩ := List.cons.inj h
      exact ⟨⟨k.1, k.2, congrArg Prod.fst h1, congrArg Prod.snd h1⟩, ih h2⟩
set_option maxHeartbeats 0 in
theorem all_mk {l : PySem.W.OpenLaw} {w : World} {K : PySem.W.Frag} {h : Heap} {mg : Str → Option Value} {fa : Addr} (X : K.In h) (G : h.Ns mainGlobals mg) (hfa : mg "law" = some (.ref fa))
    {C0 : Addr} (ac0 : PySem.W.nsIn K mainGlobals "Walk" = some (some (.ref C0))) (pg0 : PySem.W.plainGet K C0 Str.empty = true) (hd0 : PySem.W.hasDictIn K C0 = true) (po0 : PySem.W.plainOver K C0 = true) (sa0 : PySem.W.findIn K (.ref C0) "__setattr__" = some (some (.builtin "object.__setattr__"))) (mk0 : PySem.W.makesIn K C0 = true) (kc0 : PySem.W.keepIn K (.ref C0) = true)
    (na0_0 : PySem.W.findIn K (.ref C0) "letters" = some none)
    (na0_1 : PySem.W.findIn K (.ref C0) "denying" = some none)
    (na0_2 : PySem.W.findIn K (.ref C0) "most_deep" = some none)
    (na0_3 : PySem.W.findIn K (.ref C0) "most_words" = some none)
    (na0_4 : PySem.W.findIn K (.ref C0) "met" = some none)
    {C1 : Addr} (ac1 : PySem.W.nsIn K mainGlobals "Cases" = some (some (.ref C1))) (pg1 : PySem.W.plainGet K C1 Str.empty = true) (hd1 : PySem.W.hasDictIn K C1 = true) (po1 : PySem.W.plainOver K C1 = true) (sa1 : PySem.W.findIn K (.ref C1) "__setattr__" = some (some (.builtin "object.__setattr__"))) (mk1 : PySem.W.makesIn K C1 = true) (kc1 : PySem.W.keepIn K (.ref C1) = true)
    (na1_0 : PySem.W.findIn K (.ref C1) "leads" = some none)
    (na1_1 : PySem.W.findIn K (.ref C1) "marks" = some none)
    (na1_2 : PySem.W.findIn K (.ref C1) "heres" = some none)
    (na1_3 : PySem.W.findIn K (.ref C1) "full" = some none)
    {C2 : Addr} (ac2 : PySem.W.nsIn K mainGlobals "Trial" = some (some (.ref C2))) (pg2 : PySem.W.plainGet K C2 Str.empty = true) (hd2 : PySem.W.hasDictIn K C2 = true) (po2 : PySem.W.plainOver K C2 = true) (sa2 : PySem.W.findIn K (.ref C2) "__setattr__" = some (some (.builtin "object.__setattr__"))) (mk2 : PySem.W.makesIn K C2 = true) (kc2 : PySem.W.keepIn K (.ref C2) = true)
    (na2_0 : PySem.W.findIn K (.ref C2) "size" = some none)
    (na2_1 : PySem.W.findIn K (.ref C2) "letters" = some none)
    (na2_2 : PySem.W.findIn K (.ref C2) "bits" = some none)
    (na2_3 : PySem.W.findIn K (.ref C2) "full" = some none)
    (na2_4 : PySem.W.findIn K (.ref C2) "found" = some none)
    {f0 : Addr} {od0 an0 : Option Addr} {sl0 : Array (Option Value)} {oc0 kV0 dc0 pm0 cd0 ct0 : Value}
    (a0 : PySem.W.nsIn K mainGlobals "is_number" = some (some (.ref f0))) (l0 : K.lookup f0 = some ⟨oc0, od0, .func (PySem.W.fnOf "is_number" "is_number" (defArgs s_is_number) (defBody s_is_number) (defScope s_is_number) .none kV0 dc0 pm0 an0 cd0 ct0), sl0⟩) (c0 : PySem.W.codeIn K cd0 "is_number" = true) (k0 : PySem.W.keepIn K (.ref f0) = true)
    {f1 : Addr} {od1 an1 : Option Addr} {sl1 : Array (Option Value)} {oc1 kV1 dc1 pm1 cd1 ct1 : Value}
    (a1 : PySem.W.nsIn K mainGlobals "is_tuple" = some (some (.ref f1))) (l1 : K.lookup f1 = some ⟨oc1, od1, .func (PySem.W.fnOf "is_tuple" "is_tuple" (defArgs s_is_tuple) (defBody s_is_tuple) (defScope s_is_tuple) .none kV1 dc1 pm1 an1 cd1 ct1), sl1⟩) (c1 : PySem.W.codeIn K cd1 "is_tuple" = true) (k1 : PySem.W.keepIn K (.ref f1) = true)
    {f2 : Addr} {od2 an2 : Option Addr} {sl2 : Array (Option Value)} {oc2 kV2 dc2 pm2 cd2 ct2 : Value}
    (a2 : PySem.W.nsIn K mainGlobals "are_numbers" = some (some (.ref f2))) (l2 : K.lookup f2 = some ⟨oc2, od2, .func (PySem.W.fnOf "are_numbers" "are_numbers" (defArgs s_are_numbers) (defBody s_are_numbers) (defScope s_are_numbers) .none kV2 dc2 pm2 an2 cd2 ct2), sl2⟩) (c2 : PySem.W.codeIn K cd2 "are_numbers" = true) (k2 : PySem.W.keepIn K (.ref f2) = true)
    {f3 : Addr} {od3 an3 : Option Addr} {sl3 : Array (Option Value)} {oc3 kV3 dc3 pm3 cd3 ct3 : Value}
    (a3 : PySem.W.nsIn K mainGlobals "is_ascending" = some (some (.ref f3))) (l3 : K.lookup f3 = some ⟨oc3, od3, .func (PySem.W.fnOf "is_ascending" "is_ascending" (defArgs s_is_ascending) (defBody s_is_ascending) (defScope s_is_ascending) .none kV3 dc3 pm3 an3 cd3 ct3), sl3⟩) (c3 : PySem.W.codeIn K cd3 "is_ascending" = true) (k3 : PySem.W.keepIn K (.ref f3) = true)
    {f4 : Addr} {od4 an4 : Option Addr} {sl4 : Array (Option Value)} {oc4 kV4 dc4 pm4 cd4 ct4 : Value}
    (a4 : PySem.W.nsIn K mainGlobals "need_web" = some (some (.ref f4))) (l4 : K.lookup f4 = some ⟨oc4, od4, .func (PySem.W.fnOf "need_web" "need_web" (defArgs s_need_web) (defBody s_need_web) (defScope s_need_web) .none kV4 dc4 pm4 an4 cd4 ct4), sl4⟩) (c4 : PySem.W.codeIn K cd4 "need_web" = true) (k4 : PySem.W.keepIn K (.ref f4) = true)
    {f5 : Addr} {od5 an5 : Option Addr} {sl5 : Array (Option Value)} {oc5 kV5 dc5 pm5 cd5 ct5 : Value}
    (a5 : PySem.W.nsIn K mainGlobals "_is_web" = some (some (.ref f5))) (l5 : K.lookup f5 = some ⟨oc5, od5, .func (PySem.W.fnOf "_is_web" "_is_web" (defArgs s__is_web) (defBody s__is_web) (defScope s__is_web) .none kV5 dc5 pm5 an5 cd5 ct5), sl5⟩) (c5 : PySem.W.codeIn K cd5 "_is_web" = true) (k5 : PySem.W.keepIn K (.ref f5) = true)
    {f6 : Addr} {od6 an6 : Option Addr} {sl6 : Array (Option Value)} {oc6 kV6 dc6 pm6 cd6 ct6 : Value}
    (a6 : PySem.W.nsIn K mainGlobals "_is_arrow" = some (some (.ref f6))) (l6 : K.lookup f6 = some ⟨oc6, od6, .func (PySem.W.fnOf "_is_arrow" "_is_arrow" (defArgs s__is_arrow) (defBody s__is_arrow) (defScope s__is_arrow) .none kV6 dc6 pm6 an6 cd6 ct6), sl6⟩) (c6 : PySem.W.codeIn K cd6 "_is_arrow" = true) (k6 : PySem.W.keepIn K (.ref f6) = true)
    {f7 : Addr} {od7 an7 : Option Addr} {sl7 : Array (Option Value)} {oc7 kV7 dc7 pm7 cd7 ct7 : Value}
    (a7 : PySem.W.nsIn K mainGlobals "turned_way" = some (some (.ref f7))) (l7 : K.lookup f7 = some ⟨oc7, od7, .func (PySem.W.fnOf "turned_way" "turned_way" (defArgs s_turned_way) (defBody s_turned_way) (defScope s_turned_way) .none kV7 dc7 pm7 an7 cd7 ct7), sl7⟩) (c7 : PySem.W.codeIn K cd7 "turned_way" = true) (k7 : PySem.W.keepIn K (.ref f7) = true)
    {f8 : Addr} {od8 an8 : Option Addr} {sl8 : Array (Option Value)} {oc8 kV8 dc8 pm8 cd8 ct8 : Value}
    (a8 : PySem.W.nsIn K mainGlobals "leads_of" = some (some (.ref f8))) (l8 : K.lookup f8 = some ⟨oc8, od8, .func (PySem.W.fnOf "leads_of" "leads_of" (defArgs s_leads_of) (defBody s_leads_of) (defScope s_leads_of) .none kV8 dc8 pm8 an8 cd8 ct8), sl8⟩) (c8 : PySem.W.codeIn K cd8 "leads_of" = true) (k8 : PySem.W.keepIn K (.ref f8) = true)
    {f9 : Addr} {od9 an9 : Option Addr} {sl9 : Array (Option Value)} {oc9 kV9 dc9 pm9 cd9 ct9 : Value}
    (a9 : PySem.W.findIn K (.ref C0) "__init__" = some (some (.ref f9))) (i9 : PySem.W.isFn K (.ref f9) = true) (l9 : K.lookup f9 = some ⟨oc9, od9, .func (PySem.W.fnOf "__init__" "Walk.__init__" (defArgs s_Walk___init__) (defBody s_Walk___init__) (defScope s_Walk___init__) .none kV9 dc9 pm9 an9 cd9 ct9), sl9⟩) (c9 : PySem.W.codeIn K cd9 "Walk.__init__" = true) (k9 : PySem.W.keepIn K (.ref f9) = true)
    {f10 : Addr} {od10 an10 : Option Addr} {sl10 : Array (Option Value)} {oc10 kV10 dc10 pm10 cd10 ct10 : Value}
    (a10 : PySem.W.findIn K (.ref C0) "wrong_path" = some (some (.ref f10))) (i10 : PySem.W.isFn K (.ref f10) = true) (l10 : K.lookup f10 = some ⟨oc10, od10, .func (PySem.W.fnOf "wrong_path" "Walk.wrong_path" (defArgs s_Walk_wrong_path) (defBody s_Walk_wrong_path) (defScope s_Walk_wrong_path) .none kV10 dc10 pm10 an10 cd10 ct10), sl10⟩) (c10 : PySem.W.codeIn K cd10 "Walk.wrong_path" = true) (k10 : PySem.W.keepIn K (.ref f10) = true)
    {f11 : Addr} {od11 an11 : Option Addr} {sl11 : Array (Option Value)} {oc11 kV11 dc11 pm11 cd11 ct11 : Value}
    (a11 : PySem.W.findIn K (.ref C0) "_met_if_right" = some (some (.ref f11))) (i11 : PySem.W.isFn K (.ref f11) = true) (l11 : K.lookup f11 = some ⟨oc11, od11, .func (PySem.W.fnOf "_met_if_right" "Walk._met_if_right" (defArgs s_Walk__met_if_right) (defBody s_Walk__met_if_right) (defScope s_Walk__met_if_right) .none kV11 dc11 pm11 an11 cd11 ct11), sl11⟩) (c11 : PySem.W.codeIn K cd11 "Walk._met_if_right" = true) (k11 : PySem.W.keepIn K (.ref f11) = true)
    {f12 : Addr} {od12 an12 : Option Addr} {sl12 : Array (Option Value)} {oc12 kV12 dc12 pm12 cd12 ct12 : Value}
    (a12 : PySem.W.findIn K (.ref C0) "_first_wrong" = some (some (.ref f12))) (i12 : PySem.W.isFn K (.ref f12) = true) (l12 : K.lookup f12 = some ⟨oc12, od12, .func (PySem.W.fnOf "_first_wrong" "Walk._first_wrong" (defArgs s_Walk__first_wrong) (defBody s_Walk__first_wrong) (defScope s_Walk__first_wrong) .none kV12 dc12 pm12 an12 cd12 ct12), sl12⟩) (c12 : PySem.W.codeIn K cd12 "Walk._first_wrong" = true) (k12 : PySem.W.keepIn K (.ref f12) = true)
    {f13 : Addr} {od13 an13 : Option Addr} {sl13 : Array (Option Value)} {oc13 kV13 dc13 pm13 cd13 ct13 : Value}
    (a13 : PySem.W.nsIn K mainGlobals "_parts_if_right" = some (some (.ref f13))) (l13 : K.lookup f13 = some ⟨oc13, od13, .func (PySem.W.fnOf "_parts_if_right" "_parts_if_right" (defArgs s__parts_if_right) (defBody s__parts_if_right) (defScope s__parts_if_right) .none kV13 dc13 pm13 an13 cd13 ct13), sl13⟩) (c13 : PySem.W.codeIn K cd13 "_parts_if_right" = true) (k13 : PySem.W.keepIn K (.ref f13) = true)
    {f14 : Addr} {od14 an14 : Option Addr} {sl14 : Array (Option Value)} {oc14 kV14 dc14 pm14 cd14 ct14 : Value}
    (a14 : PySem.W.nsIn K mainGlobals "levels_of" = some (some (.ref f14))) (l14 : K.lookup f14 = some ⟨oc14, od14, .func (PySem.W.fnOf "levels_of" "levels_of" (defArgs s_levels_of) (defBody s_levels_of) (defScope s_levels_of) .none kV14 dc14 pm14 an14 cd14 ct14), sl14⟩) (c14 : PySem.W.codeIn K cd14 "levels_of" = true) (k14 : PySem.W.keepIn K (.ref f14) = true)
    {f15 : Addr} {od15 an15 : Option Addr} {sl15 : Array (Option Value)} {oc15 kV15 dc15 pm15 cd15 ct15 : Value}
    (a15 : PySem.W.nsIn K mainGlobals "words_of" = some (some (.ref f15))) (l15 : K.lookup f15 = some ⟨oc15, od15, .func (PySem.W.fnOf "words_of" "words_of" (defArgs s_words_of) (defBody s_words_of) (defScope s_words_of) .none kV15 dc15 pm15 an15 cd15 ct15), sl15⟩) (c15 : PySem.W.codeIn K cd15 "words_of" = true) (k15 : PySem.W.keepIn K (.ref f15) = true)
    {f16 : Addr} {od16 an16 : Option Addr} {sl16 : Array (Option Value)} {oc16 kV16 dc16 pm16 cd16 ct16 : Value}
    (a16 : PySem.W.nsIn K mainGlobals "size_of" = some (some (.ref f16))) (l16 : K.lookup f16 = some ⟨oc16, od16, .func (PySem.W.fnOf "size_of" "size_of" (defArgs s_size_of) (defBody s_size_of) (defScope s_size_of) .none kV16 dc16 pm16 an16 cd16 ct16), sl16⟩) (c16 : PySem.W.codeIn K cd16 "size_of" = true) (k16 : PySem.W.keepIn K (.ref f16) = true)
    {f17 : Addr} {od17 an17 : Option Addr} {sl17 : Array (Option Value)} {oc17 kV17 dc17 pm17 cd17 ct17 : Value}
    (a17 : PySem.W.nsIn K mainGlobals "size_with" = some (some (.ref f17))) (l17 : K.lookup f17 = some ⟨oc17, od17, .func (PySem.W.fnOf "size_with" "size_with" (defArgs s_size_with) (defBody s_size_with) (defScope s_size_with) .none kV17 dc17 pm17 an17 cd17 ct17), sl17⟩) (c17 : PySem.W.codeIn K cd17 "size_with" = true) (k17 : PySem.W.keepIn K (.ref f17) = true)
    {f18 : Addr} {od18 an18 : Option Addr} {sl18 : Array (Option Value)} {oc18 kV18 dc18 pm18 cd18 ct18 : Value}
    (a18 : PySem.W.nsIn K mainGlobals "letters_of" = some (some (.ref f18))) (l18 : K.lookup f18 = some ⟨oc18, od18, .func (PySem.W.fnOf "letters_of" "letters_of" (defArgs s_letters_of) (defBody s_letters_of) (defScope s_letters_of) .none kV18 dc18 pm18 an18 cd18 ct18), sl18⟩) (c18 : PySem.W.codeIn K cd18 "letters_of" = true) (k18 : PySem.W.keepIn K (.ref f18) = true)
    {f19 : Addr} {od19 an19 : Option Addr} {sl19 : Array (Option Value)} {oc19 kV19 dc19 pm19 cd19 ct19 : Value}
    (a19 : PySem.W.nsIn K mainGlobals "replaced" = some (some (.ref f19))) (l19 : K.lookup f19 = some ⟨oc19, od19, .func (PySem.W.fnOf "replaced" "replaced" (defArgs s_replaced) (defBody s_replaced) (defScope s_replaced) .none kV19 dc19 pm19 an19 cd19 ct19), sl19⟩) (c19 : PySem.W.codeIn K cd19 "replaced" = true) (k19 : PySem.W.keepIn K (.ref f19) = true)
    {f20 : Addr} {od20 an20 : Option Addr} {sl20 : Array (Option Value)} {oc20 kV20 dc20 pm20 cd20 ct20 : Value}
    (a20 : PySem.W.nsIn K mainGlobals "need_saying" = some (some (.ref f20))) (l20 : K.lookup f20 = some ⟨oc20, od20, .func (PySem.W.fnOf "need_saying" "need_saying" (defArgs s_need_saying) (defBody s_need_saying) (defScope s_need_saying) .none kV20 dc20 pm20 an20 cd20 ct20), sl20⟩) (c20 : PySem.W.codeIn K cd20 "need_saying" = true) (k20 : PySem.W.keepIn K (.ref f20) = true)
    {f21 : Addr} {od21 an21 : Option Addr} {sl21 : Array (Option Value)} {oc21 kV21 dc21 pm21 cd21 ct21 : Value}
    (a21 : PySem.W.nsIn K mainGlobals "is_letter" = some (some (.ref f21))) (l21 : K.lookup f21 = some ⟨oc21, od21, .func (PySem.W.fnOf "is_letter" "is_letter" (defArgs s_is_letter) (defBody s_is_letter) (defScope s_is_letter) .none kV21 dc21 pm21 an21 cd21 ct21), sl21⟩) (c21 : PySem.W.codeIn K cd21 "is_letter" = true) (k21 : PySem.W.keepIn K (.ref f21) = true)
    {f22 : Addr} {od22 an22 : Option Addr} {sl22 : Array (Option Value)} {oc22 kV22 dc22 pm22 cd22 ct22 : Value}
    (a22 : PySem.W.nsIn K mainGlobals "letters_in" = some (some (.ref f22))) (l22 : K.lookup f22 = some ⟨oc22, od22, .func (PySem.W.fnOf "letters_in" "letters_in" (defArgs s_letters_in) (defBody s_letters_in) (defScope s_letters_in) .none kV22 dc22 pm22 an22 cd22 ct22), sl22⟩) (c22 : PySem.W.codeIn K cd22 "letters_in" = true) (k22 : PySem.W.keepIn K (.ref f22) = true)
    {f23 : Addr} {od23 an23 : Option Addr} {sl23 : Array (Option Value)} {oc23 kV23 dc23 pm23 cd23 ct23 : Value}
    (a23 : PySem.W.findIn K (.ref C1) "__init__" = some (some (.ref f23))) (i23 : PySem.W.isFn K (.ref f23) = true) (l23 : K.lookup f23 = some ⟨oc23, od23, .func (PySem.W.fnOf "__init__" "Cases.__init__" (defArgs s_Cases___init__) (defBody s_Cases___init__) (defScope s_Cases___init__) .none kV23 dc23 pm23 an23 cd23 ct23), sl23⟩) (c23 : PySem.W.codeIn K cd23 "Cases.__init__" = true) (k23 : PySem.W.keepIn K (.ref f23) = true)
    {f24 : Addr} {od24 an24 : Option Addr} {sl24 : Array (Option Value)} {oc24 kV24 dc24 pm24 cd24 ct24 : Value}
    (a24 : PySem.W.findIn K (.ref C1) "answers" = some (some (.ref f24))) (i24 : PySem.W.isFn K (.ref f24) = true) (l24 : K.lookup f24 = some ⟨oc24, od24, .func (PySem.W.fnOf "answers" "Cases.answers" (defArgs s_Cases_answers) (defBody s_Cases_answers) (defScope s_Cases_answers) .none kV24 dc24 pm24 an24 cd24 ct24), sl24⟩) (c24 : PySem.W.codeIn K cd24 "Cases.answers" = true) (k24 : PySem.W.keepIn K (.ref f24) = true)
    {f25 : Addr} {od25 an25 : Option Addr} {sl25 : Array (Option Value)} {oc25 kV25 dc25 pm25 cd25 ct25 : Value}
    (a25 : PySem.W.nsIn K mainGlobals "_everywhere" = some (some (.ref f25))) (l25 : K.lookup f25 = some ⟨oc25, od25, .func (PySem.W.fnOf "_everywhere" "_everywhere" (defArgs s__everywhere) (defBody s__everywhere) (defScope s__everywhere) .none kV25 dc25 pm25 an25 cd25 ct25), sl25⟩) (c25 : PySem.W.codeIn K cd25 "_everywhere" = true) (k25 : PySem.W.keepIn K (.ref f25) = true)
    {f26 : Addr} {od26 an26 : Option Addr} {sl26 : Array (Option Value)} {oc26 kV26 dc26 pm26 cd26 ct26 : Value}
    (a26 : PySem.W.nsIn K mainGlobals "somewhere" = some (some (.ref f26))) (l26 : K.lookup f26 = some ⟨oc26, od26, .func (PySem.W.fnOf "somewhere" "somewhere" (defArgs s_somewhere) (defBody s_somewhere) (defScope s_somewhere) .none kV26 dc26 pm26 an26 cd26 ct26), sl26⟩) (c26 : PySem.W.codeIn K cd26 "somewhere" = true) (k26 : PySem.W.keepIn K (.ref f26) = true)
    {f27 : Addr} {od27 an27 : Option Addr} {sl27 : Array (Option Value)} {oc27 kV27 dc27 pm27 cd27 ct27 : Value}
    (a27 : PySem.W.nsIn K mainGlobals "put_in" = some (some (.ref f27))) (l27 : K.lookup f27 = some ⟨oc27, od27, .func (PySem.W.fnOf "put_in" "put_in" (defArgs s_put_in) (defBody s_put_in) (defScope s_put_in) .none kV27 dc27 pm27 an27 cd27 ct27), sl27⟩) (c27 : PySem.W.codeIn K cd27 "put_in" = true) (k27 : PySem.W.keepIn K (.ref f27) = true)
    {f28 : Addr} {od28 an28 : Option Addr} {sl28 : Array (Option Value)} {oc28 kV28 dc28 pm28 cd28 ct28 : Value}
    (a28 : PySem.W.nsIn K mainGlobals "renamed" = some (some (.ref f28))) (l28 : K.lookup f28 = some ⟨oc28, od28, .func (PySem.W.fnOf "renamed" "renamed" (defArgs s_renamed) (defBody s_renamed) (defScope s_renamed) .none kV28 dc28 pm28 an28 cd28 ct28), sl28⟩) (c28 : PySem.W.codeIn K cd28 "renamed" = true) (k28 : PySem.W.keepIn K (.ref f28) = true)
    {f29 : Addr} {od29 an29 : Option Addr} {sl29 : Array (Option Value)} {oc29 kV29 dc29 pm29 cd29 ct29 : Value}
    (a29 : PySem.W.findIn K (.ref C2) "__init__" = some (some (.ref f29))) (i29 : PySem.W.isFn K (.ref f29) = true) (l29 : K.lookup f29 = some ⟨oc29, od29, .func (PySem.W.fnOf "__init__" "Trial.__init__" (defArgs s_Trial___init__) (defBody s_Trial___init__) (defScope s_Trial___init__) .none kV29 dc29 pm29 an29 cd29 ct29), sl29⟩) (c29 : PySem.W.codeIn K cd29 "Trial.__init__" = true) (k29 : PySem.W.keepIn K (.ref f29) = true)
    {f30 : Addr} {od30 an30 : Option Addr} {sl30 : Array (Option Value)} {oc30 kV30 dc30 pm30 cd30 ct30 : Value}
    (a30 : PySem.W.findIn K (.ref C2) "_bit" = some (some (.ref f30))) (i30 : PySem.W.isFn K (.ref f30) = true) (l30 : K.lookup f30 = some ⟨oc30, od30, .func (PySem.W.fnOf "_bit" "Trial._bit" (defArgs s_Trial__bit) (defBody s_Trial__bit) (defScope s_Trial__bit) .none kV30 dc30 pm30 an30 cd30 ct30), sl30⟩) (c30 : PySem.W.codeIn K cd30 "Trial._bit" = true) (k30 : PySem.W.keepIn K (.ref f30) = true)
    {f31 : Addr} {od31 an31 : Option Addr} {sl31 : Array (Option Value)} {oc31 kV31 dc31 pm31 cd31 ct31 : Value}
    (a31 : PySem.W.findIn K (.ref C2) "_marked" = some (some (.ref f31))) (i31 : PySem.W.isFn K (.ref f31) = true) (l31 : K.lookup f31 = some ⟨oc31, od31, .func (PySem.W.fnOf "_marked" "Trial._marked" (defArgs s_Trial__marked) (defBody s_Trial__marked) (defScope s_Trial__marked) .none kV31 dc31 pm31 an31 cd31 ct31), sl31⟩) (c31 : PySem.W.codeIn K cd31 "Trial._marked" = true) (k31 : PySem.W.keepIn K (.ref f31) = true)
    {f32 : Addr} {od32 an32 : Option Addr} {sl32 : Array (Option Value)} {oc32 kV32 dc32 pm32 cd32 ct32 : Value}
    (a32 : PySem.W.nsIn K mainGlobals "tried" = some (some (.ref f32))) (l32 : K.lookup f32 = some ⟨oc32, od32, .func (PySem.W.fnOf "tried" "tried" (defArgs s_tried) (defBody s_tried) (defScope s_tried) .none kV32 dc32 pm32 an32 cd32 ct32), sl32⟩) (c32 : PySem.W.codeIn K cd32 "tried" = true) (k32 : PySem.W.keepIn K (.ref f32) = true)
    {f33 : Addr} {od33 an33 : Option Addr} {sl33 : Array (Option Value)} {oc33 kV33 dc33 pm33 cd33 ct33 : Value}
    (a33 : PySem.W.nsIn K mainGlobals "_law_mixed" = some (some (.ref f33))) (l33 : K.lookup f33 = some ⟨oc33, od33, .func (PySem.W.fnOf "_law_mixed" "_law_mixed" (defArgs s__law_mixed) (defBody s__law_mixed) (defScope s__law_mixed) .none kV33 dc33 pm33 an33 cd33 ct33), sl33⟩) (c33 : PySem.W.codeIn K cd33 "_law_mixed" = true) (k33 : PySem.W.keepIn K (.ref f33) = true)
    {f34 : Addr} {od34 an34 : Option Addr} {sl34 : Array (Option Value)} {oc34 kV34 dc34 pm34 cd34 ct34 : Value}
    (a34 : PySem.W.nsIn K mainGlobals "_law_begin" = some (some (.ref f34))) (l34 : K.lookup f34 = some ⟨oc34, od34, .func (PySem.W.fnOf "_law_begin" "_law_begin" (defArgs s__law_begin) (defBody s__law_begin) (defScope s__law_begin) .none kV34 dc34 pm34 an34 cd34 ct34), sl34⟩) (c34 : PySem.W.codeIn K cd34 "_law_begin" = true) (k34 : PySem.W.keepIn K (.ref f34) = true)
    {f35 : Addr} {od35 an35 : Option Addr} {sl35 : Array (Option Value)} {oc35 kV35 dc35 pm35 cd35 ct35 : Value}
    (a35 : PySem.W.nsIn K mainGlobals "_law_draw" = some (some (.ref f35))) (l35 : K.lookup f35 = some ⟨oc35, od35, .func (PySem.W.fnOf "_law_draw" "_law_draw" (defArgs s__law_draw) (defBody s__law_draw) (defScope s__law_draw) .none kV35 dc35 pm35 an35 cd35 ct35), sl35⟩) (c35 : PySem.W.codeIn K cd35 "_law_draw" = true) (k35 : PySem.W.keepIn K (.ref f35) = true)
    {f36 : Addr} {od36 an36 : Option Addr} {sl36 : Array (Option Value)} {oc36 kV36 dc36 pm36 cd36 ct36 : Value}
    (a36 : PySem.W.nsIn K mainGlobals "_law_web" = some (some (.ref f36))) (l36 : K.lookup f36 = some ⟨oc36, od36, .func (PySem.W.fnOf "_law_web" "_law_web" (defArgs s__law_web) (defBody s__law_web) (defScope s__law_web) .none kV36 dc36 pm36 an36 cd36 ct36), sl36⟩) (c36 : PySem.W.codeIn K cd36 "_law_web" = true) (k36 : PySem.W.keepIn K (.ref f36) = true)
    {f37 : Addr} {od37 an37 : Option Addr} {sl37 : Array (Option Value)} {oc37 kV37 dc37 pm37 cd37 ct37 : Value}
    (a37 : PySem.W.nsIn K mainGlobals "_law_way" = some (some (.ref f37))) (l37 : K.lookup f37 = some ⟨oc37, od37, .func (PySem.W.fnOf "_law_way" "_law_way" (defArgs s__law_way) (defBody s__law_way) (defScope s__law_way) .none kV37 dc37 pm37 an37 cd37 ct37), sl37⟩) (c37 : PySem.W.codeIn K cd37 "_law_way" = true) (k37 : PySem.W.keepIn K (.ref f37) = true)
    {f38 : Addr} {od38 an38 : Option Addr} {sl38 : Array (Option Value)} {oc38 kV38 dc38 pm38 cd38 ct38 : Value}
    (a38 : PySem.W.nsIn K mainGlobals "_law_saying" = some (some (.ref f38))) (l38 : K.lookup f38 = some ⟨oc38, od38, .func (PySem.W.fnOf "_law_saying" "_law_saying" (defArgs s__law_saying) (defBody s__law_saying) (defScope s__law_saying) .none kV38 dc38 pm38 an38 cd38 ct38), sl38⟩) (c38 : PySem.W.codeIn K cd38 "_law_saying" = true) (k38 : PySem.W.keepIn K (.ref f38) = true)
    {f39 : Addr} {od39 an39 : Option Addr} {sl39 : Array (Option Value)} {oc39 kV39 dc39 pm39 cd39 ct39 : Value}
    (a39 : PySem.W.nsIn K mainGlobals "_law_along" = some (some (.ref f39))) (l39 : K.lookup f39 = some ⟨oc39, od39, .func (PySem.W.fnOf "_law_along" "_law_along" (defArgs s__law_along) (defBody s__law_along) (defScope s__law_along) .none kV39 dc39 pm39 an39 cd39 ct39), sl39⟩) (c39 : PySem.W.codeIn K cd39 "_law_along" = true) (k39 : PySem.W.keepIn K (.ref f39) = true)
    {f40 : Addr} {od40 an40 : Option Addr} {sl40 : Array (Option Value)} {oc40 kV40 dc40 pm40 cd40 ct40 : Value}
    (a40 : PySem.W.nsIn K mainGlobals "_law_bit" = some (some (.ref f40))) (l40 : K.lookup f40 = some ⟨oc40, od40, .func (PySem.W.fnOf "_law_bit" "_law_bit" (defArgs s__law_bit) (defBody s__law_bit) (defScope s__law_bit) .none kV40 dc40 pm40 an40 cd40 ct40), sl40⟩) (c40 : PySem.W.codeIn K cd40 "_law_bit" = true) (k40 : PySem.W.keepIn K (.ref f40) = true)
    {f41 : Addr} {od41 an41 : Option Addr} {sl41 : Array (Option Value)} {oc41 kV41 dc41 pm41 cd41 ct41 : Value}
    (a41 : PySem.W.nsIn K mainGlobals "_law_spots" = some (some (.ref f41))) (l41 : K.lookup f41 = some ⟨oc41, od41, .func (PySem.W.fnOf "_law_spots" "_law_spots" (defArgs s__law_spots) (defBody s__law_spots) (defScope s__law_spots) .none kV41 dc41 pm41 an41 cd41 ct41), sl41⟩) (c41 : PySem.W.codeIn K cd41 "_law_spots" = true) (k41 : PySem.W.keepIn K (.ref f41) = true)
    {f42 : Addr} {od42 an42 : Option Addr} {sl42 : Array (Option Value)} {oc42 kV42 dc42 pm42 cd42 ct42 : Value}
    (a42 : PySem.W.nsIn K mainGlobals "_law_holds" = some (some (.ref f42))) (l42 : K.lookup f42 = some ⟨oc42, od42, .func (PySem.W.fnOf "_law_holds" "_law_holds" (defArgs s__law_holds) (defBody s__law_holds) (defScope s__law_holds) .none kV42 dc42 pm42 an42 cd42 ct42), sl42⟩) (c42 : PySem.W.codeIn K cd42 "_law_holds" = true) (k42 : PySem.W.keepIn K (.ref f42) = true)
    {f43 : Addr} {od43 an43 : Option Addr} {sl43 : Array (Option Value)} {oc43 kV43 dc43 pm43 cd43 ct43 : Value}
    (a43 : PySem.W.nsIn K mainGlobals "_law_letters" = some (some (.ref f43))) (l43 : K.lookup f43 = some ⟨oc43, od43, .func (PySem.W.fnOf "_law_letters" "_law_letters" (defArgs s__law_letters) (defBody s__law_letters) (defScope s__law_letters) .none kV43 dc43 pm43 an43 cd43 ct43), sl43⟩) (c43 : PySem.W.codeIn K cd43 "_law_letters" = true) (k43 : PySem.W.keepIn K (.ref f43) = true)
    {f44 : Addr} {od44 an44 : Option Addr} {sl44 : Array (Option Value)} {oc44 kV44 dc44 pm44 cd44 ct44 : Value}
    (a44 : PySem.W.nsIn K mainGlobals "_law_markings" = some (some (.ref f44))) (l44 : K.lookup f44 = some ⟨oc44, od44, .func (PySem.W.fnOf "_law_markings" "_law_markings" (defArgs s__law_markings) (defBody s__law_markings) (defScope s__law_markings) .none kV44 dc44 pm44 an44 cd44 ct44), sl44⟩) (c44 : PySem.W.codeIn K cd44 "_law_markings" = true) (k44 : PySem.W.keepIn K (.ref f44) = true)
    {f45 : Addr} {od45 an45 : Option Addr} {sl45 : Array (Option Value)} {oc45 kV45 dc45 pm45 cd45 ct45 : Value}
    (a45 : PySem.W.nsIn K mainGlobals "_law_kept" = some (some (.ref f45))) (l45 : K.lookup f45 = some ⟨oc45, od45, .func (PySem.W.fnOf "_law_kept" "_law_kept" (defArgs s__law_kept) (defBody s__law_kept) (defScope s__law_kept) .none kV45 dc45 pm45 an45 cd45 ct45), sl45⟩) (c45 : PySem.W.codeIn K cd45 "_law_kept" = true) (k45 : PySem.W.keepIn K (.ref f45) = true)
    {f46 : Addr} {od46 an46 : Option Addr} {sl46 : Array (Option Value)} {oc46 kV46 dc46 pm46 cd46 ct46 : Value}
    (a46 : PySem.W.nsIn K mainGlobals "_law_like" = some (some (.ref f46))) (l46 : K.lookup f46 = some ⟨oc46, od46, .func (PySem.W.fnOf "_law_like" "_law_like" (defArgs s__law_like) (defBody s__law_like) (defScope s__law_like) .none kV46 dc46 pm46 an46 cd46 ct46), sl46⟩) (c46 : PySem.W.codeIn K cd46 "_law_like" = true) (k46 : PySem.W.keepIn K (.ref f46) = true)
    {f47 : Addr} {od47 an47 : Option Addr} {sl47 : Array (Option Value)} {oc47 kV47 dc47 pm47 cd47 ct47 : Value}
    (a47 : PySem.W.nsIn K mainGlobals "_law_moved" = some (some (.ref f47))) (l47 : K.lookup f47 = some ⟨oc47, od47, .func (PySem.W.fnOf "_law_moved" "_law_moved" (defArgs s__law_moved) (defBody s__law_moved) (defScope s__law_moved) .none kV47 dc47 pm47 an47 cd47 ct47), sl47⟩) (c47 : PySem.W.codeIn K cd47 "_law_moved" = true) (k47 : PySem.W.keepIn K (.ref f47) = true)
    {f48 : Addr} {od48 an48 : Option Addr} {sl48 : Array (Option Value)} {oc48 kV48 dc48 pm48 cd48 ct48 : Value}
    (a48 : PySem.W.nsIn K mainGlobals "_law_put" = some (some (.ref f48))) (l48 : K.lookup f48 = some ⟨oc48, od48, .func (PySem.W.fnOf "_law_put" "_law_put" (defArgs s__law_put) (defBody s__law_put) (defScope s__law_put) .none kV48 dc48 pm48 an48 cd48 ct48), sl48⟩) (c48 : PySem.W.codeIn K cd48 "_law_put" = true) (k48 : PySem.W.keepIn K (.ref f48) = true)
    {f49 : Addr} {od49 an49 : Option Addr} {sl49 : Array (Option Value)} {oc49 kV49 dc49 pm49 cd49 ct49 : Value}
    (a49 : PySem.W.nsIn K mainGlobals "_law_shape" = some (some (.ref f49))) (l49 : K.lookup f49 = some ⟨oc49, od49, .func (PySem.W.fnOf "_law_shape" "_law_shape" (defArgs s__law_shape) (defBody s__law_shape) (defScope s__law_shape) .none kV49 dc49 pm49 an49 cd49 ct49), sl49⟩) (c49 : PySem.W.codeIn K cd49 "_law_shape" = true) (k49 : PySem.W.keepIn K (.ref f49) = true)
    {f50 : Addr} {od50 an50 : Option Addr} {sl50 : Array (Option Value)} {oc50 kV50 dc50 pm50 cd50 ct50 : Value}
    (a50 : PySem.W.nsIn K mainGlobals "_law_stays" = some (some (.ref f50))) (l50 : K.lookup f50 = some ⟨oc50, od50, .func (PySem.W.fnOf "_law_stays" "_law_stays" (defArgs s__law_stays) (defBody s__law_stays) (defScope s__law_stays) .none kV50 dc50 pm50 an50 cd50 ct50), sl50⟩) (c50 : PySem.W.codeIn K cd50 "_law_stays" = true) (k50 : PySem.W.keepIn K (.ref f50) = true)
    {f51 : Addr} {od51 an51 : Option Addr} {sl51 : Array (Option Value)} {oc51 kV51 dc51 pm51 cd51 ct51 : Value}
    (a51 : PySem.W.nsIn K mainGlobals "_law_right" = some (some (.ref f51))) (l51 : K.lookup f51 = some ⟨oc51, od51, .func (PySem.W.fnOf "_law_right" "_law_right" (defArgs s__law_right) (defBody s__law_right) (defScope s__law_right) .none kV51 dc51 pm51 an51 cd51 ct51), sl51⟩) (c51 : PySem.W.codeIn K cd51 "_law_right" = true) (k51 : PySem.W.keepIn K (.ref f51) = true)
    {f52 : Addr} {od52 an52 : Option Addr} {sl52 : Array (Option Value)} {oc52 kV52 dc52 pm52 cd52 ct52 : Value}
    (a52 : PySem.W.nsIn K mainGlobals "law" = some (some (.ref f52))) (l52 : K.lookup f52 = some ⟨oc52, od52, .func (PySem.W.fnOf "law" "law" (defArgs s_law) (defBody s_law) (defScope s_law) .none kV52 dc52 pm52 an52 cd52 ct52), sl52⟩) (c52 : PySem.W.codeIn K cd52 "law" = true) (k52 : PySem.W.keepIn K (.ref f52) = true)
    (z0 : PySem.W.nsIn K mainGlobals "all" = some none)
    (z1 : PySem.W.nsIn K mainGlobals "enumerate" = some none)
    (z2 : PySem.W.nsIn K mainGlobals "int" = some none)
    (z3 : PySem.W.nsIn K mainGlobals "isinstance" = some none)
    (z4 : PySem.W.nsIn K mainGlobals "len" = some none)
    (z5 : PySem.W.nsIn K mainGlobals "list" = some none)
    (z6 : PySem.W.nsIn K mainGlobals "max" = some none)
    (z7 : PySem.W.nsIn K mainGlobals "range" = some none)
    (z8 : PySem.W.nsIn K mainGlobals "repr" = some none)
    (z9 : PySem.W.nsIn K mainGlobals "set" = some none)
    (z10 : PySem.W.nsIn K mainGlobals "sorted" = some none)
    (z11 : PySem.W.nsIn K mainGlobals "str" = some none)
    (z12 : PySem.W.nsIn K mainGlobals "sum" = some none)
    (z13 : PySem.W.nsIn K mainGlobals "tuple" = some none)
    (z14 : PySem.W.nsIn K mainGlobals "type" = some none)
    (z15 : PySem.W.nsIn K mainGlobals "zip" = some none)
    {t0 : Tok} (v0 : PySem.W.nsIn K mainGlobals "MOST_WORLDS" = some (some (.int (200) t0)))
    {t1 : Tok} (v1 : PySem.W.nsIn K mainGlobals "MOST_ARROWS" = some (some (.int (1000) t1)))
    {t2 : Tok} (v2 : PySem.W.nsIn K mainGlobals "LAST_KIND" = some (some (.int (2) t2)))
    {t3 : Tok} (v3 : PySem.W.nsIn K mainGlobals "FIRST_WAY" = some (some (.int (-3) t3)))
    {t4 : Tok} (v4 : PySem.W.nsIn K mainGlobals "LETTERS" = some (some (.int (8) t4)))
    {t5 : Tok} (v5 : PySem.W.nsIn K mainGlobals "MOST_WORDS" = some (some (.int (400) t5)))
    {t6 : Tok} (v6 : PySem.W.nsIn K mainGlobals "MOST_DEEP" = some (some (.int (40) t6)))
    {t7 : Tok} (v7 : PySem.W.nsIn K mainGlobals "MOST_MARKS" = some (some (.int (12) t7)))
    : ∃ fd : FuncData, (∀ (s : Shared) (v : Value), BindsTo s fd ⟨[v], []⟩ [("script", v)]) ∧ ∀ base : Heap, K.In base → base.Ns mainGlobals mg → FnG l.prog w K mg base 49 fa fd ["script"] (sp_law K) := by
  have e := hfa.symm.trans (PySem.W.mg_of X G a52)
  cases e
  have F0 := fun_mk (st := s_is_number) l0 c0 k0
  have b0 := F0.binds (ps := p_is_number) fun _ _ _ _ _ _ us hl => match us, hl with | [_, _, _], _ => rfl
  have F1 := fun_mk (st := s_is_tuple) l1 c1 k1
  have b1 := F1.binds (ps := p_is_tuple) fun _ _ _ _ _ _ us hl => match us, hl with | [_, _, _], _ => rfl
  have F2 := fun_mk (st := s_are_numbers) l2 c2 k2
  have b2 := F2.binds (ps := p_are_numbers) fun _ _ _ _ _ _ us hl => match us, hl with | [_, _, _, _], _ => rfl
  have F3 := fun_mk (st := s_is_ascending) l3 c3 k3
  have b3 := F3.binds (ps := p_is_ascending) fun _ _ _ _ _ _ us hl => match us, hl with | [_], _ => rfl
  have F4 := fun_mk (st := s_need_web) l4 c4 k4
  have b4 := F4.binds (ps := p_need_web) fun _ _ _ _ _ _ us hl => match us, hl with | [_], _ => rfl
  have F5 := fun_mk (st := s__is_web) l5 c5 k5
  have b5 := F5.binds (ps := p__is_web) fun _ _ _ _ _ _ us hl => match us, hl with | [_], _ => rfl
  have F6 := fun_mk (st := s__is_arrow) l6 c6 k6
  have b6 := F6.binds (ps := p__is_arrow) fun _ _ _ _ _ _ us hl => match us, hl with | [_, _], _ => rfl
  have F7 := fun_mk (st := s_turned_way) l7 c7 k7
  have b7 := F7.binds (ps := p_turned_way) fun _ _ _ _ _ _ us hl => match us, hl with | [_], _ => rfl
  have F8 := fun_mk (st := s_leads_of) l8 c8 k8
  have b8 := F8.binds (ps := p_leads_of) fun _ _ _ _ _ _ us hl => match us, hl with | [_], _ => rfl
  have F9 := fun_mk (st := s_Walk___init__) l9 c9 k9
  have b9 := F9.binds (ps := p_Walk___init__) fun _ _ _ _ _ _ us hl => match us, hl with | [_, _, _, _, _], _ => rfl
  have F10 := fun_mk (st := s_Walk_wrong_path) l10 c10 k10
  have b10 := F10.binds (ps := p_Walk_wrong_path) fun _ _ _ _ _ _ us hl => match us, hl with | [_, _, _], _ => rfl
  have F11 := fun_mk (st := s_Walk__met_if_right) l11 c11 k11
  have b11 := F11.binds (ps := p_Walk__met_if_right) fun _ _ _ _ _ _ us hl => match us, hl with | [_, _, _], _ => rfl
  have F12 := fun_mk (st := s_Walk__first_wrong) l12 c12 k12
  have b12 := F12.binds (ps := p_Walk__first_wrong) fun _ _ _ _ _ _ us hl => match us, hl with | [_, _, _], _ => rfl
  have F13 := fun_mk (st := s__parts_if_right) l13 c13 k13
  have b13 := F13.binds (ps := p__parts_if_right) fun _ _ _ _ _ _ us hl => match us, hl with | [_, _, _], _ => rfl
  have F14 := fun_mk (st := s_levels_of) l14 c14 k14
  have b14 := F14.binds (ps := p_levels_of) fun _ _ _ _ _ _ us hl => match us, hl with | [_], _ => rfl
  have F15 := fun_mk (st := s_words_of) l15 c15 k15
  have b15 := F15.binds (ps := p_words_of) fun _ _ _ _ _ _ us hl => match us, hl with | [_], _ => rfl
  have F16 := fun_mk (st := s_size_of) l16 c16 k16
  have b16 := F16.binds (ps := p_size_of) fun _ _ _ _ _ _ us hl => match us, hl with | [_], _ => rfl
  have F17 := fun_mk (st := s_size_with) l17 c17 k17
  have b17 := F17.binds (ps := p_size_with) fun _ _ _ _ _ _ us hl => match us, hl with | [_, _], _ => rfl
  have F18 := fun_mk (st := s_letters_of) l18 c18 k18
  have b18 := F18.binds (ps := p_letters_of) fun _ _ _ _ _ _ us hl => match us, hl with | [_], _ => rfl
  have F19 := fun_mk (st := s_replaced) l19 c19 k19
  have b19 := F19.binds (ps := p_replaced) fun _ _ _ _ _ _ us hl => match us, hl with | [_, _, _], _ => rfl
  have F20 := fun_mk (st := s_need_saying) l20 c20 k20
  have b20 := F20.binds (ps := p_need_saying) fun _ _ _ _ _ _ us hl => match us, hl with | [_], _ => rfl
  have F21 := fun_mk (st := s_is_letter) l21 c21 k21
  have b21 := F21.binds (ps := p_is_letter) fun _ _ _ _ _ _ us hl => match us, hl with | [_], _ => rfl
  have F22 := fun_mk (st := s_letters_in) l22 c22 k22
  have b22 := F22.binds (ps := p_letters_in) fun _ _ _ _ _ _ us hl => match us, hl with | [_], _ => rfl
  have F23 := fun_mk (st := s_Cases___init__) l23 c23 k23
  have b23 := F23.binds (ps := p_Cases___init__) fun _ _ _ _ _ _ us hl => match us, hl with | [_, _, _, _, _], _ => rfl
  have F24 := fun_mk (st := s_Cases_answers) l24 c24 k24
  have b24 := F24.binds (ps := p_Cases_answers) fun _ _ _ _ _ _ us hl => match us, hl with | [_, _], _ => rfl
  have F25 := fun_mk (st := s__everywhere) l25 c25 k25
  have b25 := F25.binds (ps := p__everywhere) fun _ _ _ _ _ _ us hl => match us, hl with | [_, _, _], _ => rfl
  have F26 := fun_mk (st := s_somewhere) l26 c26 k26
  have b26 := F26.binds (ps := p_somewhere) fun _ _ _ _ _ _ us hl => match us, hl with | [_, _], _ => rfl
  have F27 := fun_mk (st := s_put_in) l27 c27 k27
  have b27 := F27.binds (ps := p_put_in) fun _ _ _ _ _ _ us hl => match us, hl with | [_, _, _], _ => rfl
  have F28 := fun_mk (st := s_renamed) l28 c28 k28
  have b28 := F28.binds (ps := p_renamed) fun _ _ _ _ _ _ us hl => match us, hl with | [_, _], _ => rfl
  have F29 := fun_mk (st := s_Trial___init__) l29 c29 k29
  have b29 := F29.binds (ps := p_Trial___init__) fun _ _ _ _ _ _ us hl => match us, hl with | [_, _, _], _ => rfl
  have F30 := fun_mk (st := s_Trial__bit) l30 c30 k30
  have b30 := F30.binds (ps := p_Trial__bit) fun _ _ _ _ _ _ us hl => match us, hl with | [_, _, _], _ => rfl
  have F31 := fun_mk (st := s_Trial__marked) l31 c31 k31
  have b31 := F31.binds (ps := p_Trial__marked) fun _ _ _ _ _ _ us hl => match us, hl with | [_, _, _], _ => rfl
  have F32 := fun_mk (st := s_tried) l32 c32 k32
  have b32 := F32.binds (ps := p_tried) fun _ _ _ _ _ _ us hl => match us, hl with | [_, _], _ => rfl
  have F33 := fun_mk (st := s__law_mixed) l33 c33 k33
  have b33 := F33.binds (ps := p__law_mixed) fun _ _ _ _ _ _ us hl => match us, hl with | [_, _], _ => rfl
  have F34 := fun_mk (st := s__law_begin) l34 c34 k34
  have b34 := F34.binds (ps := p__law_begin) fun _ _ _ _ _ _ us hl => match us, hl with | [_], _ => rfl
  have F35 := fun_mk (st := s__law_draw) l35 c35 k35
  have b35 := F35.binds (ps := p__law_draw) fun _ _ _ _ _ _ us hl => match us, hl with | [_, _], _ => rfl
  have F36 := fun_mk (st := s__law_web) l36 c36 k36
  have b36 := F36.binds (ps := p__law_web) fun _ _ _ _ _ _ us hl => match us, hl with | [_, _, _], _ => rfl
  have F37 := fun_mk (st := s__law_way) l37 c37 k37
  have b37 := F37.binds (ps := p__law_way) fun _ _ _ _ _ _ us hl => match us, hl with | [_, _, _], _ => rfl
  have F38 := fun_mk (st := s__law_saying) l38 c38 k38
  have b38 := F38.binds (ps := p__law_saying) fun _ _ _ _ _ _ us hl => match us, hl with | [_, _, _, _, _], _ => rfl
  have F39 := fun_mk (st := s__law_along) l39 c39 k39
  have b39 := F39.binds (ps := p__law_along) fun _ _ _ _ _ _ us hl => match us, hl with | [_, _], _ => rfl
  have F40 := fun_mk (st := s__law_bit) l40 c40 k40
  have b40 := F40.binds (ps := p__law_bit) fun _ _ _ _ _ _ us hl => match us, hl with | [_], _ => rfl
  have F41 := fun_mk (st := s__law_spots) l41 c41 k41
  have b41 := F41.binds (ps := p__law_spots) fun _ _ _ _ _ _ us hl => match us, hl with | [_, _], _ => rfl
  have F42 := fun_mk (st := s__law_holds) l42 c42 k42
  have b42 := F42.binds (ps := p__law_holds) fun _ _ _ _ _ _ us hl => match us, hl with | [_, _, _], _ => rfl
  have F43 := fun_mk (st := s__law_letters) l43 c43 k43
  have b43 := F43.binds (ps := p__law_letters) fun _ _ _ _ _ _ us hl => match us, hl with | [_], _ => rfl
  have F44 := fun_mk (st := s__law_markings) l44 c44 k44
  have b44 := F44.binds (ps := p__law_markings) fun _ _ _ _ _ _ us hl => match us, hl with | [_, _], _ => rfl
  have F45 := fun_mk (st := s__law_kept) l45 c45 k45
  have b45 := F45.binds (ps := p__law_kept) fun _ _ _ _ _ _ us hl => match us, hl with | [_, _], _ => rfl
  have F46 := fun_mk (st := s__law_like) l46 c46 k46
  have b46 := F46.binds (ps := p__law_like) fun _ _ _ _ _ _ us hl => match us, hl with | [_, _], _ => rfl
  have F47 := fun_mk (st := s__law_moved) l47 c47 k47
  have b47 := F47.binds (ps := p__law_moved) fun _ _ _ _ _ _ us hl => match us, hl with | [_, _], _ => rfl
  have F48 := fun_mk (st := s__law_put) l48 c48 k48
  have b48 := F48.binds (ps := p__law_put) fun _ _ _ _ _ _ us hl => match us, hl with | [_, _, _], _ => rfl
  have F49 := fun_mk (st := s__law_shape) l49 c49 k49
  have b49 := F49.binds (ps := p__law_shape) fun _ _ _ _ _ _ us hl => match us, hl with | [_], _ => rfl
  have F50 := fun_mk (st := s__law_stays) l50 c50 k50
  have b50 := F50.binds (ps := p__law_stays) fun _ _ _ _ _ _ us hl => match us, hl with | [_, _, _, _], _ => rfl
  have F51 := fun_mk (st := s__law_right) l51 c51 k51
  have b51 := F51.binds (ps := p__law_right) fun _ _ _ _ _ _ us hl => match us, hl with | [_, _, _], _ => rfl
  have F52 := fun_mk (st := s_law) l52 c52 k52
  have b52 := F52.binds (ps := p_law) fun _ _ _ _ _ _ us hl => match us, hl with | [_], _ => rfl
  exact ⟨_, fun s v => .of_eq rfl, fun base _ _ => ok_law (T := {
    a_is_number := _, fd_is_number := _, F_is_number := F0, b_is_number := b0, g_is_number := PySem.W.mg_of X G a0,
    a_is_tuple := _, fd_is_tuple := _, F_is_tuple := F1, b_is_tuple := b1, g_is_tuple := PySem.W.mg_of X G a1,
    a_are_numbers := _, fd_are_numbers := _, F_are_numbers := F2, b_are_numbers := b2, g_are_numbers := PySem.W.mg_of X G a2,
    a_is_ascending := _, fd_is_ascending := _, F_is_ascending := F3, b_is_ascending := b3, g_is_ascending := PySem.W.mg_of X G a3,
    a_need_web := _, fd_need_web := _, F_need_web := F4, b_need_web := b4, g_need_web := PySem.W.mg_of X G a4,
    a__is_web := _, fd__is_web := _, F__is_web := F5, b__is_web := b5, g__is_web := PySem.W.mg_of X G a5,
    a__is_arrow := _, fd__is_arrow := _, F__is_arrow := F6, b__is_arrow := b6, g__is_arrow := PySem.W.mg_of X G a6,
    a_turned_way := _, fd_turned_way := _, F_turned_way := F7, b_turned_way := b7, g_turned_way := PySem.W.mg_of X G a7,
    a_leads_of := _, fd_leads_of := _, F_leads_of := F8, b_leads_of := b8, g_leads_of := PySem.W.mg_of X G a8,
    a_Walk___init__ := _, fd_Walk___init__ := _, F_Walk___init__ := F9, b_Walk___init__ := b9,
    a_Walk_wrong_path := _, fd_Walk_wrong_path := _, F_Walk_wrong_path := F10, b_Walk_wrong_path := b10,
    a_Walk__met_if_right := _, fd_Walk__met_if_right := _, F_Walk__met_if_right := F11, b_Walk__met_if_right := b11,
    a_Walk__first_wrong := _, fd_Walk__first_wrong := _, F_Walk__first_wrong := F12, b_Walk__first_wrong := b12,
    a__parts_if_right := _, fd__parts_if_right := _, F__parts_if_right := F13, b__parts_if_right := b13, g__parts_if_right := PySem.W.mg_of X G a13,
    a_levels_of := _, fd_levels_of := _, F_levels_of := F14, b_levels_of := b14, g_levels_of := PySem.W.mg_of X G a14,
    a_words_of := _, fd_words_of := _, F_words_of := F15, b_words_of := b15, g_words_of := PySem.W.mg_of X G a15,
    a_size_of := _, fd_size_of := _, F_size_of := F16, b_size_of := b16, g_size_of := PySem.W.mg_of X G a16,
    a_size_with := _, fd_size_with := _, F_size_with := F17, b_size_with := b17, g_size_with := PySem.W.mg_of X G a17,
    a_letters_of := _, fd_letters_of := _, F_letters_of := F18, b_letters_of := b18, g_letters_of := PySem.W.mg_of X G a18,
    a_replaced := _, fd_replaced := _, F_replaced := F19, b_replaced := b19, g_replaced := PySem.W.mg_of X G a19,
    a_need_saying := _, fd_need_saying := _, F_need_saying := F20, b_need_saying := b20, g_need_saying := PySem.W.mg_of X G a20,
    a_is_letter := _, fd_is_letter := _, F_is_letter := F21, b_is_letter := b21, g_is_letter := PySem.W.mg_of X G a21,
    a_letters_in := _, fd_letters_in := _, F_letters_in := F22, b_letters_in := b22, g_letters_in := PySem.W.mg_of X G a22,
    a_Cases___init__ := _, fd_Cases___init__ := _, F_Cases___init__ := F23, b_Cases___init__ := b23,
    a_Cases_answers := _, fd_Cases_answers := _, F_Cases_answers := F24, b_Cases_answers := b24,
    a__everywhere := _, fd__everywhere := _, F__everywhere := F25, b__everywhere := b25, g__everywhere := PySem.W.mg_of X G a25,
    a_somewhere := _, fd_somewhere := _, F_somewhere := F26, b_somewhere := b26, g_somewhere := PySem.W.mg_of X G a26,
    a_put_in := _, fd_put_in := _, F_put_in := F27, b_put_in := b27, g_put_in := PySem.W.mg_of X G a27,
    a_renamed := _, fd_renamed := _, F_renamed := F28, b_renamed := b28, g_renamed := PySem.W.mg_of X G a28,
    a_Trial___init__ := _, fd_Trial___init__ := _, F_Trial___init__ := F29, b_Trial___init__ := b29,
    a_Trial__bit := _, fd_Trial__bit := _, F_Trial__bit := F30, b_Trial__bit := b30,
    a_Trial__marked := _, fd_Trial__marked := _, F_Trial__marked := F31, b_Trial__marked := b31,
    a_tried := _, fd_tried := _, F_tried := F32, b_tried := b32, g_tried := PySem.W.mg_of X G a32,
    a__law_mixed := _, fd__law_mixed := _, F__law_mixed := F33, b__law_mixed := b33, g__law_mixed := PySem.W.mg_of X G a33,
    a__law_begin := _, fd__law_begin := _, F__law_begin := F34, b__law_begin := b34, g__law_begin := PySem.W.mg_of X G a34,
    a__law_draw := _, fd__law_draw := _, F__law_draw := F35, b__law_draw := b35, g__law_draw := PySem.W.mg_of X G a35,
    a__law_web := _, fd__law_web := _, F__law_web := F36, b__law_web := b36, g__law_web := PySem.W.mg_of X G a36,
    a__law_way := _, fd__law_way := _, F__law_way := F37, b__law_way := b37, g__law_way := PySem.W.mg_of X G a37,
    a__law_saying := _, fd__law_saying := _, F__law_saying := F38, b__law_saying := b38, g__law_saying := PySem.W.mg_of X G a38,
    a__law_along := _, fd__law_along := _, F__law_along := F39, b__law_along := b39, g__law_along := PySem.W.mg_of X G a39,
    a__law_bit := _, fd__law_bit := _, F__law_bit := F40, b__law_bit := b40, g__law_bit := PySem.W.mg_of X G a40,
    a__law_spots := _, fd__law_spots := _, F__law_spots := F41, b__law_spots := b41, g__law_spots := PySem.W.mg_of X G a41,
    a__law_holds := _, fd__law_holds := _, F__law_holds := F42, b__law_holds := b42, g__law_holds := PySem.W.mg_of X G a42,
    a__law_letters := _, fd__law_letters := _, F__law_letters := F43, b__law_letters := b43, g__law_letters := PySem.W.mg_of X G a43,
    a__law_markings := _, fd__law_markings := _, F__law_markings := F44, b__law_markings := b44, g__law_markings := PySem.W.mg_of X G a44,
    a__law_kept := _, fd__law_kept := _, F__law_kept := F45, b__law_kept := b45, g__law_kept := PySem.W.mg_of X G a45,
    a__law_like := _, fd__law_like := _, F__law_like := F46, b__law_like := b46, g__law_like := PySem.W.mg_of X G a46,
    a__law_moved := _, fd__law_moved := _, F__law_moved := F47, b__law_moved := b47, g__law_moved := PySem.W.mg_of X G a47,
    a__law_put := _, fd__law_put := _, F__law_put := F48, b__law_put := b48, g__law_put := PySem.W.mg_of X G a48,
    a__law_shape := _, fd__law_shape := _, F__law_shape := F49, b__law_shape := b49, g__law_shape := PySem.W.mg_of X G a49,
    a__law_stays := _, fd__law_stays := _, F__law_stays := F50, b__law_stays := b50, g__law_stays := PySem.W.mg_of X G a50,
    a__law_right := _, fd__law_right := _, F__law_right := F51, b__law_right := b51, g__law_right := PySem.W.mg_of X G a51,
    a_law := _, fd_law := _, F_law := F52, b_law := b52, g_law := PySem.W.mg_of X G a52,
    C_Walk := C0, c_Walk := PySem.W.mg_of X G ac0, cl_Walk := ⟨pg0, hd0, po0, sa0⟩,
    mk_Walk := ⟨mk0, a9, i9, kc0⟩,
    me_Walk_wrong_path := ⟨a10, i10, k10⟩,
    me_Walk__met_if_right := ⟨a11, i11, k11⟩,
    me_Walk__first_wrong := ⟨a12, i12, k12⟩,
    na_Walk_letters := na0_0,
    na_Walk_denying := na0_1,
    na_Walk_most_deep := na0_2,
    na_Walk_most_words := na0_3,
    na_Walk_met := na0_4,
    C_Cases := C1, c_Cases := PySem.W.mg_of X G ac1, cl_Cases := ⟨pg1, hd1, po1, sa1⟩,
    mk_Cases := ⟨mk1, a23, i23, kc1⟩,
    me_Cases_answers := ⟨a24, i24, k24⟩,
    na_Cases_leads := na1_0,
    na_Cases_marks := na1_1,
    na_Cases_heres := na1_2,
    na_Cases_full := na1_3,
    C_Trial := C2, c_Trial := PySem.W.mg_of X G ac2, cl_Trial := ⟨pg2, hd2, po2, sa2⟩,
    mk_Trial := ⟨mk2, a29, i29, kc2⟩,
    me_Trial__bit := ⟨a30, i30, k30⟩,
    me_Trial__marked := ⟨a31, i31, k31⟩,
    na_Trial_size := na2_0,
    na_Trial_letters := na2_1,
    na_Trial_bits := na2_2,
    na_Trial_full := na2_3,
    na_Trial_found := na2_4,
    m_all := PySem.W.mg_none_of X G z0,
    m_enumerate := PySem.W.mg_none_of X G z1,
    m_int := PySem.W.mg_none_of X G z2,
    m_isinstance := PySem.W.mg_none_of X G z3,
    m_len := PySem.W.mg_none_of X G z4,
    m_list := PySem.W.mg_none_of X G z5,
    m_max := PySem.W.mg_none_of X G z6,
    m_range := PySem.W.mg_none_of X G z7,
    m_repr := PySem.W.mg_none_of X G z8,
    m_set := PySem.W.mg_none_of X G z9,
    m_sorted := PySem.W.mg_none_of X G z10,
    m_str := PySem.W.mg_none_of X G z11,
    m_sum := PySem.W.mg_none_of X G z12,
    m_tuple := PySem.W.mg_none_of X G z13,
    m_type := PySem.W.mg_none_of X G z14,
    m_zip := PySem.W.mg_none_of X G z15,
    t_MOST_WORLDS := t0, c_MOST_WORLDS := PySem.W.mg_of X G v0,
    t_MOST_ARROWS := t1, c_MOST_ARROWS := PySem.W.mg_of X G v1,
    t_LAST_KIND := t2, c_LAST_KIND := PySem.W.mg_of X G v2,
    t_FIRST_WAY := t3, c_FIRST_WAY := PySem.W.mg_of X G v3,
    t_LETTERS := t4, c_LETTERS := PySem.W.mg_of X G v4,
    t_MOST_WORDS := t5, c_MOST_WORDS := PySem.W.mg_of X G v5,
    t_MOST_DEEP := t6, c_MOST_DEEP := PySem.W.mg_of X G v6,
    t_MOST_MARKS := t7, c_MOST_MARKS := PySem.W.mg_of X G v7
  })⟩
end K0
open PySem PySem.W PyProof.Rows
set_option maxHeartbeats 0 in
theorem PySem.Challenge.cw_anymarks_k07_whole_what_is_put_in_stays_holds : PySem.Challenge.rw_anymarks_k07_whole_what_is_put_in_stays.Holds := by
  w_on; o_law; k_head; (case hw => w_witness2)
  k_fill
  refine W0.walk_g (l := PySem.Challenge.rw_anymarks_k07_whole_what_is_put_in_stays) (n := 63) (k := 49) (x := "script") (sp := fun K => K0.sp_law K) rfl (by decide) rfl ⟨rfl, by decide, by decide⟩ (fun w h Y => PySem.W.kIn_of Y) ?F (fun K H a ns hl hS _ => ⟨a, ns, rfl, hS, hl, fun _ => rfl⟩)
  case F =>
    intro w mg fa h KX G hmg
    refine' K0.all_mk KX G hmg ?ac0 ?pg0 ?hd0 ?po0 ?sa0 ?mk0 ?kc0 ?na0_0 ?na0_1 ?na0_2 ?na0_3 ?na0_4 ?ac1 ?pg1 ?hd1 ?po1 ?sa1 ?mk1 ?kc1 ?na1_0 ?na1_1 ?na1_2 ?na1_3 ?ac2 ?pg2 ?hd2 ?po2 ?sa2 ?mk2 ?kc2 ?na2_0 ?na2_1 ?na2_2 ?na2_3 ?na2_4 ?a0 ?l0 ?c0 ?k0 ?a1 ?l1 ?c1 ?k1 ?a2 ?l2 ?c2 ?k2 ?a3 ?l3 ?c3 ?k3 ?a4 ?l4 ?c4 ?k4 ?a5 ?l5 ?c5 ?k5 ?a6 ?l6 ?c6 ?k6 ?a7 ?l7 ?c7 ?k7 ?a8 ?l8 ?c8 ?k8 ?a9 ?i9 ?l9 ?c9 ?k9 ?a10 ?i10 ?l10 ?c10 ?k10 ?a11 ?i11 ?l11 ?c11 ?k11 ?a12 ?i12 ?l12 ?c12 ?k12 ?a13 ?l13 ?c13 ?k13 ?a14 ?l14 ?c14 ?k14 ?a15 ?l15 ?c15 ?k15 ?a16 ?l16 ?c16 ?k16 ?a17 ?l17 ?c17 ?k17 ?a18 ?l18 ?c18 ?k18 ?a19 ?l19 ?c19 ?k19 ?a20 ?l20 ?c20 ?k20 ?a21 ?l21 ?c21 ?k21 ?a22 ?l22 ?c22 ?k22 ?a23 ?i23 ?l23 ?c23 ?k23 ?a24 ?i24 ?l24 ?c24 ?k24 ?a25 ?l25 ?c25 ?k25 ?a26 ?l26 ?c26 ?k26 ?a27 ?l27 ?c27 ?k27 ?a28 ?l28 ?c28 ?k28 ?a29 ?i29 ?l29 ?c29 ?k29 ?a30 ?i30 ?l30 ?c30 ?k30 ?a31 ?i31 ?l31 ?c31 ?k31 ?a32 ?l32 ?c32 ?k32 ?a33 ?l33 ?c33 ?k33 ?a34 ?l34 ?c34 ?k34 ?a35 ?l35 ?c35 ?k35 ?a36 ?l36 ?c36 ?k36 ?a37 ?l37 ?c37 ?k37 ?a38 ?l38 ?c38 ?k38 ?a39 ?l39 ?c39 ?k39 ?a40 ?l40 ?c40 ?k40 ?a41 ?l41 ?c41 ?k41 ?a42 ?l42 ?c42 ?k42 ?a43 ?l43 ?c43 ?k43 ?a44 ?l44 ?c44 ?k44 ?a45 ?l45 ?c45 ?k45 ?a46 ?l46 ?c46 ?k46 ?a47 ?l47 ?c47 ?k47 ?a48 ?l48 ?c48 ?k48 ?a49 ?l49 ?c49 ?k49 ?a50 ?l50 ?c50 ?k50 ?a51 ?l51 ?c51 ?k51 ?a52 ?l52 ?c52 ?k52 ?z0 ?z1 ?z2 ?z3 ?z4 ?z5 ?z6 ?z7 ?z8 ?z9 ?z10 ?z11 ?z12 ?z13 ?z14 ?z15 ?v0 ?v1 ?v2 ?v3 ?v4 ?v5 ?v6 ?v7
    (case ac0 => k_is)
    (case pg0 => k_is)
    (case hd0 => k_is)
    (case po0 => k_is)
    (case sa0 => k_is)
    (case mk0 => k_is)
    (case kc0 => k_is)
    (case na0_0 => k_is)
    (case na0_1 => k_is)
    (case na0_2 => k_is)
    (case na0_3 => k_is)
    (case na0_4 => k_is)
    (case ac1 => k_is)
    (case pg1 => k_is)
    (case hd1 => k_is)
    (case po1 => k_is)
    (case sa1 => k_is)
    (case mk1 => k_is)
    (case kc1 => k_is)
    (case na1_0 => k_is)
    (case na1_1 => k_is)
    (case na1_2 => k_is)
    (case na1_3 => k_is)
    (case ac2 => k_is)
    (case pg2 => k_is)
    (case hd2 => k_is)
    (case po2 => k_is)
    (case sa2 => k_is)
    (case mk2 => k_is)
    (case kc2 => k_is)
    (case na2_0 => k_is)
    (case na2_1 => k_is)
    (case na2_2 => k_is)
    (case na2_3 => k_is)
    (case na2_4 => k_is)
    (case a0 => k_is)
    (case l0 => k_is)
    (case c0 => k_is)
    (case k0 => k_is)
    (case a1 => k_is)
    (case l1 => k_is)
    (case c1 => k_is)
    (case k1 => k_is)
    (case a2 => k_is)
    (case l2 => k_is)
    (case c2 => k_is)
    (case k2 => k_is)
    (case a3 => k_is)
    (case l3 => k_is)
    (case c3 => k_is)
    (case k3 => k_is)
    (case a4 => k_is)
    (case l4 => k_is)
    (case c4 => k_is)
    (case k4 => k_is)
    (case a5 => k_is)
    (case l5 => k_is)
    (case c5 => k_is)
    (case k5 => k_is)
    (case a6 => k_is)
    (case l6 => k_is)
    (case c6 => k_is)
    (case k6 => k_is)
    (case a7 => k_is)
    (case l7 => k_is)
    (case c7 => k_is)
    (case k7 => k_is)
    (case a8 => k_is)
    (case l8 => k_is)
    (case c8 => k_is)
    (case k8 => k_is)
    (case a9 => k_is)
    (case i9 => k_is)
    (case l9 => k_is)
    (case c9 => k_is)
    (case k9 => k_is)
    (case a10 => k_is)
    (case i10 => k_is)
    (case l10 => k_is)
    (case c10 => k_is)
    (case k10 => k_is)
    (case a11 => k_is)
    (case i11 => k_is)
    (case l11 => k_is)
    (case c11 => k_is)
    (case k11 => k_is)
    (case a12 => k_is)
    (case i12 => k_is)
    (case l12 => k_is)
    (case c12 => k_is)
    (case k12 => k_is)
    (case a13 => k_is)
    (case l13 => k_is)
    (case c13 => k_is)
    (case k13 => k_is)
    (case a14 => k_is)
    (case l14 => k_is)
    (case c14 => k_is)
    (case k14 => k_is)
    (case a15 => k_is)
    (case l15 => k_is)
    (case c15 => k_is)
    (case k15 => k_is)
    (case a16 => k_is)
    (case l16 => k_is)
    (case c16 => k_is)
    (case k16 => k_is)
    (case a17 => k_is)
    (case l17 => k_is)
    (case c17 => k_is)
    (case k17 => k_is)
    (case a18 => k_is)
    (case l18 => k_is)
    (case c18 => k_is)
    (case k18 => k_is)
    (case a19 => k_is)
    (case l19 => k_is)
    (case c19 => k_is)
    (case k19 => k_is)
    (case a20 => k_is)
    (case l20 => k_is)
    (case c20 => k_is)
    (case k20 => k_is)
    (case a21 => k_is)
    (case l21 => k_is)
    (case c21 => k_is)
    (case k21 => k_is)
    (case a22 => k_is)
    (case l22 => k_is)
    (case c22 => k_is)
    (case k22 => k_is)
    (case a23 => k_is)
    (case i23 => k_is)
    (case l23 => k_is)
    (case c23 => k_is)
    (case k23 => k_is)
    (case a24 => k_is)
    (case i24 => k_is)
    (case l24 => k_is)
    (case c24 => k_is)
    (case k24 => k_is)
    (case a25 => k_is)
    (case l25 => k_is)
    (case c25 => k_is)
    (case k25 => k_is)
    (case a26 => k_is)
    (case l26 => k_is)
    (case c26 => k_is)
    (case k26 => k_is)
    (case a27 => k_is)
    (case l27 => k_is)
    (case c27 => k_is)
    (case k27 => k_is)
    (case a28 => k_is)
    (case l28 => k_is)
    (case c28 => k_is)
    (case k28 => k_is)
    (case a29 => k_is)
    (case i29 => k_is)
    (case l29 => k_is)
    (case c29 => k_is)
    (case k29 => k_is)
    (case a30 => k_is)
    (case i30 => k_is)
    (case l30 => k_is)
    (case c30 => k_is)
    (case k30 => k_is)
    (case a31 => k_is)
    (case i31 => k_is)
    (case l31 => k_is)
    (case c31 => k_is)
    (case k31 => k_is)
    (case a32 => k_is)
    (case l32 => k_is)
    (case c32 => k_is)
    (case k32 => k_is)
    (case a33 => k_is)
    (case l33 => k_is)
    (case c33 => k_is)
    (case k33 => k_is)
    (case a34 => k_is)
    (case l34 => k_is)
    (case c34 => k_is)
    (case k34 => k_is)
    (case a35 => k_is)
    (case l35 => k_is)
    (case c35 => k_is)
    (case k35 => k_is)
    (case a36 => k_is)
    (case l36 => k_is)
    (case c36 => k_is)
    (case k36 => k_is)
    (case a37 => k_is)
    (case l37 => k_is)
    (case c37 => k_is)
    (case k37 => k_is)
    (case a38 => k_is)
    (case l38 => k_is)
    (case c38 => k_is)
    (case k38 => k_is)
    (case a39 => k_is)
    (case l39 => k_is)
    (case c39 => k_is)
    (case k39 => k_is)
    (case a40 => k_is)
    (case l40 => k_is)
    (case c40 => k_is)
    (case k40 => k_is)
    (case a41 => k_is)
    (case l41 => k_is)
    (case c41 => k_is)
    (case k41 => k_is)
    (case a42 => k_is)
    (case l42 => k_is)
    (case c42 => k_is)
    (case k42 => k_is)
    (case a43 => k_is)
    (case l43 => k_is)
    (case c43 => k_is)
    (case k43 => k_is)
    (case a44 => k_is)
    (case l44 => k_is)
    (case c44 => k_is)
    (case k44 => k_is)
    (case a45 => k_is)
    (case l45 => k_is)
    (case c45 => k_is)
    (case k45 => k_is)
    (case a46 => k_is)
    (case l46 => k_is)
    (case c46 => k_is)
    (case k46 => k_is)
    (case a47 => k_is)
    (case l47 => k_is)
    (case c47 => k_is)
    (case k47 => k_is)
    (case a48 => k_is)
    (case l48 => k_is)
    (case c48 => k_is)
    (case k48 => k_is)
    (case a49 => k_is)
    (case l49 => k_is)
    (case c49 => k_is)
    (case k49 => k_is)
    (case a50 => k_is)
    (case l50 => k_is)
    (case c50 => k_is)
    (case k50 => k_is)
    (case a51 => k_is)
    (case l51 => k_is)
    (case c51 => k_is)
    (case k51 => k_is)
    (case a52 => k_is)
    (case l52 => k_is)
    (case c52 => k_is)
    (case k52 => k_is)
    (case z0 => k_is)
    (case z1 => k_is)
    (case z2 => k_is)
    (case z3 => k_is)
    (case z4 => k_is)
    (case z5 => k_is)
    (case z6 => k_is)
    (case z7 => k_is)
    (case z8 => k_is)
    (case z9 => k_is)
    (case z10 => k_is)
    (case z11 => k_is)
    (case z12 => k_is)
    (case z13 => k_is)
    (case z14 => k_is)
    (case z15 => k_is)
    (case v0 => k_is)
    (case v1 => k_is)
    (case v2 => k_is)
    (case v3 => k_is)
    (case v4 => k_is)
    (case v5 => k_is)
    (case v6 => k_is)
    (case v7 => k_is)
