import PyProof.Rows.All
import Wide.All
import OpenK.AllK
import Wide.FinOn
import HandS.Base
import HandS.Call
import HandS.List
import HandS.Comp
import HandS.Ends
import HandS.Text
import HandS.Words
import HandS.StrMore
import HandS.ForMost
import HandS.Codes
import HandS.Replace
import HandS.FStrTup
import PyProof.StrBlock2
import HandS.Iter
import HandS.Zip0
import KE.GoesEnum
import PyProof.EnumMake
import KE.GoesMore
import HandS.WideBits
import HandS.Flt
import HandS.FltList
import HandS.SortRule
import HandS.Conv
import HandS.Sort
import PySem.Challenge.RW_anchoredits_k59_nearest_windows
set_option Elab.async false
set_option maxRecDepth 100000
set_option linter.all false
namespace Vk
open PySem PySem.Spec PyProof.Rows L2
/-! ## defs that may show values: no guard is under way -/
structure FnG (P : Program) (w : World) (K : PySem.W.Frag) (mg : Str → Option Value) (base : Heap) (CX : CXT) (k : Nat) (f : Addr) (fd : FuncData) (ps : List Str) (sp : Sp) : Prop where
  len : ∀ vs H Q E, sp vs H Q E → vs.length = ps.length
  run : ∀ (A : Around) (outer : List Env) (s : Shared) (H : Hp) (args : Args) (us : List Value) (vs : List V) (Q : VK) (E : XK), A.guards = some [] → Room k A → Env0 P w K mg base A outer s H → BindsTo s fd args (ps.zip us) → Vals vs us → sp vs H Q E →
    codeAny (model P w) A (.call (.ref f) args) (CR CX outer P w H s Q E) s
theorem FnG.of {P : Program} {w : World} {K : PySem.W.Frag} {mg : Str → Option Value} {base : Heap} {CX : CXT} {k : Nat} {f : Addr} {fd : FuncData} {ps : List Str} {sp : Sp} (F : FnOk P w K mg base CX k f fd ps sp) : FnG P w K mg base CX k f fd ps sp :=
  ⟨F.len, fun A outer s H args us vs Q E _ => F.run A outer s H args us vs Q E⟩
section
variable {P : Program} {w : World} {K : PySem.W.Frag} {mg : Str → Option Value} {base : Heap}
theorem okG {CX : CXT} {x qual : Str} {st : Stmt} {f : Addr} {fd : FuncData} {N ps : List Str} {k : Nat} {sp : Sp} (F : Fun K x qual st f fd) (S : FnScope N ps (defScope st)) (hlen : ∀ vs H Q E, sp vs H Q E → vs.length = ps.length)
    (hbody : ∀ (cdv : Value) (A : Around) (outer : List Env) (s : Shared) (H : Hp) (vs : List V) (Q : VK) (E : XK), A.guards = some [] → Room k (A.deeper (envOfC qual (defScope st) s.heap.objs.size f cdv)) → sp vs H Q E →
      ∃ t, PSs (cxOf CX P w K mg base N qual (defScope st) f cdv A outer s H E) (defBody st) t ∧ t { nx := fun _ H' => Q .non H', rt := Q } (start N vs) H) : FnG P w K mg base CX (k + 1) f fd ps sp := by
  obtain ⟨oc, od, kV, doc, pm, an, cdv, ct, osl, rfl, lk, hcd⟩ := F.ex
  refine ⟨hlen, fun A outer s H args us vs Q E hg hr e0 hb r hsp => ?_⟩
  have hvl := hlen _ _ _ _ hsp
  have KX := e0.mod.kin.keeps (fun b o e => (e0.bs b o e).1 : ∀ b o, base.get? b = some o → s.heap.get? b = some o)
  have noLim := e0.mod.nolimit.keeps (fun b o e => (e0.bs b o e).1 : ∀ b o, base.get? b = some o → s.heap.get? b = some o)
  have kinds : ∀ y ∈ ps.zip us, (defScope st).names.lookup y.1 = some .local ∨ ((defScope st).names.lookup y.1 = some .cell ∧ ((cellsFrom (s.heap.objs.size + 1) (defScope st).names []).lookup y.1).isSome = true) := by
    rintro ⟨n, v⟩ hy
    have hy1 := (List.of_mem_zip hy).1
    cases S.par n hy1 with
    | inl q => exact Or.inl q
    | inr q => exact Or.inr (And.intro q (PySem.W.cellsFrom_some _ _ _ (Or.inl q)))
  refine codeAny_call_function hr.depth (KX f _ lk) rfl S.co S.gen rfl (PySem.W.codeRec_of KX hcd) (hb _ _ _ _ (wpAny_newFunctionEnv_cells S.kind kinds fun env he s1 x => ?_))
  cases he
  refine And.intro (noLim.keeps x.toInCall.keep) (codeAny_func ?_)
  obtain ⟨t, ht, hq⟩ := hbody cdv A outer s H vs Q E hg (hr.deeper _) hsp
  have I0 := inv_start (CX := CX) (E := E) S hr.hd e0 hvl r x
  refine wpAny_mono (ht.run [] s1 (start N vs) H _ I0 hq) (fun fl s2 hs => ?_) (fun e s2 hs => hs)
  have close : ∀ {σ2 : L2.St} {H2 : Hp} {v : V} {u : Value}, Inv (cxOf CX P w K mg base N qual (defScope st) f cdv A outer s H E) [] σ2 H2 s2 → RelV v u → Q v H2 → CE outer P w H s Q u s2 := by
    intro σ2 H2 v u J rv q
    exact ⟨v, H2, And.intro J.os (And.intro J.bare (And.intro J.base (And.intro J.hok (And.intro rv q))))⟩
  match fl, hs with
  | .ret u, ⟨v, σ2, H2, J, rv, q⟩ => exact close J rv q
  | .next, ⟨σ2, H2, J, q⟩ => exact close (v := V.non) (u := Value.none) J rfl q
  | .brk, ⟨_, _, _, q⟩ => exact q.elim
  | .cont, ⟨_, _, _, q⟩ => exact q.elim
end
section
variable {P : Program} {w : World} {K : PySem.W.Frag} {mg : Str → Option Value} {base : Heap}
theorem okG0 {x qual : Str} {st : Stmt} {f : Addr} {fd : FuncData} {N ps : List Str} {k : Nat} {sp : Sp} (F : Fun K x qual st f fd) (S : FnScope N ps (defScope st)) (hlen : ∀ vs H Q E, sp vs H Q E → vs.length = ps.length)
    (hbody : ∀ (cdv : Value) (A : Around) (outer : List Env) (s : Shared) (H : Hp) (vs : List V) (Q : VK) (E : XK), A.guards = some [] → Room k (A.deeper (envOfC qual (defScope st) s.heap.objs.size f cdv)) → sp vs H Q E →
      ∃ t, PSs (cxOf CX0 P w K mg base N qual (defScope st) f cdv A outer s H E).nox (defBody st) t ∧ t { nx := fun _ H' => Q .non H', rt := Q } (start N vs) H) : FnG P w K mg base CX0 (k + 1) f fd ps sp :=
  okG F S hlen fun cdv A outer s H vs Q E hg hr hsp => match hbody cdv A outer s H vs Q E hg hr hsp with | ⟨t, h, q⟩ => ⟨t, h.nox, q⟩
end
/-- a def of the module by its name -/
structure CalG (P : Program) (w : World) (K : PySem.W.Frag) (mg : Str → Option Value) (base : Heap) (CX : CXT) (k : Nat) (x : Str) (sp : Sp) : Prop where
  ex : ∃ (f : Addr) (fd : FuncData) (ps : List Str), FnG P w K mg base CX k f fd ps sp ∧ mg x = some (.ref f) ∧ PySem.W.keepIn K (.ref f) = true ∧ Binds K fd ps []
section
variable {X : Cx} {CX : CXT} {j k : Nat} {f : Addr} {fd : FuncData} {ps : List Str} {sp : Sp} {E : XK} {x : Str} {p pos : Pos} {e : Expr} {es : List Expr} {t : TA}
theorem run_fnG {pins : List (Addr × Obj)} {σ : L2.St} {H : Hp} {s : Shared} {Q : VK} {us : List Value} {vs : List V} (F : FnG X.prog X.w X.K X.mg X.base CX k f fd ps sp) (hg : X.A.guards = some []) (hr : Room k X.A) (hb : Binds X.K fd ps []) (hx : Passes CX X E)
    (I : Inv X pins σ H s) (r : Vals vs us) (h : sp vs H Q E) : wpAny (model X.prog X.w) X.A (call (.ref f) us) (EP X pins σ Q) X.xe s := by
  have hl : us.length = ps.length := r.length.symm.trans (F.len _ _ _ _ h)
  have b := hb s us I.kIn ((congrArg List.length (List.append_nil us)).trans hl)
  rw [List.append_nil] at b
  refine wpAny_call (codeAny_mono (F.run X.A X.stack s H ⟨us, []⟩ us vs Q E hg hr I.env0 b r h) (fun res s2 hq => ?_))
  match res, hq with
  | .error e, hq => exact hx pins σ H s e s2 I hq
  | .ok (.ret u), hq => exact I.after hq
  | .ok .next, hq => exact hq.elim
  | .ok .brk, hq => exact hq.elim
  | .ok .cont, hq => exact hq.elim
theorem pe_cG (c : CalG X.prog X.w X.K X.mg X.base CX k x sp) (hg : X.A.guards = some []) (hr : Room j X.A) (hk : k ≤ j) (hx : Passes CX X E) (ha : PA X (e :: es) t) (gl : Gl X x := by rfl)
    (hdb : (x == ("__debug__" : Str)) = false := by decide) (he : starEach (e :: es) X.env = (false, eval e X.env) :: starEach es X.env := by rfl) (hpl : (backTo pos (starEach es X.env)).any (·.1) = false := by rfl) :
    PE X (.Call (.Name x p) (e :: es) [] pos) (tCall sp [] E t) := by
  obtain ⟨f, fd, ps, F, hm, kp, hb⟩ := c.ex
  refine ⟨fun pins s σ H Q I h => wpAny_Call_Name_kw (ld_glob I gl hm (PySem.W.callWith_K (h₀ := X.base) I.ok.mod.kin kp (thn (ha.run pos pins s σ H _ I h) fun us s1 hh => ?_) he hpl) hdb)⟩
  obtain ⟨vs, H1, I1, r, q⟩ := hh
  rw [List.append_nil] at q
  exact ⟨I1.kIn, run_fnG F hg (hr.mono hk) hb hx I1 r q⟩
theorem pe_cG0 (c : CalG X.prog X.w X.K X.mg X.base CX k x sp) (hg : X.A.guards = some []) (hr : Room j X.A) (hk : k ≤ j) (hx : Passes CX X E) (gl : Gl X x := by rfl)
    (hdb : (x == ("__debug__" : Str)) = false := by decide) : PE X (.Call (.Name x p) [] [] pos) (tCall sp [] E tNil) := by
  obtain ⟨f, fd, ps, F, hm, kp, hb⟩ := c.ex
  exact ⟨fun pins s σ H Q I h => wpAny_Call_Name_kw (ld_glob I gl hm (PySem.W.callWith_K0 I.kIn kp (run_fnG (us := []) F hg (hr.mono hk) hb hx I .nil h)) hdb)⟩
end
/-! ## repr -/
section
variable {X : Cx}
theorem call_reprD (hg : X.A.guards = some []) (hu : X.A.units + 64 < cLine) : CallR X (.builtin "repr") (fun xs H Q => ∃ x d, xs = [x] ∧ Dp X.K H x d ∧ d.showable = true ∧ d.hasDict = false ∧ d.depth ≤ 60 ∧ d.shown.length ≤ sizeLine ∧ Q (.str d.shown) H) := by
  intro pins s σ H xs us Q I r h
  obtain ⟨x, d, rfl, hd, hs, hn, hdp, hz, q⟩ := h
  cases r with
  | cons r1 r2 =>
  cases r2
  obtain ⟨as, rd⟩ := Dp.reads I d x _ hd r1
  cases hd with
  | non => cases r1; exact PySem.P.repr_of_none ⟨V.str _, H, I.tok _, ⟨_, rfl⟩, q⟩
  | bl b => cases r1; exact PySem.P.repr_of_bool ⟨V.str _, H, I.tok _, ⟨_, rfl⟩, q⟩
  | int i =>
    obtain ⟨t, rfl⟩ := r1
    exact PySem.P.repr_of_int (of_decide_eq_true hs) ⟨V.str _, H, I.tok _, ⟨_, rfl⟩, q⟩
  | str z =>
    obtain ⟨t, rfl⟩ := r1
    exact PySem.P.repr_of_str ⟨V.str _, H, I.tok _, ⟨_, rfl⟩, q⟩ hz
  | lst h1 h2 =>
    cases r1
    exact repr_of_reads' rd hs (PyData.noDict_hsm hn) hg (by omega) (fun _ _ e => e) (fun h' u tk hk => ⟨V.str _, H, I.kept hk, ⟨u, rfl⟩, q⟩) hz
  | tup h1 h2 =>
    cases r1
    exact repr_of_reads' rd hs (PyData.noDict_hsm hn) hg (by omega) (fun _ _ e => e) (fun h' u tk hk => ⟨V.str _, H, I.kept hk, ⟨u, rfl⟩, q⟩) hz
end
/-! ## the law's own call -/
theorem lawG {P : Program} {w : World} {K : PySem.W.Frag} {mg mb : Str → Option Value} {CX : CXT} {k : Nat} {fa a : Addr} {fd : FuncData} {x : Str} {sp : Sp} {s1 : Shared} {vs : List Value} {ns : List Int}
    (KX : K.In s1.heap) (gns : s1.heap.Ns mainGlobals mg) (bns : s1.heap.Ns builtinsNs mb) (bbt : ∀ x : Str, x ≠ "__name__" → mb x = bootBuiltins x) (nolim : s1.heap.NoLimit) (gens0 : s1.gens = #[])
    (scr : s1.heap.get? a = some { cls := .type "list", data := .seq vs.toArray }) (hints : IntsAre vs ns) (short : ns.length ≤ sizeLine) (room : Room k callerA)
    (F : ∀ base : Heap, K.In base → base.Ns mainGlobals mg → FnG P w K mg base CX k fa fd [x] sp) (bind1 : ∀ (s : Shared) (u : Value), BindsTo s fd ⟨[u], []⟩ [(x, u)])
    (prom : ∀ H : Hp, Only H → SqL K H a (ns.map V.int) → sp [.ref a] H (fun v _ => v = .bl true) fun _ _ _ => False)
    (noX : ∀ H e s2, CX [] H s1 (fun _ _ _ => False) e s2 → False) :
    codeAny (model P w) callerA (.call (.ref fa) ⟨[.ref a], []⟩) (fun r s2 => r = .ok (.ret (.bool true)) ∧ OldK s1.heap s2.heap ∧ s2.os = s1.os ∧ AllBare s2.gens) s1 := by
  have rel := vals_ints hints
  have main : ∀ H : Hp, Only H → SqL K H a (ns.map V.int) → HOk P w H s1.heap → (∀ b u, H b = some u → b = a) → (∀ u, H a = some u → K.lookup a = none) →
      codeAny (model P w) callerA (.call (.ref fa) ⟨[.ref a], []⟩) (fun r s2 => r = .ok (.ret (.bool true)) ∧ OldK s1.heap s2.heap ∧ s2.os = s1.os ∧ AllBare s2.gens) s1 := by
    intro H only seq ok at1 un1
    have dictFree : ∀ {b : Addr} {o : Obj} {es : Array DictEntry} {ep : Nat}, s1.heap.get? b = some o → o.data = .dict es ep → H b = none := by
      intro b o es ep e d
      match q : H b with
      | none => rfl
      | some u =>
        have eb := at1 b u q
        subst eb
        rw [scr] at e
        cases e
        exact nomatch (show Data.seq vs.toArray _ = Data.dict es ep from d)
    have nsAt : ∀ {b : Addr} {m : Str → Option Value}, s1.heap.Ns b m → (hidT s1.heap H).Ns b m := by
      rintro b m ⟨o, es, ep, e, d, r⟩
      exact ⟨o, es, ep, hidT_get e (dictFree e d), d, r⟩
    have inK : K.In (hidT s1.heap H) := by
      intro b o e
      refine hidT_get (KX b o e) ?_
      match q : H b with
      | none => rfl
      | some u =>
        have eb := at1 b u q
        subst eb
        exact nomatch (un1 u q).symm.trans e
    have limAt : (hidT s1.heap H).NoLimit := match nolim with | ⟨mc, h1, h2⟩ => ⟨mc, nsAt h1, h2⟩
    have mod1 : Mod K mg (hidT s1.heap H) := ⟨inK, nsAt gns, ⟨mb, nsAt bns, bbt⟩, limAt⟩
    have start0 : Env0 P w K mg (hidT s1.heap H) callerA [] s1 H := ⟨rfl, mod1, fun b o => of_hidT, Nat.le_of_eq (hidT_size s1.heap H), trivial, (fun b hb => absurd hb (List.not_mem_nil (a := b))), ok, AllBare.of_eq gens0⟩
    refine codeAny_mono ((F _ inK (nsAt gns)).run callerA [] s1 H ⟨[.ref a], []⟩ [.ref a] [.ref a] _ _ rfl room start0 (bind1 s1 (.ref a)) (.cons rfl .nil) (prom H only seq)) ?_
    intro res s2 h
    match res, h with
    | .error e, h => exact (noX H e s2 h).elim
    | .ok .next, h => exact h.elim
    | .ok .brk, h => exact h.elim
    | .ok .cont, h => exact h.elim
    | .ok (.ret u), ⟨v, H2, os, bare, un, ok2, r2, (hv : v = .bl true)⟩ =>
      cases hv
      have hu : u = Value.bool true := r2
      cases hu
      refine ⟨rfl, OldK.of_keep ?_, os, bare⟩
      intro b o e
      match q : H b with
      | none => exact un.keep b o e q (fun z => nomatch z) (fun z => nomatch z)
      | some u =>
        cases only b with
        | inl z => exact nomatch z.symm.trans q
        | inr z =>
          obtain ⟨ob, xs, z⟩ := z
          have c1 := (ok b _ z).1
          have c2 := (ok2 b _ (un.frzs b ob _ z)).1
          exact c2.trans (c1.symm.trans e)
  match hk : K.lookup a with
  | some o =>
    have e := (KX a o hk).symm.trans scr
    cases e
    refine main (fun _ => none) (fun _ => Or.inl rfl) (Or.inr ⟨_, vs.toArray, _, hk, rfl, rfl, rfl, ?_, ?_⟩) (fun b u z => nomatch (show (none : Option HO) = some u from z)) (fun b u z => nomatch (show (none : Option HO) = some u from z)) (fun u z => nomatch (show (none : Option HO) = some u from z))
    · rw [List.size_toArray, hints.length]
      exact short
    · simpa using rel
  | none =>
    refine main (fun b => if b = a then some (.frz { cls := .type "list", data := .seq vs.toArray } (.lst (ns.map V.int))) else none) ?_ (Or.inl (Or.inr ⟨_, if_pos rfl⟩)) ?_ ?_ (fun _ _ => hk)
    · intro b
      by_cases hb : b = a
      · exact Or.inr ⟨_, _, if_pos hb⟩
      · exact Or.inl (if_neg hb)
    · intro b u z
      by_cases hb : b = a
      · subst hb
        have z1 := (if_pos rfl).symm.trans z
        cases z1
        exact ⟨scr, (by rw [List.length_map]; exact short), vs, _, rel, scr⟩
      · exact nomatch (if_neg hb).symm.trans z
    · intro b u z
      by_cases hb : b = a
      · exact hb
      · exact nomatch (if_neg hb).symm.trans z
theorem walkG {l : PySem.W.OpenLaw} {n k : Nat} {q : Program} {loose : List Str} {XP : (Str → Option Value) → Heap → Prop} {YP : World → Heap → Prop} {d : DefRec} {K : Params → PySem.W.Frag} {CX : CXT} {sp : PySem.W.Frag → Sp} {x : Str}
    (hn : l.most = some n) (hn2 : n ≤ sizeLine) (hdf : d.params.defaults = []) (hr : Room k callerA) (hY : ∀ (w : World) (h : Heap), YP w h → (K w.params).In h)
    (F : ∀ (w : World) (mg : Str → Option Value) (fa : Addr) (h : Heap), (K w.params).In h → h.Ns mainGlobals mg → mg d.name = some (.ref fa) →
      ∃ fd : FuncData, (∀ (s : Shared) (u : Value), BindsTo s fd ⟨[u], []⟩ [(x, u)]) ∧ ∀ base : Heap, (K w.params).In base → base.Ns mainGlobals mg → FnG l.prog w (K w.params) mg base CX k fa fd [x] (sp (K w.params)))
    (hsp : ∀ (K : PySem.W.Frag) (H : Hp) (a : Addr) (ns : List Int), ns.length ≤ n → Only H → SqL K H a (ns.map V.int) → sp K [.ref a] H (fun v _ => v = .bl true) fun _ _ _ => False)
    (noX : ∀ (H : Hp) (s : Shared) (e : Value) (s2 : Shared), CX [] H s (fun _ _ _ => False) e s2 → False) : PySem.W.WalkO q loose XP YP l.row.toRowW d [] (fun f vs => PySem.call f vs) := by
  refine Att.attach_call hn hdf ?_
  intro w s0 s1 mg mb fa o pm cd doc a vs ns G Y _ _ _ hmg scr hints hlen gens0
  obtain ⟨fd, hb, hF⟩ := F w mg fa _ (hY w _ Y) G.T.g hmg
  exact lawG (hY w _ Y) G.T.g G.T.b G.T.builtins G.T.nolimit gens0 scr hints (Nat.le_trans hlen hn2) hr hF hb (fun H h1 h2 => hsp _ H a ns hlen h1 h2) (fun H => noX H s1)
end Vk
set_option Elab.async false
set_option maxRecDepth 100000
set_option linter.all false
namespace Vk
open PySem PySem.Spec PyProof.Rows L2
/-! ## what stays -/
/-- all that was tracked stays, but what stands at p -/
def Ext (p : Addr) (H H' : Hp) : Prop := ∀ b o, H b = some o → b ≠ p → H' b = some o
theorem Ext.rfl {p : Addr} {H : Hp} : Ext p H H := fun _ _ h _ => h
theorem Ext.trans {p : Addr} {H H1 H2 : Hp} (a : Ext p H H1) (b : Ext p H1 H2) : Ext p H H2 := fun c o h n => b c o (a c o h n) n
theorem Ext.same {p : Addr} {H H1 : Hp} (a : Same H H1) : Ext p H H1 := fun c o h _ => a c o h
theorem Ext.at {p : Addr} {H : Hp} {o : HO} : Ext p H (upd H p o) := fun c u h n => (upd_ne n).trans h
theorem same_new {H : Hp} {a : Addr} {o : HO} (h : H a = none) : Same H (upd H a o) := fun c u e => (upd_ne (ne_of_none e h)).trans e
theorem Ext.new {p a : Addr} {H : Hp} {o : HO} (h : H a = none) : Ext p H (upd H a o) := .same (same_new h)
theorem Ext.set {p a : Addr} {H H1 : Hp} {o : HO} (x : Ext p H H1) (h : H a = none) : Ext p H (upd H1 a o) := fun c u e n => (upd_ne (ne_of_none e h)).trans (x c u e n)
theorem Ext.none_of {p a : Addr} {H H1 : Hp} (x : Ext p H H1) (hp : a ≠ p) (h : H1 a = none) : H a = none := by
  match q : H a with
  | none => rfl
  | some o => exact nomatch (x a o q hp).symm.trans h
theorem Ext.seqL {K : PySem.W.Frag} {p a : Addr} {H H1 : Hp} {xs : List V} (x : Ext p H H1) (hp : a ≠ p) (h : SqL K H a xs) : SqL K H1 a xs := by
  match h with
  | .inl (.inl e) => exact .inl (.inl (x _ _ e hp))
  | .inl (.inr ⟨o, e⟩) => exact .inl (.inr ⟨o, x _ _ e hp⟩)
  | .inr e => exact .inr e
theorem Ext.seqT {K : PySem.W.Frag} {p a : Addr} {H H1 : Hp} {xs : List V} (x : Ext p H H1) (hp : a ≠ p) (h : SqT K H a xs) : SqT K H1 a xs := by
  match h with
  | .inl (.inl e) => exact .inl (.inl (x _ _ e hp))
  | .inl (.inr ⟨o, e⟩) => exact .inl (.inr ⟨o, x _ _ e hp⟩)
  | .inr e => exact .inr e
theorem up_new {H : Hp} {a b : Addr} {o u : HO} (h : H a = some o) (hb : H b = none) : upd H b u a = some o := same_new hb a o h
/-! ## the pen -/
def penL (c : Addr) (t l : Int) : List (Key × V) := [(.inr "cells", .ref c), (.inr "turn", .int t), (.inr "left", .int l)]
theorem k_ct : ¬ ((Str.ofString "cells") = Str.ofString "turn") := by decide +kernel
theorem k_cl : ¬ ((Str.ofString "cells") = Str.ofString "left") := by decide +kernel
theorem k_tl : ¬ ((Str.ofString "turn") = Str.ofString "left") := by decide +kernel
theorem k_lt : ¬ ((Str.ofString "left") = Str.ofString "turn") := by decide +kernel
theorem pen_cells (c : Addr) (t l : Int) : valV (penL c t l) (Sum.inr "cells" : Key) = some (.ref c) := valV_pos rfl
theorem pen_turn (c : Addr) (t l : Int) : valV (penL c t l) (Sum.inr "turn" : Key) = some (.int t) := (valV_neg (fun e => k_ct (Sum.inr.inj e))).trans (valV_pos rfl)
theorem pen_left (c : Addr) (t l : Int) : valV (penL c t l) (Sum.inr "left" : Key) = some (.int l) := (valV_neg (fun e => k_cl (Sum.inr.inj e))).trans ((valV_neg (fun e => k_tl (Sum.inr.inj e))).trans (valV_pos rfl))
theorem pen_put_turn (c : Addr) (t l u : Int) : putK (penL c t l) (Sum.inr "turn" : Key) (.int u) = penL c u l := by
  unfold putK
  rw [valV_any, pen_turn]
  simp [penL, k_ct, k_lt]
theorem pen_put_left (c : Addr) (t l u : Int) : putK (penL c t l) (Sum.inr "left" : Key) (.int u) = penL c t u := by
  unfold putK
  rw [valV_any, pen_left]
  simp [penL, k_cl, k_tl]
theorem pen_made (c : Addr) (t l : Int) : mergeK [] (penL c t l) = penL c t l := by
  simp [mergeK, penL, putK, k_ct, k_cl, k_tl]
structure Pen (H : Hp) (p c : Addr) (T : Nat) : Prop where
  ex : ∃ (ns : List Int) (t l : Int), H p = some (.dK (penL c t l)) ∧ H c = some (.lst (ns.map V.int)) ∧ ns.length ≤ 63 ∧ 0 ≤ t ∧ t ≤ T ∧ 0 ≤ l
section
variable {H H1 : Hp} {p c a : Addr} {T U : Nat} {o : HO} {xs : List V}
theorem Pen.mono (x : Pen H p c T) (h : T ≤ U) : Pen H p c U := by
  obtain ⟨ns, t, l, h1, h2, h3, h4, h5, h6⟩ := x.ex
  exact ⟨ns, t, l, h1, h2, h3, h4, by omega, h6⟩
theorem Pen.stay (x : Pen H p c T) (s : Same H H1) : Pen H1 p c T := by
  obtain ⟨ns, t, l, h1, h2, r⟩ := x.ex
  exact ⟨ns, t, l, s _ _ h1, s _ _ h2, r⟩
theorem Pen.new (x : Pen H p c T) (h : H a = none) : Pen (upd H a o) p c T := x.stay (same_new h)
theorem Pen.is (x : Pen H p c T) : ∃ t l, H p = some (.dK (penL c t l)) := by
  obtain ⟨ns, t, l, h1, _⟩ := x.ex
  exact ⟨t, l, h1⟩
theorem Pen.ne (x : Pen H p c T) (h : H a = some (.lst xs)) : a ≠ p := by
  obtain ⟨t, l, h1⟩ := x.is
  exact ne_of h h1 (by intro z; cases z)
/-- another thing is changed -/
theorem Pen.set (x : Pen H p c T) (h1 : a ≠ p) (h2 : a ≠ c) : Pen (upd H a o) p c T := by
  obtain ⟨ns, t, l, g1, g2, r⟩ := x.ex
  exact ⟨ns, t, l, (upd_ne h1.symm).trans g1, (upd_ne h2.symm).trans g2, r⟩
/-- a thing that was not there when the pen stood is neither the pen nor its cells -/
theorem Pen.apart (x : Pen H p c T) (h : H a = none) : a ≠ p ∧ a ≠ c := by
  obtain ⟨ns, t, l, g1, g2, r⟩ := x.ex
  exact ⟨(ne_of_none g1 h).symm, (ne_of_none g2 h).symm⟩
end
/-- draw's promise -/
def spDraw : Sp := fun vs H Q _ => ∃ (p c : Addr) (m : Int) (T : Nat), vs = [.ref p, .int m] ∧ 0 < m ∧ m < 1073741824 ∧ Pen H p c T ∧ T < 1000000000 ∧
  ∀ (d : Int) (H' : Hp), 0 ≤ d → d < m → Pen H' p c (T + 1) → Ext p H H' → Q (.int d) H'
def spPen (K : PySem.W.Frag) : Sp := fun vs H Q _ => ∃ (a : Addr) (ns : List Int), vs = [.ref a] ∧ SqL K H a (ns.map V.int) ∧
  ∀ (p c : Addr) (H' : Hp), H p = none → Pen H' p c 0 → Same H H' → Q (.ref p) H'
/-! ## draws' small facts -/
theorem ints_dp {K : PySem.W.Frag} {H : Hp} : ∀ ns : List Int, DpAll K H (ns.map V.int) (ns.map PyData.int)
  | [] => .nil
  | n :: ns => .cons (.int n) (ints_dp ns)
theorem ints_canLay : ∀ ns : List Int, PyData.canLayAll0 (ns.map PyData.int) = true
  | [] => rfl
  | n :: ns => by
    show (PyData.canLay0 (.int n) && PyData.canLayAll0 (ns.map PyData.int)) = true
    rw [ints_canLay ns]
    rfl
theorem ints_depth : ∀ ns : List Int, PyData.depthAll (ns.map PyData.int) = 0
  | [] => rfl
  | n :: ns => by
    show max (PyData.depth (.int n)) (PyData.depthAll (ns.map PyData.int)) = 0
    rw [ints_depth ns]
    rfl
theorem ints_shaped (ns : List Int) : SeqAt.shaped (.list (ns.map PyData.int)) = true := by
  have h1 : PyData.canLay0 (.list (ns.map PyData.int)) = true := ints_canLay ns
  have h2 : PyData.depth (.list (ns.map PyData.int)) = 1 := by
    show PyData.depthAll (ns.map PyData.int) + 1 = 1
    rw [ints_depth]
  unfold SeqAt.shaped
  rw [h1, h2]
  rfl
theorem ints_ne_nil (ns : List Int) : PyData.eqv (.list (ns.map PyData.int)) (.list []) = ns.isEmpty := by
  match ns with
  | [] => rfl
  | n :: r => rfl
theorem get_left {H : Hp} {p c : Addr} {t l : Int} (h : H p = some (.dK (penL c t l))) : DGet H p (.str "left") (some (.int l)) := pen_left c t l ▸ DGet.k (k := Sum.inr "left") h
theorem get_turn {H : Hp} {p c : Addr} {t l : Int} (h : H p = some (.dK (penL c t l))) : DGet H p (.str "turn") (some (.int t)) := pen_turn c t l ▸ DGet.k (k := Sum.inr "turn") h
theorem get_cells {H : Hp} {p c : Addr} {t l : Int} (h : H p = some (.dK (penL c t l))) : DGet H p (.str "cells") (some (.ref c)) := pen_cells c t l ▸ DGet.k (k := Sum.inr "cells") h
theorem put_left {H : Hp} {p c : Addr} {t l u : Int} (h : H p = some (.dK (penL c t l))) : DPut H p (.str "left") (.int u) (upd H p (.dK (penL c t u))) := pen_put_left c t l u ▸ DPut.k (k := Sum.inr "left") h (by show 3 < sizeLine; decide)
theorem put_turn {H : Hp} {p c : Addr} {t l u : Int} (h : H p = some (.dK (penL c t l))) : DPut H p (.str "turn") (.int u) (upd H p (.dK (penL c u l))) := pen_put_turn c t l u ▸ DPut.k (k := Sum.inr "turn") h (by show 3 < sizeLine; decide)
theorem at_mod {α : Type} {xs : List α} {i : Int} (h0 : 0 ≤ i) (h : i < (xs.length : Int)) : ∃ v, atI xs i = some v ∧ v ∈ xs := by
  have hj : i.toNat < xs.length := by omega
  refine ⟨xs[i.toNat], ?_, List.getElem_mem hj⟩
  have e : i = (i.toNat : Int) := by omega
  have q := atI_nat (List.getElem?_eq_getElem hj)
  rw [← e] at q
  exact q
def primes : List Int := [2147483629, 2147483647, 2147483587, 2147483563, 2147483579]
theorem primes_in {v : V} (h : v ∈ primes.map V.int) : ∃ i : Int, v = .int i ∧ 0 < i ∧ i < 2147483648 := by
  obtain ⟨i, hi, e⟩ := List.mem_map.mp h
  refine ⟨i, e.symm, ?_⟩
  have q : ∀ j ∈ primes, 0 < j ∧ j < 2147483648 := by decide
  exact q i hi
end Vk
set_option Elab.async false
set_option maxRecDepth 100000
set_option linter.all false
namespace Vk
open PySem PySem.Spec PyProof.Rows L2
/-! ## a def that returns one written text, and a replace of what it returns (a token is out behind it) -/
structure FnT (P : Program) (w : World) (K : PySem.W.Frag) (mg : Str → Option Value) (base : Heap) (k : Nat) (x : Str) (z : Str) : Prop where
  ex : ∃ f : Addr, mg x = some (.ref f) ∧ PySem.W.keepIn K (.ref f) = true ∧ ∀ (A : Around) (outer : List Env) (s : Shared) (H : Hp) (Q : VK), Room k A → Env0 P w K mg base A outer s H → Q (.str z) H →
    codeAny (model P w) A (.call (.ref f) ⟨[], []⟩) (fun r s2 => 1 ≤ s2.toks ∧ CR CX0 outer P w H s Q E0 r s2) s
section
variable {P : Program} {w : World} {K : PySem.W.Frag} {mg : Str → Option Value} {base : Heap}
theorem okT {x : Str} {st : Stmt} {f : Addr} {fd : FuncData} {z : Str} {j : Nat} {p1 p2 : Pos} (F : Fun K x x st f fd) (S : FnScope [] [] (defScope st)) (hm : mg x = some (.ref f)) (hb : Binds K fd [] [])
    (body : defBody st = [.Return (some (.Constant (.str z) j p1)) p2]) : FnT P w K mg base 1 x z := by
  refine ⟨f, hm, F.kp, ?_⟩
  obtain ⟨oc, od, kV, doc, pm, an, cdv, ct, osl, rfl, lk, hcd⟩ := F.ex
  intro A outer s H Q hr e0 hsp
  have KX := e0.mod.kin.keeps (fun b o e => (e0.bs b o e).1 : ∀ b o, base.get? b = some o → s.heap.get? b = some o)
  have noLim := e0.mod.nolimit.keeps (fun b o e => (e0.bs b o e).1 : ∀ b o, base.get? b = some o → s.heap.get? b = some o)
  refine codeAny_call_function hr.depth (KX f _ lk) rfl S.co S.gen rfl (PySem.W.codeRec_of KX hcd) (hb s [] KX rfl _ _ _ _ (wpAny_newFunctionEnv_cells S.kind (fun y hy => absurd hy (List.not_mem_nil (a := y))) fun env he s1 x0 => ?_))
  cases he
  refine And.intro (noLim.keeps x0.toInCall.keep) (codeAny_func ?_)
  have I0 := inv_start (P := P) (CX := CX0) (E := E0) (us := []) (vs := []) S hr.hd e0 rfl .nil x0
  show wpAny _ _ (execs (defBody st) _) _ _ s1
  rw [body]
  refine wpAny_execs_cons (wpAny_Return_some (Calls.Constant_str ?_))
  exact ⟨Nat.succ_pos _, .str z, H, I0.os, I0.bare, (I0.tok (s1.toks + 1)).base, (I0.tok (s1.toks + 1)).hok, ⟨_, rfl⟩, hsp⟩
end
section
variable {X : Cx} {j k : Nat} {x z y v : Str} {q q2 apos pos c0 c1 : Pos} {j0 j1 : Nat}
theorem pe_replT (c : FnT X.prog X.w X.K X.mg X.base k x z) (hr : Room j X.A) (hk : k ≤ j) (hz : z.length + (z.length + 1) * v.length ≤ 16777216) (hyz : (y == v) = false) (gl : Gl X x := by rfl) (hdb : (x == ("__debug__" : Str)) = false := by decide)
    (hst : starEach [.Constant (.str y) j0 c0, .Constant (.str v) j1 c1] X.env = [(false, eval (.Constant (.str y) j0 c0) X.env), (false, eval (.Constant (.str v) j1 c1) X.env)] := by rfl)
    (hbase : attributeBase (.Call (.Name x q) [] [] q2) "replace" X.env (eval (.Call (.Name x q) [] [] q2) X.env) = eval (.Call (.Name x q) [] [] q2) X.env := by rfl) (hline : (apos.endLine == pos.line) = true := by rfl) :
    PE X (.Call (.Attribute (.Call (.Name x q) [] [] q2) "replace" apos) [.Constant (.str y) j0 c0, .Constant (.str v) j1 c1] [] pos) (fun σ H Q => Q (.str (Txt.replace z y v)) H) := by
  obtain ⟨f, hm, kp, run⟩ := c.ex
  refine ⟨fun pins s σ H Q I h => PySem.Call_method2 (Q := EP X pins σ Q) hbase hst hline (wpAny_mono (Q := fun u s1 => 1 ≤ s1.toks ∧ EP X pins σ (fun w H1 => w = .str z ∧ H1 = H) u s1) ?_ ?_ (fun _ _ e => e))⟩
  · refine wpAny_Call_Name_kw (ld_glob I gl hm (PySem.W.callWith_K0 I.kIn kp (wpAny_call (codeAny_mono (run X.A X.stack s H (fun w H1 => w = .str z ∧ H1 = H) (hr.mono hk) I.env0 ⟨rfl, rfl⟩) fun res s2 hq => ?_))) hdb)
    match res, hq with
    | .error e, hq => exact hq.2.elim
    | .ok (.ret u), hq => exact ⟨hq.1, I.after hq.2⟩
    | .ok .next, hq => exact hq.2.elim
    | .ok .brk, hq => exact hq.2.elim
    | .ok .cont, hq => exact hq.2.elim
  · rintro u s1 ⟨ht, w, H1, I1, r1, rfl, rfl⟩
    obtain ⟨tx, rfl⟩ := r1
    refine ⟨"str", _, PySem.F.plainAttrs_str, PySem.F.slot_str_replace, PySem.F.type_str_replace, typeIs_str _ _ _, (fun _ e => nomatch e), Calls.callWith_builtin rfl (Calls.evalArgs_plain (Calls.spliced_cons (Calls.Constant_str (Calls.spliced_cons (Calls.Constant_str (Calls.spliced_nil ?_))))))⟩
    exact PySem.SC.replace (Nat.ne_of_gt ht) (Nat.succ_ne_zero _) (by show s1.toks ≠ s1.toks + 1; omega) hyz hz fun t' kk => ⟨V.str _, _, I1.tok kk, ⟨t', rfl⟩, h⟩
end
/-! ## options to pick from -/
def OneS (c : Nat) : V := .str ⟨#[c]⟩
inductive Opts (K : PySem.W.Frag) (H : Hp) : V → List V → Prop
  | str (z : Str) (h : z.length ≤ 1000) : Opts K H (.str z) (z.cps.toList.map OneS)
  | lst {a : Addr} {xs : List V} (h : SqL K H a xs) : Opts K H (.ref a) xs
  | tup {a : Addr} {xs : List V} (h : SqT K H a xs) : Opts K H (.ref a) xs
theorem Ext.sqL {K : PySem.W.Frag} {p a : Addr} {H H1 : Hp} {xs : List V} {kvs : List (Key × V)} (x : Ext p H H1) (hp : H p = some (.dK kvs)) (h : SqL K H a xs) : SqL K H1 a xs := by
  match h with
  | .inl (.inl e) => exact .inl (.inl (x _ _ e (ne_of e hp (by intro z; cases z))))
  | .inl (.inr ⟨o, e⟩) => exact .inl (.inr ⟨o, x _ _ e (ne_of e hp (by intro z; cases z))⟩)
  | .inr e => exact .inr e
theorem Ext.sqT {K : PySem.W.Frag} {p a : Addr} {H H1 : Hp} {xs : List V} {kvs : List (Key × V)} (x : Ext p H H1) (hp : H p = some (.dK kvs)) (h : SqT K H a xs) : SqT K H1 a xs := by
  match h with
  | .inl (.inl e) => exact .inl (.inl (x _ _ e (ne_of e hp (by intro z; cases z))))
  | .inl (.inr ⟨o, e⟩) => exact .inl (.inr ⟨o, x _ _ e (ne_of e hp (by intro z; cases z))⟩)
  | .inr e => exact .inr e
theorem Ext.is {p a : Addr} {H H1 : Hp} {xs : List V} {kvs : List (Key × V)} (x : Ext p H H1) (hp : H p = some (.dK kvs)) (h : H a = some (.lst xs)) : H1 a = some (.lst xs) := x _ _ h (ne_of h hp (by intro z; cases z))
theorem Ext.isT {p a : Addr} {H H1 : Hp} {xs : List V} {kvs : List (Key × V)} (x : Ext p H H1) (hp : H p = some (.dK kvs)) (h : H a = some (.tup xs)) : H1 a = some (.tup xs) := x _ _ h (ne_of h hp (by intro z; cases z))
theorem Pen.keepL {K : PySem.W.Frag} {p c a : Addr} {T : Nat} {H H1 : Hp} {xs : List V} (q : Pen H p c T) (x : Ext p H H1) (h : SqL K H a xs) : SqL K H1 a xs := by
  obtain ⟨t, l, hp⟩ := q.is
  exact x.sqL hp h
theorem Pen.keepT {K : PySem.W.Frag} {p c a : Addr} {T : Nat} {H H1 : Hp} {xs : List V} (q : Pen H p c T) (x : Ext p H H1) (h : SqT K H a xs) : SqT K H1 a xs := by
  obtain ⟨t, l, hp⟩ := q.is
  exact x.sqT hp h
theorem Pen.keepI {p c a : Addr} {T : Nat} {H H1 : Hp} {xs : List V} (q : Pen H p c T) (x : Ext p H H1) (h : H a = some (.lst xs)) : H1 a = some (.lst xs) := by
  obtain ⟨t, l, hp⟩ := q.is
  exact x.is hp h
def spPick (K : PySem.W.Frag) : Sp := fun vs H Q _ => ∃ (p c : Addr) (o : V) (xs : List V) (T : Nat), vs = [.ref p, o] ∧ Opts K H o xs ∧ xs ≠ [] ∧ xs.length ≤ 1000 ∧ Pen H p c T ∧ T < 1000000000 ∧
  ∀ (v : V) (H' : Hp), v ∈ xs → Pen H' p c (T + 1) → Ext p H H' → Q v H'
def letS : Str := "\n !\"#$&'()*+,-./0123456789:;<=>?@ABCDEFGHIJKLMNOPQRSTUVWXYZ[\\]^_`abcdefghijklmnopqrstuvwxyz{|}~"
def spSigns : Sp := fun vs H Q _ => vs = [] ∧ Q (.str letS) H
/-- what few gives: one to three letters -/
def Few (z : Str) : Prop := 1 ≤ z.length ∧ z.length ≤ 3 ∧ ∀ c ∈ z.cps.toList, c ∈ letS.cps.toList
def spFew : Sp := fun vs H Q _ => ∃ (p c : Addr) (T : Nat), vs = [.ref p] ∧ Pen H p c T ∧ T + 4 < 1000000000 ∧ ∀ (z : Str) (H' : Hp), Few z → Pen H' p c (T + 4) → Ext p H H' → Q (.str z) H'
/-- a word of the letters of z, a to b of them -/
def Word (z : Str) (a b : Nat) (x : Str) : Prop := a ≤ x.length ∧ x.length ≤ b ∧ ∀ c ∈ x.cps.toList, c ∈ z.cps.toList
def spWord : Sp := fun vs H Q _ => ∃ (p c : Addr) (z : Str) (a b T : Nat), vs = [.ref p, .str z, .int a, .int b] ∧ a ≤ b ∧ b ≤ 100 ∧ 1 ≤ z.length ∧ z.length ≤ 1000 ∧ Pen H p c T ∧ T + 200 < 1000000000 ∧
  ∀ (x : Str) (H' : Hp), Word z a b x → Pen H' p c (T + b + 1) → Ext p H H' → Q (.str x) H'
theorem cut63 (ns : List Int) : ∃ ms : List Int, cutV (ns.map V.int) none (some 63) = ms.map V.int ∧ ms.length ≤ 63 := by
  refine ⟨ns.take 63, ?_, List.length_take_le _ _⟩
  unfold cutV
  rw [HT.sIx_none, show (63 : Int) = ((63 : Nat) : Int) from rfl, HT.sIx_nat, List.drop_zero, Nat.sub_zero, List.map_take, Nat.min_comm, ← List.take_take]
  exact List.take_of_length_le (by rw [List.length_take]; omega)
theorem one_len (z : Str) : (z.cps.toList.map OneS).length = z.length := by
  rw [List.length_map]
  exact Array.length_toList
theorem join_nil : ∀ ls : List (List Nat), TL.joinL [] ls = ls.flatten
  | [] => rfl
  | [p] => by simp [TL.joinL]
  | p :: q :: r => by
    show p ++ ([] ++ TL.joinL [] (q :: r)) = _
    rw [List.nil_append, join_nil (q :: r)]
    rfl
theorem join_ones (cs : List Nat) : Txt.join "" (cs.map fun c => (⟨#[c]⟩ : Str)) = ⟨cs.toArray⟩ := by
  rw [TL.join_eq]
  refine TL.ext_tl ?_
  rw [TL.tl_join]
  refine (join_nil _).trans ?_
  show (List.map TL.tl (cs.map fun c => (⟨#[c]⟩ : Str))).flatten = cs
  rw [List.map_map]
  induction cs with
  | nil => rfl
  | cons c r ih => exact congrArg (c :: ·) ih
theorem ones_len (cs : List Nat) : ((cs.map fun c => (⟨#[c]⟩ : Str)).map (·.length)).sum = cs.length := by
  induction cs with
  | nil => rfl
  | cons c r ih =>
    rw [List.map_cons, List.map_cons, List.sum_cons, ih, List.length_cons]
    show 1 + r.length = r.length + 1
    omega
theorem ones_map (cs : List Nat) : (cs.map fun c => (⟨#[c]⟩ : Str)).map V.str = cs.map OneS := List.map_map
theorem noq_list : (Txt.replace letS "q" "").cps.toList = letS.cps.toList.filter (· != 113) := replace_strikes letS 113
theorem noq_len : (Txt.replace letS "q" "").length = 94 := by
  rw [show (Txt.replace letS "q" "").length = (Txt.replace letS "q" "").cps.toList.length from Array.length_toList.symm, noq_list]
  decide +kernel
theorem noq_in {c : Nat} (h : c ∈ (Txt.replace letS "q" "").cps.toList) : c ∈ letS.cps.toList := by
  rw [noq_list] at h
  exact (List.mem_filter.mp h).1
theorem ones_of {z : Str} {v : V} (h : v ∈ z.cps.toList.map OneS) : ∃ c, v = OneS c ∧ c ∈ z.cps.toList := by
  obtain ⟨c, hc, e⟩ := List.mem_map.mp h
  exact ⟨c, e.symm, hc⟩
theorem opts_ne {z : Str} (h : 1 ≤ z.length) : z.cps.toList.map OneS ≠ [] := fun e => by
  have q := one_len z
  rw [e] at q
  simp at q
  omega
theorem opts_le {z : Str} {n : Nat} (h : z.length ≤ n) : (z.cps.toList.map OneS).length ≤ n := by
  rw [one_len]
  exact h
/-- the fixed choices of few are few -/
theorem few_of {z : Str} (h : (decide (1 ≤ z.length) && decide (z.length ≤ 3) && z.cps.toList.all fun c => decide (c ∈ letS.cps.toList)) = true) : Few z := by
  simp only [Bool.and_eq_true, decide_eq_true_eq, List.all_eq_true] at h
  exact ⟨h.1.1, h.1.2, h.2⟩
theorem few_ones {cs : List Nat} (h1 : 1 ≤ cs.length) (h3 : cs.length ≤ 3) (h : ∀ c ∈ cs, c ∈ letS.cps.toList) : Few ⟨cs.toArray⟩ := ⟨by simpa [Str.length] using h1, by simpa [Str.length] using h3, by simpa using h⟩
/-! ## rules whose written part is named (within a comprehension's block) -/
section
variable {X : Cx} {K : PySem.W.Frag}
theorem ix_seqK (h : X.K = K) : IxR X (rIx K) := h ▸ ix_seq
theorem ix_listK (h : X.K = K) : IxR X (rIxL K) := h ▸ ix_list
theorem ix_tupK (h : X.K = K) : IxR X (rIxT K) := h ▸ ix_tup
theorem op_in_seqK (h : X.K = K) : OpR X (compareOp .In) (rIn K false) := h ▸ op_in_seq
theorem op_notIn_seqK (h : X.K = K) : OpR X (compareOp .NotIn) (rIn K true) := h ▸ op_notIn_seq
theorem sl_listK (h : X.K = K) : SlR X (rSlL K) := h ▸ sl_list
theorem sl_tupK (h : X.K = K) : SlR X (rSlT K) := h ▸ sl_tup
theorem call_lenK (h : X.K = K) : CallR X (.builtin "len") (fun xs H Q => ∃ x n, xs = [x] ∧ LenV K x H n ∧ Q (.int n) H) := h ▸ call_len
theorem op_eqDK (h : X.K = K) (hu : X.A.units + 64 < cLine) : OpR X (compareOp .Eq) (rEqD K) := h ▸ op_eqD hu
theorem op_neDK (h : X.K = K) (hu : X.A.units + 64 < cLine) : OpR X (compareOp .NotEq) (rNeD K) := h ▸ op_neD hu
end
theorem cutV_mem {xs : List V} {lo hi : Option Int} {v : V} (h : v ∈ cutV xs lo hi) : v ∈ xs := List.mem_of_mem_drop (List.mem_of_mem_take h)
theorem cutV_all {xs : List V} {lo hi : Option Int} {f : V → Bool} (h : xs.all f = true) : (cutV xs lo hi).all f = true := List.all_eq_true.mpr fun v hv => List.all_eq_true.mp h v (cutV_mem hv)
theorem ones_flat (cs : List Nat) : (cs.map OneS).all flatV = true := List.all_eq_true.mpr fun v hv => by
  obtain ⟨c, _, rfl⟩ := List.mem_map.mp hv
  rfl
theorem cutV_zero (xs : List V) : cutV xs none (some 0) = [] := by
  unfold cutV
  rw [HT.sIx_none, show (0 : Int) = ((0 : Nat) : Int) from rfl, HT.sIx_nat]
  simp
theorem one_mem {cs : List Nat} {v : V} (h : v ∈ cs.map OneS) : ∃ c, v = OneS c ∧ c ∈ cs := by
  obtain ⟨c, hc, e⟩ := List.mem_map.mp h
  exact ⟨c, e.symm, hc⟩
end Vk
set_option Elab.async false
set_option maxRecDepth 100000
set_option linter.all false
namespace Vk
open PySem PySem.Spec PyProof.Rows L2
/-! ## how long what is shown may be -/
theorem listText_le : ∀ ts : List Str, (listText ts).length ≤ piled ts + 2
  | [] => by decide +kernel
  | t :: r => by
    have h := textFrom_length_pos r 1 (("[" : Str) ++ (if (0 : Nat) > 0 then ", " else "" : String) ++ t) (Nat.succ_pos 0)
    have e : (listText (t :: r)).length = (textFrom 1 (("[" : Str) ++ (if (0 : Nat) > 0 then ", " else "" : String) ++ t) r).length + 1 := strLen_append _ _
    rw [e, h, strLen_append, strLen_append, piled_cons]
    show 1 + 0 + t.length + piled r + 1 ≤ _
    omega
theorem piled_le {ts : List Str} {n : Nat} (h : ∀ t ∈ ts, t.length ≤ n) : piled ts ≤ ts.length * (n + 2) := by
  induction ts with
  | nil => exact Nat.zero_le _
  | cons t r ih =>
    have h1 := h t List.mem_cons_self
    have h2 := ih fun u hu => h u (List.mem_cons_of_mem _ hu)
    rw [piled_cons, List.length_cons, Nat.succ_mul]
    omega
theorem shownAll_map : ∀ ds : List PyData, PyData.shownAll ds = ds.map PyData.shown
  | [] => rfl
  | d :: r => congrArg (d.shown :: ·) (shownAll_map r)
theorem showableAll_iff : ∀ {ds : List PyData}, (∀ d ∈ ds, d.showable = true) → PyData.showableAll ds = true
  | [], _ => rfl
  | d :: r, h => by
    show (d.showable && PyData.showableAll r) = true
    rw [h d List.mem_cons_self, showableAll_iff fun e he => h e (List.mem_cons_of_mem _ he)]
    rfl
theorem hasDictAll_of : ∀ {ds : List PyData}, (∀ d ∈ ds, d.hasDict = false) → PyData.hasDictAll ds = false
  | [], _ => rfl
  | d :: r, h => by
    show (d.hasDict || PyData.hasDictAll r) = false
    rw [h d List.mem_cons_self, hasDictAll_of fun e he => h e (List.mem_cons_of_mem _ he)]
    rfl
theorem depthAll_le : ∀ {ds : List PyData} {n : Nat}, (∀ d ∈ ds, d.depth ≤ n) → PyData.depthAll ds ≤ n
  | [], _, _ => Nat.zero_le _
  | d :: r, n, h => Nat.max_le.mpr ⟨h d List.mem_cons_self, depthAll_le fun e he => h e (List.mem_cons_of_mem _ he)⟩
/-- d may be shown, in at most n signs, at most k deep -/
structure Showy (d : PyData) (k n : Nat) : Prop where
  sh : d.showable = true
  nd : d.hasDict = false
  dp : d.depth ≤ k
  ln : d.shown.length ≤ n
theorem Showy.list {ds : List PyData} {k n : Nat} (h : ∀ d ∈ ds, Showy d k n) : Showy (.list ds) (k + 1) (ds.length * (n + 2) + 2) := by
  refine ⟨showableAll_iff fun d hd => (h d hd).sh, hasDictAll_of fun d hd => (h d hd).nd, Nat.succ_le_succ (depthAll_le fun d hd => (h d hd).dp), ?_⟩
  show (listText (PyData.shownAll ds)).length ≤ _
  rw [shownAll_map]
  have h1 := listText_le (ds.map PyData.shown)
  have h2 := piled_le (ts := ds.map PyData.shown) (n := n) fun t ht => by
    obtain ⟨d, hd, rfl⟩ := List.mem_map.mp ht
    exact (h d hd).ln
  rw [List.length_map] at h2
  omega
theorem Showy.tuple {ds : List PyData} {k n : Nat} (h : ∀ d ∈ ds, Showy d k n) : Showy (.tuple ds) (k + 1) (ds.length * (n + 2) + 2) := by
  refine ⟨showableAll_iff fun d hd => (h d hd).sh, hasDictAll_of fun d hd => (h d hd).nd, Nat.succ_le_succ (depthAll_le fun d hd => (h d hd).dp), ?_⟩
  show (tupleText (PyData.shownAll ds)).length ≤ _
  rw [shownAll_map]
  have h1 := fmt_text (ds.map PyData.shown)
  have h2 := piled_le (ts := ds.map PyData.shown) (n := n) fun t ht => by
    obtain ⟨d, hd, rfl⟩ := List.mem_map.mp ht
    exact (h d hd).ln
  rw [List.length_map] at h2
  omega
theorem Showy.int {i : Int} (h : i.natAbs < 10 ^ 100) : Showy (.int i) 0 101 := by
  have hl : i.natAbs.log2 < 1920 := by
    by_cases h0 : i.natAbs = 0
    · rw [h0]; decide
    · exact (Nat.log2_lt h0).mpr (Nat.lt_of_lt_of_le h (by decide +kernel))
  refine ⟨decide_eq_true hl, rfl, Nat.le_refl _, ?_⟩
  show (Str.ofString (toString i)).length ≤ 101
  rw [PySem.ofString_length]
  exact int_text_length_le10 (k := 100) (by decide) h
theorem Showy.mono {d : PyData} {k k' n n' : Nat} (h : Showy d k n) (h1 : k ≤ k') (h2 : n ≤ n') : Showy d k' n' := ⟨h.sh, h.nd, Nat.le_trans h.dp h1, Nat.le_trans h.ln h2⟩
/-! ## places of words -/
open StrLaws in
theorem find_from (x y : Str) (lo : Nat) (hlo : lo ≤ x.length + 1) :
    ((match Builtin.Str.occurrences x y lo x.length 1 with | i :: _ => (i : Int) | [] => -1) = -1 ∧ ∀ i, lo ≤ i → ¬ At x y x.length i) ∨
    ∃ i : Nat, (match Builtin.Str.occurrences x y lo x.length 1 with | i :: _ => (i : Int) | [] => -1) = (i : Int) ∧ lo ≤ i ∧ At x y x.length i ∧ ∀ k, lo ≤ k → k < i → ¬ At x y x.length k := by
  rw [occ_eq]
  have inr : ∀ i, lo ≤ i → i ≤ x.length → i ∈ List.range' lo (x.length + 1 - lo) := fun i h1 h2 => by
    simp only [List.mem_range'_1]
    omega
  rcases occ_first x y x.length 1 (Nat.le_refl _) (List.range' lo (x.length + 1 - lo)) lo (fun i hi => (List.mem_range'_1.mp hi).1) with ⟨h0, hn⟩ | ⟨pre, a, post, e, h0, ha, hn⟩
  · refine .inl ⟨by rw [h0], fun i hi hA => hn i (inr i hi (Nat.le_trans (Nat.le_add_right _ _) hA.1)) hA⟩
  · refine .inr ⟨a, ?_, ?_, ha, fun k h1 h2 => ?_⟩
    · generalize (forIn (List.range' lo (x.length + 1 - lo)) ((#[] : Array Nat), lo) (occBody x y x.length 1)).run.fst = arr at h0
      have h1 : arr.toList[0]? = some a := by simpa using h0
      match hL : arr.toList with
      | [] => rw [hL] at h1; cases h1
      | b :: t => rw [hL] at h1; simp at h1; rw [h1]
    · exact (List.mem_range'_1.mp (by rw [e]; exact List.mem_append_right _ List.mem_cons_self : a ∈ List.range' lo (x.length + 1 - lo))).1
    · refine hn k ?_
      have hk : k ∈ pre ++ a :: post := by
        rw [← e]
        refine inr k h1 ?_
        have q := ha.1
        omega
      have pw : (pre ++ a :: post).Pairwise (· < ·) := by rw [← e]; exact List.pairwise_lt_range'
      rcases List.mem_append.mp hk with hk | hk
      · exact hk
      · rcases List.mem_cons.mp hk with rfl | hk
        · exact absurd h2 (Nat.lt_irrefl _)
        · have q := (List.pairwise_cons.mp (List.pairwise_append.mp pw).2.1).1 k hk
          omega
def atB (x w : Str) (i : Nat) : Bool := decide (i + w.length ≤ x.length) && Builtin.Str.subAt x w i
theorem atB_iff (x w : Str) (i : Nat) : atB x w i = true ↔ StrLaws.At x w x.length i := by
  unfold atB StrLaws.At
  simp
/-- all places of a word in a text -/
def plc (x w : Str) : List Nat := (List.range (x.length + 1)).filter (atB x w)
theorem filter_more {P : Nat → Bool} {lo m : Nat} (h : lo ≤ m) (hn : ∀ i, lo ≤ i → i < m → P i = false) : (List.range m).filter P = (List.range lo).filter P := by
  induction m with
  | zero => rw [Nat.le_zero.mp h]
  | succ m ih =>
    by_cases e : lo = m + 1
    · rw [e]
    · rw [List.range_succ, List.filter_append, ih (by omega) fun i h1 h2 => hn i h1 (by omega)]
      have q := hn m (by omega) (Nat.lt_succ_self _)
      simp [q]
theorem filter_snoc {P : Nat → Bool} {m : Nat} (h : P m = true) : (List.range (m + 1)).filter P = (List.range m).filter P ++ [m] := by
  rw [List.range_succ, List.filter_append]
  simp [h]
def plcI (x w : Str) : List Int := (plc x w).map Int.ofNat
theorem plc_lt {x w : Str} {i : Nat} (h : i ∈ plc x w) : i ≤ x.length := Nat.le_of_lt_succ (List.mem_range.mp (List.mem_filter.mp h).1)
theorem plc_len (x w : Str) : (plc x w).length ≤ x.length + 1 := Nat.le_trans (List.length_filter_le _ _) (Nat.le_of_eq List.length_range)
theorem plc_showy {x w : Str} (h : x.length ≤ 10000) : Showy (.list ((plcI x w).map PyData.int)) 1 1100000 := by
  refine (Showy.list (k := 0) (n := 101) fun d hd => ?_).mono (Nat.le_refl _) ?_
  · obtain ⟨i, hi, rfl⟩ := List.mem_map.mp hd
    obtain ⟨n, hn, rfl⟩ := List.mem_map.mp hi
    have q := plc_lt hn
    refine Showy.int ?_
    show n < 10 ^ 100
    exact Nat.lt_of_le_of_lt (Nat.le_trans q h) (by decide +kernel)
  · rw [List.length_map]
    unfold plcI
    rw [List.length_map]
    have := plc_len x w
    omega
def spPlaces (K : PySem.W.Frag) : Sp := fun vs H Q _ => ∃ (x w : Str), vs = [.str x, .str w] ∧ x.length ≤ 10000 ∧ w.length ≤ 10000 ∧
  ∀ (a : Addr) (H' : Hp), H a = none → H' a = some (.lst ((plcI x w).map V.int)) → Same H H' → Q (.ref a) H'
/-- the slice of a text at a place -/
theorem cut_at (x w : Str) (k : Nat) (h : k + w.length ≤ x.length) : decide (V.str (cutS x (some (k : Int)) (some ((k : Int) + (w.length : Int)))) = V.str w) = atB x w k := by
  have e : cutS x (some (k : Int)) (some ((k : Int) + (w.length : Int))) = ⟨((x.cps.toList.drop k).take w.length).toArray⟩ := by
    unfold cutS
    rw [show (k : Int) + (w.length : Int) = ((k + w.length : Nat) : Int) by omega, HT.sIx_nat, HT.sIx_nat, Nat.min_eq_left h, Nat.min_eq_left (show k ≤ x.length by omega), show k + w.length - k = w.length by omega]
  rw [e]
  unfold atB
  rw [StrLaws.subAt_eq, decide_eq_true h, Bool.true_and, Bool.eq_iff_iff, decide_eq_true_eq, beq_iff_eq]
  constructor
  · intro q
    have q2 := V.str.inj q
    exact congrArg (fun z : Str => z.cps.toList) q2
  · intro q
    rw [q]
end Vk
set_option Elab.async false
set_option maxRecDepth 100000
set_option linter.all false
namespace Vk
open PySem PySem.Spec PyProof.Rows L2
/-! ## a text some times -/
theorem mulOk {x : Str} {n : Int} (h0 : 0 ≤ n) (h1 : n ≤ 1000000) (h : x.length * n.toNat ≤ 10000000) (hx : x.length ≤ 10000000) : MulOk x n := by
  refine ⟨?_, fun a _ c => ?_, fun _ _ => ?_⟩
  · rw [decide_eq_false (by omega), decide_eq_false (by omega)]
    rfl
  · have hn : 0 < n := by omega
    have q : (10000000 : Int) ≤ (2 ^ 63 - 1) / n := (Int.le_ediv_iff_mul_le hn).mpr (by omega)
    omega
  · unfold Builtin.Str.tooLong sizeLine
    exact decide_eq_false (by omega)
def CMulS (x : Str) (n : Int) : Prop := 0 ≤ n ∧ n ≤ 1000000 ∧ x.length * n.toNat ≤ 10000000 ∧ x.length ≤ 10000000
def rMulS : R2 := fun x y H Q => ∃ (z : Str) (n : Int), x = .str z ∧ y = .int n ∧ CMulS z n ∧ Q (.str (Txt.mul z n)) H
section
variable {X : Cx}
theorem op_mulS : OpR X (binaryOp .Mult) rMulS := by
  intro pins s σ H x y v u Q I rx ry h
  obtain ⟨z, n, rfl, rfl, ⟨h0, h1, h2, h3⟩, q⟩ := h
  obtain ⟨t, rfl⟩ := rx
  obtain ⟨t2, rfl⟩ := ry
  exact SB.mul (mulOk h0 h1 h2 h3) fun t' k => ⟨V.str _, H, I.tok k, ⟨t', rfl⟩, q⟩
end
theorem foldl_cat : ∀ (l : List (Array Nat)) (acc : Array Nat), (l.foldl (· ++ ·) acc).toList = acc.toList ++ (l.map Array.toList).flatten
  | [], acc => by simp
  | a :: r, acc => by
    rw [List.foldl_cons, foldl_cat r]
    simp
theorem mul_list (x : Str) (n : Int) (h : 0 ≤ n) : (Txt.mul x n).cps.toList = (List.replicate n.toNat x.cps.toList).flatten := by
  unfold Txt.mul
  split
  · rw [show n.toNat = 0 by omega]
    rfl
  · split
    · rename_i h1 h2
      rw [Bool.or_eq_true] at h2
      rcases h2 with h2 | h2
      · rw [show n = 1 from eq_of_beq h2]
        simp
      · have e : x.cps.toList = [] := List.eq_nil_of_length_eq_zero (Array.length_toList.trans (eq_of_beq h2))
        rw [e]
        simp
    · show ((List.replicate n.toNat x.cps).foldl (· ++ ·) #[]).toList = _
      rw [foldl_cat, List.map_replicate]
      rfl
theorem len_list (x : Str) : x.length = x.cps.toList.length := Array.length_toList.symm
theorem mul_len (x : Str) (n : Int) (h : 0 ≤ n) : (Txt.mul x n).length = n.toNat * x.length := by
  rw [len_list, mul_list x n h, len_list x]
  simp [List.length_flatten]
/-! ## a def called by keywords alone -/
structure CalK (P : Program) (w : World) (K : PySem.W.Frag) (mg : Str → Option Value) (base : Heap) (CX : CXT) (k : Nat) (x : Str) (sp : Sp) (ks : List Str) (g : {α : Type} → List α → List α) : Prop where
  ex : ∃ (f : Addr) (fd : FuncData) (ps : List Str), FnG P w K mg base CX k f fd ps sp ∧ mg x = some (.ref f) ∧ PySem.W.keepIn K (.ref f) = true ∧
    (∀ (s : Shared) (ws : List Value), K.In s.heap → ws.length = ks.length → BindsTo s fd ⟨[], ks.zip ws⟩ (ps.zip (g ws))) ∧ ∀ (vs : List V) (ws : List Value), Vals vs ws → vs.length = ks.length → Vals (g vs) (g ws)
def tCallW (n : Nat) (sp : Sp) (g : {α : Type} → List α → List α) (E : XK) (t : TA) : TE := fun σ H Q => t σ H fun vs H1 => vs.length = n ∧ sp (g vs) H1 Q E
section
variable {X : Cx} {CX : CXT} {j k : Nat} {sp : Sp} {E : XK} {x : Str} {p pos : Pos} {kws : List Keyword} {tk : TA} {ks : List Str} {g : {α : Type} → List α → List α}
theorem pe_kw (c : CalK X.prog X.w X.K X.mg X.base CX k x sp ks g) (hg : X.A.guards = some []) (hr : Room j X.A) (hk : k ≤ j) (hx : Passes CX X E) (hkw : PK X kws tk) (gl : Gl X x := by rfl)
    (hall : (backToKw pos (keywordEach kws X.env)).all (·.1.isSome) = true := by rfl) (hks : (backToKw pos (keywordEach kws X.env)).filterMap (·.1) = ks := by rfl) (hdb : (x == ("__debug__" : Str)) = false := by decide)
    (hpl : ((backTo pos (starEach [] X.env)).any (·.1) || (backToKw pos (keywordEach kws X.env)).any (·.1.isNone)) = false := by rfl) :
    PE X (.Call (.Name x p) [] kws pos) (tCallW ks.length sp g E tk) := by
  obtain ⟨f, fd, ps, F, hm, kp, hb, hv⟩ := c.ex
  refine ⟨fun pins s σ H Q I h => wpAny_Call_Name_kw (ld_glob I gl hm (PySem.W.callWith_KW0 (h₀ := X.base) I.ok.mod.kin kp hall (thn (hkw.run pos pins s σ H _ I h) fun ws s2 hh => ?_) hpl) hdb)⟩
  obtain ⟨vs, H2, I2, rz, l2, q2⟩ := hh
  refine ⟨I2.kIn, ?_⟩
  rw [hks]
  refine wpAny_call (codeAny_mono (F.run X.A X.stack s2 H2 ⟨[], ks.zip ws⟩ (g ws) (g vs) Q E hg (hr.mono hk) I2.env0 (hb s2 ws I2.kIn (rz.length.symm.trans l2)) (hv vs ws rz l2) q2) (fun res s3 hq => ?_))
  match res, hq with
  | .error e, hq => exact hx pins σ H2 s2 e s3 I2 hq
  | .ok (.ret u), hq => exact I2.after hq
  | .ok .next, hq => exact hq.elim
  | .ok .brk, hq => exact hq.elim
  | .ok .cont, hq => exact hq.elim
end
theorem vals_rev : ∀ {vs : List V} {ws : List Value}, Vals vs ws → Vals vs.reverse ws.reverse
  | _, _, .nil => .nil
  | _, _, .cons r t => by
    rw [List.reverse_cons, List.reverse_cons]
    exact (vals_rev t).append (.cons r .nil)
theorem ints_can (ns : List Int) : PyData.canLay0 (.list (ns.map PyData.int)) = true := ints_canLay ns
/-! ## a def of the text as the head leaves it -/
structure At (K : PySem.W.Frag) (x : Str) (st : Stmt) (f : Addr) (fd : FuncData) : Prop where
  ns : PySem.W.nsIn K mainGlobals x = some (some (.ref f))
  fn : Fun K x x st f fd
theorem at_mk {K : PySem.W.Frag} {x : Str} {st : Stmt} {f : Addr} {oc : Value} {od an : Option Addr} {sl : Array (Option Value)} {kV doc pm cd ct : Value} (a : PySem.W.nsIn K mainGlobals x = some (some (.ref f)))
    (l : K.lookup f = some ⟨oc, od, .func (PySem.W.fnOf x x (defArgs st) (defBody st) (defScope st) .none kV doc pm an cd ct), sl⟩) (c : PySem.W.codeIn K cd x = true) (k : PySem.W.keepIn K (.ref f) = true) :
    At K x st f (PySem.W.fnOf x x (defArgs st) (defBody st) (defScope st) .none kV doc pm an cd ct) := ⟨a, fun_mk l c k⟩
section
variable {K : PySem.W.Frag} {x y qual : Str} {st : Stmt} {f : Addr} {fd : FuncData} {ps ks : List Str} {g : List Value → List Value}
theorem _root_.L2.Fun.kwb (F : Fun K x qual st f fd)
    (h : ∀ (kV doc pm : Value) (an : Option Addr) (cdv ct : Value) (ws : List Value), ws.length = ks.length → bindArgs (PySem.W.fnOf x qual (defArgs st) (defBody st) (defScope st) .none kV doc pm an cdv ct) ⟨[], ks.zip ws⟩ = pure (ps.zip (g ws))) :
    ∀ (s : Shared) (ws : List Value), K.In s.heap → ws.length = ks.length → BindsTo s fd ⟨[], ks.zip ws⟩ (ps.zip (g ws)) := by
  obtain ⟨oc, od, kV, doc, pm, an, cdv, ct, osl, rfl, lk, hcd⟩ := F.ex
  exact fun s ws _ hl => .of_eq (h kV doc pm an cdv ct ws hl)
theorem _root_.L2.Fun.binds1 (F : Fun K x qual st f fd)
    (h : ∀ {kV doc pm : Value} {an : Option Addr} {cdv ct : Value} {v : Value}, bindArgs (PySem.W.fnOf x qual (defArgs st) (defBody st) (defScope st) .none kV doc pm an cdv ct) ⟨[v], []⟩ = pure [(y, v)]) :
    ∀ (s : Shared) (v : Value), BindsTo s fd ⟨[v], []⟩ [(y, v)] := by
  obtain ⟨oc, od, kV, doc, pm, an, cdv, ct, osl, rfl, lk, hcd⟩ := F.ex
  exact fun s v => .of_eq h
end
end Vk
set_option Elab.async false
set_option maxRecDepth 100000
set_option maxHeartbeats 4000000
set_option linter.all false
namespace Vk
open PySem PySem.Spec PyProof.Rows L2
/-! ## for i, c in enumerate(x), x a text -/
/-- the letters of x, each in a new pair -/
def Ites (x : Str) : It :=
  ⟨fun i H => i < x.cps.size, fun i H v H' => ∃ T c, v = .ref T ∧ H T = none ∧ H' = upd H T (.tup [.int (i : Nat), .str ⟨#[c]⟩]) ∧ x.cps[i]? = some c, fun i H => x.cps.size = i⟩
theorem turn_enumS {P : Program} {w : World} {K : PySem.W.Frag} {elts : List Expr} {kk : Nat} {tpos : Pos} (x : Str) (t : Tok) (e it : Addr) :
    Turn P w K (.Tuple elts kk tpos) (Ites x) [e, it] e (fun i h => (∃ old, IsEnum h e it ((i : Nat) : Int) old) ∧ h.IsStrIter it (strIterType x) x t i ∧ e ≠ it) where
  mem := by simp
  obj := fun i h st b hb => by
    obtain ⟨⟨old, he⟩, ⟨o, ho, hc, hd⟩, _⟩ := st
    rcases List.mem_cons.mp hb with z | z
    · exact z ▸ ⟨_, he, fun v q => nomatch q⟩
    · rw [List.mem_singleton] at z
      exact z ▸ ⟨o, ho, fun v q => by rw [hd] at q; cases q⟩
  keep := fun i h h' st k => by
    obtain ⟨⟨old, he⟩, ⟨o, ho, r⟩, rest⟩ := st
    exact ⟨⟨old, k e List.mem_cons_self _ he⟩, ⟨o, k it (List.mem_cons_of_mem _ List.mem_cons_self) o ho, r⟩, rest⟩
  item := by
    intro X hP hw hK hc i pins s σ H E I hf st hg
    subst hP hw hK
    obtain ⟨⟨old, he⟩, hit, hne⟩ := st
    have big1 : e < s.heap.objs.size := Heap.lt_size he
    have big2 : it < s.heap.objs.size := by obtain ⟨_, q, _⟩ := hit; exact Heap.lt_size q
    refine wpAny_pyNext_enum_itemD (Draws.text (A := X.A.in1) (I.ok.hd hc) it x t) he hit hg hne (by simp [hne]) fun u2 h2 tk hu2 ho st2 hT hsz hk => ?_
    obtain ⟨c, u, hcx, rfl⟩ := hu2
    refine ⟨_, rfl, wpAny_letOwnedTupleGo_enum (s := { s with heap := h2, toks := tk + 1 }) ho fun h3 he3 sb => ?_⟩
    have hT3 : h3.get? s.heap.objs.size = some { cls := .type "tuple", data := .seq #[.int i tk, .str ⟨#[c]⟩ u] } := (sb.2 _ (Nat.ne_of_gt big1)).trans hT
    have laid : ObjOk X.prog X.w (upd H s.heap.objs.size (.tup [.int (i : Nat), .str ⟨#[c]⟩])) h3 s.heap.objs.size (.tup [.int (i : Nat), .str ⟨#[c]⟩]) := ⟨(by show 2 ≤ sizeLine; decide), [.int i tk, .str ⟨#[c]⟩ u], .cons ⟨_, rfl⟩ (.cons ⟨_, rfl⟩ .nil), ⟨_, hT3, rfl, _, rfl⟩⟩
    have I1 : Inv X pins σ (upd H s.heap.objs.size (.tup [.int (i : Nat), .str ⟨#[c]⟩])) { s with heap := h3, toks := tk + 1 } :=
      I.turnedNew (ch := [e, it]) (fun b ob hb q => (sb.2 b (fun z => hb (by simp [z]))).trans (hk b ob (fun z => hb (by simp [z])) (fun z => hb (by simp [z])) q)) hf (Nat.le_refl _) laid
    refine ⟨.ref s.heap.objs.size, _, I1, rfl, ⟨_, c, rfl, I.hok.fresh (Nat.le_refl _), rfl, hcx⟩, ⟨⟨.str ⟨#[c]⟩ u, ?_⟩, ?_, hne⟩, fun b hb => ?_⟩
    · rw [show ((i + 1 : Nat) : Int) = (i : Int) + 1 by omega]
      exact he3
    · obtain ⟨o2, q2, r2⟩ := st2
      exact ⟨o2, (sb.2 it (Ne.symm hne)).trans q2, r2⟩
    · have old1 : b < s.heap.objs.size := by
        rcases List.mem_cons.mp hb with z | z
        · exact z ▸ big1
        · rw [List.mem_singleton] at z
          exact z ▸ big2
      exact (upd_ne (Nat.ne_of_lt old1)).trans (hf b hb).1
  done := by
    intro X hP hw hK hc i pins s σ H E I hf st hg
    subst hP hw hK
    obtain ⟨⟨old, he⟩, hit, hne⟩ := st
    obtain ⟨f0, f1, f2, f3, f4, f5⟩ := hf it (List.mem_cons_of_mem _ List.mem_cons_self)
    have le : i = x.cps.size := hg.symm
    exact wpAny_pyNext_enum_endD (Draws.text (A := X.A.in1) (I.ok.hd hc) it x t) he (le ▸ hit) fun h' eb => ⟨rfl, I.turned (t' := s.toks) (fun b o hb q => eb b o hb q) f0 f1 f3 f4 f5⟩
  self := fun A i s Q E st h => let ⟨⟨_, he⟩, _⟩ := st; wpAny_pyIter_enum he h
def iEnumS (ta : TA) : TI := fun σ H R => ta σ H fun vs H1 => ∃ x, vs = [.str x] ∧ R (Ites x) H1
theorem pi_enumS {X : Cx} {e : Expr} {ta : TA} {p pos tpos : Pos} {elts : List Expr} {kk : Nat} (gl : Gl X "enumerate") (hm : X.mg "enumerate" = none) (ha : PA X [e] ta) (hs : starEach [e] X.env = [(false, eval e X.env)] := by rfl) :
    PI X (.Tuple elts kk tpos) (.Call (.Name "enumerate" p) [e] [] pos) (iEnumS ta) := by
  refine ⟨fun pins s σ H R I h => Call_ (ld_blt I gl hm boot_enumerate (PyProof.Rows.callWith_type1 (thn (ha.run pos pins s σ H _ I h) fun us s1 hh => ?_) hs rfl))⟩
  obtain ⟨vs, H1, I1, r1, x, rfl, q⟩ := hh
  obtain ⟨u, rfl, ru⟩ := r1.one
  obtain ⟨t, rfl⟩ := ru
  refine call_enumerate_str fun h2 he hit _ hk => wpAny_pyIter_enum he ?_
  have I2 : Inv X pins σ H1 { s1 with heap := h2 } := I1.kept (t' := s1.toks) hk
  refine ⟨s1.heap.objs.size + 1, [s1.heap.objs.size + 1, s1.heap.objs.size], _, _, H1, rfl, I2, turn_enumS x t (s1.heap.objs.size + 1) s1.heap.objs.size, ⟨⟨.none, he⟩, hit, Nat.succ_ne_self _⟩, fun b hb => ?_, q⟩
  have le : s1.heap.objs.size ≤ b := by
    rcases List.mem_cons.mp hb with z | z
    · rw [z]; exact Nat.le_succ _
    · rw [List.mem_singleton.mp z]; exact Nat.le_refl _
  exact I1.fpOk le (I1.hok.fresh le)
/-! ## loops over these -/
theorem for_enumS {x : Str} {g : TG} {tb : TS} {D : Ends} {σ : L2.St} {H : Hp} (Pv : Nat → L2.St → Hp → Prop) (h0 : Pv 0 σ H)
    (hs : ∀ i c σ H T, x.cps[i]? = some c → H T = none → Pv i σ H → g (.ref T) σ (upd H T (.tup [.int (i : Nat), .str ⟨#[c]⟩])) fun σ2 H2 => tb { D with nx := Pv (i + 1), ct := Pv (i + 1), bk := D.nx } σ2 H2) (hd : ∀ σ H, Pv x.cps.size σ H → D.nx σ H) :
    ∃ W : Nat → Nat → L2.St → Hp → Prop, (∃ m, W 0 m σ H) ∧ ∀ i m σ H, W i m σ H →
      ((Ites x).stop i H ∧ D.nx σ H) ∨ ((Ites x).go i H ∧ ∃ N : L2.St → Hp → Prop, (∀ σ' H', N σ' H' → ∃ m', m' < m ∧ W (i + 1) m' σ' H') ∧ ∀ x1 H', (Ites x).yld i H x1 H' → g x1 σ H' fun σ2 H2 => tb { D with nx := N, ct := N, bk := D.nx } σ2 H2) := by
  refine ⟨fun i m σ H => m = x.cps.size - i ∧ i ≤ x.cps.size ∧ Pv i σ H, ⟨x.cps.size, by simp, Nat.zero_le _, h0⟩, ?_⟩
  rintro i m σ H ⟨rfl, hi, p⟩
  by_cases hlt : i < x.cps.size
  · refine .inr ⟨hlt, Pv (i + 1), fun σ' H' p' => ⟨x.cps.size - (i + 1), by omega, rfl, hlt, p'⟩, ?_⟩
    rintro x1 H' ⟨T, c, rfl, hT, rfl, hc⟩
    exact hs i c σ H T hc hT p
  · have e : i = x.cps.size := by omega
    subst e
    exact .inl ⟨rfl, hd σ H p⟩
theorem for_enumL {K : PySem.W.Frag} {a : Addr} {xs : List V} {g : TG} {tb : TS} {D : Ends} {σ : L2.St} {H : Hp} (Pv : Nat → L2.St → Hp → Prop) (h0 : Pv 0 σ H) (hl : ∀ i σ H, i ≤ xs.length → Pv i σ H → SqL K H a xs)
    (hs : ∀ i v σ H T, xs[i]? = some v → H T = none → Pv i σ H → g (.ref T) σ (upd H T (.tup [.int (i : Nat), v])) fun σ2 H2 => tb { D with nx := Pv (i + 1), ct := Pv (i + 1), bk := D.nx } σ2 H2) (hd : ∀ σ H, Pv xs.length σ H → D.nx σ H) :
    ∃ W : Nat → Nat → L2.St → Hp → Prop, (∃ m, W 0 m σ H) ∧ ∀ i m σ H, W i m σ H →
      ((Ite K a).stop i H ∧ D.nx σ H) ∨ ((Ite K a).go i H ∧ ∃ N : L2.St → Hp → Prop, (∀ σ' H', N σ' H' → ∃ m', m' < m ∧ W (i + 1) m' σ' H') ∧ ∀ x1 H', (Ite K a).yld i H x1 H' → g x1 σ H' fun σ2 H2 => tb { D with nx := N, ct := N, bk := D.nx } σ2 H2) := by
  refine ⟨fun i m σ H => m = xs.length - i ∧ i ≤ xs.length ∧ Pv i σ H, ⟨xs.length, by simp, Nat.zero_le _, h0⟩, ?_⟩
  rintro i m σ H ⟨rfl, hi, p⟩
  have q := hl i σ H hi p
  by_cases hlt : i < xs.length
  · refine .inr ⟨⟨xs, xs[i], q, by simp [hlt]⟩, Pv (i + 1), fun σ' H' p' => ⟨xs.length - (i + 1), by omega, rfl, hlt, p'⟩, ?_⟩
    rintro x1 H' ⟨T, v, rfl, hT, rfl, hv⟩
    exact hs i v σ H T (hv xs q) hT p
  · have e : i = xs.length := by omega
    subst e
    exact .inl ⟨⟨xs, q, Nat.le_refl _⟩, hd σ H p⟩
theorem for_str {x : Str} {g : TG} {tb : TS} {D : Ends} {σ : L2.St} {H : Hp} (Pv : Nat → L2.St → Hp → Prop) (h0 : Pv 0 σ H)
    (hs : ∀ i c σ H, x.cps[i]? = some c → Pv i σ H → g (.str ⟨#[c]⟩) σ H fun σ2 H2 => tb { D with nx := Pv (i + 1), ct := Pv (i + 1), bk := D.nx } σ2 H2) (hd : ∀ σ H, Pv x.cps.size σ H → D.nx σ H) :
    ∃ W : Nat → Nat → L2.St → Hp → Prop, (∃ m, W 0 m σ H) ∧ ∀ i m σ H, W i m σ H →
      ((Its x).stop i H ∧ D.nx σ H) ∨ ((Its x).go i H ∧ ∃ N : L2.St → Hp → Prop, (∀ σ' H', N σ' H' → ∃ m', m' < m ∧ W (i + 1) m' σ' H') ∧ ∀ x1 H', (Its x).yld i H x1 H' → g x1 σ H' fun σ2 H2 => tb { D with nx := N, ct := N, bk := D.nx } σ2 H2) := by
  refine ⟨fun i m σ H => m = x.cps.size - i ∧ i ≤ x.cps.size ∧ Pv i σ H, ⟨x.cps.size, by simp, Nat.zero_le _, h0⟩, ?_⟩
  rintro i m σ H ⟨rfl, hi, p⟩
  by_cases hlt : i < x.cps.size
  · refine .inr ⟨hlt, Pv (i + 1), fun σ' H' p' => ⟨x.cps.size - (i + 1), by omega, rfl, hlt, p'⟩, ?_⟩
    rintro x1 H' ⟨rfl, c, hc, rfl⟩
    exact hs i c σ H' hc p
  · have e : i = x.cps.size := by omega
    subst e
    exact .inl ⟨Nat.le_refl _, hd σ H p⟩
end Vk
set_option Elab.async false
set_option maxRecDepth 100000
set_option linter.all false
namespace Vk
open PySem PySem.Spec PyProof.Rows L2
/-! ## lists whose items stand for items of another list -/
theorem paired_len {α β : Type} {R : α → β → Prop} : ∀ {xs : List α} {ys : List β}, Paired R xs ys → xs.length = ys.length
  | _, _, .nil => rfl
  | _, _, .cons _ t => congrArg (· + 1) (paired_len t)
theorem paired_at {α β : Type} {R : α → β → Prop} : ∀ {xs : List α} {ys : List β} {i : Nat} {x : α}, Paired R xs ys → xs[i]? = some x → ∃ y, ys[i]? = some y ∧ R x y
  | _, _, 0, _, .cons a t, h => by cases h; exact ⟨_, rfl, a⟩
  | _, _, i + 1, _, .cons a t, h => paired_at (i := i) t h
theorem drop_at {α : Type} : ∀ {l : List α} {i : Nat} {x : α}, l[i]? = some x → l.drop i = x :: l.drop (i + 1)
  | a :: l, 0, x, h => by cases h; rfl
  | a :: l, i + 1, x, h => by simpa using drop_at (l := l) (i := i) (x := x) (by simpa using h)
theorem paired_perm {α β : Type} {R : α → β → Prop} {xs ys : List α} (p : ys.Perm xs) : ∀ {rs : List β}, Paired R xs rs → ∃ ls, ls.Perm rs ∧ Paired R ys ls := by
  induction p with
  | nil => exact fun h => ⟨_, .refl _, h⟩
  | cons x p ih =>
    intro rs h
    cases h with
    | cons a t =>
      obtain ⟨ls, q, r⟩ := ih t
      exact ⟨_, q.cons _, .cons a r⟩
  | swap x y l =>
    intro rs h
    cases h with
    | cons a t =>
      cases t with
      | cons b t => exact ⟨_, .swap _ _ _, .cons b (.cons a t)⟩
  | trans p1 p2 ih1 ih2 =>
    intro rs h
    obtain ⟨ls, q, r⟩ := ih2 h
    obtain ⟨ms, q2, r2⟩ := ih1 r
    exact ⟨ms, q2.trans q, r2⟩
theorem paired_app {α β : Type} {R : α → β → Prop} : ∀ {xs : List α} {ys : List β} {us : List α} {vs : List β}, Paired R xs ys → Paired R us vs → Paired R (xs ++ us) (ys ++ vs)
  | _, _, _, _, .nil, b => b
  | _, _, _, _, .cons a t, b => .cons a (paired_app t b)
theorem pg_tupK {X : Cx} {K : PySem.W.Frag} {es : List Expr} {k : Nat} {t : TGs} {n : Nat} {pos : Pos} (hK : X.K = K) (hc : X.calm = true) (h : PGs X es t)
    (hn : (assignEach es X.env).length = n := by rfl) (hst : (assignEach es X.env).findIdx? (·.1) = none := by rfl) : PG X (.Tuple es k pos) (gTup K n t) := hK ▸ pg_tup hc h hn hst
def tTruK (K : PySem.W.Frag) (ta : TE) : TT := fun σ H Q => ta σ H fun x H' => ∃ k, TruV K x H' k ∧ Q k H'
theorem pt_truthK {X : Cx} {K : PySem.W.Frag} {a : Expr} {ta : TE} (hK : X.K = K) (ha : PE X a ta) (he : ∀ whole, isTrue a X.env whole = (do let v ← whole; standAt a.pos; holding [v] (truthy v)) := by intro _; rfl) :
    PT X a (tTruK K ta) := hK ▸ pt_truth ha he
end Vk
set_option linter.all false
namespace Vk
/-! ## distances -/
def neq (a b : Nat) : Nat := if a = b then 0 else 1
def edD (A B : Nat → Nat) : Nat → Nat → Nat
  | 0, j => j
  | i + 1, 0 => i + 1
  | i + 1, j + 1 => min (min (edD A B i j + neq (A i) (B j)) (edD A B i (j + 1) + 1)) (edD A B (i + 1) j + 1)
theorem edD_0 {A B : Nat → Nat} {j : Nat} : edD A B 0 j = j := by cases j <;> simp [edD]
theorem edD_s0 {A B : Nat → Nat} {i : Nat} : edD A B i 0 = i := by cases i <;> simp [edD]
theorem edD_ss {A B : Nat → Nat} {i j : Nat} : edD A B (i + 1) (j + 1) = min (min (edD A B i j + neq (A i) (B j)) (edD A B i (j + 1) + 1)) (edD A B (i + 1) j + 1) := by simp [edD]
theorem edD_congr {A A2 B B2 : Nat → Nat} : ∀ (i j : Nat), (∀ t, t < i → A t = A2 t) → (∀ t, t < j → B t = B2 t) → edD A B i j = edD A2 B2 i j
  | 0, j, _, _ => by rw [edD_0, edD_0]
  | i + 1, 0, _, _ => by rw [edD_s0, edD_s0]
  | i + 1, j + 1, h1, h2 => by
    rw [edD_ss, edD_ss, edD_congr i j (fun t h => h1 t (by omega)) (fun t h => h2 t (by omega)), edD_congr i (j + 1) (fun t h => h1 t (by omega)) h2, edD_congr (i + 1) j h1 (fun t h => h2 t (by omega)), h1 i (by omega), h2 j (by omega)]
theorem neq_le (a b : Nat) : neq a b ≤ 1 := by unfold neq; split <;> omega
theorem edD_up {A B : Nat → Nat} : ∀ (i j : Nat), edD A B i j ≤ i + j
  | 0, j => by rw [edD_0]; omega
  | i + 1, 0 => by rw [edD_s0]; omega
  | i + 1, j + 1 => by
    have := edD_up (A := A) (B := B) i (j + 1)
    rw [edD_ss]; omega
theorem edD_low {A B : Nat → Nat} : ∀ (i j : Nat), j ≤ edD A B i j + i ∧ i ≤ edD A B i j + j
  | 0, j => by rw [edD_0]; omega
  | i + 1, 0 => by rw [edD_s0]; omega
  | i + 1, j + 1 => by
    have h1 := edD_low (A := A) (B := B) i j
    have h2 := edD_low (A := A) (B := B) i (j + 1)
    have h3 := edD_low (A := A) (B := B) (i + 1) j
    rw [edD_ss]; omega
theorem edD_one {A B : Nat → Nat} : ∀ (j : Nat), edD A B (0 + 1) (j + 1) ≤ j + 1
  | 0 => by
    have := neq_le (A 0) (B 0)
    rw [edD_ss, edD_0, edD_0, edD_s0]; omega
  | j + 1 => by
    have := edD_one (A := A) (B := B) j
    rw [edD_ss]; omega
theorem bit_one {l : Nat} : (1 : Nat).testBit l = decide (l = 0) := by
  cases l with
  | zero => decide
  | succ k => rw [Nat.testBit_succ, Nat.zero_testBit]; rfl
/-- no difference -/
theorem edD_zero {A B : Nat → Nat} : ∀ (i j : Nat), edD A B i j = 0 ↔ i = j ∧ ∀ t, t < i → A t = B t
  | 0, j => by
    rw [edD_0]
    constructor
    · intro h; exact ⟨h.symm, fun t ht => by omega⟩
    · intro h; exact h.1.symm
  | i + 1, 0 => by
    rw [edD_s0]
    constructor
    · intro h; omega
    · intro h; omega
  | i + 1, j + 1 => by
    have h1 := edD_zero (A := A) (B := B) i j
    rw [edD_ss]
    constructor
    · intro h
      have h0 : edD A B i j = 0 ∧ neq (A i) (B j) = 0 := by omega
      have q := h1.mp h0.1
      have e : A i = B j := by
        have := h0.2
        unfold neq at this
        split at this
        · assumption
        · omega
      refine ⟨by omega, fun t ht => ?_⟩
      by_cases ti : t = i
      · rw [ti, e, q.1]
      · exact q.2 t (by omega)
    · rintro ⟨e, h⟩
      have q := h1.mpr ⟨by omega, fun t ht => h t (by omega)⟩
      have e2 : neq (A i) (B j) = 0 := by
        have ij : i = j := by omega
        subst ij
        unfold neq
        rw [if_pos (h i (by omega))]
      omega
/-! ## windows from a to i -/
def fD (X B : Nat → Nat) (a i j : Nat) : Nat := edD (fun t => X (a + t)) B (i - a) j
theorem fD_self {X B : Nat → Nat} {a j : Nat} : fD X B a a j = j := by unfold fD; rw [Nat.sub_self, edD_0]
theorem fD_0 {X B : Nat → Nat} {a i : Nat} : fD X B a i 0 = i - a := by unfold fD; rw [edD_s0]
theorem fD_ss {X B : Nat → Nat} {a i j : Nat} (h : a ≤ i) : fD X B a (i + 1) (j + 1) = min (min (fD X B a i j + neq (X i) (B j)) (fD X B a i (j + 1) + 1)) (fD X B a (i + 1) j + 1) := by
  unfold fD
  rw [show i + 1 - a = (i - a) + 1 by omega, edD_ss, show a + (i - a) = i by omega]
structure Best (X B : Nat → Nat) (i j num bits : Nat) : Prop where
  le : ∀ a, a ≤ i → num ≤ fD X B a i j
  bit : ∀ l, bits.testBit l = true ↔ l ≤ i ∧ fD X B (i - l) i j = num
  at_ : ∃ a, a ≤ i ∧ fD X B a i j = num
  up : num ≤ j
theorem best_0 {X B : Nat → Nat} {j : Nat} : Best X B 0 j j 1 := by
  refine ⟨fun a ha => ?_, fun l => ?_, ⟨0, Nat.le_refl _, fD_self⟩, Nat.le_refl _⟩
  · rw [show a = 0 by omega, fD_self]; omega
  · rw [bit_one]
    constructor
    · intro h
      have := of_decide_eq_true h
      subst this
      exact ⟨Nat.le_refl _, fD_self⟩
    · rintro ⟨h, _⟩
      exact decide_eq_true (by omega)
theorem best_s0 {X B : Nat → Nat} {i : Nat} : Best X B i 0 0 1 := by
  refine ⟨fun a ha => Nat.zero_le _, fun l => ?_, ⟨i, Nat.le_refl _, fD_self⟩, Nat.le_refl _⟩
  rw [bit_one, fD_0]
  constructor
  · intro h
    have := of_decide_eq_true h
    subst this
    omega
  · rintro ⟨h, h2⟩
    exact decide_eq_true (by omega)
/-- the or of those whose number is least -/
def orAll (least : Nat) (ps : List (Nat × Nat)) (acc : Nat) : Nat := ps.foldl (fun r p => if p.1 = least then r ||| p.2 else r) acc
theorem orAll_bit {least l : Nat} : ∀ (ps : List (Nat × Nat)) (acc : Nat), (orAll least ps acc).testBit l = true ↔ acc.testBit l = true ∨ ∃ p ∈ ps, p.1 = least ∧ p.2.testBit l = true
  | [], acc => by simp [orAll]
  | p :: r, acc => by
    have e : orAll least (p :: r) acc = orAll least r (if p.1 = least then acc ||| p.2 else acc) := rfl
    rw [e, orAll_bit r]
    split
    · rename_i h
      rw [Nat.testBit_or, Bool.or_eq_true]
      constructor
      · rintro ((h1 | h1) | ⟨q, hq, h1⟩)
        · exact .inl h1
        · exact .inr ⟨p, List.mem_cons_self, h, h1⟩
        · exact .inr ⟨q, List.mem_cons_of_mem _ hq, h1⟩
      · rintro (h1 | ⟨q, hq, h1⟩)
        · exact .inl (.inl h1)
        · rcases List.mem_cons.mp hq with rfl | hq
          · exact .inl (.inr h1.2)
          · exact .inr ⟨q, hq, h1⟩
    · rename_i h
      constructor
      · rintro (h1 | ⟨q, hq, h1⟩)
        · exact .inl h1
        · exact .inr ⟨q, List.mem_cons_of_mem _ hq, h1⟩
      · rintro (h1 | ⟨q, hq, h1⟩)
        · exact .inl h1
        · rcases List.mem_cons.mp hq with rfl | hq
          · exact absurd h1.1 h
          · exact .inr ⟨q, hq, h1⟩
theorem orAll_lt {least k : Nat} : ∀ (ps : List (Nat × Nat)) (acc : Nat), acc < 2 ^ k → (∀ p ∈ ps, p.2 < 2 ^ k) → orAll least ps acc < 2 ^ k
  | [], acc, h, _ => h
  | p :: r, acc, h, hp => by
    have e : orAll least (p :: r) acc = orAll least r (if p.1 = least then acc ||| p.2 else acc) := rfl
    rw [e]
    refine orAll_lt r _ ?_ fun q hq => hp q (List.mem_cons_of_mem _ hq)
    split
    · exact Nat.or_lt_two_pow h (hp p List.mem_cons_self)
    · exact h
/-- the three pairs of next_column -/
def three (ne n1 b1 n2 b2 n3 b3 : Nat) : List (Nat × Nat) := [(n1 + ne, b1 * 2), (n2 + 1, b2 * 2), (n3 + 1, b3)]
theorem bit_dbl {b l : Nat} : (b * 2).testBit l = true ↔ ∃ k, l = k + 1 ∧ b.testBit k = true := by
  cases l with
  | zero =>
    constructor
    · intro h
      rw [Nat.testBit_zero] at h
      have := of_decide_eq_true h
      omega
    · rintro ⟨k, h, _⟩; omega
  | succ k =>
    rw [Nat.testBit_succ, Nat.mul_div_cancel _ (by decide)]
    constructor
    · intro h; exact ⟨k, rfl, h⟩
    · rintro ⟨k2, h, h2⟩
      have : k = k2 := by omega
      rw [this]; exact h2
theorem best_step {X B : Nat → Nat} {i j n1 b1 n2 b2 n3 b3 : Nat} (h1 : Best X B i j n1 b1) (h2 : Best X B i (j + 1) n2 b2) (h3 : Best X B (i + 1) j n3 b3) :
    Best X B (i + 1) (j + 1) (min (min (n1 + neq (X i) (B j)) (n2 + 1)) (n3 + 1)) (orAll (min (min (n1 + neq (X i) (B j)) (n2 + 1)) (n3 + 1)) (three (neq (X i) (B j)) n1 b1 n2 b2 n3 b3) 0) := by
  generalize hm : min (min (n1 + neq (X i) (B j)) (n2 + 1)) (n3 + 1) = m
  have hle : ∀ a, a ≤ i + 1 → m ≤ fD X B a (i + 1) (j + 1) := by
    intro a ha
    by_cases e : a = i + 1
    · subst e
      have q := h3.le (i + 1) (Nat.le_refl _)
      rw [fD_self] at q ⊢
      omega
    · have q1 := h1.le a (by omega)
      have q2 := h2.le a (by omega)
      have q3 := h3.le a (by omega)
      rw [fD_ss (by omega)]
      omega
  -- what attains
  have at1 : ∀ a, a ≤ i → fD X B a i j = n1 → n1 + neq (X i) (B j) = m → fD X B a (i + 1) (j + 1) = m := by
    intro a ha e1 e2
    have := hle a (by omega)
    rw [fD_ss ha] at this ⊢
    omega
  have at2 : ∀ a, a ≤ i → fD X B a i (j + 1) = n2 → n2 + 1 = m → fD X B a (i + 1) (j + 1) = m := by
    intro a ha e1 e2
    have := hle a (by omega)
    rw [fD_ss ha] at this ⊢
    omega
  have at3 : ∀ a, a ≤ i + 1 → fD X B a (i + 1) j = n3 → n3 + 1 = m → fD X B a (i + 1) (j + 1) = m := by
    intro a ha e1 e2
    have := hle a (by omega)
    by_cases e : a = i + 1
    · subst e
      rw [fD_self] at e1 this ⊢
      omega
    · rw [fD_ss (by omega)] at this ⊢
      omega
  refine ⟨hle, fun l => ?_, ?_, ?_⟩
  · rw [orAll_bit]
    unfold three
    constructor
    · rintro (h | ⟨p, hp, e, hb⟩)
      · rw [Nat.zero_testBit] at h; cases h
      · simp only [List.mem_cons, List.not_mem_nil, or_false] at hp
        rcases hp with rfl | rfl | rfl
        · obtain ⟨k, rfl, hk⟩ := bit_dbl.mp hb
          obtain ⟨k1, k2⟩ := (h1.bit k).mp hk
          refine ⟨by omega, ?_⟩
          rw [show i + 1 - (k + 1) = i - k by omega]
          exact at1 _ (by omega) k2 e
        · obtain ⟨k, rfl, hk⟩ := bit_dbl.mp hb
          obtain ⟨k1, k2⟩ := (h2.bit k).mp hk
          refine ⟨by omega, ?_⟩
          rw [show i + 1 - (k + 1) = i - k by omega]
          exact at2 _ (by omega) k2 e
        · obtain ⟨k1, k2⟩ := (h3.bit l).mp hb
          exact ⟨k1, at3 _ (by omega) k2 e⟩
    · rintro ⟨hl, e⟩
      refine .inr ?_
      by_cases l0 : l = 0
      · subst l0
        rw [Nat.sub_zero] at e
        have q := h3.le (i + 1) (Nat.le_refl _)
        have e3 : n3 = j := by
          rw [fD_self] at e q
          omega
        refine ⟨_, List.mem_cons_of_mem _ (List.mem_cons_of_mem _ List.mem_cons_self), ?_, (h3.bit 0).mpr ⟨Nat.zero_le _, ?_⟩⟩
        · rw [fD_self] at e
          show n3 + 1 = m
          omega
        · rw [Nat.sub_zero, fD_self, e3]
      · obtain ⟨k, rfl⟩ : ∃ k, l = k + 1 := ⟨l - 1, by omega⟩
        have ki : k ≤ i := by omega
        have q1 := h1.le (i - k) (by omega)
        have q2 := h2.le (i - k) (by omega)
        have q3 := h3.le (i - k) (by omega)
        have e' := e
        rw [show i + 1 - (k + 1) = i - k by omega, fD_ss (by omega)] at e'
        by_cases c1 : fD X B (i - k) i j + neq (X i) (B j) = m
        · refine ⟨_, List.mem_cons_self, ?_, bit_dbl.mpr ⟨k, rfl, (h1.bit k).mpr ⟨ki, ?_⟩⟩⟩
          · show n1 + neq (X i) (B j) = m
            omega
          · omega
        · by_cases c2 : fD X B (i - k) i (j + 1) + 1 = m
          · refine ⟨_, List.mem_cons_of_mem _ List.mem_cons_self, ?_, bit_dbl.mpr ⟨k, rfl, (h2.bit k).mpr ⟨ki, ?_⟩⟩⟩
            · show n2 + 1 = m
              omega
            · omega
          · have c3 : fD X B (i - k) (i + 1) j + 1 = m := by omega
            refine ⟨_, List.mem_cons_of_mem _ (List.mem_cons_of_mem _ List.mem_cons_self), ?_, (h3.bit (k + 1)).mpr ⟨hl, ?_⟩⟩
            · show n3 + 1 = m
              omega
            · rw [show i + 1 - (k + 1) = i - k by omega]
              omega
  · obtain ⟨a1, ha1, e1⟩ := h1.at_
    obtain ⟨a2, ha2, e2⟩ := h2.at_
    obtain ⟨a3, ha3, e3⟩ := h3.at_
    by_cases c1 : n1 + neq (X i) (B j) = m
    · exact ⟨a1, by omega, at1 a1 ha1 e1 c1⟩
    · by_cases c2 : n2 + 1 = m
      · exact ⟨a2, by omega, at2 a2 ha2 e2 c2⟩
      · exact ⟨a3, ha3, at3 a3 ha3 e3 (by omega)⟩
  · have := h3.up
    omega
/-! ## windows -/
def bitlen (b : Nat) : Nat := if b = 0 then 0 else b.log2 + 1
theorem bit_lt {b l : Nat} (h : b.testBit l = true) : l < bitlen b := by
  unfold bitlen
  have hb : b ≠ 0 := by rintro rfl; rw [Nat.zero_testBit] at h; cases h
  rw [if_neg hb]
  refine Nat.lt_of_not_le fun q => ?_
  have := Nat.testBit_lt_two_pow (Nat.lt_of_lt_of_le (Nat.lt_log2_self (n := b)) (Nat.pow_le_pow_right (by decide) q))
  rw [this] at h
  cases h
def found (b : Nat) : List Nat := (List.range' 1 (bitlen b - 1)).filter b.testBit
theorem found_mem {b l : Nat} : l ∈ found b ↔ 1 ≤ l ∧ b.testBit l = true := by
  unfold found
  rw [List.mem_filter, List.mem_range'_1]
  constructor
  · rintro ⟨h1, h2⟩; exact ⟨h1.1, h2⟩
  · rintro ⟨h1, h2⟩
    have := bit_lt h2
    exact ⟨⟨h1, by omega⟩, h2⟩
def winAt (least p : Nat) (e : Nat × Nat) : List (Nat × Nat) := if e.1 = least then (found e.2).map fun l => (p + 1 - l, p + 1) else []
def winP (least : Nat) : List (Nat × Nat) → Nat → List (Nat × Nat)
  | [], _ => []
  | e :: r, p => winAt least p e ++ winP least r (p + 1)
theorem winP_snoc {least : Nat} {e : Nat × Nat} : ∀ {r : List (Nat × Nat)} {p : Nat}, winP least (r ++ [e]) p = winP least r p ++ winAt least (p + r.length) e
  | [], p => by simp [winP]
  | f :: r, p => by
    rw [List.cons_append, winP, winP, winP_snoc, List.append_assoc, List.length_cons, show p + 1 + r.length = p + (r.length + 1) by omega]
theorem winAt_mem {least p : Nat} {e : Nat × Nat} {q : Nat × Nat} : q ∈ winAt least p e ↔ e.1 = least ∧ ∃ l, 1 ≤ l ∧ e.2.testBit l = true ∧ q = (p + 1 - l, p + 1) := by
  unfold winAt
  split
  · rename_i h
    rw [List.mem_map]
    constructor
    · rintro ⟨l, hl, rfl⟩
      obtain ⟨h1, h2⟩ := found_mem.mp hl
      exact ⟨h, l, h1, h2, rfl⟩
    · rintro ⟨_, l, h1, h2, rfl⟩
      exact ⟨l, found_mem.mpr ⟨h1, h2⟩, rfl⟩
  · rename_i h
    constructor
    · intro h; cases h
    · rintro ⟨h1, _⟩; exact absurd h1 h
theorem winP_mem {least : Nat} {q : Nat × Nat} : ∀ {es : List (Nat × Nat)} {p : Nat}, q ∈ winP least es p ↔ ∃ (i : Nat) (e : Nat × Nat), es[i]? = some e ∧ q ∈ winAt least (p + i) e
  | [], p => by simp [winP]
  | e :: r, p => by
    rw [winP, List.mem_append, winP_mem]
    constructor
    · rintro (h | ⟨i, f, h1, h2⟩)
      · exact ⟨0, e, rfl, h⟩
      · exact ⟨i + 1, f, h1, by rw [show p + (i + 1) = p + 1 + i by omega]; exact h2⟩
    · rintro ⟨i, f, h1, h2⟩
      cases i with
      | zero => cases h1; exact .inl h2
      | succ i => exact .inr ⟨i, f, h1, by rw [show p + 1 + i = p + (i + 1) by omega]; exact h2⟩
theorem winP_fst {least : Nat} {es : List (Nat × Nat)} {p : Nat} {q : Nat × Nat} (h : q ∈ winP least es p) : p < q.2 ∧ q.2 ≤ p + es.length := by
  obtain ⟨i, e, h1, h2⟩ := winP_mem.mp h
  obtain ⟨_, l, _, _, rfl⟩ := winAt_mem.mp h2
  have := (List.getElem?_eq_some_iff.mp h1).1
  exact ⟨by show p < p + i + 1; omega, by show p + i + 1 ≤ _; omega⟩
theorem winP_nodup {least : Nat} {X B : Nat → Nat} {m : Nat} : ∀ {es : List (Nat × Nat)} {p : Nat}, (∀ i e, es[i]? = some e → Best X B (p + i + 1) m e.1 e.2) → (winP least es p).Nodup
  | [], p, _ => List.nodup_nil
  | e :: r, p, h => by
    rw [winP]
    refine List.nodup_append.mpr ⟨?_, winP_nodup (X := X) (B := B) (m := m) fun i f hf => ?_, fun a ha b hb e => ?_⟩
    · unfold winAt
      split
      · refine List.pairwise_map.mpr ?_
        refine (List.Pairwise.filter _ (List.nodup_range' (step := 1))).imp_of_mem ?_
        intro a b ha hb hne q
        have a1 := (((h 0 e rfl).bit a).mp (List.mem_filter.mp ha).2).1
        have b1 := (((h 0 e rfl).bit b).mp (List.mem_filter.mp hb).2).1
        have := congrArg Prod.fst q
        simp only at this
        omega
      · exact List.nodup_nil
    · have := h (i + 1) f hf
      rw [show p + (i + 1) + 1 = p + 1 + i + 1 by omega] at this
      exact this
    · subst e
      obtain ⟨_, l, _, _, rfl⟩ := winAt_mem.mp ha
      have := (winP_fst hb).1
      simp only at this
      omega
/-! the law's rows -/
def rowsW (X B : Nat → Nat) (m n : Nat) (k : Nat) : List (Nat × Nat × Nat) := (List.range k).flatMap fun a => (List.range' (a + 1) (n - a)).map fun b => (fD X B a b m, a, b)
theorem rowsW_succ {X B : Nat → Nat} {m n k : Nat} : rowsW X B m n (k + 1) = rowsW X B m n k ++ (List.range' (k + 1) (n - k)).map fun b => (fD X B k b m, k, b) := by
  unfold rowsW
  rw [List.range_succ, List.flatMap_append]
  simp
theorem rowsW_mem {X B : Nat → Nat} {m n k : Nat} {r : Nat × Nat × Nat} : r ∈ rowsW X B m n k ↔ ∃ a b, a < k ∧ a < b ∧ b ≤ n ∧ r = (fD X B a b m, a, b) := by
  unfold rowsW
  rw [List.mem_flatMap]
  constructor
  · rintro ⟨a, ha, h⟩
    obtain ⟨b, hb, rfl⟩ := List.mem_map.mp h
    have h1 := List.mem_range.mp ha
    have h2 := List.mem_range'_1.mp hb
    exact ⟨a, b, h1, by omega, by omega, rfl⟩
  · rintro ⟨a, b, h1, h2, h3, rfl⟩
    exact ⟨a, List.mem_range.mpr h1, List.mem_map.mpr ⟨b, List.mem_range'_1.mpr ⟨by omega, by omega⟩, rfl⟩⟩
def dueW (few : Nat) (rs : List (Nat × Nat × Nat)) : List (Nat × Nat) := (rs.filter fun r => r.1 == few).map fun r => r.2
theorem dueW_mem {few : Nat} {rs : List (Nat × Nat × Nat)} {q : Nat × Nat} : q ∈ dueW few rs ↔ (few, q) ∈ rs := by
  unfold dueW
  rw [List.mem_map]
  constructor
  · rintro ⟨r, hr, rfl⟩
    obtain ⟨h1, h2⟩ := List.mem_filter.mp hr
    rw [← eq_of_beq h2]
    exact h1
  · intro h
    exact ⟨(few, q), List.mem_filter.mpr ⟨h, beq_self_eq_true _⟩, rfl⟩
/-- before, or the same -/
def lexL (p q : Nat × Nat) : Prop := p.1 < q.1 ∨ p.1 = q.1 ∧ p.2 ≤ q.2
def lexS (p q : Nat × Nat) : Prop := p.1 < q.1 ∨ p.1 = q.1 ∧ p.2 < q.2
theorem rowsW_lex {X B : Nat → Nat} {m n k : Nat} : (rowsW X B m n k).Pairwise fun r s => lexS r.2 s.2 := by
  unfold rowsW
  rw [List.pairwise_flatMap]
  refine ⟨fun a _ => ?_, ?_⟩
  · rw [List.pairwise_map]
    exact (List.pairwise_lt_range' (step := 1)).imp fun h => .inr ⟨rfl, h⟩
  · refine (List.pairwise_lt_range).imp ?_
    intro a b h x hx y hy
    obtain ⟨_, _, rfl⟩ := List.mem_map.mp hx
    obtain ⟨_, _, rfl⟩ := List.mem_map.mp hy
    exact .inl h
theorem dueW_lex {X B : Nat → Nat} {m n k few : Nat} : (dueW few (rowsW X B m n k)).Pairwise lexS := by
  unfold dueW
  rw [List.pairwise_map]
  exact (rowsW_lex (X := X) (B := B) (m := m) (n := n) (k := k)).filter _
/-- what is told and what is due is the same -/
structure Cols (X B : Nat → Nat) (m n : Nat) (es : List (Nat × Nat)) : Prop where
  len : es.length = n
  best : ∀ i e, es[i]? = some e → Best X B (i + 1) m e.1 e.2
theorem least_few {X B : Nat → Nat} {m n least few : Nat} {es : List (Nat × Nat)} (c : Cols X B m n es) (hm : 1 ≤ m)
    (l1 : least ∈ es.map (·.1)) (l2 : ∀ y ∈ es.map (·.1), least ≤ y) (f1 : few ∈ (rowsW X B m n n).map (·.1)) (f2 : ∀ y ∈ (rowsW X B m n n).map (·.1), few ≤ y) : least = few := by
  have fle : ∀ a b, a < b → b ≤ n → few ≤ fD X B a b m := fun a b h1 h2 => f2 _ (List.mem_map.mpr ⟨_, rowsW_mem.mpr ⟨a, b, by omega, h1, h2, rfl⟩, rfl⟩)
  refine Nat.le_antisymm ?_ ?_
  · obtain ⟨r, hr, rfl⟩ := List.mem_map.mp f1
    obtain ⟨a, b, h1, h2, h3, rfl⟩ := rowsW_mem.mp hr
    have hb : b - 1 < es.length := by rw [c.len]; omega
    have q := c.best (b - 1) _ (List.getElem?_eq_getElem hb)
    rw [show b - 1 + 1 = b by omega] at q
    exact Nat.le_trans (l2 _ (List.mem_map.mpr ⟨_, List.getElem_mem hb, rfl⟩)) (q.le a (by omega))
  · obtain ⟨e, he, rfl⟩ := List.mem_map.mp l1
    obtain ⟨i, hi, rfl⟩ := List.mem_iff_getElem.mp he
    have q := c.best i _ (List.getElem?_eq_getElem hi)
    have il : i < n := by rw [← c.len]; exact hi
    obtain ⟨a, ha, e1⟩ := q.at_
    by_cases ea : a = i + 1
    · subst ea
      rw [fD_self] at e1
      have h1 := fle i (i + 1) (by omega) (by omega)
      have h2 : fD X B i (i + 1) m ≤ m := by
        unfold fD
        rw [show i + 1 - i = 0 + 1 by omega, show m = (m - 1) + 1 by omega]
        exact edD_one _
      show few ≤ _
      omega
    · show few ≤ _
      rw [← e1]
      exact fle a (i + 1) (by omega) (by omega)
theorem win_mem {X B : Nat → Nat} {m n least : Nat} {es : List (Nat × Nat)} (c : Cols X B m n es) (l2 : ∀ y ∈ es.map (·.1), least ≤ y) (q : Nat × Nat) : q ∈ winP least es 0 ↔ q ∈ dueW least (rowsW X B m n n) := by
  rw [winP_mem, dueW_mem, rowsW_mem]
  constructor
  · rintro ⟨i, e, h1, h2⟩
    rw [Nat.zero_add] at h2
    obtain ⟨h3, l, l1, lb, rfl⟩ := winAt_mem.mp h2
    have il := (List.getElem?_eq_some_iff.mp h1).1
    rw [c.len] at il
    obtain ⟨b1, b2⟩ := ((c.best i e h1).bit l).mp lb
    exact ⟨i + 1 - l, i + 1, by omega, by omega, by omega, by rw [b2, h3]⟩
  · rintro ⟨a, b, h1, h2, h3, e⟩
    obtain ⟨e1, e2⟩ := Prod.mk.inj e
    subst e2
    have hb : b - 1 < es.length := by rw [c.len]; omega
    have q := c.best (b - 1) _ (List.getElem?_eq_getElem hb)
    have q2 := l2 _ (List.mem_map.mpr ⟨_, List.getElem_mem hb, rfl⟩)
    rw [show b - 1 + 1 = b by omega] at q
    have q3 := q.le a (by omega)
    refine ⟨b - 1, _, List.getElem?_eq_getElem hb, ?_⟩
    rw [Nat.zero_add]
    refine winAt_mem.mpr ⟨by omega, b - a, by omega, (q.bit _).mpr ⟨by omega, ?_⟩, ?_⟩
    · rw [show b - (b - a) = a by omega]
      omega
    · rw [show b - 1 + 1 = b by omega, show b - (b - a) = a by omega]
theorem win_same {X B : Nat → Nat} {m n least : Nat} {es ys : List (Nat × Nat)} {rs : List (Nat × Nat)} (c : Cols X B m n es) (l2 : ∀ y ∈ es.map (·.1), least ≤ y) (p : rs.Perm (winP least es 0)) (s : rs.Pairwise lexL) : rs = dueW least (rowsW X B m n n) := by
  have nd1 : (winP least es 0).Nodup := winP_nodup fun i e h => by
    rw [Nat.zero_add]
    exact c.best i e h
  have lx := dueW_lex (X := X) (B := B) (m := m) (n := n) (k := n) (few := least)
  have nd2 : (dueW least (rowsW X B m n n)).Nodup := lx.imp fun h e => by
    subst e
    rcases h with h | h <;> omega
  have p2 := p.trans ((List.perm_ext_iff_of_nodup nd1 nd2).mpr (win_mem c l2))
  refine List.Perm.eq_of_pairwise (le := lexL) (fun a b _ _ h1 h2 => ?_) s (lx.imp fun h => ?_) p2
  · obtain ⟨a1, a2⟩ := a
    obtain ⟨b1, b2⟩ := b
    unfold lexL at h1 h2
    simp only at h1 h2
    have e1 : a1 = b1 := by omega
    have e2 : a2 = b2 := by omega
    rw [e1, e2]
  · rcases h with h | h
    · exact .inl h
    · exact .inr ⟨h.1, Nat.le_of_lt h.2⟩
theorem fD_zero {X B : Nat → Nat} {a b m : Nat} : fD X B a b m = 0 ↔ b - a = m ∧ ∀ t, t < m → X (a + t) = B t := by
  unfold fD
  rw [edD_zero]
  constructor
  · rintro ⟨h1, h2⟩; exact ⟨h1, fun t ht => h2 t (by omega)⟩
  · rintro ⟨h1, h2⟩; exact ⟨h1, fun t ht => h2 t (by omega)⟩
theorem zero_spots {X B : Nat → Nat} {m n : Nat} {ps : List Nat} (hm : 1 ≤ m) (hs : ps.Pairwise (· < ·)) (hp : ∀ k, k ∈ ps ↔ k + m ≤ n ∧ ∀ t, t < m → X (k + t) = B t) : dueW 0 (rowsW X B m n n) = ps.map fun k => (k, k + m) := by
  have lx := dueW_lex (X := X) (B := B) (m := m) (n := n) (k := n) (few := 0)
  have nd2 : (dueW 0 (rowsW X B m n n)).Nodup := lx.imp fun h e => by
    subst e
    rcases h with h | h <;> omega
  have ps1 : (ps.map fun k => (k, k + m)).Pairwise lexL := List.pairwise_map.mpr (hs.imp fun h => .inl h)
  have nd1 : (ps.map fun k => (k, k + m)).Nodup := List.pairwise_map.mpr (hs.imp fun h e => by
    have := congrArg Prod.fst e
    simp only at this
    omega)
  refine List.Perm.eq_of_pairwise (le := lexL) (fun a b _ _ h1 h2 => ?_) (lx.imp fun h => ?_) ps1 ((List.perm_ext_iff_of_nodup nd2 nd1).mpr fun q => ?_)
  · obtain ⟨a1, a2⟩ := a
    obtain ⟨b1, b2⟩ := b
    unfold lexL at h1 h2
    simp only at h1 h2
    have e1 : a1 = b1 := by omega
    have e2 : a2 = b2 := by omega
    rw [e1, e2]
  · rcases h with h | h
    · exact .inl h
    · exact .inr ⟨h.1, Nat.le_of_lt h.2⟩
  · rw [dueW_mem, rowsW_mem, List.mem_map]
    constructor
    · rintro ⟨a, b, h1, h2, h3, e⟩
      obtain ⟨e1, e2⟩ := Prod.mk.inj e
      obtain ⟨z1, z2⟩ := fD_zero.mp e1.symm
      refine ⟨a, (hp a).mpr ⟨by omega, z2⟩, ?_⟩
      rw [e2, show a + m = b by omega]
    · rintro ⟨k, hk, rfl⟩
      obtain ⟨h1, h2⟩ := (hp k).mp hk
      refine ⟨k, k + m, by omega, by omega, h1, ?_⟩
      rw [fD_zero.mpr ⟨by omega, h2⟩]
theorem few_zero {X B : Nat → Nat} {m n few : Nat} {ps : List Nat} (hm : 1 ≤ m) (hs : ps.Pairwise (· < ·)) (hp : ∀ k, k ∈ ps ↔ k + m ≤ n ∧ ∀ t, t < m → X (k + t) = B t)
    (f1 : few ∈ (rowsW X B m n n).map (·.1)) (f2 : ∀ y ∈ (rowsW X B m n n).map (·.1), few ≤ y) : few = 0 ↔ ps ≠ [] := by
  have z := zero_spots hm hs hp
  constructor
  · rintro rfl e
    rw [e] at z
    obtain ⟨r, hr, e2⟩ := List.mem_map.mp f1
    have := dueW_mem.mpr (show (0, r.2) ∈ rowsW X B m n n by rw [← e2]; exact hr)
    rw [z] at this
    cases this
  · intro h
    match ps, h with
    | k :: r, _ =>
      have : (k, k + m) ∈ dueW 0 (rowsW X B m n n) := by rw [z]; exact List.mem_cons_self
      have q := f2 0 (List.mem_map.mpr ⟨_, dueW_mem.mp this, rfl⟩)
      omega
/-! an empty old -/
theorem due_empty {X B : Nat → Nat} {n : Nat} : dueW 1 (rowsW X B 0 n n) = (List.range n).map fun k => (k, k + 1) := by
  have lx := dueW_lex (X := X) (B := B) (m := 0) (n := n) (k := n) (few := 1)
  have nd2 : (dueW 1 (rowsW X B 0 n n)).Nodup := lx.imp fun h e => by
    subst e
    rcases h with h | h <;> omega
  have ps1 : ((List.range n).map fun k => (k, k + 1)).Pairwise lexL := List.pairwise_map.mpr (List.pairwise_lt_range.imp fun h => .inl h)
  have nd1 : ((List.range n).map fun k => (k, k + 1)).Nodup := List.pairwise_map.mpr (List.pairwise_lt_range.imp fun h e => by
    have := congrArg Prod.fst e
    simp only at this
    omega)
  refine List.Perm.eq_of_pairwise (le := lexL) (fun a b _ _ h1 h2 => ?_) (lx.imp fun h => ?_) ps1 ((List.perm_ext_iff_of_nodup nd2 nd1).mpr fun q => ?_)
  · obtain ⟨a1, a2⟩ := a
    obtain ⟨b1, b2⟩ := b
    unfold lexL at h1 h2
    simp only at h1 h2
    have e1 : a1 = b1 := by omega
    have e2 : a2 = b2 := by omega
    rw [e1, e2]
  · rcases h with h | h
    · exact .inl h
    · exact .inr ⟨h.1, Nat.le_of_lt h.2⟩
  · rw [dueW_mem, rowsW_mem, List.mem_map]
    constructor
    · rintro ⟨a, b, h1, h2, h3, e⟩
      obtain ⟨e1, e2⟩ := Prod.mk.inj e
      rw [fD_0] at e1
      refine ⟨a, List.mem_range.mpr h1, ?_⟩
      rw [e2, show a + 1 = b by omega]
    · rintro ⟨k, hk, rfl⟩
      have := List.mem_range.mp hk
      refine ⟨k, k + 1, by omega, by omega, by omega, ?_⟩
      rw [fD_0, show k + 1 - k = 1 by omega]
theorem few_empty {X B : Nat → Nat} {n few : Nat} (hn : 1 ≤ n)
    (f1 : few ∈ (rowsW X B 0 n n).map (·.1)) (f2 : ∀ y ∈ (rowsW X B 0 n n).map (·.1), few ≤ y) : few = 1 := by
  refine Nat.le_antisymm (f2 1 (List.mem_map.mpr ⟨(1, 0, 1), rowsW_mem.mpr ⟨0, 1, by omega, by omega, hn, by rw [fD_0]⟩, rfl⟩)) ?_
  obtain ⟨r, hr, rfl⟩ := List.mem_map.mp f1
  obtain ⟨a, b, h1, h2, h3, rfl⟩ := rowsW_mem.mp hr
  show 1 ≤ fD X B a b 0
  rw [fD_0]
  omega
theorem rowsW_ne {X B : Nat → Nat} {m n : Nat} (hn : 1 ≤ n) : rowsW X B m n n ≠ [] := fun e => by
  have : (fD X B 0 1 m, 0, 1) ∈ rowsW X B m n n := rowsW_mem.mpr ⟨0, 1, by omega, by omega, hn, rfl⟩
  rw [e] at this
  cases this
end Vk
set_option Elab.async false
set_option maxRecDepth 100000
set_option linter.all false
set_option maxHeartbeats 4000000
namespace Vk
open PySem PySem.Spec PyProof.Rows L2
def top (i : Nat) : Stmt := PySem.Challenge.pw_anchoredits_k59_nearest_windows.main.body.getD i (.Pass ⟨0, 0, 0, 0⟩)
structure Txt (mg : Str → Option Value) : Prop where
  len : mg "len" = none
  list : mg "list" = none
  int : mg "int" = none
  abs : mg "abs" = none
  range : mg "range" = none
  min : mg "min" = none
  repr : mg "repr" = none
  sorted : mg "sorted" = none
  enumerate : mg "enumerate" = none
section
variable {P : Program} {w : World} {K : PySem.W.Frag} {mg : Str → Option Value} {base : Heap}
theorem bor_nat (a b : Nat) : Builtin.bitOr (a : Int) (b : Int) = ((a ||| b : Nat) : Int) := by
  rw [Bits.bitOr_pp (Int.natCast_nonneg _) (Int.natCast_nonneg _)]
  rfl
theorem fewL {n : Nat} (h : n ≤ 100000) : n < sizeLine := Nat.lt_of_le_of_lt h (by rw [sizeLine_eq]; decide)
theorem best_lt {X B : Nat → Nat} {i j n b : Nat} (h : Best X B i j n b) : b < 2 ^ (i + 1) := by
  refine Nat.lt_of_not_le fun q => ?_
  obtain ⟨l, hl, e⟩ := Nat.exists_ge_and_testBit_of_ge_two_pow q
  have := ((h.bit l).mp e).1
  omega
/-- pairs of numbers -/
def PrN (H : Hp) : List V → List (Nat × Nat) → Prop := Paired (fun v (p : Nat × Nat) => ∃ t, v = V.ref t ∧ H t = some (.tup [.int (p.1 : Nat), .int (p.2 : Nat)]))
theorem pair_mono {α β : Type} {R S : α → β → Prop} (h : ∀ a b, R a b → S a b) : ∀ {xs : List α} {ys : List β}, Paired R xs ys → Paired S xs ys
  | _, _, .nil => .nil
  | _, _, .cons a t => .cons (h _ _ a) (pair_mono h t)
theorem PrN.keep {H H1 : Hp} {xs : List V} {ps : List (Nat × Nat)} (h : PrN H xs ps) (s : Same H H1) : PrN H1 xs ps := pair_mono (fun v p ⟨t, e, ht⟩ => ⟨t, e, s _ _ ht⟩) h
theorem PrN.keepT {H H1 : Hp} {xs : List V} {ps : List (Nat × Nat)} (h : PrN H xs ps) (s : ∀ u ws, H u = some (.tup ws) → H1 u = some (.tup ws)) : PrN H1 xs ps := pair_mono (fun v p ⟨t, e, ht⟩ => ⟨t, e, s _ _ ht⟩) h
theorem none_up {H H1 : Hp} {a : Addr} (s : Same H H1) (h : H1 a = none) : H a = none := by
  match e : H a with
  | none => rfl
  | some o => exact nomatch (s _ _ e).symm.trans h
theorem upd_list {H : Hp} {l : Addr} {xs : List V} {o : HO} (h : H l = some (.lst xs)) (u : Addr) (ws : List V) (hu : H u = some (.tup ws)) : (upd H l o) u = some (.tup ws) := by
  rw [upd_ne (fun e => by rw [e, h] at hu; cases hu)]
  exact hu
theorem upd_out {H H1 : Hp} {l : Addr} {o : HO} (hl : H l = none) (s : Same H H1) : Same H (upd H1 l o) := fun b o2 h => by
  rw [upd_ne (ne_of_none h hl)]
  exact s _ _ h
def spBestOf (K : PySem.W.Frag) : Sp := fun vs H Q _ => ∃ a xs ps, vs = [.ref a] ∧ H a = some (.lst xs) ∧ PrN H xs ps ∧ ps ≠ [] ∧ ps.length ≤ 100 ∧
  ∀ (m : Nat) t H', m ∈ ps.map (·.1) → (∀ y ∈ ps.map (·.1), m ≤ y) → H t = none → H' t = some (.tup [.int (m : Nat), .int (orAll m ps 0 : Nat)]) → Same H H' → Q (.ref t) H'
abbrev s_best_of : Stmt := top 1
theorem sc_best_of : FnScope ["pairs", "least", "number", "_", "together", "lengths"] ["pairs"] (defScope s_best_of) := ⟨rfl, rfl, rfl, by decide +kernel, rfl, by decide +kernel, by decide +kernel⟩
theorem b_best_of {f : Addr} {fd : FuncData} (F : Fun K "best_of" "best_of" s_best_of f fd) (T : Txt mg) : FnG P w K mg base CX0 1 f fd ["pairs"] (spBestOf K) := by
  refine okG0 F sc_best_of (fun vs H Q E h => ?_) (fun cdv A outer s H vs Q E hg hr h => ?_)
  · obtain ⟨a, xs, ps, rfl, _⟩ := h
    rfl
  · have hu := hu_of hr
    have hu64 := hr.units
    obtain ⟨a, xs, ps, rfl, ha, pr, hne, hl, k⟩ := h
    have hlen := paired_len pr
    refine ⟨_, (pss_cons (ps_set (i := 1) sc_best_of.nd rfl (Or.inl rfl) (pe_callB (cr_min rfl) (by rfl) T.min (by decide +kernel) (pa_cons (pe_lc (own := [("number", 2), ("_", 3)]) (g := (gTup K 2 (gCons (gName 2) (gCons (gName 3) gNil)))) (tt := tYes) rfl sc_best_of.nd (pi_list (pv 0)) (blkOk_by (own := [("number", 2), ("_", 3)]) (N := ["pairs", "least", "number", "_", "together", "lengths"]) (sc := defScope s_best_of) (by decide +kernel)) (fun _ _ _ _ _ => (pg_tupK (K := K) rfl rfl (pgs_cons (pg_name (i := 2) sc_best_of.nd rfl (Or.inl rfl)) (pgs_cons (pg_name (i := 3) sc_best_of.nd rfl (Or.inl rfl)) pgs_nil)))) (fun _ _ _ _ _ => pts_nil) (fun _ _ _ _ _ => (pv 2))) pa_nil)))
      (pss_cons (ps_set (i := 4) sc_best_of.nd rfl (Or.inl rfl) pe_int)
      (pss_cons (ps_for PassesOwn.never rfl (pi_list (pv 0)) (pg_tup rfl (pgs_cons (pg_name (i := 2) sc_best_of.nd rfl (Or.inl rfl)) (pgs_cons (pg_name (i := 5) sc_best_of.nd rfl (Or.inl rfl)) pgs_nil))) (pss_one (ps_if (pt_cmpR op_eq (pv 2) (pv 1) (nomark _)) (pss_one (ps_aug (i := 4) sc_best_of.nd rfl (Or.inl rfl) (pv 5) iop_or)) pss_nil)))
      (pss_one (ps_ret (pe_tup (pa_cons (pv 1) (pa_cons (pv 4) pa_nil)))))))), ?_⟩
    refine ⟨_, rfl, a, rfl, ⟨_, SqL.of ha⟩, fun D hD => ?_⟩
    have sD := same_new (o := .lst []) hD
    refine lc_list (K := K) (a := a) (xs := xs) (fun n H' => H' D = some (.lst ((ps.take n).map fun p => V.int (p.1 : Nat))) ∧ Same H H') ?_ ?_ ?_ ?_
    · exact ⟨upd_same, sD⟩
    · rintro n H' _ ⟨_, sm⟩
      exact SqL.of (sm _ _ ha)
    · rintro n v H' hv ⟨hDz, sm⟩
      obtain ⟨p, hp, t, rfl, ht⟩ := paired_at pr hv
      refine ⟨t, _, rfl, SqT.of (sm _ _ ht), rfl, _, _, rfl, _, _, rfl, rfl, ?_⟩
      refine ⟨rfl, _, rfl, _, hDz, fewL (by rw [List.length_map, List.length_take]; omega), ?_, fun b o h => ?_⟩
      · rw [upd_same, List.take_add_one, hp]
        simp
      · rw [upd_ne (ne_of_none h hD)]
        exact sm _ _ h
    · rintro H2 ⟨hD2, s2⟩
      rw [List.take_of_length_le (by omega)] at hD2
      have e : (ps.map fun p => V.int (p.1 : Nat)) = (ps.map fun p => ((p.1 : Nat) : Int)).map V.int := by rw [List.map_map]; rfl
      rw [e] at hD2
      refine ⟨D, _, rfl, SqL.of hD2, by rw [List.length_map]; exact List.length_pos_iff.mpr hne, fun mi hm hle => ?_⟩
      obtain ⟨p0, hp0, rfl⟩ := List.mem_map.mp hm
      have mle : ∀ y ∈ ps.map (·.1), p0.1 ≤ y := fun y hy => by
        obtain ⟨q, hq, rfl⟩ := List.mem_map.mp hy
        have := hle _ (List.mem_map.mpr ⟨q, hq, rfl⟩)
        omega
      have hm0 : p0.1 ∈ ps.map (·.1) := List.mem_map.mpr ⟨p0, hp0, rfl⟩
      generalize p0.1 = m at hm0 mle hm hle
      refine ⟨_, rfl, a, rfl, ⟨_, SqL.of (s2 _ _ ha)⟩, ?_⟩
      refine for_list (xs := xs) (fun i σ H3 => ∃ (o2 o5 : Option V) (acc : Nat), σ = [some (.ref a), some (.int (m : Nat)), o2, none, some (.int (acc : Nat)), o5] ∧ Same H H3 ∧ orAll m (ps.drop i) acc = orAll m ps 0) ?_ ?_ ?_ ?_
      · exact ⟨_, _, 0, rfl, s2, rfl⟩
      · rintro i σ H3 _ ⟨o2, o5, acc, rfl, s3, _⟩
        exact SqL.of (s3 _ _ ha)
      · rintro i v σ H3 hv ⟨o2, o5, acc, rfl, s3, he⟩
        obtain ⟨p, hp, t, rfl, ht⟩ := paired_at pr hv
        rw [drop_at hp] at he
        refine ⟨t, _, rfl, SqT.of (s3 _ _ ht), rfl, _, _, rfl, _, _, rfl, rfl, ?_⟩
        refine ⟨_, rfl, _, rfl, rfl, _, rfl, ?_⟩
        by_cases hc : p.1 = m
        · rw [show decide (V.int ((p.1 : Nat) : Int) = V.int (m : Nat)) = true from decide_eq_true (by rw [hc])]
          refine iteT ⟨_, rfl, _, rfl, _, _, rfl, rfl, some (.int (p.1 : Nat)), some (.int (p.2 : Nat)), acc ||| p.2, ?_, s3, ?_⟩
          · exact congrArg (fun z : Int => [some (V.ref a), some (.int (m : Nat)), some (.int (p.1 : Nat)), none, some (.int z), some (.int (p.2 : Nat))]) (bor_nat acc p.2)
          · rw [← he]; show _ = orAll m _ (if p.1 = m then _ else _); rw [if_pos hc]
        · rw [show decide (V.int ((p.1 : Nat) : Int) = V.int (m : Nat)) = false from decide_eq_false (fun z => hc (by have := V.int.inj z; omega))]
          refine iteF ⟨_, _, acc, rfl, s3, ?_⟩
          rw [← he]; show _ = orAll m _ (if p.1 = m then _ else _); rw [if_neg hc]
      · rintro σ H3 ⟨o2, o5, acc, rfl, s3, he⟩
        rw [List.drop_of_length_le (by omega)] at he
        refine ⟨_, rfl, _, rfl, by show 2 ≤ sizeLine; decide, fun t ht => k m t _ hm0 mle ?_ ?_ (s3.trans (same_new ht))⟩
        · match e2 : H t with
          | none => rfl
          | some o => exact nomatch (s3 _ _ e2).symm.trans ht
        · rw [← he]
          exact upd_same

/-- letter i of x -/
def ltr (x : Str) (i : Nat) : Nat := x.cps.toList.getD i 0
theorem ltr_at {x : Str} {i c : Nat} (h : x.cps[i]? = some c) : ltr x i = c := by
  unfold ltr
  rw [List.getD_eq_getElem?_getD, Array.getElem?_toList, h]
  rfl
theorem ones_eq (a b : Nat) : decide (OneS a = OneS b) = decide (a = b) := by
  by_cases h : a = b
  · subst h; rw [decide_eq_true rfl, decide_eq_true rfl]
  · rw [decide_eq_false h, decide_eq_false fun e => h ?_]
    have q := V.str.inj e
    have q2 := congrArg (fun z : Str => z.cps.toList) q
    simpa using q2
/-- a column behind i letters -/
structure ColM (X : Nat → Nat) (old : Str) (i : Nat) (es : List (Nat × Nat)) : Prop where
  len : es.length = old.length + 1
  best : ∀ j e, es[j]? = some e → Best X (ltr old) i j e.1 e.2
def spNext (K : PySem.W.Frag) : Sp := fun vs H Q _ => ∃ a xs es X i old, vs = [.ref a, OneS (X i), .str old] ∧ H a = some (.lst xs) ∧ PrN H xs es ∧ ColM X old i es ∧ i ≤ 20 ∧ old.length ≤ 20 ∧
  ∀ b xs' es' H', H b = none → H' b = some (.lst xs') → PrN H' xs' es' → ColM X old (i + 1) es' → Same H H' → Q (.ref b) H'
abbrev s_next_column : Stmt := top 2
theorem sc_next_column : FnScope ["column", "letter", "old", "told", "index", "old_letter", "number", "lengths", "above", "above_lengths", "ahead", "ahead_lengths"] ["column", "letter", "old"] (defScope s_next_column) := ⟨rfl, rfl, rfl, by decide +kernel, rfl, by decide +kernel, by decide +kernel⟩
theorem b_next_column {f : Addr} {fd : FuncData} (F : Fun K "next_column" "next_column" s_next_column f fd) (T : Txt mg) (c_best_of : CalG P w K mg base CX0 1 "best_of" (spBestOf K)) : FnG P w K mg base CX0 2 f fd ["column", "letter", "old"] (spNext K) := by
  refine okG0 F sc_next_column (fun vs H Q E h => ?_) (fun cdv A outer s H vs Q E hg hr h => ?_)
  · obtain ⟨a, xs, es, X, i, old, rfl, _⟩ := h
    rfl
  · have hu := hu_of hr
    have hu64 := hr.units
    obtain ⟨a, xs, es, X, i, old, rfl, ha, pr, cm, hi, ho, k⟩ := h
    have hlen := paired_len pr
    have hel := cm.len
    have hos : old.length = old.cps.size := rfl
    have hr1 : Room 1 _ := hr
    refine ⟨_, (pss_cons (ps_set (i := 3) sc_next_column.nd rfl (Or.inl rfl) (pe_lst (pa_cons (pe_tup (pa_cons pe_int (pa_cons pe_int pa_nil))) pa_nil)))
      (pss_cons (ps_for PassesOwn.never rfl (pi_enumS (by rfl) T.enumerate (pa_cons (pv 2) pa_nil)) (pg_tup rfl (pgs_cons (pg_name (i := 4) sc_next_column.nd rfl (Or.inl rfl)) (pgs_cons (pg_name (i := 5) sc_next_column.nd rfl (Or.inl rfl)) pgs_nil))) (pss_cons (ps_asg (pe_ix ix_list (pv 0) (pv 4) (fun _ _ => rfl)) (pg_tup rfl (pgs_cons (pg_name (i := 6) sc_next_column.nd rfl (Or.inl rfl)) (pgs_cons (pg_name (i := 7) sc_next_column.nd rfl (Or.inl rfl)) pgs_nil))))
      (pss_cons (ps_asg (pe_ix ix_list (pv 0) (pe_op op_add (pv 4) pe_int) (fun _ _ => rfl)) (pg_tup rfl (pgs_cons (pg_name (i := 8) sc_next_column.nd rfl (Or.inl rfl)) (pgs_cons (pg_name (i := 9) sc_next_column.nd rfl (Or.inl rfl)) pgs_nil))))
      (pss_cons (ps_asg (pe_ix ix_list (pv 3) (pv 4) (fun _ _ => rfl)) (pg_tup rfl (pgs_cons (pg_name (i := 10) sc_next_column.nd rfl (Or.inl rfl)) (pgs_cons (pg_name (i := 11) sc_next_column.nd rfl (Or.inl rfl)) pgs_nil))))
      (pss_one (ps_expr (pe_bm PySem.F.plainAttrs_list PySem.F.slot_list_append PySem.F.type_list_append mt_append (pv 3) (pa_cons (pe_cG c_best_of hg hr (by decide) pass0 (pa_cons (pe_lst (pa_cons (pe_tup (pa_cons (pe_op op_add (pv 6) (pe_callTy call_int1 (by rfl) T.int (by decide +kernel) (pa_cons (pe_cmpR op_ne (pv 1) (pv 5) (nomark _)) pa_nil))) (pa_cons (pe_op op_shl (pv 7) pe_int) pa_nil))) (pa_cons (pe_tup (pa_cons (pe_op op_add (pv 8) pe_int) (pa_cons (pe_op op_shl (pv 9) pe_int) pa_nil))) (pa_cons (pe_tup (pa_cons (pe_op op_add (pv 10) pe_int) (pa_cons (pv 11) pa_nil))) pa_nil)))) pa_nil)) pa_nil))))))))
      (pss_one (ps_ret (pv 3))))), ?_⟩
    refine ⟨by show 2 ≤ sizeLine; decide, fun t0 ht0 => ⟨by show 1 ≤ sizeLine; decide, fun l0 hl0 => ?_⟩⟩
    have st0 := same_new (o := .tup [.int 0, .int 1]) ht0
    have sl0 := same_new (o := .lst [.ref t0]) hl0
    have hlH := none_up st0 hl0
    refine ⟨_, rfl, old, rfl, ?_⟩
    refine for_enumS (fun j σ H3 => ∃ (o4 o5 o6 o7 o8 o9 o10 o11 : Option V) (got : List V) (es' : List (Nat × Nat)), σ = [some (.ref a), some (OneS (X i)), some (.str old), some (.ref l0), o4, o5, o6, o7, o8, o9, o10, o11] ∧ Same H H3 ∧ H3 l0 = some (.lst got) ∧ PrN H3 got es' ∧ es'.length = j + 1 ∧ ∀ j' e, es'[j']? = some e → Best X (ltr old) (i + 1) j' e.1 e.2) ?_ ?_ ?_
    · refine ⟨_, _, _, _, _, _, _, _, [.ref t0], [(0, 1)], rfl, st0.trans sl0, upd_same, .cons ⟨t0, rfl, sl0 _ _ upd_same⟩ .nil, rfl, fun j' e he => ?_⟩
      cases j' with
      | zero => cases he; exact best_s0
      | succ j' => cases he
    · rintro j c σ H3 T hc hT ⟨o4, o5, o6, o7, o8, o9, o10, o11, got, es', rfl, s3, hg3, pr3, el3, b3⟩
      have gl3 := paired_len pr3
      have hj : j < old.cps.size := (Array.getElem?_eq_some_iff.mp hc).1
      have sT := same_new (o := .tup [.int (j : Nat), .str ⟨#[c]⟩]) hT
      have s4 := s3.trans sT
      have pr4 := pr3.keep sT
      have hg4 := sT _ _ hg3
      refine ⟨T, _, rfl, SqT.of upd_same, rfl, _, _, rfl, _, _, rfl, rfl, ?_⟩
      generalize upd H3 T (.tup [.int (j : Nat), .str ⟨#[c]⟩]) = H4 at s4 pr4 hg4
      have at1 : ∀ n, n < es.length → ∃ e t, es[n]? = some e ∧ atI xs (n : Nat) = some (.ref t) ∧ ∀ H', Same H H' → H' t = some (.tup [.int (e.1 : Nat), .int (e.2 : Nat)]) := fun n hn => by
        obtain ⟨v, hv⟩ : ∃ v, xs[n]? = some v := ⟨xs[n]'(by omega), List.getElem?_eq_getElem (by omega)⟩
        obtain ⟨e, he, t, rfl, ht⟩ := paired_at pr hv
        exact ⟨e, t, he, atI_nat hv, fun H' s => s _ _ ht⟩
      obtain ⟨e1, t1, he1, ha1, ht1⟩ := at1 j (by omega)
      obtain ⟨e2, t2, he2, ha2, ht2⟩ := at1 (j + 1) (by omega)
      obtain ⟨v3, hv3⟩ : ∃ v, got[j]? = some v := ⟨got[j]'(by omega), List.getElem?_eq_getElem (by omega)⟩
      obtain ⟨e3, he3, t3, rfl, ht3⟩ := paired_at pr4 hv3
      have q1 := cm.best _ _ he1
      have q2 := cm.best _ _ he2
      have q3 := b3 _ _ he3
      have w1 := best_lt q1
      have w2 := best_lt q2
      have p21 : (2 : Nat) ^ (i + 1) ≤ 2 ^ 21 := Nat.pow_le_pow_right (by decide) (by omega)
      refine ⟨_, rfl, _, rfl, a, _, _, _, rfl, rfl, SqL.of (s4 _ _ ha), ha1, t1, _, rfl, SqT.of (ht1 _ s4), rfl, _, _, rfl, _, _, rfl, rfl, ?_⟩
      refine ⟨_, rfl, _, rfl, _, _, rfl, rfl, a, _, _, _, rfl, rfl, SqL.of (s4 _ _ ha), (show atI xs ((j : Int) + 1) = _ from ha2), t2, _, rfl, SqT.of (ht2 _ s4), rfl, _, _, rfl, _, _, rfl, rfl, ?_⟩
      refine ⟨_, rfl, _, rfl, l0, _, _, _, rfl, rfl, SqL.of hg4, atI_nat hv3, t3, _, rfl, SqT.of ht3, rfl, _, _, rfl, _, _, rfl, rfl, ?_⟩
      refine ⟨_, rfl, .inl ⟨rfl, _, SqL.of hg4⟩, ?_⟩
      refine ⟨_, rfl, _, rfl, _, rfl, rfl, .inr ⟨_, rfl, ?_⟩⟩
      have cj : ltr old j = c := ltr_at hc
      have en : (e1.1 : Int) + (if (!decide (OneS (X i) = V.str ⟨#[c]⟩)) = true then 1 else 0) = ((e1.1 + neq (X i) c : Nat) : Int) := by
        rw [show V.str ⟨#[c]⟩ = OneS c from rfl, ones_eq]
        unfold neq
        by_cases h : X i = c
        · rw [decide_eq_true h, if_pos h]; simp
        · rw [decide_eq_false h, if_neg h]; simp
      have lt1 : ((e1.2 : Nat) : Int).natAbs < 2 ^ 64 := by omega
      have lt2 : ((e2.2 : Nat) : Int).natAbs < 2 ^ 64 := by omega
      refine ⟨_, _, rfl, rfl, _, rfl, _, _, rfl, rfl, ⟨by decide, by decide, lt1⟩, by show 2 ≤ sizeLine; decide, fun u1 hu1 => ?_⟩
      generalize hH5 : upd H4 u1 (.tup [.int ((e1.1 : Int) + (if (!decide (OneS (X i) = V.str ⟨#[c]⟩)) = true then 1 else 0)), .int ((e1.2 : Int) * 2 ^ (1 : Int).toNat)]) = H5
      have v1 : H5 u1 = some (.tup [.int ((e1.1 + neq (X i) c : Nat) : Int), .int ((e1.2 * 2 : Nat) : Int)]) := by rw [← hH5, upd_same, en]; rfl
      have s5 : Same H4 H5 := by rw [← hH5]; exact same_new hu1
      refine ⟨_, rfl, _, _, rfl, rfl, _, rfl, _, _, rfl, rfl, ⟨by decide, by decide, lt2⟩, by show 2 ≤ sizeLine; decide, fun u2 hu2 => ?_⟩
      generalize hH6 : upd H5 u2 (.tup [.int ((e2.1 : Int) + 1), .int ((e2.2 : Int) * 2 ^ (1 : Int).toNat)]) = H6
      have v2 : H6 u2 = some (.tup [.int ((e2.1 + 1 : Nat) : Int), .int ((e2.2 * 2 : Nat) : Int)]) := by rw [← hH6, upd_same]; rfl
      have s6 : Same H5 H6 := by rw [← hH6]; exact same_new hu2
      refine ⟨_, rfl, _, _, rfl, rfl, _, rfl, by show 2 ≤ sizeLine; decide, fun u3 hu3 => ?_⟩
      generalize hH7 : upd H6 u3 (.tup [.int ((e3.1 : Int) + 1), .int (e3.2 : Int)]) = H7
      have v3 : H7 u3 = some (.tup [.int ((e3.1 + 1 : Nat) : Int), .int (e3.2 : Nat)]) := by rw [← hH7, upd_same]; rfl
      have s7 : Same H6 H7 := by rw [← hH7]; exact same_new hu3
      refine ⟨by show 3 ≤ sizeLine; decide, fun l1 hl1 => ?_⟩
      have s8 := same_new (o := .lst [.ref u1, .ref u2, .ref u3]) hl1
      refine ⟨l1, _, three (neq (X i) c) e1.1 e1.2 e2.1 e2.2 e3.1 e3.2, rfl, upd_same, .cons ⟨u1, rfl, s8 _ _ (s7 _ _ (s6 _ _ v1))⟩ (.cons ⟨u2, rfl, s8 _ _ (s7 _ _ v2)⟩ (.cons ⟨u3, rfl, s8 _ _ v3⟩ .nil)), (fun z => by cases z), by show 3 ≤ 100; decide, fun mm t H9 hm hle ht hT9 sB => ?_⟩
      have s49 : Same H4 H9 := (((s5.trans s6).trans s7).trans s8).trans sB
      have hmm : mm = min (min (e1.1 + neq (X i) (ltr old j)) (e2.1 + 1)) (e3.1 + 1) := by
        rw [cj]
        have h1 := hle (e1.1 + neq (X i) c) (by simp [three])
        have h2 := hle (e2.1 + 1) (by simp [three])
        have h3 := hle (e3.1 + 1) (by simp [three])
        have h4 : mm = e1.1 + neq (X i) c ∨ mm = e2.1 + 1 ∨ mm = e3.1 + 1 := by simpa [three] using hm
        omega
      have hg9 := s49 _ _ hg4
      have nt : t ≠ l0 := fun e => by rw [e, s8 _ _ (s7 _ _ (s6 _ _ (s5 _ _ hg4)))] at ht; cases ht
      refine ⟨l0, _, _, rfl, rfl, hg9, fewL (by omega), _, _, _, _, _, _, _, _, got ++ [.ref t], es' ++ [(mm, orAll mm (three (neq (X i) c) e1.1 e1.2 e2.1 e2.2 e3.1 e3.2) 0)], rfl, ?_, upd_same, ?_, ?_, ?_⟩
      · exact upd_out hlH (s4.trans s49)
      · exact Paired.snoc ((pr4.keep s49).keepT (upd_list hg9)) ⟨t, rfl, upd_list hg9 _ _ hT9⟩
      · rw [List.length_append, el3]; rfl
      · intro j' e he
        by_cases hjj : j' < es'.length
        · rw [List.getElem?_append_left hjj] at he
          exact b3 _ _ he
        · have ej : j' = j + 1 := by
            have := (List.getElem?_eq_some_iff.mp he).1
            rw [List.length_append, List.length_singleton] at this
            omega
          subst ej
          rw [List.getElem?_append_right (by omega), el3, Nat.sub_self] at he
          cases he
          have := best_step q1 q2 q3
          rw [← hmm, cj] at this
          exact this
    · rintro σ H3 ⟨o4, o5, o6, o7, o8, o9, o10, o11, got, es', rfl, s3, hg3, pr3, el3, b3⟩
      exact ⟨_, rfl, k l0 got es' H3 hlH hg3 pr3 ⟨by rw [el3]; omega, b3⟩ s3⟩

end
end Vk
set_option Elab.async false
set_option maxRecDepth 100000
set_option linter.all false
set_option maxHeartbeats 4000000
namespace Vk
open PySem PySem.Spec PyProof.Rows L2
section
variable {P : Program} {w : World} {K : PySem.W.Frag} {mg : Str → Option Value} {base : Heap}
theorem paired_back {α β : Type} {R : α → β → Prop} : ∀ {xs : List α} {ys : List β} {y : β}, Paired R xs ys → y ∈ ys → ∃ x, x ∈ xs ∧ R x y
  | _, _, _, .cons (a := x) a t, h => by
    rcases List.mem_cons.mp h with rfl | h
    · exact ⟨_, List.mem_cons_self, a⟩
    · obtain ⟨z, m, e⟩ := paired_back t h
      exact ⟨z, List.mem_cons_of_mem _ m, e⟩
theorem paired_mem {α β : Type} {R : α → β → Prop} : ∀ {xs : List α} {ys : List β} {x : α}, Paired R xs ys → x ∈ xs → ∃ y, y ∈ ys ∧ R x y
  | _, _, _, .cons a t, h => by
    rcases List.mem_cons.mp h with rfl | h
    · exact ⟨_, List.mem_cons_self, a⟩
    · obtain ⟨z, m, e⟩ := paired_mem t h
      exact ⟨z, List.mem_cons_of_mem _ m, e⟩
theorem paired_pw {α β : Type} {R : α → β → Prop} {S : α → α → Prop} {U : β → β → Prop} (h : ∀ a b c d, R a b → R c d → S a c → U b d) : ∀ {xs : List α} {ys : List β}, Paired R xs ys → xs.Pairwise S → ys.Pairwise U
  | _, _, .nil, _ => .nil
  | _, _, .cons (a := x) (b := y) a t, p => by
    have h2 := List.pairwise_cons.mp p
    refine List.pairwise_cons.mpr ⟨fun d hd => ?_, paired_pw h t h2.2⟩
    obtain ⟨c, m, e⟩ := paired_back t hd
    exact h _ _ _ _ a e (h2.1 c m)
def keyN (H : Hp) : V → Int × Int
  | .ref t => match H t with
    | some (.tup [.int i, .int j]) => (i, j)
    | _ => (0, 0)
  | _ => (0, 0)
theorem keyN_at {H : Hp} {v : V} {p : Nat × Nat} (h : ∃ t, v = V.ref t ∧ H t = some (.tup [.int (p.1 : Nat), .int (p.2 : Nat)])) : keyN H v = ((p.1 : Int), (p.2 : Int)) := by
  obtain ⟨t, rfl, ht⟩ := h
  unfold keyN
  simp only [ht]
theorem srtd_pairs {H : Hp} {ys : List V} {L : List (Nat × Nat)} (r : PrN H ys L) (s : SrtO.Srtd (ltP (keyN H)) ys) : L.Pairwise lexL := by
  refine paired_pw (fun a b c d h1 h2 h3 => ?_) r s
  have z := SrtO.lexB_no.mp h3
  rw [keyN_at h1, keyN_at h2] at z
  simp only at z
  unfold lexL
  omega
/-- what is told of a text and an old -/
def NearM (x old : Str) (num : Nat) (ws : List (Nat × Nat)) : Prop := (x.length = 0 ∧ num = old.length ∧ ws = []) ∨
  (1 ≤ x.length ∧ ∀ few, few ∈ (rowsW (ltr x) (ltr old) old.length x.length x.length).map (·.1) → (∀ y ∈ (rowsW (ltr x) (ltr old) old.length x.length x.length).map (·.1), few ≤ y) → num = few ∧ ws = dueW few (rowsW (ltr x) (ltr old) old.length x.length x.length))
def spNear (K : PySem.W.Frag) : Sp := fun vs H Q _ => ∃ x old, vs = [.str x, .str old] ∧ x.length ≤ 20 ∧ old.length ≤ 20 ∧
  ∀ (t l : Addr) (xs : List V) (num : Nat) (ws : List (Nat × Nat)) (H' : Hp), H t = none → H l = none → H' t = some (.tup [.int (num : Nat), .ref l]) → H' l = some (.lst xs) → PrN H' xs ws → NearM x old num ws → num ≤ 100 → (∀ p ∈ ws, p.1 ≤ 100 ∧ p.2 ≤ 100) → ws.length ≤ 1000 → Same H H' → Q (.ref t) H'
theorem atI_end {xs : List V} {n : Nat} {v : V} (h : xs[n]? = some v) (hl : xs.length = n + 1) : atI xs (-1) = some v := by
  have e : xs = xs.take n ++ [v] := by
    have := List.take_append_drop n xs
    rw [drop_at h, List.drop_of_length_le (by omega)] at this
    exact this.symm
  rw [e]
  exact atI_last _ _
theorem intBits_nat (b : Nat) : (Builtin.Int.intBits (b : Int)) = bitlen b := by
  unfold Builtin.Int.intBits bitlen
  by_cases h : b = 0
  · subst h; rfl
  · rw [if_neg h, if_neg (by simpa using h)]
    rfl
theorem bitlen_le {b k : Nat} (h : b < 2 ^ k) : bitlen b ≤ k := by
  unfold bitlen
  by_cases h0 : b = 0
  · rw [if_pos h0]; exact Nat.zero_le _
  · rw [if_neg h0]
    exact (Nat.log2_lt h0).mpr h
theorem bit_truth (b k : Nat) : (Builtin.bitAnd ((b : Int) / 2 ^ k) 1 != 0) = b.testBit k := by
  rw [bitAnd_m1, Nat.testBit_eq_decide_div_mod_eq]
  have e : ((b : Int) / 2 ^ k) % 2 = ((b / 2 ^ k % 2 : Nat) : Int) := by simp
  rw [e]
  have : b / 2 ^ k % 2 < 2 := Nat.mod_lt _ (by decide)
  by_cases h : b / 2 ^ k % 2 = 1
  · rw [h]; rfl
  · rw [show b / 2 ^ k % 2 = 0 by omega]; rfl
theorem winP_len {m : Nat} : ∀ {es : List (Nat × Nat)} {p : Nat}, (∀ e ∈ es, bitlen e.2 ≤ 22) → (winP m es p).length ≤ 22 * es.length
  | [], p, _ => Nat.zero_le _
  | e :: r, p, h => by
    have h1 := winP_len (m := m) (es := r) (p := p + 1) fun f hf => h f (List.mem_cons_of_mem _ hf)
    have h2 := h e List.mem_cons_self
    have h3 : (winAt m p e).length ≤ 22 := by
      unfold winAt
      split
      · rw [List.length_map]
        exact Nat.le_trans (List.length_filter_le _ _) (by rw [List.length_range']; omega)
      · exact Nat.zero_le _
    rw [winP, List.length_append, List.length_cons]
    omega
theorem str_empty {x : Str} : decide (V.str x = V.str "") = decide (x.length = 0) := by
  by_cases h : x.length = 0
  · rw [decide_eq_true h]
    refine decide_eq_true ?_
    have : x = "" := by
      obtain ⟨c⟩ := x
      have : c = #[] := Array.eq_empty_of_size_eq_zero h
      rw [this]
      rfl
    rw [this]
  · rw [decide_eq_false h]
    refine decide_eq_false fun e => h ?_
    rw [V.str.inj e]
    rfl
abbrev s_nearest : Stmt := top 3
theorem sc_nearest : FnScope ["text", "old", "index", "column", "number", "ends", "letter", "least", "_", "windows", "place", "lengths", "found", "length"] ["text", "old"] (defScope s_nearest) := ⟨rfl, rfl, rfl, by decide +kernel, rfl, by decide +kernel, by decide +kernel⟩
theorem b_nearest {f : Addr} {fd : FuncData} (F : Fun K "nearest" "nearest" s_nearest f fd) (T : Txt mg) (c_next_column : CalG P w K mg base CX0 2 "next_column" (spNext K)) : FnG P w K mg base CX0 3 f fd ["text", "old"] (spNear K) := by
  refine okG0 F sc_nearest (fun vs H Q E h => ?_) (fun cdv A outer s H vs Q E hg hr h => ?_)
  · obtain ⟨x, old, rfl, _⟩ := h
    rfl
  · have hu := hu_of hr
    have hu64 := hr.units
    obtain ⟨x, old, rfl, hx, ho, k⟩ := h
    have hr2 : Room 2 _ := hr
    have xl : x.length ≤ sizeLine := Nat.le_trans hx (by decide)
    have ol : old.length ≤ sizeLine := Nat.le_trans ho (by decide)
    refine ⟨_, (pss_cons (ps_if (pt_cmpR op_eq (pv 0) pe_str (nomark _)) (pss_one (ps_ret (pe_tup (pa_cons (pe_callB call_len (by rfl) T.len (by decide +kernel) (pa_cons (pv 1) pa_nil)) (pa_cons (pe_lst pa_nil) pa_nil))))) pss_nil)
      (pss_cons (ps_if (pt_cmpR op_eq (pv 1) pe_str (nomark _)) (pss_one (ps_ret (pe_tup (pa_cons pe_int (pa_cons (pe_lc (own := [("index", 2)]) (g := gName 2) (tt := tYes) rfl sc_nearest.nd (pi_range1 rfl T.range (pa_cons (pe_callB call_len (by rfl) T.len (by decide +kernel) (pa_cons (pv 0) pa_nil)) pa_nil)) (blkOk_by (own := [("index", 2)]) (N := ["text", "old", "index", "column", "number", "ends", "letter", "least", "_", "windows", "place", "lengths", "found", "length"]) (sc := defScope s_nearest) (by decide +kernel)) (fun _ _ _ _ _ => (pg_name (i := 2) sc_nearest.nd rfl (Or.inl rfl))) (fun _ _ _ _ _ => pts_nil) (fun _ _ _ _ _ => (pe_tup (pa_cons (pv 2) (pa_cons (pe_op op_add (pv 2) pe_int) pa_nil))))) pa_nil))))) pss_nil)
      (pss_cons (ps_setLc (i := 3) (own := [("number", 4)]) (g := gName 4) (tt := tYes) rfl sc_nearest.nd rfl rfl (sw_true rfl rfl rfl (by decide +kernel)) (pi_range1 rfl T.range (pa_cons (pe_op op_add (pe_callB call_len (by rfl) T.len (by decide +kernel) (pa_cons (pv 1) pa_nil)) pe_int) pa_nil)) (blkOk_by (own := [("number", 4)]) (N := ["text", "old", "index", "column", "number", "ends", "letter", "least", "_", "windows", "place", "lengths", "found", "length"]) (sc := defScope s_nearest) (by decide +kernel)) (fun _ _ _ _ _ => (pg_name (i := 4) sc_nearest.nd rfl (Or.inl rfl))) (fun _ _ _ _ _ => pts_nil) (fun _ _ _ _ _ => (pe_tup (pa_cons (pv 4) (pa_cons pe_int pa_nil)))))
      (pss_cons (ps_set (i := 5) sc_nearest.nd rfl (Or.inl rfl) (pe_lst pa_nil))
      (pss_cons (ps_for PassesOwn.never rfl (pi_str (pv 0)) (pg_name (i := 6) sc_nearest.nd rfl (Or.inl rfl)) (pss_cons (ps_set (i := 3) sc_nearest.nd rfl (Or.inl rfl) (pe_cG c_next_column hg hr (by decide) pass0 (pa_cons (pv 3) (pa_cons (pv 6) (pa_cons (pv 1) pa_nil)))))
      (pss_one (ps_expr (pe_bm PySem.F.plainAttrs_list PySem.F.slot_list_append PySem.F.type_list_append mt_append (pv 5) (pa_cons (pe_ix ix_list (pv 3) (pe_un un_neg pe_int) (fun _ _ => rfl)) pa_nil))))))
      (pss_cons (ps_set (i := 7) sc_nearest.nd rfl (Or.inl rfl) (pe_callB (cr_min rfl) (by rfl) T.min (by decide +kernel) (pa_cons (pe_lc (own := [("number", 4), ("_", 8)]) (g := (gTup K 2 (gCons (gName 4) (gCons (gName 8) gNil)))) (tt := tYes) rfl sc_nearest.nd (pi_list (pv 5)) (blkOk_by (own := [("number", 4), ("_", 8)]) (N := ["text", "old", "index", "column", "number", "ends", "letter", "least", "_", "windows", "place", "lengths", "found", "length"]) (sc := defScope s_nearest) (by decide +kernel)) (fun _ _ _ _ _ => (pg_tupK (K := K) rfl rfl (pgs_cons (pg_name (i := 4) sc_nearest.nd rfl (Or.inl rfl)) (pgs_cons (pg_name (i := 8) sc_nearest.nd rfl (Or.inl rfl)) pgs_nil)))) (fun _ _ _ _ _ => pts_nil) (fun _ _ _ _ _ => (pv 4))) pa_nil)))
      (pss_cons (ps_set (i := 9) sc_nearest.nd rfl (Or.inl rfl) (pe_lst pa_nil))
      (pss_cons (ps_for PassesOwn.never rfl (pi_enum (by rfl) T.enumerate (pa_cons (pv 5) pa_nil)) (pg_tup rfl (pgs_cons (pg_name (i := 10) sc_nearest.nd rfl (Or.inr rfl)) (pgs_cons (pg_tup rfl (pgs_cons (pg_name (i := 4) sc_nearest.nd rfl (Or.inl rfl)) (pgs_cons (pg_name (i := 11) sc_nearest.nd rfl (Or.inr rfl)) pgs_nil))) pgs_nil))) (pss_one (ps_if (pt_cmpR op_eq (pv 4) (pv 7) (nomark _)) (pss_cons (ps_setLc (i := 12) (own := [("length", 13)]) (g := gName 13) rfl sc_nearest.nd rfl rfl (sw_true rfl rfl rfl (by decide +kernel)) (pi_range2 rfl T.range (pa_cons pe_int (pa_cons (pe_bits (pv 11)) pa_nil))) (blkOk_by (own := [("length", 13)]) (N := ["text", "old", "index", "column", "number", "ends", "letter", "least", "_", "windows", "place", "lengths", "found", "length"]) (sc := defScope s_nearest) (by decide +kernel)) (fun _ _ _ _ _ => (pg_name (i := 13) sc_nearest.nd rfl (Or.inl rfl))) (fun _ _ _ _ _ => (pts_one (pt_truthK (K := K) rfl (pe_op op_and (pe_op op_shr (pv 11) (pv 13)) pe_int)))) (fun _ _ _ _ _ => (pv 13)))
      (pss_one (ps_expr (pe_bm PySem.F.plainAttrs_list PySem.F.slot_list_extend PySem.F.type_list_extend mt_extend (pv 9) (pa_cons (pe_lc (own := [("length", 13)]) (g := gName 13) (tt := tYes) rfl sc_nearest.nd (pi_list (pv 12)) (blkOk_by (own := [("length", 13)]) (N := ["text", "old", "index", "column", "number", "ends", "letter", "least", "_", "windows", "place", "lengths", "found", "length"]) (sc := defScope s_nearest) (by decide +kernel)) (fun _ _ _ _ _ => (pg_name (i := 13) sc_nearest.nd rfl (Or.inl rfl))) (fun _ _ _ _ _ => pts_nil) (fun _ _ _ _ _ => (pe_tup (pa_cons (pe_op op_sub (pe_op op_add (pv 10) pe_int) (pv 13)) (pa_cons (pe_op op_add (pv 10) pe_int) pa_nil))))) pa_nil))))) pss_nil)))
      (pss_one (ps_ret (pe_tup (pa_cons (pv 7) (pa_cons (pe_callB cr_sortedPO (by rfl) T.sorted (by decide +kernel) (pa_cons (pv 9) pa_nil)) pa_nil))))))))))))), ?_⟩
    refine ⟨_, rfl, rfl, _, rfl, ?_⟩
    by_cases hx0 : x.length = 0
    · rw [str_empty, decide_eq_true hx0]
      refine iteT ?_
      refine ⟨_, rfl, _, _, rfl, ⟨ol, rfl⟩, (by show 0 ≤ sizeLine; decide), fun l hl => ⟨by show 2 ≤ sizeLine; decide, fun t ht => ?_⟩⟩
      have sl := same_new (o := .lst []) hl
      exact k t l [] old.length [] _ (none_up sl ht) hl upd_same ((upd_ne (ne_of_none upd_same ht)).trans upd_same) .nil (.inl ⟨hx0, rfl, rfl⟩) (by omega) (fun p hp => absurd hp List.not_mem_nil) (Nat.zero_le _) (sl.trans (same_new ht))
    rw [str_empty, decide_eq_false hx0]
    refine iteF ?_
    refine ⟨_, rfl, rfl, _, rfl, ?_⟩
    by_cases ho0 : old.length = 0
    · rw [str_empty, decide_eq_true ho0]
      refine iteT ?_
      refine ⟨_, rfl, _, _, rfl, ⟨xl, rfl⟩, _, rfl, by omega, by omega, fun D hD => ?_⟩
      have sD := same_new (o := .lst []) hD
      refine lc_range (lo := 0) (n := ((x.length : Nat) : Int).toNat) (fun i H' => ∃ xs, H' D = some (.lst xs) ∧ PrN H' xs ((List.range i).map fun q => (q, q + 1)) ∧ Same H H') ?_ ?_ ?_
      · exact ⟨[], upd_same, .nil, sD⟩
      · rintro i H2 hi ⟨xs, hD2, pr2, s2⟩
        have gl := paired_len pr2
        rw [List.length_map, List.length_range] at gl
        refine ⟨rfl, _, rfl, _, rfl, _, _, rfl, rfl, by show 2 ≤ sizeLine; decide, fun u hu => ?_⟩
        have su := same_new (o := .tup [.int ((0 : Int) + (i : Nat)), .int ((0 : Int) + (i : Nat) + 1)]) hu
        have hDu := su _ _ hD2
        refine ⟨_, hDu, fewL (by omega), xs ++ [.ref u], upd_same, ?_, upd_out hD (s2.trans su)⟩
        rw [List.range_succ, List.map_append]
        refine Paired.snoc ((pr2.keep su).keepT (upd_list hDu)) ⟨u, rfl, upd_list hDu _ _ ?_⟩
        rw [upd_same, Int.zero_add]
        rfl
      · rintro H2 ⟨xs, hD2, pr2, s2⟩
        refine ⟨by show 2 ≤ sizeLine; decide, fun t ht => ?_⟩
        have st := same_new (o := .tup [.int 1, .ref D]) ht
        rw [Int.toNat_natCast] at pr2
        refine k t D xs 1 _ _ (none_up s2 ht) hD upd_same (st _ _ hD2) (pr2.keep st) (.inr ⟨by omega, fun few f1 f2 => ?_⟩) (by decide) (fun p hp => ?_) (by rw [List.length_map, List.length_range]; omega) (s2.trans st)
        · rw [ho0] at f1 f2 ⊢
          have := few_empty (by omega) f1 f2
          subst this
          exact ⟨rfl, due_empty.symm⟩
        · obtain ⟨q, hq, rfl⟩ := List.mem_map.mp hp
          have := List.mem_range.mp hq
          exact ⟨by show q ≤ 100; omega, by show q + 1 ≤ 100; omega⟩
    rw [str_empty, decide_eq_false ho0]
    refine iteF ?_
    -- the first column
    refine ⟨_, rfl, _, _, rfl, ⟨ol, rfl⟩, _, _, rfl, rfl, _, rfl, by omega, by omega, fun D hD => ?_⟩
    have sD := same_new (o := .lst []) hD
    refine lc_range (lo := 0) (n := (((old.length : Nat) : Int) + 1).toNat) (fun i H' => ∃ xs, H' D = some (.lst xs) ∧ PrN H' xs ((List.range i).map fun q => (q, 1)) ∧ Same H H') ?_ ?_ ?_
    · exact ⟨[], upd_same, .nil, sD⟩
    · rintro i H2 hi ⟨xs, hD2, pr2, s2⟩
      have gl := paired_len pr2
      rw [List.length_map, List.length_range] at gl
      refine ⟨rfl, _, rfl, by show 2 ≤ sizeLine; decide, fun u hu => ?_⟩
      have su := same_new (o := .tup [.int ((0 : Int) + (i : Nat)), .int 1]) hu
      have hDu := su _ _ hD2
      refine ⟨_, hDu, fewL (by omega), xs ++ [.ref u], upd_same, ?_, upd_out hD (s2.trans su)⟩
      rw [List.range_succ, List.map_append]
      refine Paired.snoc ((pr2.keep su).keepT (upd_list hDu)) ⟨u, rfl, upd_list hDu _ _ ?_⟩
      rw [upd_same, Int.zero_add]
      rfl
    rintro H2 ⟨xs, hD2, pr2, s2⟩
    have en1 : (((old.length : Nat) : Int) + 1).toNat = old.length + 1 := by omega
    rw [en1] at pr2
    have cm0 : ColM (ltr x) old 0 ((List.range (old.length + 1)).map fun q => (q, 1)) := by
      refine ⟨by rw [List.length_map, List.length_range], fun j e he => ?_⟩
      rw [List.getElem?_map] at he
      obtain ⟨q, hq, rfl⟩ := Option.map_eq_some_iff.mp he
      obtain ⟨hq1, rfl⟩ := List.getElem?_eq_some_iff.mp hq
      rw [List.getElem_range]
      exact best_0
    refine ⟨by show 0 ≤ sizeLine; decide, fun le hle => ?_⟩
    have sle := same_new (o := .lst []) hle
    have hleH := none_up s2 hle
    refine ⟨_, rfl, x, rfl, ?_⟩
    refine for_str (fun i σ H3 => ∃ (a : Addr) (cs : List V) (es : List (Nat × Nat)) (ys : List V) (en : List (Nat × Nat)) (o6 : Option V), σ = [some (.str x), some (.str old), none, some (.ref a), none, some (.ref le), o6, none, none, none, none, none, none, none] ∧ Same H H3 ∧ H3 a = some (.lst cs) ∧ PrN H3 cs es ∧ ColM (ltr x) old i es ∧ H3 le = some (.lst ys) ∧ PrN H3 ys en ∧ en.length = i ∧ a ≠ le ∧ ∀ i' e, en[i']? = some e → Best (ltr x) (ltr old) (i' + 1) old.length e.1 e.2) ?_ ?_ ?_
    · exact ⟨D, xs, _, [], [], _, rfl, s2.trans sle, sle _ _ hD2, pr2.keep sle, cm0, upd_same, .nil, rfl, ne_of_none hD2 hle, fun i' e he => by cases he⟩
    · rintro i c σ H3 hc ⟨a, cs, es, ys, en, o6, rfl, s3, ha, pa, cm, hl3, pn, ln, ane, bn⟩
      have hi : i < x.cps.size := (Array.getElem?_eq_some_iff.mp hc).1
      have hxs : x.length = x.cps.size := rfl
      have cj := ltr_at hc
      refine ⟨_, rfl, _, rfl, _, rfl, a, cs, es, ltr x, i, old, ?_, ha, pa, cm, by omega, ho, fun b cs' es' H4 hb hb4 pb cm4 s4 => ?_⟩
      · show [V.ref a, V.str ⟨#[c]⟩, V.str old] = _
        rw [cj]
        rfl
      have hl4 := s4 _ _ hl3
      have lc := paired_len pb
      have le4 := cm4.len
      obtain ⟨v, hv⟩ : ∃ v, cs'[old.length]? = some v := ⟨cs'[old.length]'(by omega), List.getElem?_eq_getElem (by omega)⟩
      obtain ⟨e, he, t, rfl, ht⟩ := paired_at pb hv
      have atl : atI cs' (-1) = some (.ref t) := atI_end hv (by omega)
      refine ⟨_, rfl, .inl ⟨rfl, _, SqL.of hl4⟩, _, rfl, _, rfl, b, cs', _, .ref t, rfl, rfl, SqL.of hb4, atl, ?_⟩
      have gl := paired_len pn
      have nb : b ≠ le := fun z => by rw [z, hl3] at hb; cases hb
      refine ⟨le, _, _, rfl, rfl, hl4, fewL (by omega), b, cs', es', ys ++ [.ref t], en ++ [e], _, rfl, upd_out hleH (s3.trans s4), ?_, pb.keepT (upd_list hl4), cm4, upd_same, Paired.snoc ((pn.keep s4).keepT (upd_list hl4)) ⟨t, rfl, upd_list hl4 _ _ ht⟩, ?_, nb, ?_⟩
      · rw [upd_ne nb]
        exact hb4
      · rw [List.length_append, ln]; rfl
      · intro i' e' he'
        by_cases hii : i' < en.length
        · rw [List.getElem?_append_left hii] at he'
          exact bn _ _ he'
        · have ei : i' = i := by
            have := (List.getElem?_eq_some_iff.mp he').1
            rw [List.length_append, List.length_singleton] at this
            omega
          subst ei
          rw [List.getElem?_append_right (by omega), ln, Nat.sub_self] at he'
          cases he'
          exact cm4.best _ _ he
    · rintro σ H3 ⟨a, cs, es, ys, en, o6, rfl, s3, _, _, _, hl3, pn, ln, _, bn⟩
      have hcols : Cols (ltr x) (ltr old) old.length x.length en := ⟨ln, bn⟩
      have gl := paired_len pn
      have ln1 : en.length = x.length := ln
      -- the least
      refine ⟨_, rfl, le, rfl, ⟨_, SqL.of hl3⟩, fun D2 hD2 => ?_⟩
      have sD2 := same_new (o := .lst []) hD2
      refine lc_list (K := K) (a := le) (xs := ys) (fun n H' => H' D2 = some (.lst ((en.take n).map fun p => V.int (p.1 : Nat))) ∧ Same H3 H') ?_ ?_ ?_ ?_
      · exact ⟨upd_same, sD2⟩
      · rintro n H' _ ⟨_, sm⟩
        exact SqL.of (sm _ _ hl3)
      · rintro n v H' hv ⟨hDz, sm⟩
        obtain ⟨p, hp, t, rfl, ht⟩ := paired_at pn hv
        refine ⟨t, _, rfl, SqT.of (sm _ _ ht), rfl, _, _, rfl, _, _, rfl, rfl, ?_⟩
        refine ⟨rfl, _, rfl, _, hDz, fewL (by rw [List.length_map, List.length_take]; omega), ?_, upd_out hD2 sm⟩
        rw [upd_same, List.take_add_one, hp]
        simp
      rintro H4 ⟨hD4, s4⟩
      rw [List.take_of_length_le (by omega)] at hD4
      have e : (en.map fun p => V.int (p.1 : Nat)) = (en.map fun p => ((p.1 : Nat) : Int)).map V.int := by rw [List.map_map]; rfl
      rw [e] at hD4
      have hlen0 : en.length = x.cps.size := ln
      have hxs : x.length = x.cps.size := rfl
      refine ⟨D2, _, rfl, SqL.of hD4, by rw [List.length_map]; omega, fun mi hm hle2 => ?_⟩
      obtain ⟨p0, hp0, rfl⟩ := List.mem_map.mp hm
      have mle : ∀ y ∈ en.map (·.1), p0.1 ≤ y := fun y hy => by
        obtain ⟨q, hq, rfl⟩ := List.mem_map.mp hy
        have := hle2 _ (List.mem_map.mpr ⟨q, hq, rfl⟩)
        omega
      have hm0 : p0.1 ∈ en.map (·.1) := List.mem_map.mpr ⟨p0, hp0, rfl⟩
      have m20 : p0.1 ≤ 20 := by
        obtain ⟨n, hn, e⟩ := List.mem_iff_getElem.mp hp0
        have := (bn n _ (List.getElem?_eq_getElem hn)).up
        rw [e] at this
        omega
      generalize p0.1 = m at hm0 mle m20
      have s34 := s3.trans s4
      refine ⟨by show 0 ≤ sizeLine; decide, fun lw hlw => ?_⟩
      have slw := same_new (o := .lst []) hlw
      have hlwH := none_up s34 hlw
      refine ⟨_, rfl, le, ys, rfl, SqL.of (slw _ _ (s4 _ _ hl3)), ?_⟩
      have pn4 := pn.keep s4
      have hl4 := s4 _ _ hl3
      refine for_enumL (xs := ys) (fun i σ H5 => ∃ (o4 o10 o11 o12 : Option V) (got : List V), σ = [some (.str x), some (.str old), none, some (.ref a), o4, some (.ref le), o6, some (.int (m : Nat)), none, some (.ref lw), o10, o11, o12, none] ∧ Same H4 H5 ∧ H5 lw = some (.lst got) ∧ PrN H5 got (winP m (en.take i) 0)) ?_ ?_ ?_ ?_
      · exact ⟨_, _, _, _, [], rfl, slw, upd_same, .nil⟩
      · rintro i σ H5 _ ⟨o4, o10, o11, o12, got, rfl, s5, _⟩
        exact SqL.of (s5 _ _ hl4)
      · rintro i v σ H5 T hv hT ⟨o4, o10, o11, o12, got, rfl, s5, hg5, pg5⟩
        obtain ⟨e, he, t, rfl, ht⟩ := paired_at pn4 hv
        have hi := (List.getElem?_eq_some_iff.mp he).1
        have bst := bn i e he
        have wlt := best_lt bst
        have p22 : (2 : Nat) ^ (i + 1 + 1) ≤ 2 ^ 22 := Nat.pow_le_pow_right (by decide) (by omega)
        have sT := same_new (o := .tup [.int (i : Nat), .ref t]) hT
        refine ⟨T, _, rfl, SqT.of upd_same, rfl, ?_⟩
        refine ⟨_, _, rfl, _, _, rfl, t, _, rfl, SqT.of (sT _ _ (s5 _ _ ht)), rfl, _, _, rfl, _, _, rfl, rfl, rfl, ?_⟩
        refine ⟨_, rfl, _, rfl, rfl, _, rfl, ?_⟩
        have s6 := s5.trans sT
        have hg6 := sT _ _ hg5
        have pg6 := pg5.keep sT
        generalize upd H5 T (.tup [.int (i : Nat), .ref t]) = H6 at s6 hg6 pg6
        have etk : en.take (i + 1) = en.take i ++ [e] := by rw [List.take_add_one, he]; rfl
        have elt : (en.take i).length = i := by rw [List.length_take]; omega
        have snoc : winP m (en.take (i + 1)) 0 = winP m (en.take i) 0 ++ winAt m i e := by rw [etk, winP_snoc, elt, Nat.zero_add]
        by_cases hc : e.1 = m
        · rw [show decide (V.int ((e.1 : Nat) : Int) = V.int (m : Nat)) = true from decide_eq_true (by rw [hc])]
          refine iteT ⟨_, rfl, _, rfl, _, _, rfl, ⟨by decide, by decide, by omega, ?_⟩, fun D5 hD5 => ?_⟩
          · rw [intBits_nat]
            have : bitlen e.2 ≤ 22 := bitlen_le (by omega)
            omega
          rw [intBits_nat]
          have ebl : (((bitlen e.2 : Nat) : Int) - 1).toNat = bitlen e.2 - 1 := by omega
          have sD5 := same_new (o := .lst []) hD5
          have bl22 : bitlen e.2 ≤ 22 := bitlen_le (by omega)
          refine lc_range (lo := 1) (n := (((bitlen e.2 : Nat) : Int) - 1).toNat) (fun q H' => H' D5 = some (.lst (((List.range' 1 q).filter e.2.testBit).map fun z => V.int (z : Nat))) ∧ Same H6 H') ?_ ?_ ?_
          · exact ⟨upd_same, sD5⟩
          · rintro q H7 hq ⟨hD7, s7⟩
            have hq1 : (1 + (q : Int)).toNat = 1 + q := by omega
            refine ⟨rfl, _, rfl, _, rfl, _, _, rfl, rfl, by omega, _, _, rfl, rfl, _, rfl, ?_⟩
            rw [hq1, bit_truth]
            have flt : ((List.range' 1 q).filter e.2.testBit).length ≤ q := Nat.le_trans (List.length_filter_le _ _) (by rw [List.length_range']; exact Nat.le_refl _)
            have ers : List.range' 1 (q + 1) = List.range' 1 q ++ [1 + q] := by rw [List.range'_concat]; simp
            cases hb : e.2.testBit (1 + q)
            · refine iteF ⟨?_, s7⟩
              rw [hD7, ers, List.filter_append]
              simp [hb]
            · refine iteT ⟨_, rfl, _, hD7, fewL (by rw [List.length_map]; omega), ?_, upd_out hD5 s7⟩
              rw [upd_same, ers, List.filter_append, List.map_append]
              simp [hb]
          rintro H7 ⟨hD7, s7⟩
          rw [ebl] at hD7
          have hD7f : H7 D5 = some (.lst ((found e.2).map fun z => V.int (z : Nat))) := hD7
          have s67 := s6.trans s7
          have hg7 := s7 _ _ hg6
          have pg7 := pg6.keep s7
          have fl : (found e.2).length ≤ 22 := Nat.le_trans (List.length_filter_le _ _) (by rw [List.length_range']; omega)
          refine ⟨_, rfl, .inl ⟨rfl, _, SqL.of hg7⟩, _, rfl, D5, rfl, ⟨_, SqL.of hD7f⟩, fun D8 hD8 => ?_⟩
          have sD8 := same_new (o := .lst []) hD8
          refine lc_list (K := K) (a := D5) (xs := (found e.2).map fun z => V.int (z : Nat)) (fun q H' => ∃ us, H' D8 = some (.lst us) ∧ PrN H' us (((found e.2).take q).map fun l => (i + 1 - l, i + 1)) ∧ Same H7 H') ?_ ?_ ?_ ?_
          · exact ⟨[], upd_same, .nil, sD8⟩
          · rintro q H' _ ⟨us, _, _, sm⟩
            exact SqL.of (sm _ _ hD7f)
          · rintro q v H8 hv ⟨us, hD9, pu, sm⟩
            rw [List.getElem?_map] at hv
            obtain ⟨l, hl, rfl⟩ := Option.map_eq_some_iff.mp hv
            obtain ⟨l1, lb⟩ := found_mem.mp (List.mem_of_getElem? hl)
            have li := ((bst.bit l).mp lb).1
            have lq := (List.getElem?_eq_some_iff.mp hl).1
            have gu := paired_len pu
            rw [List.length_map, List.length_take] at gu
            refine ⟨rfl, _, rfl, _, _, rfl, rfl, _, rfl, _, _, rfl, rfl, _, rfl, _, _, rfl, rfl, by show 2 ≤ sizeLine; decide, fun u hu => ?_⟩
            have su := same_new (o := .tup [.int ((i : Int) + 1 - (l : Nat)), .int ((i : Int) + 1)]) hu
            have hDu := su _ _ hD9
            refine ⟨_, hDu, fewL (by omega), us ++ [.ref u], upd_same, ?_, upd_out hD8 (sm.trans su)⟩
            rw [List.take_add_one, hl, Option.toList_some, List.map_append]
            refine Paired.snoc ((pu.keep su).keepT (upd_list hDu)) ⟨u, rfl, upd_list hDu _ _ ?_⟩
            rw [upd_same, show (i : Int) + 1 - (l : Nat) = ((i + 1 - l : Nat) : Int) by omega]
            rfl
          rintro H8 ⟨us, hD9, pu, s8⟩
          rw [List.length_map, List.take_of_length_le (Nat.le_refl _)] at pu
          have hg8 := s8 _ _ hg7
          have gu := paired_len pu
          rw [List.length_map] at gu
          have gg := paired_len pg5
          have gw := winP_len (m := m) (es := en.take i) (p := 0) (fun e he => by
            obtain ⟨j, hj⟩ := List.mem_iff_getElem?.mp (List.mem_of_mem_take he)
            have hj1 := (List.getElem?_eq_some_iff.mp hj).1
            have := best_lt (bn j e hj)
            have p22 : (2 : Nat) ^ (j + 1 + 1) ≤ 2 ^ 22 := Nat.pow_le_pow_right (by decide) (by omega)
            exact bitlen_le (by omega))
          rw [elt] at gw
          refine ⟨lw, D8, _, _, rfl, rfl, hg8, hD9, Nat.le_of_lt (fewL (by omega)), ?_⟩
          refine ⟨_, _, _, _, got ++ us, rfl, upd_out hlw (s67.trans s8), upd_same, ?_⟩
          rw [snoc]
          have pp : PrN H8 (got ++ us) (winP m (en.take i) 0 ++ winAt m i e) := paired_app (pg7.keep s8) (by unfold winAt; rw [if_pos hc]; exact pu)
          exact pp.keepT (upd_list hg8)
        · rw [show decide (V.int ((e.1 : Nat) : Int) = V.int (m : Nat)) = false from decide_eq_false (fun z => hc (by have := V.int.inj z; omega))]
          refine iteF ⟨_, _, _, _, got, rfl, s6, hg6, ?_⟩
          rw [snoc]
          unfold winAt
          rw [if_neg hc, List.append_nil]
          exact pg6
      · rintro σ H5 ⟨o4, o10, o11, o12, got, rfl, s5, hg5, pg5⟩
        rw [List.take_of_length_le (by omega)] at pg5
        refine ⟨_, rfl, _, rfl, lw, got, keyN H5, rfl, SqL.of hg5, fun v hv => ?_, fun ys2 p srt stb hp => ⟨by show 2 ≤ sizeLine; decide, fun t ht => ?_⟩⟩
        · obtain ⟨q, _, t, rfl, ht⟩ := paired_mem pg5 hv
          refine ⟨t, rfl, ?_⟩
          rw [keyN_at (p := q) ⟨t, rfl, ht⟩]
          exact ht
        obtain ⟨rs, pm, prs⟩ := paired_perm stb.perm pg5
        have prs1 : PrN H5 ys2 rs := prs
        have hw := win_same (ys := []) hcols mle pm (srtd_pairs prs1 srt)
        have s05 := s34.trans s5
        have sp := same_new (o := .lst ys2) hp
        have st := same_new (o := .tup [.int (m : Nat), .ref p]) ht
        have gw := winP_len (m := m) (es := en) (p := 0) (fun e he => by
          obtain ⟨j, hj⟩ := List.mem_iff_getElem?.mp he
          have hj1 := (List.getElem?_eq_some_iff.mp hj).1
          have := best_lt (bn j e hj)
          have p22 : (2 : Nat) ^ (j + 1 + 1) ≤ 2 ^ 22 := Nat.pow_le_pow_right (by decide) (by omega)
          exact bitlen_le (by omega))
        have pl := pm.length_eq
        refine k t p ys2 m rs _ (none_up (s05.trans sp) ht) (none_up s05 hp) upd_same (st _ _ upd_same) ((prs1.keep sp).keep st) (.inr ⟨by omega, fun few f1 f2 => ?_⟩) (by omega) (fun q hq => ?_) (by omega) ((s05.trans sp).trans st)
        · have := least_few hcols (by omega) hm0 mle f1 f2
          subst this
          exact ⟨rfl, hw⟩
        · rw [hw] at hq
          obtain ⟨a, b, h1, h2, h3, e⟩ := rowsW_mem.mp (dueW_mem.mp hq)
          have e2 := (Prod.mk.inj e).2
          rw [e2]
          exact ⟨by show a ≤ 100; omega, by show b ≤ 100; omega⟩

end
end Vk
set_option Elab.async false
set_option maxRecDepth 100000
set_option linter.all false
set_option maxHeartbeats 4000000
namespace Vk
open PySem PySem.Spec PyProof.Rows L2
section
variable {P : Program} {w : World} {K : PySem.W.Frag} {mg : Str → Option Value} {base : Heap}
abbrev s_ldraw : Stmt := top 6
theorem sc_ldraw : FnScope ["_law_pen_here", "_law_many", "_law_digit", "_law_turn", "_law_cell", "_law_primes", "_law_prime", "_law_drawn"] ["_law_pen_here", "_law_many"] (defScope s_ldraw) := ⟨rfl, rfl, rfl, by decide +kernel, rfl, by decide +kernel, by decide +kernel⟩
theorem b_ldraw {f : Addr} {fd : FuncData} (F : Fun K "_law_draw" "_law_draw" s_ldraw f fd) (T : Txt mg) : FnG P w K mg base CX0 1 f fd ["_law_pen_here", "_law_many"] spDraw := by
  refine okG0 F sc_ldraw (fun vs H Q E h => ?_) (fun cdv A outer s H vs Q E hg hr h => ?_)
  · obtain ⟨p, c, m, T0, rfl, _⟩ := h
    rfl
  · have hu := hu_of hr
    have hu64 := hr.units
    obtain ⟨p, c, m, T0, rfl, m0, m1, ⟨ns, t, l, hp, hc, hn, t0, tT, l0⟩, hT, k⟩ := h
    have ncp : c ≠ p := ne_of hc hp (by intro z; cases z)
    have lenns : (ns.map V.int).length = ns.length := List.length_map _
    refine ⟨_, (pss_cons (ps_if (pt_cmpR op_gt (pe_dget hu (pv 0) pe_str (fun _ _ => rfl)) pe_int (nomark _)) (pss_cons (ps_set (i := 2) sc_ldraw.nd rfl (Or.inl rfl) (pe_op op_mod (pe_callTy call_int1 (by rfl) T.int (by decide +kernel) (pa_cons (pe_dget hu (pv 0) pe_str (fun _ _ => rfl)) pa_nil)) (pv 1)))
      (pss_cons (ps_dput hu (pv 0) pe_str (pe_op op_fdiv (pe_dget hu (pv 0) pe_str (fun _ _ => rfl)) (pv 1)) rfl)
      (pss_one (ps_ret (pv 2))))) pss_nil)
      (pss_cons (ps_set (i := 3) sc_ldraw.nd rfl (Or.inl rfl) (pe_dget hu (pv 0) pe_str (fun _ _ => rfl)))
      (pss_cons (ps_dput hu (pv 0) pe_str (pe_op op_add (pv 3) pe_int) rfl)
      (pss_cons (ps_set (i := 4) sc_ldraw.nd rfl (Or.inl rfl) (pe_op op_add (pe_op op_mul pe_int (pv 3)) pe_int))
      (C8.pss_cut (ps_if (pt_cmpR (op_neD hu64) (pe_dget hu (pv 0) pe_str (fun _ _ => rfl)) (pe_lst pa_nil) (nomark _)) (pss_one (ps_set (i := 4) sc_ldraw.nd rfl (Or.inl rfl) (pe_ix ix_seq (pe_dget hu (pv 0) pe_str (fun _ _ => rfl)) (pe_op op_mod (pe_callTy call_int1 (by rfl) T.int (by decide +kernel) (pa_cons (pv 3) pa_nil)) (pe_callB call_len (by rfl) T.len (by decide +kernel) (pa_cons (pe_dget hu (pv 0) pe_str (fun _ _ => rfl)) pa_nil))) (fun _ _ => rfl)))) pss_nil)
      (C8.pss_cut (ps_if (PW.pt (pw_and (pt_cmpR op_lt (pv 3) (pe_callB call_len (by rfl) T.len (by decide +kernel) (pa_cons (pe_dget hu (pv 0) pe_str (fun _ _ => rfl)) pa_nil)) (nomark _)) (pw_and1 (pt_cmpR op_ge (pe_callB call_abs (by rfl) T.abs (by decide +kernel) (pa_cons (pv 4) pa_nil)) (pe_op op_pow pe_int pe_int) (nomark _))))) (pss_cons (ps_dput hu (pv 0) pe_str (pe_op op_fdiv (pe_op op_sub (pe_callB call_abs (by rfl) T.abs (by decide +kernel) (pa_cons (pv 4) pa_nil)) (pe_op op_pow pe_int pe_int)) (pv 1)) rfl)
      (pss_one (ps_ret (pe_op op_mod (pe_op op_sub (pe_callB call_abs (by rfl) T.abs (by decide +kernel) (pa_cons (pv 4) pa_nil)) (pe_op op_pow pe_int pe_int)) (pv 1))))) pss_nil)
      (pss_cons (ps_set (i := 5) sc_ldraw.nd rfl (Or.inl rfl) (pe_lst (pa_cons pe_int (pa_cons pe_int (pa_cons pe_int (pa_cons pe_int (pa_cons pe_int pa_nil)))))))
      (pss_cons (ps_set (i := 6) sc_ldraw.nd rfl (Or.inl rfl) (pe_ix ix_seq (pv 5) (pe_op op_mod (pe_callTy call_int1 (by rfl) T.int (by decide +kernel) (pa_cons (pv 3) pa_nil)) pe_int) (fun _ _ => rfl)))
      (pss_cons (ps_set (i := 7) sc_ldraw.nd rfl (Or.inl rfl) (pe_op op_mod (pe_callTy call_int1 (by rfl) T.int (by decide +kernel) (pa_cons (pe_op op_add (pe_op op_add (pe_op op_mul (pe_op op_mod (pe_callTy call_int1 (by rfl) T.int (by decide +kernel) (pa_cons (pv 4) pa_nil)) (pv 6)) pe_int) (pe_op op_mul (pv 3) (pe_op op_add (pe_op op_mul pe_int (pv 3)) pe_int))) pe_int) pa_nil)) (pv 6)))
      (pss_cons (ps_set (i := 7) sc_ldraw.nd rfl (Or.inl rfl) (pe_op op_mod (pe_callTy call_int1 (by rfl) T.int (by decide +kernel) (pa_cons (pe_op op_mul (pv 7) (pe_op op_add (pv 7) pe_int)) pa_nil)) (pe_ix ix_seq (pv 5) (pe_op op_mod (pe_callTy call_int1 (by rfl) T.int (by decide +kernel) (pa_cons (pe_op op_add (pv 3) pe_int) pa_nil)) pe_int) (fun _ _ => rfl))))
      (pss_one (ps_ret (pe_op op_mod (pe_callTy call_int1 (by rfl) T.int (by decide +kernel) (pa_cons (pe_op op_fdiv (pe_op op_mod (pe_callTy call_int1 (by rfl) T.int (by decide +kernel) (pa_cons (pe_op op_add (pe_op op_add (pe_op op_mul (pv 7) (pv 7)) (pe_op op_mul pe_int (pv 7))) (pv 3)) pa_nil)) pe_int) pe_int) pa_nil)) (pv 1)))))))))))))), ?_⟩
    refine ⟨_, rfl, p, _, rfl, get_left hp, _, _, rfl, rfl, _, rfl, ?_⟩
    refine ite2 (fun hl => ?_) (fun hl => ?_)
    · refine ⟨_, rfl, p, _, rfl, get_left hp, .inl ⟨_, rfl, ?_⟩⟩
      refine ⟨_, rfl, _, _, rfl, rfl, m0, ?_⟩
      refine ⟨_, rfl, p, _, rfl, get_left hp, _, rfl, _, _, rfl, rfl, ⟨by omega, by omega⟩, ?_⟩
      refine ⟨_, rfl, p, _, rfl, put_left hp, _, rfl, ?_⟩
      refine k _ _ (Int.emod_nonneg _ (by omega)) (Int.emod_lt_of_pos _ m0) ⟨ns, t, _, upd_same, (upd_ne ncp).trans hc, hn, t0, by omega, Int.ediv_nonneg l0 (by omega)⟩ Ext.at
    · refine ⟨_, rfl, p, _, rfl, get_turn hp, ?_⟩
      refine ⟨_, rfl, _, _, rfl, rfl, _, rfl, p, _, rfl, put_turn hp, ?_⟩
      generalize hH1 : upd H p (.dK (penL c (t + 1) l)) = H1
      have hp1 : H1 p = some (.dK (penL c (t + 1) l)) := by rw [← hH1]; exact upd_same
      have hc1 : H1 c = some (.lst (ns.map V.int)) := by rw [← hH1]; exact (upd_ne ncp).trans hc
      have e1 : Ext p H H1 := by rw [← hH1]; exact Ext.at
      refine ⟨_, rfl, _, _, rfl, rfl, .inl ⟨by decide, by decide⟩, _, _, rfl, rfl, ?_⟩
      refine ⟨fun σ' H2 => ∃ z : Int, σ' = [some (.ref p), some (.int m), none, some (.int t), some (.int z), none, none, none] ∧ H2 p = some (.dK (penL c (t + 1) l)) ∧ H2 c = some (.lst (ns.map V.int)) ∧ Ext p H H2, ?_, ?_⟩
      · refine ⟨_, rfl, p, _, rfl, get_cells hp1, by decide, fun b hb => ?_⟩
        have hp2 := up_new (u := .lst []) hp1 hb
        have hc2 := up_new (u := .lst []) hc1 hb
        refine ⟨.list (ns.map .int), .list [], .lst (SqL.of hc2) (ints_dp ns), .lst (SqL.of upd_same) .nil, ints_shaped ns, by decide +kernel, _, rfl, ?_⟩
        rw [ints_ne_nil]
        refine ite2 (fun hne => ?_) (fun _ => ?_)
        · have hpos : 0 < ns.length := by
            cases ns with
            | nil => simp at hne
            | cons a r => exact Nat.succ_pos _
          refine ⟨_, rfl, p, _, rfl, get_cells hp2, _, rfl, .inl ⟨_, rfl, _, rfl, p, _, rfl, get_cells hp2, _, _, rfl, .inl ⟨_, SqL.of hc2, rfl⟩, _, _, rfl, rfl, ?_, ?_⟩⟩
          · rw [lenns]; omega
          · obtain ⟨v, hv, hm⟩ := at_mod (xs := ns.map V.int) (i := t % ((ns.map V.int).length : Int)) (Int.emod_nonneg _ (by rw [lenns]; omega)) (Int.emod_lt_of_pos _ (by rw [lenns]; omega))
            obtain ⟨z, _, rfl⟩ := List.mem_map.mp hm
            refine .inl ⟨_, _, _, _, rfl, rfl, SqL.of hc2, hv, z, rfl, hp2, hc2, e1.set (e1.none_of ?_ hb)⟩
            exact (ne_of_none hp1 hb).symm
        · exact ⟨_, rfl, hp2, hc2, e1.set (e1.none_of (ne_of_none hp1 hb).symm hb)⟩
      · rintro σ2 H2 ⟨z, rfl, hp2, hc2, e2⟩
        refine ⟨fun σ' H3 => σ' = [some (.ref p), some (.int m), none, some (.int t), some (.int z), none, none, none] ∧ H3 = H2, ?_, ?_⟩
        · refine ⟨_, rfl, _, rfl, p, _, rfl, get_cells hp2, _, _, rfl, .inl ⟨_, SqL.of hc2, rfl⟩, _, _, rfl, rfl, _, rfl, ?_⟩
          refine ite2 (fun _ => ?_) (fun _ => ?_)
          · refine ⟨_, rfl, _, rfl, _, _, rfl, rfl, ⟨by decide, by decide, by decide⟩, _, _, rfl, rfl, _, rfl, ?_⟩
            refine ite2 (fun hbig => ?_) (fun _ => ?_)
            · have big := of_decide_eq_true hbig
              refine ⟨_, rfl, _, rfl, _, _, rfl, rfl, ⟨by decide, by decide, by decide⟩, _, _, rfl, rfl, _, rfl, _, _, rfl, rfl, ⟨by omega, by omega⟩, ?_⟩
              refine ⟨_, rfl, p, _, rfl, put_left hp2, ?_⟩
              refine ⟨_, rfl, _, rfl, _, _, rfl, rfl, ⟨by decide, by decide, by decide⟩, _, _, rfl, rfl, _, rfl, _, _, rfl, rfl, m0, ?_⟩
              refine k _ _ (Int.emod_nonneg _ (by omega)) (Int.emod_lt_of_pos _ m0) ⟨ns, t + 1, _, upd_same, (upd_ne ncp).trans hc2, hn, by omega, by omega, Int.ediv_nonneg (by omega) (by omega)⟩ (e2.trans Ext.at)
            · exact ⟨rfl, rfl⟩
          · exact ⟨rfl, rfl⟩
        · rintro σ3 H3 ⟨rfl, rfl⟩
          refine ⟨by decide, fun q hq => ?_⟩
          have hp3 := up_new (u := .lst (primes.map V.int)) hp2 hq
          have hc3 := up_new (u := .lst (primes.map V.int)) hc2 hq
          have e3 : Ext p H (upd H3 q (.lst (primes.map V.int))) := e2.set (e2.none_of (ne_of_none hp2 hq).symm hq)
          have hq3 : (upd H3 q (.lst (primes.map V.int))) q = some (.lst (primes.map V.int)) := upd_same
          have pick : ∀ i : Int, 0 ≤ i → i < 5 → ∃ z : Int, atI (primes.map V.int) i = some (.int z) ∧ 0 < z ∧ z < 2147483648 := fun i h0 h5 => by
            obtain ⟨v, hv, hm⟩ := at_mod (xs := primes.map V.int) h0 h5
            obtain ⟨z, rfl, hz⟩ := primes_in hm
            exact ⟨z, hv, hz⟩
          obtain ⟨a1, ha1, a1p, a1b⟩ := pick (t % 5) (Int.emod_nonneg _ (by decide)) (Int.emod_lt_of_pos _ (by decide))
          obtain ⟨a2, ha2, a2p, a2b⟩ := pick ((t + 2) % 5) (Int.emod_nonneg _ (by decide)) (Int.emod_lt_of_pos _ (by decide))
          refine ⟨_, rfl, _, rfl, .inl ⟨_, rfl, _, _, rfl, rfl, (by show (0 : Int) < 5; decide), .inl ⟨_, _, _, _, rfl, rfl, SqL.of hq3, ha1, ?_⟩⟩⟩
          have b1 := Int.emod_nonneg z (show a1 ≠ 0 by omega)
          have b2 := Int.emod_lt_of_pos z a1p
          refine ⟨_, rfl, .inl ⟨_, rfl, _, rfl, _, _, rfl, rfl, a1p, _, _, rfl, rfl, .inr ⟨by decide, by decide⟩, ?_⟩⟩
          refine ⟨_, rfl, _, rfl, _, _, rfl, rfl, .inl ⟨by decide, by decide⟩, _, _, rfl, rfl, _, _, rfl, rfl, .inl ⟨by omega, by omega⟩, _, _, rfl, rfl, _, _, rfl, rfl, .inl ⟨_, rfl, _, rfl, _, _, rfl, rfl, a1p, ?_⟩⟩
          have d1 := Int.emod_nonneg (z % a1 * 39373 + t * (30011 * t + 8117) + 23) (show a1 ≠ 0 by omega)
          have d2 := Int.emod_lt_of_pos (z % a1 * 39373 + t * (30011 * t + 8117) + 23) a1p
          refine ⟨_, rfl, _, rfl, _, _, rfl, rfl, _, _, rfl, rfl, .inl ⟨by omega, by omega⟩, .inl ⟨_, rfl, _, rfl, _, rfl, _, _, rfl, rfl, .inl ⟨_, rfl, _, _, rfl, rfl, (by show (0 : Int) < 5; decide), .inl ⟨_, _, _, _, rfl, rfl, SqL.of hq3, ha2, _, _, rfl, rfl, a2p, ?_⟩⟩⟩⟩
          have f1 := Int.emod_nonneg (((z % a1 * 39373 + t * (30011 * t + 8117) + 23) % a1) * (((z % a1 * 39373 + t * (30011 * t + 8117) + 23) % a1) + 69621)) (show a2 ≠ 0 by omega)
          have f2 := Int.emod_lt_of_pos (((z % a1 * 39373 + t * (30011 * t + 8117) + 23) % a1) * (((z % a1 * 39373 + t * (30011 * t + 8117) + 23) % a1) + 69621)) a2p
          refine ⟨_, rfl, _, rfl, _, _, rfl, rfl, .inl ⟨by omega, by omega⟩, _, rfl, _, _, rfl, rfl, .inl ⟨by decide, by decide⟩, _, _, rfl, rfl, _, rfl, _, _, rfl, rfl, .inl ⟨_, rfl, _, _, rfl, rfl, (by show (0 : Int) < 2147483549; decide), _, _, rfl, rfl, ⟨by decide, by decide⟩, .inl ⟨_, rfl, _, rfl, _, _, rfl, rfl, m0, ?_⟩⟩⟩
          exact k _ _ (Int.emod_nonneg _ (by omega)) (Int.emod_lt_of_pos _ m0) ⟨ns, t + 1, l, hp3, hc3, hn, by omega, by omega, l0⟩ e3

abbrev s_lpen : Stmt := top 5
theorem sc_lpen : FnScope ["_law_script"] ["_law_script"] (defScope s_lpen) := ⟨rfl, rfl, rfl, by decide +kernel, rfl, by decide +kernel, by decide +kernel⟩
theorem b_lpen {f : Addr} {fd : FuncData} (F : Fun K "_law_pen" "_law_pen" s_lpen f fd) (T : Txt mg) : FnG P w K mg base CX0 1 f fd ["_law_script"] (spPen K) := by
  refine okG0 F sc_lpen (fun vs H Q E h => ?_) (fun cdv A outer s H vs Q E hg hr h => ?_)
  · obtain ⟨a, ns, rfl, _⟩ := h
    rfl
  · have hu := hu_of hr
    have hu64 := hr.units
    obtain ⟨a, ns, rfl, hs, k⟩ := h
    refine ⟨_, (pss_one (ps_ret (pe_disp (pps_cons pe_str (pe_callTy call_list_of (by rfl) T.list (by decide +kernel) (pa_cons (pe_slice sl_list (pv 0) po_none (po_some pe_int)) pa_nil)) (pps_cons pe_str pe_int (pps_cons pe_str pe_int pps_nil))) (by rfl) (by rfl) (fun z => by cases z) (by decide)))), ?_⟩
    intro p hp
    obtain ⟨ms, hms, hml⟩ := cut63 ns
    refine ⟨_, rfl, 63, rfl, a, _, rfl, (same_new hp).seq hs, fun q hq => ?_⟩
    refine ⟨q, _, rfl, .inl (SqL.of upd_same), fun c hc => ?_⟩
    rw [hms] at hc ⊢
    have nqp : p ≠ q := fun e => by rw [← e, upd_same] at hq; cases hq
    have ncp : p ≠ c := fun e => by rw [← e, upd_ne nqp, upd_same] at hc; cases hc
    have hp2 : (upd (upd (upd H p (.dK [])) q (.lst (ms.map V.int))) c (.lst (ms.map V.int))) p = some (.dK []) := by rw [upd_ne ncp, upd_ne nqp, upd_same]
    refine ⟨hp2, penL c 0 0, rfl, (by show 3 ≤ 15; decide), ?_⟩
    rw [pen_made]
    refine k p c _ hp ⟨ms, 0, 0, upd_same, by rw [upd_ne ncp.symm, upd_same], hml, Int.le_refl _, Int.le_refl _, Int.le_refl _⟩ fun b o e => ?_
    rw [upd_ne (ne_of_none e hp), upd_ne ?_, upd_ne ?_, upd_ne (ne_of_none e hp)]
    · exact e
    · rintro rfl
      rw [upd_ne (ne_of_none e hp)] at hq
      rw [hq] at e
      cases e
    · rintro rfl
      by_cases ebq : b = q
      · subst ebq
        rw [upd_ne nqp.symm] at hq
        rw [hq] at e
        cases e
      · rw [upd_ne ebq, upd_ne (ne_of_none e hp)] at hc
        rw [hc] at e
        cases e

abbrev s_lpick : Stmt := top 7
theorem sc_lpick : FnScope ["_law_pen_here", "_law_options"] ["_law_pen_here", "_law_options"] (defScope s_lpick) := ⟨rfl, rfl, rfl, by decide +kernel, rfl, by decide +kernel, by decide +kernel⟩
theorem b_lpick {f : Addr} {fd : FuncData} (F : Fun K "_law_pick" "_law_pick" s_lpick f fd) (T : Txt mg) (c_ldraw : CalG P w K mg base CX0 1 "_law_draw" spDraw) : FnG P w K mg base CX0 2 f fd ["_law_pen_here", "_law_options"] (spPick K) := by
  refine okG0 F sc_lpick (fun vs H Q E h => ?_) (fun cdv A outer s H vs Q E hg hr h => ?_)
  · obtain ⟨p, c, o, xs, T0, rfl, _⟩ := h
    rfl
  · have hu := hu_of hr
    have hu64 := hr.units
    obtain ⟨p, c, o, xs, T0, rfl, ho, hne, hlen, hpen, hT, k⟩ := h
    have hpos : 0 < xs.length := List.length_pos_iff.mpr hne
    have hr1 : Room 1 _ := hr
    refine ⟨_, (pss_one (ps_ret (pe_ix ix_seq (pv 1) (pe_cG c_ldraw hg hr (by decide) pass0 (pa_cons (pv 0) (pa_cons (pe_callB call_len (by rfl) T.len (by decide +kernel) (pa_cons (pv 1) pa_nil)) pa_nil))) (fun _ _ => rfl)))), ?_⟩

    cases ho with
    | str z hz =>
      have e := one_len z
      have hz24 : z.length ≤ sizeLine := Nat.le_trans hz (by decide)
      refine ⟨_, rfl, _, rfl, _, rfl, _, _, rfl, ⟨hz24, rfl⟩, p, c, _, T0, rfl, by omega, by omega, hpen, hT, fun d H' d0 d1 hpen' x => ?_⟩
      obtain ⟨e1, hc, hm⟩ := at_mod (xs := z.cps.toList) d0 (by rw [show (z.cps.toList.length : Int) = (z.length : Int) from congrArg Nat.cast Array.length_toList]; exact d1)
      exact .inr (.inr ⟨z, d, e1, rfl, rfl, hz24, hc, k _ _ (List.mem_map_of_mem (f := OneS) hm) hpen' x⟩)
    | lst hs =>
      refine ⟨_, rfl, _, rfl, _, rfl, _, _, rfl, .inl ⟨_, hs, rfl⟩, p, c, _, T0, rfl, by omega, by omega, hpen, hT, fun d H' d0 d1 hpen' x => ?_⟩
      obtain ⟨v, hv, hm⟩ := at_mod d0 d1
      exact .inl ⟨_, xs, d, v, rfl, rfl, hpen.keepL x hs, hv, k _ _ hm hpen' x⟩
    | tup hs =>
      refine ⟨_, rfl, _, rfl, _, rfl, _, _, rfl, .inr ⟨_, hs, rfl⟩, p, c, _, T0, rfl, by omega, by omega, hpen, hT, fun d H' d0 d1 hpen' x => ?_⟩
      obtain ⟨v, hv, hm⟩ := at_mod d0 d1
      exact .inr (.inl ⟨_, xs, d, v, rfl, rfl, hpen.keepT x hs, hv, k _ _ hm hpen' x⟩)

abbrev s_lsigns : Stmt := top 8
theorem sc_lsigns : FnScope [] [] (defScope s_lsigns) := ⟨rfl, rfl, rfl, by decide +kernel, rfl, by decide +kernel, by decide +kernel⟩
theorem b_lsigns {f : Addr} {fd : FuncData} (F : Fun K "_law_signs" "_law_signs" s_lsigns f fd) (T : Txt mg) : FnG P w K mg base CX0 1 f fd [] spSigns := by
  refine okG0 F sc_lsigns (fun vs H Q E h => ?_) (fun cdv A outer s H vs Q E hg hr h => ?_)
  · obtain ⟨rfl, _⟩ := h
    rfl
  · have hu := hu_of hr
    have hu64 := hr.units
    obtain ⟨rfl, k⟩ := h
    exact ⟨_, (pss_one (ps_ret pe_str)), k⟩

abbrev s_lfew : Stmt := top 9
theorem sc_lfew : FnScope ["_law_pen_here", "_law_some", "_law_rare", "_law_k"] ["_law_pen_here"] (defScope s_lfew) := ⟨rfl, rfl, rfl, by decide +kernel, rfl, by decide +kernel, by decide +kernel⟩
theorem b_lfew {f : Addr} {fd : FuncData} (F : Fun K "_law_few" "_law_few" s_lfew f fd) (T : Txt mg) (c_lpick : CalG P w K mg base CX0 2 "_law_pick" (spPick K)) (t_signs : FnT P w K mg base 1 "_law_signs" letS) : FnG P w K mg base CX0 3 f fd ["_law_pen_here"] spFew := by
  refine okG0 F sc_lfew (fun vs H Q E h => ?_) (fun cdv A outer s H vs Q E hg hr h => ?_)
  · obtain ⟨p, pc, T0, rfl, _⟩ := h
    rfl
  · have hu := hu_of hr
    have hu64 := hr.units
    obtain ⟨p, pc, T0, rfl, hpen, hT, k⟩ := h
    have hr2 : Room 2 _ := hr
    refine ⟨_, (pss_cons (ps_set (i := 1) sc_lfew.nd rfl (Or.inr rfl) (pe_lst (pa_cons (pe_cG c_lpick hg hr (by decide) pass0 (pa_cons (pv 0) (pa_cons (pe_replT t_signs hr (by decide) (by decide +kernel) (by decide +kernel)) pa_nil))) (pa_cons (pe_cG c_lpick hg hr (by decide) pass0 (pa_cons (pv 0) (pa_cons pe_str pa_nil))) (pa_cons (pe_cG c_lpick hg hr (by decide) pass0 (pa_cons (pv 0) (pa_cons pe_str pa_nil))) pa_nil)))))
      (pss_cons (ps_set (i := 2) sc_lfew.nd rfl (Or.inl rfl) (pe_join pe_str (pe_lc (own := [("_law_k", 3)]) (g := gName 3) rfl sc_lfew.nd (pi_range1 rfl T.range (pa_cons pe_int pa_nil)) (blkOk_by (own := [("_law_k", 3)]) (N := ["_law_pen_here", "_law_some", "_law_rare", "_law_k"]) (sc := defScope s_lfew) (by decide +kernel)) (fun _ _ _ _ _ => (pg_name (i := 3) sc_lfew.nd rfl (Or.inl rfl))) (fun _ _ _ _ _ => (pts_one (pt_cmpR (op_notIn_seqK (K := K) rfl) (pe_ix (ix_seqK (K := K) rfl) (pv 1) (pv 3) (fun _ _ => rfl)) (pe_slice (sl_listK (K := K) rfl) (pv 1) po_none (po_some (pv 3))) (by rfl)))) (fun _ _ _ _ _ => (pe_ix (ix_seqK (K := K) rfl) (pv 1) (pv 3) (fun _ _ => rfl))))))
      (pss_one (ps_ret (pe_cG c_lpick hg hr (by decide) pass0 (pa_cons (pv 0) (pa_cons (pe_lst (pa_cons pe_str (pa_cons pe_str (pa_cons pe_str (pa_cons pe_str (pa_cons pe_str (pa_cons pe_str (pa_cons pe_str (pa_cons pe_str (pa_cons pe_str (pa_cons (pv 2) pa_nil))))))))))) pa_nil))))))), ?_⟩
    refine ⟨_, rfl, p, pc, _, _, T0, rfl, .str _ (by rw [noq_len]; decide), opts_ne (by rw [noq_len]; decide), opts_le (by rw [noq_len]; decide), hpen, by omega, fun v1 H1 m1 P1 x1 => ?_⟩
    obtain ⟨c1, rfl, k1⟩ := ones_of m1
    refine ⟨_, rfl, p, pc, _, _, T0 + 1, rfl, .str _ (by decide), opts_ne (by decide), opts_le (by decide), P1, by omega, fun v2 H2 m2 P2 x2 => ?_⟩
    obtain ⟨c2, rfl, k2⟩ := ones_of m2
    refine ⟨_, rfl, p, pc, _, _, T0 + 2, rfl, .str _ (by decide), opts_ne (by decide), opts_le (by decide), P2, by omega, fun v3 H3 m3 P3 x3 => ?_⟩
    obtain ⟨c3, rfl, k3⟩ := ones_of m3
    refine ⟨by show 3 ≤ sizeLine; decide, fun a ha => ?_⟩
    have hin : ∀ c ∈ [c1, c2, c3], c ∈ letS.cps.toList := by
      intro c hc
      simp only [List.mem_cons, List.not_mem_nil, or_false] at hc
      rcases hc with rfl | rfl | rfl
      · exact noq_in k1
      · exact (by decide +kernel : ∀ c ∈ (Str.ofString "yz").cps.toList, c ∈ letS.cps.toList) _ k2
      · exact (by decide +kernel : ∀ c ∈ (Str.ofString "(\n").cps.toList, c ∈ letS.cps.toList) _ k3
    have P4 := P3.new (o := .lst ([c1, c2, c3].map OneS)) ha
    have x4 : Ext p H (upd H3 a (.lst ([c1, c2, c3].map OneS))) := (x1.trans (x2.trans x3)).trans (Ext.new ha)
    have ha4 : (upd H3 a (.lst ([c1, c2, c3].map OneS))) a = some (.lst ([c1, c2, c3].map OneS)) := upd_same
    generalize hxs : ([c1, c2, c3].map OneS : List V) = xs at ha4 P4 x4
    have hxl : xs.length = 3 := by rw [← hxs]; rfl
    have hxf : xs.all flatV = true := by rw [← hxs]; exact ones_flat _
    have hxm : ∀ v ∈ xs, ∃ c, v = OneS c ∧ c ∈ [c1, c2, c3] := by rw [← hxs]; exact fun v hv => one_mem hv
    have ha5 : (upd H3 a (.lst ([c1, c2, c3].map OneS))) = upd H3 a (.lst xs) := by rw [hxs]
    generalize hH4 : upd H3 a (.lst xs) = H4 at ha4 P4 x4 ha5
    refine ⟨⟨_, rfl⟩, ?_⟩
    show (iRng1 (tCons (tC (V.int 3)) tNil)) _ (upd H3 a (.lst ([c1, c2, c3].map OneS))) _
    rw [ha5]
    refine ⟨3, rfl, by decide, by decide, fun D hD => lc_range (lo := 0) (n := 3) (fun i H' => ∃ cs : List Nat, H' D = some (.lst (cs.map OneS)) ∧ cs.length ≤ i ∧ (1 ≤ i → 1 ≤ cs.length) ∧ (∀ c ∈ cs, c ∈ letS.cps.toList) ∧ Same H4 H') ?_ ?_ ?_⟩
    · exact ⟨[], upd_same, Nat.le_refl _, fun h => by omega, fun c hc => absurd hc List.not_mem_nil, same_new hD⟩
    · rintro i H5 hi ⟨cs, hDc, hcl, hc1, hcm, sm⟩
      obtain ⟨v, hv, hvm⟩ := at_mod (xs := xs) (i := 0 + (i : Int)) (by omega) (by rw [hxl]; omega)
      obtain ⟨c, rfl, hcc⟩ := hxm v hvm
      have sa : SqL K H5 a xs := sm.seq (SqL.of ha4)
      refine ⟨rfl, _, rfl, _, rfl, .inl ⟨a, xs, _, _, rfl, rfl, sa, hv, _, rfl, _, rfl, _, rfl, a, xs, rfl, sa, fun q hq => ⟨q, _, rfl, .inl (SqL.of upd_same), rfl, cutV_all hxf, _, rfl, ?_⟩⟩⟩
      have sq : Same H4 (upd H5 q (.lst (cutV xs none (some (0 + (i : Int)))))) := sm.trans (same_new hq)
      have dq := up_new (u := .lst (cutV xs none (some (0 + (i : Int))))) hDc hq
      refine ite2 (fun hb => ?_) (fun hb => ?_)
      · refine ⟨_, rfl, _, rfl, .inl ⟨a, xs, _, _, rfl, rfl, sq.seq (SqL.of ha4), hv, _, dq, by rw [List.length_map]; exact Nat.lt_of_le_of_lt hcl (Nat.lt_trans hi (by decide)), cs ++ [c], ?_, ?_, fun _ => ?_, ?_, ?_⟩⟩
        · rw [upd_same, List.map_append]
          rfl
        · rw [List.length_append]; exact Nat.add_le_add_right hcl 1
        · rw [List.length_append]; exact Nat.le_add_left _ _
        · intro d hd
          rcases List.mem_append.mp hd with hd | hd
          · exact hcm d hd
          · rw [List.mem_singleton.mp hd]
            exact hin c hcc
        · intro b o e
          by_cases hbD : b = D
          · rw [hbD, hD] at e
            cases e
          · exact (upd_ne hbD).trans (sq b o e)
      · refine ⟨cs, dq, Nat.le_succ_of_le hcl, fun _ => ?_, hcm, sq⟩
        by_cases h0 : i = 0
        · subst h0
          refine absurd ?_ hb
          show (if true = true then !inV (OneS c) (cutV xs none (some (0 + ((0 : Nat) : Int)))) else inV (OneS c) (cutV xs none (some (0 + ((0 : Nat) : Int))))) = true
          rw [show (0 : Int) + ((0 : Nat) : Int) = 0 from rfl, cutV_zero]
          rfl
        · exact hc1 (by omega)
    · rintro H5 ⟨cs, hDc, hcl, hc1, hcm, sm⟩
      refine ⟨_, D, cs.map fun c => ⟨#[c]⟩, rfl, rfl, .inl (SqL.of (by rw [ones_map]; exact hDc)), ?_, ?_⟩
      · rw [ones_len]
        show cs.length + _ * 0 ≤ _
        omega
      · rw [join_ones]
        have fz : Few ⟨cs.toArray⟩ := few_ones (hc1 (by decide)) hcl hcm
        have x5 : Ext p H H5 := x4.trans (Ext.same sm)
        have P5 := P4.stay sm
        refine ⟨_, rfl, _, rfl, by show 10 ≤ sizeLine; decide, fun q hq => ?_⟩
        refine ⟨p, pc, _, _, T0 + 3, rfl, .lst (SqL.of upd_same), by simp, by show 10 ≤ 1000; decide, P5.new hq, by omega, fun v H6 hm P6 x6 => ?_⟩
        have fin : ∃ z, v = .str z ∧ Few z := by
          simp only [List.mem_cons, List.not_mem_nil, or_false] at hm
          rcases hm with rfl | rfl | rfl | rfl | rfl | rfl | rfl | rfl | rfl | rfl
          all_goals first
            | exact ⟨_, rfl, fz⟩
            | exact ⟨_, rfl, few_of (by decide +kernel)⟩
        obtain ⟨z, rfl, hz⟩ := fin
        exact k z H6 hz P6 (x5.trans ((Ext.new hq).trans x6))

abbrev s_lword : Stmt := top 10
theorem sc_lword : FnScope ["_law_pen_here", "_law_signs_here", "_law_least", "_law_most_letters", "_law_many", "_law_k"] ["_law_pen_here", "_law_signs_here", "_law_least", "_law_most_letters"] (defScope s_lword) := ⟨rfl, rfl, rfl, by decide +kernel, rfl, by decide +kernel, by decide +kernel⟩
theorem b_lword {f : Addr} {fd : FuncData} (F : Fun K "_law_word" "_law_word" s_lword f fd) (T : Txt mg) (c_ldraw : CalG P w K mg base CX0 1 "_law_draw" spDraw) (c_lpick : CalG P w K mg base CX0 2 "_law_pick" (spPick K)) : FnG P w K mg base CX0 3 f fd ["_law_pen_here", "_law_signs_here", "_law_least", "_law_most_letters"] spWord := by
  refine okG0 F sc_lword (fun vs H Q E h => ?_) (fun cdv A outer s H vs Q E hg hr h => ?_)
  · obtain ⟨p, pc, z, a, b, T0, rfl, _⟩ := h
    rfl
  · have hu := hu_of hr
    have hu64 := hr.units
    obtain ⟨p, pc, z, a, b, T0, rfl, hab, hb, hz1, hz, hpen, hT, k⟩ := h
    have hr2 : Room 2 _ := hr
    refine ⟨_, (pss_cons (ps_set (i := 4) sc_lword.nd rfl (Or.inl rfl) (pe_op op_add (pv 2) (pe_cG c_ldraw hg hr (by decide) pass0 (pa_cons (pv 0) (pa_cons (pe_op op_add (pe_op op_sub (pv 3) (pv 2)) pe_int) pa_nil)))))
      (pss_one (ps_ret (pe_join pe_str (pe_lc (own := [("_law_k", 5)]) (g := gName 5) (tt := tYes) rfl sc_lword.nd (pi_range1 rfl T.range (pa_cons (pv 4) pa_nil)) (blkOk_by (own := [("_law_k", 5)]) (N := ["_law_pen_here", "_law_signs_here", "_law_least", "_law_most_letters", "_law_many", "_law_k"]) (sc := defScope s_lword) (by decide +kernel)) (fun _ _ _ _ _ => (pg_name (i := 5) sc_lword.nd rfl (Or.inl rfl))) (fun _ _ _ _ _ => pts_nil) (fun _ _ _ _ _ => (pe_cG c_lpick hg hr (by decide) pass0 (pa_cons (pv 0) (pa_cons (pv 1) pa_nil))))))))), ?_⟩
    refine ⟨_, rfl, _, rfl, _, rfl, _, rfl, _, _, rfl, rfl, _, _, rfl, rfl, p, pc, _, T0, rfl, by omega, by omega, hpen, by omega, fun d H1 d0 d1 P1 x1 => ?_⟩
    refine ⟨_, _, rfl, rfl, ⟨_, rfl⟩, ?_⟩
    obtain ⟨n, rfl⟩ : ∃ n : Nat, d = (n : Int) := ⟨d.toNat, by omega⟩
    refine ⟨_, rfl, _, rfl, by omega, by omega, fun D hD => ?_⟩
    have en : ((a : Int) + (n : Int)).toNat = a + n := by omega
    have hn : a + n ≤ b := by omega
    obtain ⟨nDp, nDc⟩ := P1.apart hD
    refine lc_range (lo := 0) (n := ((a : Int) + (n : Int)).toNat) (fun i H' => ∃ cs : List Nat, H' D = some (.lst (cs.map OneS)) ∧ cs.length = i ∧ (∀ c ∈ cs, c ∈ z.cps.toList) ∧ Pen H' p pc (T0 + 1 + i) ∧ Ext p H H') ?_ ?_ ?_
    · refine ⟨[], upd_same, rfl, fun c hc => absurd hc List.not_mem_nil, P1.new hD, x1.trans (Ext.new hD)⟩
    · rintro i H2 hi ⟨cs, hDc, hcl, hcm, P2, x2⟩
      rw [en] at hi
      refine ⟨rfl, _, rfl, _, rfl, p, pc, _, _, T0 + 1 + i, rfl, .str z hz, opts_ne hz1, opts_le hz, P2, by omega, fun v H3 hm P3 x3 => ?_⟩
      obtain ⟨c, rfl, hc⟩ := ones_of hm
      have d3 := P2.keepI x3 hDc
      refine ⟨_, d3, by rw [List.length_map, hcl]; exact Nat.lt_of_lt_of_le hi (Nat.le_trans hn (Nat.le_trans hb (by decide))), cs ++ [c], ?_, by rw [List.length_append, hcl]; rfl, ?_, ?_, ?_⟩
      · rw [upd_same, List.map_append]
        rfl
      · intro e he
        rcases List.mem_append.mp he with he | he
        · exact hcm e he
        · rw [List.mem_singleton.mp he]
          exact hc
      · exact P3.set nDp nDc
      · exact fun b o e hb => by
          rw [upd_ne (fun q => by rw [q, x1.none_of nDp hD] at e; cases e)]
          exact x3 b o (x2 b o e hb) hb
    · rintro H2 ⟨cs, hDc, hcl, hcm, P2, x2⟩
      refine ⟨_, D, cs.map fun c => ⟨#[c]⟩, rfl, rfl, .inl (SqL.of (by rw [ones_map]; exact hDc)), ?_, ?_⟩
      · rw [ones_len]
        show cs.length + _ * 0 ≤ _
        omega
      · rw [join_ones]
        rw [en] at hcl P2
        exact k _ H2 ⟨by show a ≤ cs.toArray.size; rw [List.size_toArray]; omega, by show cs.toArray.size ≤ b; rw [List.size_toArray]; omega, by simpa using hcm⟩ (P2.mono (by omega)) x2

abbrev s_lplaces : Stmt := top 11
theorem sc_lplaces : FnScope ["_law_text_here", "_law_was", "_law_size", "_law_k"] ["_law_text_here", "_law_was"] (defScope s_lplaces) := ⟨rfl, rfl, rfl, by decide +kernel, rfl, by decide +kernel, by decide +kernel⟩
theorem b_lplaces {f : Addr} {fd : FuncData} (F : Fun K "_law_places" "_law_places" s_lplaces f fd) (T : Txt mg) : FnG P w K mg base CX0 1 f fd ["_law_text_here", "_law_was"] (spPlaces K) := by
  refine okG0 F sc_lplaces (fun vs H Q E h => ?_) (fun cdv A outer s H vs Q E hg hr h => ?_)
  · obtain ⟨x, wd, rfl, _⟩ := h
    rfl
  · have hu := hu_of hr
    have hu64 := hr.units
    obtain ⟨x, wd, rfl, hx, hw, k⟩ := h
    refine ⟨_, (pss_cons (ps_set (i := 2) sc_lplaces.nd rfl (Or.inr rfl) (pe_callB call_len (by rfl) T.len (by decide +kernel) (pa_cons (pv 1) pa_nil)))
      (pss_one (ps_ret (pe_lc (own := [("_law_k", 3)]) (g := gName 3) rfl sc_lplaces.nd (pi_range1 rfl T.range (pa_cons (pe_op op_add (pe_op op_sub (pe_callB call_len (by rfl) T.len (by decide +kernel) (pa_cons (pv 0) pa_nil)) (pv 2)) pe_int) pa_nil)) (blkOk_by (own := [("_law_k", 3)]) (N := ["_law_text_here", "_law_was", "_law_size", "_law_k"]) (sc := defScope s_lplaces) (by decide +kernel)) (fun _ _ _ _ _ => (pg_name (i := 3) sc_lplaces.nd rfl (Or.inl rfl))) (fun _ _ _ _ _ => (pts_one (pt_cmpR op_eq (pe_slice sl_str (pv 0) (po_some (pv 3)) (po_some (pe_op op_add (pv 3) (pv 2)))) (pv 1) (nomark _)))) (fun _ _ _ _ _ => (pv 3)))))), ?_⟩
    have hx24 : x.length ≤ sizeLine := Nat.le_trans hx (by decide)
    have hw24 : wd.length ≤ sizeLine := Nat.le_trans hw (by decide)
    refine ⟨_, rfl, _, _, rfl, ⟨hw24, rfl⟩, ?_⟩
    refine ⟨_, rfl, _, _, rfl, ⟨hx24, rfl⟩, _, rfl, _, _, rfl, rfl, _, _, rfl, rfl, _, rfl, by omega, by omega, fun D hD => ?_⟩
    refine lc_range (lo := 0) (n := ((x.length : Int) - (wd.length : Int) + 1).toNat) (fun i H' => H' D = some (.lst ((((List.range i).filter (atB x wd)).map Int.ofNat).map V.int)) ∧ Same H H') ?_ ?_ ?_
    · exact ⟨upd_same, same_new hD⟩
    · rintro i H2 hi ⟨hd, sm⟩
      have hi2 : i + wd.length ≤ x.length := by omega
      refine ⟨rfl, _, rfl, _, rfl, _, rfl, _, rfl, _, rfl, _, _, rfl, rfl, _, rfl, x, rfl, hx24, ?_⟩
      refine ⟨_, rfl, rfl, _, rfl, ?_⟩
      have ec := cut_at x wd i hi2
      rw [show (0 : Int) + (i : Int) = (i : Int) by omega, ec]
      cases hb : atB x wd i with
      | true =>
        refine iteT ?_
        have fl : ((((List.range i).filter (atB x wd)).map Int.ofNat).map V.int).length ≤ i := by
          rw [List.length_map, List.length_map]
          exact Nat.le_trans (List.length_filter_le _ _) (Nat.le_of_eq List.length_range)
        refine ⟨_, rfl, _, hd, Nat.lt_of_le_of_lt fl (Nat.lt_of_le_of_lt (show i ≤ 10002 by omega) (by decide)), ?_, ?_⟩
        · rw [upd_same, filter_snoc hb, List.map_append, List.map_append]
          rfl
        · intro b o e
          exact (upd_ne (fun q => by rw [q, hD] at e; cases e)).trans (sm b o e)
      | false =>
        refine iteF ⟨?_, sm⟩
        rw [hd, filter_more (Nat.le_succ i) fun j h1 h2 => by rw [show j = i by omega]; exact hb]
    · rintro H2 ⟨hd, sm⟩
      refine k D H2 hD ?_ sm
      rw [hd]
      unfold plcI plc
      rw [← filter_more (lo := ((x.length : Int) - (wd.length : Int) + 1).toNat) (m := x.length + 1) (by omega) fun j h1 h2 => by
        unfold atB
        rw [decide_eq_false (by omega)]
        rfl]

theorem cut_upto (x : Str) (M : Nat) : (cutS x none (some (M : Int))).length ≤ M := by
  unfold cutS
  show (List.toArray _).size ≤ M
  rw [List.size_toArray, HT.sIx_nat, HT.sIx_none]
  refine Nat.le_trans (List.length_take_le _ _) ?_
  have := Nat.min_le_left M x.length
  omega
def spNtext : Sp := fun vs H Q _ => ∃ p c z M T, vs = [.ref p, .str z, .int (M : Nat)] ∧ Few z ∧ M ≤ 100 ∧ Pen H p c T ∧ T + 1000 < 1000000000 ∧ ∀ (x : Str) (H' : Hp), x.length ≤ M → Pen H' p c (T + 100) → Ext p H H' → Q (.str x) H'
abbrev s_lntext : Stmt := top 12
theorem sc_lntext : FnScope ["_law_pen_here", "_law_signs_here", "_law_most_letters", "_law_some", "_law_found", "_law_k"] ["_law_pen_here", "_law_signs_here", "_law_most_letters"] (defScope s_lntext) := ⟨rfl, rfl, rfl, by decide +kernel, rfl, by decide +kernel, by decide +kernel⟩
theorem b_lntext {f : Addr} {fd : FuncData} (F : Fun K "_law_ntext" "_law_ntext" s_lntext f fd) (T : Txt mg) (c_ldraw : CalG P w K mg base CX0 1 "_law_draw" spDraw) (c_lpick : CalG P w K mg base CX0 2 "_law_pick" (spPick K)) (c_lword : CalG P w K mg base CX0 3 "_law_word" spWord) : FnG P w K mg base CX0 4 f fd ["_law_pen_here", "_law_signs_here", "_law_most_letters"] spNtext := by
  refine okG0 F sc_lntext (fun vs H Q E h => ?_) (fun cdv A outer s H vs Q E hg hr h => ?_)
  · obtain ⟨p, pc, z, M, T0, rfl, _⟩ := h
    rfl
  · have hu := hu_of hr
    have hu64 := hr.units
    obtain ⟨p, pc, z, M, T0, rfl, fz, hM, hpen, hT, k⟩ := h
    have hr3 : Room 3 _ := hr
    have z100 : z.length ≤ 1000 := Nat.le_trans fz.2.1 (by decide)
    refine ⟨_, (pss_cons (ps_par (i := 3) (j := 4) (by rfl) sc_lntext.nd rfl rfl (by decide) rfl rfl (pa_cons (pe_lst (pa_cons (pe_cG c_lword hg hr (by decide) pass0 (pa_cons (pv 0) (pa_cons (pv 1) (pa_cons pe_int (pa_cons pe_int pa_nil))))) (pa_cons (pe_cG c_lword hg hr (by decide) pass0 (pa_cons (pv 0) (pa_cons (pv 1) (pa_cons pe_int (pa_cons pe_int pa_nil))))) pa_nil))) (pa_cons pe_str pa_nil)) (by rfl))
      (pss_cons (ps_for PassesOwn.never rfl (pi_range1 rfl T.range (pa_cons (pe_cG c_ldraw hg hr (by decide) pass0 (pa_cons (pv 0) (pa_cons pe_int pa_nil))) pa_nil)) (pg_name (i := 5) sc_lntext.nd rfl (Or.inl rfl)) (pss_one (ps_set (i := 4) sc_lntext.nd rfl (Or.inl rfl) (pe_op op_add_str (pv 4) (pe_cG c_lpick hg hr (by decide) pass0 (pa_cons (pv 0) (pa_cons (pe_op op_cat (pv 3) (pe_lst (pa_cons (pe_cG c_lpick hg hr (by decide) pass0 (pa_cons (pv 0) (pa_cons (pv 1) pa_nil))) pa_nil))) pa_nil)))))))
      (pss_one (ps_ret (pe_slice sl_str (pv 4) po_none (po_some (pv 2))))))), ?_⟩
    refine ⟨_, rfl, _, rfl, p, pc, z, 1, 4, T0, rfl, by decide, by decide, fz.1, z100, hpen, by omega, fun w1 H1 g1 P1 x1 => ?_⟩
    refine ⟨_, rfl, _, rfl, p, pc, z, 1, 3, _, rfl, by decide, by decide, fz.1, z100, P1, by omega, fun w2 H2 g2 P2 x2 => ?_⟩
    refine ⟨by show 2 ≤ sizeLine; decide, fun b hb => ?_⟩
    have sb := same_new (o := .lst [.str w1, .str w2]) hb
    have P3 := P2.stay sb
    have x3 : Ext p H _ := (x1.trans x2).trans (Ext.same sb)
    refine ⟨_, _, rfl, _, rfl, p, pc, 9, _, rfl, by decide, by decide, P3, by omega, fun n H4 n0 n1 P4 x4 => ?_⟩
    have hb4 := P3.keepI x4 upd_same
    refine ⟨_, rfl, by omega, by omega, ?_⟩
    refine for_range (lo := 0) (n := n.toNat) (fun i σ H' => ∃ (o5 : Option V) (f : Str), σ = [some (.ref p), some (.str z), some (.int (M : Nat)), some (.ref b), some (.str f), o5] ∧ f.length ≤ 100 * i ∧ Pen H' p pc (T0 + 20 + 2 * i) ∧ Ext p H H' ∧ H' b = some (.lst [.str w1, .str w2])) ?_ ?_ ?_
    · exact ⟨_, "", rfl, by show 0 ≤ _; omega, P4.mono (by omega), x3.trans x4, hb4⟩
    · rintro i σ H5 hi ⟨o5, f, rfl, hf, P5, x5, hb5⟩
      refine ⟨_, rfl, _, rfl, _, rfl, _, rfl, _, rfl, p, pc, _, _, _, rfl, .str z z100, opts_ne fz.1, opts_le z100, P5, by omega, fun v H6 hv P6 x6 => ?_⟩
      obtain ⟨cv, rfl, hcv⟩ := ones_of hv
      have hb6 := P5.keepI x6 hb5
      refine ⟨by show 1 ≤ sizeLine; decide, fun q hq => ?_⟩
      have sq := same_new (o := .lst [OneS cv]) hq
      refine ⟨b, q, _, _, rfl, rfl, sq _ _ hb6, upd_same, by show 3 ≤ sizeLine; decide, fun q2 hq2 => ?_⟩
      have sq2 := same_new (o := .lst [.str w1, .str w2, OneS cv]) hq2
      have P7 := (P6.stay sq).stay sq2
      refine ⟨p, pc, _, _, _, rfl, .lst (SqL.of upd_same), (fun z => by cases z), by show 3 ≤ 1000; decide, P7, by omega, fun v H8 hv2 P8 x8 => ?_⟩
      have hb8 := P7.keepI x8 (sq2 _ _ (sq _ _ hb6))
      have ev : ∃ y : Str, v = .str y ∧ y.length ≤ 100 := by
        simp only [List.mem_append, List.mem_cons, List.not_mem_nil, or_false] at hv2
        rcases hv2 with (rfl | rfl) | rfl
        · exact ⟨w1, rfl, Nat.le_trans g1.2.1 (by decide)⟩
        · exact ⟨w2, rfl, Nat.le_trans g2.2.1 (by decide)⟩
        · exact ⟨_, rfl, by show 1 ≤ 100; decide⟩
      obtain ⟨y, rfl, hy⟩ := ev
      refine ⟨_, _, rfl, rfl, Nat.le_of_lt (fewL (by omega)), _, f ++ y, rfl, ?_, P8.mono (by omega), (x5.trans x6).trans (((Ext.same sq).trans (Ext.same sq2)).trans x8), hb8⟩
      rw [strLen_append]
      omega
    · rintro σ H5 ⟨o5, f, rfl, hf, P5, x5, hb5⟩
      refine ⟨_, rfl, _, rfl, _, rfl, f, rfl, Nat.le_of_lt (fewL (by have : n.toNat ≤ 9 := by omega
                                                                     omega)), k _ _ (cut_upto f M) (P5.mono (by omega)) x5⟩

end
end Vk
set_option Elab.async false
set_option maxRecDepth 100000
set_option linter.all false
set_option maxHeartbeats 4000000
namespace Vk
open PySem PySem.Spec PyProof.Rows L2
section
variable {P : Program} {w : World} {K : PySem.W.Frag} {mg : Str → Option Value} {base : Heap}
theorem nuMin2_nat (a b : Nat) : nuMin2 (.int (a : Nat)) (.int (b : Nat)) = some (.int ((min a b : Nat) : Int)) := by
  show (some (decide ((b : Int) < (a : Int)))).map (fun c => if c = true then V.int (b : Nat) else V.int (a : Nat)) = _
  by_cases h : b < a
  · rw [decide_eq_true (show (b : Int) < (a : Int) by omega), show min a b = b by omega]; rfl
  · rw [decide_eq_false (show ¬ (b : Int) < (a : Int) by omega), show min a b = a by omega]; rfl
theorem nuMin3_nat (a b c : Nat) : nuMin3 (.int (a : Nat)) (.int (b : Nat)) (.int (c : Nat)) = some (.int ((min (min a b) c : Nat) : Int)) := by
  show (nuMin2 (.int (a : Nat)) (.int (b : Nat))).bind (fun m => nuMin2 m (.int (c : Nat))) = _
  rw [nuMin2_nat]
  exact nuMin2_nat _ _
/-- a row of distances -/
def rowN (l r : Str) (k n : Nat) : List V := (List.range n).map fun j => V.int (edD (ltr l) (ltr r) k j : Nat)
theorem rowN_len {l r : Str} {k n : Nat} : (rowN l r k n).length = n := by unfold rowN; rw [List.length_map, List.length_range]
theorem rowN_at {l r : Str} {k n j : Nat} (h : j < n) : (rowN l r k n)[j]? = some (.int (edD (ltr l) (ltr r) k j : Nat)) := by
  unfold rowN
  rw [List.getElem?_map, List.getElem?_range h]
  rfl
theorem rowN_snoc {l r : Str} {k n : Nat} : rowN l r k n ++ [.int (edD (ltr l) (ltr r) k n : Nat)] = rowN l r k (n + 1) := by
  unfold rowN
  rw [List.range_succ, List.map_append]
  rfl
theorem row_0 {l r : Str} {n : Nat} : rgV 0 ((n : Nat) : Int) = rowN l r 0 n := by
  unfold rgV rowN
  rw [show (((n : Nat) : Int) - 0).toNat = n by omega]
  refine List.map_congr_left fun j _ => ?_
  rw [edD_0, Int.zero_add]
def RowL (H : Hp) (l r : Str) : List V → List Nat → Prop := Paired (fun v k => ∃ t, v = V.ref t ∧ H t = some (.lst (rowN l r k (r.length + 1))))
theorem RowL.keep {H H1 : Hp} {l r : Str} {xs : List V} {ks : List Nat} (h : RowL H l r xs ks) (s : Same H H1) : RowL H1 l r xs ks := pair_mono (fun v p ⟨t, e, ht⟩ => ⟨t, e, s _ _ ht⟩) h
theorem RowL.upd {H : Hp} {l r : Str} {a : Addr} {o : HO} : ∀ {xs : List V} {ks : List Nat}, RowL H l r xs ks → (∀ v ∈ xs, v ≠ V.ref a) → RowL (upd H a o) l r xs ks
  | _, _, .nil, _ => .nil
  | _, _, .cons b t, h => .cons (by
      obtain ⟨u, e, hu⟩ := b
      refine ⟨u, e, ?_⟩
      rw [upd_ne (fun z => h _ List.mem_cons_self (by rw [e, z]))]
      exact hu) (RowL.upd t fun v hv => h v (List.mem_cons_of_mem _ hv))
def spRows : Sp := fun vs H Q _ => ∃ l r, vs = [.str l, .str r] ∧ l.length ≤ 30 ∧ r.length ≤ 30 ∧ ∀ a refs H', H a = none → H' a = some (.lst refs) → RowL H' l r refs (List.range (l.length + 1)) → Same H H' → Q (.ref a) H'
def spApart : Sp := fun vs H Q _ => ∃ l r, vs = [.str l, .str r] ∧ l.length ≤ 30 ∧ r.length ≤ 30 ∧ ∀ H', Same H H' → Q (.int (edD (ltr l) (ltr r) l.length r.length : Nat)) H'
theorem at_ltr {x : Str} {i : Nat} (h : i < x.length) : atI x.cps.toList ((i : Nat) : Int) = some (ltr x i) := by
  refine atI_nat ?_
  unfold ltr
  have h2 : i < x.cps.toList.length := by rw [Array.length_toList]; exact h
  rw [List.getD_eq_getElem?_getD, List.getElem?_eq_getElem h2]
  rfl
abbrev s_lnrows : Stmt := top 13
theorem sc_lnrows : FnScope ["_law_left", "_law_right", "_law_rows", "_law_k", "_law_row", "_law_j", "_law_here"] ["_law_left", "_law_right"] (defScope s_lnrows) := ⟨rfl, rfl, rfl, by decide +kernel, rfl, by decide +kernel, by decide +kernel⟩
theorem b_lnrows {f : Addr} {fd : FuncData} (F : Fun K "_law_nrows" "_law_nrows" s_lnrows f fd) (T : Txt mg) : FnG P w K mg base CX0 1 f fd ["_law_left", "_law_right"] spRows := by
  refine okG0 F sc_lnrows (fun vs H Q E h => ?_) (fun cdv A outer s H vs Q E hg hr h => ?_)
  · obtain ⟨l, r, rfl, _⟩ := h
    rfl
  · have hu := hu_of hr
    have hu64 := hr.units
    obtain ⟨l, r, rfl, hl, hr0, k⟩ := h
    have ll : l.length ≤ sizeLine := Nat.le_trans hl (by decide)
    have rl : r.length ≤ sizeLine := Nat.le_trans hr0 (by decide)
    refine ⟨_, (pss_cons (ps_set (i := 2) sc_lnrows.nd rfl (Or.inl rfl) (pe_lst (pa_cons (pe_listRg rfl (by rfl) T.list (prg_1 (by rfl) T.range (pe_op op_add (pe_callB call_len (by rfl) T.len (by decide +kernel) (pa_cons (pv 1) pa_nil)) pe_int))) pa_nil)))
      (pss_cons (ps_for PassesOwn.never rfl (pi_range1 rfl T.range (pa_cons (pe_callB call_len (by rfl) T.len (by decide +kernel) (pa_cons (pv 0) pa_nil)) pa_nil)) (pg_name (i := 3) sc_lnrows.nd rfl (Or.inl rfl)) (pss_cons (ps_set (i := 4) sc_lnrows.nd rfl (Or.inl rfl) (pe_lst (pa_cons (pe_op op_add (pv 3) pe_int) pa_nil)))
      (pss_cons (ps_for PassesOwn.never rfl (pi_range1 rfl T.range (pa_cons (pe_callB call_len (by rfl) T.len (by decide +kernel) (pa_cons (pv 1) pa_nil)) pa_nil)) (pg_name (i := 5) sc_lnrows.nd rfl (Or.inl rfl)) (pss_cons (ps_set (i := 6) sc_lnrows.nd rfl (Or.inl rfl) (pe_op op_add (pe_ix ix_list (pe_ix ix_list (pv 2) (pv 3) (fun _ _ => rfl)) (pv 5) (fun _ _ => rfl)) (pe_callTy call_int1 (by rfl) T.int (by decide +kernel) (pa_cons (pe_cmpR op_ne (pe_ix ix_seq (pv 0) (pv 3) (fun _ _ => rfl)) (pe_ix ix_seq (pv 1) (pv 5) (fun _ _ => rfl)) (nomark _)) pa_nil))))
      (pss_one (ps_expr (pe_bm PySem.F.plainAttrs_list PySem.F.slot_list_append PySem.F.type_list_append mt_append (pv 4) (pa_cons (pe_callB (call_min3Nu rfl) (by rfl) T.min (by decide +kernel) (pa_cons (pv 6) (pa_cons (pe_op op_add (pe_ix ix_list (pe_ix ix_list (pv 2) (pv 3) (fun _ _ => rfl)) (pe_op op_add (pv 5) pe_int) (fun _ _ => rfl)) pe_int) (pa_cons (pe_op op_add (pe_ix ix_list (pv 4) (pv 5) (fun _ _ => rfl)) pe_int) pa_nil)))) pa_nil))))))
      (pss_one (ps_expr (pe_bm PySem.F.plainAttrs_list PySem.F.slot_list_append PySem.F.type_list_append mt_append (pv 2) (pa_cons (pv 4) pa_nil)))))))
      (pss_one (ps_ret (pv 2))))), ?_⟩
    refine ⟨_, rfl, _, _, rfl, ⟨rl, rfl⟩, _, _, rfl, rfl, _, rfl, ⟨by decide, by decide, by omega, by omega, by omega⟩, fun t0 ht0 => ?_⟩
    have en : ((r.length : Nat) : Int) + 1 = ((r.length + 1 : Nat) : Int) := by omega
    rw [en, row_0 (l := l) (r := r)]
    have st0 := same_new (o := .lst (rowN l r 0 (r.length + 1))) ht0
    refine ⟨by show 1 ≤ sizeLine; decide, fun a ha => ?_⟩
    have sa := same_new (o := .lst [.ref t0]) ha
    have haH := none_up st0 ha
    refine ⟨_, rfl, _, _, rfl, ⟨ll, rfl⟩, _, rfl, by omega, by omega, ?_⟩
    refine for_range (lo := 0) (n := ((l.length : Nat) : Int).toNat) (fun i σ H2 => ∃ (o3 o4 o5 o6 : Option V) (refs : List V), σ = [some (.str l), some (.str r), some (.ref a), o3, o4, o5, o6] ∧ H2 a = some (.lst refs) ∧ RowL H2 l r refs (List.range (i + 1)) ∧ Same H H2 ∧ ∀ v ∈ refs, v ≠ V.ref a) ?_ ?_ ?_
    · exact ⟨_, _, _, _, [.ref t0], rfl, upd_same, .cons ⟨t0, rfl, sa _ _ upd_same⟩ .nil, st0.trans sa, fun v hv e => by
        rw [List.mem_singleton.mp hv] at e
        cases e
        rw [upd_same] at ha
        cases ha⟩
    · rintro i σ H2 hi ⟨o3, o4, o5, o6, refs, rfl, ha2, rw2, s2, hne⟩
      have hi1 : i < l.length := by omega
      have gl := paired_len rw2
      rw [List.length_range] at gl
      rw [Int.zero_add]
      refine ⟨_, rfl, _, _, rfl, rfl, by show 1 ≤ sizeLine; decide, fun q hq => ?_⟩
      have sq := same_new (o := .lst [.int ((i : Int) + 1)]) hq
      have e0 : [V.int ((i : Int) + 1)] = rowN l r (i + 1) (0 + 1) := by
        unfold rowN
        show _ = [V.int (edD (ltr l) (ltr r) (i + 1) 0 : Nat)]
        rw [edD_s0]
        rfl
      rw [e0] at sq ⊢
      refine ⟨_, rfl, _, _, rfl, ⟨rl, rfl⟩, _, rfl, by omega, by omega, ?_⟩
      have hqH := none_up s2 hq
      obtain ⟨v, hv⟩ : ∃ v, refs[i]? = some v := ⟨refs[i]'(by omega), List.getElem?_eq_getElem (by omega)⟩
      obtain ⟨i', hi', t, rfl, ht⟩ := paired_at rw2 hv
      have ei : i' = i := by
        rw [List.getElem?_range (by omega)] at hi'
        exact (Option.some.inj hi').symm
      subst ei
      refine for_range (lo := 0) (n := ((r.length : Nat) : Int).toNat) (fun j σ H3 => ∃ (o5 o6 : Option V), σ = [some (.str l), some (.str r), some (.ref a), some (.int (i' : Nat)), some (.ref q), o5, o6] ∧ H3 q = some (.lst (rowN l r (i' + 1) (j + 1))) ∧ Same H2 H3) ?_ ?_ ?_
      · exact ⟨_, _, rfl, upd_same, sq⟩
      · rintro j σ H3 hj ⟨o5, o6, rfl, hq3, s3⟩
        have hj1 : j < r.length := by omega
        rw [Int.zero_add]
        have ta : atI (rowN l r i' (r.length + 1)) ((j : Nat) : Int) = _ := atI_nat (rowN_at (by omega))
        have tb : atI (rowN l r i' (r.length + 1)) ((j : Nat) + 1 : Int) = _ := atI_nat (j := j + 1) (rowN_at (by omega))
        have tc : atI (rowN l r (i' + 1) (j + 1)) ((j : Nat) : Int) = _ := atI_nat (rowN_at (by omega))
        refine ⟨_, rfl, _, rfl, a, _, _, _, rfl, rfl, SqL.of (s3 _ _ ha2), atI_nat hv, _, rfl, t, _, _, _, rfl, rfl, SqL.of (s3 _ _ ht), ta, ?_⟩
        refine ⟨_, rfl, _, rfl, .inr (.inr ⟨l, _, _, rfl, rfl, ll, at_ltr hi1, ?_⟩)⟩
        refine ⟨_, rfl, _, rfl, .inr (.inr ⟨r, _, _, rfl, rfl, rl, at_ltr hj1, ?_⟩)⟩
        refine ⟨rfl, .inr ⟨_, rfl, ?_⟩⟩
        have ed := edD_ss (A := ltr l) (B := ltr r) (i := i') (j := j)
        generalize hx1 : edD (ltr l) (ltr r) i' j = e1 at ta ed ⊢
        generalize hx2 : edD (ltr l) (ltr r) i' (j + 1) = e2 at tb ed ⊢
        generalize hx3 : edD (ltr l) (ltr r) (i' + 1) j = e3 at tc ed ⊢
        have en3 : ((e1 : Nat) : Int) + (if (!decide (V.str ⟨#[ltr l i']⟩ = V.str ⟨#[ltr r j]⟩)) = true then 1 else 0) = ((e1 + neq (ltr l i') (ltr r j) : Nat) : Int) := by
          have q := ones_eq (ltr l i') (ltr r j)
          rw [show decide (V.str ⟨#[ltr l i']⟩ = V.str ⟨#[ltr r j]⟩) = decide (ltr l i' = ltr r j) from q]
          unfold neq
          by_cases h : ltr l i' = ltr r j
          · rw [decide_eq_true h, if_pos h]; simp
          · rw [decide_eq_false h, if_neg h]; simp
        have q3 : nuMin3 (.int (((e1 : Nat) : Int) + (if (!decide (V.str ⟨#[ltr l i']⟩ = V.str ⟨#[ltr r j]⟩)) = true then 1 else 0))) (.int ((e2 : Nat) + 1)) (.int ((e3 : Nat) + 1)) = some (.int ((min (min (e1 + neq (ltr l i') (ltr r j)) (e2 + 1)) (e3 + 1) : Nat) : Int)) := by
          rw [en3]
          exact nuMin3_nat _ (e2 + 1) (e3 + 1)
        refine ⟨_, _, rfl, rfl, ?_⟩
        refine ⟨_, rfl, .inl ⟨rfl, _, SqL.of hq3⟩, _, rfl, _, rfl, _, rfl, a, _, _, _, rfl, rfl, SqL.of (s3 _ _ ha2), atI_nat hv, _, rfl, _, _, rfl, rfl, t, _, _, _, rfl, rfl, SqL.of (s3 _ _ ht), tb, _, _, rfl, rfl, ?_⟩
        refine ⟨_, rfl, _, rfl, q, _, _, _, rfl, rfl, SqL.of hq3, tc, _, _, rfl, rfl, _, _, _, _, rfl, q3, ?_⟩
        refine ⟨q, _, _, rfl, rfl, hq3, fewL (by rw [rowN_len]; omega), _, _, rfl, ?_, upd_out hq s3⟩
        rw [upd_same, ← ed, rowN_snoc]
      · rintro σ H3 ⟨o5, o6, rfl, hq3, s3⟩
        rw [Int.toNat_natCast] at hq3
        have ha3 := s3 _ _ ha2
        refine ⟨_, rfl, .inl ⟨rfl, _, SqL.of ha3⟩, _, rfl, a, _, _, rfl, rfl, ha3, fewL (by omega), _, _, _, _, refs ++ [.ref q], rfl, upd_same, ?_, upd_out haH (s2.trans s3), ?_⟩
        · have nqa : q ≠ a := fun e => by rw [e, ha2] at hq; cases hq
          rw [List.range_succ (n := i' + 1)]
          refine Paired.snoc ((rw2.keep s3).upd hne) ⟨q, rfl, ?_⟩
          rw [upd_ne nqa]
          exact hq3
        · intro v hv e
          rcases List.mem_append.mp hv with hv | hv
          · exact hne v hv e
          · rw [List.mem_singleton.mp hv] at e
            cases e
            rw [ha2] at hq
            cases hq
    · rintro σ H2 ⟨o3, o4, o5, o6, refs, rfl, ha2, rw2, s2, hne⟩
      rw [Int.toNat_natCast] at rw2
      exact ⟨_, rfl, k a refs H2 haH ha2 rw2 s2⟩

abbrev s_lnapart : Stmt := top 14
theorem sc_lnapart : FnScope ["_law_left", "_law_right"] ["_law_left", "_law_right"] (defScope s_lnapart) := ⟨rfl, rfl, rfl, by decide +kernel, rfl, by decide +kernel, by decide +kernel⟩
theorem b_lnapart {f : Addr} {fd : FuncData} (F : Fun K "_law_napart" "_law_napart" s_lnapart f fd) (T : Txt mg) (c_lnrows : CalG P w K mg base CX0 1 "_law_nrows" spRows) : FnG P w K mg base CX0 2 f fd ["_law_left", "_law_right"] spApart := by
  refine okG0 F sc_lnapart (fun vs H Q E h => ?_) (fun cdv A outer s H vs Q E hg hr h => ?_)
  · obtain ⟨l, r, rfl, _⟩ := h
    rfl
  · have hu := hu_of hr
    have hu64 := hr.units
    obtain ⟨l, r, rfl, hl, hr0, k⟩ := h
    have hr1 : Room 1 _ := hr
    refine ⟨_, (pss_one (ps_ret (pe_ix ix_list (pe_ix ix_list (pe_cG c_lnrows hg hr (by decide) pass0 (pa_cons (pv 0) (pa_cons (pv 1) pa_nil))) (pe_un un_neg pe_int) (fun _ _ => rfl)) (pe_un un_neg pe_int) (fun _ _ => rfl)))), ?_⟩
    refine ⟨_, rfl, _, rfl, l, r, rfl, hl, hr0, fun a refs H1 ha ha1 rw1 s1 => ?_⟩
    have gl := paired_len rw1
    rw [List.length_range] at gl
    obtain ⟨v, hv⟩ : ∃ v, refs[l.length]? = some v := ⟨refs[l.length]'(by omega), List.getElem?_eq_getElem (by omega)⟩
    obtain ⟨i', hi', t, rfl, ht⟩ := paired_at rw1 hv
    have ei : i' = l.length := by
      rw [List.getElem?_range (by omega)] at hi'
      exact (Option.some.inj hi').symm
    subst ei
    refine ⟨_, rfl, a, _, _, _, rfl, rfl, SqL.of ha1, atI_end hv (by omega), _, rfl, t, _, _, _, rfl, rfl, SqL.of ht, atI_end (rowN_at (j := r.length) (by omega)) rowN_len, ?_⟩
    exact k _ s1

end
end Vk
set_option Elab.async false
set_option maxRecDepth 100000
set_option linter.all false
set_option maxHeartbeats 4000000
namespace Vk
open PySem PySem.Spec PyProof.Rows L2
section
variable {P : Program} {w : World} {K : PySem.W.Frag} {mg : Str → Option Value} {base : Heap}
def spLaw (K : PySem.W.Frag) : Sp := fun vs H Q _ => ∃ (a : Addr) (ns : List Int), vs = [.ref a] ∧ SqL K H a (ns.map V.int) ∧ ns.length ≤ 63 ∧ ∀ H', Q (.bl true) H'
def TrN (H : Hp) : List V → List (Nat × Nat × Nat) → Prop := Paired (fun v (r : Nat × Nat × Nat) => ∃ t, v = V.ref t ∧ H t = some (.tup [.int (r.1 : Nat), .int (r.2.1 : Nat), .int (r.2.2 : Nat)]))
theorem TrN.keep {H H1 : Hp} {xs : List V} {rs : List (Nat × Nat × Nat)} (h : TrN H xs rs) (s : Same H H1) : TrN H1 xs rs := pair_mono (fun v p ⟨t, e, ht⟩ => ⟨t, e, s _ _ ht⟩) h
theorem TrN.keepT {H H1 : Hp} {xs : List V} {rs : List (Nat × Nat × Nat)} (h : TrN H xs rs) (s : ∀ u ws, H u = some (.tup ws) → H1 u = some (.tup ws)) : TrN H1 xs rs := pair_mono (fun v p ⟨t, e, ht⟩ => ⟨t, e, s _ _ ht⟩) h
theorem cut_ab {x : Str} {a b : Nat} (h1 : a ≤ b) (h2 : b ≤ x.length) : cutS x (some (a : Int)) (some (b : Int)) = ⟨((x.cps.toList.drop a).take (b - a)).toArray⟩ := by
  unfold cutS
  rw [HT.sIx_nat, HT.sIx_nat, Nat.min_eq_left h2, Nat.min_eq_left (Nat.le_trans h1 h2)]
theorem cut_len {x : Str} {a b : Nat} (h1 : a ≤ b) (h2 : b ≤ x.length) : (cutS x (some (a : Int)) (some (b : Int))).length = b - a := by
  rw [cut_ab h1 h2]
  show (List.toArray _).size = _
  have : x.cps.toList.length = x.length := Array.length_toList
  rw [List.size_toArray, List.length_take, List.length_drop]
  omega
theorem cut_ltr {x : Str} {a b t : Nat} (h1 : a ≤ b) (h2 : b ≤ x.length) (ht : t < b - a) : ltr (cutS x (some (a : Int)) (some (b : Int))) t = ltr x (a + t) := by
  rw [cut_ab h1 h2]
  unfold ltr
  show (List.getD (List.take _ _) t 0) = _
  rw [List.getD_eq_getElem?_getD, List.getD_eq_getElem?_getD, List.getElem?_take, if_pos ht, List.getElem?_drop]
theorem cut_apart {x w : Str} {a b : Nat} (h1 : a ≤ b) (h2 : b ≤ x.length) : edD (ltr (cutS x (some (a : Int)) (some (b : Int)))) (ltr w) (cutS x (some (a : Int)) (some (b : Int))).length w.length = fD (ltr x) (ltr w) a b w.length := by
  unfold fD
  rw [cut_len h1 h2]
  exact edD_congr _ _ (fun t ht => cut_ltr h1 h2 ht) (fun t _ => rfl)
theorem fD_le {X B : Nat → Nat} {a b m : Nat} : fD X B a b m ≤ b - a + m := edD_up _ _
theorem rowsW_length {X B : Nat → Nat} {m n : Nat} : ∀ {k : Nat}, (rowsW X B m n k).length ≤ k * n
  | 0 => by simp [rowsW]
  | k + 1 => by
    have := rowsW_length (X := X) (B := B) (m := m) (n := n) (k := k)
    rw [rowsW_succ, List.length_append, List.length_map, List.length_range', Nat.succ_mul]
    omega
def trD (r : Nat × Nat × Nat) : PyData := .tuple [.int (r.1 : Nat), .int (r.2.1 : Nat), .int (r.2.2 : Nat)]
theorem trs_dp {K : PySem.W.Frag} {H : Hp} : ∀ {xs : List V} {rs : List (Nat × Nat × Nat)}, TrN H xs rs → DpAll K H xs (rs.map trD)
  | _, _, .nil => .nil
  | _, _, .cons a t => .cons (by
      obtain ⟨u, rfl, h⟩ := a
      exact .tup (SqT.of h) (.cons (.int _) (.cons (.int _) (.cons (.int _) .nil)))) (trs_dp t)
def pD (p : Nat × Nat) : PyData := .tuple [.int (p.1 : Nat), .int (p.2 : Nat)]
theorem prs_dp {K : PySem.W.Frag} {H : Hp} : ∀ {xs : List V} {rs : List (Nat × Nat)}, PrN H xs rs → DpAll K H xs (rs.map pD)
  | _, _, .nil => .nil
  | _, _, .cons a t => .cons (by
      obtain ⟨u, rfl, h⟩ := a
      exact .tup (SqT.of h) (.cons (.int _) (.cons (.int _) .nil))) (prs_dp t)
theorem depthAll_const : ∀ (ds : List PyData) (n : Nat), (∀ d ∈ ds, d.depth ≤ n) → PyData.depthAll ds ≤ n
  | [], _, _ => Nat.zero_le _
  | d :: r, n, h => Nat.max_le.mpr ⟨h d List.mem_cons_self, depthAll_const r n fun e he => h e (List.mem_cons_of_mem _ he)⟩
theorem canAll_of : ∀ (ds : List PyData), (∀ d ∈ ds, PyData.canLay0 d = true) → PyData.canLayAll0 ds = true
  | [], _ => rfl
  | d :: r, h => by
    show (PyData.canLay0 d && PyData.canLayAll0 r) = true
    rw [h d List.mem_cons_self, canAll_of r fun e he => h e (List.mem_cons_of_mem _ he)]
    rfl
theorem shaped_list {ds : List PyData} {n : Nat} (h1 : ∀ d ∈ ds, PyData.canLay0 d = true) (h2 : ∀ d ∈ ds, d.depth ≤ n) (hn : n ≤ 20) : SeqAt.shaped (.list ds) = true := by
  unfold SeqAt.shaped
  have e1 : PyData.canLay0 (.list ds) = true := canAll_of ds h1
  have e2 : PyData.depth (.list ds) ≤ 21 := Nat.succ_le_succ (Nat.le_trans (depthAll_const ds n h2) hn)
  rw [e1]
  simp
  omega
theorem trs_shaped (rs : List (Nat × Nat × Nat)) : SeqAt.shaped (.list (rs.map trD)) = true := by
  refine shaped_list (n := 1) (fun d hd => ?_) (fun d hd => ?_) (by decide)
  · obtain ⟨r, _, rfl⟩ := List.mem_map.mp hd
    rfl
  · obtain ⟨r, _, rfl⟩ := List.mem_map.mp hd
    exact Nat.le_of_eq rfl
theorem pDs_shaped (rs : List (Nat × Nat)) : SeqAt.shaped (.list (rs.map pD)) = true := by
  refine shaped_list (n := 1) (fun d hd => ?_) (fun d hd => ?_) (by decide)
  · obtain ⟨r, _, rfl⟩ := List.mem_map.mp hd
    rfl
  · obtain ⟨r, _, rfl⟩ := List.mem_map.mp hd
    exact Nat.le_of_eq rfl
theorem pDs_nil (rs : List (Nat × Nat)) : PyData.eqv (.list (rs.map pD)) (.list []) = rs.isEmpty := by
  match rs with
  | [] => rfl
  | r :: t => rfl
theorem trs_nil (rs : List (Nat × Nat × Nat)) : PyData.eqv (.list (rs.map trD)) (.list []) = rs.isEmpty := by
  match rs with
  | [] => rfl
  | r :: t => rfl
theorem pDs_can (rs : List (Nat × Nat)) : PyData.canLay0 (.list (rs.map pD)) = true := canAll_of _ fun d hd => by
  obtain ⟨r, _, rfl⟩ := List.mem_map.mp hd
  rfl
theorem or_both {c : Bool} {T B R : Prop} (h1 : c = true → R → T) (h2 : c = false → R → B) (h : R) : if c = true then T else B := by
  cases c with
  | true => exact h1 rfl h
  | false => exact h2 rfl h
theorem and_cut {c : Bool} {A R : Prop} (h : R) (h2 : c = true → R → A) : if c = true then A else R := by
  cases c with
  | true => exact h2 rfl h
  | false => exact h
theorem dueW_len (few : Nat) (rs : List (Nat × Nat × Nat)) : (dueW few rs).length ≤ rs.length := by
  unfold dueW
  rw [List.length_map]
  exact List.length_filter_le _ _
theorem dueW_snoc {few : Nat} {rs : List (Nat × Nat × Nat)} {r : Nat × Nat × Nat} : dueW few (rs ++ [r]) = dueW few rs ++ (if r.1 = few then [r.2] else []) := by
  unfold dueW
  rw [List.filter_append, List.map_append]
  by_cases h : r.1 = few
  · rw [if_pos h]; simp [h]
  · rw [if_neg h]; simp [h]
def pairD (num : Nat) (ws : List (Nat × Nat)) : PyData := .tuple [.int (num : Nat), .list (ws.map pD)]
theorem pairD_dp {K : PySem.W.Frag} {H : Hp} {t l : Addr} {xs : List V} {num : Nat} {ws : List (Nat × Nat)} (ht : H t = some (.tup [.int (num : Nat), .ref l])) (hl : H l = some (.lst xs)) (pr : PrN H xs ws) : Dp K H (.ref t) (pairD num ws) :=
  .tup (SqT.of ht) (.cons (.int _) (.cons (.lst (SqL.of hl) (prs_dp pr)) .nil))
theorem showy_nat {n : Nat} (h : n ≤ 100) : Showy (.int (n : Nat)) 0 101 := Showy.int (by
  have : (n : Int).natAbs < 10 ^ 100 := by
    rw [Int.natAbs_natCast]
    exact Nat.lt_of_le_of_lt h (by decide +kernel)
  exact this)
theorem pD_showy {p : Nat × Nat} (h : p.1 ≤ 100 ∧ p.2 ≤ 100) : Showy (pD p) 1 208 := (Showy.tuple (k := 0) (n := 101) (ds := [.int (p.1 : Nat), .int (p.2 : Nat)]) (by
  intro d hd
  simp only [List.mem_cons, List.not_mem_nil, or_false] at hd
  rcases hd with rfl | rfl
  · exact showy_nat h.1
  · exact showy_nat h.2)).mono (Nat.le_refl _) (by show 2 * 103 + 2 ≤ 208; decide)
theorem pairs_showy {ws : List (Nat × Nat)} (h2 : ws.length ≤ 100) (h3 : ∀ p ∈ ws, p.1 ≤ 100 ∧ p.2 ≤ 100) : Showy (.list (ws.map pD)) 2 21002 := (Showy.list (k := 1) (n := 208) (ds := ws.map pD) (by
  intro d hd
  obtain ⟨p, hp, rfl⟩ := List.mem_map.mp hd
  exact pD_showy (h3 p hp))).mono (Nat.le_refl _) (by rw [List.length_map]; omega)
theorem pairD_showy {num : Nat} {ws : List (Nat × Nat)} (h1 : num ≤ 100) (h2 : ws.length ≤ 100) (h3 : ∀ p ∈ ws, p.1 ≤ 100 ∧ p.2 ≤ 100) : Showy (pairD num ws) 3 42010 := (Showy.tuple (k := 2) (n := 21002) (ds := [.int (num : Nat), .list (ws.map pD)]) (by
  intro d hd
  simp only [List.mem_cons, List.not_mem_nil, or_false] at hd
  rcases hd with rfl | rfl
  · exact (showy_nat h1).mono (by decide) (by decide)
  · exact pairs_showy h2 h3)).mono (Nat.le_refl _) (by show 2 * 21004 + 2 ≤ 42010; decide)
theorem plc_asc (x w : Str) : (plc x w).Pairwise (· < ·) := List.pairwise_lt_range.filter _
theorem plc_ltr {x w : Str} {k : Nat} : k ∈ plc x w ↔ k + w.length ≤ x.length ∧ ∀ t, t < w.length → ltr x (k + t) = ltr w t := by
  unfold plc atB
  rw [List.mem_filter, List.mem_range, Bool.and_eq_true, decide_eq_true_eq, StrLaws.subAt_eq, beq_iff_eq]
  constructor
  · rintro ⟨_, h1, h2⟩
    refine ⟨h1, fun t ht => ?_⟩
    unfold ltr
    rw [← h2, List.getD_eq_getElem?_getD, List.getD_eq_getElem?_getD, List.getElem?_take, if_pos ht, List.getElem?_drop]
  · rintro ⟨h1, h2⟩
    refine ⟨by omega, h1, List.ext_getElem? fun t => ?_⟩
    have lw : w.cps.toList.length = w.length := Array.length_toList
    have lx : x.cps.toList.length = x.length := Array.length_toList
    by_cases ht : t < w.length
    · have q := h2 t ht
      unfold ltr at q
      rw [List.getD_eq_getElem?_getD, List.getD_eq_getElem?_getD, List.getElem?_eq_getElem (by omega : k + t < x.cps.toList.length), List.getElem?_eq_getElem (by omega : t < w.cps.toList.length)] at q
      rw [List.getElem?_take, if_pos ht, List.getElem?_drop, List.getElem?_eq_getElem (by omega : k + t < x.cps.toList.length), List.getElem?_eq_getElem (by omega : t < w.cps.toList.length)]
      exact congrArg some q
    · rw [List.getElem?_take, if_neg ht, List.getElem?_eq_none (by omega)]
def spots (x w : Str) : List (Nat × Nat) := if w.length = 0 then [] else (plc x w).map fun q => (q, q + w.length)
theorem spots_known {x w : Str} {num : Nat} {rs : List (Nat × Nat × Nat)} (hrs : rowsW (ltr x) (ltr w) w.length x.length x.length = rs)
    (hfew : (x.length = 0 ∧ num = w.length) ∨ (1 ≤ x.length ∧ num ∈ rs.map (·.1) ∧ ∀ y ∈ rs.map (·.1), num ≤ y)) :
    (num = 0 ↔ (spots x w ≠ [] ∨ x.length + w.length = 0)) ∧ (num = 0 → dueW num rs = spots x w) := by
  unfold spots
  subst hrs
  by_cases hw : w.length = 0
  · rw [if_pos hw]
    rcases hfew with ⟨hx, hn⟩ | ⟨hx, f1, f2⟩
    · refine ⟨⟨fun _ => .inr (by omega), fun _ => by omega⟩, fun _ => ?_⟩
      rw [hx]
      rfl
    · rw [hw] at f1 f2
      have := few_empty hx f1 f2
      subst this
      refine ⟨⟨fun h => (nomatch h), fun h => ?_⟩, fun h => (nomatch h)⟩
      rcases h with h | h
      · exact absurd rfl h
      · omega
  · rw [if_neg hw]
    have z := zero_spots (X := ltr x) (B := ltr w) (m := w.length) (n := x.length) (ps := plc x w) (by omega) (plc_asc x w) (fun k => plc_ltr)
    rcases hfew with ⟨hx, hn⟩ | ⟨hx, f1, f2⟩
    · have pe : plc x w = [] := by
        match h : plc x w with
        | [] => rfl
        | k :: r =>
          have := (plc_ltr (x := x) (w := w) (k := k)).mp (by rw [h]; exact List.mem_cons_self)
          omega
      rw [pe] at z ⊢
      refine ⟨⟨fun _ => by omega, fun h => ?_⟩, fun h => by omega⟩
      rcases h with h | h
      · exact absurd rfl h
      · omega
    · have fz := few_zero (X := ltr x) (B := ltr w) (m := w.length) (n := x.length) (few := num) (ps := plc x w) (by omega) (plc_asc x w) (fun k => plc_ltr) f1 f2
      refine ⟨⟨fun h => .inl fun e => fz.mp h (List.map_eq_nil_iff.mp e), fun h => fz.mpr fun e => ?_⟩, fun h => by rw [h]; exact z⟩
      rcases h with h | h
      · exact h (by rw [e]; rfl)
      · omega
theorem ite_meet {c : Bool} {T1 T2 : (V → Hp → Prop) → Prop} {C : V → Hp → Prop} (G : V → Hp → Prop) (h : ∀ v H, G v H → C v H) (h1 : c = true → ∀ C' : V → Hp → Prop, (∀ v H, G v H → C' v H) → T1 C') (h2 : c = false → ∀ C' : V → Hp → Prop, (∀ v H, G v H → C' v H) → T2 C') : if c = true then T1 C else T2 C := by
  cases c with
  | true => exact h1 rfl C h
  | false => exact h2 rfl C h
theorem cutS_len (x : Str) (a b : Option Int) : (cutS x a b).length ≤ x.length := cutS_length _ _ _
abbrev s_law : Stmt := top 15
theorem sc_law : FnScope ["_law_script", "_law_pen_here", "_law_turn", "_law_signs_here", "_law_here", "_law_at", "_law_word_here", "_law_rows", "_law_a", "_law_b", "_law_few_here", "_law_row", "_law_due", "_law_away", "_law_told", "_law_spots", "_law_k"] ["_law_script"] (defScope s_law) := ⟨rfl, rfl, rfl, by decide +kernel, rfl, by decide +kernel, by decide +kernel⟩
theorem b_law {f : Addr} {fd : FuncData} (F : Fun K "law" "law" s_law f fd) (T : Txt mg) (c_lpen : CalG P w K mg base CX0 1 "_law_pen" (spPen K)) (c_lfew : CalG P w K mg base CX0 3 "_law_few" spFew) (c_lword : CalG P w K mg base CX0 3 "_law_word" spWord) (c_ldraw : CalG P w K mg base CX0 1 "_law_draw" spDraw) (c_lpick : CalG P w K mg base CX0 2 "_law_pick" (spPick K)) (c_lplaces : CalG P w K mg base CX0 1 "_law_places" (spPlaces K)) (c_lntext : CalG P w K mg base CX0 4 "_law_ntext" spNtext) (c_lnapart : CalG P w K mg base CX0 2 "_law_napart" spApart) (c_nearest : CalG P w K mg base CX0 3 "nearest" (spNear K)) (k_nearest : CalK P w K mg base CX0 3 "nearest" (spNear K) ["old", "text"] List.reverse) : FnG P w K mg base CX0 5 f fd ["_law_script"] (spLaw K) := by
  refine okG0 F sc_law (fun vs H Q E h => ?_) (fun cdv A outer s H vs Q E hg hr h => ?_)
  · obtain ⟨a, ns, rfl, _⟩ := h
    rfl
  · have hu := hu_of hr
    have hu64 := hr.units
    obtain ⟨a, ns, rfl, hS, hlen, k⟩ := h
    refine ⟨_, (pss_cons (ps_set (i := 1) sc_law.nd rfl (Or.inl rfl) (pe_cG c_lpen hg hr (by decide) pass0 (pa_cons (pv 0) pa_nil)))
      (pss_cons (ps_for PassesOwn.never rfl (pi_range1 rfl T.range (pa_cons (pe_op op_add pe_int (pe_callB (call_min2 rfl) (by rfl) T.min (by decide +kernel) (pa_cons pe_int (pa_cons (pe_callB call_len (by rfl) T.len (by decide +kernel) (pa_cons (pv 0) pa_nil)) pa_nil)))) pa_nil)) (pg_name (i := 2) sc_law.nd rfl (Or.inl rfl)) (pss_cons (ps_set (i := 3) sc_law.nd rfl (Or.inl rfl) (pe_cG c_lfew hg hr (by decide) pass0 (pa_cons (pv 1) pa_nil)))
      (pss_cons (ps_set (i := 4) sc_law.nd rfl (Or.inr rfl) (pe_cG c_lntext hg hr (by decide) pass0 (pa_cons (pv 1) (pa_cons (pv 3) (pa_cons pe_int pa_nil)))))
      (pss_cons (ps_set (i := 5) sc_law.nd rfl (Or.inl rfl) (pe_cG c_ldraw hg hr (by decide) pass0 (pa_cons (pv 1) (pa_cons (pe_op op_add (pe_callB call_len (by rfl) T.len (by decide +kernel) (pa_cons (pv 4) pa_nil)) pe_int) pa_nil))))
      (pss_cons (ps_set (i := 6) sc_law.nd rfl (Or.inr rfl) (pe_cG c_lword hg hr (by decide) pass0 (pa_cons (pv 1) (pa_cons (pv 3) (pa_cons pe_int (pa_cons pe_int pa_nil))))))
      (pss_cons (ps_set (i := 6) sc_law.nd rfl (Or.inr rfl) (pe_cG c_lpick hg hr (by decide) pass0 (pa_cons (pv 1) (pa_cons (pe_lst (pa_cons (pv 6) (pa_cons (pe_slice sl_str (pv 4) (po_some (pv 5)) (po_some (pe_op op_add (pv 5) pe_int))) (pa_cons (pe_op op_add_str (pe_slice sl_str (pv 4) (po_some (pv 5)) (po_some (pe_op op_add (pv 5) pe_int))) (pe_slice sl_str (pv 6) po_none (po_some pe_int))) pa_nil)))) pa_nil))))
      (pss_cons (ps_set (i := 7) sc_law.nd rfl (Or.inl rfl) (pe_lst pa_nil))
      (pss_cons (ps_for PassesOwn.never rfl (pi_range1 rfl T.range (pa_cons (pe_callB call_len (by rfl) T.len (by decide +kernel) (pa_cons (pv 4) pa_nil)) pa_nil)) (pg_name (i := 8) sc_law.nd rfl (Or.inr rfl)) (pss_one (ps_expr (pe_bm PySem.F.plainAttrs_list PySem.F.slot_list_extend PySem.F.type_list_extend mt_extend (pv 7) (pa_cons (pe_lc (own := [("_law_b", 9)]) (g := gName 9) (tt := tYes) rfl sc_law.nd (pi_range2 rfl T.range (pa_cons (pe_op op_add (pv 8) pe_int) (pa_cons (pe_op op_add (pe_callB call_len (by rfl) T.len (by decide +kernel) (pa_cons (pv 4) pa_nil)) pe_int) pa_nil))) (blkOk_by (own := [("_law_b", 9)]) (N := ["_law_script", "_law_pen_here", "_law_turn", "_law_signs_here", "_law_here", "_law_at", "_law_word_here", "_law_rows", "_law_a", "_law_b", "_law_few_here", "_law_row", "_law_due", "_law_away", "_law_told", "_law_spots", "_law_k"]) (sc := defScope s_law) (by decide +kernel)) (fun _ _ _ _ _ => (pg_name (i := 9) sc_law.nd rfl (Or.inl rfl))) (fun _ _ _ _ _ => pts_nil) (fun _ _ _ _ _ => (pe_tup (pa_cons (pe_cG c_lnapart hg hr (by decide) pass0 (pa_cons (pe_slice sl_str (pv 4) (po_some (pv 8)) (po_some (pv 9))) (pa_cons (pv 6) pa_nil))) (pa_cons (pv 8) (pa_cons (pv 9) pa_nil)))))) pa_nil)))))
      (pss_cons (ps_set (i := 10) sc_law.nd rfl (Or.inr rfl) (pe_callB (cr_min rfl) (by rfl) T.min (by decide +kernel) (pa_cons (pe_op op_cat (pe_lc (own := [("_law_row", 11)]) (g := gName 11) (tt := tYes) rfl sc_law.nd (pi_list (pv 7)) (blkOk_by (own := [("_law_row", 11)]) (N := ["_law_script", "_law_pen_here", "_law_turn", "_law_signs_here", "_law_here", "_law_at", "_law_word_here", "_law_rows", "_law_a", "_law_b", "_law_few_here", "_law_row", "_law_due", "_law_away", "_law_told", "_law_spots", "_law_k"]) (sc := defScope s_law) (by decide +kernel)) (fun _ _ _ _ _ => (pg_name (i := 11) sc_law.nd rfl (Or.inl rfl))) (fun _ _ _ _ _ => pts_nil) (fun _ _ _ _ _ => (pe_ix (ix_tupK (K := K) rfl) (pv 11) pe_int (fun _ _ => rfl)))) (pe_op op_rep (pe_lst (pa_cons (pe_callB call_len (by rfl) T.len (by decide +kernel) (pa_cons (pv 6) pa_nil)) pa_nil)) (pe_callTy call_int1 (by rfl) T.int (by decide +kernel) (pa_cons (pe_cmpR (op_eqD hu64) (pv 7) (pe_lst pa_nil) (nomark _)) pa_nil)))) pa_nil)))
      (pss_cons (ps_set (i := 12) sc_law.nd rfl (Or.inl rfl) (pe_tup (pa_cons (pv 10) (pa_cons (pe_lc (own := [("_law_away", 13), ("_law_a", 8), ("_law_b", 9)]) (g := (gTup K 3 (gCons (gName 13) (gCons (gName 8) (gCons (gName 9) gNil))))) rfl sc_law.nd (pi_list (pv 7)) (blkOk_by (own := [("_law_away", 13), ("_law_a", 8), ("_law_b", 9)]) (N := ["_law_script", "_law_pen_here", "_law_turn", "_law_signs_here", "_law_here", "_law_at", "_law_word_here", "_law_rows", "_law_a", "_law_b", "_law_few_here", "_law_row", "_law_due", "_law_away", "_law_told", "_law_spots", "_law_k"]) (sc := defScope s_law) (by decide +kernel)) (fun _ _ _ _ _ => (pg_tupK (K := K) rfl rfl (pgs_cons (pg_name (i := 13) sc_law.nd rfl (Or.inl rfl)) (pgs_cons (pg_name (i := 8) sc_law.nd rfl (Or.inl rfl)) (pgs_cons (pg_name (i := 9) sc_law.nd rfl (Or.inl rfl)) pgs_nil))))) (fun _ _ _ _ _ => (pts_one (pt_cmpR op_eq (pv 13) (pv 10) (nomark _)))) (fun _ _ _ _ _ => (pe_tup (pa_cons (pv 8) (pa_cons (pv 9) pa_nil))))) pa_nil))))
      (pss_cons (ps_set (i := 14) sc_law.nd rfl (Or.inl rfl) (pe_kw k_nearest hg hr (by decide) pass0 (pk_cons (pv 6) (pk_cons (pv 4) pk_nil))))
      (pss_cons (ps_if (pt_cmpR op_ne (pe_callB (Vk.call_reprD hg hu64) (by rfl) T.repr (by decide +kernel) (pa_cons (pv 14) pa_nil)) (pe_callB (Vk.call_reprD hg hu64) (by rfl) T.repr (by decide +kernel) (pa_cons (pv 12) pa_nil)) (nomark _)) (pss_one (ps_ret pe_bl)) pss_nil)
      (pss_cons (ps_set (i := 15) sc_law.nd rfl (Or.inl rfl) (pe_ifExp (pt_cmpR op_ne (pv 6) pe_str (nomark _)) (pe_lc (own := [("_law_k", 16)]) (g := gName 16) (tt := tYes) rfl sc_law.nd (pi_list (pe_cG c_lplaces hg hr (by decide) pass0 (pa_cons (pv 4) (pa_cons (pv 6) pa_nil)))) (blkOk_by (own := [("_law_k", 16)]) (N := ["_law_script", "_law_pen_here", "_law_turn", "_law_signs_here", "_law_here", "_law_at", "_law_word_here", "_law_rows", "_law_a", "_law_b", "_law_few_here", "_law_row", "_law_due", "_law_away", "_law_told", "_law_spots", "_law_k"]) (sc := defScope s_law) (by decide +kernel)) (fun _ _ _ _ _ => (pg_name (i := 16) sc_law.nd rfl (Or.inl rfl))) (fun _ _ _ _ _ => pts_nil) (fun _ _ _ _ _ => (pe_tup (pa_cons (pv 16) (pa_cons (pe_op op_add (pv 16) (pe_callB (call_lenK (K := K) rfl) (by rfl) T.len (by decide +kernel) (pa_cons (pv 6) pa_nil))) pa_nil))))) (pe_lst pa_nil)))
      (pss_cons (ps_if (PW.pt (pw_or (pt_cmpR op_ne (pe_cmpR op_eq (pe_ix ix_tup (pv 14) pe_int (fun _ _ => rfl)) pe_int (nomark _)) (pe_or (pe_cmpR (op_neD hu64) (pv 15) (pe_lst pa_nil) (nomark _)) (pe_one (pe_cmpR op_eq (pe_op op_add_str (pv 4) (pv 6)) pe_str (nomark _)))) (nomark _)) (pw_or1 (PW.pt (pw_and (pt_cmpR op_eq (pe_ix ix_tup (pv 14) pe_int (fun _ _ => rfl)) pe_int (nomark _)) (pw_and1 (pt_cmpR (op_neD hu64) (pe_ix ix_tup (pv 14) pe_int (fun _ _ => rfl)) (pv 15) (nomark _)))))))) (pss_one (ps_ret pe_bl)) pss_nil)
      (pss_cons (ps_expr (pe_bm PySem.F.plainAttrs_list PySem.F.slot_list_append PySem.F.type_list_append mt_append (pe_ix ix_tup (pv 14) pe_int (fun _ _ => rfl)) (pa_cons pe_non pa_nil)))
      (pss_one (ps_if (pt_cmpR op_ne (pe_callB (Vk.call_reprD hg hu64) (by rfl) T.repr (by decide +kernel) (pa_cons (pe_cG c_nearest hg hr (by decide) pass0 (pa_cons (pv 4) (pa_cons (pv 6) pa_nil))) pa_nil)) (pe_callB (Vk.call_reprD hg hu64) (by rfl) T.repr (by decide +kernel) (pa_cons (pv 12) pa_nil)) (nomark _)) (pss_one (ps_ret pe_bl)) pss_nil)))))))))))))))))
      (pss_one (ps_ret (pe_cmpR (op_eqD hu64) (pe_cG c_nearest hg hr (by decide) pass0 (pa_cons pe_str (pa_cons pe_str pa_nil))) (pe_tup (pa_cons pe_int (pa_cons (pe_lst pa_nil) pa_nil))) (nomark _)))))), ?_⟩
    refine ⟨_, rfl, a, ns, rfl, hS, fun p pc H1 hp0 P0 s1 => ?_⟩
    refine ⟨_, rfl, _, _, rfl, .inl ⟨_, s1.seq hS, rfl⟩, _, _, rfl, _, _, rfl, rfl, _, rfl, ?_, ?_, ?_⟩
    · split <;> omega
    · split <;> omega
    refine for_range (lo := 0) (fun i σ H' => ∃ o2 o3 o4 o5 o6 o7 o8 o9 o10 o11 o12 o13 o14 o15 o16 : Option V, σ = [some (.ref a), some (.ref p), o2, o3, o4, o5, o6, o7, o8, o9, o10, o11, o12, o13, o14, o15, o16] ∧ Pen H' p pc (200 * i)) ?_ ?_ ?_
    · exact ⟨_, _, _, _, _, _, _, _, _, _, _, _, _, _, _, rfl, P0⟩
    · rintro i σ H2 hi ⟨o2, o3, o4, o5, o6, o7, o8, o9, o10, o11, o12, o13, o14, o15, o16, rfl, P2⟩
      have hi10 : i ≤ 10 := by
        revert hi
        split <;> omega
      refine ⟨_, rfl, p, pc, 200 * i, rfl, P2, by omega, fun sg H3 fsg P3 x3 => ?_⟩
      refine ⟨_, rfl, _, rfl, p, pc, sg, 10, _, rfl, fsg, by decide, P3, by omega, fun x H4 hx P4 x4 => ?_⟩
      have xl : x.length ≤ sizeLine := Nat.le_trans hx (by decide)
      refine ⟨_, rfl, _, rfl, _, _, rfl, ⟨xl, rfl⟩, _, _, rfl, rfl, p, pc, _, _, rfl, by omega, by omega, P4, by omega, fun at0 H5 a0 a1 P5 x5 => ?_⟩
      refine ⟨_, rfl, _, rfl, p, pc, sg, 0, 5, _, rfl, by decide, by decide, fsg.1, Nat.le_trans fsg.2.1 (by decide), P5, by omega, fun w1 H6 ww P6 x6 => ?_⟩
      have w1l : w1.length ≤ 5 := ww.2.1
      have w1L : w1.length ≤ sizeLine := Nat.le_trans w1l (by decide)
      refine ⟨_, rfl, _, rfl, _, rfl, _, rfl, _, rfl, _, rfl, _, _, rfl, rfl, _, rfl, x, rfl, xl, ?_⟩
      have hc1 : (cutS x (some at0) (some (at0 + 4))).length ≤ 10 := Nat.le_trans (cutS_length _ _ _) hx
      generalize cutS x (some at0) (some (at0 + 4)) = c1 at hc1
      refine ⟨_, rfl, _, rfl, _, rfl, _, rfl, _, _, rfl, rfl, _, rfl, x, rfl, xl, ?_⟩
      have hc2 : (cutS x (some at0) (some (at0 + 2))).length ≤ 10 := Nat.le_trans (cutS_length _ _ _) hx
      generalize cutS x (some at0) (some (at0 + 2)) = c2 at hc2
      refine ⟨_, rfl, 2, rfl, w1, rfl, w1L, ?_⟩
      have hc3 : (cutS w1 none (some 2)).length ≤ 5 := Nat.le_trans (cutS_length _ _ _) w1l
      generalize cutS w1 none (some 2) = c3 at hc3
      refine ⟨_, _, rfl, rfl, Nat.le_of_lt (fewL (by omega)), by show 3 ≤ sizeLine; decide, fun b hb => ?_⟩
      have P7 := P6.new (o := .lst [.str w1, .str c1, .str (c2 ++ c3)]) hb
      refine ⟨p, pc, _, _, _, rfl, .lst (SqL.of upd_same), (fun z => by cases z), by show 3 ≤ 1000; decide, P7, by omega, fun v H8 hv P8 x8 => ?_⟩
      have ev : ∃ w : Str, v = .str w ∧ w.length ≤ 15 := by
        simp only [List.mem_cons, List.not_mem_nil, or_false] at hv
        rcases hv with rfl | rfl | rfl
        · exact ⟨w1, rfl, by omega⟩
        · exact ⟨c1, rfl, by omega⟩
        · exact ⟨_, rfl, by rw [strLen_append]; omega⟩
      obtain ⟨w, rfl, hw⟩ := ev
      have wl : w.length ≤ sizeLine := Nat.le_trans hw (by decide)
      -- rows
      refine ⟨by show 0 ≤ sizeLine; decide, fun lr hlr => ?_⟩
      have slr := same_new (o := .lst []) hlr
      refine ⟨_, rfl, _, _, rfl, ⟨xl, rfl⟩, _, rfl, by omega, by omega, ?_⟩
      refine for_range (lo := 0) (n := ((x.length : Nat) : Int).toNat) (fun q σ H' => ∃ (o8 o9 : Option V) (xs : List V), σ = [some (.ref a), some (.ref p), some (.int (0 + (i : Nat))), some (.str sg), some (.str x), some (.int at0), some (.str w), some (.ref lr), o8, o9, o10, o11, o12, o13, o14, o15, o16] ∧ H' lr = some (.lst xs) ∧ TrN H' xs (rowsW (ltr x) (ltr w) w.length x.length q) ∧ Same H8 H') ?_ ?_ ?_
      · exact ⟨_, _, [], rfl, upd_same, .nil, slr⟩
      · rintro q σ H9 hq ⟨o8, o9, xs, rfl, hl9, tr9, s9⟩
        have gl := paired_len tr9
        have gr := rowsW_length (X := ltr x) (B := ltr w) (m := w.length) (n := x.length) (k := q)
        refine ⟨_, rfl, .inl ⟨rfl, _, SqL.of hl9⟩, ?_⟩
        refine ⟨_, rfl, _, _, rfl, rfl, _, rfl, _, _, rfl, ⟨xl, rfl⟩, _, _, rfl, rfl, _, _, rfl, ?_⟩
        have hq1 : q < x.length := by omega
        refine ⟨⟨by omega, by omega, by omega, by omega⟩, fun D hD => ?_⟩
        have sD := same_new (o := .lst []) hD
        refine lc_range (lo := 0 + (q : Int) + 1) (n := (((x.length : Nat) : Int) + 1 - (0 + (q : Int) + 1)).toNat) (fun j H' => ∃ us, H' D = some (.lst us) ∧ TrN H' us ((List.range' (q + 1) j).map fun b => (fD (ltr x) (ltr w) q b w.length, q, b)) ∧ Same H9 H') ?_ ?_ ?_
        · exact ⟨[], upd_same, .nil, sD⟩
        · rintro j H10 hj ⟨us, hD10, tr10, s10⟩
          have gu := paired_len tr10
          rw [List.length_map, List.length_range'] at gu
          have hj1 : q + 1 + j ≤ x.length := by omega
          refine ⟨rfl, _, rfl, _, rfl, _, rfl, _, rfl, _, rfl, x, rfl, xl, _, rfl, _, _, rfl, Nat.le_trans (cutS_length _ _ _) (by omega), by omega, fun H11 s11 => ?_⟩
          have eb : (0 : Int) + (q : Nat) + 1 + (j : Nat) = ((q + 1 + j : Nat) : Int) := by omega
          have eq0 : (0 : Int) + (q : Nat) = ((q : Nat) : Int) := Int.zero_add _
          rw [eb, eq0, cut_apart (by omega) hj1]
          refine ⟨_, rfl, _, rfl, by show 3 ≤ sizeLine; decide, fun u hu => ?_⟩
          have su := same_new (o := .tup [.int (fD (ltr x) (ltr w) q (q + 1 + j) w.length : Nat), .int ((q : Nat) : Int), .int ((q + 1 + j : Nat) : Int)]) hu
          have hDu := su _ _ (s11 _ _ hD10)
          refine ⟨_, hDu, fewL (by omega), us ++ [.ref u], upd_same, ?_, upd_out hD ((s10.trans s11).trans su)⟩
          rw [List.range'_concat, List.map_append, Nat.one_mul]
          exact Paired.snoc (((tr10.keep s11).keep su).keepT (upd_list hDu)) ⟨u, rfl, upd_list hDu _ _ upd_same⟩
        · rintro H10 ⟨us, hD10, tr10, s10⟩
          have hl10 := s10 _ _ hl9
          have gu := paired_len tr10
          rw [List.length_map, List.length_range'] at gu
          have gq : q * x.length ≤ 10 * 10 := Nat.mul_le_mul (by omega) hx
          refine ⟨lr, D, _, _, rfl, rfl, hl10, hD10, Nat.le_of_lt (fewL (by omega)), ?_⟩
          refine ⟨_, _, xs ++ us, rfl, upd_same, ?_, upd_out hlr (s9.trans s10)⟩
          rw [show (((x.length : Nat) : Int) + 1 - (0 + (q : Int) + 1)).toNat = x.length - q by omega] at tr10
          rw [rowsW_succ]
          have pp : TrN H10 (xs ++ us) _ := paired_app (tr9.keep s10) tr10
          exact pp.keepT (upd_list hl10)
      · rintro σ H9 ⟨o8, o9, xs, rfl, hl9, tr9, s9⟩
        have en : ((x.length : Nat) : Int).toNat = x.length := Int.toNat_natCast _
        rw [en] at tr9
        have gl := paired_len tr9
        have gr := rowsW_length (X := ltr x) (B := ltr w) (m := w.length) (n := x.length) (k := x.length)
        have gq : x.length * x.length ≤ 10 * 10 := Nat.mul_le_mul hx hx
        have P9 := P8.stay s9
        generalize hrs : rowsW (ltr x) (ltr w) w.length x.length x.length = rs at tr9 gl gr
        -- the least of them
        refine ⟨_, rfl, lr, rfl, ⟨_, SqL.of hl9⟩, fun D hD => ?_⟩
        have sD := same_new (o := .lst []) hD
        refine lc_list (K := K) (a := lr) (xs := xs) (fun n H' => H' D = some (.lst ((rs.take n).map fun r => V.int (r.1 : Nat))) ∧ Same H9 H') ?_ ?_ ?_ ?_
        · exact ⟨upd_same, sD⟩
        · rintro n H' _ ⟨_, sm⟩
          exact SqL.of (sm _ _ hl9)
        · rintro n v H' hv ⟨hDz, sm⟩
          obtain ⟨r, hr1, t, rfl, ht⟩ := paired_at tr9 hv
          refine ⟨rfl, _, rfl, t, _, 0, _, rfl, rfl, SqT.of (sm _ _ ht), rfl, _, hDz, fewL (by rw [List.length_map, List.length_take]; omega), ?_, upd_out hD sm⟩
          rw [upd_same, List.take_add_one, hr1]
          simp
        · rintro H10 ⟨hD10, s10⟩
          rw [List.take_of_length_le (by omega)] at hD10
          refine ⟨_, rfl, _, _, rfl, ⟨wl, rfl⟩, by show 1 ≤ sizeLine; decide, fun q1 hq1 => ?_⟩
          have sq1 := same_new (o := .lst [.int (w.length : Nat)]) hq1
          refine ⟨_, rfl, by show 0 ≤ sizeLine; decide, fun q2 hq2 => ?_⟩
          have sq2 := same_new (o := .lst []) hq2
          have s12 := (s10.trans sq1).trans sq2
          refine ⟨_, _, .lst (SqL.of (s12 _ _ hl9)) (trs_dp (tr9.keep s12)), .lst (SqL.of upd_same) .nil, trs_shaped rs, by decide, .inr ⟨_, rfl, ?_⟩⟩
          rw [trs_nil]
          have erep : ∃ ys : List Nat, (List.replicate (if rs.isEmpty = true then (1 : Int) else 0).toNat [V.int (w.length : Nat)]).flatten = ys.map (fun n : Nat => V.int (n : Nat)) ∧ ys = (if rs.isEmpty = true then [w.length] else []) := by
            cases rs.isEmpty
            · exact ⟨[], rfl, rfl⟩
            · exact ⟨[w.length], rfl, rfl⟩
          obtain ⟨ys, erep, eys⟩ := erep
          refine ⟨q1, _, _, rfl, rfl, sq2 _ _ upd_same, by split <;> omega, by split <;> omega, (by split; exact (show 1 * 1 ≤ sizeLine by decide); exact (show 1 * 0 ≤ sizeLine by decide)), fun q3 hq3 => ?_⟩
          rw [erep]
          have sq3 := same_new (o := .lst (ys.map (fun n : Nat => V.int (n : Nat)))) hq3
          have yl : ys.length ≤ 1 := by rw [eys]; split; exact Nat.le_refl 1; exact Nat.zero_le 1
          refine ⟨D, q3, _, _, rfl, rfl, sq3 _ _ (sq2 _ _ (sq1 _ _ hD10)), upd_same, Nat.le_of_lt (fewL (by rw [List.length_map, List.length_map]; omega)), fun q4 hq4 => ?_⟩
          have ecat : (rs.map fun r => V.int (r.1 : Nat)) ++ ys.map (fun n : Nat => V.int (n : Nat)) = ((rs.map (·.1) ++ ys).map fun n : Nat => ((n : Nat) : Int)).map V.int := by
            rw [List.map_append, List.map_append, List.map_map, List.map_map, List.map_map]; rfl
          rw [ecat]
          have sq4 := same_new (o := .lst (((rs.map (·.1) ++ ys).map fun n : Nat => ((n : Nat) : Int)).map V.int)) hq4
          have hnil : rs.isEmpty = decide (x.length = 0) := by
            by_cases h : x.length = 0
            · rw [decide_eq_true h, ← hrs, h]
              rfl
            · rw [decide_eq_false h]
              cases e : rs with
              | nil => exact absurd (hrs.trans e) (rowsW_ne (by omega))
              | cons r t => rfl
          refine ⟨q4, _, rfl, SqL.of upd_same, ?_, fun mi hm hle => ?_⟩
          · rw [List.length_map, List.length_append, List.length_map, eys]
            cases e : rs with
            | nil => exact Nat.one_pos
            | cons r t => rw [List.length_cons]; omega
          obtain ⟨m0, hm0, rfl⟩ := List.mem_map.mp hm
          have mle : ∀ y ∈ rs.map (·.1) ++ ys, m0 ≤ y := fun y hy => by
            have := hle _ (List.mem_map.mpr ⟨y, hy, rfl⟩)
            omega
          have hfew : (x.length = 0 ∧ m0 = w.length) ∨ (1 ≤ x.length ∧ m0 ∈ rs.map (·.1) ∧ ∀ y ∈ rs.map (·.1), m0 ≤ y) := by
            by_cases h : x.length = 0
            · rw [decide_eq_true h] at hnil
              have e : rs = [] := List.isEmpty_iff.mp hnil
              rw [e] at hm0 eys
              rw [eys] at hm0
              exact .inl ⟨h, List.mem_singleton.mp hm0⟩
            · rw [decide_eq_false h] at hnil
              rw [hnil] at eys
              rw [eys, if_neg Bool.false_ne_true, List.append_nil] at hm0 mle
              exact .inr ⟨by omega, hm0, mle⟩
          have m25 : m0 ≤ 25 := by
            rcases hfew with ⟨_, h⟩ | ⟨_, h, _⟩
            · omega
            · obtain ⟨r, hr1, rfl⟩ := List.mem_map.mp h
              rw [← hrs] at hr1
              obtain ⟨a1, b1, h1, h2, h3, rfl⟩ := rowsW_mem.mp hr1
              have := fD_le (X := ltr x) (B := ltr w) (a := a1) (b := b1) (m := w.length)
              show fD _ _ _ _ _ ≤ 25
              omega
          have s14 := (s12.trans sq3).trans sq4
          have s94 := s9.trans s14
          clear hle hm erep eys ecat
          have hl14 := s14 _ _ hl9
          have tr14 := tr9.keep s14
          have P14 := P9.stay s14
          refine ⟨_, rfl, ?_⟩
          generalize upd (upd (upd (upd H10 q1 _) q2 _) q3 _) q4 _ = H14 at s14 s94 hl14 tr14 P14 ⊢
          -- what is due
          refine ⟨_, rfl, lr, rfl, ⟨_, SqL.of hl14⟩, fun D2 hD2 => ?_⟩
          have sD2 := same_new (o := .lst []) hD2
          refine lc_list (K := K) (a := lr) (xs := xs) (fun n H' => ∃ us, H' D2 = some (.lst us) ∧ PrN H' us (dueW m0 (rs.take n)) ∧ Same H14 H') ?_ ?_ ?_ ?_
          · exact ⟨[], upd_same, .nil, sD2⟩
          · rintro n H' _ ⟨_, _, _, sm⟩
            exact SqL.of (sm _ _ hl14)
          · rintro n v H' hv ⟨us, hDz, pu, sm⟩
            obtain ⟨r, hr1, t, rfl, ht⟩ := paired_at tr14 hv
            have gu := paired_len pu
            have gd := dueW_len m0 (rs.take n)
            rw [List.length_take] at gd
            refine ⟨t, _, rfl, SqT.of (sm _ _ ht), rfl, _, _, rfl, _, _, rfl, _, _, rfl, rfl, ?_⟩
            refine ⟨rfl, _, rfl, _, rfl, rfl, _, rfl, ?_⟩
            rw [List.take_add_one, hr1]
            by_cases hc : r.1 = m0
            · rw [show decide (V.int ((r.1 : Nat) : Int) = V.int (m0 : Nat)) = true from decide_eq_true (by rw [hc])]
              refine iteT ⟨_, rfl, _, rfl, by show 2 ≤ sizeLine; decide, fun u hu => ?_⟩
              have su := same_new (o := .tup [.int (r.2.1 : Nat), .int (r.2.2 : Nat)]) hu
              have hDu := su _ _ hDz
              refine ⟨_, hDu, fewL (by omega), us ++ [.ref u], upd_same, ?_, upd_out hD2 (sm.trans su)⟩
              rw [Option.toList_some, dueW_snoc, if_pos hc]
              exact Paired.snoc ((pu.keep su).keepT (upd_list hDu)) ⟨u, rfl, upd_list hDu _ _ upd_same⟩
            · rw [show decide (V.int ((r.1 : Nat) : Int) = V.int (m0 : Nat)) = false from decide_eq_false (fun z => hc (by have := V.int.inj z; omega))]
              refine iteF ⟨us, hDz, ?_, sm⟩
              rw [Option.toList_some, dueW_snoc, if_neg hc, List.append_nil]
              exact pu
          rintro H15 ⟨us, hD15, pu, s15⟩
          rw [List.take_of_length_le (by omega)] at pu
          have P15 := P14.stay s15
          have gd := dueW_len m0 rs
          have gu := paired_len pu
          refine ⟨by show 2 ≤ sizeLine; decide, fun td htd => ?_⟩
          have std := same_new (o := .tup [.int (m0 : Nat), .ref D2]) htd
          have hD16 := std _ _ hD15
          have pu16 := pu.keep std
          have P16 := P15.stay std
          refine ⟨_, rfl, _, rfl, rfl, x, w, rfl, by omega, by omega, fun t1 l1 xs1 num ws H17 ht1 hl1 ht1' hl1' pr1 nm1 n100 w100 wl1 s17 => ?_⟩
          have P17 := P16.stay s17
          have knownOf : ∀ num ws, NearM x w num ws → num = m0 ∧ ws = dueW m0 rs := by
            intro num ws nm1
            rcases nm1 with ⟨hx0, h1, h2⟩ | ⟨hx1, h⟩
            · rcases hfew with ⟨_, f⟩ | ⟨f, _⟩
              · refine ⟨by omega, ?_⟩
                rw [h2, ← hrs, hx0]
                rfl
              · omega
            · rcases hfew with ⟨f, _⟩ | ⟨_, f1, f2⟩
              · omega
              · rw [hrs] at h
                exact h m0 f1 f2
          have known := knownOf _ _ nm1
          rw [known.1] at ht1'
          rw [known.2] at pr1 w100
          have dl100 : (dueW m0 rs).length ≤ 100 := by omega
          have hsh := pairD_showy (num := m0) (ws := dueW m0 rs) (by omega) dl100 w100
          have fits : (pairD m0 (dueW m0 rs)).shown.length ≤ sizeLine := Nat.le_trans hsh.ln (by decide)
          have td17 := s17 _ _ (upd_same (H := H15) (a := td) (o := .tup [.int (m0 : Nat), .ref D2]))
          have hD17 := s17 _ _ hD16
          have pu17 := pu16.keep s17
          refine ⟨_, rfl, _, _, rfl, pairD_dp ht1' hl1' pr1, hsh.sh, hsh.nd, Nat.le_trans hsh.dp (by decide), fits, ?_⟩
          refine ⟨_, rfl, _, _, rfl, pairD_dp td17 hD17 pu17, hsh.sh, hsh.nd, Nat.le_trans hsh.dp (by decide), fits, rfl, _, rfl, ?_⟩
          refine iteNS rfl ?_
          -- the spots
          refine ⟨_, rfl, rfl, _, rfl, ?_⟩
          rw [str_empty]
          refine ite_meet (fun v H18 => ∃ sl ss, v = V.ref sl ∧ H18 sl = some (.lst ss) ∧ PrN H18 ss (spots x w) ∧ Same H17 H18) ?tail ?one ?two
          case one =>
            intro hc C' hC
            have hw0 : ¬ w.length = 0 := of_decide_eq_false (by simpa using hc)
            refine ⟨_, rfl, _, rfl, x, w, rfl, by omega, by omega, fun lp H18 hlp hp18 s18 => ?_⟩
            refine ⟨lp, rfl, ⟨_, SqL.of hp18⟩, fun D3 hD3 => ?_⟩
            have sD3 := same_new (o := .lst []) hD3
            refine lc_list (K := K) (a := lp) (xs := (plcI x w).map V.int) (fun n H' => ∃ vs, H' D3 = some (.lst vs) ∧ PrN H' vs (((plc x w).take n).map fun q => (q, q + w.length)) ∧ Same H18 H') ?_ ?_ ?_ ?_
            · exact ⟨[], upd_same, .nil, sD3⟩
            · rintro n H' _ ⟨_, _, _, sm⟩
              exact SqL.of (sm _ _ hp18)
            · rintro n v H' hv ⟨vs, hDz, pv, sm⟩
              unfold plcI at hv
              rw [List.map_map, List.getElem?_map] at hv
              obtain ⟨q, hq, rfl⟩ := Option.map_eq_some_iff.mp hv
              have gv := paired_len pv
              rw [List.length_map, List.length_take] at gv
              have gp := plc_len x w
              refine ⟨rfl, _, rfl, _, rfl, _, rfl, _, _, rfl, ⟨wl, rfl⟩, _, _, rfl, rfl, by show 2 ≤ sizeLine; decide, fun u hu => ?_⟩
              have su := same_new (o := .tup [.int (q : Nat), .int ((q : Int) + (w.length : Nat))]) hu
              have hDu := su _ _ hDz
              refine ⟨_, hDu, fewL (by omega), vs ++ [.ref u], upd_same, ?_, upd_out hD3 (sm.trans su)⟩
              rw [List.take_add_one, hq, Option.toList_some, List.map_append]
              exact Paired.snoc ((pv.keep su).keepT (upd_list hDu)) ⟨u, rfl, upd_list hDu _ _ upd_same⟩
            rintro H19 ⟨vs, hD19, pv, s19⟩
            rw [List.length_map, show (plcI x w).length = (plc x w).length from List.length_map _, List.take_of_length_le (Nat.le_refl _)] at pv
            refine hC _ _ ⟨D3, vs, rfl, hD19, ?_, s18.trans s19⟩
            unfold spots
            rw [if_neg hw0]
            exact pv
          case two =>
            intro hc C' hC
            have hw0 : w.length = 0 := of_decide_eq_true (by simpa using hc)
            refine ⟨by show 0 ≤ sizeLine; decide, fun sl hsl => hC _ _ ⟨sl, [], rfl, upd_same, ?_, same_new hsl⟩⟩
            unfold spots
            rw [if_pos hw0]
            exact .nil
          case tail =>
            rintro v H18 ⟨sl, ss, rfl, hsl, psl, s18⟩
            have P18 := P17.stay s18
            have t18 := s18 _ _ ht1'
            have l18 := s18 _ _ hl1'
            have pr18 := pr1.keep s18
            refine ⟨_, rfl, t1, _, _, _, rfl, rfl, SqT.of t18, rfl, rfl, ?_⟩
            refine ⟨_, rfl, by show 0 ≤ sizeLine; decide, fun qe hqe => ?_⟩
            have sqe := same_new (o := .lst []) hqe
            have psl2 := psl.keep sqe
            refine ⟨_, _, .lst (SqL.of (sqe _ _ hsl)) (prs_dp psl2), .lst (SqL.of upd_same) .nil, pDs_shaped _, by decide, ?_⟩
            rw [pDs_nil]
            have P19 := P18.stay sqe
            have t19 := sqe _ _ t18
            have l19 := sqe _ _ l18
            have pr19 := pr18.keep sqe
            have sl19 := sqe _ _ hsl
            have sT := s18.trans sqe
            have td19 := sT _ _ td17
            have hD19 := sT _ _ hD17
            have pu19 := pu17.keep sT
            generalize upd H18 qe (.lst []) = H19 at P19 t19 l19 pr19 sl19 td19 hD19 pu19 psl2 ⊢
            have sk := spots_known hrs hfew
            have xw : (V.str (x ++ w) = V.str "") ↔ x.length + w.length = 0 := by
              have q := @str_empty (x ++ w)
              rw [strLen_append] at q
              exact decide_eq_decide.mp q
            have z0 : (V.int (m0 : Nat) = V.int 0) ↔ m0 = 0 := ⟨fun e => by have := V.int.inj e; omega, fun e => by rw [e]; rfl⟩
            refine ⟨_, rfl, ?_⟩
            refine' or_both (R := ?oR1) ?oa1 ?ob1 ?oc1
            case oa1 =>
              intro hc hR
              have sne : spots x w ≠ [] := by
                intro e
                rw [e] at hc
                cases hc
              have e : V.bl (decide (V.int (m0 : Nat) = V.int 0)) = V.bl true := by
                rw [decide_eq_true (z0.mpr (sk.1.mpr (.inl sne)))]
              refine ⟨rfl, _, rfl, ?_⟩
              refine iteNS e ?_
              exact hR
            case ob1 =>
              intro hc hR
              have sn : spots x w = [] := by
                cases e : spots x w with
                | nil => rfl
                | cons a t => rw [e] at hc; cases hc
              refine ⟨_, rfl, _, rfl, _, _, rfl, rfl, Nat.le_of_lt (fewL (by omega)), rfl, ?_⟩
              have e : V.bl (decide (V.int (m0 : Nat) = V.int 0)) = V.bl (decide (V.str (x ++ w) = V.str "")) := by
                refine congrArg V.bl (decide_eq_decide.mpr (z0.trans (sk.1.trans (Iff.trans ?_ xw.symm))))
                exact ⟨fun h => h.resolve_left fun z => z sn, .inr⟩
              refine ⟨rfl, _, rfl, ?_⟩
              refine iteNS e ?_
              exact hR
            case oc1 =>
              refine ⟨_, rfl, t1, _, _, _, rfl, rfl, SqT.of t19, rfl, rfl, _, rfl, ?_⟩
              refine and_cut ?_ fun hc hR => ?_
              rotate_left
              · have m00 : m0 = 0 := z0.mp (of_decide_eq_true hc)
                refine ⟨_, rfl, t1, _, _, _, rfl, rfl, SqT.of t19, rfl, _, rfl, _, _, .lst (SqL.of l19) (prs_dp pr19), .lst (SqL.of sl19) (prs_dp psl2), pDs_shaped _, pDs_shaped _, _, rfl, ?_⟩
                rw [sk.2 m00, SeqAt.eqv_refl _ (pDs_can _)]
                exact hR
              · refine iteF ?_
                have xl1 := paired_len pr19
                refine ⟨_, rfl, t1, _, _, _, rfl, rfl, SqT.of t19, rfl, .inl ⟨rfl, _, SqL.of l19⟩, l1, _, _, rfl, rfl, l19, fewL (by omega), ?_⟩
                have ap := P16.apart hl1
                have P20 := P19.set (o := .lst (xs1 ++ [.non])) ap.1 ap.2
                have td20 := upd_list (o := .lst (xs1 ++ [.non])) l19 _ _ td19
                have D20 : (upd H19 l1 (.lst (xs1 ++ [.non]))) D2 = _ := (upd_ne (ne_of_none hD16 hl1)).trans hD19
                have pu20 := pu19.keepT (upd_list (o := .lst (xs1 ++ [.non])) l19)
                generalize upd H19 l1 (.lst (xs1 ++ [.non])) = H20 at P20 td20 D20 pu20 ⊢
                refine ⟨_, rfl, _, rfl, x, w, rfl, by omega, by omega, fun t2 l2 xs2 num2 ws2 H21 _ _ ht2' hl2' pr2 nm2 n100b w100b _ s21 => ?_⟩
                have known2 := knownOf _ _ nm2
                rw [known2.1] at ht2'
                rw [known2.2] at pr2
                refine ⟨_, _, rfl, pairD_dp ht2' hl2' pr2, hsh.sh, hsh.nd, Nat.le_trans hsh.dp (by decide), fits, ?_⟩
                refine ⟨_, rfl, _, _, rfl, pairD_dp (s21 _ _ td20) (s21 _ _ D20) (pu20.keep s21), hsh.sh, hsh.nd, Nat.le_trans hsh.dp (by decide), fits, rfl, _, rfl, ?_⟩
                refine iteNS rfl ?_
                exact ⟨_, _, _, _, _, _, _, _, _, _, _, _, _, _, _, rfl, (P20.stay s21).mono (by omega)⟩
    · rintro σ H2 ⟨o2, o3, o4, o5, o6, o7, o8, o9, o10, o11, o12, o13, o14, o15, o16, rfl, P2⟩
      refine ⟨"", "ab", rfl, by decide, by decide, fun t1 l1 xs1 num ws H3 ht1 hl1 ht1' hl1' pr1 nm1 _ _ _ s3 => ?_⟩
      have kn : num = 2 ∧ ws = [] := by
        rcases nm1 with ⟨_, h1, h2⟩ | ⟨h, _⟩
        · exact ⟨h1, h2⟩
        · exact absurd h (by decide)
      rw [kn.1] at ht1'
      rw [kn.2] at pr1
      refine ⟨by show 0 ≤ sizeLine; decide, fun q hq => ⟨by show 2 ≤ sizeLine; decide, fun t hT => ?_⟩⟩
      have sq := same_new (o := .lst []) hq
      have st := same_new (o := .tup [.int 2, .ref q]) hT
      have s4 := sq.trans st
      have h2 : SeqAt.shaped (pairD 2 []) = true := by decide +kernel
      have dq : Dp K (upd (upd H3 q (.lst [])) t (.tup [.int 2, .ref q])) (.ref t) (pairD 2 []) := pairD_dp upd_same (st _ _ upd_same) .nil
      refine ⟨pairD 2 [], pairD 2 [], pairD_dp (s4 _ _ ht1') (s4 _ _ hl1') (pr1.keep s4), dq, h2, h2, ?_⟩
      rw [SeqAt.eqv_refl _ (by decide +kernel)]
      exact k _

end
end Vk
set_option Elab.async false
set_option maxRecDepth 100000
set_option linter.all false
set_option maxHeartbeats 4000000
namespace Vk
open PySem PySem.Spec PyProof.Rows L2
theorem all {l : PySem.W.OpenLaw} {w : World} {K : PySem.W.Frag} {h : Heap} {mg : Str → Option Value} {fa : Addr} (X : K.In h) (G : h.Ns mainGlobals mg) (hfa : mg "law" = some (.ref fa))
    (d_best_of : ∃ (f : Addr) (fd : FuncData), At K "best_of" s_best_of f fd)
    (d_next_column : ∃ (f : Addr) (fd : FuncData), At K "next_column" s_next_column f fd)
    (d_nearest : ∃ (f : Addr) (fd : FuncData), At K "nearest" s_nearest f fd)
    (d_ldraw : ∃ (f : Addr) (fd : FuncData), At K "_law_draw" s_ldraw f fd)
    (d_lpen : ∃ (f : Addr) (fd : FuncData), At K "_law_pen" s_lpen f fd)
    (d_lpick : ∃ (f : Addr) (fd : FuncData), At K "_law_pick" s_lpick f fd)
    (d_lsigns : ∃ (f : Addr) (fd : FuncData), At K "_law_signs" s_lsigns f fd)
    (d_lfew : ∃ (f : Addr) (fd : FuncData), At K "_law_few" s_lfew f fd)
    (d_lword : ∃ (f : Addr) (fd : FuncData), At K "_law_word" s_lword f fd)
    (d_lplaces : ∃ (f : Addr) (fd : FuncData), At K "_law_places" s_lplaces f fd)
    (d_lntext : ∃ (f : Addr) (fd : FuncData), At K "_law_ntext" s_lntext f fd)
    (d_lnrows : ∃ (f : Addr) (fd : FuncData), At K "_law_nrows" s_lnrows f fd)
    (d_lnapart : ∃ (f : Addr) (fd : FuncData), At K "_law_napart" s_lnapart f fd)
    (d_law : ∃ (f : Addr) (fd : FuncData), At K "law" s_law f fd)
    (z_len : PySem.W.nsIn K mainGlobals "len" = some none)
    (z_list : PySem.W.nsIn K mainGlobals "list" = some none)
    (z_int : PySem.W.nsIn K mainGlobals "int" = some none)
    (z_abs : PySem.W.nsIn K mainGlobals "abs" = some none)
    (z_range : PySem.W.nsIn K mainGlobals "range" = some none)
    (z_min : PySem.W.nsIn K mainGlobals "min" = some none)
    (z_repr : PySem.W.nsIn K mainGlobals "repr" = some none)
    (z_sorted : PySem.W.nsIn K mainGlobals "sorted" = some none)
    (z_enumerate : PySem.W.nsIn K mainGlobals "enumerate" = some none)
    : ∃ fd : FuncData, (∀ (s : Shared) (v : Value), BindsTo s fd ⟨[v], []⟩ [("_law_script", v)]) ∧ ∀ base : Heap, K.In base → base.Ns mainGlobals mg → FnG l.prog w K mg base CX0 5 fa fd ["_law_script"] (spLaw K) := by
  obtain ⟨f_best_of, fd_best_of, A_best_of⟩ := d_best_of
  have m_best_of := PySem.W.mg_of X G A_best_of.ns
  obtain ⟨f_next_column, fd_next_column, A_next_column⟩ := d_next_column
  have m_next_column := PySem.W.mg_of X G A_next_column.ns
  obtain ⟨f_nearest, fd_nearest, A_nearest⟩ := d_nearest
  have m_nearest := PySem.W.mg_of X G A_nearest.ns
  obtain ⟨f_ldraw, fd_ldraw, A_ldraw⟩ := d_ldraw
  have m_ldraw := PySem.W.mg_of X G A_ldraw.ns
  obtain ⟨f_lpen, fd_lpen, A_lpen⟩ := d_lpen
  have m_lpen := PySem.W.mg_of X G A_lpen.ns
  obtain ⟨f_lpick, fd_lpick, A_lpick⟩ := d_lpick
  have m_lpick := PySem.W.mg_of X G A_lpick.ns
  obtain ⟨f_lsigns, fd_lsigns, A_lsigns⟩ := d_lsigns
  have m_lsigns := PySem.W.mg_of X G A_lsigns.ns
  obtain ⟨f_lfew, fd_lfew, A_lfew⟩ := d_lfew
  have m_lfew := PySem.W.mg_of X G A_lfew.ns
  obtain ⟨f_lword, fd_lword, A_lword⟩ := d_lword
  have m_lword := PySem.W.mg_of X G A_lword.ns
  obtain ⟨f_lplaces, fd_lplaces, A_lplaces⟩ := d_lplaces
  have m_lplaces := PySem.W.mg_of X G A_lplaces.ns
  obtain ⟨f_lntext, fd_lntext, A_lntext⟩ := d_lntext
  have m_lntext := PySem.W.mg_of X G A_lntext.ns
  obtain ⟨f_lnrows, fd_lnrows, A_lnrows⟩ := d_lnrows
  have m_lnrows := PySem.W.mg_of X G A_lnrows.ns
  obtain ⟨f_lnapart, fd_lnapart, A_lnapart⟩ := d_lnapart
  have m_lnapart := PySem.W.mg_of X G A_lnapart.ns
  obtain ⟨f_law, fd_law, A_law⟩ := d_law
  have m_law := PySem.W.mg_of X G A_law.ns
  have e := hfa.symm.trans m_law
  cases e
  have T : Txt mg := ⟨PySem.W.mg_none_of X G z_len, PySem.W.mg_none_of X G z_list, PySem.W.mg_none_of X G z_int, PySem.W.mg_none_of X G z_abs, PySem.W.mg_none_of X G z_range, PySem.W.mg_none_of X G z_min, PySem.W.mg_none_of X G z_repr, PySem.W.mg_none_of X G z_sorted, PySem.W.mg_none_of X G z_enumerate⟩
  have bd_best_of : Binds K fd_best_of ["pairs"] [] := A_best_of.fn.binds (ps := ["pairs"]) fun _ _ _ _ _ _ us hl => match us, hl with | [_], _ => rfl
  have bd_next_column : Binds K fd_next_column ["column", "letter", "old"] [] := A_next_column.fn.binds (ps := ["column", "letter", "old"]) fun _ _ _ _ _ _ us hl => match us, hl with | [_, _, _], _ => rfl
  have bd_nearest : Binds K fd_nearest ["text", "old"] [] := A_nearest.fn.binds (ps := ["text", "old"]) fun _ _ _ _ _ _ us hl => match us, hl with | [_, _], _ => rfl
  have bd_ldraw : Binds K fd_ldraw ["_law_pen_here", "_law_many"] [] := A_ldraw.fn.binds (ps := ["_law_pen_here", "_law_many"]) fun _ _ _ _ _ _ us hl => match us, hl with | [_, _], _ => rfl
  have bd_lpen : Binds K fd_lpen ["_law_script"] [] := A_lpen.fn.binds (ps := ["_law_script"]) fun _ _ _ _ _ _ us hl => match us, hl with | [_], _ => rfl
  have bd_lpick : Binds K fd_lpick ["_law_pen_here", "_law_options"] [] := A_lpick.fn.binds (ps := ["_law_pen_here", "_law_options"]) fun _ _ _ _ _ _ us hl => match us, hl with | [_, _], _ => rfl
  have bd_lsigns : Binds K fd_lsigns [] [] := A_lsigns.fn.binds (ps := []) fun _ _ _ _ _ _ us hl => match us, hl with | [], _ => rfl
  have bd_lfew : Binds K fd_lfew ["_law_pen_here"] [] := A_lfew.fn.binds (ps := ["_law_pen_here"]) fun _ _ _ _ _ _ us hl => match us, hl with | [_], _ => rfl
  have bd_lword : Binds K fd_lword ["_law_pen_here", "_law_signs_here", "_law_least", "_law_most_letters"] [] := A_lword.fn.binds (ps := ["_law_pen_here", "_law_signs_here", "_law_least", "_law_most_letters"]) fun _ _ _ _ _ _ us hl => match us, hl with | [_, _, _, _], _ => rfl
  have bd_lplaces : Binds K fd_lplaces ["_law_text_here", "_law_was"] [] := A_lplaces.fn.binds (ps := ["_law_text_here", "_law_was"]) fun _ _ _ _ _ _ us hl => match us, hl with | [_, _], _ => rfl
  have bd_lntext : Binds K fd_lntext ["_law_pen_here", "_law_signs_here", "_law_most_letters"] [] := A_lntext.fn.binds (ps := ["_law_pen_here", "_law_signs_here", "_law_most_letters"]) fun _ _ _ _ _ _ us hl => match us, hl with | [_, _, _], _ => rfl
  have bd_lnrows : Binds K fd_lnrows ["_law_left", "_law_right"] [] := A_lnrows.fn.binds (ps := ["_law_left", "_law_right"]) fun _ _ _ _ _ _ us hl => match us, hl with | [_, _], _ => rfl
  have bd_lnapart : Binds K fd_lnapart ["_law_left", "_law_right"] [] := A_lnapart.fn.binds (ps := ["_law_left", "_law_right"]) fun _ _ _ _ _ _ us hl => match us, hl with | [_, _], _ => rfl
  have bd_law : Binds K fd_law ["_law_script"] [] := A_law.fn.binds (ps := ["_law_script"]) fun _ _ _ _ _ _ us hl => match us, hl with | [_], _ => rfl
  refine ⟨fd_law, fun s v => A_law.fn.binds1 rfl s v, fun base _ _ => ?_⟩
  have c_best_of : CalG l.prog w K mg base CX0 1 "best_of" (spBestOf K) := ⟨f_best_of, fd_best_of, _, b_best_of A_best_of.fn T, m_best_of, A_best_of.fn.kp, bd_best_of⟩
  have c_next_column : CalG l.prog w K mg base CX0 2 "next_column" (spNext K) := ⟨f_next_column, fd_next_column, _, b_next_column A_next_column.fn T c_best_of, m_next_column, A_next_column.fn.kp, bd_next_column⟩
  have c_nearest : CalG l.prog w K mg base CX0 3 "nearest" (spNear K) := ⟨f_nearest, fd_nearest, _, b_nearest A_nearest.fn T c_next_column, m_nearest, A_nearest.fn.kp, bd_nearest⟩
  have c_ldraw : CalG l.prog w K mg base CX0 1 "_law_draw" spDraw := ⟨f_ldraw, fd_ldraw, _, b_ldraw A_ldraw.fn T, m_ldraw, A_ldraw.fn.kp, bd_ldraw⟩
  have c_lpen : CalG l.prog w K mg base CX0 1 "_law_pen" (spPen K) := ⟨f_lpen, fd_lpen, _, b_lpen A_lpen.fn T, m_lpen, A_lpen.fn.kp, bd_lpen⟩
  have c_lpick : CalG l.prog w K mg base CX0 2 "_law_pick" (spPick K) := ⟨f_lpick, fd_lpick, _, b_lpick A_lpick.fn T c_ldraw, m_lpick, A_lpick.fn.kp, bd_lpick⟩
  have c_lsigns : CalG l.prog w K mg base CX0 1 "_law_signs" spSigns := ⟨f_lsigns, fd_lsigns, _, b_lsigns A_lsigns.fn T, m_lsigns, A_lsigns.fn.kp, bd_lsigns⟩
  have t_signs : FnT l.prog w K mg base 1 "_law_signs" letS := okT A_lsigns.fn sc_lsigns m_lsigns bd_lsigns rfl
  have c_lfew : CalG l.prog w K mg base CX0 3 "_law_few" spFew := ⟨f_lfew, fd_lfew, _, b_lfew A_lfew.fn T c_lpick t_signs, m_lfew, A_lfew.fn.kp, bd_lfew⟩
  have c_lword : CalG l.prog w K mg base CX0 3 "_law_word" spWord := ⟨f_lword, fd_lword, _, b_lword A_lword.fn T c_ldraw c_lpick, m_lword, A_lword.fn.kp, bd_lword⟩
  have c_lplaces : CalG l.prog w K mg base CX0 1 "_law_places" (spPlaces K) := ⟨f_lplaces, fd_lplaces, _, b_lplaces A_lplaces.fn T, m_lplaces, A_lplaces.fn.kp, bd_lplaces⟩
  have c_lntext : CalG l.prog w K mg base CX0 4 "_law_ntext" spNtext := ⟨f_lntext, fd_lntext, _, b_lntext A_lntext.fn T c_ldraw c_lpick c_lword, m_lntext, A_lntext.fn.kp, bd_lntext⟩
  have c_lnrows : CalG l.prog w K mg base CX0 1 "_law_nrows" spRows := ⟨f_lnrows, fd_lnrows, _, b_lnrows A_lnrows.fn T, m_lnrows, A_lnrows.fn.kp, bd_lnrows⟩
  have c_lnapart : CalG l.prog w K mg base CX0 2 "_law_napart" spApart := ⟨f_lnapart, fd_lnapart, _, b_lnapart A_lnapart.fn T c_lnrows, m_lnapart, A_lnapart.fn.kp, bd_lnapart⟩
  have k_nearest : CalK l.prog w K mg base CX0 3 "nearest" (spNear K) ["old", "text"] List.reverse := ⟨f_nearest, fd_nearest, ["text", "old"], b_nearest A_nearest.fn T c_next_column, m_nearest, A_nearest.fn.kp, A_nearest.fn.kwb fun _ _ _ _ _ _ us hl => match us, hl with | [_, _], _ => rfl, fun _ _ r _ => vals_rev r⟩
  exact b_law A_law.fn T c_lpen c_lfew c_lword c_ldraw c_lpick c_lplaces c_lntext c_lnapart c_nearest k_nearest
end Vk
open PySem PySem.W PyProof.Rows
set_option maxRecDepth 100000 in
set_option maxHeartbeats 0 in
theorem PySem.Challenge.cw_anchoredits_k59_nearest_windows_holds : PySem.Challenge.rw_anchoredits_k59_nearest_windows.Holds := by
  w_on; o_law; k_head; (case hw => w_witness2)
  k_fill
  refine Vk.walkG (l := PySem.Challenge.rw_anchoredits_k59_nearest_windows) (n := 63) (k := 5) (x := "_law_script") (CX := L2.CX0) (sp := Vk.spLaw) rfl (by decide) rfl ⟨rfl, by decide, by decide⟩ (fun w h Y => PySem.W.kIn_of Y) ?F (fun K H a ns hl _ hS => ⟨a, ns, rfl, hS, hl, fun _ => rfl⟩) (fun _ _ _ _ z => z)
  case F =>
    intro w mg fa h KX G hmg
    refine' Vk.all KX G hmg ?d_best_of ?d_next_column ?d_nearest ?d_ldraw ?d_lpen ?d_lpick ?d_lsigns ?d_lfew ?d_lword ?d_lplaces ?d_lntext ?d_lnrows ?d_lnapart ?d_law ?z_len ?z_list ?z_int ?z_abs ?z_range ?z_min ?z_repr ?z_sorted ?z_enumerate
    (case d_best_of => as_aux_lemma => (refine' ⟨_, _, Vk.at_mk ?a ?l ?c ?k⟩; (case a => k_is); (case l => k_is); (case c => k_is); (case k => k_is)))
    (case d_next_column => as_aux_lemma => (refine' ⟨_, _, Vk.at_mk ?a ?l ?c ?k⟩; (case a => k_is); (case l => k_is); (case c => k_is); (case k => k_is)))
    (case d_nearest => as_aux_lemma => (refine' ⟨_, _, Vk.at_mk ?a ?l ?c ?k⟩; (case a => k_is); (case l => k_is); (case c => k_is); (case k => k_is)))
    (case d_ldraw => as_aux_lemma => (refine' ⟨_, _, Vk.at_mk ?a ?l ?c ?k⟩; (case a => k_is); (case l => k_is); (case c => k_is); (case k => k_is)))
    (case d_lpen => as_aux_lemma => (refine' ⟨_, _, Vk.at_mk ?a ?l ?c ?k⟩; (case a => k_is); (case l => k_is); (case c => k_is); (case k => k_is)))
    (case d_lpick => as_aux_lemma => (refine' ⟨_, _, Vk.at_mk ?a ?l ?c ?k⟩; (case a => k_is); (case l => k_is); (case c => k_is); (case k => k_is)))
    (case d_lsigns => as_aux_lemma => (refine' ⟨_, _, Vk.at_mk ?a ?l ?c ?k⟩; (case a => k_is); (case l => k_is); (case c => k_is); (case k => k_is)))
    (case d_lfew => as_aux_lemma => (refine' ⟨_, _, Vk.at_mk ?a ?l ?c ?k⟩; (case a => k_is); (case l => k_is); (case c => k_is); (case k => k_is)))
    (case d_lword => as_aux_lemma => (refine' ⟨_, _, Vk.at_mk ?a ?l ?c ?k⟩; (case a => k_is); (case l => k_is); (case c => k_is); (case k => k_is)))
    (case d_lplaces => as_aux_lemma => (refine' ⟨_, _, Vk.at_mk ?a ?l ?c ?k⟩; (case a => k_is); (case l => k_is); (case c => k_is); (case k => k_is)))
    (case d_lntext => as_aux_lemma => (refine' ⟨_, _, Vk.at_mk ?a ?l ?c ?k⟩; (case a => k_is); (case l => k_is); (case c => k_is); (case k => k_is)))
    (case d_lnrows => as_aux_lemma => (refine' ⟨_, _, Vk.at_mk ?a ?l ?c ?k⟩; (case a => k_is); (case l => k_is); (case c => k_is); (case k => k_is)))
    (case d_lnapart => as_aux_lemma => (refine' ⟨_, _, Vk.at_mk ?a ?l ?c ?k⟩; (case a => k_is); (case l => k_is); (case c => k_is); (case k => k_is)))
    (case d_law => as_aux_lemma => (refine' ⟨_, _, Vk.at_mk ?a ?l ?c ?k⟩; (case a => k_is); (case l => k_is); (case c => k_is); (case k => k_is)))
    (case z_len => k_is)
    (case z_list => k_is)
    (case z_int => k_is)
    (case z_abs => k_is)
    (case z_range => k_is)
    (case z_min => k_is)
    (case z_repr => k_is)
    (case z_sorted => k_is)
    (case z_enumerate => k_is)
#print axioms PySem.Challenge.cw_anchoredits_k59_nearest_windows_holds
