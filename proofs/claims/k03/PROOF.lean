import PyProof.Rows.All
import Wide.All
import OpenK.AllK
import Wide.FinOn
import HandS.Base
import HandS.Call
import HandS.List
import HandS.Comp
import HandS.Ends
import HandS.Text
import HandS.Words
import HandS.StrMore
import HandS.ForMost
import HandS.Codes
import HandS.Replace
import HandS.FStrTup
import PyProof.StrBlock2
import PySem.Challenge.RW_anchoredits_k03_places_of_words
set_option Elab.async false
set_option maxRecDepth 100000
set_option linter.all false
namespace Vk
open PySem PySem.Spec PyProof.Rows L2
/-! ## defs that may show values: no guard is under way -/
structure FnG (P : Program) (w : World) (K : PySem.W.Frag) (mg : Str → Option Value) (base : Heap) (CX : CXT) (k : Nat) (f : Addr) (fd : FuncData) (ps : List Str) (sp : Sp) : Prop where
  len : ∀ vs H Q E, sp vs H Q E → vs.length = ps.length
  run : ∀ (A : Around) (outer : List Env) (s : Shared) (H : Hp) (args : Args) (us : List Value) (vs : List V) (Q : VK) (E : XK), A.guards = some [] → Room k A → Env0 P w K mg base A outer s H → BindsTo s fd args (ps.zip us) → Vals vs us → sp vs H Q E →
    codeAny (model P w) A (.call (.ref f) args) (CR CX outer P w H s Q E) s
theorem FnG.of {P : Program} {w : World} {K : PySem.W.Frag} {mg : Str → Option Value} {base : Heap} {CX : CXT} {k : Nat} {f : Addr} {fd : FuncData} {ps : List Str} {sp : Sp} (F : FnOk P w K mg base CX k f fd ps sp) : FnG P w K mg base CX k f fd ps sp :=
  ⟨F.len, fun A outer s H args us vs Q E _ => F.run A outer s H args us vs Q E⟩
section
variable {P : Program} {w : World} {K : PySem.W.Frag} {mg : Str → Option Value} {base : Heap}
theorem okG {CX : CXT} {x qual : Str} {st : Stmt} {f : Addr} {fd : FuncData} {N ps : List Str} {k : Nat} {sp : Sp} (F : Fun K x qual st f fd) (S : FnScope N ps (defScope st)) (hlen : ∀ vs H Q E, sp vs H Q E → vs.length = ps.length)
    (hbody : ∀ (cdv : Value) (A : Around) (outer : List Env) (s : Shared) (H : Hp) (vs : List V) (Q : VK) (E : XK), A.guards = some [] → Room k (A.deeper (envOfC qual (defScope st) s.heap.objs.size f cdv)) → sp vs H Q E →
      ∃ t, PSs (cxOf CX P w K mg base N qual (defScope st) f cdv A outer s H E) (defBody st) t ∧ t { nx := fun _ H' => Q .non H', rt := Q } (start N vs) H) : FnG P w K mg base CX (k + 1) f fd ps sp := by
  obtain ⟨oc, od, kV, doc, pm, an, cdv, ct, osl, rfl, lk, hcd⟩ := F.ex
  refine ⟨hlen, fun A outer s H args us vs Q E hg hr e0 hb r hsp => ?_⟩
  have hvl := hlen _ _ _ _ hsp
  have KX := e0.mod.kin.keeps (fun b o e => (e0.bs b o e).1 : ∀ b o, base.get? b = some o → s.heap.get? b = some o)
  have noLim := e0.mod.nolimit.keeps (fun b o e => (e0.bs b o e).1 : ∀ b o, base.get? b = some o → s.heap.get? b = some o)
  have kinds : ∀ y ∈ ps.zip us, (defScope st).names.lookup y.1 = some .local ∨ ((defScope st).names.lookup y.1 = some .cell ∧ ((cellsFrom (s.heap.objs.size + 1) (defScope st).names []).lookup y.1).isSome = true) := by
    rintro ⟨n, v⟩ hy
    have hy1 := (List.of_mem_zip hy).1
    cases S.par n hy1 with
    | inl q => exact Or.inl q
    | inr q => exact Or.inr (And.intro q (PySem.W.cellsFrom_some _ _ _ (Or.inl q)))
  refine codeAny_call_function hr.depth (KX f _ lk) rfl S.co S.gen rfl (PySem.W.codeRec_of KX hcd) (hb _ _ _ _ (wpAny_newFunctionEnv_cells S.kind kinds fun env he s1 x => ?_))
  cases he
  refine And.intro (noLim.keeps x.toInCall.keep) (codeAny_func ?_)
  obtain ⟨t, ht, hq⟩ := hbody cdv A outer s H vs Q E hg (hr.deeper _) hsp
  have I0 := inv_start (CX := CX) (E := E) S hr.hd e0 hvl r x
  refine wpAny_mono (ht.run [] s1 (start N vs) H _ I0 hq) (fun fl s2 hs => ?_) (fun e s2 hs => hs)
  have close : ∀ {σ2 : L2.St} {H2 : Hp} {v : V} {u : Value}, Inv (cxOf CX P w K mg base N qual (defScope st) f cdv A outer s H E) [] σ2 H2 s2 → RelV v u → Q v H2 → CE outer P w H s Q u s2 := by
    intro σ2 H2 v u J rv q
    exact ⟨v, H2, And.intro J.os (And.intro J.bare (And.intro J.base (And.intro J.hok (And.intro rv q))))⟩
  match fl, hs with
  | .ret u, ⟨v, σ2, H2, J, rv, q⟩ => exact close J rv q
  | .next, ⟨σ2, H2, J, q⟩ => exact close (v := V.non) (u := Value.none) J rfl q
  | .brk, ⟨_, _, _, q⟩ => exact q.elim
  | .cont, ⟨_, _, _, q⟩ => exact q.elim
end
section
variable {P : Program} {w : World} {K : PySem.W.Frag} {mg : Str → Option Value} {base : Heap}
theorem okG0 {x qual : Str} {st : Stmt} {f : Addr} {fd : FuncData} {N ps : List Str} {k : Nat} {sp : Sp} (F : Fun K x qual st f fd) (S : FnScope N ps (defScope st)) (hlen : ∀ vs H Q E, sp vs H Q E → vs.length = ps.length)
    (hbody : ∀ (cdv : Value) (A : Around) (outer : List Env) (s : Shared) (H : Hp) (vs : List V) (Q : VK) (E : XK), A.guards = some [] → Room k (A.deeper (envOfC qual (defScope st) s.heap.objs.size f cdv)) → sp vs H Q E →
      ∃ t, PSs (cxOf CX0 P w K mg base N qual (defScope st) f cdv A outer s H E).nox (defBody st) t ∧ t { nx := fun _ H' => Q .non H', rt := Q } (start N vs) H) : FnG P w K mg base CX0 (k + 1) f fd ps sp :=
  okG F S hlen fun cdv A outer s H vs Q E hg hr hsp => match hbody cdv A outer s H vs Q E hg hr hsp with | ⟨t, h, q⟩ => ⟨t, h.nox, q⟩
end
/-- a def of the module by its name -/
structure CalG (P : Program) (w : World) (K : PySem.W.Frag) (mg : Str → Option Value) (base : Heap) (CX : CXT) (k : Nat) (x : Str) (sp : Sp) : Prop where
  ex : ∃ (f : Addr) (fd : FuncData) (ps : List Str), FnG P w K mg base CX k f fd ps sp ∧ mg x = some (.ref f) ∧ PySem.W.keepIn K (.ref f) = true ∧ Binds K fd ps []
section
variable {X : Cx} {CX : CXT} {j k : Nat} {f : Addr} {fd : FuncData} {ps : List Str} {sp : Sp} {E : XK} {x : Str} {p pos : Pos} {e : Expr} {es : List Expr} {t : TA}
theorem run_fnG {pins : List (Addr × Obj)} {σ : L2.St} {H : Hp} {s : Shared} {Q : VK} {us : List Value} {vs : List V} (F : FnG X.prog X.w X.K X.mg X.base CX k f fd ps sp) (hg : X.A.guards = some []) (hr : Room k X.A) (hb : Binds X.K fd ps []) (hx : Passes CX X E)
    (I : Inv X pins σ H s) (r : Vals vs us) (h : sp vs H Q E) : wpAny (model X.prog X.w) X.A (call (.ref f) us) (EP X pins σ Q) X.xe s := by
  have hl : us.length = ps.length := r.length.symm.trans (F.len _ _ _ _ h)
  have b := hb s us I.kIn ((congrArg List.length (List.append_nil us)).trans hl)
  rw [List.append_nil] at b
  refine wpAny_call (codeAny_mono (F.run X.A X.stack s H ⟨us, []⟩ us vs Q E hg hr I.env0 b r h) (fun res s2 hq => ?_))
  match res, hq with
  | .error e, hq => exact hx pins σ H s e s2 I hq
  | .ok (.ret u), hq => exact I.after hq
  | .ok .next, hq => exact hq.elim
  | .ok .brk, hq => exact hq.elim
  | .ok .cont, hq => exact hq.elim
theorem pe_cG (c : CalG X.prog X.w X.K X.mg X.base CX k x sp) (hg : X.A.guards = some []) (hr : Room j X.A) (hk : k ≤ j) (hx : Passes CX X E) (ha : PA X (e :: es) t) (gl : Gl X x := by rfl)
    (hdb : (x == ("__debug__" : Str)) = false := by decide) (he : starEach (e :: es) X.env = (false, eval e X.env) :: starEach es X.env := by rfl) (hpl : (backTo pos (starEach es X.env)).any (·.1) = false := by rfl) :
    PE X (.Call (.Name x p) (e :: es) [] pos) (tCall sp [] E t) := by
  obtain ⟨f, fd, ps, F, hm, kp, hb⟩ := c.ex
  refine ⟨fun pins s σ H Q I h => wpAny_Call_Name_kw (ld_glob I gl hm (PySem.W.callWith_K (h₀ := X.base) I.ok.mod.kin kp (thn (ha.run pos pins s σ H _ I h) fun us s1 hh => ?_) he hpl) hdb)⟩
  obtain ⟨vs, H1, I1, r, q⟩ := hh
  rw [List.append_nil] at q
  exact ⟨I1.kIn, run_fnG F hg (hr.mono hk) hb hx I1 r q⟩
theorem pe_cG0 (c : CalG X.prog X.w X.K X.mg X.base CX k x sp) (hg : X.A.guards = some []) (hr : Room j X.A) (hk : k ≤ j) (hx : Passes CX X E) (gl : Gl X x := by rfl)
    (hdb : (x == ("__debug__" : Str)) = false := by decide) : PE X (.Call (.Name x p) [] [] pos) (tCall sp [] E tNil) := by
  obtain ⟨f, fd, ps, F, hm, kp, hb⟩ := c.ex
  exact ⟨fun pins s σ H Q I h => wpAny_Call_Name_kw (ld_glob I gl hm (PySem.W.callWith_K0 I.kIn kp (run_fnG (us := []) F hg (hr.mono hk) hb hx I .nil h)) hdb)⟩
end
/-! ## repr -/
section
variable {X : Cx}
theorem call_reprD (hg : X.A.guards = some []) (hu : X.A.units + 64 < cLine) : CallR X (.builtin "repr") (fun xs H Q => ∃ x d, xs = [x] ∧ Dp X.K H x d ∧ d.showable = true ∧ d.hasDict = false ∧ d.depth ≤ 60 ∧ d.shown.length ≤ sizeLine ∧ Q (.str d.shown) H) := by
  intro pins s σ H xs us Q I r h
  obtain ⟨x, d, rfl, hd, hs, hn, hdp, hz, q⟩ := h
  cases r with
  | cons r1 r2 =>
  cases r2
  obtain ⟨as, rd⟩ := Dp.reads I d x _ hd r1
  cases hd with
  | non => cases r1; exact PySem.P.repr_of_none ⟨V.str _, H, I.tok _, ⟨_, rfl⟩, q⟩
  | bl b => cases r1; exact PySem.P.repr_of_bool ⟨V.str _, H, I.tok _, ⟨_, rfl⟩, q⟩
  | int i =>
    obtain ⟨t, rfl⟩ := r1
    exact PySem.P.repr_of_int (of_decide_eq_true hs) ⟨V.str _, H, I.tok _, ⟨_, rfl⟩, q⟩
  | str z =>
    obtain ⟨t, rfl⟩ := r1
    exact PySem.P.repr_of_str ⟨V.str _, H, I.tok _, ⟨_, rfl⟩, q⟩ hz
  | lst h1 h2 =>
    cases r1
    exact repr_of_reads' rd hs (PyData.noDict_hsm hn) hg (by omega) (fun _ _ e => e) (fun h' u tk hk => ⟨V.str _, H, I.kept hk, ⟨u, rfl⟩, q⟩) hz
  | tup h1 h2 =>
    cases r1
    exact repr_of_reads' rd hs (PyData.noDict_hsm hn) hg (by omega) (fun _ _ e => e) (fun h' u tk hk => ⟨V.str _, H, I.kept hk, ⟨u, rfl⟩, q⟩) hz
end
/-! ## the law's own call -/
theorem lawG {P : Program} {w : World} {K : PySem.W.Frag} {mg mb : Str → Option Value} {CX : CXT} {k : Nat} {fa a : Addr} {fd : FuncData} {x : Str} {sp : Sp} {s1 : Shared} {vs : List Value} {ns : List Int}
    (KX : K.In s1.heap) (gns : s1.heap.Ns mainGlobals mg) (bns : s1.heap.Ns builtinsNs mb) (bbt : ∀ x : Str, x ≠ "__name__" → mb x = bootBuiltins x) (nolim : s1.heap.NoLimit) (gens0 : s1.gens = #[])
    (scr : s1.heap.get? a = some { cls := .type "list", data := .seq vs.toArray }) (hints : IntsAre vs ns) (short : ns.length ≤ sizeLine) (room : Room k callerA)
    (F : ∀ base : Heap, K.In base → base.Ns mainGlobals mg → FnG P w K mg base CX k fa fd [x] sp) (bind1 : ∀ (s : Shared) (u : Value), BindsTo s fd ⟨[u], []⟩ [(x, u)])
    (prom : ∀ H : Hp, Only H → SqL K H a (ns.map V.int) → sp [.ref a] H (fun v _ => v = .bl true) fun _ _ _ => False)
    (noX : ∀ H e s2, CX [] H s1 (fun _ _ _ => False) e s2 → False) :
    codeAny (model P w) callerA (.call (.ref fa) ⟨[.ref a], []⟩) (fun r s2 => r = .ok (.ret (.bool true)) ∧ OldK s1.heap s2.heap ∧ s2.os = s1.os ∧ AllBare s2.gens) s1 := by
  have rel := vals_ints hints
  have main : ∀ H : Hp, Only H → SqL K H a (ns.map V.int) → HOk P w H s1.heap → (∀ b u, H b = some u → b = a) → (∀ u, H a = some u → K.lookup a = none) →
      codeAny (model P w) callerA (.call (.ref fa) ⟨[.ref a], []⟩) (fun r s2 => r = .ok (.ret (.bool true)) ∧ OldK s1.heap s2.heap ∧ s2.os = s1.os ∧ AllBare s2.gens) s1 := by
    intro H only seq ok at1 un1
    have dictFree : ∀ {b : Addr} {o : Obj} {es : Array DictEntry} {ep : Nat}, s1.heap.get? b = some o → o.data = .dict es ep → H b = none := by
      intro b o es ep e d
      match q : H b with
      | none => rfl
      | some u =>
        have eb := at1 b u q
        subst eb
        rw [scr] at e
        cases e
        exact nomatch (show Data.seq vs.toArray _ = Data.dict es ep from d)
    have nsAt : ∀ {b : Addr} {m : Str → Option Value}, s1.heap.Ns b m → (hidT s1.heap H).Ns b m := by
      rintro b m ⟨o, es, ep, e, d, r⟩
      exact ⟨o, es, ep, hidT_get e (dictFree e d), d, r⟩
    have inK : K.In (hidT s1.heap H) := by
      intro b o e
      refine hidT_get (KX b o e) ?_
      match q : H b with
      | none => rfl
      | some u =>
        have eb := at1 b u q
        subst eb
        exact nomatch (un1 u q).symm.trans e
    have limAt : (hidT s1.heap H).NoLimit := match nolim with | ⟨mc, h1, h2⟩ => ⟨mc, nsAt h1, h2⟩
    have mod1 : Mod K mg (hidT s1.heap H) := ⟨inK, nsAt gns, ⟨mb, nsAt bns, bbt⟩, limAt⟩
    have start0 : Env0 P w K mg (hidT s1.heap H) callerA [] s1 H := ⟨rfl, mod1, fun b o => of_hidT, Nat.le_of_eq (hidT_size s1.heap H), trivial, (fun b hb => absurd hb (List.not_mem_nil (a := b))), ok, AllBare.of_eq gens0⟩
    refine codeAny_mono ((F _ inK (nsAt gns)).run callerA [] s1 H ⟨[.ref a], []⟩ [.ref a] [.ref a] _ _ rfl room start0 (bind1 s1 (.ref a)) (.cons rfl .nil) (prom H only seq)) ?_
    intro res s2 h
    match res, h with
    | .error e, h => exact (noX H e s2 h).elim
    | .ok .next, h => exact h.elim
    | .ok .brk, h => exact h.elim
    | .ok .cont, h => exact h.elim
    | .ok (.ret u), ⟨v, H2, os, bare, un, ok2, r2, (hv : v = .bl true)⟩ =>
      cases hv
      have hu : u = Value.bool true := r2
      cases hu
      refine ⟨rfl, OldK.of_keep ?_, os, bare⟩
      intro b o e
      match q : H b with
      | none => exact un.keep b o e q (fun z => nomatch z) (fun z => nomatch z)
      | some u =>
        cases only b with
        | inl z => exact nomatch z.symm.trans q
        | inr z =>
          obtain ⟨ob, xs, z⟩ := z
          have c1 := (ok b _ z).1
          have c2 := (ok2 b _ (un.frzs b ob _ z)).1
          exact c2.trans (c1.symm.trans e)
  match hk : K.lookup a with
  | some o =>
    have e := (KX a o hk).symm.trans scr
    cases e
    refine main (fun _ => none) (fun _ => Or.inl rfl) (Or.inr ⟨_, vs.toArray, _, hk, rfl, rfl, rfl, ?_, ?_⟩) (fun b u z => nomatch (show (none : Option HO) = some u from z)) (fun b u z => nomatch (show (none : Option HO) = some u from z)) (fun u z => nomatch (show (none : Option HO) = some u from z))
    · rw [List.size_toArray, hints.length]
      exact short
    · simpa using rel
  | none =>
    refine main (fun b => if b = a then some (.frz { cls := .type "list", data := .seq vs.toArray } (.lst (ns.map V.int))) else none) ?_ (Or.inl (Or.inr ⟨_, if_pos rfl⟩)) ?_ ?_ (fun _ _ => hk)
    · intro b
      by_cases hb : b = a
      · exact Or.inr ⟨_, _, if_pos hb⟩
      · exact Or.inl (if_neg hb)
    · intro b u z
      by_cases hb : b = a
      · subst hb
        have z1 := (if_pos rfl).symm.trans z
        cases z1
        exact ⟨scr, (by rw [List.length_map]; exact short), vs, _, rel, scr⟩
      · exact nomatch (if_neg hb).symm.trans z
    · intro b u z
      by_cases hb : b = a
      · exact hb
      · exact nomatch (if_neg hb).symm.trans z
theorem walkG {l : PySem.W.OpenLaw} {n k : Nat} {q : Program} {loose : List Str} {XP : (Str → Option Value) → Heap → Prop} {YP : World → Heap → Prop} {d : DefRec} {K : Params → PySem.W.Frag} {CX : CXT} {sp : PySem.W.Frag → Sp} {x : Str}
    (hn : l.most = some n) (hn2 : n ≤ sizeLine) (hdf : d.params.defaults = []) (hr : Room k callerA) (hY : ∀ (w : World) (h : Heap), YP w h → (K w.params).In h)
    (F : ∀ (w : World) (mg : Str → Option Value) (fa : Addr) (h : Heap), (K w.params).In h → h.Ns mainGlobals mg → mg d.name = some (.ref fa) →
      ∃ fd : FuncData, (∀ (s : Shared) (u : Value), BindsTo s fd ⟨[u], []⟩ [(x, u)]) ∧ ∀ base : Heap, (K w.params).In base → base.Ns mainGlobals mg → FnG l.prog w (K w.params) mg base CX k fa fd [x] (sp (K w.params)))
    (hsp : ∀ (K : PySem.W.Frag) (H : Hp) (a : Addr) (ns : List Int), ns.length ≤ n → Only H → SqL K H a (ns.map V.int) → sp K [.ref a] H (fun v _ => v = .bl true) fun _ _ _ => False)
    (noX : ∀ (H : Hp) (s : Shared) (e : Value) (s2 : Shared), CX [] H s (fun _ _ _ => False) e s2 → False) : PySem.W.WalkO q loose XP YP l.row.toRowW d [] (fun f vs => PySem.call f vs) := by
  refine Att.attach_call hn hdf ?_
  intro w s0 s1 mg mb fa o pm cd doc a vs ns G Y _ _ _ hmg scr hints hlen gens0
  obtain ⟨fd, hb, hF⟩ := F w mg fa _ (hY w _ Y) G.T.g hmg
  exact lawG (hY w _ Y) G.T.g G.T.b G.T.builtins G.T.nolimit gens0 scr hints (Nat.le_trans hlen hn2) hr hF hb (fun H h1 h2 => hsp _ H a ns hlen h1 h2) (fun H => noX H s1)
end Vk
set_option Elab.async false
set_option maxRecDepth 100000
set_option linter.all false
namespace Vk
open PySem PySem.Spec PyProof.Rows L2
/-! ## what stays -/
/-- all that was tracked stays, but what stands at p -/
def Ext (p : Addr) (H H' : Hp) : Prop := ∀ b o, H b = some o → b ≠ p → H' b = some o
theorem Ext.rfl {p : Addr} {H : Hp} : Ext p H H := fun _ _ h _ => h
theorem Ext.trans {p : Addr} {H H1 H2 : Hp} (a : Ext p H H1) (b : Ext p H1 H2) : Ext p H H2 := fun c o h n => b c o (a c o h n) n
theorem Ext.same {p : Addr} {H H1 : Hp} (a : Same H H1) : Ext p H H1 := fun c o h _ => a c o h
theorem Ext.at {p : Addr} {H : Hp} {o : HO} : Ext p H (upd H p o) := fun c u h n => (upd_ne n).trans h
theorem same_new {H : Hp} {a : Addr} {o : HO} (h : H a = none) : Same H (upd H a o) := fun c u e => (upd_ne (ne_of_none e h)).trans e
theorem Ext.new {p a : Addr} {H : Hp} {o : HO} (h : H a = none) : Ext p H (upd H a o) := .same (same_new h)
theorem Ext.set {p a : Addr} {H H1 : Hp} {o : HO} (x : Ext p H H1) (h : H a = none) : Ext p H (upd H1 a o) := fun c u e n => (upd_ne (ne_of_none e h)).trans (x c u e n)
theorem Ext.none_of {p a : Addr} {H H1 : Hp} (x : Ext p H H1) (hp : a ≠ p) (h : H1 a = none) : H a = none := by
  match q : H a with
  | none => rfl
  | some o => exact nomatch (x a o q hp).symm.trans h
theorem Ext.seqL {K : PySem.W.Frag} {p a : Addr} {H H1 : Hp} {xs : List V} (x : Ext p H H1) (hp : a ≠ p) (h : SqL K H a xs) : SqL K H1 a xs := by
  match h with
  | .inl (.inl e) => exact .inl (.inl (x _ _ e hp))
  | .inl (.inr ⟨o, e⟩) => exact .inl (.inr ⟨o, x _ _ e hp⟩)
  | .inr e => exact .inr e
theorem Ext.seqT {K : PySem.W.Frag} {p a : Addr} {H H1 : Hp} {xs : List V} (x : Ext p H H1) (hp : a ≠ p) (h : SqT K H a xs) : SqT K H1 a xs := by
  match h with
  | .inl (.inl e) => exact .inl (.inl (x _ _ e hp))
  | .inl (.inr ⟨o, e⟩) => exact .inl (.inr ⟨o, x _ _ e hp⟩)
  | .inr e => exact .inr e
theorem up_new {H : Hp} {a b : Addr} {o u : HO} (h : H a = some o) (hb : H b = none) : upd H b u a = some o := same_new hb a o h
/-! ## the pen -/
def penL (c : Addr) (t l : Int) : List (Key × V) := [(.inr "cells", .ref c), (.inr "turn", .int t), (.inr "left", .int l)]
theorem k_ct : ¬ ((Str.ofString "cells") = Str.ofString "turn") := by decide +kernel
theorem k_cl : ¬ ((Str.ofString "cells") = Str.ofString "left") := by decide +kernel
theorem k_tl : ¬ ((Str.ofString "turn") = Str.ofString "left") := by decide +kernel
theorem k_lt : ¬ ((Str.ofString "left") = Str.ofString "turn") := by decide +kernel
theorem pen_cells (c : Addr) (t l : Int) : valV (penL c t l) (Sum.inr "cells" : Key) = some (.ref c) := valV_pos rfl
theorem pen_turn (c : Addr) (t l : Int) : valV (penL c t l) (Sum.inr "turn" : Key) = some (.int t) := (valV_neg (fun e => k_ct (Sum.inr.inj e))).trans (valV_pos rfl)
theorem pen_left (c : Addr) (t l : Int) : valV (penL c t l) (Sum.inr "left" : Key) = some (.int l) := (valV_neg (fun e => k_cl (Sum.inr.inj e))).trans ((valV_neg (fun e => k_tl (Sum.inr.inj e))).trans (valV_pos rfl))
theorem pen_put_turn (c : Addr) (t l u : Int) : putK (penL c t l) (Sum.inr "turn" : Key) (.int u) = penL c u l := by
  unfold putK
  rw [valV_any, pen_turn]
  simp [penL, k_ct, k_lt]
theorem pen_put_left (c : Addr) (t l u : Int) : putK (penL c t l) (Sum.inr "left" : Key) (.int u) = penL c t u := by
  unfold putK
  rw [valV_any, pen_left]
  simp [penL, k_cl, k_tl]
theorem pen_made (c : Addr) (t l : Int) : mergeK [] (penL c t l) = penL c t l := by
  simp [mergeK, penL, putK, k_ct, k_cl, k_tl]
structure Pen (H : Hp) (p c : Addr) (T : Nat) : Prop where
  ex : ∃ (ns : List Int) (t l : Int), H p = some (.dK (penL c t l)) ∧ H c = some (.lst (ns.map V.int)) ∧ ns.length ≤ 63 ∧ 0 ≤ t ∧ t ≤ T ∧ 0 ≤ l
section
variable {H H1 : Hp} {p c a : Addr} {T U : Nat} {o : HO} {xs : List V}
theorem Pen.mono (x : Pen H p c T) (h : T ≤ U) : Pen H p c U := by
  obtain ⟨ns, t, l, h1, h2, h3, h4, h5, h6⟩ := x.ex
  exact ⟨ns, t, l, h1, h2, h3, h4, by omega, h6⟩
theorem Pen.stay (x : Pen H p c T) (s : Same H H1) : Pen H1 p c T := by
  obtain ⟨ns, t, l, h1, h2, r⟩ := x.ex
  exact ⟨ns, t, l, s _ _ h1, s _ _ h2, r⟩
theorem Pen.new (x : Pen H p c T) (h : H a = none) : Pen (upd H a o) p c T := x.stay (same_new h)
theorem Pen.is (x : Pen H p c T) : ∃ t l, H p = some (.dK (penL c t l)) := by
  obtain ⟨ns, t, l, h1, _⟩ := x.ex
  exact ⟨t, l, h1⟩
theorem Pen.ne (x : Pen H p c T) (h : H a = some (.lst xs)) : a ≠ p := by
  obtain ⟨t, l, h1⟩ := x.is
  exact ne_of h h1 (by intro z; cases z)
/-- another thing is changed -/
theorem Pen.set (x : Pen H p c T) (h1 : a ≠ p) (h2 : a ≠ c) : Pen (upd H a o) p c T := by
  obtain ⟨ns, t, l, g1, g2, r⟩ := x.ex
  exact ⟨ns, t, l, (upd_ne h1.symm).trans g1, (upd_ne h2.symm).trans g2, r⟩
/-- a thing that was not there when the pen stood is neither the pen nor its cells -/
theorem Pen.apart (x : Pen H p c T) (h : H a = none) : a ≠ p ∧ a ≠ c := by
  obtain ⟨ns, t, l, g1, g2, r⟩ := x.ex
  exact ⟨(ne_of_none g1 h).symm, (ne_of_none g2 h).symm⟩
end
/-- draw's promise -/
def spDraw : Sp := fun vs H Q _ => ∃ (p c : Addr) (m : Int) (T : Nat), vs = [.ref p, .int m] ∧ 0 < m ∧ m < 1073741824 ∧ Pen H p c T ∧ T < 1000000000 ∧
  ∀ (d : Int) (H' : Hp), 0 ≤ d → d < m → Pen H' p c (T + 1) → Ext p H H' → Q (.int d) H'
def spPen (K : PySem.W.Frag) : Sp := fun vs H Q _ => ∃ (a : Addr) (ns : List Int), vs = [.ref a] ∧ SqL K H a (ns.map V.int) ∧
  ∀ (p c : Addr) (H' : Hp), H p = none → Pen H' p c 0 → Same H H' → Q (.ref p) H'
/-! ## draws' small facts -/
theorem ints_dp {K : PySem.W.Frag} {H : Hp} : ∀ ns : List Int, DpAll K H (ns.map V.int) (ns.map PyData.int)
  | [] => .nil
  | n :: ns => .cons (.int n) (ints_dp ns)
theorem ints_canLay : ∀ ns : List Int, PyData.canLayAll0 (ns.map PyData.int) = true
  | [] => rfl
  | n :: ns => by
    show (PyData.canLay0 (.int n) && PyData.canLayAll0 (ns.map PyData.int)) = true
    rw [ints_canLay ns]
    rfl
theorem ints_depth : ∀ ns : List Int, PyData.depthAll (ns.map PyData.int) = 0
  | [] => rfl
  | n :: ns => by
    show max (PyData.depth (.int n)) (PyData.depthAll (ns.map PyData.int)) = 0
    rw [ints_depth ns]
    rfl
theorem ints_shaped (ns : List Int) : SeqAt.shaped (.list (ns.map PyData.int)) = true := by
  have h1 : PyData.canLay0 (.list (ns.map PyData.int)) = true := ints_canLay ns
  have h2 : PyData.depth (.list (ns.map PyData.int)) = 1 := by
    show PyData.depthAll (ns.map PyData.int) + 1 = 1
    rw [ints_depth]
  unfold SeqAt.shaped
  rw [h1, h2]
  rfl
theorem ints_ne_nil (ns : List Int) : PyData.eqv (.list (ns.map PyData.int)) (.list []) = ns.isEmpty := by
  match ns with
  | [] => rfl
  | n :: r => rfl
theorem get_left {H : Hp} {p c : Addr} {t l : Int} (h : H p = some (.dK (penL c t l))) : DGet H p (.str "left") (some (.int l)) := pen_left c t l ▸ DGet.k (k := Sum.inr "left") h
theorem get_turn {H : Hp} {p c : Addr} {t l : Int} (h : H p = some (.dK (penL c t l))) : DGet H p (.str "turn") (some (.int t)) := pen_turn c t l ▸ DGet.k (k := Sum.inr "turn") h
theorem get_cells {H : Hp} {p c : Addr} {t l : Int} (h : H p = some (.dK (penL c t l))) : DGet H p (.str "cells") (some (.ref c)) := pen_cells c t l ▸ DGet.k (k := Sum.inr "cells") h
theorem put_left {H : Hp} {p c : Addr} {t l u : Int} (h : H p = some (.dK (penL c t l))) : DPut H p (.str "left") (.int u) (upd H p (.dK (penL c t u))) := pen_put_left c t l u ▸ DPut.k (k := Sum.inr "left") h (by show 3 < sizeLine; decide)
theorem put_turn {H : Hp} {p c : Addr} {t l u : Int} (h : H p = some (.dK (penL c t l))) : DPut H p (.str "turn") (.int u) (upd H p (.dK (penL c u l))) := pen_put_turn c t l u ▸ DPut.k (k := Sum.inr "turn") h (by show 3 < sizeLine; decide)
theorem at_mod {α : Type} {xs : List α} {i : Int} (h0 : 0 ≤ i) (h : i < (xs.length : Int)) : ∃ v, atI xs i = some v ∧ v ∈ xs := by
  have hj : i.toNat < xs.length := by omega
  refine ⟨xs[i.toNat], ?_, List.getElem_mem hj⟩
  have e : i = (i.toNat : Int) := by omega
  have q := atI_nat (List.getElem?_eq_getElem hj)
  rw [← e] at q
  exact q
def primes : List Int := [2147483629, 2147483647, 2147483587, 2147483563, 2147483579]
theorem primes_in {v : V} (h : v ∈ primes.map V.int) : ∃ i : Int, v = .int i ∧ 0 < i ∧ i < 2147483648 := by
  obtain ⟨i, hi, e⟩ := List.mem_map.mp h
  refine ⟨i, e.symm, ?_⟩
  have q : ∀ j ∈ primes, 0 < j ∧ j < 2147483648 := by decide
  exact q i hi
end Vk
set_option Elab.async false
set_option maxRecDepth 100000
set_option linter.all false
namespace Vk
open PySem PySem.Spec PyProof.Rows L2
/-! ## a def that returns one written text, and a replace of what it returns (a token is out behind it) -/
structure FnT (P : Program) (w : World) (K : PySem.W.Frag) (mg : Str → Option Value) (base : Heap) (k : Nat) (x : Str) (z : Str) : Prop where
  ex : ∃ f : Addr, mg x = some (.ref f) ∧ PySem.W.keepIn K (.ref f) = true ∧ ∀ (A : Around) (outer : List Env) (s : Shared) (H : Hp) (Q : VK), Room k A → Env0 P w K mg base A outer s H → Q (.str z) H →
    codeAny (model P w) A (.call (.ref f) ⟨[], []⟩) (fun r s2 => 1 ≤ s2.toks ∧ CR CX0 outer P w H s Q E0 r s2) s
section
variable {P : Program} {w : World} {K : PySem.W.Frag} {mg : Str → Option Value} {base : Heap}
theorem okT {x : Str} {st : Stmt} {f : Addr} {fd : FuncData} {z : Str} {j : Nat} {p1 p2 : Pos} (F : Fun K x x st f fd) (S : FnScope [] [] (defScope st)) (hm : mg x = some (.ref f)) (hb : Binds K fd [] [])
    (body : defBody st = [.Return (some (.Constant (.str z) j p1)) p2]) : FnT P w K mg base 1 x z := by
  refine ⟨f, hm, F.kp, ?_⟩
  obtain ⟨oc, od, kV, doc, pm, an, cdv, ct, osl, rfl, lk, hcd⟩ := F.ex
  intro A outer s H Q hr e0 hsp
  have KX := e0.mod.kin.keeps (fun b o e => (e0.bs b o e).1 : ∀ b o, base.get? b = some o → s.heap.get? b = some o)
  have noLim := e0.mod.nolimit.keeps (fun b o e => (e0.bs b o e).1 : ∀ b o, base.get? b = some o → s.heap.get? b = some o)
  refine codeAny_call_function hr.depth (KX f _ lk) rfl S.co S.gen rfl (PySem.W.codeRec_of KX hcd) (hb s [] KX rfl _ _ _ _ (wpAny_newFunctionEnv_cells S.kind (fun y hy => absurd hy (List.not_mem_nil (a := y))) fun env he s1 x0 => ?_))
  cases he
  refine And.intro (noLim.keeps x0.toInCall.keep) (codeAny_func ?_)
  have I0 := inv_start (P := P) (CX := CX0) (E := E0) (us := []) (vs := []) S hr.hd e0 rfl .nil x0
  show wpAny _ _ (execs (defBody st) _) _ _ s1
  rw [body]
  refine wpAny_execs_cons (wpAny_Return_some (Calls.Constant_str ?_))
  exact ⟨Nat.succ_pos _, .str z, H, I0.os, I0.bare, (I0.tok (s1.toks + 1)).base, (I0.tok (s1.toks + 1)).hok, ⟨_, rfl⟩, hsp⟩
end
section
variable {X : Cx} {j k : Nat} {x z y v : Str} {q q2 apos pos c0 c1 : Pos} {j0 j1 : Nat}
theorem pe_replT (c : FnT X.prog X.w X.K X.mg X.base k x z) (hr : Room j X.A) (hk : k ≤ j) (hz : z.length + (z.length + 1) * v.length ≤ 16777216) (hyz : (y == v) = false) (gl : Gl X x := by rfl) (hdb : (x == ("__debug__" : Str)) = false := by decide)
    (hst : starEach [.Constant (.str y) j0 c0, .Constant (.str v) j1 c1] X.env = [(false, eval (.Constant (.str y) j0 c0) X.env), (false, eval (.Constant (.str v) j1 c1) X.env)] := by rfl)
    (hbase : attributeBase (.Call (.Name x q) [] [] q2) "replace" X.env (eval (.Call (.Name x q) [] [] q2) X.env) = eval (.Call (.Name x q) [] [] q2) X.env := by rfl) (hline : (apos.endLine == pos.line) = true := by rfl) :
    PE X (.Call (.Attribute (.Call (.Name x q) [] [] q2) "replace" apos) [.Constant (.str y) j0 c0, .Constant (.str v) j1 c1] [] pos) (fun σ H Q => Q (.str (Txt.replace z y v)) H) := by
  obtain ⟨f, hm, kp, run⟩ := c.ex
  refine ⟨fun pins s σ H Q I h => PySem.Call_method2 (Q := EP X pins σ Q) hbase hst hline (wpAny_mono (Q := fun u s1 => 1 ≤ s1.toks ∧ EP X pins σ (fun w H1 => w = .str z ∧ H1 = H) u s1) ?_ ?_ (fun _ _ e => e))⟩
  · refine wpAny_Call_Name_kw (ld_glob I gl hm (PySem.W.callWith_K0 I.kIn kp (wpAny_call (codeAny_mono (run X.A X.stack s H (fun w H1 => w = .str z ∧ H1 = H) (hr.mono hk) I.env0 ⟨rfl, rfl⟩) fun res s2 hq => ?_))) hdb)
    match res, hq with
    | .error e, hq => exact hq.2.elim
    | .ok (.ret u), hq => exact ⟨hq.1, I.after hq.2⟩
    | .ok .next, hq => exact hq.2.elim
    | .ok .brk, hq => exact hq.2.elim
    | .ok .cont, hq => exact hq.2.elim
  · rintro u s1 ⟨ht, w, H1, I1, r1, rfl, rfl⟩
    obtain ⟨tx, rfl⟩ := r1
    refine ⟨"str", _, PySem.F.plainAttrs_str, PySem.F.slot_str_replace, PySem.F.type_str_replace, typeIs_str _ _ _, (fun _ e => nomatch e), Calls.callWith_builtin rfl (Calls.evalArgs_plain (Calls.spliced_cons (Calls.Constant_str (Calls.spliced_cons (Calls.Constant_str (Calls.spliced_nil ?_))))))⟩
    exact PySem.SC.replace (Nat.ne_of_gt ht) (Nat.succ_ne_zero _) (by show s1.toks ≠ s1.toks + 1; omega) hyz hz fun t' kk => ⟨V.str _, _, I1.tok kk, ⟨t', rfl⟩, h⟩
end
/-! ## options to pick from -/
def OneS (c : Nat) : V := .str ⟨#[c]⟩
inductive Opts (K : PySem.W.Frag) (H : Hp) : V → List V → Prop
  | str (z : Str) (h : z.length ≤ 1000) : Opts K H (.str z) (z.cps.toList.map OneS)
  | lst {a : Addr} {xs : List V} (h : SqL K H a xs) : Opts K H (.ref a) xs
  | tup {a : Addr} {xs : List V} (h : SqT K H a xs) : Opts K H (.ref a) xs
theorem Ext.sqL {K : PySem.W.Frag} {p a : Addr} {H H1 : Hp} {xs : List V} {kvs : List (Key × V)} (x : Ext p H H1) (hp : H p = some (.dK kvs)) (h : SqL K H a xs) : SqL K H1 a xs := by
  match h with
  | .inl (.inl e) => exact .inl (.inl (x _ _ e (ne_of e hp (by intro z; cases z))))
  | .inl (.inr ⟨o, e⟩) => exact .inl (.inr ⟨o, x _ _ e (ne_of e hp (by intro z; cases z))⟩)
  | .inr e => exact .inr e
theorem Ext.sqT {K : PySem.W.Frag} {p a : Addr} {H H1 : Hp} {xs : List V} {kvs : List (Key × V)} (x : Ext p H H1) (hp : H p = some (.dK kvs)) (h : SqT K H a xs) : SqT K H1 a xs := by
  match h with
  | .inl (.inl e) => exact .inl (.inl (x _ _ e (ne_of e hp (by intro z; cases z))))
  | .inl (.inr ⟨o, e⟩) => exact .inl (.inr ⟨o, x _ _ e (ne_of e hp (by intro z; cases z))⟩)
  | .inr e => exact .inr e
theorem Ext.is {p a : Addr} {H H1 : Hp} {xs : List V} {kvs : List (Key × V)} (x : Ext p H H1) (hp : H p = some (.dK kvs)) (h : H a = some (.lst xs)) : H1 a = some (.lst xs) := x _ _ h (ne_of h hp (by intro z; cases z))
theorem Ext.isT {p a : Addr} {H H1 : Hp} {xs : List V} {kvs : List (Key × V)} (x : Ext p H H1) (hp : H p = some (.dK kvs)) (h : H a = some (.tup xs)) : H1 a = some (.tup xs) := x _ _ h (ne_of h hp (by intro z; cases z))
theorem Pen.keepL {K : PySem.W.Frag} {p c a : Addr} {T : Nat} {H H1 : Hp} {xs : List V} (q : Pen H p c T) (x : Ext p H H1) (h : SqL K H a xs) : SqL K H1 a xs := by
  obtain ⟨t, l, hp⟩ := q.is
  exact x.sqL hp h
theorem Pen.keepT {K : PySem.W.Frag} {p c a : Addr} {T : Nat} {H H1 : Hp} {xs : List V} (q : Pen H p c T) (x : Ext p H H1) (h : SqT K H a xs) : SqT K H1 a xs := by
  obtain ⟨t, l, hp⟩ := q.is
  exact x.sqT hp h
theorem Pen.keepI {p c a : Addr} {T : Nat} {H H1 : Hp} {xs : List V} (q : Pen H p c T) (x : Ext p H H1) (h : H a = some (.lst xs)) : H1 a = some (.lst xs) := by
  obtain ⟨t, l, hp⟩ := q.is
  exact x.is hp h
def spPick (K : PySem.W.Frag) : Sp := fun vs H Q _ => ∃ (p c : Addr) (o : V) (xs : List V) (T : Nat), vs = [.ref p, o] ∧ Opts K H o xs ∧ xs ≠ [] ∧ xs.length ≤ 1000 ∧ Pen H p c T ∧ T < 1000000000 ∧
  ∀ (v : V) (H' : Hp), v ∈ xs → Pen H' p c (T + 1) → Ext p H H' → Q v H'
def letS : Str := "\n !\"#$&'()*+,-./0123456789:;<=>?@ABCDEFGHIJKLMNOPQRSTUVWXYZ[\\]^_`abcdefghijklmnopqrstuvwxyz{|}~"
def spSigns : Sp := fun vs H Q _ => vs = [] ∧ Q (.str letS) H
/-- what few gives: one to three letters -/
def Few (z : Str) : Prop := 1 ≤ z.length ∧ z.length ≤ 3 ∧ ∀ c ∈ z.cps.toList, c ∈ letS.cps.toList
def spFew : Sp := fun vs H Q _ => ∃ (p c : Addr) (T : Nat), vs = [.ref p] ∧ Pen H p c T ∧ T + 4 < 1000000000 ∧ ∀ (z : Str) (H' : Hp), Few z → Pen H' p c (T + 4) → Ext p H H' → Q (.str z) H'
/-- a word of the letters of z, a to b of them -/
def Word (z : Str) (a b : Nat) (x : Str) : Prop := a ≤ x.length ∧ x.length ≤ b ∧ ∀ c ∈ x.cps.toList, c ∈ z.cps.toList
def spWord : Sp := fun vs H Q _ => ∃ (p c : Addr) (z : Str) (a b T : Nat), vs = [.ref p, .str z, .int a, .int b] ∧ a ≤ b ∧ b ≤ 100 ∧ 1 ≤ z.length ∧ z.length ≤ 1000 ∧ Pen H p c T ∧ T + 200 < 1000000000 ∧
  ∀ (x : Str) (H' : Hp), Word z a b x → Pen H' p c (T + b + 1) → Ext p H H' → Q (.str x) H'
theorem cut63 (ns : List Int) : ∃ ms : List Int, cutV (ns.map V.int) none (some 63) = ms.map V.int ∧ ms.length ≤ 63 := by
  refine ⟨ns.take 63, ?_, List.length_take_le _ _⟩
  unfold cutV
  rw [HT.sIx_none, show (63 : Int) = ((63 : Nat) : Int) from rfl, HT.sIx_nat, List.drop_zero, Nat.sub_zero, List.map_take, Nat.min_comm, ← List.take_take]
  exact List.take_of_length_le (by rw [List.length_take]; omega)
theorem one_len (z : Str) : (z.cps.toList.map OneS).length = z.length := by
  rw [List.length_map]
  exact Array.length_toList
theorem join_nil : ∀ ls : List (List Nat), TL.joinL [] ls = ls.flatten
  | [] => rfl
  | [p] => by simp [TL.joinL]
  | p :: q :: r => by
    show p ++ ([] ++ TL.joinL [] (q :: r)) = _
    rw [List.nil_append, join_nil (q :: r)]
    rfl
theorem join_ones (cs : List Nat) : Txt.join "" (cs.map fun c => (⟨#[c]⟩ : Str)) = ⟨cs.toArray⟩ := by
  rw [TL.join_eq]
  refine TL.ext_tl ?_
  rw [TL.tl_join]
  refine (join_nil _).trans ?_
  show (List.map TL.tl (cs.map fun c => (⟨#[c]⟩ : Str))).flatten = cs
  rw [List.map_map]
  induction cs with
  | nil => rfl
  | cons c r ih => exact congrArg (c :: ·) ih
theorem ones_len (cs : List Nat) : ((cs.map fun c => (⟨#[c]⟩ : Str)).map (·.length)).sum = cs.length := by
  induction cs with
  | nil => rfl
  | cons c r ih =>
    rw [List.map_cons, List.map_cons, List.sum_cons, ih, List.length_cons]
    show 1 + r.length = r.length + 1
    omega
theorem ones_map (cs : List Nat) : (cs.map fun c => (⟨#[c]⟩ : Str)).map V.str = cs.map OneS := List.map_map
theorem noq_list : (Txt.replace letS "q" "").cps.toList = letS.cps.toList.filter (· != 113) := replace_strikes letS 113
theorem noq_len : (Txt.replace letS "q" "").length = 94 := by
  rw [show (Txt.replace letS "q" "").length = (Txt.replace letS "q" "").cps.toList.length from Array.length_toList.symm, noq_list]
  decide +kernel
theorem noq_in {c : Nat} (h : c ∈ (Txt.replace letS "q" "").cps.toList) : c ∈ letS.cps.toList := by
  rw [noq_list] at h
  exact (List.mem_filter.mp h).1
theorem ones_of {z : Str} {v : V} (h : v ∈ z.cps.toList.map OneS) : ∃ c, v = OneS c ∧ c ∈ z.cps.toList := by
  obtain ⟨c, hc, e⟩ := List.mem_map.mp h
  exact ⟨c, e.symm, hc⟩
theorem opts_ne {z : Str} (h : 1 ≤ z.length) : z.cps.toList.map OneS ≠ [] := fun e => by
  have q := one_len z
  rw [e] at q
  simp at q
  omega
theorem opts_le {z : Str} {n : Nat} (h : z.length ≤ n) : (z.cps.toList.map OneS).length ≤ n := by
  rw [one_len]
  exact h
/-- the fixed choices of few are few -/
theorem few_of {z : Str} (h : (decide (1 ≤ z.length) && decide (z.length ≤ 3) && z.cps.toList.all fun c => decide (c ∈ letS.cps.toList)) = true) : Few z := by
  simp only [Bool.and_eq_true, decide_eq_true_eq, List.all_eq_true] at h
  exact ⟨h.1.1, h.1.2, h.2⟩
theorem few_ones {cs : List Nat} (h1 : 1 ≤ cs.length) (h3 : cs.length ≤ 3) (h : ∀ c ∈ cs, c ∈ letS.cps.toList) : Few ⟨cs.toArray⟩ := ⟨by simpa [Str.length] using h1, by simpa [Str.length] using h3, by simpa using h⟩
/-! ## rules whose written part is named (within a comprehension's block) -/
section
variable {X : Cx} {K : PySem.W.Frag}
theorem ix_seqK (h : X.K = K) : IxR X (rIx K) := h ▸ ix_seq
theorem ix_listK (h : X.K = K) : IxR X (rIxL K) := h ▸ ix_list
theorem ix_tupK (h : X.K = K) : IxR X (rIxT K) := h ▸ ix_tup
theorem op_in_seqK (h : X.K = K) : OpR X (compareOp .In) (rIn K false) := h ▸ op_in_seq
theorem op_notIn_seqK (h : X.K = K) : OpR X (compareOp .NotIn) (rIn K true) := h ▸ op_notIn_seq
theorem sl_listK (h : X.K = K) : SlR X (rSlL K) := h ▸ sl_list
theorem sl_tupK (h : X.K = K) : SlR X (rSlT K) := h ▸ sl_tup
theorem call_lenK (h : X.K = K) : CallR X (.builtin "len") (fun xs H Q => ∃ x n, xs = [x] ∧ LenV K x H n ∧ Q (.int n) H) := h ▸ call_len
theorem op_eqDK (h : X.K = K) (hu : X.A.units + 64 < cLine) : OpR X (compareOp .Eq) (rEqD K) := h ▸ op_eqD hu
theorem op_neDK (h : X.K = K) (hu : X.A.units + 64 < cLine) : OpR X (compareOp .NotEq) (rNeD K) := h ▸ op_neD hu
end
theorem cutV_mem {xs : List V} {lo hi : Option Int} {v : V} (h : v ∈ cutV xs lo hi) : v ∈ xs := List.mem_of_mem_drop (List.mem_of_mem_take h)
theorem cutV_all {xs : List V} {lo hi : Option Int} {f : V → Bool} (h : xs.all f = true) : (cutV xs lo hi).all f = true := List.all_eq_true.mpr fun v hv => List.all_eq_true.mp h v (cutV_mem hv)
theorem ones_flat (cs : List Nat) : (cs.map OneS).all flatV = true := List.all_eq_true.mpr fun v hv => by
  obtain ⟨c, _, rfl⟩ := List.mem_map.mp hv
  rfl
theorem cutV_zero (xs : List V) : cutV xs none (some 0) = [] := by
  unfold cutV
  rw [HT.sIx_none, show (0 : Int) = ((0 : Nat) : Int) from rfl, HT.sIx_nat]
  simp
theorem one_mem {cs : List Nat} {v : V} (h : v ∈ cs.map OneS) : ∃ c, v = OneS c ∧ c ∈ cs := by
  obtain ⟨c, hc, e⟩ := List.mem_map.mp h
  exact ⟨c, e.symm, hc⟩
end Vk
set_option Elab.async false
set_option maxRecDepth 100000
set_option linter.all false
namespace Vk
open PySem PySem.Spec PyProof.Rows L2
/-! ## how long what is shown may be -/
theorem listText_le : ∀ ts : List Str, (listText ts).length ≤ piled ts + 2
  | [] => by decide +kernel
  | t :: r => by
    have h := textFrom_length_pos r 1 (("[" : Str) ++ (if (0 : Nat) > 0 then ", " else "" : String) ++ t) (Nat.succ_pos 0)
    have e : (listText (t :: r)).length = (textFrom 1 (("[" : Str) ++ (if (0 : Nat) > 0 then ", " else "" : String) ++ t) r).length + 1 := strLen_append _ _
    rw [e, h, strLen_append, strLen_append, piled_cons]
    show 1 + 0 + t.length + piled r + 1 ≤ _
    omega
theorem piled_le {ts : List Str} {n : Nat} (h : ∀ t ∈ ts, t.length ≤ n) : piled ts ≤ ts.length * (n + 2) := by
  induction ts with
  | nil => exact Nat.zero_le _
  | cons t r ih =>
    have h1 := h t List.mem_cons_self
    have h2 := ih fun u hu => h u (List.mem_cons_of_mem _ hu)
    rw [piled_cons, List.length_cons, Nat.succ_mul]
    omega
theorem shownAll_map : ∀ ds : List PyData, PyData.shownAll ds = ds.map PyData.shown
  | [] => rfl
  | d :: r => congrArg (d.shown :: ·) (shownAll_map r)
theorem showableAll_iff : ∀ {ds : List PyData}, (∀ d ∈ ds, d.showable = true) → PyData.showableAll ds = true
  | [], _ => rfl
  | d :: r, h => by
    show (d.showable && PyData.showableAll r) = true
    rw [h d List.mem_cons_self, showableAll_iff fun e he => h e (List.mem_cons_of_mem _ he)]
    rfl
theorem hasDictAll_of : ∀ {ds : List PyData}, (∀ d ∈ ds, d.hasDict = false) → PyData.hasDictAll ds = false
  | [], _ => rfl
  | d :: r, h => by
    show (d.hasDict || PyData.hasDictAll r) = false
    rw [h d List.mem_cons_self, hasDictAll_of fun e he => h e (List.mem_cons_of_mem _ he)]
    rfl
theorem depthAll_le : ∀ {ds : List PyData} {n : Nat}, (∀ d ∈ ds, d.depth ≤ n) → PyData.depthAll ds ≤ n
  | [], _, _ => Nat.zero_le _
  | d :: r, n, h => Nat.max_le.mpr ⟨h d List.mem_cons_self, depthAll_le fun e he => h e (List.mem_cons_of_mem _ he)⟩
/-- d may be shown, in at most n signs, at most k deep -/
structure Showy (d : PyData) (k n : Nat) : Prop where
  sh : d.showable = true
  nd : d.hasDict = false
  dp : d.depth ≤ k
  ln : d.shown.length ≤ n
theorem Showy.list {ds : List PyData} {k n : Nat} (h : ∀ d ∈ ds, Showy d k n) : Showy (.list ds) (k + 1) (ds.length * (n + 2) + 2) := by
  refine ⟨showableAll_iff fun d hd => (h d hd).sh, hasDictAll_of fun d hd => (h d hd).nd, Nat.succ_le_succ (depthAll_le fun d hd => (h d hd).dp), ?_⟩
  show (listText (PyData.shownAll ds)).length ≤ _
  rw [shownAll_map]
  have h1 := listText_le (ds.map PyData.shown)
  have h2 := piled_le (ts := ds.map PyData.shown) (n := n) fun t ht => by
    obtain ⟨d, hd, rfl⟩ := List.mem_map.mp ht
    exact (h d hd).ln
  rw [List.length_map] at h2
  omega
theorem Showy.tuple {ds : List PyData} {k n : Nat} (h : ∀ d ∈ ds, Showy d k n) : Showy (.tuple ds) (k + 1) (ds.length * (n + 2) + 2) := by
  refine ⟨showableAll_iff fun d hd => (h d hd).sh, hasDictAll_of fun d hd => (h d hd).nd, Nat.succ_le_succ (depthAll_le fun d hd => (h d hd).dp), ?_⟩
  show (tupleText (PyData.shownAll ds)).length ≤ _
  rw [shownAll_map]
  have h1 := fmt_text (ds.map PyData.shown)
  have h2 := piled_le (ts := ds.map PyData.shown) (n := n) fun t ht => by
    obtain ⟨d, hd, rfl⟩ := List.mem_map.mp ht
    exact (h d hd).ln
  rw [List.length_map] at h2
  omega
theorem Showy.int {i : Int} (h : i.natAbs < 10 ^ 100) : Showy (.int i) 0 101 := by
  have hl : i.natAbs.log2 < 1920 := by
    by_cases h0 : i.natAbs = 0
    · rw [h0]; decide
    · exact (Nat.log2_lt h0).mpr (Nat.lt_of_lt_of_le h (by decide +kernel))
  refine ⟨decide_eq_true hl, rfl, Nat.le_refl _, ?_⟩
  show (Str.ofString (toString i)).length ≤ 101
  rw [PySem.ofString_length]
  exact int_text_length_le10 (k := 100) (by decide) h
theorem Showy.mono {d : PyData} {k k' n n' : Nat} (h : Showy d k n) (h1 : k ≤ k') (h2 : n ≤ n') : Showy d k' n' := ⟨h.sh, h.nd, Nat.le_trans h.dp h1, Nat.le_trans h.ln h2⟩
/-! ## places of words -/
open StrLaws in
theorem find_from (x y : Str) (lo : Nat) (hlo : lo ≤ x.length + 1) :
    ((match Builtin.Str.occurrences x y lo x.length 1 with | i :: _ => (i : Int) | [] => -1) = -1 ∧ ∀ i, lo ≤ i → ¬ At x y x.length i) ∨
    ∃ i : Nat, (match Builtin.Str.occurrences x y lo x.length 1 with | i :: _ => (i : Int) | [] => -1) = (i : Int) ∧ lo ≤ i ∧ At x y x.length i ∧ ∀ k, lo ≤ k → k < i → ¬ At x y x.length k := by
  rw [occ_eq]
  have inr : ∀ i, lo ≤ i → i ≤ x.length → i ∈ List.range' lo (x.length + 1 - lo) := fun i h1 h2 => by
    simp only [List.mem_range'_1]
    omega
  rcases occ_first x y x.length 1 (Nat.le_refl _) (List.range' lo (x.length + 1 - lo)) lo (fun i hi => (List.mem_range'_1.mp hi).1) with ⟨h0, hn⟩ | ⟨pre, a, post, e, h0, ha, hn⟩
  · refine .inl ⟨by rw [h0], fun i hi hA => hn i (inr i hi (Nat.le_trans (Nat.le_add_right _ _) hA.1)) hA⟩
  · refine .inr ⟨a, ?_, ?_, ha, fun k h1 h2 => ?_⟩
    · generalize (forIn (List.range' lo (x.length + 1 - lo)) ((#[] : Array Nat), lo) (occBody x y x.length 1)).run.fst = arr at h0
      have h1 : arr.toList[0]? = some a := by simpa using h0
      match hL : arr.toList with
      | [] => rw [hL] at h1; cases h1
      | b :: t => rw [hL] at h1; simp at h1; rw [h1]
    · exact (List.mem_range'_1.mp (by rw [e]; exact List.mem_append_right _ List.mem_cons_self : a ∈ List.range' lo (x.length + 1 - lo))).1
    · refine hn k ?_
      have hk : k ∈ pre ++ a :: post := by
        rw [← e]
        refine inr k h1 ?_
        have q := ha.1
        omega
      have pw : (pre ++ a :: post).Pairwise (· < ·) := by rw [← e]; exact List.pairwise_lt_range'
      rcases List.mem_append.mp hk with hk | hk
      · exact hk
      · rcases List.mem_cons.mp hk with rfl | hk
        · exact absurd h2 (Nat.lt_irrefl _)
        · have q := (List.pairwise_cons.mp (List.pairwise_append.mp pw).2.1).1 k hk
          omega
def atB (x w : Str) (i : Nat) : Bool := decide (i + w.length ≤ x.length) && Builtin.Str.subAt x w i
theorem atB_iff (x w : Str) (i : Nat) : atB x w i = true ↔ StrLaws.At x w x.length i := by
  unfold atB StrLaws.At
  simp
/-- all places of a word in a text -/
def plc (x w : Str) : List Nat := (List.range (x.length + 1)).filter (atB x w)
theorem filter_more {P : Nat → Bool} {lo m : Nat} (h : lo ≤ m) (hn : ∀ i, lo ≤ i → i < m → P i = false) : (List.range m).filter P = (List.range lo).filter P := by
  induction m with
  | zero => rw [Nat.le_zero.mp h]
  | succ m ih =>
    by_cases e : lo = m + 1
    · rw [e]
    · rw [List.range_succ, List.filter_append, ih (by omega) fun i h1 h2 => hn i h1 (by omega)]
      have q := hn m (by omega) (Nat.lt_succ_self _)
      simp [q]
theorem filter_snoc {P : Nat → Bool} {m : Nat} (h : P m = true) : (List.range (m + 1)).filter P = (List.range m).filter P ++ [m] := by
  rw [List.range_succ, List.filter_append]
  simp [h]
def plcI (x w : Str) : List Int := (plc x w).map Int.ofNat
theorem plc_lt {x w : Str} {i : Nat} (h : i ∈ plc x w) : i ≤ x.length := Nat.le_of_lt_succ (List.mem_range.mp (List.mem_filter.mp h).1)
theorem plc_len (x w : Str) : (plc x w).length ≤ x.length + 1 := Nat.le_trans (List.length_filter_le _ _) (Nat.le_of_eq List.length_range)
theorem plc_showy {x w : Str} (h : x.length ≤ 10000) : Showy (.list ((plcI x w).map PyData.int)) 1 1100000 := by
  refine (Showy.list (k := 0) (n := 101) fun d hd => ?_).mono (Nat.le_refl _) ?_
  · obtain ⟨i, hi, rfl⟩ := List.mem_map.mp hd
    obtain ⟨n, hn, rfl⟩ := List.mem_map.mp hi
    have q := plc_lt hn
    refine Showy.int ?_
    show n < 10 ^ 100
    exact Nat.lt_of_le_of_lt (Nat.le_trans q h) (by decide +kernel)
  · rw [List.length_map]
    unfold plcI
    rw [List.length_map]
    have := plc_len x w
    omega
def spPlaces (K : PySem.W.Frag) : Sp := fun vs H Q _ => ∃ (x w : Str), vs = [.str x, .str w] ∧ x.length ≤ 10000 ∧ w.length ≤ 10000 ∧
  ∀ (a : Addr) (H' : Hp), H a = none → H' a = some (.lst ((plcI x w).map V.int)) → Same H H' → Q (.ref a) H'
/-- the slice of a text at a place -/
theorem cut_at (x w : Str) (k : Nat) (h : k + w.length ≤ x.length) : decide (V.str (cutS x (some (k : Int)) (some ((k : Int) + (w.length : Int)))) = V.str w) = atB x w k := by
  have e : cutS x (some (k : Int)) (some ((k : Int) + (w.length : Int))) = ⟨((x.cps.toList.drop k).take w.length).toArray⟩ := by
    unfold cutS
    rw [show (k : Int) + (w.length : Int) = ((k + w.length : Nat) : Int) by omega, HT.sIx_nat, HT.sIx_nat, Nat.min_eq_left h, Nat.min_eq_left (show k ≤ x.length by omega), show k + w.length - k = w.length by omega]
  rw [e]
  unfold atB
  rw [StrLaws.subAt_eq, decide_eq_true h, Bool.true_and, Bool.eq_iff_iff, decide_eq_true_eq, beq_iff_eq]
  constructor
  · intro q
    have q2 := V.str.inj q
    exact congrArg (fun z : Str => z.cps.toList) q2
  · intro q
    rw [q]
end Vk
set_option Elab.async false
set_option maxRecDepth 100000
set_option linter.all false
namespace Vk
open PySem PySem.Spec PyProof.Rows L2
/-! ## a text some times -/
theorem mulOk {x : Str} {n : Int} (h0 : 0 ≤ n) (h1 : n ≤ 1000000) (h : x.length * n.toNat ≤ 10000000) (hx : x.length ≤ 10000000) : MulOk x n := by
  refine ⟨?_, fun a _ c => ?_, fun _ _ => ?_⟩
  · rw [decide_eq_false (by omega), decide_eq_false (by omega)]
    rfl
  · have hn : 0 < n := by omega
    have q : (10000000 : Int) ≤ (2 ^ 63 - 1) / n := (Int.le_ediv_iff_mul_le hn).mpr (by omega)
    omega
  · unfold Builtin.Str.tooLong sizeLine
    exact decide_eq_false (by omega)
def CMulS (x : Str) (n : Int) : Prop := 0 ≤ n ∧ n ≤ 1000000 ∧ x.length * n.toNat ≤ 10000000 ∧ x.length ≤ 10000000
def rMulS : R2 := fun x y H Q => ∃ (z : Str) (n : Int), x = .str z ∧ y = .int n ∧ CMulS z n ∧ Q (.str (Txt.mul z n)) H
section
variable {X : Cx}
theorem op_mulS : OpR X (binaryOp .Mult) rMulS := by
  intro pins s σ H x y v u Q I rx ry h
  obtain ⟨z, n, rfl, rfl, ⟨h0, h1, h2, h3⟩, q⟩ := h
  obtain ⟨t, rfl⟩ := rx
  obtain ⟨t2, rfl⟩ := ry
  exact SB.mul (mulOk h0 h1 h2 h3) fun t' k => ⟨V.str _, H, I.tok k, ⟨t', rfl⟩, q⟩
end
theorem foldl_cat : ∀ (l : List (Array Nat)) (acc : Array Nat), (l.foldl (· ++ ·) acc).toList = acc.toList ++ (l.map Array.toList).flatten
  | [], acc => by simp
  | a :: r, acc => by
    rw [List.foldl_cons, foldl_cat r]
    simp
theorem mul_list (x : Str) (n : Int) (h : 0 ≤ n) : (Txt.mul x n).cps.toList = (List.replicate n.toNat x.cps.toList).flatten := by
  unfold Txt.mul
  split
  · rw [show n.toNat = 0 by omega]
    rfl
  · split
    · rename_i h1 h2
      rw [Bool.or_eq_true] at h2
      rcases h2 with h2 | h2
      · rw [show n = 1 from eq_of_beq h2]
        simp
      · have e : x.cps.toList = [] := List.eq_nil_of_length_eq_zero (Array.length_toList.trans (eq_of_beq h2))
        rw [e]
        simp
    · show ((List.replicate n.toNat x.cps).foldl (· ++ ·) #[]).toList = _
      rw [foldl_cat, List.map_replicate]
      rfl
theorem len_list (x : Str) : x.length = x.cps.toList.length := Array.length_toList.symm
theorem mul_len (x : Str) (n : Int) (h : 0 ≤ n) : (Txt.mul x n).length = n.toNat * x.length := by
  rw [len_list, mul_list x n h, len_list x]
  simp [List.length_flatten]
/-! ## a def called by keywords alone -/
structure CalK (P : Program) (w : World) (K : PySem.W.Frag) (mg : Str → Option Value) (base : Heap) (CX : CXT) (k : Nat) (x : Str) (sp : Sp) (ks : List Str) (g : {α : Type} → List α → List α) : Prop where
  ex : ∃ (f : Addr) (fd : FuncData) (ps : List Str), FnG P w K mg base CX k f fd ps sp ∧ mg x = some (.ref f) ∧ PySem.W.keepIn K (.ref f) = true ∧
    (∀ (s : Shared) (ws : List Value), K.In s.heap → ws.length = ks.length → BindsTo s fd ⟨[], ks.zip ws⟩ (ps.zip (g ws))) ∧ ∀ (vs : List V) (ws : List Value), Vals vs ws → vs.length = ks.length → Vals (g vs) (g ws)
def tCallW (n : Nat) (sp : Sp) (g : {α : Type} → List α → List α) (E : XK) (t : TA) : TE := fun σ H Q => t σ H fun vs H1 => vs.length = n ∧ sp (g vs) H1 Q E
section
variable {X : Cx} {CX : CXT} {j k : Nat} {sp : Sp} {E : XK} {x : Str} {p pos : Pos} {kws : List Keyword} {tk : TA} {ks : List Str} {g : {α : Type} → List α → List α}
theorem pe_kw (c : CalK X.prog X.w X.K X.mg X.base CX k x sp ks g) (hg : X.A.guards = some []) (hr : Room j X.A) (hk : k ≤ j) (hx : Passes CX X E) (hkw : PK X kws tk) (gl : Gl X x := by rfl)
    (hall : (backToKw pos (keywordEach kws X.env)).all (·.1.isSome) = true := by rfl) (hks : (backToKw pos (keywordEach kws X.env)).filterMap (·.1) = ks := by rfl) (hdb : (x == ("__debug__" : Str)) = false := by decide)
    (hpl : ((backTo pos (starEach [] X.env)).any (·.1) || (backToKw pos (keywordEach kws X.env)).any (·.1.isNone)) = false := by rfl) :
    PE X (.Call (.Name x p) [] kws pos) (tCallW ks.length sp g E tk) := by
  obtain ⟨f, fd, ps, F, hm, kp, hb, hv⟩ := c.ex
  refine ⟨fun pins s σ H Q I h => wpAny_Call_Name_kw (ld_glob I gl hm (PySem.W.callWith_KW0 (h₀ := X.base) I.ok.mod.kin kp hall (thn (hkw.run pos pins s σ H _ I h) fun ws s2 hh => ?_) hpl) hdb)⟩
  obtain ⟨vs, H2, I2, rz, l2, q2⟩ := hh
  refine ⟨I2.kIn, ?_⟩
  rw [hks]
  refine wpAny_call (codeAny_mono (F.run X.A X.stack s2 H2 ⟨[], ks.zip ws⟩ (g ws) (g vs) Q E hg (hr.mono hk) I2.env0 (hb s2 ws I2.kIn (rz.length.symm.trans l2)) (hv vs ws rz l2) q2) (fun res s3 hq => ?_))
  match res, hq with
  | .error e, hq => exact hx pins σ H2 s2 e s3 I2 hq
  | .ok (.ret u), hq => exact I2.after hq
  | .ok .next, hq => exact hq.elim
  | .ok .brk, hq => exact hq.elim
  | .ok .cont, hq => exact hq.elim
end
theorem vals_rev : ∀ {vs : List V} {ws : List Value}, Vals vs ws → Vals vs.reverse ws.reverse
  | _, _, .nil => .nil
  | _, _, .cons r t => by
    rw [List.reverse_cons, List.reverse_cons]
    exact (vals_rev t).append (.cons r .nil)
theorem ints_can (ns : List Int) : PyData.canLay0 (.list (ns.map PyData.int)) = true := ints_canLay ns
/-! ## a def of the text as the head leaves it -/
structure At (K : PySem.W.Frag) (x : Str) (st : Stmt) (f : Addr) (fd : FuncData) : Prop where
  ns : PySem.W.nsIn K mainGlobals x = some (some (.ref f))
  fn : Fun K x x st f fd
theorem at_mk {K : PySem.W.Frag} {x : Str} {st : Stmt} {f : Addr} {oc : Value} {od an : Option Addr} {sl : Array (Option Value)} {kV doc pm cd ct : Value} (a : PySem.W.nsIn K mainGlobals x = some (some (.ref f)))
    (l : K.lookup f = some ⟨oc, od, .func (PySem.W.fnOf x x (defArgs st) (defBody st) (defScope st) .none kV doc pm an cd ct), sl⟩) (c : PySem.W.codeIn K cd x = true) (k : PySem.W.keepIn K (.ref f) = true) :
    At K x st f (PySem.W.fnOf x x (defArgs st) (defBody st) (defScope st) .none kV doc pm an cd ct) := ⟨a, fun_mk l c k⟩
section
variable {K : PySem.W.Frag} {x y qual : Str} {st : Stmt} {f : Addr} {fd : FuncData} {ps ks : List Str} {g : List Value → List Value}
theorem _root_.L2.Fun.kwb (F : Fun K x qual st f fd)
    (h : ∀ (kV doc pm : Value) (an : Option Addr) (cdv ct : Value) (ws : List Value), ws.length = ks.length → bindArgs (PySem.W.fnOf x qual (defArgs st) (defBody st) (defScope st) .none kV doc pm an cdv ct) ⟨[], ks.zip ws⟩ = pure (ps.zip (g ws))) :
    ∀ (s : Shared) (ws : List Value), K.In s.heap → ws.length = ks.length → BindsTo s fd ⟨[], ks.zip ws⟩ (ps.zip (g ws)) := by
  obtain ⟨oc, od, kV, doc, pm, an, cdv, ct, osl, rfl, lk, hcd⟩ := F.ex
  exact fun s ws _ hl => .of_eq (h kV doc pm an cdv ct ws hl)
theorem _root_.L2.Fun.binds1 (F : Fun K x qual st f fd)
    (h : ∀ {kV doc pm : Value} {an : Option Addr} {cdv ct : Value} {v : Value}, bindArgs (PySem.W.fnOf x qual (defArgs st) (defBody st) (defScope st) .none kV doc pm an cdv ct) ⟨[v], []⟩ = pure [(y, v)]) :
    ∀ (s : Shared) (v : Value), BindsTo s fd ⟨[v], []⟩ [(y, v)] := by
  obtain ⟨oc, od, kV, doc, pm, an, cdv, ct, osl, rfl, lk, hcd⟩ := F.ex
  exact fun s v => .of_eq h
end
end Vk
set_option Elab.async false
set_option maxRecDepth 100000
set_option linter.all false
namespace Vk
open PySem PySem.Spec PyProof.Rows L2
def top (i : Nat) : Stmt := PySem.Challenge.pw_anchoredits_k03_places_of_words.main.body.getD i (.Pass ⟨0, 0, 0, 0⟩)
structure Txt (mg : Str → Option Value) : Prop where
  len : mg "len" = none
  list : mg "list" = none
  int : mg "int" = none
  abs : mg "abs" = none
  range : mg "range" = none
  min : mg "min" = none
  repr : mg "repr" = none
section
variable {P : Program} {w : World} {K : PySem.W.Frag} {mg : Str → Option Value} {base : Heap}
abbrev s_ldraw : Stmt := top 4
theorem sc_ldraw : FnScope ["_law_pen_here", "_law_many", "_law_digit", "_law_turn", "_law_cell", "_law_primes", "_law_prime", "_law_drawn"] ["_law_pen_here", "_law_many"] (defScope s_ldraw) := ⟨rfl, rfl, rfl, by decide +kernel, rfl, by decide +kernel, by decide +kernel⟩
theorem b_ldraw {f : Addr} {fd : FuncData} (F : Fun K "_law_draw" "_law_draw" s_ldraw f fd) (T : Txt mg) : FnG P w K mg base CX0 1 f fd ["_law_pen_here", "_law_many"] spDraw := by
  refine okG0 F sc_ldraw (fun vs H Q E h => ?_) (fun cdv A outer s H vs Q E hg hr h => ?_)
  · obtain ⟨p, c, m, T0, rfl, _⟩ := h
    rfl
  · have hu := hu_of hr
    have hu64 := hr.units
    obtain ⟨p, c, m, T0, rfl, m0, m1, ⟨ns, t, l, hp, hc, hn, t0, tT, l0⟩, hT, k⟩ := h
    have ncp : c ≠ p := ne_of hc hp (by intro z; cases z)
    have lenns : (ns.map V.int).length = ns.length := List.length_map _
    refine ⟨_, (pss_cons (ps_if (pt_cmpR op_gt (pe_dget hu (pv 0) pe_str (fun _ _ => rfl)) pe_int (nomark _)) (pss_cons (ps_set (i := 2) sc_ldraw.nd rfl (Or.inl rfl) (pe_op op_mod (pe_callTy call_int1 (by rfl) T.int (by decide +kernel) (pa_cons (pe_dget hu (pv 0) pe_str (fun _ _ => rfl)) pa_nil)) (pv 1)))
      (pss_cons (ps_dput hu (pv 0) pe_str (pe_op op_fdiv (pe_dget hu (pv 0) pe_str (fun _ _ => rfl)) (pv 1)) rfl)
      (pss_one (ps_ret (pv 2))))) pss_nil)
      (pss_cons (ps_set (i := 3) sc_ldraw.nd rfl (Or.inl rfl) (pe_dget hu (pv 0) pe_str (fun _ _ => rfl)))
      (pss_cons (ps_dput hu (pv 0) pe_str (pe_op op_add (pv 3) pe_int) rfl)
      (pss_cons (ps_set (i := 4) sc_ldraw.nd rfl (Or.inl rfl) (pe_op op_add (pe_op op_mul pe_int (pv 3)) pe_int))
      (C8.pss_cut (ps_if (pt_cmpR (op_neD hu64) (pe_dget hu (pv 0) pe_str (fun _ _ => rfl)) (pe_lst pa_nil) (nomark _)) (pss_one (ps_set (i := 4) sc_ldraw.nd rfl (Or.inl rfl) (pe_ix ix_seq (pe_dget hu (pv 0) pe_str (fun _ _ => rfl)) (pe_op op_mod (pe_callTy call_int1 (by rfl) T.int (by decide +kernel) (pa_cons (pv 3) pa_nil)) (pe_callB call_len (by rfl) T.len (by decide +kernel) (pa_cons (pe_dget hu (pv 0) pe_str (fun _ _ => rfl)) pa_nil))) (fun _ _ => rfl)))) pss_nil)
      (C8.pss_cut (ps_if (PW.pt (pw_and (pt_cmpR op_lt (pv 3) (pe_callB call_len (by rfl) T.len (by decide +kernel) (pa_cons (pe_dget hu (pv 0) pe_str (fun _ _ => rfl)) pa_nil)) (nomark _)) (pw_and1 (pt_cmpR op_ge (pe_callB call_abs (by rfl) T.abs (by decide +kernel) (pa_cons (pv 4) pa_nil)) (pe_op op_pow pe_int pe_int) (nomark _))))) (pss_cons (ps_dput hu (pv 0) pe_str (pe_op op_fdiv (pe_op op_sub (pe_callB call_abs (by rfl) T.abs (by decide +kernel) (pa_cons (pv 4) pa_nil)) (pe_op op_pow pe_int pe_int)) (pv 1)) rfl)
      (pss_one (ps_ret (pe_op op_mod (pe_op op_sub (pe_callB call_abs (by rfl) T.abs (by decide +kernel) (pa_cons (pv 4) pa_nil)) (pe_op op_pow pe_int pe_int)) (pv 1))))) pss_nil)
      (pss_cons (ps_set (i := 5) sc_ldraw.nd rfl (Or.inl rfl) (pe_lst (pa_cons pe_int (pa_cons pe_int (pa_cons pe_int (pa_cons pe_int (pa_cons pe_int pa_nil)))))))
      (pss_cons (ps_set (i := 6) sc_ldraw.nd rfl (Or.inl rfl) (pe_ix ix_seq (pv 5) (pe_op op_mod (pe_callTy call_int1 (by rfl) T.int (by decide +kernel) (pa_cons (pv 3) pa_nil)) pe_int) (fun _ _ => rfl)))
      (pss_cons (ps_set (i := 7) sc_ldraw.nd rfl (Or.inl rfl) (pe_op op_mod (pe_callTy call_int1 (by rfl) T.int (by decide +kernel) (pa_cons (pe_op op_add (pe_op op_add (pe_op op_mul (pe_op op_mod (pe_callTy call_int1 (by rfl) T.int (by decide +kernel) (pa_cons (pv 4) pa_nil)) (pv 6)) pe_int) (pe_op op_mul (pv 3) (pe_op op_add (pe_op op_mul pe_int (pv 3)) pe_int))) pe_int) pa_nil)) (pv 6)))
      (pss_cons (ps_set (i := 7) sc_ldraw.nd rfl (Or.inl rfl) (pe_op op_mod (pe_callTy call_int1 (by rfl) T.int (by decide +kernel) (pa_cons (pe_op op_mul (pv 7) (pe_op op_add (pv 7) pe_int)) pa_nil)) (pe_ix ix_seq (pv 5) (pe_op op_mod (pe_callTy call_int1 (by rfl) T.int (by decide +kernel) (pa_cons (pe_op op_add (pv 3) pe_int) pa_nil)) pe_int) (fun _ _ => rfl))))
      (pss_one (ps_ret (pe_op op_mod (pe_callTy call_int1 (by rfl) T.int (by decide +kernel) (pa_cons (pe_op op_fdiv (pe_op op_mod (pe_callTy call_int1 (by rfl) T.int (by decide +kernel) (pa_cons (pe_op op_add (pe_op op_add (pe_op op_mul (pv 7) (pv 7)) (pe_op op_mul pe_int (pv 7))) (pv 3)) pa_nil)) pe_int) pe_int) pa_nil)) (pv 1)))))))))))))), ?_⟩
    refine ⟨_, rfl, p, _, rfl, get_left hp, _, _, rfl, rfl, _, rfl, ?_⟩
    refine ite2 (fun hl => ?_) (fun hl => ?_)
    · refine ⟨_, rfl, p, _, rfl, get_left hp, .inl ⟨_, rfl, ?_⟩⟩
      refine ⟨_, rfl, _, _, rfl, rfl, m0, ?_⟩
      refine ⟨_, rfl, p, _, rfl, get_left hp, _, rfl, _, _, rfl, rfl, ⟨by omega, by omega⟩, ?_⟩
      refine ⟨_, rfl, p, _, rfl, put_left hp, _, rfl, ?_⟩
      refine k _ _ (Int.emod_nonneg _ (by omega)) (Int.emod_lt_of_pos _ m0) ⟨ns, t, _, upd_same, (upd_ne ncp).trans hc, hn, t0, by omega, Int.ediv_nonneg l0 (by omega)⟩ Ext.at
    · refine ⟨_, rfl, p, _, rfl, get_turn hp, ?_⟩
      refine ⟨_, rfl, _, _, rfl, rfl, _, rfl, p, _, rfl, put_turn hp, ?_⟩
      generalize hH1 : upd H p (.dK (penL c (t + 1) l)) = H1
      have hp1 : H1 p = some (.dK (penL c (t + 1) l)) := by rw [← hH1]; exact upd_same
      have hc1 : H1 c = some (.lst (ns.map V.int)) := by rw [← hH1]; exact (upd_ne ncp).trans hc
      have e1 : Ext p H H1 := by rw [← hH1]; exact Ext.at
      refine ⟨_, rfl, _, _, rfl, rfl, .inl ⟨by decide, by decide⟩, _, _, rfl, rfl, ?_⟩
      refine ⟨fun σ' H2 => ∃ z : Int, σ' = [some (.ref p), some (.int m), none, some (.int t), some (.int z), none, none, none] ∧ H2 p = some (.dK (penL c (t + 1) l)) ∧ H2 c = some (.lst (ns.map V.int)) ∧ Ext p H H2, ?_, ?_⟩
      · refine ⟨_, rfl, p, _, rfl, get_cells hp1, by decide, fun b hb => ?_⟩
        have hp2 := up_new (u := .lst []) hp1 hb
        have hc2 := up_new (u := .lst []) hc1 hb
        refine ⟨.list (ns.map .int), .list [], .lst (SqL.of hc2) (ints_dp ns), .lst (SqL.of upd_same) .nil, ints_shaped ns, by decide +kernel, _, rfl, ?_⟩
        rw [ints_ne_nil]
        refine ite2 (fun hne => ?_) (fun _ => ?_)
        · have hpos : 0 < ns.length := by
            cases ns with
            | nil => simp at hne
            | cons a r => exact Nat.succ_pos _
          refine ⟨_, rfl, p, _, rfl, get_cells hp2, _, rfl, .inl ⟨_, rfl, _, rfl, p, _, rfl, get_cells hp2, _, _, rfl, .inl ⟨_, SqL.of hc2, rfl⟩, _, _, rfl, rfl, ?_, ?_⟩⟩
          · rw [lenns]; omega
          · obtain ⟨v, hv, hm⟩ := at_mod (xs := ns.map V.int) (i := t % ((ns.map V.int).length : Int)) (Int.emod_nonneg _ (by rw [lenns]; omega)) (Int.emod_lt_of_pos _ (by rw [lenns]; omega))
            obtain ⟨z, _, rfl⟩ := List.mem_map.mp hm
            refine .inl ⟨_, _, _, _, rfl, rfl, SqL.of hc2, hv, z, rfl, hp2, hc2, e1.set (e1.none_of ?_ hb)⟩
            exact (ne_of_none hp1 hb).symm
        · exact ⟨_, rfl, hp2, hc2, e1.set (e1.none_of (ne_of_none hp1 hb).symm hb)⟩
      · rintro σ2 H2 ⟨z, rfl, hp2, hc2, e2⟩
        refine ⟨fun σ' H3 => σ' = [some (.ref p), some (.int m), none, some (.int t), some (.int z), none, none, none] ∧ H3 = H2, ?_, ?_⟩
        · refine ⟨_, rfl, _, rfl, p, _, rfl, get_cells hp2, _, _, rfl, .inl ⟨_, SqL.of hc2, rfl⟩, _, _, rfl, rfl, _, rfl, ?_⟩
          refine ite2 (fun _ => ?_) (fun _ => ?_)
          · refine ⟨_, rfl, _, rfl, _, _, rfl, rfl, ⟨by decide, by decide, by decide⟩, _, _, rfl, rfl, _, rfl, ?_⟩
            refine ite2 (fun hbig => ?_) (fun _ => ?_)
            · have big := of_decide_eq_true hbig
              refine ⟨_, rfl, _, rfl, _, _, rfl, rfl, ⟨by decide, by decide, by decide⟩, _, _, rfl, rfl, _, rfl, _, _, rfl, rfl, ⟨by omega, by omega⟩, ?_⟩
              refine ⟨_, rfl, p, _, rfl, put_left hp2, ?_⟩
              refine ⟨_, rfl, _, rfl, _, _, rfl, rfl, ⟨by decide, by decide, by decide⟩, _, _, rfl, rfl, _, rfl, _, _, rfl, rfl, m0, ?_⟩
              refine k _ _ (Int.emod_nonneg _ (by omega)) (Int.emod_lt_of_pos _ m0) ⟨ns, t + 1, _, upd_same, (upd_ne ncp).trans hc2, hn, by omega, by omega, Int.ediv_nonneg (by omega) (by omega)⟩ (e2.trans Ext.at)
            · exact ⟨rfl, rfl⟩
          · exact ⟨rfl, rfl⟩
        · rintro σ3 H3 ⟨rfl, rfl⟩
          refine ⟨by decide, fun q hq => ?_⟩
          have hp3 := up_new (u := .lst (primes.map V.int)) hp2 hq
          have hc3 := up_new (u := .lst (primes.map V.int)) hc2 hq
          have e3 : Ext p H (upd H3 q (.lst (primes.map V.int))) := e2.set (e2.none_of (ne_of_none hp2 hq).symm hq)
          have hq3 : (upd H3 q (.lst (primes.map V.int))) q = some (.lst (primes.map V.int)) := upd_same
          have pick : ∀ i : Int, 0 ≤ i → i < 5 → ∃ z : Int, atI (primes.map V.int) i = some (.int z) ∧ 0 < z ∧ z < 2147483648 := fun i h0 h5 => by
            obtain ⟨v, hv, hm⟩ := at_mod (xs := primes.map V.int) h0 h5
            obtain ⟨z, rfl, hz⟩ := primes_in hm
            exact ⟨z, hv, hz⟩
          obtain ⟨a1, ha1, a1p, a1b⟩ := pick (t % 5) (Int.emod_nonneg _ (by decide)) (Int.emod_lt_of_pos _ (by decide))
          obtain ⟨a2, ha2, a2p, a2b⟩ := pick ((t + 2) % 5) (Int.emod_nonneg _ (by decide)) (Int.emod_lt_of_pos _ (by decide))
          refine ⟨_, rfl, _, rfl, .inl ⟨_, rfl, _, _, rfl, rfl, (by show (0 : Int) < 5; decide), .inl ⟨_, _, _, _, rfl, rfl, SqL.of hq3, ha1, ?_⟩⟩⟩
          have b1 := Int.emod_nonneg z (show a1 ≠ 0 by omega)
          have b2 := Int.emod_lt_of_pos z a1p
          refine ⟨_, rfl, .inl ⟨_, rfl, _, rfl, _, _, rfl, rfl, a1p, _, _, rfl, rfl, .inr ⟨by decide, by decide⟩, ?_⟩⟩
          refine ⟨_, rfl, _, rfl, _, _, rfl, rfl, .inl ⟨by decide, by decide⟩, _, _, rfl, rfl, _, _, rfl, rfl, .inl ⟨by omega, by omega⟩, _, _, rfl, rfl, _, _, rfl, rfl, .inl ⟨_, rfl, _, rfl, _, _, rfl, rfl, a1p, ?_⟩⟩
          have d1 := Int.emod_nonneg (z % a1 * 39373 + t * (30011 * t + 8117) + 23) (show a1 ≠ 0 by omega)
          have d2 := Int.emod_lt_of_pos (z % a1 * 39373 + t * (30011 * t + 8117) + 23) a1p
          refine ⟨_, rfl, _, rfl, _, _, rfl, rfl, _, _, rfl, rfl, .inl ⟨by omega, by omega⟩, .inl ⟨_, rfl, _, rfl, _, rfl, _, _, rfl, rfl, .inl ⟨_, rfl, _, _, rfl, rfl, (by show (0 : Int) < 5; decide), .inl ⟨_, _, _, _, rfl, rfl, SqL.of hq3, ha2, _, _, rfl, rfl, a2p, ?_⟩⟩⟩⟩
          have f1 := Int.emod_nonneg (((z % a1 * 39373 + t * (30011 * t + 8117) + 23) % a1) * (((z % a1 * 39373 + t * (30011 * t + 8117) + 23) % a1) + 69621)) (show a2 ≠ 0 by omega)
          have f2 := Int.emod_lt_of_pos (((z % a1 * 39373 + t * (30011 * t + 8117) + 23) % a1) * (((z % a1 * 39373 + t * (30011 * t + 8117) + 23) % a1) + 69621)) a2p
          refine ⟨_, rfl, _, rfl, _, _, rfl, rfl, .inl ⟨by omega, by omega⟩, _, rfl, _, _, rfl, rfl, .inl ⟨by decide, by decide⟩, _, _, rfl, rfl, _, rfl, _, _, rfl, rfl, .inl ⟨_, rfl, _, _, rfl, rfl, (by show (0 : Int) < 2147483549; decide), _, _, rfl, rfl, ⟨by decide, by decide⟩, .inl ⟨_, rfl, _, rfl, _, _, rfl, rfl, m0, ?_⟩⟩⟩
          exact k _ _ (Int.emod_nonneg _ (by omega)) (Int.emod_lt_of_pos _ m0) ⟨ns, t + 1, l, hp3, hc3, hn, by omega, by omega, l0⟩ e3

abbrev s_lpen : Stmt := top 3
theorem sc_lpen : FnScope ["_law_script"] ["_law_script"] (defScope s_lpen) := ⟨rfl, rfl, rfl, by decide +kernel, rfl, by decide +kernel, by decide +kernel⟩
theorem b_lpen {f : Addr} {fd : FuncData} (F : Fun K "_law_pen" "_law_pen" s_lpen f fd) (T : Txt mg) : FnG P w K mg base CX0 1 f fd ["_law_script"] (spPen K) := by
  refine okG0 F sc_lpen (fun vs H Q E h => ?_) (fun cdv A outer s H vs Q E hg hr h => ?_)
  · obtain ⟨a, ns, rfl, _⟩ := h
    rfl
  · have hu := hu_of hr
    have hu64 := hr.units
    obtain ⟨a, ns, rfl, hs, k⟩ := h
    refine ⟨_, (pss_one (ps_ret (pe_disp (pps_cons pe_str (pe_callTy call_list_of (by rfl) T.list (by decide +kernel) (pa_cons (pe_slice sl_list (pv 0) po_none (po_some pe_int)) pa_nil)) (pps_cons pe_str pe_int (pps_cons pe_str pe_int pps_nil))) (by rfl) (by rfl) (fun z => by cases z) (by decide)))), ?_⟩
    intro p hp
    obtain ⟨ms, hms, hml⟩ := cut63 ns
    refine ⟨_, rfl, 63, rfl, a, _, rfl, (same_new hp).seq hs, fun q hq => ?_⟩
    refine ⟨q, _, rfl, .inl (SqL.of upd_same), fun c hc => ?_⟩
    rw [hms] at hc ⊢
    have nqp : p ≠ q := fun e => by rw [← e, upd_same] at hq; cases hq
    have ncp : p ≠ c := fun e => by rw [← e, upd_ne nqp, upd_same] at hc; cases hc
    have hp2 : (upd (upd (upd H p (.dK [])) q (.lst (ms.map V.int))) c (.lst (ms.map V.int))) p = some (.dK []) := by rw [upd_ne ncp, upd_ne nqp, upd_same]
    refine ⟨hp2, penL c 0 0, rfl, (by show 3 ≤ 15; decide), ?_⟩
    rw [pen_made]
    refine k p c _ hp ⟨ms, 0, 0, upd_same, by rw [upd_ne ncp.symm, upd_same], hml, Int.le_refl _, Int.le_refl _, Int.le_refl _⟩ fun b o e => ?_
    rw [upd_ne (ne_of_none e hp), upd_ne ?_, upd_ne ?_, upd_ne (ne_of_none e hp)]
    · exact e
    · rintro rfl
      rw [upd_ne (ne_of_none e hp)] at hq
      rw [hq] at e
      cases e
    · rintro rfl
      by_cases ebq : b = q
      · subst ebq
        rw [upd_ne nqp.symm] at hq
        rw [hq] at e
        cases e
      · rw [upd_ne ebq, upd_ne (ne_of_none e hp)] at hc
        rw [hc] at e
        cases e

abbrev s_lpick : Stmt := top 5
theorem sc_lpick : FnScope ["_law_pen_here", "_law_options"] ["_law_pen_here", "_law_options"] (defScope s_lpick) := ⟨rfl, rfl, rfl, by decide +kernel, rfl, by decide +kernel, by decide +kernel⟩
theorem b_lpick {f : Addr} {fd : FuncData} (F : Fun K "_law_pick" "_law_pick" s_lpick f fd) (T : Txt mg) (c_ldraw : CalG P w K mg base CX0 1 "_law_draw" spDraw) : FnG P w K mg base CX0 2 f fd ["_law_pen_here", "_law_options"] (spPick K) := by
  refine okG0 F sc_lpick (fun vs H Q E h => ?_) (fun cdv A outer s H vs Q E hg hr h => ?_)
  · obtain ⟨p, c, o, xs, T0, rfl, _⟩ := h
    rfl
  · have hu := hu_of hr
    have hu64 := hr.units
    obtain ⟨p, c, o, xs, T0, rfl, ho, hne, hlen, hpen, hT, k⟩ := h
    have hpos : 0 < xs.length := List.length_pos_iff.mpr hne
    have hr1 : Room 1 _ := hr
    refine ⟨_, (pss_one (ps_ret (pe_ix ix_seq (pv 1) (pe_cG c_ldraw hg hr (by decide) pass0 (pa_cons (pv 0) (pa_cons (pe_callB call_len (by rfl) T.len (by decide +kernel) (pa_cons (pv 1) pa_nil)) pa_nil))) (fun _ _ => rfl)))), ?_⟩

    cases ho with
    | str z hz =>
      have e := one_len z
      have hz24 : z.length ≤ sizeLine := Nat.le_trans hz (by decide)
      refine ⟨_, rfl, _, rfl, _, rfl, _, _, rfl, ⟨hz24, rfl⟩, p, c, _, T0, rfl, by omega, by omega, hpen, hT, fun d H' d0 d1 hpen' x => ?_⟩
      obtain ⟨e1, hc, hm⟩ := at_mod (xs := z.cps.toList) d0 (by rw [show (z.cps.toList.length : Int) = (z.length : Int) from congrArg Nat.cast Array.length_toList]; exact d1)
      exact .inr (.inr ⟨z, d, e1, rfl, rfl, hz24, hc, k _ _ (List.mem_map_of_mem (f := OneS) hm) hpen' x⟩)
    | lst hs =>
      refine ⟨_, rfl, _, rfl, _, rfl, _, _, rfl, .inl ⟨_, hs, rfl⟩, p, c, _, T0, rfl, by omega, by omega, hpen, hT, fun d H' d0 d1 hpen' x => ?_⟩
      obtain ⟨v, hv, hm⟩ := at_mod d0 d1
      exact .inl ⟨_, xs, d, v, rfl, rfl, hpen.keepL x hs, hv, k _ _ hm hpen' x⟩
    | tup hs =>
      refine ⟨_, rfl, _, rfl, _, rfl, _, _, rfl, .inr ⟨_, hs, rfl⟩, p, c, _, T0, rfl, by omega, by omega, hpen, hT, fun d H' d0 d1 hpen' x => ?_⟩
      obtain ⟨v, hv, hm⟩ := at_mod d0 d1
      exact .inr (.inl ⟨_, xs, d, v, rfl, rfl, hpen.keepT x hs, hv, k _ _ hm hpen' x⟩)

abbrev s_lsigns : Stmt := top 6
theorem sc_lsigns : FnScope [] [] (defScope s_lsigns) := ⟨rfl, rfl, rfl, by decide +kernel, rfl, by decide +kernel, by decide +kernel⟩
theorem b_lsigns {f : Addr} {fd : FuncData} (F : Fun K "_law_signs" "_law_signs" s_lsigns f fd) (T : Txt mg) : FnG P w K mg base CX0 1 f fd [] spSigns := by
  refine okG0 F sc_lsigns (fun vs H Q E h => ?_) (fun cdv A outer s H vs Q E hg hr h => ?_)
  · obtain ⟨rfl, _⟩ := h
    rfl
  · have hu := hu_of hr
    have hu64 := hr.units
    obtain ⟨rfl, k⟩ := h
    exact ⟨_, (pss_one (ps_ret pe_str)), k⟩

abbrev s_lfew : Stmt := top 7
theorem sc_lfew : FnScope ["_law_pen_here", "_law_some", "_law_rare", "_law_k"] ["_law_pen_here"] (defScope s_lfew) := ⟨rfl, rfl, rfl, by decide +kernel, rfl, by decide +kernel, by decide +kernel⟩
theorem b_lfew {f : Addr} {fd : FuncData} (F : Fun K "_law_few" "_law_few" s_lfew f fd) (T : Txt mg) (c_lpick : CalG P w K mg base CX0 2 "_law_pick" (spPick K)) (t_signs : FnT P w K mg base 1 "_law_signs" letS) : FnG P w K mg base CX0 3 f fd ["_law_pen_here"] spFew := by
  refine okG0 F sc_lfew (fun vs H Q E h => ?_) (fun cdv A outer s H vs Q E hg hr h => ?_)
  · obtain ⟨p, pc, T0, rfl, _⟩ := h
    rfl
  · have hu := hu_of hr
    have hu64 := hr.units
    obtain ⟨p, pc, T0, rfl, hpen, hT, k⟩ := h
    have hr2 : Room 2 _ := hr
    refine ⟨_, (pss_cons (ps_set (i := 1) sc_lfew.nd rfl (Or.inr rfl) (pe_lst (pa_cons (pe_cG c_lpick hg hr (by decide) pass0 (pa_cons (pv 0) (pa_cons (pe_replT t_signs hr (by decide) (by decide +kernel) (by decide +kernel)) pa_nil))) (pa_cons (pe_cG c_lpick hg hr (by decide) pass0 (pa_cons (pv 0) (pa_cons pe_str pa_nil))) (pa_cons (pe_cG c_lpick hg hr (by decide) pass0 (pa_cons (pv 0) (pa_cons pe_str pa_nil))) pa_nil)))))
      (pss_cons (ps_set (i := 2) sc_lfew.nd rfl (Or.inl rfl) (pe_join pe_str (pe_lc (own := [("_law_k", 3)]) (g := gName 3) rfl sc_lfew.nd (pi_range1 rfl T.range (pa_cons pe_int pa_nil)) (blkOk_by (own := [("_law_k", 3)]) (N := ["_law_pen_here", "_law_some", "_law_rare", "_law_k"]) (sc := defScope s_lfew) (by decide +kernel)) (fun _ _ _ _ _ => (pg_name (i := 3) sc_lfew.nd rfl (Or.inl rfl))) (fun _ _ _ _ _ => (pts_one (pt_cmpR (op_notIn_seqK (K := K) rfl) (pe_ix (ix_seqK (K := K) rfl) (pv 1) (pv 3) (fun _ _ => rfl)) (pe_slice (sl_listK (K := K) rfl) (pv 1) po_none (po_some (pv 3))) (by rfl)))) (fun _ _ _ _ _ => (pe_ix (ix_seqK (K := K) rfl) (pv 1) (pv 3) (fun _ _ => rfl))))))
      (pss_one (ps_ret (pe_cG c_lpick hg hr (by decide) pass0 (pa_cons (pv 0) (pa_cons (pe_lst (pa_cons pe_str (pa_cons pe_str (pa_cons pe_str (pa_cons pe_str (pa_cons pe_str (pa_cons pe_str (pa_cons pe_str (pa_cons pe_str (pa_cons pe_str (pa_cons (pv 2) pa_nil))))))))))) pa_nil))))))), ?_⟩
    refine ⟨_, rfl, p, pc, _, _, T0, rfl, .str _ (by rw [noq_len]; decide), opts_ne (by rw [noq_len]; decide), opts_le (by rw [noq_len]; decide), hpen, by omega, fun v1 H1 m1 P1 x1 => ?_⟩
    obtain ⟨c1, rfl, k1⟩ := ones_of m1
    refine ⟨_, rfl, p, pc, _, _, T0 + 1, rfl, .str _ (by decide), opts_ne (by decide), opts_le (by decide), P1, by omega, fun v2 H2 m2 P2 x2 => ?_⟩
    obtain ⟨c2, rfl, k2⟩ := ones_of m2
    refine ⟨_, rfl, p, pc, _, _, T0 + 2, rfl, .str _ (by decide), opts_ne (by decide), opts_le (by decide), P2, by omega, fun v3 H3 m3 P3 x3 => ?_⟩
    obtain ⟨c3, rfl, k3⟩ := ones_of m3
    refine ⟨by show 3 ≤ sizeLine; decide, fun a ha => ?_⟩
    have hin : ∀ c ∈ [c1, c2, c3], c ∈ letS.cps.toList := by
      intro c hc
      simp only [List.mem_cons, List.not_mem_nil, or_false] at hc
      rcases hc with rfl | rfl | rfl
      · exact noq_in k1
      · exact (by decide +kernel : ∀ c ∈ (Str.ofString "yz").cps.toList, c ∈ letS.cps.toList) _ k2
      · exact (by decide +kernel : ∀ c ∈ (Str.ofString "(\n").cps.toList, c ∈ letS.cps.toList) _ k3
    have P4 := P3.new (o := .lst ([c1, c2, c3].map OneS)) ha
    have x4 : Ext p H (upd H3 a (.lst ([c1, c2, c3].map OneS))) := (x1.trans (x2.trans x3)).trans (Ext.new ha)
    have ha4 : (upd H3 a (.lst ([c1, c2, c3].map OneS))) a = some (.lst ([c1, c2, c3].map OneS)) := upd_same
    generalize hxs : ([c1, c2, c3].map OneS : List V) = xs at ha4 P4 x4
    have hxl : xs.length = 3 := by rw [← hxs]; rfl
    have hxf : xs.all flatV = true := by rw [← hxs]; exact ones_flat _
    have hxm : ∀ v ∈ xs, ∃ c, v = OneS c ∧ c ∈ [c1, c2, c3] := by rw [← hxs]; exact fun v hv => one_mem hv
    have ha5 : (upd H3 a (.lst ([c1, c2, c3].map OneS))) = upd H3 a (.lst xs) := by rw [hxs]
    generalize hH4 : upd H3 a (.lst xs) = H4 at ha4 P4 x4 ha5
    refine ⟨⟨_, rfl⟩, ?_⟩
    show (iRng1 (tCons (tC (V.int 3)) tNil)) _ (upd H3 a (.lst ([c1, c2, c3].map OneS))) _
    rw [ha5]
    refine ⟨3, rfl, by decide, by decide, fun D hD => lc_range (lo := 0) (n := 3) (fun i H' => ∃ cs : List Nat, H' D = some (.lst (cs.map OneS)) ∧ cs.length ≤ i ∧ (1 ≤ i → 1 ≤ cs.length) ∧ (∀ c ∈ cs, c ∈ letS.cps.toList) ∧ Same H4 H') ?_ ?_ ?_⟩
    · exact ⟨[], upd_same, Nat.le_refl _, fun h => by omega, fun c hc => absurd hc List.not_mem_nil, same_new hD⟩
    · rintro i H5 hi ⟨cs, hDc, hcl, hc1, hcm, sm⟩
      obtain ⟨v, hv, hvm⟩ := at_mod (xs := xs) (i := 0 + (i : Int)) (by omega) (by rw [hxl]; omega)
      obtain ⟨c, rfl, hcc⟩ := hxm v hvm
      have sa : SqL K H5 a xs := sm.seq (SqL.of ha4)
      refine ⟨rfl, _, rfl, _, rfl, .inl ⟨a, xs, _, _, rfl, rfl, sa, hv, _, rfl, _, rfl, _, rfl, a, xs, rfl, sa, fun q hq => ⟨q, _, rfl, .inl (SqL.of upd_same), rfl, cutV_all hxf, _, rfl, ?_⟩⟩⟩
      have sq : Same H4 (upd H5 q (.lst (cutV xs none (some (0 + (i : Int)))))) := sm.trans (same_new hq)
      have dq := up_new (u := .lst (cutV xs none (some (0 + (i : Int))))) hDc hq
      refine ite2 (fun hb => ?_) (fun hb => ?_)
      · refine ⟨_, rfl, _, rfl, .inl ⟨a, xs, _, _, rfl, rfl, sq.seq (SqL.of ha4), hv, _, dq, by rw [List.length_map]; exact Nat.lt_of_le_of_lt hcl (Nat.lt_trans hi (by decide)), cs ++ [c], ?_, ?_, fun _ => ?_, ?_, ?_⟩⟩
        · rw [upd_same, List.map_append]
          rfl
        · rw [List.length_append]; exact Nat.add_le_add_right hcl 1
        · rw [List.length_append]; exact Nat.le_add_left _ _
        · intro d hd
          rcases List.mem_append.mp hd with hd | hd
          · exact hcm d hd
          · rw [List.mem_singleton.mp hd]
            exact hin c hcc
        · intro b o e
          by_cases hbD : b = D
          · rw [hbD, hD] at e
            cases e
          · exact (upd_ne hbD).trans (sq b o e)
      · refine ⟨cs, dq, Nat.le_succ_of_le hcl, fun _ => ?_, hcm, sq⟩
        by_cases h0 : i = 0
        · subst h0
          refine absurd ?_ hb
          show (if true = true then !inV (OneS c) (cutV xs none (some (0 + ((0 : Nat) : Int)))) else inV (OneS c) (cutV xs none (some (0 + ((0 : Nat) : Int))))) = true
          rw [show (0 : Int) + ((0 : Nat) : Int) = 0 from rfl, cutV_zero]
          rfl
        · exact hc1 (by omega)
    · rintro H5 ⟨cs, hDc, hcl, hc1, hcm, sm⟩
      refine ⟨_, D, cs.map fun c => ⟨#[c]⟩, rfl, rfl, .inl (SqL.of (by rw [ones_map]; exact hDc)), ?_, ?_⟩
      · rw [ones_len]
        show cs.length + _ * 0 ≤ _
        omega
      · rw [join_ones]
        have fz : Few ⟨cs.toArray⟩ := few_ones (hc1 (by decide)) hcl hcm
        have x5 : Ext p H H5 := x4.trans (Ext.same sm)
        have P5 := P4.stay sm
        refine ⟨_, rfl, _, rfl, by show 10 ≤ sizeLine; decide, fun q hq => ?_⟩
        refine ⟨p, pc, _, _, T0 + 3, rfl, .lst (SqL.of upd_same), by simp, by show 10 ≤ 1000; decide, P5.new hq, by omega, fun v H6 hm P6 x6 => ?_⟩
        have fin : ∃ z, v = .str z ∧ Few z := by
          simp only [List.mem_cons, List.not_mem_nil, or_false] at hm
          rcases hm with rfl | rfl | rfl | rfl | rfl | rfl | rfl | rfl | rfl | rfl
          all_goals first
            | exact ⟨_, rfl, fz⟩
            | exact ⟨_, rfl, few_of (by decide +kernel)⟩
        obtain ⟨z, rfl, hz⟩ := fin
        exact k z H6 hz P6 (x5.trans ((Ext.new hq).trans x6))

abbrev s_lword : Stmt := top 8
theorem sc_lword : FnScope ["_law_pen_here", "_law_signs_here", "_law_least", "_law_most_letters", "_law_many", "_law_k"] ["_law_pen_here", "_law_signs_here", "_law_least", "_law_most_letters"] (defScope s_lword) := ⟨rfl, rfl, rfl, by decide +kernel, rfl, by decide +kernel, by decide +kernel⟩
theorem b_lword {f : Addr} {fd : FuncData} (F : Fun K "_law_word" "_law_word" s_lword f fd) (T : Txt mg) (c_ldraw : CalG P w K mg base CX0 1 "_law_draw" spDraw) (c_lpick : CalG P w K mg base CX0 2 "_law_pick" (spPick K)) : FnG P w K mg base CX0 3 f fd ["_law_pen_here", "_law_signs_here", "_law_least", "_law_most_letters"] spWord := by
  refine okG0 F sc_lword (fun vs H Q E h => ?_) (fun cdv A outer s H vs Q E hg hr h => ?_)
  · obtain ⟨p, pc, z, a, b, T0, rfl, _⟩ := h
    rfl
  · have hu := hu_of hr
    have hu64 := hr.units
    obtain ⟨p, pc, z, a, b, T0, rfl, hab, hb, hz1, hz, hpen, hT, k⟩ := h
    have hr2 : Room 2 _ := hr
    refine ⟨_, (pss_cons (ps_set (i := 4) sc_lword.nd rfl (Or.inl rfl) (pe_op op_add (pv 2) (pe_cG c_ldraw hg hr (by decide) pass0 (pa_cons (pv 0) (pa_cons (pe_op op_add (pe_op op_sub (pv 3) (pv 2)) pe_int) pa_nil)))))
      (pss_one (ps_ret (pe_join pe_str (pe_lc (own := [("_law_k", 5)]) (g := gName 5) (tt := tYes) rfl sc_lword.nd (pi_range1 rfl T.range (pa_cons (pv 4) pa_nil)) (blkOk_by (own := [("_law_k", 5)]) (N := ["_law_pen_here", "_law_signs_here", "_law_least", "_law_most_letters", "_law_many", "_law_k"]) (sc := defScope s_lword) (by decide +kernel)) (fun _ _ _ _ _ => (pg_name (i := 5) sc_lword.nd rfl (Or.inl rfl))) (fun _ _ _ _ _ => pts_nil) (fun _ _ _ _ _ => (pe_cG c_lpick hg hr (by decide) pass0 (pa_cons (pv 0) (pa_cons (pv 1) pa_nil))))))))), ?_⟩
    refine ⟨_, rfl, _, rfl, _, rfl, _, rfl, _, _, rfl, rfl, _, _, rfl, rfl, p, pc, _, T0, rfl, by omega, by omega, hpen, by omega, fun d H1 d0 d1 P1 x1 => ?_⟩
    refine ⟨_, _, rfl, rfl, ⟨_, rfl⟩, ?_⟩
    obtain ⟨n, rfl⟩ : ∃ n : Nat, d = (n : Int) := ⟨d.toNat, by omega⟩
    refine ⟨_, rfl, _, rfl, by omega, by omega, fun D hD => ?_⟩
    have en : ((a : Int) + (n : Int)).toNat = a + n := by omega
    have hn : a + n ≤ b := by omega
    obtain ⟨nDp, nDc⟩ := P1.apart hD
    refine lc_range (lo := 0) (n := ((a : Int) + (n : Int)).toNat) (fun i H' => ∃ cs : List Nat, H' D = some (.lst (cs.map OneS)) ∧ cs.length = i ∧ (∀ c ∈ cs, c ∈ z.cps.toList) ∧ Pen H' p pc (T0 + 1 + i) ∧ Ext p H H') ?_ ?_ ?_
    · refine ⟨[], upd_same, rfl, fun c hc => absurd hc List.not_mem_nil, P1.new hD, x1.trans (Ext.new hD)⟩
    · rintro i H2 hi ⟨cs, hDc, hcl, hcm, P2, x2⟩
      rw [en] at hi
      refine ⟨rfl, _, rfl, _, rfl, p, pc, _, _, T0 + 1 + i, rfl, .str z hz, opts_ne hz1, opts_le hz, P2, by omega, fun v H3 hm P3 x3 => ?_⟩
      obtain ⟨c, rfl, hc⟩ := ones_of hm
      have d3 := P2.keepI x3 hDc
      refine ⟨_, d3, by rw [List.length_map, hcl]; exact Nat.lt_of_lt_of_le hi (Nat.le_trans hn (Nat.le_trans hb (by decide))), cs ++ [c], ?_, by rw [List.length_append, hcl]; rfl, ?_, ?_, ?_⟩
      · rw [upd_same, List.map_append]
        rfl
      · intro e he
        rcases List.mem_append.mp he with he | he
        · exact hcm e he
        · rw [List.mem_singleton.mp he]
          exact hc
      · exact P3.set nDp nDc
      · exact fun b o e hb => by
          rw [upd_ne (fun q => by rw [q, x1.none_of nDp hD] at e; cases e)]
          exact x3 b o (x2 b o e hb) hb
    · rintro H2 ⟨cs, hDc, hcl, hcm, P2, x2⟩
      refine ⟨_, D, cs.map fun c => ⟨#[c]⟩, rfl, rfl, .inl (SqL.of (by rw [ones_map]; exact hDc)), ?_, ?_⟩
      · rw [ones_len]
        show cs.length + _ * 0 ≤ _
        omega
      · rw [join_ones]
        rw [en] at hcl P2
        exact k _ H2 ⟨by show a ≤ cs.toArray.size; rw [List.size_toArray]; omega, by show cs.toArray.size ≤ b; rw [List.size_toArray]; omega, by simpa using hcm⟩ (P2.mono (by omega)) x2

abbrev s_places : Stmt := top 1
theorem sc_places : FnScope ["text", "word", "found", "place"] ["text", "word"] (defScope s_places) := ⟨rfl, rfl, rfl, by decide +kernel, rfl, by decide +kernel, by decide +kernel⟩
theorem b_places {f : Addr} {fd : FuncData} (F : Fun K "places" "places" s_places f fd) (T : Txt mg) : FnG P w K mg base CX0 1 f fd ["text", "word"] (spPlaces K) := by
  refine okG0 F sc_places (fun vs H Q E h => ?_) (fun cdv A outer s H vs Q E hg hr h => ?_)
  · obtain ⟨x, wd, rfl, _⟩ := h
    rfl
  · have hu := hu_of hr
    have hu64 := hr.units
    obtain ⟨x, wd, rfl, hx, hw, k⟩ := h
    refine ⟨_, (pss_cons (ps_set (i := 2) sc_places.nd rfl (Or.inl rfl) (pe_lst pa_nil))
      (pss_cons (ps_set (i := 3) sc_places.nd rfl (Or.inl rfl) (pe_bm PySem.F.plainAttrs_str PySem.F.slot_str_find PySem.F.type_str_find mt_find (pv 0) (pa_cons (pv 1) pa_nil)))
      (pss_cons (ps_while PassesOwn.never (pt_cmpR op_ge (pv 3) pe_int (nomark _)) (pss_cons (ps_expr (pe_bm PySem.F.plainAttrs_list PySem.F.slot_list_append PySem.F.type_list_append mt_append (pv 2) (pa_cons (pv 3) pa_nil)))
      (pss_one (ps_set (i := 3) sc_places.nd rfl (Or.inl rfl) (pe_bm PySem.F.plainAttrs_str PySem.F.slot_str_find PySem.F.type_str_find mt_find3 (pv 0) (pa_cons (pv 1) (pa_cons (pe_op op_add (pv 3) pe_int) pa_nil)))))))
      (pss_one (ps_ret (pv 2)))))), ?_⟩
    refine ⟨Nat.zero_le _, fun a ha => ?_⟩
    have mono : ∀ {z : Int} {lo : Nat}, True := trivial
    let PI : Nat → Int → Prop := fun lo z => lo ≤ x.length + 1 ∧ ((z = -1 ∧ ∀ i, lo ≤ i → ¬ StrLaws.At x wd x.length i) ∨ ∃ i : Nat, z = (i : Int) ∧ lo ≤ i ∧ StrLaws.At x wd x.length i ∧ ∀ k, lo ≤ k → k < i → ¬ StrLaws.At x wd x.length k)
    refine ⟨_, rfl, rfl, _, rfl, x, wd, rfl, rfl, ?_⟩
    refine ⟨fun m σ H' => ∃ (lo : Nat) (z : Int), σ = [some (.str x), some (.str wd), some (.ref a), some (.int z)] ∧ H' a = some (.lst ((((List.range lo).filter (atB x wd)).map Int.ofNat).map V.int)) ∧ Same H H' ∧ PI lo z ∧ m = if z < 0 then 0 else x.length + 2 - lo, ⟨_, 0, Txt.find x wd, rfl, upd_same, same_new ha, ⟨Nat.zero_le _, find_from x wd 0 (Nat.zero_le _)⟩, rfl⟩, ?_⟩
    rintro m σ H2 ⟨lo, z, rfl, hd, sm, ⟨hlo, hP⟩, rfl⟩
    refine ⟨_, rfl, _, _, rfl, rfl, _, rfl, ?_⟩
    refine ite2 (fun hz => ?_) (fun hz => ?_)
    · have hz0 := of_decide_eq_true hz
      rcases hP with ⟨rfl, _⟩ | ⟨i, rfl, hi, hA, hB⟩
      · exact absurd hz0 (by decide)
      · have hA1 := hA.1
        have em : (if ((i : Nat) : Int) < 0 then 0 else x.length + 2 - lo) = x.length + 2 - lo := if_neg (by omega)
        rw [em]
        have fl : ((((List.range lo).filter (atB x wd)).map Int.ofNat).map V.int).length ≤ lo := by
          rw [List.length_map, List.length_map]
          exact Nat.le_trans (List.length_filter_le _ _) (Nat.le_of_eq List.length_range)
        have snoc : (List.range (i + 1)).filter (atB x wd) = (List.range lo).filter (atB x wd) ++ [i] := by
          rw [filter_snoc ((atB_iff x wd i).mpr hA), filter_more hi fun j h1 h2 => by
            cases q : atB x wd j with
            | false => rfl
            | true => exact absurd ((atB_iff x wd j).mp q) (hB j h1 h2)]
        refine ⟨fun σ' H' => ∃ z : Int, σ' = [some (.str x), some (.str wd), some (.ref a), some (.int z)] ∧ H' a = some (.lst ((((List.range (i + 1)).filter (atB x wd)).map Int.ofNat).map V.int)) ∧ Same H H' ∧ PI (i + 1) z, ?_, ?_⟩
        · rintro σ' H' ⟨z, rfl, h1, h2, h3⟩
          refine ⟨_, ?_, i + 1, z, rfl, h1, h2, h3, rfl⟩
          split <;> omega
        · refine ⟨_, rfl, .inl ⟨rfl, _, SqL.of hd⟩, _, rfl, a, _, _, rfl, rfl, hd, Nat.lt_of_le_of_lt fl (Nat.lt_of_le_of_lt (show lo ≤ 10002 by omega) (by decide)), ?_⟩
          refine ⟨_, rfl, rfl, _, rfl, _, rfl, _, _, rfl, rfl, x, wd, _, rfl, rfl, ?_⟩
          refine ⟨_, rfl, ?_, ?_, ?_⟩
          · rw [upd_same, snoc, List.map_append, List.map_append]
            rfl
          · intro b o e
            have nb : b ≠ a := fun q => by rw [q, ha] at e; cases e
            exact (upd_ne nb).trans (sm b o e)
          · refine ⟨by omega, ?_⟩
            have ef : Txt.find3 x wd ((i : Int) + 1) = (match Builtin.Str.occurrences x wd (i + 1) x.length 1 with | i :: _ => (i : Int) | [] => -1) := by
              unfold Txt.find3
              rw [show fromIndex x.length ((i : Int) + 1) = i + 1 by unfold fromIndex; rw [if_neg (by omega)]; omega]
              cases Builtin.Str.occurrences x wd (i + 1) x.length 1 <;> rfl
            rw [ef]
            exact find_from x wd (i + 1) (by omega)
    · have hz0 : z < 0 := by
        have := of_decide_eq_false (by simpa using hz : decide (0 ≤ z) = false)
        omega
      rcases hP with ⟨rfl, hN⟩ | ⟨i, rfl, _⟩
      · refine ⟨_, rfl, k a _ ha ?_ sm⟩
        rw [hd]
        unfold plcI plc
        rw [filter_more hlo fun j h1 h2 => by
            cases q : atB x wd j with
            | false => rfl
            | true => exact absurd ((atB_iff x wd j).mp q) (hN j h1)]
      · omega

abbrev s_lplaces : Stmt := top 9
theorem sc_lplaces : FnScope ["_law_text_here", "_law_was", "_law_size", "_law_k"] ["_law_text_here", "_law_was"] (defScope s_lplaces) := ⟨rfl, rfl, rfl, by decide +kernel, rfl, by decide +kernel, by decide +kernel⟩
theorem b_lplaces {f : Addr} {fd : FuncData} (F : Fun K "_law_places" "_law_places" s_lplaces f fd) (T : Txt mg) : FnG P w K mg base CX0 1 f fd ["_law_text_here", "_law_was"] (spPlaces K) := by
  refine okG0 F sc_lplaces (fun vs H Q E h => ?_) (fun cdv A outer s H vs Q E hg hr h => ?_)
  · obtain ⟨x, wd, rfl, _⟩ := h
    rfl
  · have hu := hu_of hr
    have hu64 := hr.units
    obtain ⟨x, wd, rfl, hx, hw, k⟩ := h
    refine ⟨_, (pss_cons (ps_set (i := 2) sc_lplaces.nd rfl (Or.inr rfl) (pe_callB call_len (by rfl) T.len (by decide +kernel) (pa_cons (pv 1) pa_nil)))
      (pss_one (ps_ret (pe_lc (own := [("_law_k", 3)]) (g := gName 3) rfl sc_lplaces.nd (pi_range1 rfl T.range (pa_cons (pe_op op_add (pe_op op_sub (pe_callB call_len (by rfl) T.len (by decide +kernel) (pa_cons (pv 0) pa_nil)) (pv 2)) pe_int) pa_nil)) (blkOk_by (own := [("_law_k", 3)]) (N := ["_law_text_here", "_law_was", "_law_size", "_law_k"]) (sc := defScope s_lplaces) (by decide +kernel)) (fun _ _ _ _ _ => (pg_name (i := 3) sc_lplaces.nd rfl (Or.inl rfl))) (fun _ _ _ _ _ => (pts_one (pt_cmpR op_eq (pe_slice sl_str (pv 0) (po_some (pv 3)) (po_some (pe_op op_add (pv 3) (pv 2)))) (pv 1) (nomark _)))) (fun _ _ _ _ _ => (pv 3)))))), ?_⟩
    have hx24 : x.length ≤ sizeLine := Nat.le_trans hx (by decide)
    have hw24 : wd.length ≤ sizeLine := Nat.le_trans hw (by decide)
    refine ⟨_, rfl, _, _, rfl, ⟨hw24, rfl⟩, ?_⟩
    refine ⟨_, rfl, _, _, rfl, ⟨hx24, rfl⟩, _, rfl, _, _, rfl, rfl, _, _, rfl, rfl, _, rfl, by omega, by omega, fun D hD => ?_⟩
    refine lc_range (lo := 0) (n := ((x.length : Int) - (wd.length : Int) + 1).toNat) (fun i H' => H' D = some (.lst ((((List.range i).filter (atB x wd)).map Int.ofNat).map V.int)) ∧ Same H H') ?_ ?_ ?_
    · exact ⟨upd_same, same_new hD⟩
    · rintro i H2 hi ⟨hd, sm⟩
      have hi2 : i + wd.length ≤ x.length := by omega
      refine ⟨rfl, _, rfl, _, rfl, _, rfl, _, rfl, _, rfl, _, _, rfl, rfl, _, rfl, x, rfl, hx24, ?_⟩
      refine ⟨_, rfl, rfl, _, rfl, ?_⟩
      have ec := cut_at x wd i hi2
      rw [show (0 : Int) + (i : Int) = (i : Int) by omega, ec]
      cases hb : atB x wd i with
      | true =>
        refine iteT ?_
        have fl : ((((List.range i).filter (atB x wd)).map Int.ofNat).map V.int).length ≤ i := by
          rw [List.length_map, List.length_map]
          exact Nat.le_trans (List.length_filter_le _ _) (Nat.le_of_eq List.length_range)
        refine ⟨_, rfl, _, hd, Nat.lt_of_le_of_lt fl (Nat.lt_of_le_of_lt (show i ≤ 10002 by omega) (by decide)), ?_, ?_⟩
        · rw [upd_same, filter_snoc hb, List.map_append, List.map_append]
          rfl
        · intro b o e
          exact (upd_ne (fun q => by rw [q, hD] at e; cases e)).trans (sm b o e)
      | false =>
        refine iteF ⟨?_, sm⟩
        rw [hd, filter_more (Nat.le_succ i) fun j h1 h2 => by rw [show j = i by omega]; exact hb]
    · rintro H2 ⟨hd, sm⟩
      refine k D H2 hD ?_ sm
      rw [hd]
      unfold plcI plc
      rw [← filter_more (lo := ((x.length : Int) - (wd.length : Int) + 1).toNat) (m := x.length + 1) (by omega) fun j h1 h2 => by
        unfold atB
        rw [decide_eq_false (by omega)]
        rfl]

def spLaw (K : PySem.W.Frag) : Sp := fun vs H Q _ => ∃ (a : Addr) (ns : List Int), vs = [.ref a] ∧ SqL K H a (ns.map V.int) ∧ ns.length ≤ 63 ∧ ∀ H', Q (.bl true) H'
abbrev s_law : Stmt := top 10
theorem sc_law : FnScope ["_law_script", "_law_pen_here", "_law_turn", "_law_signs_here", "_law_body", "_law_at", "_law_some", "_law_goal", "_law_one", "_law_told", "_law_due"] ["_law_script"] (defScope s_law) := ⟨rfl, rfl, rfl, by decide +kernel, rfl, by decide +kernel, by decide +kernel⟩
theorem b_law {f : Addr} {fd : FuncData} (F : Fun K "law" "law" s_law f fd) (T : Txt mg) (c_lpen : CalG P w K mg base CX0 1 "_law_pen" (spPen K)) (c_lfew : CalG P w K mg base CX0 3 "_law_few" spFew) (c_lword : CalG P w K mg base CX0 3 "_law_word" spWord) (c_ldraw : CalG P w K mg base CX0 1 "_law_draw" spDraw) (c_lpick : CalG P w K mg base CX0 2 "_law_pick" (spPick K)) (c_places : CalG P w K mg base CX0 1 "places" (spPlaces K)) (c_lplaces : CalG P w K mg base CX0 1 "_law_places" (spPlaces K)) (k_places : CalK P w K mg base CX0 1 "places" (spPlaces K) ["word", "text"] List.reverse) : FnG P w K mg base CX0 5 f fd ["_law_script"] (spLaw K) := by
  refine okG0 F sc_law (fun vs H Q E h => ?_) (fun cdv A outer s H vs Q E hg hr h => ?_)
  · obtain ⟨a, ns, rfl, _⟩ := h
    rfl
  · have hu := hu_of hr
    have hu64 := hr.units
    obtain ⟨a, ns, rfl, hS, hlen, k⟩ := h
    refine ⟨_, (pss_cons (ps_set (i := 1) sc_law.nd rfl (Or.inl rfl) (pe_cG c_lpen hg hr (by decide) pass0 (pa_cons (pv 0) pa_nil)))
      (pss_cons (ps_for PassesOwn.never rfl (pi_range1 rfl T.range (pa_cons (pe_op op_add pe_int (pe_callB (call_min2 rfl) (by rfl) T.min (by decide +kernel) (pa_cons pe_int (pa_cons (pe_callB call_len (by rfl) T.len (by decide +kernel) (pa_cons (pv 0) pa_nil)) pa_nil)))) pa_nil)) (pg_name (i := 2) sc_law.nd rfl (Or.inl rfl)) (pss_cons (ps_set (i := 3) sc_law.nd rfl (Or.inl rfl) (pe_cG c_lfew hg hr (by decide) pass0 (pa_cons (pv 1) pa_nil)))
      (pss_cons (ps_set (i := 4) sc_law.nd rfl (Or.inl rfl) (pe_cG c_lword hg hr (by decide) pass0 (pa_cons (pv 1) (pa_cons (pv 3) (pa_cons pe_int (pa_cons pe_int pa_nil))))))
      (pss_cons (ps_set (i := 5) sc_law.nd rfl (Or.inl rfl) (pe_cG c_ldraw hg hr (by decide) pass0 (pa_cons (pv 1) (pa_cons (pe_op op_add (pe_callB call_len (by rfl) T.len (by decide +kernel) (pa_cons (pv 4) pa_nil)) pe_int) pa_nil))))
      (pss_cons (ps_set (i := 6) sc_law.nd rfl (Or.inl rfl) (pe_lst (pa_cons (pe_cG c_lword hg hr (by decide) pass0 (pa_cons (pv 1) (pa_cons (pv 3) (pa_cons pe_int (pa_cons pe_int pa_nil))))) (pa_cons (pe_slice sl_str (pv 4) (po_some (pv 5)) (po_some (pe_op op_add (pe_op op_add (pv 5) pe_int) (pe_cG c_ldraw hg hr (by decide) pass0 (pa_cons (pv 1) (pa_cons pe_int pa_nil)))))) (pa_cons (pv 4) (pa_cons (pe_op op_add_str (pv 4) pe_str) pa_nil))))))
      (pss_cons (ps_expr (pe_bm PySem.F.plainAttrs_list PySem.F.slot_list_append PySem.F.type_list_append mt_append (pv 6) (pa_cons (pe_op op_mulS (pe_cG c_lpick hg hr (by decide) pass0 (pa_cons (pv 1) (pa_cons (pv 3) pa_nil))) pe_int) pa_nil)))
      (pss_cons (ps_set (i := 7) sc_law.nd rfl (Or.inl rfl) (pe_cG c_lpick hg hr (by decide) pass0 (pa_cons (pv 1) (pa_cons (pe_lc (own := [("_law_one", 8)]) (g := gName 8) rfl sc_law.nd (pi_list (pv 6)) (blkOk_by (own := [("_law_one", 8)]) (N := ["_law_script", "_law_pen_here", "_law_turn", "_law_signs_here", "_law_body", "_law_at", "_law_some", "_law_goal", "_law_one", "_law_told", "_law_due"]) (sc := defScope s_law) (by decide +kernel)) (fun _ _ _ _ _ => (pg_name (i := 8) sc_law.nd rfl (Or.inl rfl))) (fun _ _ _ _ _ => (pts_one (pt_cmpR op_ne (pv 8) pe_str (nomark _)))) (fun _ _ _ _ _ => (pv 8))) pa_nil))))
      (pss_cons (ps_par (i := 9) (j := 10) (by rfl) sc_law.nd rfl rfl (by decide) rfl rfl (pa_cons (pe_cG c_places hg hr (by decide) pass0 (pa_cons (pv 4) (pa_cons (pv 7) pa_nil))) (pa_cons (pe_cG c_lplaces hg hr (by decide) pass0 (pa_cons (pv 4) (pa_cons (pv 7) pa_nil))) pa_nil)) (by rfl))
      (pss_cons (ps_if (PW.pt (pw_or (pt_cmpR op_ne (pe_callB (Vk.call_reprD hg hu64) (by rfl) T.repr (by decide +kernel) (pa_cons (pv 9) pa_nil)) (pe_callB (Vk.call_reprD hg hu64) (by rfl) T.repr (by decide +kernel) (pa_cons (pv 10) pa_nil)) (nomark _)) (pw_or1 (pt_cmpR op_ne (pe_callB (Vk.call_reprD hg hu64) (by rfl) T.repr (by decide +kernel) (pa_cons (pe_kw k_places hg hr (by decide) pass0 (pk_cons (pv 7) (pk_cons (pv 4) pk_nil))) pa_nil)) (pe_callB (Vk.call_reprD hg hu64) (by rfl) T.repr (by decide +kernel) (pa_cons (pv 10) pa_nil)) (nomark _))))) (pss_one (ps_ret pe_bl)) pss_nil)
      (pss_cons (ps_expr (pe_bm PySem.F.plainAttrs_list PySem.F.slot_list_append PySem.F.type_list_append mt_append (pv 9) (pa_cons pe_int pa_nil)))
      (pss_cons (ps_expr (pe_bm0 PySem.F.plainAttrs_list PySem.F.slot_list_reverse PySem.F.type_list_reverse mt_reverse (pv 9) ))
      (pss_one (ps_if (pt_cmpR (op_neD hu64) (pe_cG c_places hg hr (by decide) pass0 (pa_cons (pv 4) (pa_cons (pv 7) pa_nil))) (pv 10) (nomark _)) (pss_one (ps_ret pe_bl)) pss_nil)))))))))))))
      (pss_one (ps_ret (pe_and (pe_cmpR (op_eqD hu64) (pe_cG c_places hg hr (by decide) pass0 (pa_cons pe_str (pa_cons pe_str pa_nil))) (pe_lst (pa_cons pe_int (pa_cons pe_int pa_nil))) (nomark _)) (pe_one (pe_cmpR (op_eqD hu64) (pe_cG c_places hg hr (by decide) pass0 (pa_cons pe_str (pa_cons pe_str pa_nil))) (pe_lst pa_nil) (nomark _)))))))), ?_⟩
    refine ⟨_, rfl, a, ns, rfl, hS, fun p pc H1 hp0 P0 s1 => ?_⟩
    refine ⟨_, rfl, _, _, rfl, .inl ⟨_, s1.seq hS, rfl⟩, _, _, rfl, _, _, rfl, rfl, _, rfl, ?_, ?_, ?_⟩
    · split <;> omega
    · split <;> omega
    refine for_range (lo := 0) (fun i σ H' => ∃ o2 o3 o4 o5 o6 o7 o8 o9 o10 : Option V, σ = [some (.ref a), some (.ref p), o2, o3, o4, o5, o6, o7, o8, o9, o10] ∧ Pen H' p pc (100 * i)) ?_ ?_ ?_
    · exact ⟨_, _, _, _, _, _, _, _, _, rfl, P0⟩
    · rintro i σ H2 hi ⟨o2, o3, o4, o5, o6, o7, o8, o9, o10, rfl, P2⟩
      have hi24 : i ≤ 24 := by
        have : i < 25 := by
          revert hi
          split <;> omega
        omega
      refine ⟨_, rfl, p, pc, 100 * i, rfl, P2, by omega, fun sg H3 fsg P3 x3 => ?_⟩
      refine ⟨_, rfl, _, rfl, p, pc, sg, 0, 30, 100 * i + 4, rfl, by decide, by decide, fsg.1, Nat.le_trans fsg.2.1 (by decide), P3, by omega, fun bd H4 wbd P4 x4 => ?_⟩
      have hbd : bd.length ≤ 30 := wbd.2.1
      have hbd24 : bd.length ≤ sizeLine := Nat.le_trans hbd (by decide)
      refine ⟨_, rfl, _, rfl, _, _, rfl, ⟨hbd24, rfl⟩, _, _, rfl, rfl, p, pc, _, 100 * i + 4 + 30 + 1, rfl, by omega, by omega, P4, by omega, fun at0 H5 a0 a1 P5 x5 => ?_⟩
      refine ⟨_, rfl, _, rfl, p, pc, sg, 1, 3, 100 * i + 36, rfl, by decide, by decide, fsg.1, Nat.le_trans fsg.2.1 (by decide), P5, by omega, fun w1 H6 ww1 P6 x6 => ?_⟩
      refine ⟨_, rfl, _, rfl, _, rfl, _, rfl, _, _, rfl, rfl, _, rfl, p, pc, 5, 100 * i + 40, rfl, by decide, by decide, P6, by omega, fun e0 H7 e0a e0b P7 x7 => ?_⟩
      refine ⟨_, _, rfl, rfl, _, rfl, bd, rfl, hbd24, ?_⟩
      have hcut : (cutS bd (some at0) (some (at0 + 1 + e0))).length ≤ 30 := Nat.le_trans (cutS_length _ _ _) hbd
      generalize cutS bd (some at0) (some (at0 + 1 + e0)) = ct at hcut
      have hbda : (bd ++ Str.ofString "a").length = bd.length + 1 := strLen_append _ _
      refine ⟨_, rfl, _, rfl, _, _, rfl, rfl, by rw [show (Str.ofString "a").length = 1 from rfl]; exact Nat.le_trans (Nat.add_le_add_right hbd 1) (by decide), ?_⟩
      refine ⟨by show 4 ≤ sizeLine; decide, fun b hb => ?_⟩
      have P8 := P7.new (o := .lst [.str w1, .str ct, .str bd, .str (bd ++ Str.ofString "a")]) hb
      refine ⟨_, rfl, .inl ⟨rfl, _, SqL.of upd_same⟩, _, rfl, _, rfl, p, pc, _, _, 100 * i + 41, rfl, .str sg (Nat.le_trans fsg.2.1 (by decide)), opts_ne fsg.1, opts_le (Nat.le_trans fsg.2.1 (by decide)), P8, by omega, fun v H9 hv P9 x9 => ?_⟩
      obtain ⟨cv, rfl, hcv⟩ := ones_of hv
      have hb9 := P8.keepI x9 upd_same
      refine ⟨_, _, rfl, rfl, ⟨by decide, by decide, by show 1 * 2 ≤ 10000000; decide, by show 1 ≤ 10000000; decide⟩, b, _, _, rfl, rfl, hb9, by show 4 < sizeLine; decide, ?_⟩
      have hmul : (Txt.mul (⟨#[cv]⟩ : Str) 2).length = 2 := mul_len _ _ (by decide)
      generalize Txt.mul (⟨#[cv]⟩ : Str) 2 = ml at hmul
      have P10 := P9.set (o := .lst ([.str w1, .str ct, .str bd, .str (bd ++ Str.ofString "a")] ++ [.str ml])) (P9.ne hb9) (P7.apart hb).2
      generalize hH10 : upd H9 b (.lst ([.str w1, .str ct, .str bd, .str (bd ++ Str.ofString "a")] ++ [.str ml])) = H10 at P10
      have hb10 : H10 b = some (.lst ([w1, ct, bd, bd ++ Str.ofString "a", ml].map V.str)) := by rw [← hH10]; exact upd_same
      have hall : ∀ z ∈ [w1, ct, bd, bd ++ Str.ofString "a", ml], z.length ≤ 100 := by
        intro z hz
        have w3 := ww1.2.1
        simp only [List.mem_cons, List.not_mem_nil, or_false] at hz
        rcases hz with rfl | rfl | rfl | rfl | rfl <;> omega
      have hw1 : 1 ≤ w1.length := ww1.1
      generalize hys : [w1, ct, bd, bd ++ Str.ofString "a", ml] = ys at hb10 hall
      have hy0 : ys[0]? = some w1 := by rw [← hys]; rfl
      have hyl : ys.length = 5 := by rw [← hys]; rfl
      -- goal
      refine ⟨_, rfl, _, rfl, b, rfl, ⟨_, SqL.of hb10⟩, fun D hD => ?_⟩
      refine lc_list (K := K) (a := b) (xs := ys.map V.str) (fun n H' => ∃ zs : List Str, H' D = some (.lst (zs.map V.str)) ∧ zs.length ≤ n ∧ (∀ z ∈ zs, z.length ≤ 100) ∧ (1 ≤ n → zs ≠ []) ∧ Same H10 H') ?_ ?_ ?_ ?_
      · exact ⟨[], upd_same, Nat.le_refl _, fun z hz => absurd hz List.not_mem_nil, fun h => by omega, same_new hD⟩
      · rintro n H' _ ⟨_, _, _, _, _, sm⟩
        exact sm.seq (SqL.of hb10)
      · rintro n v H' hv ⟨zs, hDz, hzl, hzm, hzn, sm⟩
        obtain ⟨y, hy, rfl⟩ : ∃ y, ys[n]? = some y ∧ v = V.str y := by
          rw [List.getElem?_map] at hv
          cases q : ys[n]? with
          | none => rw [q] at hv; cases hv
          | some y => rw [q] at hv; exact ⟨y, rfl, (Option.some.inj hv).symm⟩
        have hn5 : n < 5 := by
          have := (List.getElem?_eq_some_iff.mp hy).1
          omega
        refine ⟨rfl, _, rfl, rfl, _, rfl, ?_⟩
        refine ite2 (fun hne => ?_) (fun hne => ?_)
        · refine ⟨_, rfl, _, hDz, by rw [List.length_map]; exact Nat.lt_of_le_of_lt hzl (Nat.lt_trans hn5 (by decide)), zs ++ [y], ?_, ?_, ?_, fun _ q => ?_, ?_⟩
          · rw [upd_same, List.map_append]
            rfl
          · rw [List.length_append]
            exact Nat.add_le_add_right hzl 1
          · intro z hz
            rcases List.mem_append.mp hz with hz | hz
            · exact hzm z hz
            · rw [List.mem_singleton.mp hz]
              exact hall y (List.mem_of_getElem? hy)
          · simp at q
          · intro c o e
            exact (upd_ne (fun q => by rw [q, hD] at e; cases e)).trans (sm c o e)
        · refine ⟨zs, hDz, Nat.le_succ_of_le hzl, hzm, fun _ => ?_, sm⟩
          by_cases h0 : n = 0
          · subst h0
            rw [hy0] at hy
            cases hy
            refine absurd ?_ hne
            have : ¬ V.str w1 = V.str (Str.ofString "") := fun e => by
              rw [V.str.inj e] at hw1
              exact absurd hw1 (by decide)
            rw [decide_eq_false this]
            rfl
          · exact hzn (by omega)
      · rintro H11 ⟨zs, hDz, hzl, hzm, hzn, sm⟩
        have P11 := P10.stay sm
        have zne : zs ≠ [] := hzn (by rw [List.length_map, hyl]; decide)
        rw [List.length_map, hyl] at hzl
        refine ⟨p, pc, _, _, 100 * i + 42, rfl, .lst (SqL.of hDz), fun q => zne (List.map_eq_nil_iff.mp q), by rw [List.length_map]; omega, P11, by omega, fun v H12 hv P12 x12 => ?_⟩
        obtain ⟨gl, hgl, rfl⟩ : ∃ z, z ∈ zs ∧ v = V.str z := by
          obtain ⟨z, hz, e⟩ := List.mem_map.mp hv
          exact ⟨z, hz, e.symm⟩
        have hg100 := hzm gl hgl
        -- told, due
        refine ⟨_, rfl, _, rfl, bd, gl, rfl, by omega, by omega, fun t1 H13 ht1 htl s13 => ?_⟩
        refine ⟨_, rfl, _, rfl, bd, gl, rfl, by omega, by omega, fun t2 H14 ht2 hdu s14 => ?_⟩
        have P14 := (P12.stay s13).stay s14
        have hsh := plc_showy (x := bd) (w := gl) (by omega)
        have htl14 := s14 _ _ htl
        refine ⟨_, _, rfl, ?_⟩
        have shw : ∀ {b : Addr} {G : Hp}, G b = some (.lst ((plcI bd gl).map V.int)) → Dp K G (.ref b) (.list ((plcI bd gl).map PyData.int)) := fun h => .lst (SqL.of h) (ints_dp _)
        have fits : (PyData.list ((plcI bd gl).map PyData.int)).shown.length ≤ sizeLine := Nat.le_trans hsh.ln (by decide)
        refine ⟨_, rfl, _, _, rfl, shw htl14, hsh.sh, hsh.nd, Nat.le_trans hsh.dp (by decide), fits, ?_⟩
        refine ⟨_, rfl, _, _, rfl, shw hdu, hsh.sh, hsh.nd, Nat.le_trans hsh.dp (by decide), fits, rfl, _, rfl, ?_⟩
        refine iteNS rfl ?_
        refine ⟨_, rfl, _, rfl, rfl, bd, gl, rfl, by omega, by omega, fun t3 H15 ht3 htr s15 => ?_⟩
        have htl15 := s15 _ _ htl14
        have hdu15 := s15 _ _ hdu
        refine ⟨_, _, rfl, shw htr, hsh.sh, hsh.nd, Nat.le_trans hsh.dp (by decide), fits, ?_⟩
        refine ⟨_, rfl, _, _, rfl, shw hdu15, hsh.sh, hsh.nd, Nat.le_trans hsh.dp (by decide), fits, rfl, _, rfl, ?_⟩
        refine iteNS rfl ?_
        have P15 := P14.stay s15
        have c1 := P12.apart ht1
        have l1 : ((plcI bd gl).map V.int).length ≤ 31 := by
          rw [List.length_map]
          unfold plcI
          rw [List.length_map]
          exact Nat.le_trans (plc_len bd gl) (by omega)
        refine ⟨_, rfl, .inl ⟨rfl, _, SqL.of htl15⟩, t1, _, _, rfl, rfl, htl15, Nat.lt_of_le_of_lt l1 (by decide), ?_⟩
        refine ⟨_, rfl, .inl ⟨rfl, _, SqL.of upd_same⟩, t1, _, rfl, rfl, upd_same, ?_⟩
        rw [upd_upd]
        have n12 : t2 ≠ t1 := (ne_of_none htl ht2).symm
        generalize hH16 : upd H15 t1 (.lst ((plcI bd gl).map V.int ++ [V.int 7]).reverse) = H16
        have hdu16 : H16 t2 = some (.lst ((plcI bd gl).map V.int)) := by rw [← hH16]; exact (upd_ne n12).trans hdu15
        have P16 : Pen H16 p pc (100 * i + 42 + 1) := by rw [← hH16]; exact P15.set c1.1 c1.2
        refine ⟨_, rfl, _, rfl, bd, gl, rfl, by omega, by omega, fun t4 H17 ht4 hte s17 => ?_⟩
        refine ⟨_, rfl, _, _, shw hte, shw (s17 _ _ hdu16), ints_shaped _, ints_shaped _, _, rfl, ?_⟩
        rw [SeqAt.eqv_refl _ (ints_can _)]
        refine iteF ?_
        exact ⟨_, _, _, _, _, _, _, _, _, rfl, (P16.stay s17).mono (by omega)⟩
    · rintro σ H2 ⟨o2, o3, o4, o5, o6, o7, o8, o9, o10, rfl, P2⟩
      refine ⟨Str.ofString "aaa", Str.ofString "aa", rfl, by decide, by decide, fun t1 H3 _ h3 s3 => ?_⟩
      refine ⟨by decide, fun q hq => ?_⟩
      refine ⟨_, _, .lst (SqL.of (up_new h3 hq)) (ints_dp _), .lst (SqL.of upd_same) (ints_dp [0, 1]), ints_shaped _, ints_shaped [0, 1], ?_⟩
      rw [show plcI (Str.ofString "aaa") (Str.ofString "aa") = [0, 1] by decide +kernel, SeqAt.eqv_refl _ (ints_can [0, 1])]
      refine ⟨_, rfl, iteT ?_⟩
      refine ⟨Str.ofString "", Str.ofString "a", rfl, by decide, by decide, fun t2 H4 _ h4 s4 => ?_⟩
      refine ⟨by decide, fun q2 hq2 => ?_⟩
      refine ⟨_, _, .lst (SqL.of (up_new h4 hq2)) (ints_dp _), .lst (SqL.of upd_same) (ints_dp []), ints_shaped _, ints_shaped [], ?_⟩
      rw [show plcI (Str.ofString "") (Str.ofString "a") = [] by decide +kernel, SeqAt.eqv_refl _ (ints_can [])]
      exact k _

end
theorem all {l : PySem.W.OpenLaw} {w : World} {K : PySem.W.Frag} {h : Heap} {mg : Str → Option Value} {fa : Addr} (X : K.In h) (G : h.Ns mainGlobals mg) (hfa : mg "law" = some (.ref fa))
    (d_ldraw : ∃ (f : Addr) (fd : FuncData), At K "_law_draw" s_ldraw f fd)
    (d_lpen : ∃ (f : Addr) (fd : FuncData), At K "_law_pen" s_lpen f fd)
    (d_lpick : ∃ (f : Addr) (fd : FuncData), At K "_law_pick" s_lpick f fd)
    (d_lsigns : ∃ (f : Addr) (fd : FuncData), At K "_law_signs" s_lsigns f fd)
    (d_lfew : ∃ (f : Addr) (fd : FuncData), At K "_law_few" s_lfew f fd)
    (d_lword : ∃ (f : Addr) (fd : FuncData), At K "_law_word" s_lword f fd)
    (d_places : ∃ (f : Addr) (fd : FuncData), At K "places" s_places f fd)
    (d_lplaces : ∃ (f : Addr) (fd : FuncData), At K "_law_places" s_lplaces f fd)
    (d_law : ∃ (f : Addr) (fd : FuncData), At K "law" s_law f fd)
    (z_len : PySem.W.nsIn K mainGlobals "len" = some none)
    (z_list : PySem.W.nsIn K mainGlobals "list" = some none)
    (z_int : PySem.W.nsIn K mainGlobals "int" = some none)
    (z_abs : PySem.W.nsIn K mainGlobals "abs" = some none)
    (z_range : PySem.W.nsIn K mainGlobals "range" = some none)
    (z_min : PySem.W.nsIn K mainGlobals "min" = some none)
    (z_repr : PySem.W.nsIn K mainGlobals "repr" = some none)
    : ∃ fd : FuncData, (∀ (s : Shared) (v : Value), BindsTo s fd ⟨[v], []⟩ [("_law_script", v)]) ∧ ∀ base : Heap, K.In base → base.Ns mainGlobals mg → FnG l.prog w K mg base CX0 5 fa fd ["_law_script"] (spLaw K) := by
  obtain ⟨f_ldraw, fd_ldraw, A_ldraw⟩ := d_ldraw
  have m_ldraw := PySem.W.mg_of X G A_ldraw.ns
  obtain ⟨f_lpen, fd_lpen, A_lpen⟩ := d_lpen
  have m_lpen := PySem.W.mg_of X G A_lpen.ns
  obtain ⟨f_lpick, fd_lpick, A_lpick⟩ := d_lpick
  have m_lpick := PySem.W.mg_of X G A_lpick.ns
  obtain ⟨f_lsigns, fd_lsigns, A_lsigns⟩ := d_lsigns
  have m_lsigns := PySem.W.mg_of X G A_lsigns.ns
  obtain ⟨f_lfew, fd_lfew, A_lfew⟩ := d_lfew
  have m_lfew := PySem.W.mg_of X G A_lfew.ns
  obtain ⟨f_lword, fd_lword, A_lword⟩ := d_lword
  have m_lword := PySem.W.mg_of X G A_lword.ns
  obtain ⟨f_places, fd_places, A_places⟩ := d_places
  have m_places := PySem.W.mg_of X G A_places.ns
  obtain ⟨f_lplaces, fd_lplaces, A_lplaces⟩ := d_lplaces
  have m_lplaces := PySem.W.mg_of X G A_lplaces.ns
  obtain ⟨f_law, fd_law, A_law⟩ := d_law
  have m_law := PySem.W.mg_of X G A_law.ns
  have e := hfa.symm.trans m_law
  cases e
  have T : Txt mg := ⟨PySem.W.mg_none_of X G z_len, PySem.W.mg_none_of X G z_list, PySem.W.mg_none_of X G z_int, PySem.W.mg_none_of X G z_abs, PySem.W.mg_none_of X G z_range, PySem.W.mg_none_of X G z_min, PySem.W.mg_none_of X G z_repr⟩
  have bd_ldraw : Binds K fd_ldraw ["_law_pen_here", "_law_many"] [] := A_ldraw.fn.binds (ps := ["_law_pen_here", "_law_many"]) fun _ _ _ _ _ _ us hl => match us, hl with | [_, _], _ => rfl
  have bd_lpen : Binds K fd_lpen ["_law_script"] [] := A_lpen.fn.binds (ps := ["_law_script"]) fun _ _ _ _ _ _ us hl => match us, hl with | [_], _ => rfl
  have bd_lpick : Binds K fd_lpick ["_law_pen_here", "_law_options"] [] := A_lpick.fn.binds (ps := ["_law_pen_here", "_law_options"]) fun _ _ _ _ _ _ us hl => match us, hl with | [_, _], _ => rfl
  have bd_lsigns : Binds K fd_lsigns [] [] := A_lsigns.fn.binds (ps := []) fun _ _ _ _ _ _ us hl => match us, hl with | [], _ => rfl
  have bd_lfew : Binds K fd_lfew ["_law_pen_here"] [] := A_lfew.fn.binds (ps := ["_law_pen_here"]) fun _ _ _ _ _ _ us hl => match us, hl with | [_], _ => rfl
  have bd_lword : Binds K fd_lword ["_law_pen_here", "_law_signs_here", "_law_least", "_law_most_letters"] [] := A_lword.fn.binds (ps := ["_law_pen_here", "_law_signs_here", "_law_least", "_law_most_letters"]) fun _ _ _ _ _ _ us hl => match us, hl with | [_, _, _, _], _ => rfl
  have bd_places : Binds K fd_places ["text", "word"] [] := A_places.fn.binds (ps := ["text", "word"]) fun _ _ _ _ _ _ us hl => match us, hl with | [_, _], _ => rfl
  have bd_lplaces : Binds K fd_lplaces ["_law_text_here", "_law_was"] [] := A_lplaces.fn.binds (ps := ["_law_text_here", "_law_was"]) fun _ _ _ _ _ _ us hl => match us, hl with | [_, _], _ => rfl
  have bd_law : Binds K fd_law ["_law_script"] [] := A_law.fn.binds (ps := ["_law_script"]) fun _ _ _ _ _ _ us hl => match us, hl with | [_], _ => rfl
  refine ⟨fd_law, fun s v => A_law.fn.binds1 rfl s v, fun base _ _ => ?_⟩
  have c_ldraw : CalG l.prog w K mg base CX0 1 "_law_draw" spDraw := ⟨f_ldraw, fd_ldraw, _, b_ldraw A_ldraw.fn T, m_ldraw, A_ldraw.fn.kp, bd_ldraw⟩
  have c_lpen : CalG l.prog w K mg base CX0 1 "_law_pen" (spPen K) := ⟨f_lpen, fd_lpen, _, b_lpen A_lpen.fn T, m_lpen, A_lpen.fn.kp, bd_lpen⟩
  have c_lpick : CalG l.prog w K mg base CX0 2 "_law_pick" (spPick K) := ⟨f_lpick, fd_lpick, _, b_lpick A_lpick.fn T c_ldraw, m_lpick, A_lpick.fn.kp, bd_lpick⟩
  have c_lsigns : CalG l.prog w K mg base CX0 1 "_law_signs" spSigns := ⟨f_lsigns, fd_lsigns, _, b_lsigns A_lsigns.fn T, m_lsigns, A_lsigns.fn.kp, bd_lsigns⟩
  have t_signs : FnT l.prog w K mg base 1 "_law_signs" letS := okT A_lsigns.fn sc_lsigns m_lsigns bd_lsigns rfl
  have c_lfew : CalG l.prog w K mg base CX0 3 "_law_few" spFew := ⟨f_lfew, fd_lfew, _, b_lfew A_lfew.fn T c_lpick t_signs, m_lfew, A_lfew.fn.kp, bd_lfew⟩
  have c_lword : CalG l.prog w K mg base CX0 3 "_law_word" spWord := ⟨f_lword, fd_lword, _, b_lword A_lword.fn T c_ldraw c_lpick, m_lword, A_lword.fn.kp, bd_lword⟩
  have c_places : CalG l.prog w K mg base CX0 1 "places" (spPlaces K) := ⟨f_places, fd_places, _, b_places A_places.fn T, m_places, A_places.fn.kp, bd_places⟩
  have c_lplaces : CalG l.prog w K mg base CX0 1 "_law_places" (spPlaces K) := ⟨f_lplaces, fd_lplaces, _, b_lplaces A_lplaces.fn T, m_lplaces, A_lplaces.fn.kp, bd_lplaces⟩
  have k_places : CalK l.prog w K mg base CX0 1 "places" (spPlaces K) ["word", "text"] List.reverse := ⟨f_places, fd_places, ["text", "word"], b_places A_places.fn T, m_places, A_places.fn.kp, A_places.fn.kwb fun _ _ _ _ _ _ us hl => match us, hl with | [_, _], _ => rfl, fun _ _ r _ => vals_rev r⟩
  exact b_law A_law.fn T c_lpen c_lfew c_lword c_ldraw c_lpick c_places c_lplaces k_places
end Vk
open PySem PySem.W PyProof.Rows
set_option maxRecDepth 100000 in
set_option maxHeartbeats 0 in
theorem PySem.Challenge.cw_anchoredits_k03_places_of_words_holds : PySem.Challenge.rw_anchoredits_k03_places_of_words.Holds := by
  w_on; o_law; k_head; (case hw => w_witness2)
  k_fill
  refine Vk.walkG (l := PySem.Challenge.rw_anchoredits_k03_places_of_words) (n := 63) (k := 5) (x := "_law_script") (CX := L2.CX0) (sp := Vk.spLaw) rfl (by decide) rfl ⟨rfl, by decide, by decide⟩ (fun w h Y => PySem.W.kIn_of Y) ?F (fun K H a ns hl _ hS => ⟨a, ns, rfl, hS, hl, fun _ => rfl⟩) (fun _ _ _ _ z => z)
  case F =>
    intro w mg fa h KX G hmg
    refine' Vk.all KX G hmg ?d_ldraw ?d_lpen ?d_lpick ?d_lsigns ?d_lfew ?d_lword ?d_places ?d_lplaces ?d_law ?z_len ?z_list ?z_int ?z_abs ?z_range ?z_min ?z_repr
    (case d_ldraw => (refine' ⟨_, _, Vk.at_mk ?a ?l ?c ?k⟩; (case a => k_is); (case l => k_is); (case c => k_is); (case k => k_is)))
    (case d_lpen => (refine' ⟨_, _, Vk.at_mk ?a ?l ?c ?k⟩; (case a => k_is); (case l => k_is); (case c => k_is); (case k => k_is)))
    (case d_lpick => (refine' ⟨_, _, Vk.at_mk ?a ?l ?c ?k⟩; (case a => k_is); (case l => k_is); (case c => k_is); (case k => k_is)))
    (case d_lsigns => (refine' ⟨_, _, Vk.at_mk ?a ?l ?c ?k⟩; (case a => k_is); (case l => k_is); (case c => k_is); (case k => k_is)))
    (case d_lfew => (refine' ⟨_, _, Vk.at_mk ?a ?l ?c ?k⟩; (case a => k_is); (case l => k_is); (case c => k_is); (case k => k_is)))
    (case d_lword => (refine' ⟨_, _, Vk.at_mk ?a ?l ?c ?k⟩; (case a => k_is); (case l => k_is); (case c => k_is); (case k => k_is)))
    (case d_places => (refine' ⟨_, _, Vk.at_mk ?a ?l ?c ?k⟩; (case a => k_is); (case l => k_is); (case c => k_is); (case k => k_is)))
    (case d_lplaces => (refine' ⟨_, _, Vk.at_mk ?a ?l ?c ?k⟩; (case a => k_is); (case l => k_is); (case c => k_is); (case k => k_is)))
    (case d_law => (refine' ⟨_, _, Vk.at_mk ?a ?l ?c ?k⟩; (case a => k_is); (case l => k_is); (case c => k_is); (case k => k_is)))
    (case z_len => k_is)
    (case z_list => k_is)
    (case z_int => k_is)
    (case z_abs => k_is)
    (case z_range => k_is)
    (case z_min => k_is)
    (case z_repr => k_is)
#print axioms PySem.Challenge.cw_anchoredits_k03_places_of_words_holds
