import PyProof.Rows.All
import Wide.All
import OpenK.AllK
import Wide.FinOn
import HandS.Base
import HandS.Call
import HandS.List
import HandS.Comp
import HandS.Ends
import HandS.Text
import HandS.Words
import HandS.StrMore
import HandS.ForMost
import HandS.Codes
import HandS.Replace
import HandS.FStrTup
import PyProof.StrBlock2
import HandS.Exc
import HandS.ExcInit
import HandS.ExcIs
import HandS.ExcField
import KE.KExcIs
import HandS.IsInst
import HandS.Zip
import HandS.Nested
import HandS.OwnEq
import HandS.More
import HandS.Star
import HandS.ClsMeth
import HandS.Property
import HandS.Iter
import HandS.Zip0
import KE.GoesMore
import KE.GoesEnum
import HandS.NoneIn
import PyProof.StrLawsRepr
import HandS.EndTab
import HandS.ListEq
import KE.LtData
import PyProof.EnumMake
import PySem.Challenge.RW_anchoredits_k60_whole_far_papers
import HandS.Flt
import HandS.FltList
import HandS.Conv
import HandS.Rev
import KE.KRevSl
import HandS.Style
import KE.DataMinKey
import HandS.SortKw
import KE.DataMinMax
import KE.KTryMore
import HandS.TupAny
import HandS.DictComp
import HandS.RevRange
import PyProof.NeKinds
import PyProof.CallStr
import PyProof.Rows.IntBool
import KE.OsRunLaw
set_option Elab.async false
set_option maxRecDepth 100000
set_option linter.all false
namespace Vk
open PySem PySem.Spec PyProof.Rows L2
/-! ## defs that may show values: no guard is under way -/
structure FnG (P : Program) (w : World) (K : PySem.W.Frag) (mg : Str → Option Value) (base : Heap) (CX : CXT) (k : Nat) (f : Addr) (fd : FuncData) (ps : List Str) (sp : Sp) : Prop where
  len : ∀ vs H Q E, sp vs H Q E → vs.length = ps.length
  run : ∀ (A : Around) (outer : List Env) (s : Shared) (H : Hp) (args : Args) (us : List Value) (vs : List V) (Q : VK) (E : XK), A.guards = some [] → Room k A → Env0 P w K mg base A outer s H → BindsTo s fd args (ps.zip us) → Vals vs us → sp vs H Q E →
    codeAny (model P w) A (.call (.ref f) args) (CR CX outer P w H s Q E) s
theorem FnG.of {P : Program} {w : World} {K : PySem.W.Frag} {mg : Str → Option Value} {base : Heap} {CX : CXT} {k : Nat} {f : Addr} {fd : FuncData} {ps : List Str} {sp : Sp} (F : FnOk P w K mg base CX k f fd ps sp) : FnG P w K mg base CX k f fd ps sp :=
  ⟨F.len, fun A outer s H args us vs Q E _ => F.run A outer s H args us vs Q E⟩
section
variable {P : Program} {w : World} {K : PySem.W.Frag} {mg : Str → Option Value} {base : Heap}
theorem okG {CX : CXT} {x qual : Str} {st : Stmt} {f : Addr} {fd : FuncData} {N ps : List Str} {k : Nat} {sp : Sp} (F : Fun K x qual st f fd) (S : FnScope N ps (defScope st)) (hlen : ∀ vs H Q E, sp vs H Q E → vs.length = ps.length)
    (hbody : ∀ (cdv : Value) (A : Around) (outer : List Env) (s : Shared) (H : Hp) (vs : List V) (Q : VK) (E : XK), A.guards = some [] → Room k (A.deeper (envOfC qual (defScope st) s.heap.objs.size f cdv)) → sp vs H Q E →
      ∃ t, PSs (cxOf CX P w K mg base N qual (defScope st) f cdv A outer s H E) (defBody st) t ∧ t { nx := fun _ H' => Q .non H', rt := Q } (start N vs) H) : FnG P w K mg base CX (k + 1) f fd ps sp := by
  obtain ⟨oc, od, kV, doc, pm, an, cdv, ct, osl, rfl, lk, hcd⟩ := F.ex
  refine ⟨hlen, fun A outer s H args us vs Q E hg hr e0 hb r hsp => ?_⟩
  have hvl := hlen _ _ _ _ hsp
  have KX := e0.mod.kin.keeps (fun b o e => (e0.bs b o e).1 : ∀ b o, base.get? b = some o → s.heap.get? b = some o)
  have noLim := e0.mod.nolimit.keeps (fun b o e => (e0.bs b o e).1 : ∀ b o, base.get? b = some o → s.heap.get? b = some o)
  have kinds : ∀ y ∈ ps.zip us, (defScope st).names.lookup y.1 = some .local ∨ ((defScope st).names.lookup y.1 = some .cell ∧ ((cellsFrom (s.heap.objs.size + 1) (defScope st).names []).lookup y.1).isSome = true) := by
    rintro ⟨n, v⟩ hy
    have hy1 := (List.of_mem_zip hy).1
    cases S.par n hy1 with
    | inl q => exact Or.inl q
    | inr q => exact Or.inr (And.intro q (PySem.W.cellsFrom_some _ _ _ (Or.inl q)))
  refine codeAny_call_function hr.depth (KX f _ lk) rfl S.co S.gen rfl (PySem.W.codeRec_of KX hcd) (hb _ _ _ _ (wpAny_newFunctionEnv_cells S.kind kinds fun env he s1 x => ?_))
  cases he
  refine And.intro (noLim.keeps x.toInCall.keep) (codeAny_func ?_)
  obtain ⟨t, ht, hq⟩ := hbody cdv A outer s H vs Q E hg (hr.deeper _) hsp
  have I0 := inv_start (CX := CX) (E := E) S hr.hd e0 hvl r x
  refine wpAny_mono (ht.run [] s1 (start N vs) H _ I0 hq) (fun fl s2 hs => ?_) (fun e s2 hs => hs)
  have close : ∀ {σ2 : L2.St} {H2 : Hp} {v : V} {u : Value}, Inv (cxOf CX P w K mg base N qual (defScope st) f cdv A outer s H E) [] σ2 H2 s2 → RelV v u → Q v H2 → CE outer P w H s Q u s2 := by
    intro σ2 H2 v u J rv q
    exact ⟨v, H2, And.intro J.os (And.intro J.bare (And.intro J.base (And.intro J.hok (And.intro rv q))))⟩
  match fl, hs with
  | .ret u, ⟨v, σ2, H2, J, rv, q⟩ => exact close J rv q
  | .next, ⟨σ2, H2, J, q⟩ => exact close (v := V.non) (u := Value.none) J rfl q
  | .brk, ⟨_, _, _, q⟩ => exact q.elim
  | .cont, ⟨_, _, _, q⟩ => exact q.elim
end
section
variable {P : Program} {w : World} {K : PySem.W.Frag} {mg : Str → Option Value} {base : Heap}
theorem okG0 {x qual : Str} {st : Stmt} {f : Addr} {fd : FuncData} {N ps : List Str} {k : Nat} {sp : Sp} (F : Fun K x qual st f fd) (S : FnScope N ps (defScope st)) (hlen : ∀ vs H Q E, sp vs H Q E → vs.length = ps.length)
    (hbody : ∀ (cdv : Value) (A : Around) (outer : List Env) (s : Shared) (H : Hp) (vs : List V) (Q : VK) (E : XK), A.guards = some [] → Room k (A.deeper (envOfC qual (defScope st) s.heap.objs.size f cdv)) → sp vs H Q E →
      ∃ t, PSs (cxOf CX0 P w K mg base N qual (defScope st) f cdv A outer s H E).nox (defBody st) t ∧ t { nx := fun _ H' => Q .non H', rt := Q } (start N vs) H) : FnG P w K mg base CX0 (k + 1) f fd ps sp :=
  okG F S hlen fun cdv A outer s H vs Q E hg hr hsp => match hbody cdv A outer s H vs Q E hg hr hsp with | ⟨t, h, q⟩ => ⟨t, h.nox, q⟩
end
/-- a def of the module by its name -/
structure CalG (P : Program) (w : World) (K : PySem.W.Frag) (mg : Str → Option Value) (base : Heap) (CX : CXT) (k : Nat) (x : Str) (sp : Sp) : Prop where
  ex : ∃ (f : Addr) (fd : FuncData) (ps : List Str), FnG P w K mg base CX k f fd ps sp ∧ mg x = some (.ref f) ∧ PySem.W.keepIn K (.ref f) = true ∧ Binds K fd ps []
section
variable {X : Cx} {CX : CXT} {j k : Nat} {f : Addr} {fd : FuncData} {ps : List Str} {sp : Sp} {E : XK} {x : Str} {p pos : Pos} {e : Expr} {es : List Expr} {t : TA}
theorem run_fnG {pins : List (Addr × Obj)} {σ : L2.St} {H : Hp} {s : Shared} {Q : VK} {us : List Value} {vs : List V} (F : FnG X.prog X.w X.K X.mg X.base CX k f fd ps sp) (hg : X.A.guards = some []) (hr : Room k X.A) (hb : Binds X.K fd ps []) (hx : Passes CX X E)
    (I : Inv X pins σ H s) (r : Vals vs us) (h : sp vs H Q E) : wpAny (model X.prog X.w) X.A (call (.ref f) us) (EP X pins σ Q) X.xe s := by
  have hl : us.length = ps.length := r.length.symm.trans (F.len _ _ _ _ h)
  have b := hb s us I.kIn ((congrArg List.length (List.append_nil us)).trans hl)
  rw [List.append_nil] at b
  refine wpAny_call (codeAny_mono (F.run X.A X.stack s H ⟨us, []⟩ us vs Q E hg hr I.env0 b r h) (fun res s2 hq => ?_))
  match res, hq with
  | .error e, hq => exact hx pins σ H s e s2 I hq
  | .ok (.ret u), hq => exact I.after hq
  | .ok .next, hq => exact hq.elim
  | .ok .brk, hq => exact hq.elim
  | .ok .cont, hq => exact hq.elim
theorem pe_cG (c : CalG X.prog X.w X.K X.mg X.base CX k x sp) (hg : X.A.guards = some []) (hr : Room j X.A) (hk : k ≤ j) (hx : Passes CX X E) (ha : PA X (e :: es) t) (gl : Gl X x := by rfl)
    (hdb : (x == ("__debug__" : Str)) = false := by decide) (he : starEach (e :: es) X.env = (false, eval e X.env) :: starEach es X.env := by rfl) (hpl : (backTo pos (starEach es X.env)).any (·.1) = false := by rfl) :
    PE X (.Call (.Name x p) (e :: es) [] pos) (tCall sp [] E t) := by
  obtain ⟨f, fd, ps, F, hm, kp, hb⟩ := c.ex
  refine ⟨fun pins s σ H Q I h => wpAny_Call_Name_kw (ld_glob I gl hm (PySem.W.callWith_K (h₀ := X.base) I.ok.mod.kin kp (thn (ha.run pos pins s σ H _ I h) fun us s1 hh => ?_) he hpl) hdb)⟩
  obtain ⟨vs, H1, I1, r, q⟩ := hh
  rw [List.append_nil] at q
  exact ⟨I1.kIn, run_fnG F hg (hr.mono hk) hb hx I1 r q⟩
end
/-! ## repr -/
section
variable {X : Cx}
theorem call_reprD (hg : X.A.guards = some []) (hu : X.A.units + 64 < cLine) : CallR X (.builtin "repr") (fun xs H Q => ∃ x d, xs = [x] ∧ Dp X.K H x d ∧ d.showable = true ∧ d.hasDict = false ∧ d.depth ≤ 60 ∧ d.shown.length ≤ sizeLine ∧ Q (.str d.shown) H) := by
  intro pins s σ H xs us Q I r h
  obtain ⟨x, d, rfl, hd, hs, hn, hdp, hz, q⟩ := h
  cases r with
  | cons r1 r2 =>
  cases r2
  obtain ⟨as, rd⟩ := Dp.reads I d x _ hd r1
  cases hd with
  | non => cases r1; exact PySem.P.repr_of_none ⟨V.str _, H, I.tok _, ⟨_, rfl⟩, q⟩
  | bl b => cases r1; exact PySem.P.repr_of_bool ⟨V.str _, H, I.tok _, ⟨_, rfl⟩, q⟩
  | int i =>
    obtain ⟨t, rfl⟩ := r1
    exact PySem.P.repr_of_int (of_decide_eq_true hs) ⟨V.str _, H, I.tok _, ⟨_, rfl⟩, q⟩
  | str z =>
    obtain ⟨t, rfl⟩ := r1
    exact PySem.P.repr_of_str ⟨V.str _, H, I.tok _, ⟨_, rfl⟩, q⟩ hz
  | lst h1 h2 =>
    cases r1
    exact repr_of_reads' rd hs (PyData.noDict_hsm hn) hg (by omega) (fun _ _ e => e) (fun h' u tk hk => ⟨V.str _, H, I.kept hk, ⟨u, rfl⟩, q⟩) hz
  | tup h1 h2 =>
    cases r1
    exact repr_of_reads' rd hs (PyData.noDict_hsm hn) hg (by omega) (fun _ _ e => e) (fun h' u tk hk => ⟨V.str _, H, I.kept hk, ⟨u, rfl⟩, q⟩) hz
end
/-! ## the law's own call -/
theorem lawG {P : Program} {w : World} {K : PySem.W.Frag} {mg mb : Str → Option Value} {CX : CXT} {k : Nat} {fa a : Addr} {fd : FuncData} {x : Str} {sp : Sp} {s1 : Shared} {vs : List Value} {ns : List Int}
    (KX : K.In s1.heap) (gns : s1.heap.Ns mainGlobals mg) (bns : s1.heap.Ns builtinsNs mb) (bbt : ∀ x : Str, x ≠ "__name__" → mb x = bootBuiltins x) (nolim : s1.heap.NoLimit) (gens0 : s1.gens = #[])
    (scr : s1.heap.get? a = some { cls := .type "list", data := .seq vs.toArray }) (hints : IntsAre vs ns) (short : ns.length ≤ sizeLine) (room : Room k callerA)
    (F : ∀ base : Heap, K.In base → base.Ns mainGlobals mg → FnG P w K mg base CX k fa fd [x] sp) (bind1 : ∀ (s : Shared) (u : Value), BindsTo s fd ⟨[u], []⟩ [(x, u)])
    (prom : ∀ H : Hp, Only H → SqL K H a (ns.map V.int) → sp [.ref a] H (fun v _ => v = .bl true) fun _ _ _ => False)
    (noX : ∀ H e s2, CX [] H s1 (fun _ _ _ => False) e s2 → False) :
    codeAny (model P w) callerA (.call (.ref fa) ⟨[.ref a], []⟩) (fun r s2 => r = .ok (.ret (.bool true)) ∧ OldK s1.heap s2.heap ∧ s2.os = s1.os ∧ AllBare s2.gens) s1 := by
  have rel := vals_ints hints
  have main : ∀ H : Hp, Only H → SqL K H a (ns.map V.int) → HOk P w H s1.heap → (∀ b u, H b = some u → b = a) → (∀ u, H a = some u → K.lookup a = none) →
      codeAny (model P w) callerA (.call (.ref fa) ⟨[.ref a], []⟩) (fun r s2 => r = .ok (.ret (.bool true)) ∧ OldK s1.heap s2.heap ∧ s2.os = s1.os ∧ AllBare s2.gens) s1 := by
    intro H only seq ok at1 un1
    have dictFree : ∀ {b : Addr} {o : Obj} {es : Array DictEntry} {ep : Nat}, s1.heap.get? b = some o → o.data = .dict es ep → H b = none := by
      intro b o es ep e d
      match q : H b with
      | none => rfl
      | some u =>
        have eb := at1 b u q
        subst eb
        rw [scr] at e
        cases e
        exact nomatch (show Data.seq vs.toArray _ = Data.dict es ep from d)
    have nsAt : ∀ {b : Addr} {m : Str → Option Value}, s1.heap.Ns b m → (hidT s1.heap H).Ns b m := by
      rintro b m ⟨o, es, ep, e, d, r⟩
      exact ⟨o, es, ep, hidT_get e (dictFree e d), d, r⟩
    have inK : K.In (hidT s1.heap H) := by
      intro b o e
      refine hidT_get (KX b o e) ?_
      match q : H b with
      | none => rfl
      | some u =>
        have eb := at1 b u q
        subst eb
        exact nomatch (un1 u q).symm.trans e
    have limAt : (hidT s1.heap H).NoLimit := match nolim with | ⟨mc, h1, h2⟩ => ⟨mc, nsAt h1, h2⟩
    have mod1 : Mod K mg (hidT s1.heap H) := ⟨inK, nsAt gns, ⟨mb, nsAt bns, bbt⟩, limAt⟩
    have start0 : Env0 P w K mg (hidT s1.heap H) callerA [] s1 H := ⟨rfl, mod1, fun b o => of_hidT, Nat.le_of_eq (hidT_size s1.heap H), trivial, (fun b hb => absurd hb (List.not_mem_nil (a := b))), ok, AllBare.of_eq gens0⟩
    refine codeAny_mono ((F _ inK (nsAt gns)).run callerA [] s1 H ⟨[.ref a], []⟩ [.ref a] [.ref a] _ _ rfl room start0 (bind1 s1 (.ref a)) (.cons rfl .nil) (prom H only seq)) ?_
    intro res s2 h
    match res, h with
    | .error e, h => exact (noX H e s2 h).elim
    | .ok .next, h => exact h.elim
    | .ok .brk, h => exact h.elim
    | .ok .cont, h => exact h.elim
    | .ok (.ret u), ⟨v, H2, os, bare, un, ok2, r2, (hv : v = .bl true)⟩ =>
      cases hv
      have hu : u = Value.bool true := r2
      cases hu
      refine ⟨rfl, OldK.of_keep ?_, os, bare⟩
      intro b o e
      match q : H b with
      | none => exact un.keep b o e q (fun z => nomatch z) (fun z => nomatch z)
      | some u =>
        cases only b with
        | inl z => exact nomatch z.symm.trans q
        | inr z =>
          obtain ⟨ob, xs, z⟩ := z
          have c1 := (ok b _ z).1
          have c2 := (ok2 b _ (un.frzs b ob _ z)).1
          exact c2.trans (c1.symm.trans e)
  match hk : K.lookup a with
  | some o =>
    have e := (KX a o hk).symm.trans scr
    cases e
    refine main (fun _ => none) (fun _ => Or.inl rfl) (Or.inr ⟨_, vs.toArray, _, hk, rfl, rfl, rfl, ?_, ?_⟩) (fun b u z => nomatch (show (none : Option HO) = some u from z)) (fun b u z => nomatch (show (none : Option HO) = some u from z)) (fun u z => nomatch (show (none : Option HO) = some u from z))
    · rw [List.size_toArray, hints.length]
      exact short
    · simpa using rel
  | none =>
    refine main (fun b => if b = a then some (.frz { cls := .type "list", data := .seq vs.toArray } (.lst (ns.map V.int))) else none) ?_ (Or.inl (Or.inr ⟨_, if_pos rfl⟩)) ?_ ?_ (fun _ _ => hk)
    · intro b
      by_cases hb : b = a
      · exact Or.inr ⟨_, _, if_pos hb⟩
      · exact Or.inl (if_neg hb)
    · intro b u z
      by_cases hb : b = a
      · subst hb
        have z1 := (if_pos rfl).symm.trans z
        cases z1
        exact ⟨scr, (by rw [List.length_map]; exact short), vs, _, rel, scr⟩
      · exact nomatch (if_neg hb).symm.trans z
    · intro b u z
      by_cases hb : b = a
      · exact hb
      · exact nomatch (if_neg hb).symm.trans z
end Vk
set_option Elab.async false
set_option maxRecDepth 100000
set_option linter.all false
namespace Vk
open PySem PySem.Spec PyProof.Rows L2
/-! ## what stays -/
/-- all that was tracked stays, but what stands at p -/
def Ext (p : Addr) (H H' : Hp) : Prop := ∀ b o, H b = some o → b ≠ p → H' b = some o
theorem Ext.rfl {p : Addr} {H : Hp} : Ext p H H := fun _ _ h _ => h
theorem Ext.trans {p : Addr} {H H1 H2 : Hp} (a : Ext p H H1) (b : Ext p H1 H2) : Ext p H H2 := fun c o h n => b c o (a c o h n) n
theorem Ext.same {p : Addr} {H H1 : Hp} (a : Same H H1) : Ext p H H1 := fun c o h _ => a c o h
theorem Ext.at {p : Addr} {H : Hp} {o : HO} : Ext p H (upd H p o) := fun c u h n => (upd_ne n).trans h
theorem same_new {H : Hp} {a : Addr} {o : HO} (h : H a = none) : Same H (upd H a o) := fun c u e => (upd_ne (ne_of_none e h)).trans e
theorem Ext.new {p a : Addr} {H : Hp} {o : HO} (h : H a = none) : Ext p H (upd H a o) := .same (same_new h)
theorem Ext.set {p a : Addr} {H H1 : Hp} {o : HO} (x : Ext p H H1) (h : H a = none) : Ext p H (upd H1 a o) := fun c u e n => (upd_ne (ne_of_none e h)).trans (x c u e n)
theorem Ext.none_of {p a : Addr} {H H1 : Hp} (x : Ext p H H1) (hp : a ≠ p) (h : H1 a = none) : H a = none := by
  match q : H a with
  | none => rfl
  | some o => exact nomatch (x a o q hp).symm.trans h
theorem up_new {H : Hp} {a b : Addr} {o u : HO} (h : H a = some o) (hb : H b = none) : upd H b u a = some o := same_new hb a o h
/-! ## the pen -/
def penL (c : Addr) (t l : Int) : List (Key × V) := [(.inr "cells", .ref c), (.inr "turn", .int t), (.inr "left", .int l)]
theorem k_ct : ¬ ((Str.ofString "cells") = Str.ofString "turn") := by decide +kernel
theorem k_cl : ¬ ((Str.ofString "cells") = Str.ofString "left") := by decide +kernel
theorem k_tl : ¬ ((Str.ofString "turn") = Str.ofString "left") := by decide +kernel
theorem k_lt : ¬ ((Str.ofString "left") = Str.ofString "turn") := by decide +kernel
theorem pen_cells (c : Addr) (t l : Int) : valV (penL c t l) (Sum.inr "cells" : Key) = some (.ref c) := valV_pos rfl
theorem pen_turn (c : Addr) (t l : Int) : valV (penL c t l) (Sum.inr "turn" : Key) = some (.int t) := (valV_neg (fun e => k_ct (Sum.inr.inj e))).trans (valV_pos rfl)
theorem pen_left (c : Addr) (t l : Int) : valV (penL c t l) (Sum.inr "left" : Key) = some (.int l) := (valV_neg (fun e => k_cl (Sum.inr.inj e))).trans ((valV_neg (fun e => k_tl (Sum.inr.inj e))).trans (valV_pos rfl))
theorem pen_put_turn (c : Addr) (t l u : Int) : putK (penL c t l) (Sum.inr "turn" : Key) (.int u) = penL c u l := by
  unfold putK
  rw [valV_any, pen_turn]
  simp [penL, k_ct, k_lt]
theorem pen_put_left (c : Addr) (t l u : Int) : putK (penL c t l) (Sum.inr "left" : Key) (.int u) = penL c t u := by
  unfold putK
  rw [valV_any, pen_left]
  simp [penL, k_cl, k_tl]
theorem pen_made (c : Addr) (t l : Int) : mergeK [] (penL c t l) = penL c t l := by
  simp [mergeK, penL, putK, k_ct, k_cl, k_tl]
structure Pen (H : Hp) (p c : Addr) (T : Nat) : Prop where
  ex : ∃ (ns : List Int) (t l : Int), H p = some (.dK (penL c t l)) ∧ H c = some (.lst (ns.map V.int)) ∧ ns.length ≤ 63 ∧ 0 ≤ t ∧ t ≤ T ∧ 0 ≤ l
section
variable {H H1 : Hp} {p c a : Addr} {T U : Nat} {o : HO} {xs : List V}
theorem Pen.mono (x : Pen H p c T) (h : T ≤ U) : Pen H p c U := by
  obtain ⟨ns, t, l, h1, h2, h3, h4, h5, h6⟩ := x.ex
  exact ⟨ns, t, l, h1, h2, h3, h4, by omega, h6⟩
theorem Pen.stay (x : Pen H p c T) (s : Same H H1) : Pen H1 p c T := by
  obtain ⟨ns, t, l, h1, h2, r⟩ := x.ex
  exact ⟨ns, t, l, s _ _ h1, s _ _ h2, r⟩
theorem Pen.new (x : Pen H p c T) (h : H a = none) : Pen (upd H a o) p c T := x.stay (same_new h)
theorem Pen.is (x : Pen H p c T) : ∃ t l, H p = some (.dK (penL c t l)) := by
  obtain ⟨ns, t, l, h1, _⟩ := x.ex
  exact ⟨t, l, h1⟩
theorem Pen.ne (x : Pen H p c T) (h : H a = some (.lst xs)) : a ≠ p := by
  obtain ⟨t, l, h1⟩ := x.is
  exact ne_of h h1 (by intro z; cases z)
/-- another thing is changed -/
theorem Pen.set (x : Pen H p c T) (h1 : a ≠ p) (h2 : a ≠ c) : Pen (upd H a o) p c T := by
  obtain ⟨ns, t, l, g1, g2, r⟩ := x.ex
  exact ⟨ns, t, l, (upd_ne h1.symm).trans g1, (upd_ne h2.symm).trans g2, r⟩
/-- a thing that was not there when the pen stood is neither the pen nor its cells -/
theorem Pen.apart (x : Pen H p c T) (h : H a = none) : a ≠ p ∧ a ≠ c := by
  obtain ⟨ns, t, l, g1, g2, r⟩ := x.ex
  exact ⟨(ne_of_none g1 h).symm, (ne_of_none g2 h).symm⟩
end
/-- draw's promise -/
def spDraw : Sp := fun vs H Q _ => ∃ (p c : Addr) (m : Int) (T : Nat), vs = [.ref p, .int m] ∧ 0 < m ∧ m < 1073741824 ∧ Pen H p c T ∧ T < 1000000000 ∧
  ∀ (d : Int) (H' : Hp), 0 ≤ d → d < m → Pen H' p c (T + 1) → Ext p H H' → Q (.int d) H'
def spPen (K : PySem.W.Frag) : Sp := fun vs H Q _ => ∃ (a : Addr) (ns : List Int), vs = [.ref a] ∧ SqL K H a (ns.map V.int) ∧
  ∀ (p c : Addr) (H' : Hp), H p = none → Pen H' p c 0 → Same H H' → Q (.ref p) H'
/-! ## draws' small facts -/
theorem ints_dp {K : PySem.W.Frag} {H : Hp} : ∀ ns : List Int, DpAll K H (ns.map V.int) (ns.map PyData.int)
  | [] => .nil
  | n :: ns => .cons (.int n) (ints_dp ns)
theorem ints_canLay : ∀ ns : List Int, PyData.canLayAll0 (ns.map PyData.int) = true
  | [] => rfl
  | n :: ns => by
    show (PyData.canLay0 (.int n) && PyData.canLayAll0 (ns.map PyData.int)) = true
    rw [ints_canLay ns]
    rfl
theorem ints_depth : ∀ ns : List Int, PyData.depthAll (ns.map PyData.int) = 0
  | [] => rfl
  | n :: ns => by
    show max (PyData.depth (.int n)) (PyData.depthAll (ns.map PyData.int)) = 0
    rw [ints_depth ns]
    rfl
theorem ints_shaped (ns : List Int) : SeqAt.shaped (.list (ns.map PyData.int)) = true := by
  have h1 : PyData.canLay0 (.list (ns.map PyData.int)) = true := ints_canLay ns
  have h2 : PyData.depth (.list (ns.map PyData.int)) = 1 := by
    show PyData.depthAll (ns.map PyData.int) + 1 = 1
    rw [ints_depth]
  unfold SeqAt.shaped
  rw [h1, h2]
  rfl
theorem ints_ne_nil (ns : List Int) : PyData.eqv (.list (ns.map PyData.int)) (.list []) = ns.isEmpty := by
  match ns with
  | [] => rfl
  | n :: r => rfl
theorem get_left {H : Hp} {p c : Addr} {t l : Int} (h : H p = some (.dK (penL c t l))) : DGet H p (.str "left") (some (.int l)) := pen_left c t l ▸ DGet.k (k := Sum.inr "left") h
theorem get_turn {H : Hp} {p c : Addr} {t l : Int} (h : H p = some (.dK (penL c t l))) : DGet H p (.str "turn") (some (.int t)) := pen_turn c t l ▸ DGet.k (k := Sum.inr "turn") h
theorem get_cells {H : Hp} {p c : Addr} {t l : Int} (h : H p = some (.dK (penL c t l))) : DGet H p (.str "cells") (some (.ref c)) := pen_cells c t l ▸ DGet.k (k := Sum.inr "cells") h
theorem put_left {H : Hp} {p c : Addr} {t l u : Int} (h : H p = some (.dK (penL c t l))) : DPut H p (.str "left") (.int u) (upd H p (.dK (penL c t u))) := pen_put_left c t l u ▸ DPut.k (k := Sum.inr "left") h (by show 3 < sizeLine; decide)
theorem put_turn {H : Hp} {p c : Addr} {t l u : Int} (h : H p = some (.dK (penL c t l))) : DPut H p (.str "turn") (.int u) (upd H p (.dK (penL c u l))) := pen_put_turn c t l u ▸ DPut.k (k := Sum.inr "turn") h (by show 3 < sizeLine; decide)
theorem at_mod {α : Type} {xs : List α} {i : Int} (h0 : 0 ≤ i) (h : i < (xs.length : Int)) : ∃ v, atI xs i = some v ∧ v ∈ xs := by
  have hj : i.toNat < xs.length := by omega
  refine ⟨xs[i.toNat], ?_, List.getElem_mem hj⟩
  have e : i = (i.toNat : Int) := by omega
  have q := atI_nat (List.getElem?_eq_getElem hj)
  rw [← e] at q
  exact q
def primes : List Int := [2147483629, 2147483647, 2147483587, 2147483563, 2147483579]
theorem primes_in {v : V} (h : v ∈ primes.map V.int) : ∃ i : Int, v = .int i ∧ 0 < i ∧ i < 2147483648 := by
  obtain ⟨i, hi, e⟩ := List.mem_map.mp h
  refine ⟨i, e.symm, ?_⟩
  have q : ∀ j ∈ primes, 0 < j ∧ j < 2147483648 := by decide
  exact q i hi
end Vk
set_option Elab.async false
set_option maxRecDepth 100000
set_option linter.all false
namespace Vk
open PySem PySem.Spec PyProof.Rows L2
/-! ## a def that returns one written text, and a replace of what it returns (a token is out behind it) -/
structure FnT (P : Program) (w : World) (K : PySem.W.Frag) (mg : Str → Option Value) (base : Heap) (k : Nat) (x : Str) (z : Str) : Prop where
  ex : ∃ f : Addr, mg x = some (.ref f) ∧ PySem.W.keepIn K (.ref f) = true ∧ ∀ (A : Around) (outer : List Env) (s : Shared) (H : Hp) (Q : VK), Room k A → Env0 P w K mg base A outer s H → Q (.str z) H →
    codeAny (model P w) A (.call (.ref f) ⟨[], []⟩) (fun r s2 => 1 ≤ s2.toks ∧ CR CX0 outer P w H s Q E0 r s2) s
section
variable {P : Program} {w : World} {K : PySem.W.Frag} {mg : Str → Option Value} {base : Heap}
theorem okT {x : Str} {st : Stmt} {f : Addr} {fd : FuncData} {z : Str} {j : Nat} {p1 p2 : Pos} (F : Fun K x x st f fd) (S : FnScope [] [] (defScope st)) (hm : mg x = some (.ref f)) (hb : Binds K fd [] [])
    (body : defBody st = [.Return (some (.Constant (.str z) j p1)) p2]) : FnT P w K mg base 1 x z := by
  refine ⟨f, hm, F.kp, ?_⟩
  obtain ⟨oc, od, kV, doc, pm, an, cdv, ct, osl, rfl, lk, hcd⟩ := F.ex
  intro A outer s H Q hr e0 hsp
  have KX := e0.mod.kin.keeps (fun b o e => (e0.bs b o e).1 : ∀ b o, base.get? b = some o → s.heap.get? b = some o)
  have noLim := e0.mod.nolimit.keeps (fun b o e => (e0.bs b o e).1 : ∀ b o, base.get? b = some o → s.heap.get? b = some o)
  refine codeAny_call_function hr.depth (KX f _ lk) rfl S.co S.gen rfl (PySem.W.codeRec_of KX hcd) (hb s [] KX rfl _ _ _ _ (wpAny_newFunctionEnv_cells S.kind (fun y hy => absurd hy (List.not_mem_nil (a := y))) fun env he s1 x0 => ?_))
  cases he
  refine And.intro (noLim.keeps x0.toInCall.keep) (codeAny_func ?_)
  have I0 := inv_start (P := P) (CX := CX0) (E := E0) (us := []) (vs := []) S hr.hd e0 rfl .nil x0
  show wpAny _ _ (execs (defBody st) _) _ _ s1
  rw [body]
  refine wpAny_execs_cons (wpAny_Return_some (Calls.Constant_str ?_))
  exact ⟨Nat.succ_pos _, .str z, H, I0.os, I0.bare, (I0.tok (s1.toks + 1)).base, (I0.tok (s1.toks + 1)).hok, ⟨_, rfl⟩, hsp⟩
end
section
variable {X : Cx} {j k : Nat} {x z y v : Str} {q q2 apos pos c0 c1 : Pos} {j0 j1 : Nat}
theorem pe_replT (c : FnT X.prog X.w X.K X.mg X.base k x z) (hr : Room j X.A) (hk : k ≤ j) (hz : z.length + (z.length + 1) * v.length ≤ 16777216) (hyz : (y == v) = false) (gl : Gl X x := by rfl) (hdb : (x == ("__debug__" : Str)) = false := by decide)
    (hst : starEach [.Constant (.str y) j0 c0, .Constant (.str v) j1 c1] X.env = [(false, eval (.Constant (.str y) j0 c0) X.env), (false, eval (.Constant (.str v) j1 c1) X.env)] := by rfl)
    (hbase : attributeBase (.Call (.Name x q) [] [] q2) "replace" X.env (eval (.Call (.Name x q) [] [] q2) X.env) = eval (.Call (.Name x q) [] [] q2) X.env := by rfl) (hline : (apos.endLine == pos.line) = true := by rfl) :
    PE X (.Call (.Attribute (.Call (.Name x q) [] [] q2) "replace" apos) [.Constant (.str y) j0 c0, .Constant (.str v) j1 c1] [] pos) (fun σ H Q => Q (.str (Txt.replace z y v)) H) := by
  obtain ⟨f, hm, kp, run⟩ := c.ex
  refine ⟨fun pins s σ H Q I h => PySem.Call_method2 (Q := EP X pins σ Q) hbase hst hline (wpAny_mono (Q := fun u s1 => 1 ≤ s1.toks ∧ EP X pins σ (fun w H1 => w = .str z ∧ H1 = H) u s1) ?_ ?_ (fun _ _ e => e))⟩
  · refine wpAny_Call_Name_kw (ld_glob I gl hm (PySem.W.callWith_K0 I.kIn kp (wpAny_call (codeAny_mono (run X.A X.stack s H (fun w H1 => w = .str z ∧ H1 = H) (hr.mono hk) I.env0 ⟨rfl, rfl⟩) fun res s2 hq => ?_))) hdb)
    match res, hq with
    | .error e, hq => exact hq.2.elim
    | .ok (.ret u), hq => exact ⟨hq.1, I.after hq.2⟩
    | .ok .next, hq => exact hq.2.elim
    | .ok .brk, hq => exact hq.2.elim
    | .ok .cont, hq => exact hq.2.elim
  · rintro u s1 ⟨ht, w, H1, I1, r1, rfl, rfl⟩
    obtain ⟨tx, rfl⟩ := r1
    refine ⟨"str", _, PySem.F.plainAttrs_str, PySem.F.slot_str_replace, PySem.F.type_str_replace, typeIs_str _ _ _, (fun _ e => nomatch e), Calls.callWith_builtin rfl (Calls.evalArgs_plain (Calls.spliced_cons (Calls.Constant_str (Calls.spliced_cons (Calls.Constant_str (Calls.spliced_nil ?_))))))⟩
    exact PySem.SC.replace (Nat.ne_of_gt ht) (Nat.succ_ne_zero _) (by show s1.toks ≠ s1.toks + 1; omega) hyz hz fun t' kk => ⟨V.str _, _, I1.tok kk, ⟨t', rfl⟩, h⟩
end
/-! ## options to pick from -/
def OneS (c : Nat) : V := .str ⟨#[c]⟩
inductive Opts (K : PySem.W.Frag) (H : Hp) : V → List V → Prop
  | str (z : Str) (h : z.length ≤ 1000) : Opts K H (.str z) (z.cps.toList.map OneS)
  | lst {a : Addr} {xs : List V} (h : SqL K H a xs) : Opts K H (.ref a) xs
  | tup {a : Addr} {xs : List V} (h : SqT K H a xs) : Opts K H (.ref a) xs
theorem Ext.sqL {K : PySem.W.Frag} {p a : Addr} {H H1 : Hp} {xs : List V} {kvs : List (Key × V)} (x : Ext p H H1) (hp : H p = some (.dK kvs)) (h : SqL K H a xs) : SqL K H1 a xs := by
  match h with
  | .inl (.inl e) => exact .inl (.inl (x _ _ e (ne_of e hp (by intro z; cases z))))
  | .inl (.inr ⟨o, e⟩) => exact .inl (.inr ⟨o, x _ _ e (ne_of e hp (by intro z; cases z))⟩)
  | .inr e => exact .inr e
theorem Ext.sqT {K : PySem.W.Frag} {p a : Addr} {H H1 : Hp} {xs : List V} {kvs : List (Key × V)} (x : Ext p H H1) (hp : H p = some (.dK kvs)) (h : SqT K H a xs) : SqT K H1 a xs := by
  match h with
  | .inl (.inl e) => exact .inl (.inl (x _ _ e (ne_of e hp (by intro z; cases z))))
  | .inl (.inr ⟨o, e⟩) => exact .inl (.inr ⟨o, x _ _ e (ne_of e hp (by intro z; cases z))⟩)
  | .inr e => exact .inr e
theorem Ext.is {p a : Addr} {H H1 : Hp} {xs : List V} {kvs : List (Key × V)} (x : Ext p H H1) (hp : H p = some (.dK kvs)) (h : H a = some (.lst xs)) : H1 a = some (.lst xs) := x _ _ h (ne_of h hp (by intro z; cases z))
theorem Ext.isT {p a : Addr} {H H1 : Hp} {xs : List V} {kvs : List (Key × V)} (x : Ext p H H1) (hp : H p = some (.dK kvs)) (h : H a = some (.tup xs)) : H1 a = some (.tup xs) := x _ _ h (ne_of h hp (by intro z; cases z))
theorem Pen.keepL {K : PySem.W.Frag} {p c a : Addr} {T : Nat} {H H1 : Hp} {xs : List V} (q : Pen H p c T) (x : Ext p H H1) (h : SqL K H a xs) : SqL K H1 a xs := by
  obtain ⟨t, l, hp⟩ := q.is
  exact x.sqL hp h
theorem Pen.keepT {K : PySem.W.Frag} {p c a : Addr} {T : Nat} {H H1 : Hp} {xs : List V} (q : Pen H p c T) (x : Ext p H H1) (h : SqT K H a xs) : SqT K H1 a xs := by
  obtain ⟨t, l, hp⟩ := q.is
  exact x.sqT hp h
theorem Pen.keepI {p c a : Addr} {T : Nat} {H H1 : Hp} {xs : List V} (q : Pen H p c T) (x : Ext p H H1) (h : H a = some (.lst xs)) : H1 a = some (.lst xs) := by
  obtain ⟨t, l, hp⟩ := q.is
  exact x.is hp h
def spPick (K : PySem.W.Frag) : Sp := fun vs H Q _ => ∃ (p c : Addr) (o : V) (xs : List V) (T : Nat), vs = [.ref p, o] ∧ Opts K H o xs ∧ xs ≠ [] ∧ xs.length ≤ 1000 ∧ Pen H p c T ∧ T < 1000000000 ∧
  ∀ (v : V) (H' : Hp), v ∈ xs → Pen H' p c (T + 1) → Ext p H H' → Q v H'
def letS : Str := "\n !\"#$&'()*+,-./0123456789:;<=>?@ABCDEFGHIJKLMNOPQRSTUVWXYZ[\\]^_`abcdefghijklmnopqrstuvwxyz{|}~"
def spSigns : Sp := fun vs H Q _ => vs = [] ∧ Q (.str letS) H
/-- what few gives: one to three letters -/
def Few (z : Str) : Prop := 1 ≤ z.length ∧ z.length ≤ 3 ∧ ∀ c ∈ z.cps.toList, c ∈ letS.cps.toList
def spFew : Sp := fun vs H Q _ => ∃ (p c : Addr) (T : Nat), vs = [.ref p] ∧ Pen H p c T ∧ T + 4 < 1000000000 ∧ ∀ (z : Str) (H' : Hp), Few z → Pen H' p c (T + 4) → Ext p H H' → Q (.str z) H'
/-- a word of the letters of z, a to b of them -/
def Word (z : Str) (a b : Nat) (x : Str) : Prop := a ≤ x.length ∧ x.length ≤ b ∧ ∀ c ∈ x.cps.toList, c ∈ z.cps.toList
def spWord : Sp := fun vs H Q _ => ∃ (p c : Addr) (z : Str) (a b T : Nat), vs = [.ref p, .str z, .int a, .int b] ∧ a ≤ b ∧ b ≤ 100 ∧ 1 ≤ z.length ∧ z.length ≤ 1000 ∧ Pen H p c T ∧ T + 200 < 1000000000 ∧
  ∀ (x : Str) (H' : Hp), Word z a b x → Pen H' p c (T + b + 1) → Ext p H H' → Q (.str x) H'
theorem cut63 (ns : List Int) : ∃ ms : List Int, cutV (ns.map V.int) none (some 63) = ms.map V.int ∧ ms.length ≤ 63 := by
  refine ⟨ns.take 63, ?_, List.length_take_le _ _⟩
  unfold cutV
  rw [HT.sIx_none, show (63 : Int) = ((63 : Nat) : Int) from rfl, HT.sIx_nat, List.drop_zero, Nat.sub_zero, List.map_take, Nat.min_comm, ← List.take_take]
  exact List.take_of_length_le (by rw [List.length_take]; omega)
theorem one_len (z : Str) : (z.cps.toList.map OneS).length = z.length := by
  rw [List.length_map]
  exact Array.length_toList
theorem join_nil : ∀ ls : List (List Nat), TL.joinL [] ls = ls.flatten
  | [] => rfl
  | [p] => by simp [TL.joinL]
  | p :: q :: r => by
    show p ++ ([] ++ TL.joinL [] (q :: r)) = _
    rw [List.nil_append, join_nil (q :: r)]
    rfl
theorem join_ones (cs : List Nat) : Txt.join "" (cs.map fun c => (⟨#[c]⟩ : Str)) = ⟨cs.toArray⟩ := by
  rw [TL.join_eq]
  refine TL.ext_tl ?_
  rw [TL.tl_join]
  refine (join_nil _).trans ?_
  show (List.map TL.tl (cs.map fun c => (⟨#[c]⟩ : Str))).flatten = cs
  rw [List.map_map]
  induction cs with
  | nil => rfl
  | cons c r ih => exact congrArg (c :: ·) ih
theorem ones_len (cs : List Nat) : ((cs.map fun c => (⟨#[c]⟩ : Str)).map (·.length)).sum = cs.length := by
  induction cs with
  | nil => rfl
  | cons c r ih =>
    rw [List.map_cons, List.map_cons, List.sum_cons, ih, List.length_cons]
    show 1 + r.length = r.length + 1
    omega
theorem ones_map (cs : List Nat) : (cs.map fun c => (⟨#[c]⟩ : Str)).map V.str = cs.map OneS := List.map_map
theorem noq_list : (Txt.replace letS "q" "").cps.toList = letS.cps.toList.filter (· != 113) := replace_strikes letS 113
theorem noq_len : (Txt.replace letS "q" "").length = 94 := by
  rw [show (Txt.replace letS "q" "").length = (Txt.replace letS "q" "").cps.toList.length from Array.length_toList.symm, noq_list]
  decide +kernel
theorem noq_in {c : Nat} (h : c ∈ (Txt.replace letS "q" "").cps.toList) : c ∈ letS.cps.toList := by
  rw [noq_list] at h
  exact (List.mem_filter.mp h).1
theorem ones_of {z : Str} {v : V} (h : v ∈ z.cps.toList.map OneS) : ∃ c, v = OneS c ∧ c ∈ z.cps.toList := by
  obtain ⟨c, hc, e⟩ := List.mem_map.mp h
  exact ⟨c, e.symm, hc⟩
theorem opts_ne {z : Str} (h : 1 ≤ z.length) : z.cps.toList.map OneS ≠ [] := fun e => by
  have q := one_len z
  rw [e] at q
  simp at q
  omega
theorem opts_le {z : Str} {n : Nat} (h : z.length ≤ n) : (z.cps.toList.map OneS).length ≤ n := by
  rw [one_len]
  exact h
/-- the fixed choices of few are few -/
theorem few_of {z : Str} (h : (decide (1 ≤ z.length) && decide (z.length ≤ 3) && z.cps.toList.all fun c => decide (c ∈ letS.cps.toList)) = true) : Few z := by
  simp only [Bool.and_eq_true, decide_eq_true_eq, List.all_eq_true] at h
  exact ⟨h.1.1, h.1.2, h.2⟩
theorem few_ones {cs : List Nat} (h1 : 1 ≤ cs.length) (h3 : cs.length ≤ 3) (h : ∀ c ∈ cs, c ∈ letS.cps.toList) : Few ⟨cs.toArray⟩ := ⟨by simpa [Str.length] using h1, by simpa [Str.length] using h3, by simpa using h⟩
/-! ## rules whose written part is named (within a comprehension's block) -/
section
variable {X : Cx} {K : PySem.W.Frag}
theorem ix_seqK (h : X.K = K) : IxR X (rIx K) := h ▸ ix_seq
theorem ix_tupK (h : X.K = K) : IxR X (rIxT K) := h ▸ ix_tup
theorem op_notIn_seqK (h : X.K = K) : OpR X (compareOp .NotIn) (rIn K true) := h ▸ op_notIn_seq
theorem sl_listK (h : X.K = K) : SlR X (rSlL K) := h ▸ sl_list
end
theorem cutV_mem {xs : List V} {lo hi : Option Int} {v : V} (h : v ∈ cutV xs lo hi) : v ∈ xs := List.mem_of_mem_drop (List.mem_of_mem_take h)
theorem cutV_all {xs : List V} {lo hi : Option Int} {f : V → Bool} (h : xs.all f = true) : (cutV xs lo hi).all f = true := List.all_eq_true.mpr fun v hv => List.all_eq_true.mp h v (cutV_mem hv)
theorem ones_flat (cs : List Nat) : (cs.map OneS).all flatV = true := List.all_eq_true.mpr fun v hv => by
  obtain ⟨c, _, rfl⟩ := List.mem_map.mp hv
  rfl
theorem cutV_zero (xs : List V) : cutV xs none (some 0) = [] := by
  unfold cutV
  rw [HT.sIx_none, show (0 : Int) = ((0 : Nat) : Int) from rfl, HT.sIx_nat]
  simp
theorem one_mem {cs : List Nat} {v : V} (h : v ∈ cs.map OneS) : ∃ c, v = OneS c ∧ c ∈ cs := by
  obtain ⟨c, hc, e⟩ := List.mem_map.mp h
  exact ⟨c, e.symm, hc⟩
end Vk
set_option Elab.async false
set_option maxRecDepth 100000
set_option linter.all false
namespace Vk
open PySem PySem.Spec PyProof.Rows L2
/-! ## how long what is shown may be -/
theorem listText_le : ∀ ts : List Str, (listText ts).length ≤ piled ts + 2
  | [] => by decide +kernel
  | t :: r => by
    have h := textFrom_length_pos r 1 (("[" : Str) ++ (if (0 : Nat) > 0 then ", " else "" : String) ++ t) (Nat.succ_pos 0)
    have e : (listText (t :: r)).length = (textFrom 1 (("[" : Str) ++ (if (0 : Nat) > 0 then ", " else "" : String) ++ t) r).length + 1 := strLen_append _ _
    rw [e, h, strLen_append, strLen_append, piled_cons]
    show 1 + 0 + t.length + piled r + 1 ≤ _
    omega
theorem piled_le {ts : List Str} {n : Nat} (h : ∀ t ∈ ts, t.length ≤ n) : piled ts ≤ ts.length * (n + 2) := by
  induction ts with
  | nil => exact Nat.zero_le _
  | cons t r ih =>
    have h1 := h t List.mem_cons_self
    have h2 := ih fun u hu => h u (List.mem_cons_of_mem _ hu)
    rw [piled_cons, List.length_cons, Nat.succ_mul]
    omega
theorem shownAll_map : ∀ ds : List PyData, PyData.shownAll ds = ds.map PyData.shown
  | [] => rfl
  | d :: r => congrArg (d.shown :: ·) (shownAll_map r)
theorem showableAll_iff : ∀ {ds : List PyData}, (∀ d ∈ ds, d.showable = true) → PyData.showableAll ds = true
  | [], _ => rfl
  | d :: r, h => by
    show (d.showable && PyData.showableAll r) = true
    rw [h d List.mem_cons_self, showableAll_iff fun e he => h e (List.mem_cons_of_mem _ he)]
    rfl
theorem hasDictAll_of : ∀ {ds : List PyData}, (∀ d ∈ ds, d.hasDict = false) → PyData.hasDictAll ds = false
  | [], _ => rfl
  | d :: r, h => by
    show (d.hasDict || PyData.hasDictAll r) = false
    rw [h d List.mem_cons_self, hasDictAll_of fun e he => h e (List.mem_cons_of_mem _ he)]
    rfl
theorem depthAll_le : ∀ {ds : List PyData} {n : Nat}, (∀ d ∈ ds, d.depth ≤ n) → PyData.depthAll ds ≤ n
  | [], _, _ => Nat.zero_le _
  | d :: r, n, h => Nat.max_le.mpr ⟨h d List.mem_cons_self, depthAll_le fun e he => h e (List.mem_cons_of_mem _ he)⟩
/-- d may be shown, in at most n signs, at most k deep -/
structure Showy (d : PyData) (k n : Nat) : Prop where
  sh : d.showable = true
  nd : d.hasDict = false
  dp : d.depth ≤ k
  ln : d.shown.length ≤ n
theorem Showy.list {ds : List PyData} {k n : Nat} (h : ∀ d ∈ ds, Showy d k n) : Showy (.list ds) (k + 1) (ds.length * (n + 2) + 2) := by
  refine ⟨showableAll_iff fun d hd => (h d hd).sh, hasDictAll_of fun d hd => (h d hd).nd, Nat.succ_le_succ (depthAll_le fun d hd => (h d hd).dp), ?_⟩
  show (listText (PyData.shownAll ds)).length ≤ _
  rw [shownAll_map]
  have h1 := listText_le (ds.map PyData.shown)
  have h2 := piled_le (ts := ds.map PyData.shown) (n := n) fun t ht => by
    obtain ⟨d, hd, rfl⟩ := List.mem_map.mp ht
    exact (h d hd).ln
  rw [List.length_map] at h2
  omega
theorem Showy.tuple {ds : List PyData} {k n : Nat} (h : ∀ d ∈ ds, Showy d k n) : Showy (.tuple ds) (k + 1) (ds.length * (n + 2) + 2) := by
  refine ⟨showableAll_iff fun d hd => (h d hd).sh, hasDictAll_of fun d hd => (h d hd).nd, Nat.succ_le_succ (depthAll_le fun d hd => (h d hd).dp), ?_⟩
  show (tupleText (PyData.shownAll ds)).length ≤ _
  rw [shownAll_map]
  have h1 := fmt_text (ds.map PyData.shown)
  have h2 := piled_le (ts := ds.map PyData.shown) (n := n) fun t ht => by
    obtain ⟨d, hd, rfl⟩ := List.mem_map.mp ht
    exact (h d hd).ln
  rw [List.length_map] at h2
  omega
theorem Showy.int {i : Int} (h : i.natAbs < 10 ^ 100) : Showy (.int i) 0 101 := by
  have hl : i.natAbs.log2 < 1920 := by
    by_cases h0 : i.natAbs = 0
    · rw [h0]; decide
    · exact (Nat.log2_lt h0).mpr (Nat.lt_of_lt_of_le h (by decide +kernel))
  refine ⟨decide_eq_true hl, rfl, Nat.le_refl _, ?_⟩
  show (Str.ofString (toString i)).length ≤ 101
  rw [PySem.ofString_length]
  exact int_text_length_le10 (k := 100) (by decide) h
theorem Showy.mono {d : PyData} {k k' n n' : Nat} (h : Showy d k n) (h1 : k ≤ k') (h2 : n ≤ n') : Showy d k' n' := ⟨h.sh, h.nd, Nat.le_trans h.dp h1, Nat.le_trans h.ln h2⟩
/-! ## places of words -/
end Vk
set_option Elab.async false
set_option maxRecDepth 100000
set_option linter.all false
namespace Vk
open PySem PySem.Spec PyProof.Rows L2
/-! ## a text some times -/
theorem mulOk {x : Str} {n : Int} (h0 : 0 ≤ n) (h1 : n ≤ 1000000) (h : x.length * n.toNat ≤ 10000000) (hx : x.length ≤ 10000000) : MulOk x n := by
  refine ⟨?_, fun a _ c => ?_, fun _ _ => ?_⟩
  · rw [decide_eq_false (by omega), decide_eq_false (by omega)]
    rfl
  · have hn : 0 < n := by omega
    have q : (10000000 : Int) ≤ (2 ^ 63 - 1) / n := (Int.le_ediv_iff_mul_le hn).mpr (by omega)
    omega
  · unfold Builtin.Str.tooLong sizeLine
    exact decide_eq_false (by omega)
def CMulS (x : Str) (n : Int) : Prop := 0 ≤ n ∧ n ≤ 1000000 ∧ x.length * n.toNat ≤ 10000000 ∧ x.length ≤ 10000000
def rMulS : R2 := fun x y H Q => ∃ (z : Str) (n : Int), x = .str z ∧ y = .int n ∧ CMulS z n ∧ Q (.str (Txt.mul z n)) H
section
variable {X : Cx}
theorem op_mulS : OpR X (binaryOp .Mult) rMulS := by
  intro pins s σ H x y v u Q I rx ry h
  obtain ⟨z, n, rfl, rfl, ⟨h0, h1, h2, h3⟩, q⟩ := h
  obtain ⟨t, rfl⟩ := rx
  obtain ⟨t2, rfl⟩ := ry
  exact SB.mul (mulOk h0 h1 h2 h3) fun t' k => ⟨V.str _, H, I.tok k, ⟨t', rfl⟩, q⟩
end
/-! ## a def called by keywords alone -/
structure CalK (P : Program) (w : World) (K : PySem.W.Frag) (mg : Str → Option Value) (base : Heap) (CX : CXT) (k : Nat) (x : Str) (sp : Sp) (ks : List Str) (g : {α : Type} → List α → List α) : Prop where
  ex : ∃ (f : Addr) (fd : FuncData) (ps : List Str), FnG P w K mg base CX k f fd ps sp ∧ mg x = some (.ref f) ∧ PySem.W.keepIn K (.ref f) = true ∧
    (∀ (s : Shared) (ws : List Value), K.In s.heap → ws.length = ks.length → BindsTo s fd ⟨[], ks.zip ws⟩ (ps.zip (g ws))) ∧ ∀ (vs : List V) (ws : List Value), Vals vs ws → vs.length = ks.length → Vals (g vs) (g ws)
def tCallW (n : Nat) (sp : Sp) (g : {α : Type} → List α → List α) (E : XK) (t : TA) : TE := fun σ H Q => t σ H fun vs H1 => vs.length = n ∧ sp (g vs) H1 Q E
section
variable {X : Cx} {CX : CXT} {j k : Nat} {sp : Sp} {E : XK} {x : Str} {p pos : Pos} {kws : List Keyword} {tk : TA} {ks : List Str} {g : {α : Type} → List α → List α}
theorem pe_kw (c : CalK X.prog X.w X.K X.mg X.base CX k x sp ks g) (hg : X.A.guards = some []) (hr : Room j X.A) (hk : k ≤ j) (hx : Passes CX X E) (hkw : PK X kws tk) (gl : Gl X x := by rfl)
    (hall : (backToKw pos (keywordEach kws X.env)).all (·.1.isSome) = true := by rfl) (hks : (backToKw pos (keywordEach kws X.env)).filterMap (·.1) = ks := by rfl) (hdb : (x == ("__debug__" : Str)) = false := by decide)
    (hpl : ((backTo pos (starEach [] X.env)).any (·.1) || (backToKw pos (keywordEach kws X.env)).any (·.1.isNone)) = false := by rfl) :
    PE X (.Call (.Name x p) [] kws pos) (tCallW ks.length sp g E tk) := by
  obtain ⟨f, fd, ps, F, hm, kp, hb, hv⟩ := c.ex
  refine ⟨fun pins s σ H Q I h => wpAny_Call_Name_kw (ld_glob I gl hm (PySem.W.callWith_KW0 (h₀ := X.base) I.ok.mod.kin kp hall (thn (hkw.run pos pins s σ H _ I h) fun ws s2 hh => ?_) hpl) hdb)⟩
  obtain ⟨vs, H2, I2, rz, l2, q2⟩ := hh
  refine ⟨I2.kIn, ?_⟩
  rw [hks]
  refine wpAny_call (codeAny_mono (F.run X.A X.stack s2 H2 ⟨[], ks.zip ws⟩ (g ws) (g vs) Q E hg (hr.mono hk) I2.env0 (hb s2 ws I2.kIn (rz.length.symm.trans l2)) (hv vs ws rz l2) q2) (fun res s3 hq => ?_))
  match res, hq with
  | .error e, hq => exact hx pins σ H2 s2 e s3 I2 hq
  | .ok (.ret u), hq => exact I2.after hq
  | .ok .next, hq => exact hq.elim
  | .ok .brk, hq => exact hq.elim
  | .ok .cont, hq => exact hq.elim
end
theorem vals_rev : ∀ {vs : List V} {ws : List Value}, Vals vs ws → Vals vs.reverse ws.reverse
  | _, _, .nil => .nil
  | _, _, .cons r t => by
    rw [List.reverse_cons, List.reverse_cons]
    exact (vals_rev t).append (.cons r .nil)
/-! ## a def of the text as the head leaves it -/
structure At (K : PySem.W.Frag) (x : Str) (st : Stmt) (f : Addr) (fd : FuncData) : Prop where
  ns : PySem.W.nsIn K mainGlobals x = some (some (.ref f))
  fn : Fun K x x st f fd
theorem at_mk {K : PySem.W.Frag} {x : Str} {st : Stmt} {f : Addr} {oc : Value} {od an : Option Addr} {sl : Array (Option Value)} {kV doc pm cd ct : Value} (a : PySem.W.nsIn K mainGlobals x = some (some (.ref f)))
    (l : K.lookup f = some ⟨oc, od, .func (PySem.W.fnOf x x (defArgs st) (defBody st) (defScope st) .none kV doc pm an cd ct), sl⟩) (c : PySem.W.codeIn K cd x = true) (k : PySem.W.keepIn K (.ref f) = true) :
    At K x st f (PySem.W.fnOf x x (defArgs st) (defBody st) (defScope st) .none kV doc pm an cd ct) := ⟨a, fun_mk l c k⟩
section
variable {K : PySem.W.Frag} {x y qual : Str} {st : Stmt} {f : Addr} {fd : FuncData} {ps ks : List Str} {g : List Value → List Value}
theorem _root_.L2.Fun.kwb (F : Fun K x qual st f fd)
    (h : ∀ (kV doc pm : Value) (an : Option Addr) (cdv ct : Value) (ws : List Value), ws.length = ks.length → bindArgs (PySem.W.fnOf x qual (defArgs st) (defBody st) (defScope st) .none kV doc pm an cdv ct) ⟨[], ks.zip ws⟩ = pure (ps.zip (g ws))) :
    ∀ (s : Shared) (ws : List Value), K.In s.heap → ws.length = ks.length → BindsTo s fd ⟨[], ks.zip ws⟩ (ps.zip (g ws)) := by
  obtain ⟨oc, od, kV, doc, pm, an, cdv, ct, osl, rfl, lk, hcd⟩ := F.ex
  exact fun s ws _ hl => .of_eq (h kV doc pm an cdv ct ws hl)
theorem _root_.L2.Fun.binds1 (F : Fun K x qual st f fd)
    (h : ∀ {kV doc pm : Value} {an : Option Addr} {cdv ct : Value} {v : Value}, bindArgs (PySem.W.fnOf x qual (defArgs st) (defBody st) (defScope st) .none kV doc pm an cdv ct) ⟨[v], []⟩ = pure [(y, v)]) :
    ∀ (s : Shared) (v : Value), BindsTo s fd ⟨[v], []⟩ [(y, v)] := by
  obtain ⟨oc, od, kV, doc, pm, an, cdv, ct, osl, rfl, lk, hcd⟩ := F.ex
  exact fun s v => .of_eq h
end
end Vk
set_option Elab.async false
set_option maxRecDepth 100000
set_option maxHeartbeats 4000000
set_option linter.all false
namespace PySem
namespace VkX
open PySem.W PySem.Calls PyProof.Rows Builtin Builtin.ObjectAttr PySem.HandSPX
/-! ## own exception classes straight below one of the four -/
structure ExB (B newId initId : String) (tl : List Value) : Prop where
  F : ExcBaseFacts B newId initId tl
  pass : ∀ self : Value, refuseLoop self "__setattr__" tl = pure ()
  obj : tl.contains (.type "object") = true
  refs : tl.all (fun v => match v with | .type _ => true | _ => false) = true
section
variable {M : Model} {A : Around} {E : Value → Shared → Prop} {h : Heap} {g : Array GenState} {d : Drawn} {t : Nat} {os : OsState}
variable {nm q : Str} {C N : Addr} {bs bm : List Value} {hdct : Bool} {sn : List Str} {sub : List Value} {ab : Bool} {col : Option Bool} {dd : Option Addr} {k0 k1 k2 k3 k5 : Option Value} {B newId initId : String}
end
section
variable {prog : Program} {w : World} {A : Around} {E : Value → Shared → Prop} {R : Result → Shared → Prop} {h : Heap} {g : Array GenState} {d : Drawn} {t : Nat} {os : OsState}
variable {nm q : Str} {C N : Addr} {bs bm : List Value} {hdct : Bool} {sn : List Str} {sub : List Value} {ab : Bool} {col : Option Bool} {dd : Option Addr} {k0 k1 k2 k3 k5 : Option Value} {B newId initId : String}
end
end VkX
end PySem
set_option Elab.async false
set_option maxRecDepth 100000
set_option maxHeartbeats 4000000
set_option linter.all false
namespace PySem
namespace VkX
open PySem.W PySem.Calls PyProof.Rows Builtin Builtin.ObjectAttr PySem.HandSPX
section
variable {prog : Program} {w : World} {A : Around} {E : Value → Shared → Prop} {R : Result → Shared → Prop} {hp : Heap} {g : Array GenState} {d : Drawn} {t : Nat} {os : OsState}
end
end VkX
end PySem
namespace Vk
open L2 PySem PySem.Spec PyProof.Rows PySem.VkX
/-- what the written part says of an own exception class over one of the four -/
structure OexK (K : PySem.W.Frag) (C : Addr) : Prop where
  cls : ∃ B newId initId tl nm q N bs sn sub ab col dd k0 k1 k2 k3 k5, ExB B newId initId tl ∧ K.lookup C = some (excClassObj nm q C N bs tl true sn sub ab col dd k0 k1 k2 k3 k5 newId)
  sa : PySem.W.findIn K (.ref C) "__setattr__" = some (some (.builtin "object.__setattr__"))
  kC : PySem.W.keepIn K (.ref C) = true
  xf : XfC K C
  ic : ExcC K C
section
variable {X : Cx} {pins : List (Addr × Obj)} {σ : L2.St} {H : Hp} {s : Shared} {a C dx : Addr} {f : Str} {y : V} {u : Value} {fs : List (Str × V)} {Q : Unit → Shared → Prop} {E : Value → Shared → Prop} {A : Around}
end
section
variable {X : Cx} {o e : Expr} {es : List Expr} {to te : TE} {ta : TA} {f : Str} {p p' p1 p2 pos : Pos}
end
end Vk
set_option Elab.async false
set_option maxRecDepth 100000
set_option maxHeartbeats 4000000
set_option linter.all false
namespace Vk
open L2 PySem PySem.Spec PyProof.Rows PySem.VkX
/-! ## making one -/
/-- __init__(self, f1, ..): the fields stored in their order -/
def spIni (C : Addr) (fsn : List Str) : Sp := fun vs H Q E => ∃ a ws, vs = .ref a :: ws ∧ ws.length = fsn.length ∧ H a = some (exo a C none) ∧
  (fsn = [] → Q .non H) ∧ (fsn ≠ [] → ∀ d, H d = none → d ≠ a → Q .non (upd (upd H d (exd d (fsn.zip ws).reverse)) a (exo a C (some d))))
structure ClsI (P : Program) (w : World) (K : PySem.W.Frag) (mg : Str → Option Value) (base : Heap) (k : Nat) (x : Str) (C : Addr) (fsn : List Str) : Prop where
  T : OexK K C
  hm : mg x = some (.ref C)
  no : ∀ f ∈ fsn, PySem.W.findIn K (.ref C) f = some none
  ex : ∃ (fI : Addr) (fd : FuncData), PySem.W.findIn K (.ref C) "__init__" = some (some (.ref fI)) ∧ PySem.W.typeIn K (.ref fI) = some (.type "function") ∧ FnG P w K mg base CX0 k fI fd (("self" : Str) :: fsn) (spIni C fsn) ∧ Binds K fd (("self" : Str) :: fsn) [] ∧
    (∀ (s : Shared) (v : Value) (ws : List Value), K.In s.heap → ws.length = fsn.length → BindsTo s fd ⟨[v], fsn.reverse.zip ws⟩ ((("self" : Str) :: fsn).zip (v :: ws.reverse)))
section
variable {X : Cx} {j k : Nat} {x : Str} {C : Addr} {fsn : List Str} {p pos : Pos} {e : Expr} {es : List Expr} {t : TA}
theorem few_len {n : Nat} (h : n ≤ 1000) : n ≤ sizeLine := Nat.le_trans h (by rw [sizeLine_eq]; decide)
end
end Vk
set_option Elab.async false
set_option maxRecDepth 100000
set_option maxHeartbeats 4000000
set_option linter.all false
namespace Vk
open L2 PySem PySem.Spec PyProof.Rows PySem.VkX
theorem no1 {P : Str → Prop} {a : Str} (h : P a) : ∀ f ∈ ([a] : List Str), P f := fun f z => by
  rw [List.mem_singleton] at z
  exact z ▸ h
theorem no2 {P : Str → Prop} {a b : Str} (h : P a) (h2 : P b) : ∀ f ∈ ([a, b] : List Str), P f := fun f z => by
  rcases List.mem_cons.mp z with z | z
  · exact z ▸ h
  · rw [List.mem_singleton] at z
    exact z ▸ h2
/-- the class at C has the name x and these classes behind it -/
def ClsN (K : PySem.W.Frag) (C : Addr) (x : Str) (tl : List Value) : Prop := ∃ newId q N bs sn sub ab col dd k0 k1 k2 k3 k5, K.lookup C = some (excClassObj x q C N bs tl true sn sub ab col dd k0 k1 k2 k3 k5 newId)
structure ExcTxt (K : PySem.W.Frag) (x qual : Str) (st : Stmt) (C fI : Addr) (fd : FuncData) (fsn : List Str) (tl : List Value) : Prop where
  cn : ClsN K C x tl
  ns : PySem.W.nsIn K mainGlobals x = some (some (.ref C))
  T : OexK K C
  iC : PySem.W.findIn K (.ref C) "__init__" = some (some (.ref fI))
  tI : PySem.W.typeIn K (.ref fI) = some (.type "function")
  no : ∀ f ∈ fsn, PySem.W.findIn K (.ref C) f = some none
  fn : Fun K "__init__" qual st fI fd
section
variable {P : Program} {w : World} {K : PySem.W.Frag} {mg : Str → Option Value} {base h : Heap} {x qual f f2 : Str} {st : Stmt} {C fI : Addr} {fd : FuncData} {p1 p2 p3 p4 q1 q2 q3 q4 : Pos}
end
end Vk
namespace Vk
open L2 PySem PySem.Spec PyProof.Rows PySem.VkX
end Vk
set_option Elab.async false
set_option maxRecDepth 100000
set_option maxHeartbeats 4000000
set_option linter.all false
namespace Vk
open L2 PySem PySem.Spec PyProof.Rows PySem.VkX
/-! ## values that are shown, dicts among them -/
inductive Atm : V → PyData → Prop
  | non : Atm .non .none
  | bl (b : Bool) : Atm (.bl b) (.bool b)
  | int (i : Int) : Atm (.int i) (.int i)
  | str (x : Str) : Atm (.str x) (.str x)
def kvS (ps : List (Str × Str)) : List (Key × V) := ps.map fun p => (Sum.inr p.1, V.str p.2)
def kvD (ps : List (Str × Str)) : List (PyData × PyData) := ps.map fun p => (.str p.1, .str p.2)
/-- one level deep -/
inductive Th (H : Hp) : V → PyData → Prop
  | atm {v : V} {d : PyData} : Atm v d → Th H v d
  | lst {a : Addr} {xs : List V} {ds : List PyData} : H a = some (.lst xs) → a ≠ sysModules → Paired Atm xs ds → Th H (.ref a) (.list ds)
  | tup {a : Addr} {xs : List V} {ds : List PyData} : H a = some (.tup xs) → Paired Atm xs ds → Th H (.ref a) (.tuple ds)
  | dct {a : Addr} {ps : List (Str × Str)} : H a = some (.dK (kvS ps)) → Th H (.ref a) (.dict (kvD ps))
theorem Th.keep {H H' : Hp} {v : V} {d : PyData} (h : Th H v d) (k : ∀ a o, H a = some o → H' a = some o) : Th H' v d := by
  cases h with
  | atm h => exact .atm h
  | lst e n h => exact .lst (k _ _ e) n h
  | tup e h => exact .tup (k _ _ e) h
  | dct e => exact .dct (k _ _ e)
section
variable {X : Cx} {pins : List (Addr × Obj)} {σ : L2.St} {H : Hp} {s : Shared}
theorem Atm.reads {h : Heap} {v : V} {u : Value} {d : PyData} (a : Atm v d) (r : RelV v u) : Reads h u d [] ∧ d.hasDict = false := by
  cases a with
  | non => cases r; exact ⟨Reads.none, by simp only [PyData.hasDict]⟩
  | bl b => cases r; exact ⟨Reads.bool b, by simp only [PyData.hasDict]⟩
  | int i => obtain ⟨t, rfl⟩ := r; exact ⟨Reads.int i t, by simp only [PyData.hasDict]⟩
  | str x => obtain ⟨t, rfl⟩ := r; exact ⟨Reads.str x t, by simp only [PyData.hasDict]⟩
theorem atms_reads {h : Heap} : ∀ {vs : List V} {ds : List PyData} {us : List Value}, Paired Atm vs ds → Vals vs us → ReadsAll h us ds [] ∧ PyData.hasDictAll ds = false
  | _, _, _, .nil, .nil => ⟨ReadsAll.nil, by simp only [PyData.hasDictAll]⟩
  | _, _, _, .cons a t, .cons r rs => by
    obtain ⟨h1, n1⟩ := a.reads (h := h) r
    obtain ⟨h2, n2⟩ := atms_reads (h := h) t rs
    exact ⟨ReadsAll.cons h1 h2, by simp only [PyData.hasDictAll, n1, n2, Bool.or_false]⟩
theorem strs_read {P : Program} {w : World} {h : Heap} : ∀ {ps : List (Str × Str)} {vs : List (Key × Value)} {es : List DictEntry}, KV (kvS ps) vs → Pairs (mixKind P w) es vs →
    ReadsAll h (es.map (·.key)) ((kvD ps).map (·.1)) [] ∧ ReadsAll h (es.map (·.val)) ((kvD ps).map (·.2)) []
  | [], _, _, .nil, .nil => ⟨ReadsAll.nil, ReadsAll.nil⟩
  | p :: ps, _, _, .cons a t, .cons k v r => by
    obtain ⟨h1, h2⟩ := strs_read (P := P) (w := w) (h := h) (ps := ps) t r
    obtain ⟨e1, e2⟩ := a
    rw [mixKind_is, ← e1] at k
    obtain ⟨y, ey⟩ := (show ∃ y, _ = Value.str p.2 y from e2)
    rcases keyIs_shape k with ⟨i, t, z, _⟩ | ⟨x, t, z, z2⟩
    · cases z
    · cases z
      refine ⟨?_, ?_⟩
      · have q := ReadsAll.cons (Reads.str (h := h) p.1 t) h1
        rw [← z2] at q
        exact q
      · have q := ReadsAll.cons (Reads.str (h := h) p.2 y) h2
        rw [← ey, ← v] at q
        exact q
theorem Th.reads (I : Inv X pins σ H s) {v : V} {u : Value} {d : PyData} (h : Th H v d) (r : RelV v u) : ∃ as, Reads s.heap u d as ∧ sysModules ∉ as := by
  cases h with
  | atm a =>
    obtain ⟨h1, n⟩ := a.reads (h := s.heap) r
    exact ⟨_, h1, List.not_mem_nil⟩
  | lst e ne a =>
    cases r
    obtain ⟨its, rv, ⟨o, n, ho, hc, _, hd⟩, _⟩ := I.list (SqL.of e)
    obtain ⟨h1, n1⟩ := atms_reads (h := s.heap) a rv
    exact ⟨_, Reads.list ho hc hd h1, fun z => by simp at z; exact ne z.symm⟩
  | tup e a =>
    cases r
    obtain ⟨its, rv, ⟨o, ho, hc, n, hd⟩, _⟩ := I.tuple (SqT.of e)
    obtain ⟨h1, n1⟩ := atms_reads (h := s.heap) a rv
    exact ⟨_, Reads.tuple ho hc hd h1, List.not_mem_nil⟩
  | @dct a ps e =>
    cases r
    obtain ⟨_, ne, vs, kv, o, es, ep, ho, ex, hd, _, pr, _⟩ := (show ObjOk X.prog X.w H s.heap a (.dK (kvS ps)) from I.hok a _ e)
    obtain ⟨h1, h2⟩ := strs_read (h := s.heap) kv pr
    refine ⟨_, Reads.dict ho ex.1 hd h1 h2, fun hm => ?_⟩
    have z : sysModules = a := by simpa using hm
    rw [← z] at ne
    exact absurd ne (by decide)
/-- what is handed to repr -/
def Shw (H : Hp) (x : V) (d : PyData) : Prop := Th H x d ∨ ∃ q y e, x = .ref q ∧ H q = some (.lst [y, y]) ∧ q ≠ sysModules ∧ Th H y e ∧ d = .list [e, e]
theorem Shw.reads (I : Inv X pins σ H s) {v : V} {u : Value} {d : PyData} (h : Shw H v d) (r : RelV v u) : ∃ as, Reads s.heap u d as ∧ (d.hasDict = true → sysModules ∉ as) := by
  rcases h with h | ⟨q, y, d, rfl, e, ne, t, rfl⟩
  · obtain ⟨as, h1, n1⟩ := h.reads I r
    exact ⟨as, h1, fun _ => n1⟩
  · cases r
    obtain ⟨its, rv, ⟨o, n, ho, hc, _, hd⟩, _⟩ := I.list (SqL.of e)
    cases rv with
    | cons r1 rv =>
      cases rv with
      | cons r2 rv =>
        cases rv
        obtain ⟨as, h1, n1⟩ := t.reads I r1
        obtain ⟨bs, h2, n2⟩ := t.reads I r2
        refine ⟨_, Reads.list ho hc hd (ReadsAll.cons h1 (ReadsAll.cons h2 ReadsAll.nil)), fun z => ?_⟩
        simp only [PyData.hasDict, PyData.hasDictAll, Bool.or_false, Bool.or_self] at z
        have m1 := n1
        have m2 := n2
        simp only [List.append_nil, List.mem_cons, List.mem_append, not_or]
        exact ⟨fun w => ne w.symm, m1, m2⟩
end
section
variable {X : Cx} {es : List Expr} {pos : Pos} {t : TA}
/-- [e, ..]: the new list does not stand where the modules do -/
def tLs1 (t : TA) : TE := fun σ H Q => t σ H fun xs H1 => xs.length ≤ sizeLine ∧ ∀ p, H1 p = none → p ≠ sysModules → Q (.ref p) (upd H1 p (.lst xs))
theorem pe_ls1 (h : PA X es t) : PE X (.List es pos) (tLs1 t) := by
  refine ⟨fun pins s σ H Q I hq => wpAny_List_spliced (thn (h.run pos pins s σ H _ I hq) fun us s1 ⟨xs, H1, I1, r, z, q⟩ => ⟨r.length ▸ z, ?_⟩)⟩
  have free1 : H1 s1.heap.objs.size = none := I1.hok.fresh (Nat.le_refl _)
  obtain ⟨o, _, _, ho, _⟩ := I1.mod.glob
  have big : mainGlobals < s1.heap.objs.size := Heap.lt_size (I1.bk _ _ ho)
  have ne : s1.heap.objs.size ≠ sysModules := fun z => by
    rw [z] at big
    exact absurd big (by decide)
  exact ⟨.ref s1.heap.objs.size, _, I1.laid (t' := s1.toks) (o := .lst xs) (fun b u e => Heap.get?_push_of_some _ e) (Nat.le_refl _) ⟨z, us, 0, r, Heap.get?_push_size _ rfl⟩, rfl, q _ free1 ne⟩
end
end Vk
set_option Elab.async false
set_option maxRecDepth 100000
set_option maxHeartbeats 4000000
set_option linter.all false
namespace Vk
open L2 PySem PySem.Spec PyProof.Rows PySem.VkX
/-! ## isinstance among own exception classes -/
section
variable {K : PySem.W.Frag} {C D : Addr} {x y : Str} {tl tl2 : List Value}
theorem ClsN.cls (c : ClsN K C x tl) : ∃ cd, PySem.W.clsIn K C = some cd ∧ cd.name = x ∧ cd.mro = .ref C :: tl ∧ PySem.W.typeIn K (.ref C) = some (.type "type") := by
  obtain ⟨newId, q, N, bs, sn, sub, ab, col, dd, k0, k1, k2, k3, k5, e⟩ := c
  refine ⟨{ name := x, bases := bs, mro := .ref C :: tl, ns := N, qualname := q, hasDict := true, slotNames := sn, subclasses := sub, abstract := ab, collection := col, hasDel := false }, ?_, rfl, rfl, ?_⟩
  · unfold PySem.W.clsIn; rw [e] <;> rfl
  · show (K.lookup C).map (·.cls) = _
    rw [e] <;> rfl
theorem ClsN.inj (c : ClsN K C x tl) (d : ClsN K D y tl2) : (C == D) = true → x = y := by
  intro h
  have e : C = D := by simpa using h
  subst e
  obtain ⟨cd, h1, h2, _⟩ := c.cls
  obtain ⟨ce, g1, g2, _⟩ := d.cls
  cases h1.symm.trans g1
  exact h2.symm.trans g2
/-- what stands at a name is one class -/
structure One (K : PySem.W.Frag) (C : Addr) (x : Str) (tl : List Value) : Prop where
  cn : ClsN K C x tl
  ns : PySem.W.nsIn K mainGlobals x = some (some (.ref C))
  rf : tl.all (fun v => match v with | .type _ => true | _ => false) = true
end
/-! ## list.count -/
/-! ## a comprehension over zip of two lists of one length -/
end Vk
set_option Elab.async false
set_option maxRecDepth 100000
set_option maxHeartbeats 4000000
set_option linter.all false
namespace Vk
open L2 PySem PySem.Spec PyProof.Rows PySem.VkX
/-! ## what is laid, told by what it shows -/
theorem Same.rfl {H : Hp} : Same H H := fun _ _ h => h
theorem Same.trans {H H1 H2 : Hp} (a : Same H H1) (b : Same H1 H2) : Same H H2 := fun c o h => b c o (a c o h)
def MkA (t : TE) (d : PyData) : Prop := ∃ v, Atm v d ∧ ∀ σ H Q, Q v H → t σ H Q
def MkAs (t : TA) (ds : List PyData) : Prop := ∃ vs, Paired Atm vs ds ∧ ∀ σ H Q, Q vs H → t σ H Q
def Mk (t : TE) (d : PyData) : Prop := ∀ σ H Q, (∀ v H', Same H H' → Th H' v d → Q v H') → t σ H Q
section
variable {t te : TE} {ta : TA} {d : PyData} {ds : List PyData}
theorem ma_non : MkA (tC .non) .none := ⟨_, .non, fun _ _ _ q => q⟩
theorem ma_bl {b : Bool} : MkA (tC (.bl b)) (.bool b) := ⟨_, .bl b, fun _ _ _ q => q⟩
theorem ma_int {i : Int} : MkA (tC (.int i)) (.int i) := ⟨_, .int i, fun _ _ _ q => q⟩
theorem ma_str {x : Str} : MkA (tC (.str x)) (.str x) := ⟨_, .str x, fun _ _ _ q => q⟩
theorem ma_neg {i : Int} : MkA (tUn (rU fun i => V.int (-i)) (tC (.int i))) (.int (-i)) := ⟨_, .int (-i), fun _ _ _ q => ⟨i, rfl, q⟩⟩
theorem ma_pow {i j : Int} (h : CPow i j) : MkA (tOp (rI CPow fun i j => V.int (i ^ j.toNat)) (tC (.int i)) (tC (.int j))) (.int (i ^ j.toNat)) := ⟨_, .int _, fun _ _ _ q => ⟨i, j, rfl, rfl, h, q⟩⟩
theorem ma_mul {z : Str} {n : Int} (h : CMulS z n) : MkA (tOp rMulS (tC (.str z)) (tC (.int n))) (.str (Txt.mul z n)) := ⟨_, .str _, fun _ _ _ q => ⟨z, n, rfl, rfl, h, q⟩⟩
theorem mas_nil : MkAs tNil [] := ⟨[], .nil, fun _ _ _ q => q⟩
theorem mas_cons (a : MkA te d) (b : MkAs ta ds) : MkAs (tCons te ta) (d :: ds) := by
  obtain ⟨v, h1, h2⟩ := a
  obtain ⟨vs, g1, g2⟩ := b
  exact ⟨v :: vs, .cons h1 g1, fun σ H Q q => h2 σ H _ (g2 σ H _ q)⟩
theorem paired_len {α β : Type} {R : α → β → Prop} : ∀ {xs : List α} {ys : List β}, Paired R xs ys → xs.length = ys.length
  | _, _, .nil => rfl
  | _, _, .cons _ t => congrArg (· + 1) (paired_len t)
theorem ths_keep {H H' : Hp} (k : Same H H') : ∀ {vs : List V} {ds : List PyData}, Paired (Th H) vs ds → Paired (Th H') vs ds
  | _, _, .nil => .nil
  | _, _, .cons a t => .cons (a.keep k) (ths_keep k t)
theorem paired_app {α β : Type} {R : α → β → Prop} : ∀ {xs : List α} {ys : List β} {us : List α} {vs : List β}, Paired R xs ys → Paired R us vs → Paired R (xs ++ us) (ys ++ vs)
  | _, _, _, _, .nil, b => b
  | _, _, _, _, .cons a t, b => .cons a (paired_app t b)
theorem paired_mem {α β : Type} {R : α → β → Prop} : ∀ {xs : List α} {ys : List β} {x : α}, Paired R xs ys → x ∈ xs → ∃ y, y ∈ ys ∧ R x y
  | _, _, _, .cons a t, h => by
    rcases List.mem_cons.mp h with rfl | h
    · exact ⟨_, List.mem_cons_self, a⟩
    · obtain ⟨y, h1, h2⟩ := paired_mem t h
      exact ⟨y, List.mem_cons_of_mem _ h1, h2⟩
end
/-- nothing of such a value is the pen -/
theorem Th.ext {H H' : Hp} {p c : Addr} {T : Nat} {v : V} {d : PyData} (h : Th H v d) (hp : Pen H p c T) (x : Ext p H H') : Th H' v d := by
  obtain ⟨ns, t, l, hpp, _⟩ := hp.ex
  cases h with
  | atm a => exact .atm a
  | lst e n a => exact .lst (x _ _ e (fun z => by rw [z, hpp] at e; cases e)) n a
  | tup e a => exact .tup (x _ _ e (fun z => by rw [z, hpp] at e; cases e)) a
  | @dct a ps e =>
    refine .dct (x _ _ e (fun z => ?_))
    rw [z, hpp] at e
    have e2 : penL c t l = kvS ps := HO.dK.inj (Option.some.inj e)
    match ps, e2 with
    | [], e2 => cases e2
    | q :: r, e2 =>
      have z := congrArg (fun l => (l.head?).map (·.2)) e2
      cases z
end Vk
namespace Vk
open L2 PySem PySem.Spec PyProof.Rows PySem.VkX
theorem seq_asg {te : TE} {g : TG} {u : TS} {D : Ends} {σ : L2.St} {H : Hp} (h : te σ H fun v H1 => g v σ H1 (u D)) : tSeq (tAsg te g) u D σ H := h
end Vk
namespace Vk
open L2 PySem PySem.Spec PyProof.Rows PySem.VkX
def okB (d : PyData) : Bool := d.showable && decide (d.depth ≤ 60) && decide (d.shown.length ≤ 1000) && (PyData.list [d, d]).showable && decide ((PyData.list [d, d]).depth ≤ 60) && decide ((PyData.list [d, d]).shown.length ≤ 10000)
end Vk
set_option Elab.async false
set_option maxRecDepth 100000
set_option maxHeartbeats 4000000
set_option linter.all false
namespace Vk
open L2 PySem PySem.Spec PyProof.Rows PySem.VkX
/-! ## several except clauses, with a name or without -/
abbrev Sui := Addr → Value → Option Addr → TS
inductive Clz
  | only (c : Value) (ts : Sui)
  | named (c : Value) (i : Nat) (ts : Sui)
def SuiOk (X : Cx) (ss : List Stmt) (ts : Sui) : Prop := ∀ (a : Addr) (oe : Obj) (cls : Value) (d : Option Addr) (pn : List (Addr × Obj)), Zc cls d oe → (∃ vs, oe.data = .fields vs) → PSs (X.suite a ((a, oe) :: pn)) ss (ts a cls d)
inductive ClzOk (X : Cx) : List ExceptHandler → List Clz → Prop
  | nil : ClzOk X [] []
  | only {x : Str} {c : Value} {ts : Sui} {s0 : Stmt} {ss : List Stmt} {p1 p2 : Pos} {hs : List ExceptHandler} {l : List Clz} (hc : Names X x c) (su : SuiOk X (s0 :: ss) ts) (r : ClzOk X hs l) : ClzOk X (.ExceptHandler (some (.Name x p1)) none (s0 :: ss) p2 :: hs) (.only c ts :: l)
  | named {x n : Str} {c : Value} {i : Nat} {ts : Sui} {s0 : Stmt} {ss : List Stmt} {p1 p2 : Pos} {hs : List ExceptHandler} {l : List Clz} (hi : X.N[i]? = some n) (hl : X.env.kindOf n = some .local) (hc : Names X x c) (su : SuiOk X (s0 :: ss) ts) (r : ClzOk X hs l) :
      ClzOk X (.ExceptHandler (some (.Name x p1)) (some n) (s0 :: ss) p2 :: hs) (.named c i ts :: l)
section
variable {X : Cx} {body : List Stmt} {e0 : ExceptHandler} {es : List ExceptHandler} {l : List Clz} {pos : Pos} {tb : WX → TS} {W0 : WX}
end
end Vk
set_option Elab.async false
set_option maxRecDepth 100000
set_option maxHeartbeats 4000000
set_option linter.all false
namespace Vk
open L2 PySem PySem.Spec PyProof.Rows PySem.VkX
/-! ## C(e, ..) to be raised -/
section
variable {X : Cx} {j k : Nat} {x : Str} {C : Addr} {fsn : List Str} {p pos : Pos} {e : Expr} {es : List Expr} {t : TA}
end
end Vk
set_option Elab.async false
set_option maxRecDepth 100000
set_option maxHeartbeats 4000000
set_option linter.all false
namespace Vk
open L2 PySem PySem.Spec PyProof.Rows PySem.VkX
/-! ## instances of own classes whose __init__ may raise, made by position and by all keywords in the other order -/
structure MakI (P : Program) (w : World) (K : PySem.W.Frag) (mg : Str → Option Value) (base : Heap) (CX : CXT) (k : Nat) (x : Str) (C : Addr) (fsn : List Str) (sp : Sp) : Prop where
  hm : mg x = some (.ref C)
  ex : ∃ (fI : Addr) (fd : FuncData), L2.Mk K C fI ∧ FnG P w K mg base CX k fI fd (("self" : Str) :: fsn) sp ∧ Binds K fd (("self" : Str) :: fsn) [] ∧
    (∀ (s : Shared) (v : Value) (ws : List Value), K.In s.heap → ws.length = fsn.length → BindsTo s fd ⟨[v], fsn.reverse.zip ws⟩ ((("self" : Str) :: fsn).zip (v :: ws.reverse)))
section
variable {X : Cx} {CX : CXT} {E : XK} {j k : Nat} {x : Str} {C : Addr} {fsn : List Str} {sp : Sp} {p pos : Pos} {e : Expr} {es : List Expr} {t : TA}
end
end Vk
set_option Elab.async false
set_option maxRecDepth 100000
set_option maxHeartbeats 4000000
set_option linter.all false
namespace Vk
open L2 PySem PySem.Spec PyProof.Rows PySem.VkX LamX NdefX
/-! ## a lambda as a value: made in a def, kept in lists, handed to a def that calls it -/
structure LF where
  qual : Str
  params : Arguments
  body : Expr
  scope : Scope
  cl : List (Str × Addr)
  c : Addr
def LF.nf (F : LF) : NF := ⟨"<lambda>", F.qual, F.params, [], F.scope, F.cl, F.c⟩
def LamO (f : Addr) (F : LF) : HO := .ext fun h => ∃ pm ctv : Value, h.get? f = some (PySem.W.kla_obj "<lambda>" F.qual F.params F.body F.scope F.cl pm F.c ctv)
section
variable {X : Cx} {pins : List (Addr × Obj)} {σ : L2.St} {H : Hp} {s : Shared}
end
section
variable {X : Cx}
end
/-! ### what it does -/
abbrev SpL := List (Option V) → Hp → VK → XK → Prop
structure LamK (P : Program) (w : World) (K : PySem.W.Frag) (mg : Str → Option Value) (base : Heap) (k : Nat) (F : LF) (fr : List Str) (sp : SpL) : Prop where
  run : ∀ (A : Around) (outer : List Env) (s : Shared) (H : Hp) (f : Addr) (ws : List (Option V)) (Q : VK) (E : XK), A.guards = some [] → Room k A → Env0 P w K mg base A outer s H → H f = some (LamO f F) → H F.c = some (CodeO F.c F.qual) → CellsAt F.cl fr ws s.heap H → sp ws H Q E →
    codeAny (model P w) A (.call (.ref f) ⟨[], []⟩) (CR (L2.CX P w) outer P w H s Q E) s
section
variable {P : Program} {w : World} {K : PySem.W.Frag} {mg : Str → Option Value} {base : Heap} {N fr : List Str} {F : LF} {k j : Nat} {sp : SpL}
theorem LamK.mono (l : LamK P w K mg base j F fr sp) (h : j ≤ k) : LamK P w K mg base k F fr sp := ⟨fun A outer s H f ws Q E hg hr => l.run A outer s H f ws Q E hg (hr.mono h)⟩
end
/-! ### called by the def that got it -/
section
variable {X : Cx} {F : LF} {fr : List Str} {ws : List (Option V)} {i j k : Nat} {x : Str} {sp : SpL} {E : XK} {p pos : Pos} {f0 : Addr}
end
/-! ### defs whose promise speaks of the cells that the heap holds -/
structure FnH (P : Program) (w : World) (K : PySem.W.Frag) (mg : Str → Option Value) (base : Heap) (CX : CXT) (k : Nat) (f : Addr) (fd : FuncData) (ps : List Str) (sp : Heap → Sp) : Prop where
  len : ∀ h vs H Q E, sp h vs H Q E → vs.length = ps.length
  run : ∀ (A : Around) (outer : List Env) (s : Shared) (H : Hp) (args : Args) (us : List Value) (vs : List V) (Q : VK) (E : XK), A.guards = some [] → Room k A → Env0 P w K mg base A outer s H → BindsTo s fd args (ps.zip us) → Vals vs us → sp s.heap vs H Q E →
    codeAny (model P w) A (.call (.ref f) args) (CR CX outer P w H s Q E) s
structure CalH (P : Program) (w : World) (K : PySem.W.Frag) (mg : Str → Option Value) (base : Heap) (CX : CXT) (k : Nat) (x : Str) (sp : Heap → Sp) : Prop where
  ex : ∃ (f : Addr) (fd : FuncData) (ps : List Str), FnH P w K mg base CX k f fd ps sp ∧ mg x = some (.ref f) ∧ PySem.W.keepIn K (.ref f) = true ∧ Binds K fd ps []
section
variable {X : Cx} {CX : CXT} {j k : Nat} {x : Str} {sp : Heap → Sp} {E : XK} {p pos : Pos} {e : Expr} {es : List Expr} {t : TA} {rd : L2.St → List V → Hp → VK → Prop}
end
/-! ### isinstance(e, T) of a caught exception that has fields -/
/-! ### a def whose code object is known -/
structure FunC (K : PySem.W.Frag) (x qual : Str) (st : Stmt) (f : Addr) (fd : FuncData) (c : Addr) : Prop where
  ex : ∃ (oc : Value) (od : Option Addr) (kV doc pm : Value) (an : Option Addr) (ct : Value) (sl : Array (Option Value)), fd = PySem.W.fnOf x qual (defArgs st) (defBody st) (defScope st) .none kV doc pm an (.ref c) ct ∧ K.lookup f = some ⟨oc, od, .func fd, sl⟩ ∧ PySem.W.codeIn K (.ref c) qual = true
  kp : PySem.W.keepIn K (.ref f) = true
theorem FunC.fn {K : PySem.W.Frag} {x qual : Str} {st : Stmt} {f c : Addr} {fd : FuncData} (F : FunC K x qual st f fd c) : Fun K x qual st f fd := by
  obtain ⟨oc, od, kV, doc, pm, an, ct, sl, e, l, hc⟩ := F.ex
  exact ⟨⟨oc, od, kV, doc, pm, an, .ref c, ct, sl, e, l, hc⟩, F.kp⟩
end Vk
set_option Elab.async false
set_option maxRecDepth 100000
set_option maxHeartbeats 4000000
set_option linter.all false
namespace Vk
open PySem PySem.Spec PyProof.Rows PySem.SeqAt L2
open Builtin
section
variable {prog : Program} {w : World} {A : Around} {E : Value → Shared → Prop} {s : Shared} {K : PySem.W.Frag} {x C : Addr} {ox : Obj} {od : Option Obj}
end
end Vk
set_option Elab.async false
set_option maxRecDepth 100000
set_option maxHeartbeats 4000000
set_option linter.all false
namespace Vk
open PySem PySem.Spec PyProof.Rows PySem.SeqAt L2
open Builtin
/-! ## == and != and in, on the left an instance of an own class with its own == -/
inductive TyE (H : Hp) : V → Value → Prop
  | non : TyE H .non (.type "NoneType")
  | bl (b : Bool) : TyE H (.bl b) (.type "bool")
  | int (i : Int) : TyE H (.int i) (.type "int")
  | str (z : Str) : TyE H (.str z) (.type "str")
  | tup {a : Addr} {xs : List V} (e : H a = some (.tup xs)) : TyE H (.ref a) (.type "tuple")
  | lst {a : Addr} {xs : List V} (e : H a = some (.lst xs)) : TyE H (.ref a) (.type "list")
  | ins {a C dx : Addr} {fs : List (Str × V)} (e : H a = some (.ins C dx fs)) : TyE H (.ref a) (.ref C)
section
variable {X : Cx} {pins : List (Addr × Obj)} {σ : L2.St} {H : Hp} {s : Shared}
end
/-- the own == of the class at C -/
structure EqI (P : Program) (w : World) (K : PySem.W.Frag) (mg : Str → Option Value) (base : Heap) (k : Nat) (C : Addr) (sp : Sp) : Prop where
  ex : ∃ (f : Addr) (fd : FuncData), PySem.W.findIn K (.ref C) "__eq__" = some (some (.ref f)) ∧ PySem.W.isFn K (.ref f) = true ∧ FnOk P w K mg base CX0 k f fd ["self", "other"] sp ∧ Binds K fd ["self", "other"] []
  ne : PySem.W.findIn K (.ref C) "__ne__" = some (some (.builtin "object.__ne__"))
  obj : PySem.W.mroIn K C (.type "object") = some true
  no1 : PySem.W.mroIn K C (.type "tuple") = some false
  no2 : PySem.W.mroIn K C (.type "list") = some false
  no3 : PySem.W.mroIn K C (.type "str") = some false
  no4 : PySem.W.mroIn K C (.type "NoneType") = some false
section
variable {X : Cx} {k j : Nat} {C : Addr} {sp : Sp}
/-- the items that give way to the instance's own == -/
inductive Dec (H : Hp) : V → Prop
  | non : Dec H .non
  | str (z : Str) : Dec H (.str z)
  | tup {a : Addr} {xs : List V} (e : H a = some (.tup xs)) : Dec H (.ref a)
  | lst {a : Addr} {xs : List V} (e : H a = some (.lst xs)) : Dec H (.ref a)
end
end Vk
set_option Elab.async false
set_option maxRecDepth 100000
set_option maxHeartbeats 4000000
set_option linter.all false
namespace Vk
open PySem PySem.Spec PyProof.Rows L2 StX
/-! ## def f(self, *parts), with nothing under way -/
section
variable {CX : CXT} {P : Program} {w : World} {K : PySem.W.Frag} {mg : Str → Option Value} {base : Heap} {k : Nat} {x qual : Str} {st : Stmt} {f : Addr} {fd : FuncData} {N ps : List Str} {sp : Sp}
end
section
variable {X : Cx} {CX : CXT} {k j : Nat} {C f : Addr} {sp : Sp} {E : XK} {x : Str} {p pos : Pos} {e : Expr} {es : List Expr} {t : TA}
end
end Vk
set_option Elab.async false
set_option maxRecDepth 100000
set_option maxHeartbeats 4000000
set_option linter.all false
namespace Vk
open PySem PySem.Spec PyProof.Rows L2
/-! ## for i, x in enumerate(t), t a tuple -/
section
variable {prog : Program} {w : World} {A : Around} {E : Value → Shared → Prop} {s : Shared}
end
end Vk
set_option Elab.async false
set_option maxRecDepth 100000
set_option maxHeartbeats 4000000
set_option linter.all false
namespace Vk
open PySem PySem.Spec PyProof.Rows L2
section
variable {X : Cx}
/-- e.f, a property, e an instance of one of some classes -/
structure PrI (P : Program) (w : World) (K : PySem.W.Frag) (mg : Str → Option Value) (base : Heap) (k : Nat) (C : Addr) (f fa : Str) : Prop where
  ex : ∃ (p g : Addr) (fd : FuncData), Cls K C ∧ PropOf K C f p g ∧ FnOk P w K mg base CX0 k g fd ["self"] (getSp C fa) ∧ Binds K fd ["self"] []
end
end Vk
set_option Elab.async false
set_option maxRecDepth 100000
set_option maxHeartbeats 4000000
set_option linter.all false
namespace Vk
open L2 PySem PySem.Spec PyProof.Rows
/-! ## lstrip leaves nothing of a string exactly if all its signs are to be stripped -/
end Vk
namespace Vk
open L2 PySem PySem.Spec PyProof.Rows
end Vk
set_option Elab.async false
set_option maxRecDepth 100000
set_option maxHeartbeats 4000000
set_option linter.all false
namespace Vk
open PySem PySem.Spec PyProof.Rows L2 LamX
/-! ## the law's own call, one def of the text makes lambdas (its code object c, its table P) -/
end Vk
set_option Elab.async false
set_option maxRecDepth 100000
set_option maxHeartbeats 4000000
set_option linter.all false
namespace Vk
open PySem PySem.Spec PyProof.Rows L2 LamX
/-! ## where the modules are told lies a dict -/
section
variable {X : Cx} {pins : List (Addr × Obj)} {σ : L2.St} {H : Hp} {s : Shared}
end
/-! ## == of a list and the empty list -/
section
open Builtin
end
/-! ## the law's own call, one def of the text makes lambdas (its code object c, its table P) -/
end Vk
set_option Elab.async false
set_option maxRecDepth 100000
set_option maxHeartbeats 4000000
set_option linter.all false
namespace Vk
open L2 PySem PySem.Spec PyProof.Rows PySem.VkX
/-! ## what is made is new -/
def New (H : Hp) (v : V) : Prop := ∀ b, v = .ref b → H b = none
theorem New.same {H H1 : Hp} {v : V} (n : New H1 v) (s : Same H H1) : New H v := fun b e => by
  match q : H b with
  | none => rfl
  | some o => exact nomatch (s b o q).symm.trans (n b e)
theorem New.ext {H H1 : Hp} {v : V} {p c : Addr} {T : Nat} (n : New H1 v) (x : Ext p H H1) (P : Pen H1 p c T) : New H v := fun b e => by
  match q : H b with
  | none => rfl
  | some o =>
    obtain ⟨t, l, hp⟩ := P.is
    by_cases hb : b = p
    · rw [hb] at e
      exact nomatch hp.symm.trans (n p e)
    · exact nomatch (x b o q hb).symm.trans (n b e)
theorem Atm.new {H : Hp} {v : V} {d : PyData} (a : Atm v d) : New H v := fun b e => by
  subst e
  cases a
theorem New.ne {H : Hp} {v : V} {D : Addr} {o : HO} (n : New H v) (h : H D = some o) : v ≠ .ref D := fun e => nomatch h.symm.trans (n D e)
theorem Th.at {H : Hp} {v : V} {d : PyData} {D : Addr} {o : HO} (h : Th H v d) (n : v ≠ .ref D) : Th (upd H D o) v d := by
  cases h with
  | atm a => exact .atm a
  | @lst a xs ds e ne p => exact .lst ((upd_ne fun z => n (congrArg V.ref z)).trans e) ne p
  | @tup a xs ds e p => exact .tup ((upd_ne fun z => n (congrArg V.ref z)).trans e) p
  | @dct a ps e => exact .dct ((upd_ne fun z => n (congrArg V.ref z)).trans e)
def Mk2 (t : TE) (d : PyData) : Prop := ∀ σ H Q, (∀ v H', Same H H' → Th H' v d → New H v → Q v H') → t σ H Q
def Mks2 (t : TA) (ds : List PyData) : Prop := ∀ σ H Q, (∀ vs H', Same H H' → Paired (Th H') vs ds → (∀ v ∈ vs, New H v) → Q vs H') → t σ H Q
section
variable {t te : TE} {ta : TA} {d : PyData} {ds : List PyData}
theorem mk2_atm (a : MkA te d) : Mk2 te d := by
  obtain ⟨v, h1, h2⟩ := a
  exact fun σ H Q q => h2 σ H Q (q v H Same.rfl (.atm h1) h1.new)
theorem mk2_tup (a : MkAs ta ds) (hl : ds.length ≤ 1000) : Mk2 (tTup ta) (.tuple ds) := by
  obtain ⟨vs, g1, g2⟩ := a
  exact fun σ H Q q => g2 σ H _ ⟨few_len ((paired_len g1).symm ▸ hl), fun p hp => q _ _ (same_new hp) (.tup upd_same g1) fun b e => by cases e; exact hp⟩
theorem mk2_lst (a : MkAs ta ds) (hl : ds.length ≤ 1000) : Mk2 (tLs1 ta) (.list ds) := by
  obtain ⟨vs, g1, g2⟩ := a
  exact fun σ H Q q => g2 σ H _ ⟨few_len ((paired_len g1).symm ▸ hl), fun p hp np => q _ _ (same_new hp) (.lst upd_same np g1) fun b e => by cases e; exact hp⟩
theorem mk2_dnew : Mk2 tDNewK (.dict (kvD [])) := fun σ H Q q p hp => q _ _ (same_new hp) (.dct upd_same) fun b e => by cases e; exact hp
theorem mk2_disp {a b : Str} : Mk2 (tDisp [(tC (.str a), tC (.str b))]) (.dict (kvD [(a, b)])) := by
  intro σ H Q q p hp
  refine ⟨upd_same, [(Sum.inr a, V.str b)], rfl, by show 1 ≤ 15; decide, ?_⟩
  refine q _ _ (fun c o h => ?_) (.dct (ps := [(a, b)]) upd_same) fun b e => by cases e; exact hp
  rw [upd_ne (ne_of_none h hp), upd_ne (ne_of_none h hp)]
  exact h
theorem mks2_nil : Mks2 tNil [] := fun σ H Q q => q [] H Same.rfl .nil fun v hv => absurd hv List.not_mem_nil
theorem mks2_cons (a : Mk2 te d) (b : Mks2 ta ds) : Mks2 (tCons te ta) (d :: ds) := fun σ H Q q => a σ H _ fun v H1 s1 t1 n1 => b σ H1 _ fun vs H2 s2 t2 n2 => q _ _ (s1.trans s2) (.cons (t1.keep s2) t2) fun x hx => by
  rcases List.mem_cons.mp hx with rfl | hx
  · exact n1
  · exact (n2 x hx).same s1
theorem mk2_many (a : Mks2 ta ds) (hl : ds.length ≤ 1000) {σ : L2.St} {H : Hp} {Q : VK} (q : ∀ p xs H', Same H H' → H' p = some (.lst xs) → Paired (Th H') xs ds → (∀ v ∈ xs, New H v) → Q (.ref p) H') : tLst ta σ H Q :=
  a σ H _ fun vs H1 s1 t1 n1 => ⟨few_len ((paired_len t1).symm ▸ hl), fun p hp => q p vs _ (s1.trans (same_new hp)) upd_same (ths_keep (same_new hp) t1) n1⟩
end
end Vk
set_option Elab.async false
set_option maxRecDepth 100000
set_option linter.all false
namespace Vk
open PySem PySem.Spec PyProof.Rows L2
/-! ## lists whose items stand for items of another list -/
theorem paired_at {α β : Type} {R : α → β → Prop} : ∀ {xs : List α} {ys : List β} {i : Nat} {x : α}, Paired R xs ys → xs[i]? = some x → ∃ y, ys[i]? = some y ∧ R x y
  | _, _, 0, _, .cons a t, h => by cases h; exact ⟨_, rfl, a⟩
  | _, _, i + 1, _, .cons a t, h => paired_at (i := i) t h
theorem drop_at {α : Type} : ∀ {l : List α} {i : Nat} {x : α}, l[i]? = some x → l.drop i = x :: l.drop (i + 1)
  | a :: l, 0, x, h => by cases h; rfl
  | a :: l, i + 1, x, h => by simpa using drop_at (l := l) (i := i) (x := x) (by simpa using h)
def tTruK (K : PySem.W.Frag) (ta : TE) : TT := fun σ H Q => ta σ H fun x H' => ∃ k, TruV K x H' k ∧ Q k H'
theorem pt_truthK {X : Cx} {K : PySem.W.Frag} {a : Expr} {ta : TE} (hK : X.K = K) (ha : PE X a ta) (he : ∀ whole, isTrue a X.env whole = (do let v ← whole; standAt a.pos; holding [v] (truthy v)) := by intro _; rfl) :
    PT X a (tTruK K ta) := hK ▸ pt_truth ha he
end Vk
set_option Elab.async false
set_option maxRecDepth 100000
set_option maxHeartbeats 4000000
set_option linter.all false
namespace Vk
open PySem PySem.Spec PyProof.Rows L2
theorem fewL {n : Nat} (h : n ≤ 100000) : n < sizeLine := Nat.lt_of_le_of_lt h (by rw [sizeLine_eq]; decide)
theorem pair_mono {α β : Type} {R S : α → β → Prop} (h : ∀ a b, R a b → S a b) : ∀ {xs : List α} {ys : List β}, Paired R xs ys → Paired S xs ys
  | _, _, .nil => .nil
  | _, _, .cons a t => .cons (h _ _ a) (pair_mono h t)
theorem none_up {H H1 : Hp} {a : Addr} (s : Same H H1) (h : H1 a = none) : H a = none := by
  match e : H a with
  | none => rfl
  | some o => exact nomatch (s _ _ e).symm.trans h
theorem upd_list {H : Hp} {l : Addr} {xs : List V} {o : HO} (h : H l = some (.lst xs)) (u : Addr) (ws : List V) (hu : H u = some (.tup ws)) : (upd H l o) u = some (.tup ws) := by
  rw [upd_ne (fun e => by rw [e, h] at hu; cases hu)]
  exact hu
theorem upd_out {H H1 : Hp} {l : Addr} {o : HO} (hl : H l = none) (s : Same H H1) : Same H (upd H1 l o) := fun b o2 h => by
  rw [upd_ne (ne_of_none h hl)]
  exact s _ _ h
/-- letter i of x -/
def ltr (x : Str) (i : Nat) : Nat := x.cps.toList.getD i 0
theorem ltr_at {x : Str} {i c : Nat} (h : x.cps[i]? = some c) : ltr x i = c := by
  unfold ltr
  rw [List.getD_eq_getElem?_getD, Array.getElem?_toList, h]
  rfl
theorem ones_eq (a b : Nat) : decide (OneS a = OneS b) = decide (a = b) := by
  by_cases h : a = b
  · subst h; rw [decide_eq_true rfl, decide_eq_true rfl]
  · rw [decide_eq_false h, decide_eq_false fun e => h ?_]
    have q := V.str.inj e
    have q2 := congrArg (fun z : Str => z.cps.toList) q
    simpa using q2
theorem cut_ab {x : Str} {a b : Nat} (h1 : a ≤ b) (h2 : b ≤ x.length) : cutS x (some (a : Int)) (some (b : Int)) = ⟨((x.cps.toList.drop a).take (b - a)).toArray⟩ := by
  unfold cutS
  rw [HT.sIx_nat, HT.sIx_nat, Nat.min_eq_left h2, Nat.min_eq_left (Nat.le_trans h1 h2)]
theorem depthAll_const : ∀ (ds : List PyData) (n : Nat), (∀ d ∈ ds, d.depth ≤ n) → PyData.depthAll ds ≤ n
  | [], _, _ => Nat.zero_le _
  | d :: r, n, h => Nat.max_le.mpr ⟨h d List.mem_cons_self, depthAll_const r n fun e he => h e (List.mem_cons_of_mem _ he)⟩
theorem atI_end {xs : List V} {n : Nat} {v : V} (h : xs[n]? = some v) (hl : xs.length = n + 1) : atI xs (-1) = some v := by
  have e : xs = xs.take n ++ [v] := by
    have := List.take_append_drop n xs
    rw [drop_at h, List.drop_of_length_le (by omega)] at this
    exact this.symm
  rw [e]
  exact atI_last _ _
/-- pairs of numbers -/
def PrN (H : Hp) : List V → List (Nat × Nat) → Prop := Paired (fun v (p : Nat × Nat) => ∃ t, v = V.ref t ∧ H t = some (.tup [.int (p.1 : Nat), .int (p.2 : Nat)]))
theorem PrN.keep {H H1 : Hp} {xs : List V} {ps : List (Nat × Nat)} (h : PrN H xs ps) (s : Same H H1) : PrN H1 xs ps := pair_mono (fun v p ⟨t, e, ht⟩ => ⟨t, e, s _ _ ht⟩) h
theorem PrN.keepT {H H1 : Hp} {xs : List V} {ps : List (Nat × Nat)} (h : PrN H xs ps) (s : ∀ u ws, H u = some (.tup ws) → H1 u = some (.tup ws)) : PrN H1 xs ps := pair_mono (fun v p ⟨t, e, ht⟩ => ⟨t, e, s _ _ ht⟩) h
theorem at_ltr {x : Str} {i : Nat} (h : i < x.length) : atI x.cps.toList ((i : Nat) : Int) = some (ltr x i) := by
  refine atI_nat ?_
  unfold ltr
  have h2 : i < x.cps.toList.length := by rw [Array.length_toList]; exact h
  rw [List.getD_eq_getElem?_getD, List.getElem?_eq_getElem h2]
  rfl
/-! ## windows -/
theorem more_list {z y : Str} : (z ++ y).cps.toList = z.cps.toList ++ y.cps.toList := by
  show (z.cps ++ y.cps).toList = _
  simp
end Vk
set_option linter.all false
namespace Vk
/-! ## distances -/
def neq (a b : Nat) : Nat := if a = b then 0 else 1
def edD (A B : Nat → Nat) : Nat → Nat → Nat
  | 0, j => j
  | i + 1, 0 => i + 1
  | i + 1, j + 1 => min (min (edD A B i j + neq (A i) (B j)) (edD A B i (j + 1) + 1)) (edD A B (i + 1) j + 1)
theorem edD_0 {A B : Nat → Nat} {j : Nat} : edD A B 0 j = j := by cases j <;> simp [edD]
theorem edD_s0 {A B : Nat → Nat} {i : Nat} : edD A B i 0 = i := by cases i <;> simp [edD]
theorem edD_ss {A B : Nat → Nat} {i j : Nat} : edD A B (i + 1) (j + 1) = min (min (edD A B i j + neq (A i) (B j)) (edD A B i (j + 1) + 1)) (edD A B (i + 1) j + 1) := by simp [edD]
theorem edD_congr {A A2 B B2 : Nat → Nat} : ∀ (i j : Nat), (∀ t, t < i → A t = A2 t) → (∀ t, t < j → B t = B2 t) → edD A B i j = edD A2 B2 i j
  | 0, j, _, _ => by rw [edD_0, edD_0]
  | i + 1, 0, _, _ => by rw [edD_s0, edD_s0]
  | i + 1, j + 1, h1, h2 => by
    rw [edD_ss, edD_ss, edD_congr i j (fun t h => h1 t (by omega)) (fun t h => h2 t (by omega)), edD_congr i (j + 1) (fun t h => h1 t (by omega)) h2, edD_congr (i + 1) j h1 (fun t h => h2 t (by omega)), h1 i (by omega), h2 j (by omega)]
theorem neq_le (a b : Nat) : neq a b ≤ 1 := by unfold neq; split <;> omega
theorem edD_up {A B : Nat → Nat} : ∀ (i j : Nat), edD A B i j ≤ i + j
  | 0, j => by rw [edD_0]; omega
  | i + 1, 0 => by rw [edD_s0]; omega
  | i + 1, j + 1 => by
    have := edD_up (A := A) (B := B) i (j + 1)
    rw [edD_ss]; omega
/-! ## windows from a to i -/
def fD (X B : Nat → Nat) (a i j : Nat) : Nat := edD (fun t => X (a + t)) B (i - a) j
structure Best (X B : Nat → Nat) (i j num bits : Nat) : Prop where
  le : ∀ a, a ≤ i → num ≤ fD X B a i j
  bit : ∀ l, bits.testBit l = true ↔ l ≤ i ∧ fD X B (i - l) i j = num
  at_ : ∃ a, a ≤ i ∧ fD X B a i j = num
  up : num ≤ j
/-- the three pairs of next_column -/
def three (ne n1 b1 n2 b2 n3 b3 : Nat) : List (Nat × Nat) := [(n1 + ne, b1 * 2), (n2 + 1, b2 * 2), (n3 + 1, b3)]
/-! ## windows -/
/-! the law's rows -/
/-- what is told and what is due is the same -/
structure Cols (X B : Nat → Nat) (m n : Nat) (es : List (Nat × Nat)) : Prop where
  len : es.length = n
  best : ∀ i e, es[i]? = some e → Best X B (i + 1) m e.1 e.2
/-! an empty old -/
end Vk
set_option linter.all false
namespace Vk
/-! ## edits that make b of a, n of them -/
inductive Ed : List Nat → List Nat → Nat → Prop
  | nil : Ed [] [] 0
  | keep {a b : List Nat} {n : Nat} (x : Nat) : Ed a b n → Ed (x :: a) (x :: b) n
  | drop {a b : List Nat} {n : Nat} (x : Nat) : Ed a b n → Ed (x :: a) b (n + 1)
  | put {a b : List Nat} {n : Nat} (y : Nat) : Ed a b n → Ed a (y :: b) (n + 1)
  | set {a b : List Nat} {n : Nat} (x y : Nat) : Ed a b n → Ed (x :: a) (y :: b) (n + 1)
theorem Ed.refl : ∀ a : List Nat, Ed a a 0
  | [] => .nil
  | x :: a => .keep x (Ed.refl a)
theorem Ed.symm {a b : List Nat} {n : Nat} (h : Ed a b n) : Ed b a n := by
  induction h with
  | nil => exact .nil
  | keep x _ ih => exact .keep x ih
  | drop x _ ih => exact .put x ih
  | put y _ ih => exact .drop y ih
  | set x y _ ih => exact .set y x ih
theorem Ed.app {a b c d : List Nat} {n m : Nat} (h : Ed a b n) (g : Ed c d m) : Ed (a ++ c) (b ++ d) (n + m) := by
  induction h with
  | nil => rw [Nat.zero_add]; exact g
  | keep x _ ih => exact .keep x ih
  | @drop a b n x _ ih => rw [show n + 1 + m = n + m + 1 by omega]; exact .drop x ih
  | @put a b n y _ ih => rw [show n + 1 + m = n + m + 1 by omega]; exact .put y ih
  | @set a b n x y _ ih => rw [show n + 1 + m = n + m + 1 by omega]; exact .set x y ih
theorem Ed.rev {a b : List Nat} {n : Nat} (h : Ed a b n) : Ed a.reverse b.reverse n := by
  induction h with
  | nil => exact .nil
  | keep x _ ih => rw [List.reverse_cons, List.reverse_cons]; exact ih.app (.keep x .nil)
  | drop x _ ih =>
    rw [List.reverse_cons]
    have := ih.app (Ed.drop x .nil)
    rw [List.append_nil] at this
    exact this
  | put y _ ih =>
    rw [List.reverse_cons]
    have := ih.app (Ed.put y .nil)
    rw [List.append_nil] at this
    exact this
  | set x y _ ih => rw [List.reverse_cons, List.reverse_cons]; exact ih.app (.set x y .nil)
theorem Ed.len {a b : List Nat} {n : Nat} (h : Ed a b n) : a.length ≤ b.length + n ∧ b.length ≤ a.length + n := by
  induction h with
  | nil => exact ⟨Nat.le_refl _, Nat.le_refl _⟩
  | _ => simp only [List.length_cons] at *; omega
theorem Ed.zero {a b : List Nat} {n : Nat} (h : Ed a b n) (e : n = 0) : a = b := by
  induction h with
  | nil => rfl
  | keep x _ ih => rw [ih e]
  | _ => cases e
theorem Ed.puts : ∀ b : List Nat, Ed [] b b.length
  | [] => .nil
  | y :: b => .put y (Ed.puts b)
theorem Ed.trans {a b c : List Nat} {n m : Nat} (h : Ed a b n) (g : Ed b c m) : ∃ k, k ≤ n + m ∧ Ed a c k := by
  induction h generalizing c m with
  | nil => exact ⟨m, by omega, g⟩
  | @keep a b n x _ ih =>
    generalize hl : x :: b = l at g
    induction g with
    | nil => cases hl
    | keep y g _ =>
      cases hl
      obtain ⟨k, hk, e⟩ := ih g
      exact ⟨k, hk, .keep _ e⟩
    | drop y g _ =>
      cases hl
      obtain ⟨k, hk, e⟩ := ih g
      exact ⟨k + 1, by omega, .drop _ e⟩
    | put y g ig =>
      obtain ⟨k, hk, e⟩ := ig hl
      exact ⟨k + 1, by omega, .put _ e⟩
    | set y z g _ =>
      cases hl
      obtain ⟨k, hk, e⟩ := ih g
      exact ⟨k + 1, by omega, .set _ _ e⟩
  | @drop a b n x _ ih =>
    obtain ⟨k, hk, e⟩ := ih g
    exact ⟨k + 1, by omega, .drop _ e⟩
  | @put a b n x _ ih =>
    generalize hl : x :: b = l at g
    induction g with
    | nil => cases hl
    | keep y g _ =>
      cases hl
      obtain ⟨k, hk, e⟩ := ih g
      exact ⟨k + 1, by omega, .put _ e⟩
    | drop y g _ =>
      cases hl
      obtain ⟨k, hk, e⟩ := ih g
      exact ⟨k, by omega, e⟩
    | put y g ig =>
      obtain ⟨k, hk, e⟩ := ig hl
      exact ⟨k + 1, by omega, .put _ e⟩
    | set y z g _ =>
      cases hl
      obtain ⟨k, hk, e⟩ := ih g
      exact ⟨k + 1, by omega, .put _ e⟩
  | @set a b n x x2 _ ih =>
    generalize hl : x2 :: b = l at g
    induction g with
    | nil => cases hl
    | keep y g _ =>
      cases hl
      obtain ⟨k, hk, e⟩ := ih g
      exact ⟨k + 1, by omega, .set _ _ e⟩
    | drop y g _ =>
      cases hl
      obtain ⟨k, hk, e⟩ := ih g
      exact ⟨k + 1, by omega, .drop _ e⟩
    | put y g ig =>
      obtain ⟨k, hk, e⟩ := ig hl
      exact ⟨k + 1, by omega, .put _ e⟩
    | set y z g _ =>
      cases hl
      obtain ⟨k, hk, e⟩ := ih g
      exact ⟨k + 1, by omega, .set _ _ e⟩
theorem Ed.cancel {a b : List Nat} {x y n : Nat} (h : Ed (x :: a) (y :: b) n) : ∃ k, k ≤ n ∧ Ed a b k := by
  cases h with
  | keep _ h => exact ⟨_, Nat.le_refl _, h⟩
  | @drop _ _ n _ h =>
    obtain ⟨k, hk, e⟩ := h.trans (Ed.drop y (Ed.refl b))
    exact ⟨k, by omega, e⟩
  | @put _ _ n _ h =>
    obtain ⟨k, hk, e⟩ := (Ed.put x (Ed.refl a)).trans h
    exact ⟨k, by omega, e⟩
  | @set _ _ n _ _ h => exact ⟨n, by omega, h⟩
/-! ## the table's distance -/
def fnL (a : List Nat) : Nat → Nat := fun t => a.getD t 0
def dst (a b : List Nat) : Nat := edD (fnL a) (fnL b) a.length b.length
theorem fn_app {p : List Nat} {q : List Nat} {t : Nat} (h : t < p.length) : fnL (p ++ q) t = fnL p t := by
  unfold fnL
  rw [List.getD_eq_getElem?_getD, List.getD_eq_getElem?_getD, List.getElem?_append_left h]
theorem fn_last {p : List Nat} {x : Nat} : fnL (p ++ [x]) p.length = x := by
  unfold fnL
  rw [List.getD_eq_getElem?_getD, List.getElem?_append_right (Nat.le_refl _), Nat.sub_self]
  rfl
theorem dst_nil (a : List Nat) : dst a [] = a.length := by
  unfold dst
  exact edD_s0
theorem dst_nil2 (b : List Nat) : dst [] b = b.length := by
  unfold dst
  exact edD_0
theorem dst_ss {p q : List Nat} {x y : Nat} : dst (p ++ [x]) (q ++ [y]) = min (min (dst p q + neq x y) (dst p (q ++ [y]) + 1)) (dst (p ++ [x]) q + 1) := by
  unfold dst
  rw [List.length_append, List.length_append, List.length_singleton, List.length_singleton, edD_ss, fn_last, fn_last]
  rw [edD_congr p.length q.length (A := fnL (p ++ [x])) (A2 := fnL p) (B := fnL (q ++ [y])) (B2 := fnL q) (fun t h => fn_app h) (fun t h => fn_app h),
    edD_congr p.length (q.length + 1) (A := fnL (p ++ [x])) (A2 := fnL p) (B := fnL (q ++ [y])) (B2 := fnL (q ++ [y])) (fun t h => fn_app h) (fun t h => rfl),
    edD_congr (p.length + 1) q.length (A := fnL (p ++ [x])) (A2 := fnL (p ++ [x])) (B := fnL (q ++ [y])) (B2 := fnL q) (fun t h => rfl) (fun t h => fn_app h)]
theorem snoc_of {q : List Nat} (h : q ≠ []) : ∃ r y, q = r ++ [y] := ⟨q.dropLast, q.getLast h, (List.dropLast_concat_getLast h).symm⟩
theorem dst_drop {p q : List Nat} {x : Nat} : dst (p ++ [x]) q ≤ dst p q + 1 := by
  by_cases h : q = []
  · rw [h, dst_nil, dst_nil, List.length_append]; exact Nat.le_refl _
  · obtain ⟨r, y, rfl⟩ := snoc_of h
    rw [dst_ss]; omega
theorem dst_put {p q : List Nat} {y : Nat} : dst p (q ++ [y]) ≤ dst p q + 1 := by
  by_cases h : p = []
  · rw [h, dst_nil2, dst_nil2, List.length_append]; exact Nat.le_refl _
  · obtain ⟨r, x, rfl⟩ := snoc_of h
    rw [dst_ss]; omega
theorem dst_least {a b : List Nat} {n : Nat} (h : Ed a b n) : dst a.reverse b.reverse ≤ n := by
  induction h with
  | nil => exact Nat.le_of_eq (dst_nil [])
  | keep x _ ih =>
    rw [List.reverse_cons, List.reverse_cons, dst_ss]
    have : neq x x = 0 := by unfold neq; rw [if_pos rfl]
    omega
  | drop x _ ih =>
    rw [List.reverse_cons]
    exact Nat.le_trans dst_drop (by omega)
  | put y _ ih =>
    rw [List.reverse_cons]
    exact Nat.le_trans dst_put (by omega)
  | set x y _ ih =>
    rw [List.reverse_cons, List.reverse_cons, dst_ss]
    have := neq_le x y
    omega
theorem dst_le {a b : List Nat} {n : Nat} (h : Ed a b n) : dst a b ≤ n := by
  have := dst_least h.rev
  rwa [List.reverse_reverse, List.reverse_reverse] at this
theorem fn_at {a : List Nat} {i : Nat} (h : i < a.length) : a.take (i + 1) = a.take i ++ [fnL a i] := by
  rw [List.take_add_one, List.getElem?_eq_getElem h]
  unfold fnL
  rw [List.getD_eq_getElem?_getD, List.getElem?_eq_getElem h]
  rfl
theorem ed_table {a b : List Nat} : ∀ (i j : Nat), i ≤ a.length → j ≤ b.length → Ed (a.take i) (b.take j) (edD (fnL a) (fnL b) i j)
  | 0, j, _, hj => by
    rw [edD_0, List.take_zero]
    have := Ed.puts (b.take j)
    rwa [List.length_take, Nat.min_eq_left hj] at this
  | i + 1, 0, hi, _ => by
    rw [edD_s0, List.take_zero]
    have := (Ed.puts (a.take (i + 1))).symm
    rwa [List.length_take, Nat.min_eq_left hi] at this
  | i + 1, j + 1, hi, hj => by
    have h1 := ed_table (a := a) (b := b) i j (by omega) (by omega)
    have h2 := ed_table (a := a) (b := b) i (j + 1) (by omega) hj
    have h3 := ed_table (a := a) (b := b) (i + 1) j hi (by omega)
    rw [edD_ss]
    have e1 : Ed (a.take (i + 1)) (b.take (j + 1)) (edD (fnL a) (fnL b) i j + neq (fnL a i) (fnL b j)) := by
      rw [fn_at (a := a) (i := i) (by omega), fn_at (a := b) (i := j) (by omega)]
      refine h1.app ?_
      unfold neq
      split
      · next h => rw [h]; exact .keep _ .nil
      · exact .set _ _ .nil
    have e2 : Ed (a.take (i + 1)) (b.take (j + 1)) (edD (fnL a) (fnL b) i (j + 1) + 1) := by
      have := h2.app (Ed.drop (fnL a i) .nil)
      rwa [List.append_nil, ← fn_at (a := a) (i := i) (by omega)] at this
    have e3 : Ed (a.take (i + 1)) (b.take (j + 1)) (edD (fnL a) (fnL b) (i + 1) j + 1) := by
      have := h3.app (Ed.put (fnL b j) .nil)
      rwa [List.append_nil, ← fn_at (a := b) (i := j) (by omega)] at this
    rcases Nat.le_total (min (edD (fnL a) (fnL b) i j + neq (fnL a i) (fnL b j)) (edD (fnL a) (fnL b) i (j + 1) + 1)) (edD (fnL a) (fnL b) (i + 1) j + 1) with h | h
    · rw [Nat.min_eq_left h]
      rcases Nat.le_total (edD (fnL a) (fnL b) i j + neq (fnL a i) (fnL b j)) (edD (fnL a) (fnL b) i (j + 1) + 1) with h | h
      · rw [Nat.min_eq_left h]; exact e1
      · rw [Nat.min_eq_right h]; exact e2
    · rw [Nat.min_eq_right h]; exact e3
theorem ed_dst (a b : List Nat) : Ed a b (dst a b) := by
  have := ed_table (a := a) (b := b) a.length b.length (Nat.le_refl _) (Nat.le_refl _)
  rwa [List.take_length, List.take_length] at this
theorem dst_of {a b : List Nat} {n : Nat} (h : ∃ k, k ≤ n ∧ Ed a b k) : dst a b ≤ n := by
  obtain ⟨k, hk, e⟩ := h
  exact Nat.le_trans (dst_le e) hk
theorem dst_cat (a b c d : List Nat) : dst (a ++ c) (b ++ d) ≤ dst a b + dst c d := dst_le ((ed_dst a b).app (ed_dst c d))
theorem dst_self (a : List Nat) : dst a a = 0 := Nat.le_zero.mp (dst_le (Ed.refl a))
theorem dst_zero {a b : List Nat} : dst a b = 0 ↔ a = b := ⟨fun h => (ed_dst a b).zero h, fun h => by rw [h, dst_self]⟩
theorem dst_tails {a b : List Nat} {x y : Nat} : dst a b ≤ dst (x :: a) (y :: b) := dst_of (ed_dst _ _).cancel
end Vk
set_option linter.all false
namespace Vk
/-! ## diagonals -/
/-- letters that two texts have in common from the start -/
def com : List Nat → List Nat → Nat
  | x :: a, y :: b => if x = y then com a b + 1 else 0
  | _, _ => 0
theorem com_le : ∀ (a b : List Nat), com a b ≤ a.length ∧ com a b ≤ b.length
  | [], b => by unfold com; exact ⟨Nat.zero_le _, Nat.zero_le _⟩
  | x :: a, [] => by unfold com; exact ⟨Nat.zero_le _, Nat.zero_le _⟩
  | x :: a, y :: b => by
    have := com_le a b
    unfold com
    simp only [List.length_cons]
    split <;> omega
theorem com_take : ∀ (a b : List Nat), a.take (com a b) = b.take (com a b)
  | [], b => by unfold com; simp
  | x :: a, [] => by unfold com; simp
  | x :: a, y :: b => by
    unfold com
    split
    · next h => rw [List.take_succ_cons, List.take_succ_cons, com_take a b, h]
    · rfl
theorem com_self : ∀ a : List Nat, com a a = a.length
  | [] => rfl
  | x :: a => by
    unfold com
    rw [if_pos rfl, com_self a, List.length_cons]
theorem com_drop : ∀ (a b : List Nat) (t : Nat), t ≤ com a b → com (a.drop t) (b.drop t) = com a b - t
  | a, b, 0, _ => rfl
  | [], b, t + 1, h => by unfold com at h; omega
  | x :: a, [], t + 1, h => by unfold com at h; omega
  | x :: a, y :: b, t + 1, h => by
    have q : com (x :: a) (y :: b) = if x = y then com a b + 1 else 0 := rfl
    rw [q] at h ⊢
    split at h
    · next e =>
      rw [if_pos e, List.drop_succ_cons, List.drop_succ_cons]
      have := com_drop a b t (by omega)
      rw [this]
      omega
    · omega
theorem com_pos {a b : List Nat} {i j : Nat} (hi : i < a.length) (hj : j < b.length) : com (a.drop i) (b.drop j) = if fnL a i = fnL b j then com (a.drop (i + 1)) (b.drop (j + 1)) + 1 else 0 := by
  rw [List.drop_eq_getElem_cons hi, List.drop_eq_getElem_cons hj]
  have e1 : fnL a i = a[i] := by unfold fnL; rw [List.getD_eq_getElem?_getD, List.getElem?_eq_getElem hi]; rfl
  have e2 : fnL b j = b[j] := by unfold fnL; rw [List.getD_eq_getElem?_getD, List.getElem?_eq_getElem hj]; rfl
  rw [e1, e2]
  show (if a[i] = b[j] then _ else _) = _
  rfl
theorem com_end {a b : List Nat} {i j : Nat} (h : a.length ≤ i ∨ b.length ≤ j) : com (a.drop i) (b.drop j) = 0 := by
  have := com_le (a.drop i) (b.drop j)
  rw [List.length_drop, List.length_drop] at this
  omega
/-- the kinds of a step -/
inductive Wd | put | drop | set
deriving DecidableEq
/-- where a step may come from -/
def stP (m : Nat) (f : Int → Option Nat) (d : Int) : List (Nat × Wd) := match f (d - 1) with | some i => if (i : Int) + d ≤ m then [(i, .put)] else [] | none => []
def stD (n : Nat) (f : Int → Option Nat) (d : Int) : List (Nat × Wd) := match f (d + 1) with | some i => if i < n then [(i + 1, .drop)] else [] | none => []
def stS (n m : Nat) (f : Int → Option Nat) (d : Int) : List (Nat × Wd) := match f d with | some i => if (i : Int) < min (n : Int) (m - d) then [(i + 1, .set)] else [] | none => []
def stM (n m : Nat) (f : Int → Option Nat) (d : Int) : List (Nat × Wd) := stP m f d ++ stD n f d ++ stS n m f d
def goM (a b : List Nat) (s : Nat) (d : Int) : Nat := s + com (a.drop s) (b.drop ((s : Int) + d).toNat)
def topM (l : List (Nat × Wd)) : Nat := l.foldl (fun r p => max r p.1) 0
def nxM (a b : List Nat) (f : Int → Option Nat) (d : Int) : Option Nat :=
  if stM a.length b.length f d = [] then none else some (goM a b (topM (stM a.length b.length f d)) d)
def lvM (a b : List Nat) : Nat → Int → Option Nat
  | 0 => fun d => if d = 0 then some (goM a b 0 0) else none
  | e + 1 => nxM a b (lvM a b e)
/-- a place on a diagonal -/
def On (a b : List Nat) (i : Nat) (d : Int) : Prop := i ≤ a.length ∧ 0 ≤ (i : Int) + d ∧ (i : Int) + d ≤ b.length
structure LvOk (a b : List Nat) (e : Nat) (f : Int → Option Nat) : Prop where
  on : ∀ d i, f d = some i → On a b i d
  ed : ∀ d i, f d = some i → ∃ k, k ≤ e ∧ Ed (a.take i) (b.take ((i : Int) + d).toNat) k
  end_ : ∀ d i, f d = some i → com (a.drop i) (b.drop ((i : Int) + d).toNat) = 0
theorem go_on {a b : List Nat} {s : Nat} {d : Int} (h : On a b s d) : On a b (goM a b s d) d := by
  obtain ⟨h1, h2, h3⟩ := h
  have := com_le (a.drop s) (b.drop ((s : Int) + d).toNat)
  rw [List.length_drop, List.length_drop] at this
  unfold goM
  refine ⟨by omega, by omega, by omega⟩
theorem ed_com {a b : List Nat} {i j t k : Nat} (h : Ed (a.take i) (b.take j) k) (ht : t ≤ com (a.drop i) (b.drop j)) : Ed (a.take (i + t)) (b.take (j + t)) k := by
  have e : (a.drop i).take t = (b.drop j).take t := by
    have := congrArg (List.take t) (com_take (a.drop i) (b.drop j))
    rwa [List.take_take, List.take_take, Nat.min_eq_left ht] at this
  rw [List.take_add, List.take_add, e]
  exact h.app (Ed.refl _)
theorem go_ed {a b : List Nat} {s k : Nat} {d : Int} (h : On a b s d) (he : Ed (a.take s) (b.take ((s : Int) + d).toNat) k) : Ed (a.take (goM a b s d)) (b.take ((goM a b s d : Int) + d).toNat) k := by
  have := ed_com he (Nat.le_refl _)
  have h2 := h.2.1
  unfold goM
  rwa [show (((s + com (a.drop s) (b.drop ((s : Int) + d).toNat) : Nat) : Int) + d).toNat = ((s : Int) + d).toNat + com (a.drop s) (b.drop ((s : Int) + d).toNat) by omega]
theorem go_end {a b : List Nat} {s : Nat} {d : Int} (h : On a b s d) : com (a.drop (goM a b s d)) (b.drop ((goM a b s d : Int) + d).toNat) = 0 := by
  have h2 := h.2.1
  have := com_drop (a.drop s) (b.drop ((s : Int) + d).toNat) _ (Nat.le_refl _)
  rw [List.drop_drop, List.drop_drop, Nat.sub_self] at this
  unfold goM
  rwa [show (((s + com (a.drop s) (b.drop ((s : Int) + d).toNat) : Nat) : Int) + d).toNat = ((s : Int) + d).toNat + com (a.drop s) (b.drop ((s : Int) + d).toNat) by omega]
theorem top_mem : ∀ (l : List (Nat × Wd)) (r : Nat), (∃ p ∈ l, l.foldl (fun r p => max r p.1) r = p.1) ∨ l.foldl (fun r p => max r p.1) r = r
  | [], r => .inr rfl
  | p :: l, r => by
    rw [List.foldl_cons]
    rcases top_mem l (max r p.1) with ⟨q, hq, e⟩ | e
    · exact .inl ⟨q, List.mem_cons_of_mem _ hq, e⟩
    · rw [e]
      rcases Nat.le_total r p.1 with h | h
      · exact .inl ⟨p, List.mem_cons_self, Nat.max_eq_right h⟩
      · exact .inr (Nat.max_eq_left h)
theorem top_ge : ∀ (l : List (Nat × Wd)) (r : Nat), r ≤ l.foldl (fun r p => max r p.1) r ∧ ∀ p ∈ l, p.1 ≤ l.foldl (fun r p => max r p.1) r
  | [], r => ⟨Nat.le_refl _, fun p hp => absurd hp List.not_mem_nil⟩
  | q :: l, r => by
    obtain ⟨h1, h2⟩ := top_ge l (max r q.1)
    rw [List.foldl_cons]
    refine ⟨by omega, fun p hp => ?_⟩
    rcases List.mem_cons.mp hp with rfl | hp
    · omega
    · exact h2 p hp
theorem topM_le {l : List (Nat × Wd)} {p : Nat × Wd} (h : p ∈ l) : p.1 ≤ topM l := (top_ge l 0).2 p h
theorem topM_mem {l : List (Nat × Wd)} (h : l ≠ []) : ∃ p ∈ l, topM l = p.1 := by
  rcases top_mem l 0 with q | e
  · exact q
  · match l, h with
    | p :: l, _ =>
      refine ⟨p, List.mem_cons_self, ?_⟩
      have h2 := topM_le (l := p :: l) (p := p) List.mem_cons_self
      unfold topM at h2 ⊢
      omega
theorem topM_of {l : List (Nat × Wd)} {p : Nat × Wd} (h : p ∈ l) (hm : ∀ q ∈ l, q.1 ≤ p.1) : topM l = p.1 := by
  obtain ⟨q, hq, e⟩ := topM_mem (l := l) (fun z => by rw [z] at h; cases h)
  have := topM_le h
  have := hm q hq
  omega
theorem mem_st {n m : Nat} {f : Int → Option Nat} {d : Int} {p : Nat × Wd} : p ∈ stM n m f d ↔
    (p.2 = .put ∧ f (d - 1) = some p.1 ∧ (p.1 : Int) + d ≤ m) ∨ (p.2 = .drop ∧ ∃ i, f (d + 1) = some i ∧ i < n ∧ p.1 = i + 1) ∨ (p.2 = .set ∧ ∃ i, f d = some i ∧ (i : Int) < min (n : Int) (m - d) ∧ p.1 = i + 1) := by
  obtain ⟨i, w⟩ := p
  unfold stM stP stD stS
  rw [List.mem_append, List.mem_append, or_assoc]
  refine or_congr ?_ (or_congr ?_ ?_)
  · cases h : f (d - 1) with
    | none => simp
    | some j =>
      simp only
      split
      · rw [List.mem_singleton]
        constructor
        · intro e; cases e; exact ⟨rfl, rfl, by assumption⟩
        · rintro ⟨e1, e2, _⟩; cases e2; cases e1; rfl
      · constructor
        · intro e; cases e
        · rintro ⟨e1, e2, e3⟩; cases e2; omega
  · cases h : f (d + 1) with
    | none => simp
    | some j =>
      simp only
      split
      · rw [List.mem_singleton]
        constructor
        · intro e; cases e; exact ⟨rfl, j, rfl, by assumption, rfl⟩
        · rintro ⟨e1, k, e2, e3, e4⟩; cases e2; cases e1; cases e4; rfl
      · constructor
        · intro e; cases e
        · rintro ⟨e1, k, e2, e3, e4⟩; cases e2; omega
  · cases h : f d with
    | none => simp
    | some j =>
      simp only
      split
      · rw [List.mem_singleton]
        constructor
        · intro e; cases e; exact ⟨rfl, j, rfl, by assumption, rfl⟩
        · rintro ⟨e1, k, e2, e3, e4⟩; cases e2; cases e1; cases e4; rfl
      · constructor
        · intro e; cases e
        · rintro ⟨e1, k, e2, e3, e4⟩; cases e2; omega
theorem st_on {a b : List Nat} {e : Nat} {f : Int → Option Nat} (h : LvOk a b e f) {d : Int} {p : Nat × Wd} (hp : p ∈ stM a.length b.length f d) :
    On a b p.1 d ∧ ∃ k, k ≤ e + 1 ∧ Ed (a.take p.1) (b.take ((p.1 : Int) + d).toNat) k := by
  rcases mem_st.mp hp with ⟨_, h1, h2⟩ | ⟨_, i, h1, h2, h3⟩ | ⟨_, i, h1, h2, h3⟩
  · obtain ⟨o1, o2, o3⟩ := h.on _ _ h1
    obtain ⟨k, hk, e⟩ := h.ed _ _ h1
    refine ⟨⟨o1, by omega, h2⟩, k + 1, by omega, ?_⟩
    have q := e.app (Ed.put (fnL b ((p.1 : Int) + (d - 1)).toNat) .nil)
    rw [List.append_nil, ← fn_at (by omega)] at q
    rwa [show ((p.1 : Int) + d).toNat = ((p.1 : Int) + (d - 1)).toNat + 1 by omega]
  · obtain ⟨o1, o2, o3⟩ := h.on _ _ h1
    obtain ⟨k, hk, e⟩ := h.ed _ _ h1
    rw [h3]
    refine ⟨⟨by omega, by omega, by omega⟩, k + 1, by omega, ?_⟩
    have q := e.app (Ed.drop (fnL a i) .nil)
    rw [List.append_nil, ← fn_at h2] at q
    rwa [show (((i + 1 : Nat) : Int) + d).toNat = ((i : Int) + (d + 1)).toNat by omega]
  · obtain ⟨o1, o2, o3⟩ := h.on _ _ h1
    obtain ⟨k, hk, e⟩ := h.ed _ _ h1
    rw [h3]
    refine ⟨⟨by omega, by omega, by omega⟩, k + 1, by omega, ?_⟩
    have q := e.app (Ed.set (fnL a i) (fnL b ((i : Int) + d).toNat) .nil)
    rw [← fn_at (by omega), ← fn_at (by omega)] at q
    rwa [show (((i + 1 : Nat) : Int) + d).toNat = ((i : Int) + d).toNat + 1 by omega]
theorem lv_ok (a b : List Nat) : ∀ e, LvOk a b e (lvM a b e)
  | 0 => by
    have o : On a b 0 0 := ⟨Nat.zero_le _, by omega, by omega⟩
    have z : ∀ d i, lvM a b 0 d = some i → d = 0 ∧ i = goM a b 0 0 := fun d i h => by
      unfold lvM at h
      split at h
      · exact ⟨by assumption, (Option.some.inj h).symm⟩
      · cases h
    refine ⟨fun d i h => ?_, fun d i h => ?_, fun d i h => ?_⟩
    · obtain ⟨rfl, rfl⟩ := z d i h
      exact go_on o
    · obtain ⟨rfl, rfl⟩ := z d i h
      exact ⟨0, Nat.le_refl _, go_ed o Ed.nil⟩
    · obtain ⟨rfl, rfl⟩ := z d i h
      exact go_end o
  | e + 1 => by
    have ok := lv_ok a b e
    have z : ∀ d i, lvM a b (e + 1) d = some i → ∃ p, p ∈ stM a.length b.length (lvM a b e) d ∧ i = goM a b p.1 d := fun d i h => by
      unfold lvM nxM at h
      split at h
      · cases h
      · next hne =>
        obtain ⟨p, hp, ep⟩ := topM_mem hne
        exact ⟨p, hp, by rw [← ep]; exact (Option.some.inj h).symm⟩
    refine ⟨fun d i h => ?_, fun d i h => ?_, fun d i h => ?_⟩
    · obtain ⟨p, hp, rfl⟩ := z d i h
      exact go_on (st_on ok hp).1
    · obtain ⟨p, hp, rfl⟩ := z d i h
      obtain ⟨o, k, hk, q⟩ := st_on ok hp
      exact ⟨k, hk, go_ed o q⟩
    · obtain ⟨p, hp, rfl⟩ := z d i h
      exact go_end (st_on ok hp).1
/-- what is left from a place on -/
def leftM (a b : List Nat) (i : Nat) (d : Int) : Nat := dst (a.drop i) (b.drop ((i : Int) + d).toNat)
theorem left_mono {a b : List Nat} {i t : Nat} {d : Int} (h0 : 0 ≤ (i : Int) + d) (ha : i + t ≤ a.length) (hb : (i : Int) + d + t ≤ b.length) : leftM a b (i + t) d ≤ leftM a b i d := by
  induction t with
  | zero => exact Nat.le_refl _
  | succ t ih =>
    refine Nat.le_trans ?_ (ih (by omega) (by omega))
    unfold leftM
    have h1 : i + t < a.length := by omega
    have h2 : (((i + t : Nat) : Int) + d).toNat < b.length := by omega
    rw [List.drop_eq_getElem_cons h1, List.drop_eq_getElem_cons h2]
    rw [show (((i + (t + 1) : Nat) : Int) + d).toNat = (((i + t : Nat) : Int) + d).toNat + 1 by omega, show i + (t + 1) = i + t + 1 by omega]
    exact dst_tails
/-- the first step of a shortest way -/
theorem dst_first {a b : List Nat} (h : com a b = 0) (hp : 0 < dst a b) :
    (∃ y b', b = y :: b' ∧ dst a b' + 1 ≤ dst a b) ∨ (∃ x a', a = x :: a' ∧ dst a' b + 1 ≤ dst a b) ∨ (∃ x y a' b', a = x :: a' ∧ b = y :: b' ∧ dst a' b' + 1 ≤ dst a b) := by
  have e := ed_dst a b
  generalize dst a b = n at e hp
  cases e with
  | nil => omega
  | keep x e =>
    unfold com at h
    rw [if_pos rfl] at h
    omega
  | drop x e => exact .inr (.inl ⟨x, _, rfl, Nat.succ_le_succ (dst_le e)⟩)
  | put y e => exact .inl ⟨y, _, rfl, Nat.succ_le_succ (dst_le e)⟩
  | set x y e => exact .inr (.inr ⟨x, y, _, _, rfl, rfl, Nat.succ_le_succ (dst_le e)⟩)
theorem nx_go {a b : List Nat} {e : Nat} {f : Int → Option Nat} (ok : LvOk a b e f) {d : Int} {p : Nat × Wd} (hp : p ∈ stM a.length b.length f d) : ∃ i, nxM a b f d = some i ∧ leftM a b i d ≤ leftM a b p.1 d := by
  have ne : stM a.length b.length f d ≠ [] := fun z => by rw [z] at hp; cases hp
  unfold nxM
  rw [if_neg ne]
  refine ⟨_, rfl, ?_⟩
  obtain ⟨q, hq, eq⟩ := topM_mem ne
  have le := topM_le hp
  rw [eq] at le ⊢
  obtain ⟨o1, o2, o3⟩ := (st_on ok hp).1
  have oq := (st_on ok hq).1
  obtain ⟨g1, g2, g3⟩ := go_on oq
  have gle : q.1 ≤ goM a b q.1 d := by unfold goM; omega
  have := left_mono (a := a) (b := b) (i := p.1) (t := goM a b q.1 d - p.1) (d := d) o2 (by omega) (by omega)
  rwa [show p.1 + (goM a b q.1 d - p.1) = goM a b q.1 d by omega] at this
theorem lv_has (a b : List Nat) : ∀ e, e ≤ dst a b → ∃ d i, lvM a b e d = some i ∧ e + leftM a b i d ≤ dst a b
  | 0, _ => by
    refine ⟨0, goM a b 0 0, ?_, ?_⟩
    · unfold lvM; rw [if_pos rfl]
    · obtain ⟨g1, g2, g3⟩ := go_on (a := a) (b := b) (s := 0) (d := 0) ⟨Nat.zero_le _, by omega, by omega⟩
      have := left_mono (a := a) (b := b) (i := 0) (t := goM a b 0 0) (d := 0) (by omega) (by omega) (by omega)
      rw [Nat.zero_add] at this ⊢
      exact this
  | e + 1, he => by
    obtain ⟨d, i, hf, hl⟩ := lv_has a b e (by omega)
    have ok := lv_ok a b e
    obtain ⟨o1, o2, o3⟩ := ok.on _ _ hf
    have hz := ok.end_ _ _ hf
    -- what is left is more than nothing
    have hpos : 0 < leftM a b i d := by
      obtain ⟨k, hk, ed⟩ := ok.ed _ _ hf
      have c := dst_cat (a.take i) (b.take ((i : Int) + d).toNat) (a.drop i) (b.drop ((i : Int) + d).toNat)
      rw [List.take_append_drop, List.take_append_drop] at c
      have := dst_le ed
      unfold leftM
      omega
    have up : ∀ (d2 : Int) (p : Nat × Wd), p ∈ stM a.length b.length (lvM a b e) d2 → leftM a b p.1 d2 + 1 ≤ leftM a b i d → ∃ d i, lvM a b (e + 1) d = some i ∧ (e + 1) + leftM a b i d ≤ dst a b := fun d2 p hp hle => by
      obtain ⟨i2, h2, l2⟩ := nx_go ok hp
      exact ⟨d2, i2, h2, by omega⟩
    have la : (a.drop i).length = a.length - i := List.length_drop
    have lb : (b.drop ((i : Int) + d).toNat).length = b.length - ((i : Int) + d).toNat := List.length_drop
    rcases dst_first hz hpos with ⟨y, b', eb, hd⟩ | ⟨x, a', ea, hd⟩ | ⟨x, y, a', b', ea, eb, hd⟩
    · have l : b.length - ((i : Int) + d).toNat = b'.length + 1 := by rw [← lb, eb, List.length_cons]
      have e2 : b.drop ((i : Int) + (d + 1)).toNat = b' := by
        rw [show ((i : Int) + (d + 1)).toNat = ((i : Int) + d).toNat + 1 by omega, ← List.drop_drop, eb]
        rfl
      refine up (d + 1) (i, .put) (mem_st.mpr (.inl ⟨rfl, by rw [show d + 1 - 1 = d by omega]; exact hf, by show (i : Int) + (d + 1) ≤ _; omega⟩)) ?_
      show dst (a.drop i) (b.drop ((i : Int) + (d + 1)).toNat) + 1 ≤ _
      rw [e2]
      exact hd
    · have l : a.length - i = a'.length + 1 := by rw [← la, ea, List.length_cons]
      have e2 : a.drop (i + 1) = a' := by
        rw [← List.drop_drop, ea]
        rfl
      refine up (d - 1) (i + 1, .drop) (mem_st.mpr (.inr (.inl ⟨rfl, i, by rw [show d - 1 + 1 = d by omega]; exact hf, by omega, rfl⟩))) ?_
      show dst (a.drop (i + 1)) (b.drop (((i + 1 : Nat) : Int) + (d - 1)).toNat) + 1 ≤ _
      rw [e2, show (((i + 1 : Nat) : Int) + (d - 1)).toNat = ((i : Int) + d).toNat by omega]
      exact hd
    · have l : b.length - ((i : Int) + d).toNat = b'.length + 1 := by rw [← lb, eb, List.length_cons]
      have l2 : a.length - i = a'.length + 1 := by rw [← la, ea, List.length_cons]
      have e1 : a.drop (i + 1) = a' := by
        rw [← List.drop_drop, ea]
        rfl
      have e2 : b.drop (((i + 1 : Nat) : Int) + d).toNat = b' := by
        rw [show (((i + 1 : Nat) : Int) + d).toNat = ((i : Int) + d).toNat + 1 by omega, ← List.drop_drop, eb]
        rfl
      refine up d (i + 1, .set) (mem_st.mpr (.inr (.inr ⟨rfl, i, hf, by omega, rfl⟩))) ?_
      show dst (a.drop (i + 1)) (b.drop (((i + 1 : Nat) : Int) + d).toNat) + 1 ≤ _
      rw [e1, e2]
      exact hd
/-- where the levels end -/
theorem lv_goal {a b : List Nat} {e : Nat} (he : e ≤ dst a b) : lvM a b e ((b.length : Int) - a.length) = some a.length ↔ e = dst a b := by
  constructor
  · intro h
    obtain ⟨k, hk, ed⟩ := (lv_ok a b e).ed _ _ h
    rw [show ((a.length : Int) + ((b.length : Int) - a.length)).toNat = b.length by omega, List.take_length, List.take_length] at ed
    have := dst_le ed
    omega
  · rintro rfl
    obtain ⟨d, i, hf, hl⟩ := lv_has a b _ (Nat.le_refl _)
    have ok := lv_ok a b (dst a b)
    obtain ⟨o1, o2, o3⟩ := ok.on _ _ hf
    have hz := ok.end_ _ _ hf
    have l0 : dst (a.drop i) (b.drop ((i : Int) + d).toNat) = 0 := by
      unfold leftM at hl
      omega
    have e := dst_zero.mp l0
    rw [e, com_self, List.length_drop] at hz
    have l2 : (a.drop i).length = (b.drop ((i : Int) + d).toNat).length := by rw [e]
    rw [List.length_drop, List.length_drop] at l2
    have h1 : i = a.length := by omega
    have h2 : d = (b.length : Int) - a.length := by omega
    rw [← h2, ← h1]
    exact hf
end Vk
set_option linter.all false
namespace Vk
/-! ## changes -/
inductive Op | put (i c : Nat) | drop (i : Nat) | set (i c : Nat)
def okOp (x : List Nat) : Op → Prop
  | .put i _ => i ≤ x.length
  | .drop i => i < x.length
  | .set i c => i < x.length ∧ fnL x i ≠ c
def doOp (x : List Nat) : Op → List Nat
  | .put i c => x.take i ++ c :: x.drop i
  | .drop i => x.take i ++ x.drop (i + 1)
  | .set i c => x.take i ++ c :: x.drop (i + 1)
def opL (b : List Nat) : Op → Prop
  | .put _ c => c ∈ b
  | .drop _ => True
  | .set _ c => c ∈ b
def ToM : List Nat → List Op → List Nat → Prop
  | x, [], y => x = y
  | x, c :: cs, y => okOp x c ∧ ToM (doOp x c) cs y
theorem ToM.snoc : ∀ {cs : List Op} {x y : List Nat} {c : Op}, ToM x cs y → okOp y c → ToM x (cs ++ [c]) (doOp y c)
  | [], x, y, c, h, ok => by
    cases (show x = y from h)
    exact ⟨ok, rfl⟩
  | o :: cs, x, y, c, h, ok => ⟨h.1, ToM.snoc h.2 ok⟩
/-- the text at a place on the way back -/
def atM (a b : List Nat) (i : Nat) (d : Int) : List Nat := a.take i ++ b.drop ((i : Int) + d).toNat
/-- the way back from the last level -/
structure BackM (a b : List Nat) (t : Nat) (d : Int) (cs : List Op) : Prop where
  at_ : ∃ i, lvM a b (dst a b - t) d = some i ∧ ToM a cs (atM a b i d)
  len : cs.length = t
  let_ : ∀ c ∈ cs, opL b c
end Vk
set_option Elab.async false
set_option maxRecDepth 100000
set_option maxHeartbeats 4000000
set_option linter.all false
namespace Vk
open PySem PySem.Spec PyProof.Rows L2
/-! ## for i, c in enumerate(x), x a text -/
/-- the letters of x, each in a new pair -/
def Ites (x : Str) : It :=
  ⟨fun i H => i < x.cps.size, fun i H v H' => ∃ T c, v = .ref T ∧ H T = none ∧ H' = upd H T (.tup [.int (i : Nat), .str ⟨#[c]⟩]) ∧ x.cps[i]? = some c, fun i H => x.cps.size = i⟩
theorem turn_enumS {P : Program} {w : World} {K : PySem.W.Frag} {elts : List Expr} {kk : Nat} {tpos : Pos} (x : Str) (t : Tok) (e it : Addr) :
    Turn P w K (.Tuple elts kk tpos) (Ites x) [e, it] e (fun i h => (∃ old, IsEnum h e it ((i : Nat) : Int) old) ∧ h.IsStrIter it (strIterType x) x t i ∧ e ≠ it) where
  mem := by simp
  obj := fun i h st b hb => by
    obtain ⟨⟨old, he⟩, ⟨o, ho, hc, hd⟩, _⟩ := st
    rcases List.mem_cons.mp hb with z | z
    · exact z ▸ ⟨_, he, fun v q => nomatch q⟩
    · rw [List.mem_singleton] at z
      exact z ▸ ⟨o, ho, fun v q => by rw [hd] at q; cases q⟩
  keep := fun i h h' st k => by
    obtain ⟨⟨old, he⟩, ⟨o, ho, r⟩, rest⟩ := st
    exact ⟨⟨old, k e List.mem_cons_self _ he⟩, ⟨o, k it (List.mem_cons_of_mem _ List.mem_cons_self) o ho, r⟩, rest⟩
  item := by
    intro X hP hw hK hc i pins s σ H E I hf st hg
    subst hP hw hK
    obtain ⟨⟨old, he⟩, hit, hne⟩ := st
    have big1 : e < s.heap.objs.size := Heap.lt_size he
    have big2 : it < s.heap.objs.size := by obtain ⟨_, q, _⟩ := hit; exact Heap.lt_size q
    refine wpAny_pyNext_enum_itemD (Draws.text (A := X.A.in1) (I.ok.hd hc) it x t) he hit hg hne (by simp [hne]) fun u2 h2 tk hu2 ho st2 hT hsz hk => ?_
    obtain ⟨c, u, hcx, rfl⟩ := hu2
    refine ⟨_, rfl, wpAny_letOwnedTupleGo_enum (s := { s with heap := h2, toks := tk + 1 }) ho fun h3 he3 sb => ?_⟩
    have hT3 : h3.get? s.heap.objs.size = some { cls := .type "tuple", data := .seq #[.int i tk, .str ⟨#[c]⟩ u] } := (sb.2 _ (Nat.ne_of_gt big1)).trans hT
    have laid : ObjOk X.prog X.w (upd H s.heap.objs.size (.tup [.int (i : Nat), .str ⟨#[c]⟩])) h3 s.heap.objs.size (.tup [.int (i : Nat), .str ⟨#[c]⟩]) := ⟨(by show 2 ≤ sizeLine; decide), [.int i tk, .str ⟨#[c]⟩ u], .cons ⟨_, rfl⟩ (.cons ⟨_, rfl⟩ .nil), ⟨_, hT3, rfl, _, rfl⟩⟩
    have I1 : Inv X pins σ (upd H s.heap.objs.size (.tup [.int (i : Nat), .str ⟨#[c]⟩])) { s with heap := h3, toks := tk + 1 } :=
      I.turnedNew (ch := [e, it]) (fun b ob hb q => (sb.2 b (fun z => hb (by simp [z]))).trans (hk b ob (fun z => hb (by simp [z])) (fun z => hb (by simp [z])) q)) hf (Nat.le_refl _) laid
    refine ⟨.ref s.heap.objs.size, _, I1, rfl, ⟨_, c, rfl, I.hok.fresh (Nat.le_refl _), rfl, hcx⟩, ⟨⟨.str ⟨#[c]⟩ u, ?_⟩, ?_, hne⟩, fun b hb => ?_⟩
    · rw [show ((i + 1 : Nat) : Int) = (i : Int) + 1 by omega]
      exact he3
    · obtain ⟨o2, q2, r2⟩ := st2
      exact ⟨o2, (sb.2 it (Ne.symm hne)).trans q2, r2⟩
    · have old1 : b < s.heap.objs.size := by
        rcases List.mem_cons.mp hb with z | z
        · exact z ▸ big1
        · rw [List.mem_singleton] at z
          exact z ▸ big2
      exact (upd_ne (Nat.ne_of_lt old1)).trans (hf b hb).1
  done := by
    intro X hP hw hK hc i pins s σ H E I hf st hg
    subst hP hw hK
    obtain ⟨⟨old, he⟩, hit, hne⟩ := st
    obtain ⟨f0, f1, f2, f3, f4, f5⟩ := hf it (List.mem_cons_of_mem _ List.mem_cons_self)
    have le : i = x.cps.size := hg.symm
    exact wpAny_pyNext_enum_endD (Draws.text (A := X.A.in1) (I.ok.hd hc) it x t) he (le ▸ hit) fun h' eb => ⟨rfl, I.turned (t' := s.toks) (fun b o hb q => eb b o hb q) f0 f1 f3 f4 f5⟩
  self := fun A i s Q E st h => let ⟨⟨_, he⟩, _⟩ := st; wpAny_pyIter_enum he h
def iEnumS (ta : TA) : TI := fun σ H R => ta σ H fun vs H1 => ∃ x, vs = [.str x] ∧ R (Ites x) H1
theorem pi_enumS {X : Cx} {e : Expr} {ta : TA} {p pos tpos : Pos} {elts : List Expr} {kk : Nat} (gl : Gl X "enumerate") (hm : X.mg "enumerate" = none) (ha : PA X [e] ta) (hs : starEach [e] X.env = [(false, eval e X.env)] := by rfl) :
    PI X (.Tuple elts kk tpos) (.Call (.Name "enumerate" p) [e] [] pos) (iEnumS ta) := by
  refine ⟨fun pins s σ H R I h => Call_ (ld_blt I gl hm boot_enumerate (PyProof.Rows.callWith_type1 (thn (ha.run pos pins s σ H _ I h) fun us s1 hh => ?_) hs rfl))⟩
  obtain ⟨vs, H1, I1, r1, x, rfl, q⟩ := hh
  obtain ⟨u, rfl, ru⟩ := r1.one
  obtain ⟨t, rfl⟩ := ru
  refine call_enumerate_str fun h2 he hit _ hk => wpAny_pyIter_enum he ?_
  have I2 : Inv X pins σ H1 { s1 with heap := h2 } := I1.kept (t' := s1.toks) hk
  refine ⟨s1.heap.objs.size + 1, [s1.heap.objs.size + 1, s1.heap.objs.size], _, _, H1, rfl, I2, turn_enumS x t (s1.heap.objs.size + 1) s1.heap.objs.size, ⟨⟨.none, he⟩, hit, Nat.succ_ne_self _⟩, fun b hb => ?_, q⟩
  have le : s1.heap.objs.size ≤ b := by
    rcases List.mem_cons.mp hb with z | z
    · rw [z]; exact Nat.le_succ _
    · rw [List.mem_singleton.mp z]; exact Nat.le_refl _
  exact I1.fpOk le (I1.hok.fresh le)
/-! ## loops over these -/
theorem for_enumS {x : Str} {g : TG} {tb : TS} {D : Ends} {σ : L2.St} {H : Hp} (Pv : Nat → L2.St → Hp → Prop) (h0 : Pv 0 σ H)
    (hs : ∀ i c σ H T, x.cps[i]? = some c → H T = none → Pv i σ H → g (.ref T) σ (upd H T (.tup [.int (i : Nat), .str ⟨#[c]⟩])) fun σ2 H2 => tb { D with nx := Pv (i + 1), ct := Pv (i + 1), bk := D.nx } σ2 H2) (hd : ∀ σ H, Pv x.cps.size σ H → D.nx σ H) :
    ∃ W : Nat → Nat → L2.St → Hp → Prop, (∃ m, W 0 m σ H) ∧ ∀ i m σ H, W i m σ H →
      ((Ites x).stop i H ∧ D.nx σ H) ∨ ((Ites x).go i H ∧ ∃ N : L2.St → Hp → Prop, (∀ σ' H', N σ' H' → ∃ m', m' < m ∧ W (i + 1) m' σ' H') ∧ ∀ x1 H', (Ites x).yld i H x1 H' → g x1 σ H' fun σ2 H2 => tb { D with nx := N, ct := N, bk := D.nx } σ2 H2) := by
  refine ⟨fun i m σ H => m = x.cps.size - i ∧ i ≤ x.cps.size ∧ Pv i σ H, ⟨x.cps.size, by simp, Nat.zero_le _, h0⟩, ?_⟩
  rintro i m σ H ⟨rfl, hi, p⟩
  by_cases hlt : i < x.cps.size
  · refine .inr ⟨hlt, Pv (i + 1), fun σ' H' p' => ⟨x.cps.size - (i + 1), by omega, rfl, hlt, p'⟩, ?_⟩
    rintro x1 H' ⟨T, c, rfl, hT, rfl, hc⟩
    exact hs i c σ H T hc hT p
  · have e : i = x.cps.size := by omega
    subst e
    exact .inl ⟨rfl, hd σ H p⟩
end Vk
set_option Elab.async false
set_option maxRecDepth 100000
set_option linter.all false
namespace Vk
open PySem PySem.Spec PyProof.Rows L2
def top (i : Nat) : Stmt := PySem.Challenge.pw_anchoredits_k60_whole_far_papers.main.body.getD i (.Pass ⟨0, 0, 0, 0⟩)
structure Txt (mg : Str → Option Value) : Prop where
  str : mg "str" = none
  tuple : mg "tuple" = none
  enumerate : mg "enumerate" = none
  bool : mg "bool" = none
  sum : mg "sum" = none
  max : mg "max" = none
  ValueError : mg "ValueError" = none
  len : mg "len" = none
  list : mg "list" = none
  int : mg "int" = none
  abs : mg "abs" = none
  range : mg "range" = none
  min : mg "min" = none
  repr : mg "repr" = none
  isinstance : mg "isinstance" = none
  all : mg "all" = none
  any : mg "any" = none
  reversed : mg "reversed" = none
section
variable {P : Program} {w : World} {K : PySem.W.Frag} {mg : Str → Option Value} {base : Heap}
/-- a text: a string of letters -/
def isT : PyData → Bool
  | .str z => decide (V.str (Txt.lstripChars z letS) = V.str "")
  | _ => false
/-- strings of values are short -/
def Srt (d : PyData) : Prop := match d with | .str z => z.length ≤ 1000 ∧ PyData.strOk z = true | _ => True
theorem upd_twice {H : Hp} {a : Addr} {o1 o2 : HO} : upd (upd H a o1) a o2 = upd H a o2 := by
  funext b
  by_cases h : b = a
  · subst h; rw [upd_same, upd_same]
  · rw [upd_ne h, upd_ne h, upd_ne h]
abbrev s_lsigns : Stmt := top 16
theorem sc_lsigns : FnScope [] [] (defScope s_lsigns) := ⟨rfl, rfl, rfl, by decide +kernel, rfl, by decide +kernel, by decide +kernel⟩
theorem b_lsigns {f : Addr} {fd : FuncData} (F : Fun K "_law_signs" "_law_signs" s_lsigns f fd) (T : Txt mg) : FnG P w K mg base CX0 1 f fd [] spSigns := by
  refine okG0 F sc_lsigns (fun vs H Q E h => ?_) (fun cdv A outer s H vs Q E hg hr h => ?_)
  · obtain ⟨rfl, _⟩ := h
    rfl
  · have hu := hu_of hr
    have hu64 := hr.units
    obtain ⟨rfl, k⟩ := h
    exact ⟨_, (pss_one (ps_ret pe_str)), k⟩

abbrev s_is_integer : Stmt := top 1
theorem sc_is_integer : FnScope ["value"] ["value"] (defScope s_is_integer) := ⟨rfl, rfl, rfl, by decide +kernel, rfl, by decide +kernel, by decide +kernel⟩
end
end Vk
set_option Elab.async false
set_option maxRecDepth 100000
set_option linter.all false
set_option maxHeartbeats 4000000
namespace Vk
open PySem PySem.Spec PyProof.Rows L2
section
variable {P : Program} {w : World} {K : PySem.W.Frag} {mg : Str → Option Value} {base : Heap}
abbrev Ltr (x : Str) : Prop := ∀ c ∈ x.cps.toList, c ∈ letS.cps.toList
theorem lt_word {z x : Str} {a b : Nat} (fz : Few z) (w : Word z a b x) : Ltr x := fun c hc => fz.2.2 c (w.2.2 c hc)
theorem lt_one {z : Str} {c : Nat} (fz : Few z) (h : c ∈ z.cps.toList) : Ltr (⟨#[c]⟩ : Str) := fun d hd => by
  have e : d ∈ [c] := hd
  rw [List.mem_singleton.mp e]
  exact fz.2.2 c h
theorem cutS_lt {x : Str} (h : Ltr x) (a b : Option Int) : Ltr (cutS x a b) := fun c hc => by
  have hc2 : c ∈ (List.toArray ((x.cps.toList.drop (HT.sIx x.length 0 a)).take (HT.sIx x.length x.length b - HT.sIx x.length 0 a))).toList := hc
  rw [List.toList_toArray] at hc2
  exact h c (List.mem_of_mem_drop (List.mem_of_mem_take hc2))
theorem lt_more {z y : Str} (h1 : Ltr z) (h2 : Ltr y) : Ltr (z ++ y) := fun c hc => by
  rw [more_list] at hc
  rcases List.mem_append.mp hc with h | h
  · exact h1 c h
  · exact h2 c h
theorem lt_none : Ltr "" := by decide +kernel
abbrev s_ldraw : Stmt := top 14
theorem sc_ldraw : FnScope ["_law_pen_here", "_law_many", "_law_digit", "_law_turn", "_law_cell", "_law_primes", "_law_prime", "_law_drawn"] ["_law_pen_here", "_law_many"] (defScope s_ldraw) := ⟨rfl, rfl, rfl, by decide +kernel, rfl, by decide +kernel, by decide +kernel⟩
theorem b_ldraw {f : Addr} {fd : FuncData} (F : Fun K "_law_draw" "_law_draw" s_ldraw f fd) (T : Txt mg) : FnG P w K mg base CX0 1 f fd ["_law_pen_here", "_law_many"] spDraw := by
  refine okG0 F sc_ldraw (fun vs H Q E h => ?_) (fun cdv A outer s H vs Q E hg hr h => ?_)
  · obtain ⟨p, c, m, T0, rfl, _⟩ := h
    rfl
  · have hu := hu_of hr
    have hu64 := hr.units
    obtain ⟨p, c, m, T0, rfl, m0, m1, ⟨ns, t, l, hp, hc, hn, t0, tT, l0⟩, hT, k⟩ := h
    have ncp : c ≠ p := ne_of hc hp (by intro z; cases z)
    have lenns : (ns.map V.int).length = ns.length := List.length_map _
    refine ⟨_, (pss_cons (ps_if (pt_cmpR op_gt (pe_dget hu (pv 0) pe_str (fun _ _ => rfl)) pe_int (nomark _)) (pss_cons (ps_set (i := 2) sc_ldraw.nd rfl (Or.inl rfl) (pe_op op_mod (pe_callTy call_int1 (by rfl) T.int (by decide +kernel) (pa_cons (pe_dget hu (pv 0) pe_str (fun _ _ => rfl)) pa_nil)) (pv 1)))
      (pss_cons (ps_dput hu (pv 0) pe_str (pe_op op_fdiv (pe_dget hu (pv 0) pe_str (fun _ _ => rfl)) (pv 1)) rfl)
      (pss_one (ps_ret (pv 2))))) pss_nil)
      (pss_cons (ps_set (i := 3) sc_ldraw.nd rfl (Or.inl rfl) (pe_dget hu (pv 0) pe_str (fun _ _ => rfl)))
      (pss_cons (ps_dput hu (pv 0) pe_str (pe_op op_add (pv 3) pe_int) rfl)
      (pss_cons (ps_set (i := 4) sc_ldraw.nd rfl (Or.inl rfl) (pe_op op_add (pe_op op_mul pe_int (pv 3)) pe_int))
      (C8.pss_cut (ps_if (pt_cmpR (op_neD hu64) (pe_dget hu (pv 0) pe_str (fun _ _ => rfl)) (pe_lst pa_nil) (nomark _)) (pss_one (ps_set (i := 4) sc_ldraw.nd rfl (Or.inl rfl) (pe_ix ix_seq (pe_dget hu (pv 0) pe_str (fun _ _ => rfl)) (pe_op op_mod (pe_callTy call_int1 (by rfl) T.int (by decide +kernel) (pa_cons (pv 3) pa_nil)) (pe_callB call_len (by rfl) T.len (by decide +kernel) (pa_cons (pe_dget hu (pv 0) pe_str (fun _ _ => rfl)) pa_nil))) (fun _ _ => rfl)))) pss_nil)
      (C8.pss_cut (ps_if (PW.pt (pw_and (pt_cmpR op_lt (pv 3) (pe_callB call_len (by rfl) T.len (by decide +kernel) (pa_cons (pe_dget hu (pv 0) pe_str (fun _ _ => rfl)) pa_nil)) (nomark _)) (pw_and1 (pt_cmpR op_ge (pe_callB call_abs (by rfl) T.abs (by decide +kernel) (pa_cons (pv 4) pa_nil)) (pe_op op_pow pe_int pe_int) (nomark _))))) (pss_cons (ps_dput hu (pv 0) pe_str (pe_op op_fdiv (pe_op op_sub (pe_callB call_abs (by rfl) T.abs (by decide +kernel) (pa_cons (pv 4) pa_nil)) (pe_op op_pow pe_int pe_int)) (pv 1)) rfl)
      (pss_one (ps_ret (pe_op op_mod (pe_op op_sub (pe_callB call_abs (by rfl) T.abs (by decide +kernel) (pa_cons (pv 4) pa_nil)) (pe_op op_pow pe_int pe_int)) (pv 1))))) pss_nil)
      (pss_cons (ps_set (i := 5) sc_ldraw.nd rfl (Or.inl rfl) (pe_lst (pa_cons pe_int (pa_cons pe_int (pa_cons pe_int (pa_cons pe_int (pa_cons pe_int pa_nil)))))))
      (pss_cons (ps_set (i := 6) sc_ldraw.nd rfl (Or.inl rfl) (pe_ix ix_seq (pv 5) (pe_op op_mod (pe_callTy call_int1 (by rfl) T.int (by decide +kernel) (pa_cons (pv 3) pa_nil)) pe_int) (fun _ _ => rfl)))
      (pss_cons (ps_set (i := 7) sc_ldraw.nd rfl (Or.inl rfl) (pe_op op_mod (pe_callTy call_int1 (by rfl) T.int (by decide +kernel) (pa_cons (pe_op op_add (pe_op op_add (pe_op op_mul (pe_op op_mod (pe_callTy call_int1 (by rfl) T.int (by decide +kernel) (pa_cons (pv 4) pa_nil)) (pv 6)) pe_int) (pe_op op_mul (pv 3) (pe_op op_add (pe_op op_mul pe_int (pv 3)) pe_int))) pe_int) pa_nil)) (pv 6)))
      (pss_cons (ps_set (i := 7) sc_ldraw.nd rfl (Or.inl rfl) (pe_op op_mod (pe_callTy call_int1 (by rfl) T.int (by decide +kernel) (pa_cons (pe_op op_mul (pv 7) (pe_op op_add (pv 7) pe_int)) pa_nil)) (pe_ix ix_seq (pv 5) (pe_op op_mod (pe_callTy call_int1 (by rfl) T.int (by decide +kernel) (pa_cons (pe_op op_add (pv 3) pe_int) pa_nil)) pe_int) (fun _ _ => rfl))))
      (pss_one (ps_ret (pe_op op_mod (pe_callTy call_int1 (by rfl) T.int (by decide +kernel) (pa_cons (pe_op op_fdiv (pe_op op_mod (pe_callTy call_int1 (by rfl) T.int (by decide +kernel) (pa_cons (pe_op op_add (pe_op op_add (pe_op op_mul (pv 7) (pv 7)) (pe_op op_mul pe_int (pv 7))) (pv 3)) pa_nil)) pe_int) pe_int) pa_nil)) (pv 1)))))))))))))), ?_⟩
    refine ⟨_, rfl, p, _, rfl, get_left hp, _, _, rfl, rfl, _, rfl, ?_⟩
    refine ite2 (fun hl => ?_) (fun hl => ?_)
    · refine ⟨_, rfl, p, _, rfl, get_left hp, .inl ⟨_, rfl, ?_⟩⟩
      refine ⟨_, rfl, _, _, rfl, rfl, m0, ?_⟩
      refine ⟨_, rfl, p, _, rfl, get_left hp, _, rfl, _, _, rfl, rfl, ⟨by omega, by omega⟩, ?_⟩
      refine ⟨_, rfl, p, _, rfl, put_left hp, _, rfl, ?_⟩
      refine k _ _ (Int.emod_nonneg _ (by omega)) (Int.emod_lt_of_pos _ m0) ⟨ns, t, _, upd_same, (upd_ne ncp).trans hc, hn, t0, by omega, Int.ediv_nonneg l0 (by omega)⟩ Ext.at
    · refine ⟨_, rfl, p, _, rfl, get_turn hp, ?_⟩
      refine ⟨_, rfl, _, _, rfl, rfl, _, rfl, p, _, rfl, put_turn hp, ?_⟩
      generalize hH1 : upd H p (.dK (penL c (t + 1) l)) = H1
      have hp1 : H1 p = some (.dK (penL c (t + 1) l)) := by rw [← hH1]; exact upd_same
      have hc1 : H1 c = some (.lst (ns.map V.int)) := by rw [← hH1]; exact (upd_ne ncp).trans hc
      have e1 : Ext p H H1 := by rw [← hH1]; exact Ext.at
      refine ⟨_, rfl, _, _, rfl, rfl, .inl ⟨by decide, by decide⟩, _, _, rfl, rfl, ?_⟩
      refine ⟨fun σ' H2 => ∃ z : Int, σ' = [some (.ref p), some (.int m), none, some (.int t), some (.int z), none, none, none] ∧ H2 p = some (.dK (penL c (t + 1) l)) ∧ H2 c = some (.lst (ns.map V.int)) ∧ Ext p H H2, ?_, ?_⟩
      · refine ⟨_, rfl, p, _, rfl, get_cells hp1, by decide, fun b hb => ?_⟩
        have hp2 := up_new (u := .lst []) hp1 hb
        have hc2 := up_new (u := .lst []) hc1 hb
        refine ⟨.list (ns.map .int), .list [], .lst (SqL.of hc2) (ints_dp ns), .lst (SqL.of upd_same) .nil, ints_shaped ns, by decide +kernel, _, rfl, ?_⟩
        rw [ints_ne_nil]
        refine ite2 (fun hne => ?_) (fun _ => ?_)
        · have hpos : 0 < ns.length := by
            cases ns with
            | nil => simp at hne
            | cons a r => exact Nat.succ_pos _
          refine ⟨_, rfl, p, _, rfl, get_cells hp2, _, rfl, .inl ⟨_, rfl, _, rfl, p, _, rfl, get_cells hp2, _, _, rfl, .inl ⟨_, SqL.of hc2, rfl⟩, _, _, rfl, rfl, ?_, ?_⟩⟩
          · rw [lenns]; omega
          · obtain ⟨v, hv, hm⟩ := at_mod (xs := ns.map V.int) (i := t % ((ns.map V.int).length : Int)) (Int.emod_nonneg _ (by rw [lenns]; omega)) (Int.emod_lt_of_pos _ (by rw [lenns]; omega))
            obtain ⟨z, _, rfl⟩ := List.mem_map.mp hm
            refine .inl ⟨_, _, _, _, rfl, rfl, SqL.of hc2, hv, z, rfl, hp2, hc2, e1.set (e1.none_of ?_ hb)⟩
            exact (ne_of_none hp1 hb).symm
        · exact ⟨_, rfl, hp2, hc2, e1.set (e1.none_of (ne_of_none hp1 hb).symm hb)⟩
      · rintro σ2 H2 ⟨z, rfl, hp2, hc2, e2⟩
        refine ⟨fun σ' H3 => σ' = [some (.ref p), some (.int m), none, some (.int t), some (.int z), none, none, none] ∧ H3 = H2, ?_, ?_⟩
        · refine ⟨_, rfl, _, rfl, p, _, rfl, get_cells hp2, _, _, rfl, .inl ⟨_, SqL.of hc2, rfl⟩, _, _, rfl, rfl, _, rfl, ?_⟩
          refine ite2 (fun _ => ?_) (fun _ => ?_)
          · refine ⟨_, rfl, _, rfl, _, _, rfl, rfl, ⟨by decide, by decide, by decide⟩, _, _, rfl, rfl, _, rfl, ?_⟩
            refine ite2 (fun hbig => ?_) (fun _ => ?_)
            · have big := of_decide_eq_true hbig
              refine ⟨_, rfl, _, rfl, _, _, rfl, rfl, ⟨by decide, by decide, by decide⟩, _, _, rfl, rfl, _, rfl, _, _, rfl, rfl, ⟨by omega, by omega⟩, ?_⟩
              refine ⟨_, rfl, p, _, rfl, put_left hp2, ?_⟩
              refine ⟨_, rfl, _, rfl, _, _, rfl, rfl, ⟨by decide, by decide, by decide⟩, _, _, rfl, rfl, _, rfl, _, _, rfl, rfl, m0, ?_⟩
              refine k _ _ (Int.emod_nonneg _ (by omega)) (Int.emod_lt_of_pos _ m0) ⟨ns, t + 1, _, upd_same, (upd_ne ncp).trans hc2, hn, by omega, by omega, Int.ediv_nonneg (by omega) (by omega)⟩ (e2.trans Ext.at)
            · exact ⟨rfl, rfl⟩
          · exact ⟨rfl, rfl⟩
        · rintro σ3 H3 ⟨rfl, rfl⟩
          refine ⟨by decide, fun q hq => ?_⟩
          have hp3 := up_new (u := .lst (primes.map V.int)) hp2 hq
          have hc3 := up_new (u := .lst (primes.map V.int)) hc2 hq
          have e3 : Ext p H (upd H3 q (.lst (primes.map V.int))) := e2.set (e2.none_of (ne_of_none hp2 hq).symm hq)
          have hq3 : (upd H3 q (.lst (primes.map V.int))) q = some (.lst (primes.map V.int)) := upd_same
          have pick : ∀ i : Int, 0 ≤ i → i < 5 → ∃ z : Int, atI (primes.map V.int) i = some (.int z) ∧ 0 < z ∧ z < 2147483648 := fun i h0 h5 => by
            obtain ⟨v, hv, hm⟩ := at_mod (xs := primes.map V.int) h0 h5
            obtain ⟨z, rfl, hz⟩ := primes_in hm
            exact ⟨z, hv, hz⟩
          obtain ⟨a1, ha1, a1p, a1b⟩ := pick (t % 5) (Int.emod_nonneg _ (by decide)) (Int.emod_lt_of_pos _ (by decide))
          obtain ⟨a2, ha2, a2p, a2b⟩ := pick ((t + 2) % 5) (Int.emod_nonneg _ (by decide)) (Int.emod_lt_of_pos _ (by decide))
          refine ⟨_, rfl, _, rfl, .inl ⟨_, rfl, _, _, rfl, rfl, (by show (0 : Int) < 5; decide), .inl ⟨_, _, _, _, rfl, rfl, SqL.of hq3, ha1, ?_⟩⟩⟩
          have b1 := Int.emod_nonneg z (show a1 ≠ 0 by omega)
          have b2 := Int.emod_lt_of_pos z a1p
          refine ⟨_, rfl, .inl ⟨_, rfl, _, rfl, _, _, rfl, rfl, a1p, _, _, rfl, rfl, .inr ⟨by decide, by decide⟩, ?_⟩⟩
          refine ⟨_, rfl, _, rfl, _, _, rfl, rfl, .inl ⟨by decide, by decide⟩, _, _, rfl, rfl, _, _, rfl, rfl, .inl ⟨by omega, by omega⟩, _, _, rfl, rfl, _, _, rfl, rfl, .inl ⟨_, rfl, _, rfl, _, _, rfl, rfl, a1p, ?_⟩⟩
          have d1 := Int.emod_nonneg (z % a1 * 39373 + t * (30011 * t + 8117) + 23) (show a1 ≠ 0 by omega)
          have d2 := Int.emod_lt_of_pos (z % a1 * 39373 + t * (30011 * t + 8117) + 23) a1p
          refine ⟨_, rfl, _, rfl, _, _, rfl, rfl, _, _, rfl, rfl, .inl ⟨by omega, by omega⟩, .inl ⟨_, rfl, _, rfl, _, rfl, _, _, rfl, rfl, .inl ⟨_, rfl, _, _, rfl, rfl, (by show (0 : Int) < 5; decide), .inl ⟨_, _, _, _, rfl, rfl, SqL.of hq3, ha2, _, _, rfl, rfl, a2p, ?_⟩⟩⟩⟩
          have f1 := Int.emod_nonneg (((z % a1 * 39373 + t * (30011 * t + 8117) + 23) % a1) * (((z % a1 * 39373 + t * (30011 * t + 8117) + 23) % a1) + 69621)) (show a2 ≠ 0 by omega)
          have f2 := Int.emod_lt_of_pos (((z % a1 * 39373 + t * (30011 * t + 8117) + 23) % a1) * (((z % a1 * 39373 + t * (30011 * t + 8117) + 23) % a1) + 69621)) a2p
          refine ⟨_, rfl, _, rfl, _, _, rfl, rfl, .inl ⟨by omega, by omega⟩, _, rfl, _, _, rfl, rfl, .inl ⟨by decide, by decide⟩, _, _, rfl, rfl, _, rfl, _, _, rfl, rfl, .inl ⟨_, rfl, _, _, rfl, rfl, (by show (0 : Int) < 2147483549; decide), _, _, rfl, rfl, ⟨by decide, by decide⟩, .inl ⟨_, rfl, _, rfl, _, _, rfl, rfl, m0, ?_⟩⟩⟩
          exact k _ _ (Int.emod_nonneg _ (by omega)) (Int.emod_lt_of_pos _ m0) ⟨ns, t + 1, l, hp3, hc3, hn, by omega, by omega, l0⟩ e3

abbrev s_lpen : Stmt := top 13
theorem sc_lpen : FnScope ["_law_script"] ["_law_script"] (defScope s_lpen) := ⟨rfl, rfl, rfl, by decide +kernel, rfl, by decide +kernel, by decide +kernel⟩
theorem b_lpen {f : Addr} {fd : FuncData} (F : Fun K "_law_pen" "_law_pen" s_lpen f fd) (T : Txt mg) : FnG P w K mg base CX0 1 f fd ["_law_script"] (spPen K) := by
  refine okG0 F sc_lpen (fun vs H Q E h => ?_) (fun cdv A outer s H vs Q E hg hr h => ?_)
  · obtain ⟨a, ns, rfl, _⟩ := h
    rfl
  · have hu := hu_of hr
    have hu64 := hr.units
    obtain ⟨a, ns, rfl, hs, k⟩ := h
    refine ⟨_, (pss_one (ps_ret (pe_disp (pps_cons pe_str (pe_callTy call_list_of (by rfl) T.list (by decide +kernel) (pa_cons (pe_slice sl_list (pv 0) po_none (po_some pe_int)) pa_nil)) (pps_cons pe_str pe_int (pps_cons pe_str pe_int pps_nil))) (by rfl) (by rfl) (fun z => by cases z) (by decide)))), ?_⟩
    intro p hp
    obtain ⟨ms, hms, hml⟩ := cut63 ns
    refine ⟨_, rfl, 63, rfl, a, _, rfl, (same_new hp).seq hs, fun q hq => ?_⟩
    refine ⟨q, _, rfl, .inl (SqL.of upd_same), fun c hc => ?_⟩
    rw [hms] at hc ⊢
    have nqp : p ≠ q := fun e => by rw [← e, upd_same] at hq; cases hq
    have ncp : p ≠ c := fun e => by rw [← e, upd_ne nqp, upd_same] at hc; cases hc
    have hp2 : (upd (upd (upd H p (.dK [])) q (.lst (ms.map V.int))) c (.lst (ms.map V.int))) p = some (.dK []) := by rw [upd_ne ncp, upd_ne nqp, upd_same]
    refine ⟨hp2, penL c 0 0, rfl, (by show 3 ≤ 15; decide), ?_⟩
    rw [pen_made]
    refine k p c _ hp ⟨ms, 0, 0, upd_same, by rw [upd_ne ncp.symm, upd_same], hml, Int.le_refl _, Int.le_refl _, Int.le_refl _⟩ fun b o e => ?_
    rw [upd_ne (ne_of_none e hp), upd_ne ?_, upd_ne ?_, upd_ne (ne_of_none e hp)]
    · exact e
    · rintro rfl
      rw [upd_ne (ne_of_none e hp)] at hq
      rw [hq] at e
      cases e
    · rintro rfl
      by_cases ebq : b = q
      · subst ebq
        rw [upd_ne nqp.symm] at hq
        rw [hq] at e
        cases e
      · rw [upd_ne ebq, upd_ne (ne_of_none e hp)] at hc
        rw [hc] at e
        cases e

abbrev s_lpick : Stmt := top 15
theorem sc_lpick : FnScope ["_law_pen_here", "_law_options"] ["_law_pen_here", "_law_options"] (defScope s_lpick) := ⟨rfl, rfl, rfl, by decide +kernel, rfl, by decide +kernel, by decide +kernel⟩
theorem b_lpick {f : Addr} {fd : FuncData} (F : Fun K "_law_pick" "_law_pick" s_lpick f fd) (T : Txt mg) (c_ldraw : CalG P w K mg base CX0 1 "_law_draw" spDraw) : FnG P w K mg base CX0 2 f fd ["_law_pen_here", "_law_options"] (spPick K) := by
  refine okG0 F sc_lpick (fun vs H Q E h => ?_) (fun cdv A outer s H vs Q E hg hr h => ?_)
  · obtain ⟨p, c, o, xs, T0, rfl, _⟩ := h
    rfl
  · have hu := hu_of hr
    have hu64 := hr.units
    obtain ⟨p, c, o, xs, T0, rfl, ho, hne, hlen, hpen, hT, k⟩ := h
    have hpos : 0 < xs.length := List.length_pos_iff.mpr hne
    have hr1 : Room 1 _ := hr
    refine ⟨_, (pss_one (ps_ret (pe_ix ix_seq (pv 1) (pe_cG c_ldraw hg hr (by decide) pass0 (pa_cons (pv 0) (pa_cons (pe_callB call_len (by rfl) T.len (by decide +kernel) (pa_cons (pv 1) pa_nil)) pa_nil))) (fun _ _ => rfl)))), ?_⟩

    cases ho with
    | str z hz =>
      have e := one_len z
      have hz24 : z.length ≤ sizeLine := Nat.le_trans hz (by decide)
      refine ⟨_, rfl, _, rfl, _, rfl, _, _, rfl, ⟨hz24, rfl⟩, p, c, _, T0, rfl, by omega, by omega, hpen, hT, fun d H' d0 d1 hpen' x => ?_⟩
      obtain ⟨e1, hc, hm⟩ := at_mod (xs := z.cps.toList) d0 (by rw [show (z.cps.toList.length : Int) = (z.length : Int) from congrArg Nat.cast Array.length_toList]; exact d1)
      exact .inr (.inr ⟨z, d, e1, rfl, rfl, hz24, hc, k _ _ (List.mem_map_of_mem (f := OneS) hm) hpen' x⟩)
    | lst hs =>
      refine ⟨_, rfl, _, rfl, _, rfl, _, _, rfl, .inl ⟨_, hs, rfl⟩, p, c, _, T0, rfl, by omega, by omega, hpen, hT, fun d H' d0 d1 hpen' x => ?_⟩
      obtain ⟨v, hv, hm⟩ := at_mod d0 d1
      exact .inl ⟨_, xs, d, v, rfl, rfl, hpen.keepL x hs, hv, k _ _ hm hpen' x⟩
    | tup hs =>
      refine ⟨_, rfl, _, rfl, _, rfl, _, _, rfl, .inr ⟨_, hs, rfl⟩, p, c, _, T0, rfl, by omega, by omega, hpen, hT, fun d H' d0 d1 hpen' x => ?_⟩
      obtain ⟨v, hv, hm⟩ := at_mod d0 d1
      exact .inr (.inl ⟨_, xs, d, v, rfl, rfl, hpen.keepT x hs, hv, k _ _ hm hpen' x⟩)

abbrev s_lfew : Stmt := top 17
theorem sc_lfew : FnScope ["_law_pen_here", "_law_some", "_law_rare", "_law_k"] ["_law_pen_here"] (defScope s_lfew) := ⟨rfl, rfl, rfl, by decide +kernel, rfl, by decide +kernel, by decide +kernel⟩
theorem b_lfew {f : Addr} {fd : FuncData} (F : Fun K "_law_few" "_law_few" s_lfew f fd) (T : Txt mg) (c_lpick : CalG P w K mg base CX0 2 "_law_pick" (spPick K)) (t_signs : FnT P w K mg base 1 "_law_signs" letS) : FnG P w K mg base CX0 3 f fd ["_law_pen_here"] spFew := by
  refine okG0 F sc_lfew (fun vs H Q E h => ?_) (fun cdv A outer s H vs Q E hg hr h => ?_)
  · obtain ⟨p, pc, T0, rfl, _⟩ := h
    rfl
  · have hu := hu_of hr
    have hu64 := hr.units
    obtain ⟨p, pc, T0, rfl, hpen, hT, k⟩ := h
    have hr2 : Room 2 _ := hr
    refine ⟨_, (pss_cons (ps_set (i := 1) sc_lfew.nd rfl (Or.inr rfl) (pe_lst (pa_cons (pe_cG c_lpick hg hr (by decide) pass0 (pa_cons (pv 0) (pa_cons (pe_replT t_signs hr (by decide) (by decide +kernel) (by decide +kernel)) pa_nil))) (pa_cons (pe_cG c_lpick hg hr (by decide) pass0 (pa_cons (pv 0) (pa_cons pe_str pa_nil))) (pa_cons (pe_cG c_lpick hg hr (by decide) pass0 (pa_cons (pv 0) (pa_cons pe_str pa_nil))) pa_nil)))))
      (pss_cons (ps_set (i := 2) sc_lfew.nd rfl (Or.inl rfl) (pe_join pe_str (pe_lc (own := [("_law_k", 3)]) (g := gName 3) rfl sc_lfew.nd (pi_range1 rfl T.range (pa_cons pe_int pa_nil)) (blkOk_by (own := [("_law_k", 3)]) (N := ["_law_pen_here", "_law_some", "_law_rare", "_law_k"]) (sc := defScope s_lfew) (by decide +kernel)) (fun _ _ _ _ _ => (pg_name (i := 3) sc_lfew.nd rfl (Or.inl rfl))) (fun _ _ _ _ _ => (pts_one (pt_cmpR (op_notIn_seqK (K := K) rfl) (pe_ix (ix_seqK (K := K) rfl) (pv 1) (pv 3) (fun _ _ => rfl)) (pe_slice (sl_listK (K := K) rfl) (pv 1) po_none (po_some (pv 3))) (by rfl)))) (fun _ _ _ _ _ => (pe_ix (ix_seqK (K := K) rfl) (pv 1) (pv 3) (fun _ _ => rfl))))))
      (pss_one (ps_ret (pe_cG c_lpick hg hr (by decide) pass0 (pa_cons (pv 0) (pa_cons (pe_lst (pa_cons pe_str (pa_cons pe_str (pa_cons pe_str (pa_cons pe_str (pa_cons pe_str (pa_cons pe_str (pa_cons pe_str (pa_cons pe_str (pa_cons pe_str (pa_cons (pv 2) pa_nil))))))))))) pa_nil))))))), ?_⟩
    refine ⟨_, rfl, p, pc, _, _, T0, rfl, .str _ (by rw [noq_len]; decide), opts_ne (by rw [noq_len]; decide), opts_le (by rw [noq_len]; decide), hpen, by omega, fun v1 H1 m1 P1 x1 => ?_⟩
    obtain ⟨c1, rfl, k1⟩ := ones_of m1
    refine ⟨_, rfl, p, pc, _, _, T0 + 1, rfl, .str _ (by decide), opts_ne (by decide), opts_le (by decide), P1, by omega, fun v2 H2 m2 P2 x2 => ?_⟩
    obtain ⟨c2, rfl, k2⟩ := ones_of m2
    refine ⟨_, rfl, p, pc, _, _, T0 + 2, rfl, .str _ (by decide), opts_ne (by decide), opts_le (by decide), P2, by omega, fun v3 H3 m3 P3 x3 => ?_⟩
    obtain ⟨c3, rfl, k3⟩ := ones_of m3
    refine ⟨by show 3 ≤ sizeLine; decide, fun a ha => ?_⟩
    have hin : ∀ c ∈ [c1, c2, c3], c ∈ letS.cps.toList := by
      intro c hc
      simp only [List.mem_cons, List.not_mem_nil, or_false] at hc
      rcases hc with rfl | rfl | rfl
      · exact noq_in k1
      · exact (by decide +kernel : ∀ c ∈ (Str.ofString "yz").cps.toList, c ∈ letS.cps.toList) _ k2
      · exact (by decide +kernel : ∀ c ∈ (Str.ofString "(\n").cps.toList, c ∈ letS.cps.toList) _ k3
    have P4 := P3.new (o := .lst ([c1, c2, c3].map OneS)) ha
    have x4 : Ext p H (upd H3 a (.lst ([c1, c2, c3].map OneS))) := (x1.trans (x2.trans x3)).trans (Ext.new ha)
    have ha4 : (upd H3 a (.lst ([c1, c2, c3].map OneS))) a = some (.lst ([c1, c2, c3].map OneS)) := upd_same
    generalize hxs : ([c1, c2, c3].map OneS : List V) = xs at ha4 P4 x4
    have hxl : xs.length = 3 := by rw [← hxs]; rfl
    have hxf : xs.all flatV = true := by rw [← hxs]; exact ones_flat _
    have hxm : ∀ v ∈ xs, ∃ c, v = OneS c ∧ c ∈ [c1, c2, c3] := by rw [← hxs]; exact fun v hv => one_mem hv
    have ha5 : (upd H3 a (.lst ([c1, c2, c3].map OneS))) = upd H3 a (.lst xs) := by rw [hxs]
    generalize hH4 : upd H3 a (.lst xs) = H4 at ha4 P4 x4 ha5
    refine ⟨⟨_, rfl⟩, ?_⟩
    show (iRng1 (tCons (tC (V.int 3)) tNil)) _ (upd H3 a (.lst ([c1, c2, c3].map OneS))) _
    rw [ha5]
    refine ⟨3, rfl, by decide, by decide, fun D hD => lc_range (lo := 0) (n := 3) (fun i H' => ∃ cs : List Nat, H' D = some (.lst (cs.map OneS)) ∧ cs.length ≤ i ∧ (1 ≤ i → 1 ≤ cs.length) ∧ (∀ c ∈ cs, c ∈ letS.cps.toList) ∧ Same H4 H') ?_ ?_ ?_⟩
    · exact ⟨[], upd_same, Nat.le_refl _, fun h => by omega, fun c hc => absurd hc List.not_mem_nil, same_new hD⟩
    · rintro i H5 hi ⟨cs, hDc, hcl, hc1, hcm, sm⟩
      obtain ⟨v, hv, hvm⟩ := at_mod (xs := xs) (i := 0 + (i : Int)) (by omega) (by rw [hxl]; omega)
      obtain ⟨c, rfl, hcc⟩ := hxm v hvm
      have sa : SqL K H5 a xs := sm.seq (SqL.of ha4)
      refine ⟨rfl, _, rfl, _, rfl, .inl ⟨a, xs, _, _, rfl, rfl, sa, hv, _, rfl, _, rfl, _, rfl, a, xs, rfl, sa, fun q hq => ⟨q, _, rfl, .inl (SqL.of upd_same), rfl, cutV_all hxf, _, rfl, ?_⟩⟩⟩
      have sq : Same H4 (upd H5 q (.lst (cutV xs none (some (0 + (i : Int)))))) := sm.trans (same_new hq)
      have dq := up_new (u := .lst (cutV xs none (some (0 + (i : Int))))) hDc hq
      refine ite2 (fun hb => ?_) (fun hb => ?_)
      · refine ⟨_, rfl, _, rfl, .inl ⟨a, xs, _, _, rfl, rfl, sq.seq (SqL.of ha4), hv, _, dq, by rw [List.length_map]; exact Nat.lt_of_le_of_lt hcl (Nat.lt_trans hi (by decide)), cs ++ [c], ?_, ?_, fun _ => ?_, ?_, ?_⟩⟩
        · rw [upd_same, List.map_append]
          rfl
        · rw [List.length_append]; exact Nat.add_le_add_right hcl 1
        · rw [List.length_append]; exact Nat.le_add_left _ _
        · intro d hd
          rcases List.mem_append.mp hd with hd | hd
          · exact hcm d hd
          · rw [List.mem_singleton.mp hd]
            exact hin c hcc
        · intro b o e
          by_cases hbD : b = D
          · rw [hbD, hD] at e
            cases e
          · exact (upd_ne hbD).trans (sq b o e)
      · refine ⟨cs, dq, Nat.le_succ_of_le hcl, fun _ => ?_, hcm, sq⟩
        by_cases h0 : i = 0
        · subst h0
          refine absurd ?_ hb
          show (if true = true then !inV (OneS c) (cutV xs none (some (0 + ((0 : Nat) : Int)))) else inV (OneS c) (cutV xs none (some (0 + ((0 : Nat) : Int))))) = true
          rw [show (0 : Int) + ((0 : Nat) : Int) = 0 from rfl, cutV_zero]
          rfl
        · exact hc1 (by omega)
    · rintro H5 ⟨cs, hDc, hcl, hc1, hcm, sm⟩
      refine ⟨_, D, cs.map fun c => ⟨#[c]⟩, rfl, rfl, .inl (SqL.of (by rw [ones_map]; exact hDc)), ?_, ?_⟩
      · rw [ones_len]
        show cs.length + _ * 0 ≤ _
        omega
      · rw [join_ones]
        have fz : Few ⟨cs.toArray⟩ := few_ones (hc1 (by decide)) hcl hcm
        have x5 : Ext p H H5 := x4.trans (Ext.same sm)
        have P5 := P4.stay sm
        refine ⟨_, rfl, _, rfl, by show 10 ≤ sizeLine; decide, fun q hq => ?_⟩
        refine ⟨p, pc, _, _, T0 + 3, rfl, .lst (SqL.of upd_same), by simp, by show 10 ≤ 1000; decide, P5.new hq, by omega, fun v H6 hm P6 x6 => ?_⟩
        have fin : ∃ z, v = .str z ∧ Few z := by
          simp only [List.mem_cons, List.not_mem_nil, or_false] at hm
          rcases hm with rfl | rfl | rfl | rfl | rfl | rfl | rfl | rfl | rfl | rfl
          all_goals first
            | exact ⟨_, rfl, fz⟩
            | exact ⟨_, rfl, few_of (by decide +kernel)⟩
        obtain ⟨z, rfl, hz⟩ := fin
        exact k z H6 hz P6 (x5.trans ((Ext.new hq).trans x6))

abbrev s_lword : Stmt := top 18
theorem sc_lword : FnScope ["_law_pen_here", "_law_signs_here", "_law_least", "_law_most_letters", "_law_many", "_law_k"] ["_law_pen_here", "_law_signs_here", "_law_least", "_law_most_letters"] (defScope s_lword) := ⟨rfl, rfl, rfl, by decide +kernel, rfl, by decide +kernel, by decide +kernel⟩
theorem b_lword {f : Addr} {fd : FuncData} (F : Fun K "_law_word" "_law_word" s_lword f fd) (T : Txt mg) (c_ldraw : CalG P w K mg base CX0 1 "_law_draw" spDraw) (c_lpick : CalG P w K mg base CX0 2 "_law_pick" (spPick K)) : FnG P w K mg base CX0 3 f fd ["_law_pen_here", "_law_signs_here", "_law_least", "_law_most_letters"] spWord := by
  refine okG0 F sc_lword (fun vs H Q E h => ?_) (fun cdv A outer s H vs Q E hg hr h => ?_)
  · obtain ⟨p, pc, z, a, b, T0, rfl, _⟩ := h
    rfl
  · have hu := hu_of hr
    have hu64 := hr.units
    obtain ⟨p, pc, z, a, b, T0, rfl, hab, hb, hz1, hz, hpen, hT, k⟩ := h
    have hr2 : Room 2 _ := hr
    refine ⟨_, (pss_cons (ps_set (i := 4) sc_lword.nd rfl (Or.inl rfl) (pe_op op_add (pv 2) (pe_cG c_ldraw hg hr (by decide) pass0 (pa_cons (pv 0) (pa_cons (pe_op op_add (pe_op op_sub (pv 3) (pv 2)) pe_int) pa_nil)))))
      (pss_one (ps_ret (pe_join pe_str (pe_lc (own := [("_law_k", 5)]) (g := gName 5) (tt := tYes) rfl sc_lword.nd (pi_range1 rfl T.range (pa_cons (pv 4) pa_nil)) (blkOk_by (own := [("_law_k", 5)]) (N := ["_law_pen_here", "_law_signs_here", "_law_least", "_law_most_letters", "_law_many", "_law_k"]) (sc := defScope s_lword) (by decide +kernel)) (fun _ _ _ _ _ => (pg_name (i := 5) sc_lword.nd rfl (Or.inl rfl))) (fun _ _ _ _ _ => pts_nil) (fun _ _ _ _ _ => (pe_cG c_lpick hg hr (by decide) pass0 (pa_cons (pv 0) (pa_cons (pv 1) pa_nil))))))))), ?_⟩
    refine ⟨_, rfl, _, rfl, _, rfl, _, rfl, _, _, rfl, rfl, _, _, rfl, rfl, p, pc, _, T0, rfl, by omega, by omega, hpen, by omega, fun d H1 d0 d1 P1 x1 => ?_⟩
    refine ⟨_, _, rfl, rfl, ⟨_, rfl⟩, ?_⟩
    obtain ⟨n, rfl⟩ : ∃ n : Nat, d = (n : Int) := ⟨d.toNat, by omega⟩
    refine ⟨_, rfl, _, rfl, by omega, by omega, fun D hD => ?_⟩
    have en : ((a : Int) + (n : Int)).toNat = a + n := by omega
    have hn : a + n ≤ b := by omega
    obtain ⟨nDp, nDc⟩ := P1.apart hD
    refine lc_range (lo := 0) (n := ((a : Int) + (n : Int)).toNat) (fun i H' => ∃ cs : List Nat, H' D = some (.lst (cs.map OneS)) ∧ cs.length = i ∧ (∀ c ∈ cs, c ∈ z.cps.toList) ∧ Pen H' p pc (T0 + 1 + i) ∧ Ext p H H') ?_ ?_ ?_
    · refine ⟨[], upd_same, rfl, fun c hc => absurd hc List.not_mem_nil, P1.new hD, x1.trans (Ext.new hD)⟩
    · rintro i H2 hi ⟨cs, hDc, hcl, hcm, P2, x2⟩
      rw [en] at hi
      refine ⟨rfl, _, rfl, _, rfl, p, pc, _, _, T0 + 1 + i, rfl, .str z hz, opts_ne hz1, opts_le hz, P2, by omega, fun v H3 hm P3 x3 => ?_⟩
      obtain ⟨c, rfl, hc⟩ := ones_of hm
      have d3 := P2.keepI x3 hDc
      refine ⟨_, d3, by rw [List.length_map, hcl]; exact Nat.lt_of_lt_of_le hi (Nat.le_trans hn (Nat.le_trans hb (by decide))), cs ++ [c], ?_, by rw [List.length_append, hcl]; rfl, ?_, ?_, ?_⟩
      · rw [upd_same, List.map_append]
        rfl
      · intro e he
        rcases List.mem_append.mp he with he | he
        · exact hcm e he
        · rw [List.mem_singleton.mp he]
          exact hc
      · exact P3.set nDp nDc
      · exact fun b o e hb => by
          rw [upd_ne (fun q => by rw [q, x1.none_of nDp hD] at e; cases e)]
          exact x3 b o (x2 b o e hb) hb
    · rintro H2 ⟨cs, hDc, hcl, hcm, P2, x2⟩
      refine ⟨_, D, cs.map fun c => ⟨#[c]⟩, rfl, rfl, .inl (SqL.of (by rw [ones_map]; exact hDc)), ?_, ?_⟩
      · rw [ones_len]
        show cs.length + _ * 0 ≤ _
        omega
      · rw [join_ones]
        rw [en] at hcl P2
        exact k _ H2 ⟨by show a ≤ cs.toArray.size; rw [List.size_toArray]; omega, by show cs.toArray.size ≤ b; rw [List.size_toArray]; omega, by simpa using hcm⟩ (P2.mono (by omega)) x2

theorem cut_upto (x : Str) (M : Nat) : (cutS x none (some (M : Int))).length ≤ M := by
  unfold cutS
  show (List.toArray _).size ≤ M
  rw [List.size_toArray, HT.sIx_nat, HT.sIx_none]
  refine Nat.le_trans (List.length_take_le _ _) ?_
  have := Nat.min_le_left M x.length
  omega
def spNtext : Sp := fun vs H Q _ => ∃ p c z M T, vs = [.ref p, .str z, .int (M : Nat)] ∧ Few z ∧ M ≤ 100 ∧ Pen H p c T ∧ T + 1000 < 1000000000 ∧ ∀ (x : Str) (H' : Hp), x.length ≤ M → Ltr x → Pen H' p c (T + 100) → Ext p H H' → Q (.str x) H'
abbrev s_lntext : Stmt := top 20
theorem sc_lntext : FnScope ["_law_pen_here", "_law_signs_here", "_law_most_letters", "_law_some", "_law_found", "_law_k"] ["_law_pen_here", "_law_signs_here", "_law_most_letters"] (defScope s_lntext) := ⟨rfl, rfl, rfl, by decide +kernel, rfl, by decide +kernel, by decide +kernel⟩
theorem b_lntext {f : Addr} {fd : FuncData} (F : Fun K "_law_ntext" "_law_ntext" s_lntext f fd) (T : Txt mg) (c_ldraw : CalG P w K mg base CX0 1 "_law_draw" spDraw) (c_lpick : CalG P w K mg base CX0 2 "_law_pick" (spPick K)) (c_lword : CalG P w K mg base CX0 3 "_law_word" spWord) : FnG P w K mg base CX0 4 f fd ["_law_pen_here", "_law_signs_here", "_law_most_letters"] spNtext := by
  refine okG0 F sc_lntext (fun vs H Q E h => ?_) (fun cdv A outer s H vs Q E hg hr h => ?_)
  · obtain ⟨p, pc, z, M, T0, rfl, _⟩ := h
    rfl
  · have hu := hu_of hr
    have hu64 := hr.units
    obtain ⟨p, pc, z, M, T0, rfl, fz, hM, hpen, hT, k⟩ := h
    have hr3 : Room 3 _ := hr
    have z100 : z.length ≤ 1000 := Nat.le_trans fz.2.1 (by decide)
    refine ⟨_, (pss_cons (ps_par (i := 3) (j := 4) (by rfl) sc_lntext.nd rfl rfl (by decide) rfl rfl (pa_cons (pe_lst (pa_cons (pe_cG c_lword hg hr (by decide) pass0 (pa_cons (pv 0) (pa_cons (pv 1) (pa_cons pe_int (pa_cons pe_int pa_nil))))) (pa_cons (pe_cG c_lword hg hr (by decide) pass0 (pa_cons (pv 0) (pa_cons (pv 1) (pa_cons pe_int (pa_cons pe_int pa_nil))))) pa_nil))) (pa_cons pe_str pa_nil)) (by rfl))
      (pss_cons (ps_for PassesOwn.never rfl (pi_range1 rfl T.range (pa_cons (pe_cG c_ldraw hg hr (by decide) pass0 (pa_cons (pv 0) (pa_cons pe_int pa_nil))) pa_nil)) (pg_name (i := 5) sc_lntext.nd rfl (Or.inl rfl)) (pss_one (ps_set (i := 4) sc_lntext.nd rfl (Or.inl rfl) (pe_op op_add_str (pv 4) (pe_cG c_lpick hg hr (by decide) pass0 (pa_cons (pv 0) (pa_cons (pe_op op_cat (pv 3) (pe_lst (pa_cons (pe_cG c_lpick hg hr (by decide) pass0 (pa_cons (pv 0) (pa_cons (pv 1) pa_nil))) pa_nil))) pa_nil)))))))
      (pss_one (ps_ret (pe_slice sl_str (pv 4) po_none (po_some (pv 2))))))), ?_⟩
    refine ⟨_, rfl, _, rfl, p, pc, z, 1, 4, T0, rfl, by decide, by decide, fz.1, z100, hpen, by omega, fun w1 H1 g1 P1 x1 => ?_⟩
    refine ⟨_, rfl, _, rfl, p, pc, z, 1, 3, _, rfl, by decide, by decide, fz.1, z100, P1, by omega, fun w2 H2 g2 P2 x2 => ?_⟩
    refine ⟨by show 2 ≤ sizeLine; decide, fun b hb => ?_⟩
    have sb := same_new (o := .lst [.str w1, .str w2]) hb
    have P3 := P2.stay sb
    have x3 : Ext p H _ := (x1.trans x2).trans (Ext.same sb)
    refine ⟨_, _, rfl, _, rfl, p, pc, 9, _, rfl, by decide, by decide, P3, by omega, fun n H4 n0 n1 P4 x4 => ?_⟩
    have hb4 := P3.keepI x4 upd_same
    refine ⟨_, rfl, by omega, by omega, ?_⟩
    refine for_range (lo := 0) (n := n.toNat) (fun i σ H' => ∃ (o5 : Option V) (f : Str), σ = [some (.ref p), some (.str z), some (.int (M : Nat)), some (.ref b), some (.str f), o5] ∧ (f.length ≤ 100 * i ∧ Ltr f) ∧ Pen H' p pc (T0 + 20 + 2 * i) ∧ Ext p H H' ∧ H' b = some (.lst [.str w1, .str w2])) ?_ ?_ ?_
    · exact ⟨_, "", rfl, ⟨by show 0 ≤ _; omega, lt_none⟩, P4.mono (by omega), x3.trans x4, hb4⟩
    · rintro i σ H5 hi ⟨o5, f, rfl, hf, P5, x5, hb5⟩
      have hf1 := hf.1
      refine ⟨_, rfl, _, rfl, _, rfl, _, rfl, _, rfl, p, pc, _, _, _, rfl, .str z z100, opts_ne fz.1, opts_le z100, P5, by omega, fun v H6 hv P6 x6 => ?_⟩
      obtain ⟨cv, rfl, hcv⟩ := ones_of hv
      have hb6 := P5.keepI x6 hb5
      refine ⟨by show 1 ≤ sizeLine; decide, fun q hq => ?_⟩
      have sq := same_new (o := .lst [OneS cv]) hq
      refine ⟨b, q, _, _, rfl, rfl, sq _ _ hb6, upd_same, by show 3 ≤ sizeLine; decide, fun q2 hq2 => ?_⟩
      have sq2 := same_new (o := .lst [.str w1, .str w2, OneS cv]) hq2
      have P7 := (P6.stay sq).stay sq2
      refine ⟨p, pc, _, _, _, rfl, .lst (SqL.of upd_same), (fun z => by cases z), by show 3 ≤ 1000; decide, P7, by omega, fun v H8 hv2 P8 x8 => ?_⟩
      have hb8 := P7.keepI x8 (sq2 _ _ (sq _ _ hb6))
      have ev : ∃ y : Str, v = .str y ∧ y.length ≤ 100 ∧ Ltr y := by
        simp only [List.mem_append, List.mem_cons, List.not_mem_nil, or_false] at hv2
        rcases hv2 with (rfl | rfl) | rfl
        · exact ⟨w1, rfl, Nat.le_trans g1.2.1 (by decide), lt_word fz g1⟩
        · exact ⟨w2, rfl, Nat.le_trans g2.2.1 (by decide), lt_word fz g2⟩
        · exact ⟨_, rfl, by show 1 ≤ 100; decide, lt_one fz hcv⟩
      obtain ⟨y, rfl, hy, oy⟩ := ev
      refine ⟨_, _, rfl, rfl, Nat.le_of_lt (fewL (by omega)), _, f ++ y, rfl, ⟨?_, lt_more hf.2 oy⟩, P8.mono (by omega), (x5.trans x6).trans (((Ext.same sq).trans (Ext.same sq2)).trans x8), hb8⟩
      rw [strLen_append]
      omega
    · rintro σ H5 ⟨o5, f, rfl, hf, P5, x5, hb5⟩
      have hf1 := hf.1
      refine ⟨_, rfl, _, rfl, _, rfl, f, rfl, Nat.le_of_lt (fewL (by have : n.toNat ≤ 9 := by omega
                                                                     omega)), k _ _ (cut_upto f M) (cutS_lt hf.2 _ _) (P5.mono (by omega)) x5⟩

end
end Vk
set_option Elab.async false
set_option maxRecDepth 100000
set_option linter.all false
set_option maxHeartbeats 4000000
namespace Vk
open PySem PySem.Spec PyProof.Rows L2
section
variable {P : Program} {w : World} {K : PySem.W.Frag} {mg : Str → Option Value} {base : Heap}
theorem nuMin2_nat (a b : Nat) : nuMin2 (.int (a : Nat)) (.int (b : Nat)) = some (.int ((min a b : Nat) : Int)) := by
  show (some (decide ((b : Int) < (a : Int)))).map (fun c => if c = true then V.int (b : Nat) else V.int (a : Nat)) = _
  by_cases h : b < a
  · rw [decide_eq_true (show (b : Int) < (a : Int) by omega), show min a b = b by omega]; rfl
  · rw [decide_eq_false (show ¬ (b : Int) < (a : Int) by omega), show min a b = a by omega]; rfl
theorem nuMin3_nat (a b c : Nat) : nuMin3 (.int (a : Nat)) (.int (b : Nat)) (.int (c : Nat)) = some (.int ((min (min a b) c : Nat) : Int)) := by
  show (nuMin2 (.int (a : Nat)) (.int (b : Nat))).bind (fun m => nuMin2 m (.int (c : Nat))) = _
  rw [nuMin2_nat]
  exact nuMin2_nat _ _
/-- a row of distances -/
def rowN (l r : Str) (k n : Nat) : List V := (List.range n).map fun j => V.int (edD (ltr l) (ltr r) k j : Nat)
theorem rowN_len {l r : Str} {k n : Nat} : (rowN l r k n).length = n := by unfold rowN; rw [List.length_map, List.length_range]
theorem rowN_at {l r : Str} {k n j : Nat} (h : j < n) : (rowN l r k n)[j]? = some (.int (edD (ltr l) (ltr r) k j : Nat)) := by
  unfold rowN
  rw [List.getElem?_map, List.getElem?_range h]
  rfl
theorem rowN_snoc {l r : Str} {k n : Nat} : rowN l r k n ++ [.int (edD (ltr l) (ltr r) k n : Nat)] = rowN l r k (n + 1) := by
  unfold rowN
  rw [List.range_succ, List.map_append]
  rfl
theorem row_0 {l r : Str} {n : Nat} : rgV 0 ((n : Nat) : Int) = rowN l r 0 n := by
  unfold rgV rowN
  rw [show (((n : Nat) : Int) - 0).toNat = n by omega]
  refine List.map_congr_left fun j _ => ?_
  rw [edD_0, Int.zero_add]
def RowL (H : Hp) (l r : Str) : List V → List Nat → Prop := Paired (fun v k => ∃ t, v = V.ref t ∧ H t = some (.lst (rowN l r k (r.length + 1))))
theorem RowL.keep {H H1 : Hp} {l r : Str} {xs : List V} {ks : List Nat} (h : RowL H l r xs ks) (s : Same H H1) : RowL H1 l r xs ks := pair_mono (fun v p ⟨t, e, ht⟩ => ⟨t, e, s _ _ ht⟩) h
theorem RowL.upd {H : Hp} {l r : Str} {a : Addr} {o : HO} : ∀ {xs : List V} {ks : List Nat}, RowL H l r xs ks → (∀ v ∈ xs, v ≠ V.ref a) → RowL (upd H a o) l r xs ks
  | _, _, .nil, _ => .nil
  | _, _, .cons b t, h => .cons (by
      obtain ⟨u, e, hu⟩ := b
      refine ⟨u, e, ?_⟩
      rw [upd_ne (fun z => h _ List.mem_cons_self (by rw [e, z]))]
      exact hu) (RowL.upd t fun v hv => h v (List.mem_cons_of_mem _ hv))
def spRows : Sp := fun vs H Q _ => ∃ l r, vs = [.str l, .str r] ∧ l.length ≤ 200 ∧ r.length ≤ 200 ∧ ∀ a refs H', H a = none → H' a = some (.lst refs) → RowL H' l r refs (List.range (l.length + 1)) → Same H H' → Q (.ref a) H'
def spApart : Sp := fun vs H Q _ => ∃ l r, vs = [.str l, .str r] ∧ l.length ≤ 200 ∧ r.length ≤ 200 ∧ ∀ H', Same H H' → Q (.int (edD (ltr l) (ltr r) l.length r.length : Nat)) H'
abbrev s_lnrows : Stmt := top 21
theorem sc_lnrows : FnScope ["_law_left", "_law_right", "_law_rows", "_law_k", "_law_row", "_law_j", "_law_here"] ["_law_left", "_law_right"] (defScope s_lnrows) := ⟨rfl, rfl, rfl, by decide +kernel, rfl, by decide +kernel, by decide +kernel⟩
theorem b_lnrows {f : Addr} {fd : FuncData} (F : Fun K "_law_nrows" "_law_nrows" s_lnrows f fd) (T : Txt mg) : FnG P w K mg base CX0 1 f fd ["_law_left", "_law_right"] spRows := by
  refine okG0 F sc_lnrows (fun vs H Q E h => ?_) (fun cdv A outer s H vs Q E hg hr h => ?_)
  · obtain ⟨l, r, rfl, _⟩ := h
    rfl
  · have hu := hu_of hr
    have hu64 := hr.units
    obtain ⟨l, r, rfl, hl, hr0, k⟩ := h
    have ll : l.length ≤ sizeLine := Nat.le_trans hl (by decide)
    have rl : r.length ≤ sizeLine := Nat.le_trans hr0 (by decide)
    refine ⟨_, (pss_cons (ps_set (i := 2) sc_lnrows.nd rfl (Or.inl rfl) (pe_lst (pa_cons (pe_listRg rfl (by rfl) T.list (prg_1 (by rfl) T.range (pe_op op_add (pe_callB call_len (by rfl) T.len (by decide +kernel) (pa_cons (pv 1) pa_nil)) pe_int))) pa_nil)))
      (pss_cons (ps_for PassesOwn.never rfl (pi_range1 rfl T.range (pa_cons (pe_callB call_len (by rfl) T.len (by decide +kernel) (pa_cons (pv 0) pa_nil)) pa_nil)) (pg_name (i := 3) sc_lnrows.nd rfl (Or.inl rfl)) (pss_cons (ps_set (i := 4) sc_lnrows.nd rfl (Or.inl rfl) (pe_lst (pa_cons (pe_op op_add (pv 3) pe_int) pa_nil)))
      (pss_cons (ps_for PassesOwn.never rfl (pi_range1 rfl T.range (pa_cons (pe_callB call_len (by rfl) T.len (by decide +kernel) (pa_cons (pv 1) pa_nil)) pa_nil)) (pg_name (i := 5) sc_lnrows.nd rfl (Or.inl rfl)) (pss_cons (ps_set (i := 6) sc_lnrows.nd rfl (Or.inl rfl) (pe_op op_add (pe_ix ix_list (pe_ix ix_list (pv 2) (pv 3) (fun _ _ => rfl)) (pv 5) (fun _ _ => rfl)) (pe_callTy call_int1 (by rfl) T.int (by decide +kernel) (pa_cons (pe_cmpR op_ne (pe_ix ix_seq (pv 0) (pv 3) (fun _ _ => rfl)) (pe_ix ix_seq (pv 1) (pv 5) (fun _ _ => rfl)) (nomark _)) pa_nil))))
      (pss_one (ps_expr (pe_bm PySem.F.plainAttrs_list PySem.F.slot_list_append PySem.F.type_list_append mt_append (pv 4) (pa_cons (pe_callB (call_min3Nu rfl) (by rfl) T.min (by decide +kernel) (pa_cons (pv 6) (pa_cons (pe_op op_add (pe_ix ix_list (pe_ix ix_list (pv 2) (pv 3) (fun _ _ => rfl)) (pe_op op_add (pv 5) pe_int) (fun _ _ => rfl)) pe_int) (pa_cons (pe_op op_add (pe_ix ix_list (pv 4) (pv 5) (fun _ _ => rfl)) pe_int) pa_nil)))) pa_nil))))))
      (pss_one (ps_expr (pe_bm PySem.F.plainAttrs_list PySem.F.slot_list_append PySem.F.type_list_append mt_append (pv 2) (pa_cons (pv 4) pa_nil)))))))
      (pss_one (ps_ret (pv 2))))), ?_⟩
    refine ⟨_, rfl, _, _, rfl, ⟨rl, rfl⟩, _, _, rfl, rfl, _, rfl, ⟨by decide, by decide, by omega, by omega, by omega⟩, fun t0 ht0 => ?_⟩
    have en : ((r.length : Nat) : Int) + 1 = ((r.length + 1 : Nat) : Int) := by omega
    rw [en, row_0 (l := l) (r := r)]
    have st0 := same_new (o := .lst (rowN l r 0 (r.length + 1))) ht0
    refine ⟨by show 1 ≤ sizeLine; decide, fun a ha => ?_⟩
    have sa := same_new (o := .lst [.ref t0]) ha
    have haH := none_up st0 ha
    refine ⟨_, rfl, _, _, rfl, ⟨ll, rfl⟩, _, rfl, by omega, by omega, ?_⟩
    refine for_range (lo := 0) (n := ((l.length : Nat) : Int).toNat) (fun i σ H2 => ∃ (o3 o4 o5 o6 : Option V) (refs : List V), σ = [some (.str l), some (.str r), some (.ref a), o3, o4, o5, o6] ∧ H2 a = some (.lst refs) ∧ RowL H2 l r refs (List.range (i + 1)) ∧ Same H H2 ∧ ∀ v ∈ refs, v ≠ V.ref a) ?_ ?_ ?_
    · exact ⟨_, _, _, _, [.ref t0], rfl, upd_same, .cons ⟨t0, rfl, sa _ _ upd_same⟩ .nil, st0.trans sa, fun v hv e => by
        rw [List.mem_singleton.mp hv] at e
        cases e
        rw [upd_same] at ha
        cases ha⟩
    · rintro i σ H2 hi ⟨o3, o4, o5, o6, refs, rfl, ha2, rw2, s2, hne⟩
      have hi1 : i < l.length := by omega
      have gl := paired_len rw2
      rw [List.length_range] at gl
      rw [Int.zero_add]
      refine ⟨_, rfl, _, _, rfl, rfl, by show 1 ≤ sizeLine; decide, fun q hq => ?_⟩
      have sq := same_new (o := .lst [.int ((i : Int) + 1)]) hq
      have e0 : [V.int ((i : Int) + 1)] = rowN l r (i + 1) (0 + 1) := by
        unfold rowN
        show _ = [V.int (edD (ltr l) (ltr r) (i + 1) 0 : Nat)]
        rw [edD_s0]
        rfl
      rw [e0] at sq ⊢
      refine ⟨_, rfl, _, _, rfl, ⟨rl, rfl⟩, _, rfl, by omega, by omega, ?_⟩
      have hqH := none_up s2 hq
      obtain ⟨v, hv⟩ : ∃ v, refs[i]? = some v := ⟨refs[i]'(by omega), List.getElem?_eq_getElem (by omega)⟩
      obtain ⟨i', hi', t, rfl, ht⟩ := paired_at rw2 hv
      have ei : i' = i := by
        rw [List.getElem?_range (by omega)] at hi'
        exact (Option.some.inj hi').symm
      subst ei
      refine for_range (lo := 0) (n := ((r.length : Nat) : Int).toNat) (fun j σ H3 => ∃ (o5 o6 : Option V), σ = [some (.str l), some (.str r), some (.ref a), some (.int (i' : Nat)), some (.ref q), o5, o6] ∧ H3 q = some (.lst (rowN l r (i' + 1) (j + 1))) ∧ Same H2 H3) ?_ ?_ ?_
      · exact ⟨_, _, rfl, upd_same, sq⟩
      · rintro j σ H3 hj ⟨o5, o6, rfl, hq3, s3⟩
        have hj1 : j < r.length := by omega
        rw [Int.zero_add]
        have ta : atI (rowN l r i' (r.length + 1)) ((j : Nat) : Int) = _ := atI_nat (rowN_at (by omega))
        have tb : atI (rowN l r i' (r.length + 1)) ((j : Nat) + 1 : Int) = _ := atI_nat (j := j + 1) (rowN_at (by omega))
        have tc : atI (rowN l r (i' + 1) (j + 1)) ((j : Nat) : Int) = _ := atI_nat (rowN_at (by omega))
        refine ⟨_, rfl, _, rfl, a, _, _, _, rfl, rfl, SqL.of (s3 _ _ ha2), atI_nat hv, _, rfl, t, _, _, _, rfl, rfl, SqL.of (s3 _ _ ht), ta, ?_⟩
        refine ⟨_, rfl, _, rfl, .inr (.inr ⟨l, _, _, rfl, rfl, ll, at_ltr hi1, ?_⟩)⟩
        refine ⟨_, rfl, _, rfl, .inr (.inr ⟨r, _, _, rfl, rfl, rl, at_ltr hj1, ?_⟩)⟩
        refine ⟨rfl, .inr ⟨_, rfl, ?_⟩⟩
        have ed := edD_ss (A := ltr l) (B := ltr r) (i := i') (j := j)
        generalize hx1 : edD (ltr l) (ltr r) i' j = e1 at ta ed ⊢
        generalize hx2 : edD (ltr l) (ltr r) i' (j + 1) = e2 at tb ed ⊢
        generalize hx3 : edD (ltr l) (ltr r) (i' + 1) j = e3 at tc ed ⊢
        have en3 : ((e1 : Nat) : Int) + (if (!decide (V.str ⟨#[ltr l i']⟩ = V.str ⟨#[ltr r j]⟩)) = true then 1 else 0) = ((e1 + neq (ltr l i') (ltr r j) : Nat) : Int) := by
          have q := ones_eq (ltr l i') (ltr r j)
          rw [show decide (V.str ⟨#[ltr l i']⟩ = V.str ⟨#[ltr r j]⟩) = decide (ltr l i' = ltr r j) from q]
          unfold neq
          by_cases h : ltr l i' = ltr r j
          · rw [decide_eq_true h, if_pos h]; simp
          · rw [decide_eq_false h, if_neg h]; simp
        have q3 : nuMin3 (.int (((e1 : Nat) : Int) + (if (!decide (V.str ⟨#[ltr l i']⟩ = V.str ⟨#[ltr r j]⟩)) = true then 1 else 0))) (.int ((e2 : Nat) + 1)) (.int ((e3 : Nat) + 1)) = some (.int ((min (min (e1 + neq (ltr l i') (ltr r j)) (e2 + 1)) (e3 + 1) : Nat) : Int)) := by
          rw [en3]
          exact nuMin3_nat _ (e2 + 1) (e3 + 1)
        refine ⟨_, _, rfl, rfl, ?_⟩
        refine ⟨_, rfl, .inl ⟨rfl, _, SqL.of hq3⟩, _, rfl, _, rfl, _, rfl, a, _, _, _, rfl, rfl, SqL.of (s3 _ _ ha2), atI_nat hv, _, rfl, _, _, rfl, rfl, t, _, _, _, rfl, rfl, SqL.of (s3 _ _ ht), tb, _, _, rfl, rfl, ?_⟩
        refine ⟨_, rfl, _, rfl, q, _, _, _, rfl, rfl, SqL.of hq3, tc, _, _, rfl, rfl, _, _, _, _, rfl, q3, ?_⟩
        refine ⟨q, _, _, rfl, rfl, hq3, fewL (by rw [rowN_len]; omega), _, _, rfl, ?_, upd_out hq s3⟩
        rw [upd_same, ← ed, rowN_snoc]
      · rintro σ H3 ⟨o5, o6, rfl, hq3, s3⟩
        rw [Int.toNat_natCast] at hq3
        have ha3 := s3 _ _ ha2
        refine ⟨_, rfl, .inl ⟨rfl, _, SqL.of ha3⟩, _, rfl, a, _, _, rfl, rfl, ha3, fewL (by omega), _, _, _, _, refs ++ [.ref q], rfl, upd_same, ?_, upd_out haH (s2.trans s3), ?_⟩
        · have nqa : q ≠ a := fun e => by rw [e, ha2] at hq; cases hq
          rw [List.range_succ (n := i' + 1)]
          refine Paired.snoc ((rw2.keep s3).upd hne) ⟨q, rfl, ?_⟩
          rw [upd_ne nqa]
          exact hq3
        · intro v hv e
          rcases List.mem_append.mp hv with hv | hv
          · exact hne v hv e
          · rw [List.mem_singleton.mp hv] at e
            cases e
            rw [ha2] at hq
            cases hq
    · rintro σ H2 ⟨o3, o4, o5, o6, refs, rfl, ha2, rw2, s2, hne⟩
      rw [Int.toNat_natCast] at rw2
      exact ⟨_, rfl, k a refs H2 haH ha2 rw2 s2⟩

abbrev s_lnapart : Stmt := top 22
theorem sc_lnapart : FnScope ["_law_left", "_law_right"] ["_law_left", "_law_right"] (defScope s_lnapart) := ⟨rfl, rfl, rfl, by decide +kernel, rfl, by decide +kernel, by decide +kernel⟩
theorem b_lnapart {f : Addr} {fd : FuncData} (F : Fun K "_law_napart" "_law_napart" s_lnapart f fd) (T : Txt mg) (c_lnrows : CalG P w K mg base CX0 1 "_law_nrows" spRows) : FnG P w K mg base CX0 2 f fd ["_law_left", "_law_right"] spApart := by
  refine okG0 F sc_lnapart (fun vs H Q E h => ?_) (fun cdv A outer s H vs Q E hg hr h => ?_)
  · obtain ⟨l, r, rfl, _⟩ := h
    rfl
  · have hu := hu_of hr
    have hu64 := hr.units
    obtain ⟨l, r, rfl, hl, hr0, k⟩ := h
    have hr1 : Room 1 _ := hr
    refine ⟨_, (pss_one (ps_ret (pe_ix ix_list (pe_ix ix_list (pe_cG c_lnrows hg hr (by decide) pass0 (pa_cons (pv 0) (pa_cons (pv 1) pa_nil))) (pe_un un_neg pe_int) (fun _ _ => rfl)) (pe_un un_neg pe_int) (fun _ _ => rfl)))), ?_⟩
    refine ⟨_, rfl, _, rfl, l, r, rfl, hl, hr0, fun a refs H1 ha ha1 rw1 s1 => ?_⟩
    have gl := paired_len rw1
    rw [List.length_range] at gl
    obtain ⟨v, hv⟩ : ∃ v, refs[l.length]? = some v := ⟨refs[l.length]'(by omega), List.getElem?_eq_getElem (by omega)⟩
    obtain ⟨i', hi', t, rfl, ht⟩ := paired_at rw1 hv
    have ei : i' = l.length := by
      rw [List.getElem?_range (by omega)] at hi'
      exact (Option.some.inj hi').symm
    subst ei
    refine ⟨_, rfl, a, _, _, _, rfl, rfl, SqL.of ha1, atI_end hv (by omega), _, rfl, t, _, _, _, rfl, rfl, SqL.of ht, atI_end (rowN_at (j := r.length) (by omega)) rowN_len, ?_⟩
    exact k _ s1

end
end Vk
set_option Elab.async false
set_option maxRecDepth 100000
set_option maxHeartbeats 4000000
set_option linter.all false
namespace Vk
open PySem PySem.Spec PyProof.Rows L2
/-! ## x[::-1], x a text -/
end Vk
set_option Elab.async false
set_option maxRecDepth 100000
set_option maxHeartbeats 4000000
set_option linter.all false
namespace Vk
open L2 PySem PySem.Spec PyProof.Rows PySem.VkX LamX NdefX
/-! ## a lambda of one parameter that raises nothing -/
structure LamK1 (P : Program) (w : World) (K : PySem.W.Frag) (mg : Str → Option Value) (base : Heap) (k : Nat) (F : LF) (sp : V → Hp → VK → Prop) : Prop where
  run : ∀ (A : Around) (outer : List Env) (s : Shared) (H : Hp) (f : Addr) (v : V) (u : Value) (Q : VK), A.guards = some [] → Room k A → Env0 P w K mg base A outer s H → H f = some (LamO f F) → H F.c = some (CodeO F.c F.qual) → L2.RelV v u → sp v H Q →
    codeAny (model P w) A (.call (.ref f) ⟨[u], []⟩) (CR CX0 outer P w H s Q E0) s
section
variable {P : Program} {w : World} {K : PySem.W.Frag} {mg : Str → Option Value} {base : Heap} {N : List Str} {F : LF} {k : Nat} {sp : V → Hp → VK → Prop} {p : Str}
end
/-! ## the first of those whose number is least -/
/-! ## min(xs, key=f) -/
end Vk
set_option Elab.async false
set_option maxRecDepth 100000
set_option maxHeartbeats 4000000
set_option linter.all false
namespace Vk
open L2 PySem PySem.Spec PyProof.Rows
/-! ## min of a list of tuples -/
theorem dpAll_len {K : PySem.W.Frag} {H : Hp} : ∀ {xs : List V} {ds : List PyData}, DpAll K H xs ds → xs.length = ds.length
  | _, _, .nil => rfl
  | _, _, .cons _ t => congrArg (· + 1) (dpAll_len t)
end Vk
set_option Elab.async false
set_option maxRecDepth 100000
set_option maxHeartbeats 4000000
set_option linter.all false
namespace Vk
open L2 PySem PySem.Spec PyProof.Rows
/-! ## max of a list of tuples, by a number that goes with their order -/
theorem argBest_top {bt : Nat → Nat → Bool} {g : Nat → Int} : ∀ m, (∀ i j, i ≤ m → j ≤ m → bt i j = true → g j ≤ g i) → (∀ i j, i ≤ m → j ≤ m → bt i j = false → g i ≤ g j) → argBest bt m ≤ m ∧ ∀ i, i ≤ m → g i ≤ g (argBest bt m)
  | 0, _, _ => ⟨Nat.le_refl _, fun i hi => by rw [Nat.le_zero.mp hi]; exact Int.le_refl _⟩
  | m + 1, h1, h2 => by
    obtain ⟨a, b⟩ := argBest_top m (fun i j hi hj => h1 i j (by omega) (by omega)) (fun i j hi hj => h2 i j (by omega) (by omega))
    rw [argBest]
    cases c : bt (m + 1) (argBest bt m) with
    | true =>
      have := h1 _ _ (Nat.le_refl _) (by omega) c
      refine ⟨Nat.le_refl _, fun i hi => ?_⟩
      by_cases e : i = m + 1
      · rw [e]; exact Int.le_refl _
      · exact Int.le_trans (b i (by omega)) this
    | false =>
      have := h2 _ _ (Nat.le_refl _) (by omega) c
      refine ⟨Nat.le_succ_of_le a, fun i hi => ?_⟩
      by_cases e : i = m + 1
      · rw [e]; exact this
      · exact b i (by omega)
def rMaxD (K : PySem.W.Frag) : List V → Hp → VK → Prop := fun vs H Q => ∃ (a : Addr) (xs : List V) (ds : List PyData) (g : Nat → Int), vs = [V.ref a] ∧ SqL K H a xs ∧ DpAll K H xs ds ∧ PySem.W.AlikeAll ds ∧ PyData.depthAll ds ≤ 20 ∧ 0 < ds.length ∧
  (∀ i j, i < ds.length → j < ds.length → (PySem.W.dataLt (ds.getD j .none) (ds.getD i .none) = true → g j ≤ g i) ∧ (PySem.W.dataLt (ds.getD j .none) (ds.getD i .none) = false → g i ≤ g j)) ∧ ∀ (i : Nat) v, xs[i]? = some v → (∀ j, j < ds.length → g j ≤ g i) → Q v H
theorem cr_maxD {X : Cx} (hca : X.calm = true) (hu : X.A.units + 64 < cLine) : CallR X (.builtin "max") (rMaxD X.K) := by
  intro pins s σ H vs us Q I r h
  obtain ⟨a, xs, ds, g, rfl, hS, hd, ha, hdep, hpos, hlt, hQ⟩ := h
  obtain ⟨u, rfl, ru⟩ := r.one
  cases ru
  obtain ⟨its, rv, pl, _⟩ := I.list hS
  have rlen := rv.length
  have dlen := dpAll_len hd
  obtain ⟨as, hr⟩ := Dp.readsAll I ds xs its hd rv
  have hr2 : ReadsAll s.heap its.toArray.toList ds as := by simpa using hr
  refine call_max_walkH (PySem.W.iter_listW (A := X.A.in1) (I.ok.hd hca) pl.isList fun s2 e W st hfp hw hk => ?_)
  have hn : 0 < its.toArray.size := by rw [List.size_toArray]; omega
  refine ⟨_, _, _, _, _, _, _, s.heap, _, rfl, W, st, hfp, hn, hw, hk, PySem.W.cmpIn_gt (A := X.A.in1) hr2 ha (by show X.A.units + 1 + _ < _; omega), fun v s' hP m => ?_⟩
  obtain ⟨h', tk, rfl, hk'⟩ := PySem.W.moved_old e rfl m
  have I2 : Inv X pins σ H { s with heap := h', toks := tk } := I.kept hk'
  have es : its.toArray.size - 1 = ds.length - 1 := by rw [List.size_toArray]; omega
  rw [es] at hP
  obtain ⟨le, a2⟩ := argBest_top (g := g) (bt := fun i j => PySem.W.dataLt (ds.getD j .none) (ds.getD i .none)) (ds.length - 1) (fun i j hi hj => (hlt i j (by omega) (by omega)).1) (fun i j hi hj => (hlt i j (by omega) (by omega)).2)
  generalize argBest (fun i j => PySem.W.dataLt (ds.getD j .none) (ds.getD i .none)) (ds.length - 1) = m0 at hP a2 le
  have hml : m0 < xs.length := by omega
  obtain ⟨u, hu, ru⟩ := rv.get (List.getElem?_eq_getElem hml)
  have eu : u = v := by
    rw [List.getElem?_toArray] at hP
    exact Option.some.inj (hu.symm.trans hP)
  subst eu
  exact ⟨xs[m0], H, I2, ru, hQ m0 _ (List.getElem?_eq_getElem hml) fun j hj => a2 j (by omega)⟩
/-- pairs of a number and a text -/
def nsD (p : Int × Str) : PyData := .tuple [.int p.1, .str p.2]
theorem ns_lt {p q : Int × Str} : (PySem.W.dataLt (nsD p) (nsD q) = true → p.1 ≤ q.1) ∧ (PySem.W.dataLt (nsD p) (nsD q) = false → q.1 ≤ p.1) := by
  obtain ⟨a, w⟩ := p
  obtain ⟨b, z⟩ := q
  by_cases e : a = b
  · subst e
    exact ⟨fun _ => Int.le_refl _, fun _ => Int.le_refl _⟩
  · have one : ∀ x y : Int, PyProof.Rows.lexLt itemOrd [Sum.inl x] [Sum.inl y] = decide (x < y) := fun x y => by
      show (decide (x < y) || (!decide (y < x) && false)) = _
      simp
    have q : PySem.W.dataLt (nsD (a, w)) (nsD (b, z)) = decide (a < b) := by
      unfold PySem.W.dataLt nsD
      simp only [PySem.W.keyToks, PySem.W.keyToksAll, List.cons_append, List.nil_append, List.append_nil]
      refine (PySem.W.lex_pre [Sum.inl 1] (Sum.inl a :: _) (Sum.inl b :: _)).trans ?_
      rw [PySem.W.lex_atom (fun z => e (Sum.inl.inj z)), one]
    rw [q]
    refine ⟨fun h => ?_, fun h => ?_⟩
    · have := of_decide_eq_true h
      show a ≤ b
      omega
    · have := of_decide_eq_false h
      show b ≤ a
      omega
end Vk
set_option Elab.async false
set_option maxRecDepth 100000
set_option maxHeartbeats 4000000
set_option linter.all false
namespace Vk
open L2 PySem PySem.Spec PyProof.Rows PySem.VkX
/-! ## several except clauses, two classes in one among them -/
inductive Cly
  | only (c : Value) (ts : Sui)
  | named (c : Value) (i : Nat) (ts : Sui)
  | pair (c1 c2 : Value) (ts : Sui)
inductive ClyOk (X : Cx) : List ExceptHandler → List Cly → Prop
  | nil : ClyOk X [] []
  | only {x : Str} {c : Value} {ts : Sui} {s0 : Stmt} {ss : List Stmt} {p1 p2 : Pos} {hs : List ExceptHandler} {l : List Cly} (hc : Names X x c) (su : SuiOk X (s0 :: ss) ts) (r : ClyOk X hs l) : ClyOk X (.ExceptHandler (some (.Name x p1)) none (s0 :: ss) p2 :: hs) (.only c ts :: l)
  | named {x n : Str} {c : Value} {i : Nat} {ts : Sui} {s0 : Stmt} {ss : List Stmt} {p1 p2 : Pos} {hs : List ExceptHandler} {l : List Cly} (hi : X.N[i]? = some n) (hl : X.env.kindOf n = some .local) (hc : Names X x c) (su : SuiOk X (s0 :: ss) ts) (r : ClyOk X hs l) :
      ClyOk X (.ExceptHandler (some (.Name x p1)) (some n) (s0 :: ss) p2 :: hs) (.named c i ts :: l)
  | pair {x y : Str} {c1 c2 : Value} {ts : Sui} {s0 : Stmt} {ss : List Stmt} {p1 p2 p3 pt : Pos} {kk : Nat} {hs : List ExceptHandler} {l : List Cly} (hx : Names X x c1) (hy : Names X y c2) (su : SuiOk X (s0 :: ss) ts) (r : ClyOk X hs l) :
      ClyOk X (.ExceptHandler (some (.Tuple [.Name x p1, .Name y p3] kk pt)) none (s0 :: ss) p2 :: hs) (.pair c1 c2 ts :: l)
section
variable {X : Cx} {body : List Stmt} {e0 : ExceptHandler} {es : List ExceptHandler} {l : List Cly} {pos : Pos} {tb : WX → TS} {W0 : WX}
end
end Vk
set_option Elab.async false
set_option maxRecDepth 100000
set_option maxHeartbeats 4000000
set_option linter.all false
namespace Vk
open PySem PySem.Spec PyProof.Rows L2 HT
/-! ## t[::-1], t a tuple -/
section
variable {prog : Program} {w : World} {A : Around} {E : Value → Shared → Prop} {s : Shared}
end
end Vk
set_option Elab.async false
set_option maxRecDepth 100000
set_option maxHeartbeats 4000000
set_option linter.all false
namespace Vk
open PySem PySem.Spec PyProof.Rows L2 LamX
/-! ## things: a value, or a list or a tuple of values -/
inductive Tg (H : Hp) : V → PyData → Prop
  | one {v : V} {d : PyData} : Th H v d → (∀ ds, d ≠ .tuple ds) → Tg H v d
  | lst {a : Addr} {vs : List V} {ds : List PyData} : H a = some (.lst vs) → Paired (Th H) vs ds → Tg H (.ref a) (.list ds)
  | tup {a : Addr} {vs : List V} {ds : List PyData} : H a = some (.tup vs) → Paired (Th H) vs ds → Tg H (.ref a) (.tuple ds)
theorem atms_ths {H : Hp} : ∀ {vs : List V} {ds : List PyData}, Paired Atm vs ds → Paired (Th H) vs ds
  | _, _, .nil => .nil
  | _, _, .cons a t => .cons (.atm a) (atms_ths t)
theorem Th.tg {H : Hp} {v : V} {d : PyData} (h : Th H v d) : Tg H v d := by
  cases h with
  | atm a => exact .one (.atm a) (fun ds z => by cases a <;> cases z)
  | lst e n p => exact .one (.lst e n p) (fun ds z => by cases z)
  | tup e p => exact .tup e (atms_ths p)
  | dct e => exact .one (.dct e) (fun ds z => by cases z)
theorem Tg.keep {H H' : Hp} {v : V} {d : PyData} (h : Tg H v d) (s : Same H H') : Tg H' v d := by
  cases h with
  | one th n => exact .one (th.keep s) n
  | lst e p => exact .lst (s _ _ e) (ths_keep s p)
  | tup e p => exact .tup (s _ _ e) (ths_keep s p)
theorem ths_ext {H H' : Hp} {p c : Addr} {T : Nat} (hp : Pen H p c T) (x : Ext p H H') : ∀ {vs : List V} {ds : List PyData}, Paired (Th H) vs ds → Paired (Th H') vs ds
  | _, _, .nil => .nil
  | _, _, .cons a t => .cons (a.ext hp x) (ths_ext hp x t)
theorem Tg.ext {H H' : Hp} {p c : Addr} {T : Nat} {v : V} {d : PyData} (h : Tg H v d) (hp : Pen H p c T) (x : Ext p H H') : Tg H' v d := by
  have ne : ∀ {a o}, H a = some o → (∀ k, o ≠ .dK k) → H' a = some o := fun {a o} e n => x _ _ e fun z => by
    obtain ⟨t, l, hl⟩ := hp.is
    rw [z, hl] at e
    exact n _ (Option.some.inj e).symm
  cases h with
  | one th n => exact .one (th.ext hp x) n
  | lst e p => exact .lst (ne e fun _ z => nomatch z) (ths_ext hp x p)
  | tup e p => exact .tup (ne e fun _ z => nomatch z) (ths_ext hp x p)
end Vk
set_option Elab.async false
set_option maxRecDepth 100000
set_option maxHeartbeats 4000000
set_option linter.all false
namespace Vk
open PySem PySem.Spec PyProof.Rows L2
/-! ## {k: v for x in l}, l a list that stays -/
theorem call_isiK {X : Cx} {K : PySem.W.Frag} (h : X.K = K) : CallR X (.builtin "isinstance") (rIsi K) := h ▸ call_isi
end Vk
set_option Elab.async false
set_option maxRecDepth 100000
set_option linter.all false
set_option maxHeartbeats 4000000
namespace Vk
open PySem PySem.Spec PyProof.Rows L2
section
variable {P : Program} {w : World} {K : PySem.W.Frag} {mg : Str → Option Value} {base : Heap}
/-- the letters -/
abbrev ll (x : Str) : List Nat := x.cps.toList
theorem ll_len (x : Str) : (ll x).length = x.length := Array.length_toList
theorem ll_at {x : Str} {i : Nat} (h : i < x.length) : x.cps[i]? = some (fnL (ll x) i) := by
  have h2 : i < (ll x).length := by rw [ll_len]; exact h
  have e : (ll x)[i]? = some (fnL (ll x) i) := by
    unfold fnL
    rw [List.getD_eq_getElem?_getD, List.getElem?_eq_getElem h2]
    rfl
  rwa [Array.getElem?_toList] at e
theorem atI_ll {x : Str} {i : Nat} (h : i < x.length) : atI x.cps.toList ((i : Nat) : Int) = some (fnL (ll x) i) := by
  refine atI_nat ?_
  rw [Array.getElem?_toList]
  exact ll_at h
def spRun : Sp := fun vs H Q _ => ∃ x y i d, vs = [.str x, .str y, .int (i : Nat), .int d] ∧ x.length ≤ 200 ∧ y.length ≤ 200 ∧ On (ll x) (ll y) i d ∧ Q (.int (goM (ll x) (ll y) i d : Nat)) H
abbrev s_run_on : Stmt := top 4
theorem sc_run_on : FnScope ["one", "other", "index", "diagonal"] ["one", "other", "index", "diagonal"] (defScope s_run_on) := ⟨rfl, rfl, rfl, by decide +kernel, rfl, by decide +kernel, by decide +kernel⟩
theorem b_run_on {f : Addr} {fd : FuncData} (F : Fun K "run_on" "run_on" s_run_on f fd) (T : Txt mg) : FnG P w K mg base CX0 1 f fd ["one", "other", "index", "diagonal"] spRun := by
  refine okG0 F sc_run_on (fun vs H Q E h => ?_) (fun cdv A outer s H vs Q E hg hr h => ?_)
  · obtain ⟨x, y, i, d, rfl, _⟩ := h
    rfl
  · have hu := hu_of hr
    have hu64 := hr.units
    obtain ⟨x, y, i, d, rfl, hx, hy, on, k⟩ := h
    have xl : x.length ≤ sizeLine := Nat.le_trans hx (by decide)
    have yl : y.length ≤ sizeLine := Nat.le_trans hy (by decide)
    have lx := ll_len x
    have ly := ll_len y
    refine ⟨_, (pss_cons (ps_while PassesOwn.never (PW.pt (pw_and (pt_cmpR op_lt (pv 2) (pe_callB call_len (by rfl) T.len (by decide +kernel) (pa_cons (pv 0) pa_nil)) (nomark _)) (pw_and (pt_cmpR op_lt (pe_op op_add (pv 2) (pv 3)) (pe_callB call_len (by rfl) T.len (by decide +kernel) (pa_cons (pv 1) pa_nil)) (nomark _)) (pw_and1 (pt_cmpR op_eq (pe_ix ix_str (pv 0) (pv 2) (fun _ _ => rfl)) (pe_ix ix_str (pv 1) (pe_op op_add (pv 2) (pv 3)) (fun _ _ => rfl)) (nomark _)))))) (pss_one (ps_aug (i := 2) sc_run_on.nd rfl (Or.inl rfl) pe_int ip_add)))
      (pss_one (ps_ret (pv 2)))), ?_⟩
    refine ⟨fun m σ H' => ∃ e : Nat, σ = [some (.str x), some (.str y), some (.int (e : Nat)), some (.int d)] ∧ H' = H ∧ On (ll x) (ll y) e d ∧ goM (ll x) (ll y) e d = goM (ll x) (ll y) i d ∧ m = x.length - e, ⟨_, i, rfl, rfl, on, rfl, rfl⟩, ?_⟩
    rintro m σ H2 ⟨e, rfl, rfl, ⟨o1, o2, o3⟩, ge, rfl⟩
    have stop : (x.length ≤ e ∨ (y.length : Int) ≤ e + d) → goM (ll x) (ll y) e d = e := fun h => by
      unfold goM
      rw [com_end (by omega)]
      rfl
    refine ⟨_, rfl, _, rfl, _, _, rfl, ⟨xl, rfl⟩, _, _, rfl, rfl, _, rfl, ?_⟩
    by_cases c1 : e < x.length
    · rw [decide_eq_true (show ((e : Nat) : Int) < ((x.length : Nat) : Int) by omega)]
      refine iteT ⟨_, rfl, _, rfl, _, _, rfl, rfl, _, rfl, _, _, rfl, ⟨yl, rfl⟩, _, _, rfl, rfl, _, rfl, ?_⟩
      by_cases c2 : (e : Int) + d < y.length
      · rw [decide_eq_true (show (e : Int) + d < ((y.length : Nat) : Int) by omega)]
        obtain ⟨j, hj⟩ : ∃ j : Nat, (e : Int) + d = (j : Nat) := ⟨((e : Int) + d).toNat, by omega⟩
        refine iteT ⟨_, rfl, _, rfl, x, _, _, rfl, rfl, xl, atI_ll c1, ?_⟩
        refine ⟨_, rfl, _, rfl, _, rfl, _, _, rfl, rfl, y, _, fnL (ll y) j, rfl, rfl, yl, ?_, ?_⟩
        · rw [hj]
          exact atI_ll (by omega)
        refine ⟨rfl, _, rfl, ?_⟩
        rw [show decide (V.str ⟨#[fnL (ll x) e]⟩ = V.str ⟨#[fnL (ll y) j]⟩) = decide (fnL (ll x) e = fnL (ll y) j) from ones_eq _ _]
        by_cases c3 : fnL (ll x) e = fnL (ll y) j
        · rw [decide_eq_true c3]
          refine iteT ⟨fun σ' H' => σ' = [some (.str x), some (.str y), some (.int ((e : Nat) + 1)), some (.int d)] ∧ H' = H2, ?_, ?_⟩
          · rintro σ' H' ⟨rfl, rfl⟩
            refine ⟨_, (by omega : x.length - (e + 1) < x.length - e), e + 1, rfl, rfl, ⟨by omega, by omega, by omega⟩, ?_, rfl⟩
            rw [← ge]
            unfold goM
            rw [show ((e : Int) + d).toNat = j by omega, com_pos (i := e) (j := j) (by omega) (by omega), if_pos c3, show (((e + 1 : Nat) : Int) + d).toNat = j + 1 by omega]
            omega
          · exact ⟨_, rfl, _, _, rfl, rfl, rfl, rfl⟩
        · rw [decide_eq_false c3]
          refine iteF ⟨_, rfl, ?_⟩
          have : goM (ll x) (ll y) e d = e := by
            unfold goM
            rw [show ((e : Int) + d).toNat = j by omega, com_pos (i := e) (j := j) (by omega) (by omega), if_neg c3]
            rfl
          rw [← ge, this] at k
          exact k
      · rw [decide_eq_false (show ¬ (e : Int) + d < ((y.length : Nat) : Int) by omega)]
        refine iteF ⟨_, rfl, ?_⟩
        rw [← ge, stop (.inr (by omega))] at k
        exact k
    · rw [decide_eq_false (show ¬ ((e : Nat) : Int) < ((x.length : Nat) : Int) by omega)]
      refine iteF ⟨_, rfl, ?_⟩
      rw [← ge, stop (.inl (by omega))] at k
      exact k
end
end Vk
set_option Elab.async false
set_option maxRecDepth 100000
set_option linter.all false
set_option maxHeartbeats 4000000
namespace Vk
open PySem PySem.Spec PyProof.Rows L2
section
variable {P : Program} {w : World} {K : PySem.W.Frag} {mg : Str → Option Value} {base : Heap}
theorem seq_mid {A B : TS} {D : Ends} {σ : L2.St} {H : Hp} (Mid : L2.St → Hp → Prop) (h1 : ∀ D', (∀ σ H, Mid σ H → D'.nx σ H) → A D' σ H) (h2 : ∀ σ H, Mid σ H → B D σ H) : tSeq A B D σ H := h1 _ h2
theorem name_go {i : Nat} {v : V} {σ : L2.St} {H : Hp} {Q : L2.St → Hp → Prop} (h : Q (σ.set i (some v)) H) : gName i v σ H Q := h
/-- a level: how far one has come on each diagonal -/
def LvD (H : Hp) (r : Addr) (f : Int → Option Nat) : Prop := ∃ kvs : List (Key × V), H r = some (.dK kvs) ∧ (∀ d : Int, valV kvs (Sum.inl d) = (f d).map fun i => V.int (i : Nat)) ∧ (∀ kv ∈ kvs, ∃ d : Int, kv.1 = Sum.inl d) ∧ kvs.length ≤ 1000
theorem LvD.keep {H H1 : Hp} {r : Addr} {f : Int → Option Nat} (h : LvD H r f) (s : Same H H1) : LvD H1 r f := by
  obtain ⟨kvs, h1, h2⟩ := h
  exact ⟨kvs, s _ _ h1, h2⟩
theorem LvD.list {H : Hp} {r l : Addr} {f : Int → Option Nat} {xs : List V} {o : HO} (h : LvD H r f) (hl : H l = some (.lst xs)) : LvD (upd H l o) r f := by
  obtain ⟨kvs, h1, h2⟩ := h
  exact ⟨kvs, by rw [upd_ne (fun e => by rw [e, hl] at h1; cases h1)]; exact h1, h2⟩
theorem LvD.get {H : Hp} {r : Addr} {f : Int → Option Nat} (h : LvD H r f) (d : Int) : DGet H r (.int d) ((f d).map fun i => V.int (i : Nat)) := by
  obtain ⟨kvs, h1, h2, _⟩ := h
  have := DGet.k (k := Sum.inl d) h1
  rw [h2] at this
  exact this
def wS : Wd → Str
  | .put => "put"
  | .drop => "drop"
  | .set => "set"
/-- pairs of a number and a word -/
def NsR (H : Hp) : List V → List (Nat × Wd) → Prop := Paired fun v (p : Nat × Wd) => ∃ t, v = V.ref t ∧ H t = some (.tup [.int (p.1 : Nat), .str (wS p.2)])
theorem NsR.keep {H H1 : Hp} {xs : List V} {ps : List (Nat × Wd)} (h : NsR H xs ps) (s : Same H H1) : NsR H1 xs ps := pair_mono (fun v p ⟨t, e, ht⟩ => ⟨t, e, s _ _ ht⟩) h
theorem NsR.keepT {H H1 : Hp} {xs : List V} {ps : List (Nat × Wd)} (h : NsR H xs ps) (s : ∀ u ws, H u = some (.tup ws) → H1 u = some (.tup ws)) : NsR H1 xs ps := pair_mono (fun v p ⟨t, e, ht⟩ => ⟨t, e, s _ _ ht⟩) h
/-- one more -/
theorem NsR.more {H : Hp} {l t : Addr} {xs : List V} {ps : List (Nat × Wd)} {p : Nat × Wd} (h : NsR H xs ps) (hl : H l = some (.lst xs)) (ht : H t = none) : NsR (upd (upd H t (.tup [.int (p.1 : Nat), .str (wS p.2)])) l (.lst (xs ++ [.ref t]))) (xs ++ [.ref t]) (ps ++ [p]) := by
  have st := same_new (o := .tup [.int (p.1 : Nat), .str (wS p.2)]) ht
  have hl2 := st _ _ hl
  exact Paired.snoc ((h.keep st).keepT (upd_list hl2)) ⟨t, rfl, upd_list hl2 _ _ upd_same⟩
theorem stP_len {m : Nat} {f : Int → Option Nat} {d : Int} : (stP m f d).length ≤ 1 := by
  unfold stP
  split
  · split
    · exact Nat.le_refl _
    · exact Nat.zero_le _
  · exact Nat.zero_le _
theorem stD_len {n : Nat} {f : Int → Option Nat} {d : Int} : (stD n f d).length ≤ 1 := by
  unfold stD
  split
  · split
    · exact Nat.le_refl _
    · exact Nat.zero_le _
  · exact Nat.zero_le _
def spStarts : Sp := fun vs H Q _ => ∃ x y r d f, vs = [.str x, .str y, .ref r, .int d] ∧ x.length ≤ 200 ∧ y.length ≤ 200 ∧ LvD H r f ∧ ∀ l xs H', H l = none → H' l = some (.lst xs) → NsR H' xs (stM (ll x).length (ll y).length f d) → Same H H' → Q (.ref l) H'
abbrev s_starts_behind : Stmt := top 5
theorem sc_starts_behind : FnScope ["one", "other", "level", "diagonal", "told"] ["one", "other", "level", "diagonal"] (defScope s_starts_behind) := ⟨rfl, rfl, rfl, by decide +kernel, rfl, by decide +kernel, by decide +kernel⟩
theorem b_starts_behind {f : Addr} {fd : FuncData} (F : Fun K "starts_behind" "starts_behind" s_starts_behind f fd) (T : Txt mg) : FnG P w K mg base CX0 1 f fd ["one", "other", "level", "diagonal"] spStarts := by
  refine okG0 F sc_starts_behind (fun vs H Q E h => ?_) (fun cdv A outer s H vs Q E hg hr h => ?_)
  · obtain ⟨x, y, r, d, f, rfl, _⟩ := h
    rfl
  · have hu := hu_of hr
    have hu64 := hr.units
    obtain ⟨x, y, r, d, f, rfl, hx, hy, lv, k⟩ := h
    have xl : x.length ≤ sizeLine := Nat.le_trans hx (by decide)
    have yl : y.length ≤ sizeLine := Nat.le_trans hy (by decide)
    have lx := ll_len x
    have ly := ll_len y
    refine ⟨_, (pss_cons (ps_set (i := 4) sc_starts_behind.nd rfl (Or.inl rfl) (pe_lst pa_nil))
      (pss_cons (ps_if (PW.pt (pw_and (pt_cmp (pc_din hu (pe_op op_sub (pv 3) pe_int) (pv 2))) (pw_and1 (pt_cmpR op_le (pe_op op_add (pe_dget hu (pv 2) (pe_op op_sub (pv 3) pe_int) (fun _ _ => rfl)) (pv 3)) (pe_callB call_len (by rfl) T.len (by decide +kernel) (pa_cons (pv 1) pa_nil)) (nomark _))))) (pss_one (ps_expr (pe_bm PySem.F.plainAttrs_list PySem.F.slot_list_append PySem.F.type_list_append mt_append (pv 4) (pa_cons (pe_tup (pa_cons (pe_dget hu (pv 2) (pe_op op_sub (pv 3) pe_int) (fun _ _ => rfl)) (pa_cons pe_str pa_nil))) pa_nil)))) pss_nil)
      (pss_cons (ps_if (PW.pt (pw_and (pt_cmp (pc_din hu (pe_op op_add (pv 3) pe_int) (pv 2))) (pw_and1 (pt_cmpR op_lt (pe_dget hu (pv 2) (pe_op op_add (pv 3) pe_int) (fun _ _ => rfl)) (pe_callB call_len (by rfl) T.len (by decide +kernel) (pa_cons (pv 0) pa_nil)) (nomark _))))) (pss_one (ps_expr (pe_bm PySem.F.plainAttrs_list PySem.F.slot_list_append PySem.F.type_list_append mt_append (pv 4) (pa_cons (pe_tup (pa_cons (pe_op op_add (pe_dget hu (pv 2) (pe_op op_add (pv 3) pe_int) (fun _ _ => rfl)) pe_int) (pa_cons pe_str pa_nil))) pa_nil)))) pss_nil)
      (pss_cons (ps_if (PW.pt (pw_and (pt_cmp (pc_din hu (pv 3) (pv 2))) (pw_and1 (pt_cmpR op_lt (pe_dget hu (pv 2) (pv 3) (fun _ _ => rfl)) (pe_callB (call_min2 rfl) (by rfl) T.min (by decide +kernel) (pa_cons (pe_callB call_len (by rfl) T.len (by decide +kernel) (pa_cons (pv 0) pa_nil)) (pa_cons (pe_op op_sub (pe_callB call_len (by rfl) T.len (by decide +kernel) (pa_cons (pv 1) pa_nil)) (pv 3)) pa_nil))) (nomark _))))) (pss_one (ps_expr (pe_bm PySem.F.plainAttrs_list PySem.F.slot_list_append PySem.F.type_list_append mt_append (pv 4) (pa_cons (pe_tup (pa_cons (pe_op op_add (pe_dget hu (pv 2) (pv 3) (fun _ _ => rfl)) pe_int) (pa_cons pe_str pa_nil))) pa_nil)))) pss_nil)
      (pss_one (ps_ret (pv 4))))))), ?_⟩
    refine ⟨by show 0 ≤ sizeLine; decide, fun l hl => ?_⟩
    have sl := same_new (o := .lst []) hl
    refine name_go ?_
    dsimp only
    refine seq_mid (fun σ H' => ∃ xs, σ = [some (.str x), some (.str y), some (.ref r), some (.int d), some (.ref l)] ∧ H' l = some (.lst xs) ∧ Same H H' ∧ NsR H' xs (stP (ll y).length f d)) (fun D' hD' => ?_) (fun σ H1 hm => ?_)
    · have lv1 := lv.keep sl
      refine ⟨_, rfl, _, _, rfl, rfl, _, rfl, r, _, rfl, lv1.get _, _, rfl, ?_⟩
      unfold stP at hD'
      cases hf : f (d - 1) with
      | none =>
        rw [hf] at hD'
        exact iteF (hD' _ _ ⟨[], rfl, upd_same, sl, .nil⟩)
      | some i =>
        have g1 := lv1.get (d - 1)
        rw [hf] at g1 hD'
        simp only at hD'
        refine iteT ⟨_, rfl, _, rfl, _, _, rfl, rfl, r, _, rfl, g1, ?_⟩
        refine ⟨_, rfl, _, _, rfl, rfl, _, rfl, _, _, rfl, ⟨yl, rfl⟩, _, _, rfl, rfl, _, rfl, ?_⟩
        by_cases c : (i : Int) + d ≤ (ll y).length
        · rw [decide_eq_true (show (i : Int) + d ≤ ((y.length : Nat) : Int) by omega)]
          rw [if_pos c] at hD'
          refine iteT ⟨_, rfl, .inl ⟨rfl, _, SqL.of upd_same⟩, _, rfl, _, rfl, _, _, rfl, rfl, r, _, rfl, g1, by show 2 ≤ sizeLine; decide, fun t ht => ?_⟩
          have st := same_new (o := .tup [.int (i : Nat), .str (wS .put)]) ht
          refine ⟨l, _, _, rfl, rfl, st _ _ upd_same, fewL (by decide), hD' _ _ ⟨_, rfl, upd_same, upd_out hl (sl.trans st), NsR.more (p := (i, .put)) .nil upd_same ht⟩⟩
        · rw [decide_eq_false (show ¬ (i : Int) + d ≤ ((y.length : Nat) : Int) by omega)]
          rw [if_neg c] at hD'
          exact iteF (hD' _ _ ⟨[], rfl, upd_same, sl, .nil⟩)
    obtain ⟨xs, rfl, hl1, s1, ns1⟩ := hm
    have n1 := paired_len ns1
    have m1 := stP_len (m := (ll y).length) (f := f) (d := d)
    refine seq_mid (fun σ H' => ∃ xs, σ = [some (.str x), some (.str y), some (.ref r), some (.int d), some (.ref l)] ∧ H' l = some (.lst xs) ∧ Same H H' ∧ NsR H' xs (stP (ll y).length f d ++ stD (ll x).length f d)) (fun D' hD' => ?_) (fun σ H2 hm => ?_)
    · have lv1 := lv.keep s1
      refine ⟨_, rfl, _, _, rfl, rfl, _, rfl, r, _, rfl, lv1.get _, _, rfl, ?_⟩
      unfold stD at hD'
      cases hf : f (d + 1) with
      | none =>
        rw [hf] at hD'
        exact iteF (hD' _ _ ⟨xs, rfl, hl1, s1, by rw [List.append_nil]; exact ns1⟩)
      | some i =>
        have g1 := lv1.get (d + 1)
        rw [hf] at g1 hD'
        simp only at hD'
        refine iteT ⟨_, rfl, _, rfl, _, _, rfl, rfl, r, _, rfl, g1, ?_⟩
        refine ⟨_, rfl, _, _, rfl, ⟨xl, rfl⟩, _, _, rfl, rfl, _, rfl, ?_⟩
        by_cases c : i < (ll x).length
        · rw [decide_eq_true (show ((i : Nat) : Int) < ((x.length : Nat) : Int) by omega)]
          rw [if_pos c] at hD'
          refine iteT ⟨_, rfl, .inl ⟨rfl, _, SqL.of hl1⟩, _, rfl, _, rfl, _, _, rfl, rfl, r, _, rfl, g1, _, _, rfl, rfl, by show 2 ≤ sizeLine; decide, fun t ht => ?_⟩
          have st := same_new (o := .tup [.int ((i + 1 : Nat) : Int), .str (wS .drop)]) ht
          refine ⟨l, _, _, rfl, rfl, st _ _ hl1, fewL (by omega), hD' _ _ ⟨_, rfl, upd_same, upd_out hl (s1.trans st), NsR.more (p := (i + 1, .drop)) ns1 hl1 ht⟩⟩
        · rw [decide_eq_false (show ¬ ((i : Nat) : Int) < ((x.length : Nat) : Int) by omega)]
          rw [if_neg c] at hD'
          exact iteF (hD' _ _ ⟨xs, rfl, hl1, s1, by rw [List.append_nil]; exact ns1⟩)
    clear hl1 s1 ns1 n1 xs
    obtain ⟨xs, rfl, hl1, s1, ns1⟩ := hm
    have n1 := paired_len ns1
    have m2 := stD_len (n := (ll x).length) (f := f) (d := d)
    rw [List.length_append] at n1
    refine seq_mid (fun σ H' => ∃ xs, σ = [some (.str x), some (.str y), some (.ref r), some (.int d), some (.ref l)] ∧ H' l = some (.lst xs) ∧ Same H H' ∧ NsR H' xs (stM (ll x).length (ll y).length f d)) (fun D' hD' => ?_) (fun σ H3 hm => ?_)
    · have lv1 := lv.keep s1
      refine ⟨_, rfl, _, rfl, r, _, rfl, lv1.get _, _, rfl, ?_⟩
      unfold stM stS at hD'
      cases hf : f d with
      | none =>
        rw [hf] at hD'
        exact iteF (hD' _ _ ⟨xs, rfl, hl1, s1, by rw [List.append_nil]; exact ns1⟩)
      | some i =>
        have g1 := lv1.get d
        rw [hf] at g1 hD'
        simp only at hD'
        refine iteT ⟨_, rfl, _, rfl, r, _, rfl, g1, ?_⟩
        refine ⟨_, rfl, _, _, rfl, ⟨xl, rfl⟩, _, rfl, _, _, rfl, ⟨yl, rfl⟩, _, rfl, _, _, rfl, rfl, _, _, rfl, ?_⟩
        refine ⟨_, _, rfl, rfl, _, rfl, ?_⟩
        have em : (if ((y.length : Nat) : Int) - d < ((x.length : Nat) : Int) then ((y.length : Nat) : Int) - d else ((x.length : Nat) : Int)) = min (((ll x).length : Nat) : Int) (((ll y).length : Nat) - d) := by rw [lx, ly]; split <;> omega
        rw [em]
        by_cases c : (i : Int) < min (((ll x).length : Nat) : Int) (((ll y).length : Nat) - d)
        · rw [decide_eq_true c]
          rw [if_pos c] at hD'
          refine iteT ⟨_, rfl, .inl ⟨rfl, _, SqL.of hl1⟩, _, rfl, _, rfl, r, _, rfl, g1, _, _, rfl, rfl, by show 2 ≤ sizeLine; decide, fun t ht => ?_⟩
          have st := same_new (o := .tup [.int ((i + 1 : Nat) : Int), .str (wS .set)]) ht
          refine ⟨l, _, _, rfl, rfl, st _ _ hl1, fewL (by omega), hD' _ _ ⟨_, rfl, upd_same, upd_out hl (s1.trans st), NsR.more (p := (i + 1, .set)) ns1 hl1 ht⟩⟩
        · rw [decide_eq_false c]
          rw [if_neg c] at hD'
          exact iteF (hD' _ _ ⟨xs, rfl, hl1, s1, by rw [List.append_nil]; exact ns1⟩)
    obtain ⟨xs, rfl, hl3, s3, ns3⟩ := hm
    exact ⟨_, rfl, k l xs H3 hl hl3 ns3 s3⟩
end
end Vk
set_option Elab.async false
set_option maxRecDepth 100000
set_option linter.all false
set_option maxHeartbeats 4000000
namespace Vk
open PySem PySem.Spec PyProof.Rows L2
section
variable {P : Program} {w : World} {K : PySem.W.Frag} {mg : Str → Option Value} {base : Heap}
/-- the levels up to a number -/
def LvsR (H : Hp) (x y : Str) : List V → List Nat → Prop := Paired fun v e => ∃ r, v = V.ref r ∧ LvD H r (lvM (ll x) (ll y) e)
theorem LvsR.keep {H H1 : Hp} {x y : Str} {xs : List V} {ps : List Nat} (h : LvsR H x y xs ps) (s : Same H H1) : LvsR H1 x y xs ps := pair_mono (fun v p ⟨t, e, ht⟩ => ⟨t, e, ht.keep s⟩) h
theorem LvsR.list {H : Hp} {l : Addr} {x y : Str} {xs ys : List V} {o : HO} {ps : List Nat} (h : LvsR H x y xs ps) (hl : H l = some (.lst ys)) : LvsR (upd H l o) x y xs ps := pair_mono (fun v p ⟨t, e, ht⟩ => ⟨t, e, ht.list hl⟩) h
def keyI (kv : Key × V) : Int := match kv.1 with | .inl d => d | .inr _ => 0
theorem keys_int {kvs : List (Key × V)} (h : ∀ kv ∈ kvs, ∃ d : Int, kv.1 = Sum.inl d) : (kvs.map fun kv => kV kv.1) = (kvs.map keyI).map V.int := by
  rw [List.map_map]
  refine List.map_congr_left fun kv hk => ?_
  obtain ⟨d, e⟩ := h kv hk
  show kV kv.1 = V.int (keyI kv)
  unfold keyI
  rw [e]
  rfl
theorem key_mem {kvs : List (Key × V)} {f : Int → Option Nat} (hv : ∀ d : Int, valV kvs (Sum.inl d) = (f d).map fun i => V.int (i : Nat)) (h : ∀ kv ∈ kvs, ∃ d : Int, kv.1 = Sum.inl d) {d : Int} : d ∈ kvs.map keyI ↔ ∃ i, f d = some i := by
  have e := valV_any (Sum.inl d : Key) kvs
  rw [hv] at e
  constructor
  · intro m
    obtain ⟨kv, hk, hd⟩ := List.mem_map.mp m
    obtain ⟨d2, e2⟩ := h kv hk
    have : d2 = d := by
      unfold keyI at hd
      rw [e2] at hd
      exact hd
    subst this
    have t : (kvs.any fun kv => decide (kv.1 = Sum.inl d2)) = true := List.any_eq_true.mpr ⟨kv, hk, decide_eq_true e2⟩
    rw [t] at e
    cases q : f d2 with
    | none => rw [q] at e; cases e
    | some i => exact ⟨i, rfl⟩
  · rintro ⟨i, hi⟩
    rw [hi] at e
    obtain ⟨kv, hk, hd⟩ := List.any_eq_true.mp e
    refine List.mem_map.mpr ⟨kv, hk, ?_⟩
    unfold keyI
    rw [of_decide_eq_true hd]
theorem st_none {n m : Nat} {f : Int → Option Nat} {d : Int} (h1 : f (d - 1) = none) (h2 : f (d + 1) = none) (h3 : f d = none) : stM n m f d = [] := by
  unfold stM stP stD stS
  rw [h1, h2, h3]
  rfl
theorem nx_none {a b : List Nat} {f : Int → Option Nat} {d : Int} (h1 : f (d - 1) = none) (h2 : f (d + 1) = none) (h3 : f d = none) : nxM a b f d = none := by
  unfold nxM
  rw [if_pos (st_none h1 h2 h3)]
theorem put_key {kvs : List (Key × V)} {k : Key} {v : V} {kv : Key × V} (h : kv ∈ putK kvs k v) : kv.1 = k ∨ ∃ kv2 ∈ kvs, kv2.1 = kv.1 := by
  unfold putK at h
  split at h
  · obtain ⟨kv2, h2, e⟩ := List.mem_map.mp h
    refine .inr ⟨kv2, h2, ?_⟩
    rw [← e]
    split <;> rfl
  · rcases List.mem_append.mp h with h | h
    · exact .inr ⟨kv, h, rfl⟩
    · rw [List.mem_singleton.mp h]
      exact .inl rfl
theorem dst_up (a b : List Nat) : dst a b ≤ a.length + b.length := edD_up _ _
/-- pairs as data -/
def nwD (p : Nat × Wd) : PyData := nsD ((p.1 : Int), wS p.2)
theorem ns_dp {H : Hp} : ∀ {xs : List V} {ps : List (Nat × Wd)}, NsR H xs ps → DpAll K H xs (ps.map nwD)
  | _, _, .nil => .nil
  | _, _, .cons a t => .cons (by
      obtain ⟨u, rfl, h⟩ := a
      exact .tup (SqT.of h) (.cons (.int _) (.cons (.str _) .nil))) (ns_dp t)
def nwG (ps : List (Nat × Wd)) (i : Nat) : Int := ((ps[i]?).map fun p => (p.1 : Int)).getD 0
/-- max of what may be a start -/
theorem max_st {H : Hp} {xs : List V} {ps : List (Nat × Wd)} (ns : NsR H xs ps) (hne : ps ≠ []) : PySem.W.AlikeAll (ps.map nwD) ∧ PyData.depthAll (ps.map nwD) ≤ 20 ∧ 0 < (ps.map nwD).length ∧
    (∀ i j, i < (ps.map nwD).length → j < (ps.map nwD).length → (PySem.W.dataLt ((ps.map nwD).getD j .none) ((ps.map nwD).getD i .none) = true → nwG ps j ≤ nwG ps i) ∧ (PySem.W.dataLt ((ps.map nwD).getD j .none) ((ps.map nwD).getD i .none) = false → nwG ps i ≤ nwG ps j)) ∧
    ∀ (i : Nat) v, xs[i]? = some v → (∀ j, j < (ps.map nwD).length → nwG ps j ≤ nwG ps i) → ∃ p t, v = V.ref t ∧ p ∈ ps ∧ topM ps = p.1 ∧ H t = some (.tup [.int (p.1 : Nat), .str (wS p.2)]) := by
  have len := paired_len ns
  refine ⟨⟨fun a ha b hb => ?_, fun a ha => ?_⟩, ?_, ?_, fun i j hi hj => ?_, fun i v hv hm => ?_⟩
  · obtain ⟨p, _, rfl⟩ := List.mem_map.mp ha
    obtain ⟨q, _, rfl⟩ := List.mem_map.mp hb
    rfl
  · obtain ⟨p, _, rfl⟩ := List.mem_map.mp ha
    intro z
    cases z
  · refine Nat.le_trans (depthAll_const _ 1 fun d hd => ?_) (by decide)
    obtain ⟨p, _, rfl⟩ := List.mem_map.mp hd
    exact Nat.le_of_eq rfl
  · rw [List.length_map]
    exact List.length_pos_iff.mpr hne
  · rw [List.length_map] at hi hj
    have gd : ∀ i, i < ps.length → (ps.map nwD).getD i .none = nwD (ps.getD i (0, .put)) ∧ nwG ps i = ((ps.getD i (0, .put)).1 : Int) := fun i hi => by
      unfold nwG
      rw [List.getD_eq_getElem?_getD, List.getD_eq_getElem?_getD, List.getElem?_map, List.getElem?_eq_getElem hi]
      exact ⟨rfl, rfl⟩
    rw [(gd i hi).1, (gd j hj).1, (gd i hi).2, (gd j hj).2]
    exact ns_lt
  · obtain ⟨p, hp, t, rfl, ht⟩ := paired_at ns hv
    refine ⟨p, t, rfl, List.mem_of_getElem? hp, topM_of (List.mem_of_getElem? hp) fun q hq => ?_, ht⟩
    obtain ⟨j, hj⟩ := List.mem_iff_getElem?.mp hq
    have := hm j (by rw [List.length_map]; exact (List.getElem?_eq_some_iff.mp hj).1)
    unfold nwG at this
    simp only [hp, hj, Option.map_some, Option.getD_some] at this
    omega
def spLevels : Sp := fun vs H Q _ => ∃ x y, vs = [.str x, .str y] ∧ x.length ≤ 200 ∧ y.length ≤ 200 ∧ ∀ l refs H', H l = none → H' l = some (.lst refs) → LvsR H' x y refs (List.range (dst (ll x) (ll y) + 1)) → Same H H' → Q (.ref l) H'
abbrev s_levels_to : Stmt := top 6
theorem sc_levels_to : FnScope ["one", "other", "goal", "levels", "last", "level", "diagonal", "starts"] ["one", "other"] (defScope s_levels_to) := ⟨rfl, rfl, rfl, by decide +kernel, rfl, by decide +kernel, by decide +kernel⟩
theorem b_levels_to {f : Addr} {fd : FuncData} (F : Fun K "levels_to" "levels_to" s_levels_to f fd) (T : Txt mg) (c_run_on : CalG P w K mg base CX0 1 "run_on" spRun) (c_starts_behind : CalG P w K mg base CX0 1 "starts_behind" spStarts) : FnG P w K mg base CX0 2 f fd ["one", "other"] spLevels := by
  refine okG0 F sc_levels_to (fun vs H Q E h => ?_) (fun cdv A outer s H vs Q E hg hr h => ?_)
  · obtain ⟨x, y, rfl, _⟩ := h
    rfl
  · have hu := hu_of hr
    have hu64 := hr.units
    obtain ⟨x, y, rfl, hx, hy, k⟩ := h
    have xl : x.length ≤ sizeLine := Nat.le_trans hx (by decide)
    have yl : y.length ≤ sizeLine := Nat.le_trans hy (by decide)
    have lx := ll_len x
    have ly := ll_len y
    refine ⟨_, (pss_cons (ps_set (i := 2) sc_levels_to.nd rfl (Or.inl rfl) (pe_op op_sub (pe_callB call_len (by rfl) T.len (by decide +kernel) (pa_cons (pv 1) pa_nil)) (pe_callB call_len (by rfl) T.len (by decide +kernel) (pa_cons (pv 0) pa_nil))))
      (pss_cons (ps_set (i := 3) sc_levels_to.nd rfl (Or.inl rfl) (pe_lst (pa_cons (pe_disp (pps_cons pe_int (pe_cG c_run_on hg hr (by decide) pass0 (pa_cons (pv 0) (pa_cons (pv 1) (pa_cons pe_int (pa_cons pe_int pa_nil))))) pps_nil) (by rfl) (by rfl) (fun z => by cases z) (by decide)) pa_nil)))
      (pss_cons (ps_while PassesOwn.never (pt_cmpR op_ne (pe_dget1 hu (pe_ix ix_list (pv 3) (pe_un un_neg pe_int) (fun _ _ => rfl)) (pv 2) ⟨rfl, rfl, rfl, rfl⟩) (pe_callB call_len (by rfl) T.len (by decide +kernel) (pa_cons (pv 0) pa_nil)) (nomark _)) (pss_cons (ps_set (i := 4) sc_levels_to.nd rfl (Or.inl rfl) (pe_ix ix_list (pv 3) (pe_un un_neg pe_int) (fun _ _ => rfl)))
      (pss_cons (ps_set (i := 5) sc_levels_to.nd rfl (Or.inl rfl) pe_dnewK)
      (pss_cons (ps_for PassesOwn.never rfl (pi_range2 rfl T.range (pa_cons (pe_op op_sub (pe_callB (cr_min rfl) (by rfl) T.min (by decide +kernel) (pa_cons (pe_callTy (call_listD rfl) (by rfl) T.list (by decide +kernel) (pa_cons (pv 4) pa_nil)) pa_nil)) pe_int) (pa_cons (pe_op op_add (pe_callB (cr_max rfl) (by rfl) T.max (by decide +kernel) (pa_cons (pe_callTy (call_listD rfl) (by rfl) T.list (by decide +kernel) (pa_cons (pv 4) pa_nil)) pa_nil)) pe_int) pa_nil))) (pg_name (i := 6) sc_levels_to.nd rfl (Or.inl rfl)) (pss_cons (ps_set (i := 7) sc_levels_to.nd rfl (Or.inl rfl) (pe_cG c_starts_behind hg hr (by decide) pass0 (pa_cons (pv 0) (pa_cons (pv 1) (pa_cons (pv 4) (pa_cons (pv 6) pa_nil))))))
      (pss_one (ps_if (pt_truthK (K := K) rfl (pv 7)) (pss_one (ps_dput hu (pv 5) (pv 6) (pe_cG c_run_on hg hr (by decide) pass0 (pa_cons (pv 0) (pa_cons (pv 1) (pa_cons (pe_ix ix_tup (pe_callB (Vk.cr_maxD rfl hu64) (by rfl) T.max (by decide +kernel) (pa_cons (pv 7) pa_nil)) pe_int (fun _ _ => rfl)) (pa_cons (pv 6) pa_nil))))) rfl)) pss_nil))))
      (pss_one (ps_expr (pe_bm PySem.F.plainAttrs_list PySem.F.slot_list_append PySem.F.type_list_append mt_append (pv 3) (pa_cons (pv 5) pa_nil))))))))
      (pss_one (ps_ret (pv 3)))))), ?_⟩
    refine ⟨_, rfl, _, _, rfl, ⟨yl, rfl⟩, _, rfl, _, _, rfl, ⟨xl, rfl⟩, _, _, rfl, rfl, ?_⟩
    have on0 : On (ll x) (ll y) 0 0 := ⟨Nat.zero_le _, by omega, by omega⟩
    intro p hp
    refine ⟨_, rfl, _, rfl, x, y, 0, 0, rfl, hx, hy, on0, upd_same, [((Sum.inl 0 : Key), V.int (goM (ll x) (ll y) 0 0 : Nat))], rfl, (by show 1 ≤ 15; decide), by show 1 ≤ sizeLine; decide, fun l hl => ?_⟩
    rw [upd_twice] at hl ⊢
    have sp := same_new (o := .dK (mergeK [] [((Sum.inl 0 : Key), V.int (goM (ll x) (ll y) 0 0 : Nat))])) hp
    have hlH := none_up sp hl
    have sl := same_new (o := .lst [.ref p]) hl
    have lv0 : LvD (upd H p (.dK (mergeK [] [((Sum.inl 0 : Key), V.int (goM (ll x) (ll y) 0 0 : Nat))]))) p (lvM (ll x) (ll y) 0) := by
      refine ⟨_, upd_same, fun d => ?_, fun kv hk => ?_, by show 1 ≤ 1000; decide⟩
      · show valV [((Sum.inl 0 : Key), V.int (goM (ll x) (ll y) 0 0 : Nat))] (Sum.inl d) = (if d = 0 then some (goM (ll x) (ll y) 0 0) else none).map _
        by_cases h : d = 0
        · rw [h, if_pos rfl]
          exact valV_pos rfl
        · rw [if_neg h]
          exact (valV_neg (fun e => h (Sum.inl.inj e).symm)).trans valV_nil
      · rw [List.mem_singleton.mp (show kv ∈ [((Sum.inl 0 : Key), V.int (goM (ll x) (ll y) 0 0 : Nat))] from hk)]
        exact ⟨0, rfl⟩
    generalize mergeK [] [((Sum.inl 0 : Key), V.int (goM (ll x) (ll y) 0 0 : Nat))] = kv0 at lv0 sp sl hl ⊢
    refine ⟨fun m σ H' => ∃ (e : Nat) (refs : List V) (o4 o5 o6 o7 : Option V), σ = [some (.str x), some (.str y), some (.int ((y.length : Int) - x.length)), some (.ref l), o4, o5, o6, o7] ∧ e ≤ dst (ll x) (ll y) ∧ H' l = some (.lst refs) ∧ LvsR H' x y refs (List.range (e + 1)) ∧ Same H H' ∧ m = dst (ll x) (ll y) - e, ⟨_, 0, [.ref p], none, none, none, none, rfl, Nat.zero_le _, upd_same, .cons ⟨p, rfl, lv0.keep sl⟩ .nil, sp.trans sl, rfl⟩, ?_⟩
    rintro m σ H1 ⟨e, refs, o4, o5, o6, o7, rfl, he, hl1, lvs, s1, rfl⟩
    have rl := paired_len lvs
    rw [List.length_range] at rl
    obtain ⟨v, hv⟩ : ∃ v, refs[e]? = some v := ⟨refs[e]'(by omega), List.getElem?_eq_getElem (by omega)⟩
    obtain ⟨e', he', r, rfl, lv⟩ := paired_at lvs hv
    have : e' = e := by
      rw [List.getElem?_range (by omega)] at he'
      exact (Option.some.inj he').symm
    subst this
    have atl : atI refs (-1) = some (.ref r) := atI_end hv (by omega)
    have isd : IsD H1 r := by
      obtain ⟨kvs, h1, _⟩ := lv
      exact .inl ⟨kvs, .inl h1⟩
    refine ⟨_, rfl, _, rfl, l, refs, _, .ref r, rfl, rfl, SqL.of hl1, atl, r, rfl, isd, _, rfl, _, lv.get _, ?_⟩
    have hlc : lvM (ll x) (ll y) e' (((y.length : Nat) : Int) - x.length) = some x.length ↔ e' = dst (ll x) (ll y) := by
      have := lv_goal (a := ll x) (b := ll y) he
      rwa [lx, ly] at this
    have ok := lv_ok (ll x) (ll y) e'
    refine ⟨_, rfl, _, _, rfl, ⟨xl, rfl⟩, ?_⟩
    have val : ∃ v, ((lvM (ll x) (ll y) e' (((y.length : Nat) : Int) - x.length)).map fun i => V.int (i : Nat)).getD .non = v ∧ scal v (V.int (x.length : Nat)) = true ∧ (decide (v = V.int (x.length : Nat)) = decide (e' = dst (ll x) (ll y))) := by
      cases q : lvM (ll x) (ll y) e' (((y.length : Nat) : Int) - x.length) with
      | none =>
        refine ⟨_, rfl, rfl, decide_eq_decide.mpr ⟨fun z => (nomatch z), fun z => ?_⟩⟩
        rw [q] at hlc
        exact (nomatch hlc.mpr z)
      | some i =>
        refine ⟨_, rfl, rfl, decide_eq_decide.mpr ⟨fun z => hlc.mp ?_, fun z => ?_⟩⟩
        · have := V.int.inj z
          rw [q, show i = x.length by omega]
        · have := hlc.mpr z
          rw [q] at this
          cases this
          rfl
    obtain ⟨v, ev, fv, dv⟩ := val
    rw [ev]
    refine ⟨fv, _, rfl, ?_⟩
    rw [dv]
    clear dv fv ev v
    by_cases ee : e' = dst (ll x) (ll y)
    · rw [decide_eq_true ee]
      rw [ee] at lvs
      exact iteF ⟨_, rfl, k l refs H1 hlH hl1 lvs s1⟩
    rw [decide_eq_false ee]
    have elt : e' < dst (ll x) (ll y) := by omega
    refine iteT ⟨fun σ' H' => ∃ (refs : List V) (o4 o5 o6 o7 : Option V), σ' = [some (.str x), some (.str y), some (.int ((y.length : Int) - x.length)), some (.ref l), o4, o5, o6, o7] ∧ H' l = some (.lst refs) ∧ LvsR H' x y refs (List.range (e' + 1 + 1)) ∧ Same H H', ?_, ?_⟩
    · rintro σ' H' ⟨refs, o4, o5, o6, o7, rfl, h1, h2, h3⟩
      exact ⟨_, (by omega : dst (ll x) (ll y) - (e' + 1) < dst (ll x) (ll y) - e'), e' + 1, refs, o4, o5, o6, o7, rfl, by omega, h1, h2, h3, rfl⟩
    refine ⟨_, rfl, _, rfl, l, refs, _, .ref r, rfl, rfl, SqL.of hl1, atl, ?_⟩
    refine name_go ?_
    intro r5 hr5
    have s5 := same_new (o := .dK []) hr5
    have lv5 := lv.keep s5
    have hr5H := none_up s1 hr5
    have h5 : (upd H1 r5 (.dK [])) r5 = some (.dK []) := upd_same
    generalize upd H1 r5 (.dK []) = H5 at lv5 s5 h5 ⊢
    refine name_go ?_
    dsimp only
    obtain ⟨kvs, hk, hv, hkey, hlen⟩ := lv5
    obtain ⟨d0, i0, f0, _⟩ := lv_has (ll x) (ll y) e' he
    have mem : ∀ {d : Int}, d ∈ kvs.map keyI ↔ ∃ i, lvM (ll x) (ll y) e' d = some i := key_mem hv hkey
    have d0m := mem.mpr ⟨i0, f0⟩
    have npos : 0 < (kvs.map keyI).length := List.length_pos_of_mem d0m
    refine ⟨_, rfl, r, kvs, rfl, .inl hk, fun q1 hq1 => ?_⟩
    have sq1 := same_new (o := .lst (kvs.map fun kv => kV kv.1)) hq1
    refine ⟨q1, _, rfl, SqL.of (by rw [upd_same, keys_int hkey]), npos, fun lo hlo hmin => ⟨_, _, rfl, rfl, _, rfl, r, kvs, rfl, .inl (sq1 _ _ hk), fun q2 hq2 => ?_⟩⟩
    have sq2 := same_new (o := .lst (kvs.map fun kv => kV kv.1)) hq2
    refine ⟨q2, _, rfl, SqL.of (by rw [upd_same, keys_int hkey]), npos, fun hi hhi hmax => ⟨_, _, rfl, rfl, ?_⟩⟩
    have s7 := sq1.trans sq2
    generalize upd (upd H5 q1 (.lst (kvs.map fun kv => kV kv.1))) q2 (.lst (kvs.map fun kv => kV kv.1)) = H7 at s7 ⊢
    obtain ⟨il, fl⟩ := mem.mp hlo
    obtain ⟨ih, fh⟩ := mem.mp hhi
    obtain ⟨ol1, ol2, ol3⟩ := ok.on _ _ fl
    obtain ⟨oh1, oh2, oh3⟩ := ok.on _ _ fh
    have none_lo : ∀ d, d < lo → lvM (ll x) (ll y) e' d = none := fun d hd => by
      cases q : lvM (ll x) (ll y) e' d with
      | none => rfl
      | some i =>
        have := hmin d (mem.mpr ⟨i, q⟩)
        omega
    have none_hi : ∀ d, hi < d → lvM (ll x) (ll y) e' d = none := fun d hd => by
      cases q : lvM (ll x) (ll y) e' d with
      | none => rfl
      | some i =>
        have := hmax d (mem.mpr ⟨i, q⟩)
        omega
    have lohi := hmin _ hhi
    refine ⟨_, _, rfl, ⟨by omega, by omega, by omega, by omega⟩, ?_⟩
    have s57 := s5.trans s7
    have h7 := s7 _ _ h5
    clear h5 s5 hk s7 sq1 sq2 hq1 hq2
    refine for_range (lo := lo - 1) (n := (hi + 2 - (lo - 1)).toNat) (fun t σ H' => ∃ (o6 o7 : Option V) (kv5 : List (Key × V)), σ = [some (.str x), some (.str y), some (.int ((y.length : Int) - x.length)), some (.ref l), some (.ref r), some (.ref r5), o6, o7] ∧ Same H1 H' ∧ H' r5 = some (.dK kv5) ∧ (∀ d : Int, valV kv5 (Sum.inl d) = if d < lo - 1 + t then (nxM (ll x) (ll y) (lvM (ll x) (ll y) e') d).map (fun i => V.int (i : Nat)) else none) ∧ (∀ kv ∈ kv5, ∃ d : Int, kv.1 = Sum.inl d) ∧ kv5.length ≤ t) ?_ ?_ ?_
    · refine ⟨_, _, [], rfl, s57, h7, fun d => ?_, fun kv hk => absurd hk List.not_mem_nil, Nat.le_refl _⟩
      rw [valV_nil]
      by_cases hd : d < lo - 1 + (0 : Nat)
      · rw [if_pos hd, nx_none (none_lo _ (by omega)) (none_lo _ (by omega)) (none_lo _ (by omega))]
        rfl
      · rw [if_neg hd]
    · rintro t σ H8 ht ⟨o6, o7, kv5, rfl, s8, h8, v8, k8, l8⟩
      have lv8 := lv.keep s8
      refine ⟨_, rfl, _, rfl, _, rfl, _, rfl, x, y, r, _, _, rfl, hx, hy, lv8, fun l7 xs7 H9 hl7 hl7' ns s9 => ?_⟩
      refine name_go ?_
      have h9 := s9 _ _ h8
      have s19 := s8.trans s9
      have nl := paired_len ns
      refine ⟨_, rfl, !xs7.isEmpty, .inl ⟨_, SqL.of hl7', rfl⟩, ?_⟩
      by_cases hne : stM (ll x).length (ll y).length (lvM (ll x) (ll y) e') (lo - 1 + t) = []
      · have nz : nxM (ll x) (ll y) (lvM (ll x) (ll y) e') (lo - 1 + t) = none := by unfold nxM; rw [if_pos hne]
        rw [hne] at nl
        rw [List.eq_nil_of_length_eq_zero nl]
        refine iteF ⟨_, _, kv5, rfl, s19, h9, fun d => ?_, k8, by omega⟩
        rw [v8]
        by_cases h1 : d < lo - 1 + t
        · rw [if_pos h1, if_pos (by omega)]
        · rw [if_neg h1]
          by_cases h2 : d < lo - 1 + ((t + 1 : Nat) : Int)
          · rw [if_pos h2, show d = lo - 1 + t by omega, nz]
            rfl
          · rw [if_neg h2]
      · have tr : (!xs7.isEmpty) = true := by
          cases xs7 with
          | nil => exact absurd (List.eq_nil_of_length_eq_zero nl.symm) hne
          | cons a b => rfl
        rw [tr]
        obtain ⟨m1, m2, m3, m4, m5⟩ := max_st ns hne
        refine iteT ⟨_, rfl, _, rfl, _, rfl, l7, xs7, _, _, rfl, SqL.of hl7', ns_dp ns, m1, m2, m3, m4, fun iv v hv hm => ?_⟩
        obtain ⟨p, u, rfl, hp, htop, hu⟩ := m5 iv v hv hm
        have on := (st_on ok hp).1
        refine ⟨u, _, _, _, rfl, rfl, SqT.of hu, rfl, _, rfl, x, y, p.1, _, rfl, hx, hy, on, _, rfl, _, rfl, r5, _, rfl, DPut.k (k := Sum.inl (lo - 1 + t)) h9 (fewL (by omega)), ?_⟩
        have nz : nxM (ll x) (ll y) (lvM (ll x) (ll y) e') (lo - 1 + t) = some (goM (ll x) (ll y) p.1 (lo - 1 + t)) := by unfold nxM; rw [if_neg hne, htop]
        refine ⟨_, _, _, rfl, fun b o hb => ?_, upd_same, fun d => ?_, fun kv hk => ?_, ?_⟩
        · rw [upd_ne (fun z => by rw [z, hr5] at hb; cases hb)]
          exact s19 _ _ hb
        · rw [valV_put, v8]
          by_cases h0 : d = lo - 1 + t
          · subst h0
            rw [if_pos rfl, if_pos (by omega), nz]
            rfl
          · rw [if_neg (fun z => h0 (Sum.inl.inj z))]
            by_cases h1 : d < lo - 1 + t
            · rw [if_pos h1, if_pos (by omega)]
            · rw [if_neg h1, if_neg (by omega)]
        · rcases put_key hk with e | ⟨kv2, hk2, e⟩
          · exact ⟨_, e⟩
          · obtain ⟨d, ed⟩ := k8 kv2 hk2
            exact ⟨d, by rw [← e]; exact ed⟩
        · have := length_putK kv5 (Sum.inl (lo - 1 + t) : Key) (V.int (goM (ll x) (ll y) p.1 (lo - 1 + t) : Nat))
          omega
    · rintro σ H8 ⟨o6, o7, kv5, rfl, s8, h8, v8, k8, l8⟩
      have hl8 := s8 _ _ hl1
      have du := dst_up (ll x) (ll y)
      refine ⟨_, rfl, .inl ⟨rfl, _, SqL.of hl8⟩, _, rfl, l, _, _, rfl, rfl, hl8, fewL (by omega), ?_⟩
      refine ⟨_, _, _, _, _, rfl, upd_same, ?_, upd_out hlH (s1.trans s8)⟩
      rw [List.range_succ]
      refine Paired.snoc ((lvs.keep s8).list hl8) ⟨r5, rfl, LvD.list ⟨kv5, h8, fun d => ?_, k8, by omega⟩ hl8⟩
      rw [v8]
      show _ = (nxM (ll x) (ll y) (lvM (ll x) (ll y) e') d).map _
      by_cases h1 : d < lo - 1 + (((hi + 2 - (lo - 1)).toNat : Nat) : Int)
      · rw [if_pos h1]
      · rw [if_neg h1, nx_none (none_hi _ (by omega)) (none_hi _ (by omega)) (none_hi _ (by omega))]
        rfl
end
end Vk
set_option Elab.async false
set_option maxRecDepth 100000
set_option linter.all false
set_option maxHeartbeats 4000000
namespace Vk
open PySem PySem.Spec PyProof.Rows L2
section
variable {P : Program} {w : World} {K : PySem.W.Frag} {mg : Str → Option Value} {base : Heap}
def spDist : Sp := fun vs H Q _ => ∃ x y, vs = [.str x, .str y] ∧ x.length ≤ 200 ∧ y.length ≤ 200 ∧ ∀ H', Same H H' → Q (.int (dst (ll x) (ll y) : Nat)) H'
abbrev s_distance : Stmt := top 7
theorem sc_distance : FnScope ["one", "other"] ["one", "other"] (defScope s_distance) := ⟨rfl, rfl, rfl, by decide +kernel, rfl, by decide +kernel, by decide +kernel⟩
theorem b_distance {f : Addr} {fd : FuncData} (F : Fun K "distance" "distance" s_distance f fd) (T : Txt mg) (c_levels_to : CalG P w K mg base CX0 2 "levels_to" spLevels) : FnG P w K mg base CX0 3 f fd ["one", "other"] spDist := by
  refine okG0 F sc_distance (fun vs H Q E h => ?_) (fun cdv A outer s H vs Q E hg hr h => ?_)
  · obtain ⟨x, y, rfl, _⟩ := h
    rfl
  · have hu := hu_of hr
    have hu64 := hr.units
    obtain ⟨x, y, rfl, hx, hy, k⟩ := h
    refine ⟨_, (pss_one (ps_ret (pe_op op_sub (pe_callB call_len (by rfl) T.len (by decide +kernel) (pa_cons (pe_cG c_levels_to hg hr (by decide) pass0 (pa_cons (pv 0) (pa_cons (pv 1) pa_nil))) pa_nil)) pe_int))), ?_⟩
    refine ⟨_, rfl, _, rfl, x, y, rfl, hx, hy, fun l refs H' hl hl' lvs s => ?_⟩
    have rl := paired_len lvs
    rw [List.length_range] at rl
    have du := dst_up (ll x) (ll y)
    have lx := ll_len x
    have ly := ll_len y
    refine ⟨_, _, rfl, .inl ⟨_, SqL.of hl', rfl⟩, _, _, rfl, rfl, ?_⟩
    rw [rl]
    show Q (.int (((dst (ll x) (ll y) + 1 : Nat) : Int) - 1)) H'
    rw [show (((dst (ll x) (ll y) + 1 : Nat) : Int) - 1) = (dst (ll x) (ll y) : Nat) by omega]
    exact k H' s
/-! ## changes -/
def opV : Op → List V
  | .put i c => [.str "put", .int (i : Nat), .str ⟨#[c]⟩]
  | .drop i => [.str "drop", .int (i : Nat)]
  | .set i c => [.str "set", .int (i : Nat), .str ⟨#[c]⟩]
def OpsR (H : Hp) : List V → List Op → Prop := Paired fun v o => ∃ t, v = V.ref t ∧ H t = some (.tup (opV o))
theorem OpsR.keep {H H1 : Hp} {xs : List V} {ps : List Op} (h : OpsR H xs ps) (s : Same H H1) : OpsR H1 xs ps := pair_mono (fun v p ⟨t, e, ht⟩ => ⟨t, e, s _ _ ht⟩) h
theorem OpsR.keepT {H H1 : Hp} {xs : List V} {ps : List Op} (h : OpsR H xs ps) (s : ∀ u ws, H u = some (.tup ws) → H1 u = some (.tup ws)) : OpsR H1 xs ps := pair_mono (fun v p ⟨t, e, ht⟩ => ⟨t, e, s _ _ ht⟩) h
theorem OpsR.more {H : Hp} {l t : Addr} {xs : List V} {ps : List Op} {o : Op} (h : OpsR H xs ps) (hl : H l = some (.lst xs)) (ht : H t = none) : OpsR (upd (upd H t (.tup (opV o))) l (.lst (xs ++ [.ref t]))) (xs ++ [.ref t]) (ps ++ [o]) := by
  have st := same_new (o := .tup (opV o)) ht
  have hl2 := st _ _ hl
  exact Paired.snoc ((h.keep st).keepT (upd_list hl2)) ⟨t, rfl, upd_list hl2 _ _ upd_same⟩
end
end Vk
set_option Elab.async false
set_option maxRecDepth 100000
set_option linter.all false
set_option maxHeartbeats 4000000
namespace Vk
open PySem PySem.Spec PyProof.Rows L2
theorem call_tuple_ofK {X : Cx} {K : PySem.W.Frag} (h : X.K = K) : CallR X (.type "tuple") (fun xs H Q => ∃ p ys, xs = [.ref p] ∧ ((SqL K H p ys ∧ ∀ l, H l = none → Q (.ref l) (upd H l (.tup ys))) ∨ (SqT K H p ys ∧ Q (.ref p) H))) := h ▸ call_tuple_of
section
variable {P : Program} {w : World} {K : PySem.W.Frag} {mg : Str → Option Value} {base : Heap}
/-- rows of the table as tuples -/
def RowT (H : Hp) (l r : Str) : List V → List Nat → Prop := Paired (fun v k => ∃ t, v = V.ref t ∧ H t = some (.tup (rowN l r k (r.length + 1))))
theorem RowT.keep {H H1 : Hp} {l r : Str} {xs : List V} {ks : List Nat} (h : RowT H l r xs ks) (s : Same H H1) : RowT H1 l r xs ks := pair_mono (fun v p ⟨t, e, ht⟩ => ⟨t, e, s _ _ ht⟩) h
theorem RowT.keepT {H H1 : Hp} {l r : Str} {xs : List V} {ks : List Nat} (h : RowT H l r xs ks) (s : ∀ u ws, H u = some (.tup ws) → H1 u = some (.tup ws)) : RowT H1 l r xs ks := pair_mono (fun v p ⟨t, e, ht⟩ => ⟨t, e, s _ _ ht⟩) h
/-- the far paper of two texts -/
def FarV (H : Hp) (t : Addr) (x y : Str) : Prop := ∃ g rows, H t = some (.tup [.str "far", .ref g]) ∧ H g = some (.tup rows) ∧ RowT H x y rows (List.range (x.length + 1))
def spFar : Sp := fun vs H Q _ => ∃ l r, vs = [.str l, .str r] ∧ l.length ≤ 200 ∧ r.length ≤ 200 ∧ ∀ t H', FarV H' t l r → Same H H' → Q (.ref t) H'
abbrev s_far_paper : Stmt := top 8
theorem sc_far_paper : FnScope ["one", "other", "rows", "number", "letter", "last", "row", "index", "other_letter"] ["one", "other"] (defScope s_far_paper) := ⟨rfl, rfl, rfl, by decide +kernel, rfl, by decide +kernel, by decide +kernel⟩
theorem b_far_paper {f : Addr} {fd : FuncData} (F : Fun K "far_paper" "far_paper" s_far_paper f fd) (T : Txt mg) : FnG P w K mg base CX0 1 f fd ["one", "other"] spFar := by
  refine okG0 F sc_far_paper (fun vs H Q E h => ?_) (fun cdv A outer s H vs Q E hg hr h => ?_)
  · obtain ⟨l, r, rfl, _⟩ := h
    rfl
  · have hu := hu_of hr
    have hu64 := hr.units
    obtain ⟨l, r, rfl, hl, hr0, k⟩ := h
    have ll1 : l.length ≤ sizeLine := Nat.le_trans hl (by decide)
    have rl : r.length ≤ sizeLine := Nat.le_trans hr0 (by decide)
    refine ⟨_, (pss_cons (ps_set (i := 2) sc_far_paper.nd rfl (Or.inl rfl) (pe_lst (pa_cons (pe_listRg rfl (by rfl) T.list (prg_1 (by rfl) T.range (pe_op op_add (pe_callB call_len (by rfl) T.len (by decide +kernel) (pa_cons (pv 1) pa_nil)) pe_int))) pa_nil)))
      (pss_cons (ps_for PassesOwn.never rfl (pi_enumS (by rfl) T.enumerate (pa_cons (pv 0) pa_nil)) (pg_tup rfl (pgs_cons (pg_name (i := 3) sc_far_paper.nd rfl (Or.inl rfl)) (pgs_cons (pg_name (i := 4) sc_far_paper.nd rfl (Or.inl rfl)) pgs_nil))) (pss_cons (ps_set (i := 5) sc_far_paper.nd rfl (Or.inl rfl) (pe_ix ix_list (pv 2) (pe_un un_neg pe_int) (fun _ _ => rfl)))
      (pss_cons (ps_set (i := 6) sc_far_paper.nd rfl (Or.inl rfl) (pe_lst (pa_cons (pe_op op_add (pv 3) pe_int) pa_nil)))
      (pss_cons (ps_for PassesOwn.never rfl (pi_enumS (by rfl) T.enumerate (pa_cons (pv 1) pa_nil)) (pg_tup rfl (pgs_cons (pg_name (i := 7) sc_far_paper.nd rfl (Or.inl rfl)) (pgs_cons (pg_name (i := 8) sc_far_paper.nd rfl (Or.inl rfl)) pgs_nil))) (pss_one (ps_expr (pe_bm PySem.F.plainAttrs_list PySem.F.slot_list_append PySem.F.type_list_append mt_append (pv 6) (pa_cons (pe_callB (call_min3Nu rfl) (by rfl) T.min (by decide +kernel) (pa_cons (pe_op op_add (pe_ix ix_list (pv 6) (pv 7) (fun _ _ => rfl)) pe_int) (pa_cons (pe_op op_add (pe_ix ix_list (pv 5) (pe_op op_add (pv 7) pe_int) (fun _ _ => rfl)) pe_int) (pa_cons (pe_op op_add (pe_ix ix_list (pv 5) (pv 7) (fun _ _ => rfl)) (pe_callTy call_int1 (by rfl) T.int (by decide +kernel) (pa_cons (pe_cmpR op_ne (pv 4) (pv 8) (nomark _)) pa_nil))) pa_nil)))) pa_nil)))))
      (pss_one (ps_expr (pe_bm PySem.F.plainAttrs_list PySem.F.slot_list_append PySem.F.type_list_append mt_append (pv 2) (pa_cons (pv 6) pa_nil))))))))
      (pss_one (ps_ret (pe_tup (pa_cons pe_str (pa_cons (pe_callTy call_tuple_of (by rfl) T.tuple (by decide +kernel) (pa_cons (pe_lc (own := [("row", 6)]) (g := gName 6) (tt := tYes) rfl sc_far_paper.nd (pi_list (pv 2)) (blkOk_by (own := [("row", 6)]) (N := ["one", "other", "rows", "number", "letter", "last", "row", "index", "other_letter"]) (sc := defScope s_far_paper) (by decide +kernel)) (fun _ _ _ _ _ => (pg_name (i := 6) sc_far_paper.nd rfl (Or.inl rfl))) (fun _ _ _ _ _ => pts_nil) (fun _ _ _ _ _ => (pe_callTy (call_tuple_ofK (K := K) rfl) (by rfl) T.tuple (by decide +kernel) (pa_cons (pv 6) pa_nil)))) pa_nil)) pa_nil))))))), ?_⟩
    refine ⟨_, rfl, _, _, rfl, ⟨rl, rfl⟩, _, _, rfl, rfl, _, rfl, ⟨by decide, by decide, by omega, by omega, by omega⟩, fun t0 ht0 => ?_⟩
    have en : ((r.length : Nat) : Int) + 1 = ((r.length + 1 : Nat) : Int) := by omega
    rw [en, row_0 (l := l) (r := r)]
    have st0 := same_new (o := .lst (rowN l r 0 (r.length + 1))) ht0
    refine ⟨by show 1 ≤ sizeLine; decide, fun a ha => ?_⟩
    have sa := same_new (o := .lst [.ref t0]) ha
    have haH := none_up st0 ha
    refine ⟨_, rfl, l, rfl, ?_⟩
    refine for_enumS (fun i σ H2 => ∃ (o3 o4 o5 o6 o7 o8 : Option V) (refs : List V), σ = [some (.str l), some (.str r), some (.ref a), o3, o4, o5, o6, o7, o8] ∧ H2 a = some (.lst refs) ∧ RowL H2 l r refs (List.range (i + 1)) ∧ Same H H2 ∧ ∀ v ∈ refs, v ≠ V.ref a) ?_ ?_ ?_
    · exact ⟨_, _, _, _, _, _, [.ref t0], rfl, upd_same, .cons ⟨t0, rfl, sa _ _ upd_same⟩ .nil, st0.trans sa, fun v hv e => by
        rw [List.mem_singleton.mp hv] at e
        cases e
        rw [upd_same] at ha
        cases ha⟩
    · rintro i c σ H2 TT hc hTT ⟨o3, o4, o5, o6, o7, o8, refs, rfl, ha2, rw2, s2, hne⟩
      have hi1 : i < l.length := (Array.getElem?_eq_some_iff.mp hc).1
      have hic : ltr l i = c := ltr_at hc
      have gl := paired_len rw2
      rw [List.length_range] at gl
      have sT := same_new (o := .tup [.int (i : Nat), .str ⟨#[c]⟩]) hTT
      replace ha2 := sT _ _ ha2
      replace rw2 := rw2.keep sT
      replace s2 := s2.trans sT
      refine ⟨TT, _, rfl, SqT.of upd_same, rfl, _, _, rfl, _, _, rfl, rfl, ?_⟩
      generalize upd H2 TT (.tup [.int (i : Nat), .str ⟨#[c]⟩]) = H2 at ha2 rw2 s2 ⊢
      obtain ⟨v, hv⟩ : ∃ v, refs[i]? = some v := ⟨refs[i]'(by omega), List.getElem?_eq_getElem (by omega)⟩
      obtain ⟨i', hi', t, rfl, ht⟩ := paired_at rw2 hv
      have ei : i' = i := by
        rw [List.getElem?_range (by omega)] at hi'
        exact (Option.some.inj hi').symm
      subst ei
      have atl : atI refs (-1) = some (.ref t) := atI_end hv (by omega)
      refine ⟨_, rfl, _, rfl, a, refs, _, .ref t, rfl, rfl, SqL.of ha2, atl, ?_⟩
      refine name_go ⟨_, rfl, _, _, rfl, rfl, by show 1 ≤ sizeLine; decide, fun q hq => ?_⟩
      have sq := same_new (o := .lst [.int ((i' : Int) + 1)]) hq
      have e0 : [V.int ((i' : Int) + 1)] = rowN l r (i' + 1) (0 + 1) := by
        unfold rowN
        show _ = [V.int (edD (ltr l) (ltr r) (i' + 1) 0 : Nat)]
        rw [edD_s0]
        rfl
      rw [e0] at sq ⊢
      refine ⟨_, rfl, r, rfl, ?_⟩
      have hqH := none_up s2 hq
      refine for_enumS (fun j σ H3 => ∃ (o7 o8 : Option V), σ = [some (.str l), some (.str r), some (.ref a), some (.int (i' : Nat)), some (.str ⟨#[c]⟩), some (.ref t), some (.ref q), o7, o8] ∧ H3 q = some (.lst (rowN l r (i' + 1) (j + 1))) ∧ Same H2 H3) ?_ ?_ ?_
      · exact ⟨_, _, rfl, upd_same, sq⟩
      · rintro j c2 σ H3 U hc2 hU ⟨o7, o8, rfl, hq3, s3⟩
        have hj1 : j < r.length := (Array.getElem?_eq_some_iff.mp hc2).1
        have hjc : ltr r j = c2 := ltr_at hc2
        have sU := same_new (o := .tup [.int (j : Nat), .str ⟨#[c2]⟩]) hU
        replace hq3 := sU _ _ hq3
        replace s3 := s3.trans sU
        refine ⟨U, _, rfl, SqT.of upd_same, rfl, _, _, rfl, _, _, rfl, rfl, ?_⟩
        generalize upd H3 U (.tup [.int (j : Nat), .str ⟨#[c2]⟩]) = H3 at hq3 s3 ⊢
        have ta : atI (rowN l r i' (r.length + 1)) ((j : Nat) : Int) = _ := atI_nat (rowN_at (by omega))
        have tb : atI (rowN l r i' (r.length + 1)) ((j : Nat) + 1 : Int) = _ := atI_nat (j := j + 1) (rowN_at (by omega))
        have tc : atI (rowN l r (i' + 1) (j + 1)) ((j : Nat) : Int) = _ := atI_nat (rowN_at (by omega))
        have ed := edD_ss (A := ltr l) (B := ltr r) (i := i') (j := j)
        have ht3 := s3 _ _ ht
        generalize hx1 : edD (ltr l) (ltr r) i' j = e1 at ta ed ⊢
        generalize hx2 : edD (ltr l) (ltr r) i' (j + 1) = e2 at tb ed ⊢
        generalize hx3 : edD (ltr l) (ltr r) (i' + 1) j = e3 at tc ed ⊢
        have en3 : ((e1 : Nat) : Int) + (if (!decide (V.str ⟨#[c]⟩ = V.str ⟨#[c2]⟩)) = true then 1 else 0) = ((e1 + neq (ltr l i') (ltr r j) : Nat) : Int) := by
          rw [hic, hjc]
          rw [show decide (V.str ⟨#[c]⟩ = V.str ⟨#[c2]⟩) = decide (c = c2) from ones_eq c c2]
          unfold neq
          by_cases h : c = c2
          · rw [decide_eq_true h, if_pos h]; simp
          · rw [decide_eq_false h, if_neg h]; simp
        have q3 : nuMin3 (.int ((e3 : Nat) + 1)) (.int ((e2 : Nat) + 1)) (.int (((e1 : Nat) : Int) + (if (!decide (V.str ⟨#[c]⟩ = V.str ⟨#[c2]⟩)) = true then 1 else 0))) = some (.int ((min (min (e1 + neq (ltr l i') (ltr r j)) (e2 + 1)) (e3 + 1) : Nat) : Int)) := by
          rw [en3]
          refine (nuMin3_nat (e3 + 1) (e2 + 1) _).trans ?_
          rw [show min (min (e3 + 1) (e2 + 1)) (e1 + neq (ltr l i') (ltr r j)) = min (min (e1 + neq (ltr l i') (ltr r j)) (e2 + 1)) (e3 + 1) by omega]
        refine ⟨_, rfl, .inl ⟨rfl, _, SqL.of hq3⟩, _, rfl, _, rfl, q, _, _, _, rfl, rfl, SqL.of hq3, tc, _, _, rfl, rfl, _, rfl, _, rfl, _, _, rfl, rfl, t, _, _, _, rfl, rfl, SqL.of ht3, tb, _, _, rfl, rfl, _, rfl, _, rfl, t, _, _, _, rfl, rfl, SqL.of ht3, ta, _, rfl, _, rfl, rfl, .inr ⟨_, rfl, ?_⟩⟩
        refine ⟨_, _, rfl, rfl, _, _, _, _, rfl, q3, q, _, _, rfl, rfl, hq3, fewL (by rw [rowN_len]; omega), _, _, rfl, ?_, upd_out hq s3⟩
        rw [upd_same, ← ed, rowN_snoc]
      · rintro σ H3 ⟨o7, o8, rfl, hq3, s3⟩
        have ha3 := s3 _ _ ha2
        refine ⟨_, rfl, .inl ⟨rfl, _, SqL.of ha3⟩, _, rfl, a, _, _, rfl, rfl, ha3, fewL (by omega), _, _, _, _, _, _, refs ++ [.ref q], rfl, upd_same, ?_, upd_out haH (s2.trans s3), ?_⟩
        · have nqa : q ≠ a := fun e => by rw [e, ha2] at hq; cases hq
          rw [List.range_succ (n := i' + 1)]
          refine Paired.snoc ((rw2.keep s3).upd hne) ⟨q, rfl, ?_⟩
          rw [upd_ne nqa]
          exact hq3
        · intro v hv e
          rcases List.mem_append.mp hv with hv | hv
          · exact hne v hv e
          · rw [List.mem_singleton.mp hv] at e
            cases e
            rw [ha2] at hq
            cases hq
    · rintro σ H2 ⟨o3, o4, o5, o6, o7, o8, refs, rfl, ha2, rw2, s2, hne⟩
      have gl := paired_len rw2
      rw [List.length_range] at gl
      have lsz : l.cps.size = l.length := rfl
      refine ⟨_, rfl, a, rfl, ⟨_, SqL.of ha2⟩, fun D hD => ?_⟩
      have sD := same_new (o := .lst []) hD
      refine lc_list (K := K) (a := a) (xs := refs) (fun i H' => ∃ got, H' D = some (.lst got) ∧ RowT H' l r got (List.range i) ∧ Same H2 H') ?_ ?_ ?_ ?_
      · exact ⟨[], upd_same, .nil, sD⟩
      · rintro i H' _ ⟨got, _, _, s3⟩
        exact SqL.of (s3 _ _ ha2)
      · rintro i v H3 hv ⟨got, hD3, rt3, s3⟩
        obtain ⟨i', hi', t, rfl, ht⟩ := paired_at rw2 hv
        have li := (List.getElem?_eq_some_iff.mp hv).1
        have ei : i' = i := by
          rw [List.getElem?_range (by omega)] at hi'
          exact (Option.some.inj hi').symm
        subst ei
        have g3 := paired_len rt3
        rw [List.length_range] at g3
        refine ⟨rfl, _, rfl, t, _, rfl, .inl ⟨SqL.of (s3 _ _ ht), fun u hu => ?_⟩⟩
        have su := same_new (o := .tup (rowN l r i' (r.length + 1))) hu
        have hDu := su _ _ hD3
        refine ⟨_, hDu, fewL (by omega), got ++ [.ref u], upd_same, ?_, upd_out hD (s3.trans su)⟩
        rw [List.range_succ]
        exact Paired.snoc ((rt3.keep su).keepT (upd_list hDu)) ⟨u, rfl, upd_list hDu _ _ upd_same⟩
      · rintro H3 ⟨got, hD3, rt3, s3⟩
        rw [gl] at rt3
        refine ⟨D, _, rfl, .inl ⟨SqL.of hD3, fun g hg => ?_⟩⟩
        have sg := same_new (o := .tup got) hg
        refine ⟨by show 2 ≤ sizeLine; decide, fun t ht => ?_⟩
        have st := same_new (o := .tup [.str "far", .ref g]) ht
        exact k t _ ⟨g, got, upd_same, st _ _ upd_same, (rt3.keep sg).keep st⟩ (((s2.trans s3).trans sg).trans st)
end
end Vk
set_option Elab.async false
set_option maxRecDepth 100000
set_option linter.all false
namespace Vk
open PySem PySem.Spec PyProof.Rows L2
section
variable {P : Program} {w : World} {K : PySem.W.Frag} {mg : Str → Option Value} {base : Heap}
def srtB : PyData → Bool
  | .str z => decide (z.length ≤ 1000) && PyData.strOk z
  | _ => true
def elB : PyData → Bool
  | .tuple l => l.all srtB && decide (l.length ≤ 100)
  | _ => true
def okC (d : PyData) : Bool := okB d && srtB d && PyData.strOk d.shown && elB d
/-- the strings within a tuple are short -/
def El (d : PyData) : Prop := ∀ l, d = .tuple l → ∀ x ∈ l, Srt x
theorem srtB_srt {d : PyData} (h : srtB d = true) : Srt d := by
  cases d with
  | str z =>
    unfold srtB at h
    rw [Bool.and_eq_true, decide_eq_true_eq] at h
    exact h
  | _ => trivial
theorem okC_el {d : PyData} (h : okC d = true) : El d := by
  unfold okC at h
  rw [Bool.and_eq_true] at h
  rintro l rfl x hx
  exact srtB_srt (List.all_eq_true.mp (Bool.and_eq_true_iff.mp h.2).1 x hx)
theorem okC_srt {d : PyData} (h : okC d = true) : Srt d := by
  unfold okC at h
  rw [Bool.and_eq_true, Bool.and_eq_true, Bool.and_eq_true] at h
  cases d with
  | str z =>
    have q := h.1.1.2
    unfold srtB at q
    rw [Bool.and_eq_true, decide_eq_true_eq] at q
    exact q
  | _ => trivial
theorem okC_len {d : PyData} (h : okC d = true) : ∀ l, d = .tuple l → l.length ≤ 100 := by
  unfold okC at h
  rw [Bool.and_eq_true] at h
  rintro l rfl
  exact of_decide_eq_true (Bool.and_eq_true_iff.mp h.2).2
def spAny : Sp := fun vs H Q _ => ∃ (p c : Addr) (T : Nat), vs = [.ref p] ∧ Pen H p c T ∧ T < 1000000000 ∧ ∀ (v : V) (d : PyData) (H' : Hp), Th H' v d → okC d = true → New H v → Pen H' p c (T + 1) → Ext p H H' → Q v H'
abbrev ds1 : List PyData := [.none, .bool true, .bool false, .int 0, .int 1, .int (-1), .int (10 ^ (59 : Int).toNat), .str "", .str "a", .str "\t", .str "a\t", .str "ab", .tuple [], .tuple [.str "a"], .tuple [.str "a", .str "b"], .list [.str "a", .str "b"], .dict (kvD [])]
abbrev ds2 : List PyData := [.list [.int 1], .tuple [.str "a", .int 1], .tuple [.str "", .str "a"], .tuple [.str "a", .str "\t"], .tuple [.str "a", .str "b", .str "c"], .dict (kvD [("a", "b")]), .str "once", .tuple [.str (Txt.mul "a" 41), .str ""]]
abbrev ds3 : List PyData := [.tuple [.str "a", .str (Txt.mul "b" 41)], .str (Txt.mul "a" 41), .str (Txt.mul "b" 50), .tuple [.int 0, .int 1], .list [], .tuple [.str "a", .none]]
abbrev s_lany_value : Stmt := top 19
theorem sc_lany_value : FnScope ["_law_pen_here", "_law_some"] ["_law_pen_here"] (defScope s_lany_value) := ⟨rfl, rfl, rfl, by decide +kernel, rfl, by decide +kernel, by decide +kernel⟩
theorem b_lany_value {f : Addr} {fd : FuncData} (F : Fun K "_law_any_value" "_law_any_value" s_lany_value f fd) (T : Txt mg) (c_lpick : CalG P w K mg base CX0 2 "_law_pick" (spPick K)) : FnG P w K mg base CX0 3 f fd ["_law_pen_here"] spAny := by
  refine okG0 F sc_lany_value (fun vs H Q E h => ?_) (fun cdv A outer s H vs Q E hg hr h => ?_)
  · obtain ⟨p, c, T0, rfl, _⟩ := h
    rfl
  · have hu := hu_of hr
    have hu64 := hr.units
    obtain ⟨p, c, T0, rfl, hpen, hT, k⟩ := h
    have hr2 : Room 2 _ := hr
    refine ⟨_, (pss_cons (ps_set (i := 1) sc_lany_value.nd rfl (Or.inl rfl) (pe_lst (pa_cons pe_non (pa_cons pe_bl (pa_cons pe_bl (pa_cons pe_int (pa_cons pe_int (pa_cons (pe_un un_neg pe_int) (pa_cons (pe_op op_pow pe_int pe_int) (pa_cons pe_str (pa_cons pe_str (pa_cons pe_str (pa_cons pe_str (pa_cons pe_str (pa_cons (pe_tup pa_nil) (pa_cons (pe_tup (pa_cons pe_str pa_nil)) (pa_cons (pe_tup (pa_cons pe_str (pa_cons pe_str pa_nil))) (pa_cons (pe_ls1 (pa_cons pe_str (pa_cons pe_str pa_nil))) (pa_cons pe_dnewK pa_nil)))))))))))))))))))
      (pss_cons (ps_set (i := 1) sc_lany_value.nd rfl (Or.inl rfl) (pe_op op_cat (pv 1) (pe_lst (pa_cons (pe_ls1 (pa_cons pe_int pa_nil)) (pa_cons (pe_tup (pa_cons pe_str (pa_cons pe_int pa_nil))) (pa_cons (pe_tup (pa_cons pe_str (pa_cons pe_str pa_nil))) (pa_cons (pe_tup (pa_cons pe_str (pa_cons pe_str pa_nil))) (pa_cons (pe_tup (pa_cons pe_str (pa_cons pe_str (pa_cons pe_str pa_nil)))) (pa_cons (pe_disp (pps_cons pe_str pe_str pps_nil) (by rfl) (by rfl) (fun z => by cases z) (by decide)) (pa_cons pe_str (pa_cons (pe_tup (pa_cons (pe_op op_mulS pe_str pe_int) (pa_cons pe_str pa_nil))) pa_nil)))))))))))
      (pss_one (ps_ret (pe_cG c_lpick hg hr (by decide) pass0 (pa_cons (pv 0) (pa_cons (pe_op op_cat (pv 1) (pe_lst (pa_cons (pe_tup (pa_cons pe_str (pa_cons (pe_op op_mulS pe_str pe_int) pa_nil))) (pa_cons (pe_op op_mulS pe_str pe_int) (pa_cons (pe_op op_mulS pe_str pe_int) (pa_cons (pe_tup (pa_cons pe_int (pa_cons pe_int pa_nil))) (pa_cons (pe_ls1 pa_nil) (pa_cons (pe_tup (pa_cons pe_str (pa_cons pe_non pa_nil))) pa_nil)))))))) pa_nil))))))), ?_⟩
    refine seq_asg (mk2_many (ds := ds1) ?m1 ?l1 fun q1 xs1 H1 s1 hq1 t1 n1 => ?_)
    case m1 => repeat' (first | exact mks2_nil | refine mks2_cons ?_ ?_ | exact mk2_dnew | exact mk2_disp | refine mk2_tup ?_ (Nat.le_of_ble_eq_true rfl) | refine mk2_lst ?_ (Nat.le_of_ble_eq_true rfl) | exact mas_nil | refine mas_cons ?_ ?_ | exact ma_non | exact ma_bl | exact ma_int | exact ma_str | exact ma_neg | exact ma_pow ⟨by decide, by decide, by decide⟩ | exact ma_mul ⟨by decide, by decide, by decide, by decide +kernel⟩ | refine mk2_atm ?_)
    case l1 => exact Nat.le_of_ble_eq_true rfl
    refine seq_asg ⟨_, rfl, mk2_many (ds := ds2) ?m2 ?l2 fun q2 xs2 H2 s2 hq2 t2 n2 => ?_⟩
    case m2 => repeat' (first | exact mks2_nil | refine mks2_cons ?_ ?_ | exact mk2_dnew | exact mk2_disp | refine mk2_tup ?_ (Nat.le_of_ble_eq_true rfl) | refine mk2_lst ?_ (Nat.le_of_ble_eq_true rfl) | exact mas_nil | refine mas_cons ?_ ?_ | exact ma_non | exact ma_bl | exact ma_int | exact ma_str | exact ma_neg | exact ma_pow ⟨by decide, by decide, by decide⟩ | exact ma_mul ⟨by decide, by decide, by decide, by decide +kernel⟩ | refine mk2_atm ?_)
    case l2 => exact Nat.le_of_ble_eq_true rfl
    refine ⟨q1, q2, xs1, xs2, rfl, rfl, s2 _ _ hq1, hq2, few_len (by rw [paired_len t1, paired_len t2]; exact Nat.le_of_ble_eq_true rfl), fun q3 hq3 => ?_⟩
    refine ⟨_, rfl, _, rfl, mk2_many (ds := ds3) ?m3 ?l3 fun q4 xs4 H4 s4 hq4 t4 n4 => ?_⟩
    case m3 => repeat' (first | exact mks2_nil | refine mks2_cons ?_ ?_ | exact mk2_dnew | exact mk2_disp | refine mk2_tup ?_ (Nat.le_of_ble_eq_true rfl) | refine mk2_lst ?_ (Nat.le_of_ble_eq_true rfl) | exact mas_nil | refine mas_cons ?_ ?_ | exact ma_non | exact ma_bl | exact ma_int | exact ma_str | exact ma_neg | exact ma_pow ⟨by decide, by decide, by decide⟩ | exact ma_mul ⟨by decide, by decide, by decide, by decide +kernel⟩ | refine mk2_atm ?_)
    case l3 => exact Nat.le_of_ble_eq_true rfl
    refine ⟨q3, q4, _, xs4, rfl, rfl, s4 _ _ upd_same, hq4, few_len (by rw [List.length_append, paired_len t1, paired_len t2, paired_len t4]; exact Nat.le_of_ble_eq_true rfl), fun q5 hq5 => ?_⟩
    have g5 : Same H (upd H4 q5 (.lst (xs1 ++ xs2 ++ xs4))) := (((s1.trans s2).trans (same_new hq3)).trans s4).trans (same_new hq5)
    have a5 : Paired (Th (upd H4 q5 (.lst (xs1 ++ xs2 ++ xs4)))) (xs1 ++ xs2 ++ xs4) (ds1 ++ ds2 ++ ds3) := paired_app (paired_app (ths_keep (((s2.trans (same_new hq3)).trans s4).trans (same_new hq5)) t1) (ths_keep (((same_new hq3).trans s4).trans (same_new hq5)) t2)) (ths_keep (same_new hq5) t4)
    refine ⟨p, c, .ref q5, _, T0, rfl, .lst (SqL.of upd_same), ?_, ?_, hpen.stay g5, hT, fun v H6 m6 P6 x6 => ?_⟩
    · exact fun z => nomatch (congrArg List.length z).symm.trans (paired_len a5)
    · rw [paired_len a5]; exact Nat.le_of_ble_eq_true rfl
    · obtain ⟨d, hd, td⟩ := paired_mem a5 m6
      have nv : New H v := by
        rcases List.mem_append.mp m6 with m6 | m6
        · rcases List.mem_append.mp m6 with m6 | m6
          · exact n1 v m6
          · exact (n2 v m6).same s1
        · exact (n4 v m6).same ((s1.trans s2).trans (same_new hq3))
      refine k v d H6 (td.ext (hpen.stay g5) x6) ?_ nv P6 ((Ext.same g5).trans x6)
      exact List.all_eq_true.mp (by decide +kernel) d hd

end
end Vk
set_option Elab.async false
set_option maxRecDepth 100000
set_option maxHeartbeats 4000000
set_option linter.all false
namespace Vk
open PySem PySem.Spec PyProof.Rows L2
/-! ## != of a list and the empty list -/
def rNeNil (K : PySem.W.Frag) : R2 := fun x y H Q => ∃ a xs b, x = .ref a ∧ y = .ref b ∧ SqL K H a xs ∧ SqL K H b [] ∧ Q (.bl (!decide (xs.length = 0))) H
theorem op_neNil {X : Cx} (hu : X.A.units + 64 < cLine) : OpR X (compareOp .NotEq) (rNeNil X.K) := by
  intro pins s σ H x y v u Q I rx ry h
  obtain ⟨a, xs, b, rfl, rfl, ha, hb, q⟩ := h
  cases (show v = Value.ref a from rx)
  cases (show u = Value.ref b from ry)
  obtain ⟨us, r1, p1, _⟩ := I.list ha
  obtain ⟨ws, r2, p2, _⟩ := I.list hb
  cases r2
  cases xs with
  | nil =>
    cases r1
    exact (SeqAt.RcNeAt.lists (e := fun _ => true) p1.isList p2.isList rfl (by omega) (fun j h1 h2 => absurd h1 (by simp))) _ _ _ _ ⟨.bl false, H, I, rfl, q⟩
  | cons y ys =>
    cases r1 with
    | cons r rs => exact (SeqAt.RcNeAt.lists_lengths p1.isList p2.isList (by simp) (by omega)) _ _ _ _ ⟨.bl true, H, I, rfl, q⟩
end Vk
set_option Elab.async false
set_option maxRecDepth 100000
set_option maxHeartbeats 4000000
set_option linter.all false
namespace Vk
open PySem PySem.Spec PyProof.Rows L2
/-! ## != of a tuple and the empty tuple -/
def rNeNilT (K : PySem.W.Frag) : R2 := fun x y H Q => ∃ a xs b, x = .ref a ∧ y = .ref b ∧ SqT K H a xs ∧ SqT K H b [] ∧ Q (.bl (!xs.isEmpty)) H
theorem op_neNilT {X : Cx} (hu : X.A.units + 64 < cLine) : OpR X (compareOp .NotEq) (rNeNilT X.K) := by
  intro pins s σ H x y v u Q I rx ry h
  obtain ⟨a, xs, b, rfl, rfl, ha, hb, q⟩ := h
  cases (show v = Value.ref a from rx)
  cases (show u = Value.ref b from ry)
  obtain ⟨us, r1, p1, _⟩ := I.tuple ha
  obtain ⟨ws, r2, p2, _⟩ := I.tuple hb
  cases r2
  cases xs with
  | nil =>
    cases r1
    exact (SeqAt.RcNeAt.tuples (e := fun _ => true) p1 p2 (by omega) (fun j h1 h2 => absurd h1 (by simp))) _ _ _ _ ⟨.bl false, H, I, rfl, q⟩
  | cons y ys =>
    cases r1 with
    | @cons _ u0 _ us0 r rs =>
      refine (SeqAt.RcNeAt.tuples (e := fun _ => true) p1 p2 (by omega) (fun j h1 h2 => absurd h2 (by simp))) _ _ _ _ ?_
      rw [show (!((List.range (min (u0 :: us0).toArray.size ([] : List Value).toArray.size)).all (fun _ => true) && (u0 :: us0).toArray.size == ([] : List Value).toArray.size)) = true by simp]
      exact ⟨.bl true, H, I, rfl, q⟩
/-! ## != of a thing on the heap and a text -/
theorem str_ne_declines_dict (b : Str) (u : Tok) (l : Addr) (es : Array DictEntry) (n : Nat) (dd : Option Addr) (sl : Array (Option Value)) :
    Meets (Builtin.«str.__ne__» ⟨[.str b u, .ref l], []⟩) (fun _ R s => s.heap.get? l = some { cls := .type "dict", dict := dd, data := .dict es n, slots := sl } ∧ R (.ok (.ret .notImplemented)) s) :=
  .of_wp fun prog w A R s h => by obtain ⟨hp, g, d, tk, os⟩ := s; obtain ⟨hl, h⟩ := h; wp_walk using AutoSeq1.wpAny_loadPart' hl, wpAny_load hl; exact ⟨_, rfl, h⟩
theorem dict_ne_declines_str (b : Str) (u : Tok) (l : Addr) (es : Array DictEntry) (n : Nat) (dd : Option Addr) (sl : Array (Option Value)) :
    Meets (Builtin.«dict.__ne__» ⟨[.ref l, .str b u], []⟩) (fun _ R s => s.heap.get? l = some { cls := .type "dict", dict := dd, data := .dict es n, slots := sl } ∧ R (.ok (.ret .notImplemented)) s) :=
  .of_wp fun prog w A R s h => by obtain ⟨hp, g, d, tk, os⟩ := s; obtain ⟨hl, h⟩ := h; have f1 := F.sub_str_dict; wp_walk using AutoSeq1.wpAny_loadPart' hl, wpAny_load hl; exact ⟨_, rfl, h⟩
theorem ne_dict_str {A : Around} {s : Shared} {l : Addr} {o : Obj} {es : Array DictEntry} {n : Nat} (b : Str) (u : Tok) (ho : s.heap.get? l = some o) (hx : o.ExactDict) (hd : o.data = .dict es n) (hu : A.units < cLine) : SeqAt.RcNeAt A s (.ref l) (.str b u) true := fun prog w E Q h => by
  obtain ⟨cls, dd, data, sl⟩ := o
  have hc : cls = .type "dict" := hx.1
  simp only at hd
  subst hc hd
  exact SeqAt.rc_ne_decline_or (k := false) ⟨_, ho, rfl⟩ (typeIs_str s b u) (by decide) F.sub_str_dict F.slot_dict_ne F.slot_str_ne_refl
    (fun _ hq => call_meets F.slot_dict_ne ⟨_, ho, rfl⟩ F.entry_dict_ne (F.args_dict_ne_2 _ _) (dict_ne_declines_str b u l es n dd sl) ⟨ho, hq⟩)
    (fun _ hq => call_meets F.slot_str_ne_refl (typeIs_str s b u) F.entry_str_ne (F.args_str_ne_2 _ _) (str_ne_declines_dict b u l es n dd sl) ⟨ho, hq⟩)
    (fun _ hq => wpAny_of_eq (rfl : isSame (.ref l) (.str b u) = pure false) hq) (.inr hu) h
/-- a thing of any kind -/
def Kind (H : Hp) (a : Addr) : Prop := (∃ xs, H a = some (.tup xs)) ∨ (∃ xs, H a = some (.lst xs)) ∨ ∃ ks, H a = some (.dK ks)
def rNeAS : R2 := fun x y H Q => ∃ z, y = .str z ∧ ((scal x (.str z) = true ∧ Q (.bl (!decide (x = .str z))) H) ∨ ∃ a, x = .ref a ∧ Kind H a ∧ Q (.bl true) H)
theorem op_neAS {X : Cx} (hu : X.A.units + 64 < cLine) : OpR X (compareOp .NotEq) rNeAS := by
  intro pins s σ H x y v u Q I rx ry h
  obtain ⟨z, rfl, ⟨h1, q⟩ | ⟨a, rfl, h1, q⟩⟩ := h
  · exact op_ne pins s σ H x (.str z) v u Q I rx ry ⟨h1, q⟩
  · cases (show v = Value.ref a from rx)
    obtain ⟨t, rfl⟩ := ry
    rcases h1 with ⟨xs, e⟩ | ⟨xs, e⟩ | ⟨ks, e⟩
    · obtain ⟨us, r1, p1, _⟩ := I.tuple (SqT.of e)
      exact (SeqAt.RcNeAt.tuple_str z t p1 (by omega)) _ _ _ _ ⟨.bl true, H, I, rfl, q⟩
    · obtain ⟨us, r1, p1, _⟩ := I.list (SqL.of e)
      exact (SeqAt.RcNeAt.list_str z t p1.isList (by omega)) _ _ _ _ ⟨.bl true, H, I, rfl, q⟩
    · obtain ⟨_, ya, va, ra, da⟩ := (show ObjOk X.prog X.w H s.heap a (.dK ks) from I.hok a _ e)
      obtain ⟨o, es, n, ho, hx, hd, _⟩ := da
      exact (ne_dict_str z t ho hx hd (by omega)) _ _ _ _ ⟨.bl true, H, I, rfl, q⟩
/-! ## numbers that may be bools -/
def ivB (b : Bool) : Int := if b = true then 1 else 0
inductive NumV : V → Int → Prop
  | int (i : Int) : NumV (.int i) i
  | bl (b : Bool) : NumV (.bl b) (ivB b)
def rAddNB : R2 := fun x y H Q => ∃ i j, NumV x i ∧ y = .int j ∧ Q (.int (i + j)) H
theorem op_addNB {X : Cx} : OpR X (binaryOp .Add) rAddNB := by
  intro pins s σ H x y v u Q I rx ry h
  obtain ⟨i, j, n, rfl, q⟩ := h
  obtain ⟨t, rfl⟩ := ry
  cases n with
  | int =>
    obtain ⟨t2, rfl⟩ := rx
    exact add_int ⟨.int (i + j), H, I.tok _, ⟨_, rfl⟩, q⟩
  | bl b =>
    cases rx
    exact IntBool.add_bool_int ⟨.int (ivB b + j), H, I.tok _, ⟨_, rfl⟩, q⟩
def rSubNB : R2 := fun x y H Q => ∃ i j, NumV x i ∧ y = .int j ∧ Q (.int (i - j)) H
theorem op_subNB {X : Cx} : OpR X (binaryOp .Sub) rSubNB := by
  intro pins s σ H x y v u Q I rx ry h
  obtain ⟨i, j, n, rfl, q⟩ := h
  obtain ⟨t, rfl⟩ := ry
  cases n with
  | int =>
    obtain ⟨t2, rfl⟩ := rx
    exact sub_int ⟨.int (i - j), H, I.tok _, ⟨_, rfl⟩, q⟩
  | bl b =>
    cases rx
    exact IntBool.sub_bool_int ⟨.int (ivB b - j), H, I.tok _, ⟨_, rfl⟩, q⟩
theorem call_strNB {X : Cx} : CallR X (.type "str") (fun xs H Q => ∃ v i, xs = [v] ∧ NumV v i ∧ i.natAbs.log2 < 1920 ∧ (∀ j, v = .int j → Q (.str (toString j)) H) ∧ ∀ b, v = .bl b → Q (.str (if b then "True" else "False")) H) := by
  intro pins s σ H xs us Q I r h
  obtain ⟨v, i, rfl, n, hz, q1, q2⟩ := h
  cases n with
  | int => exact call_str_int pins s σ H [.int i] us Q I r ⟨i, rfl, hz, q1 _ rfl⟩
  | bl b =>
    obtain ⟨u, rfl, r1⟩ := vals1 r
    cases r1
    exact PySem.P.str_of_bool ⟨.str _, H, I.tok _, ⟨_, rfl⟩, q2 _ rfl⟩
end Vk
set_option Elab.async false
set_option maxRecDepth 100000
set_option linter.all false
set_option maxHeartbeats 4000000
namespace Vk
open PySem PySem.Spec PyProof.Rows L2
/-! ## values of any depth -/
inductive IsV (H : Hp) (B : Nat) : Nat → V → Prop
  | non {d : Nat} : IsV H B d .non
  | bl {d : Nat} (b : Bool) : IsV H B d (.bl b)
  | int {d : Nat} (i : Int) : (B ≤ 4000 → i.natAbs ≤ 1000000 + B) → IsV H B d (.int i)
  | str {d : Nat} (z : Str) : z.length ≤ B → IsV H B d (.str z)
  | lst {d : Nat} {t : Addr} {xs : List V} : H t = some (.lst xs) → IsV H B d (.ref t)
  | dct {d : Nat} {t : Addr} {ks : List (Key × V)} : H t = some (.dK ks) → IsV H B d (.ref t)
  | nil {d : Nat} {t : Addr} : H t = some (.tup []) → IsV H B d (.ref t)
  | tup {d : Nat} {t : Addr} {xs : List V} : H t = some (.tup xs) → xs.length ≤ B → (∀ x ∈ xs, IsV H B d x) → IsV H B (d + 1) (.ref t)
/-- what a thing is stays -/
structure Kp (H H1 : Hp) : Prop where
  tup : ∀ t xs, H t = some (.tup xs) → H1 t = some (.tup xs)
  lst : ∀ t xs, H t = some (.lst xs) → ∃ ys, H1 t = some (.lst ys)
  dct : ∀ t ks, H t = some (.dK ks) → ∃ ls, H1 t = some (.dK ls)
theorem Kp.same {H H1 : Hp} (s : Same H H1) : Kp H H1 := ⟨fun t xs h => s _ _ h, fun t xs h => ⟨xs, s _ _ h⟩, fun t ks h => ⟨ks, s _ _ h⟩⟩
theorem Kp.rfl {H : Hp} : Kp H H := .same Same.rfl
theorem Kp.trans {H H1 H2 : Hp} (a : Kp H H1) (b : Kp H1 H2) : Kp H H2 := ⟨fun t xs h => b.tup _ _ (a.tup _ _ h), fun t xs h => by
  obtain ⟨ys, e⟩ := a.lst _ _ h
  exact b.lst _ _ e, fun t ks h => by
  obtain ⟨ys, e⟩ := a.dct _ _ h
  exact b.dct _ _ e⟩
theorem Kp.pen {H H1 : Hp} {p c : Addr} {T U : Nat} (P : Pen H p c T) (x : Ext p H H1) (P1 : Pen H1 p c U) : Kp H H1 := by
  obtain ⟨t0, l0, e0⟩ := P.is
  obtain ⟨t1, l1, e1⟩ := P1.is
  refine ⟨fun t xs h => x _ _ h fun z => ?_, fun t xs h => ⟨xs, x _ _ h fun z => ?_⟩, fun t ks h => ?_⟩
  · rw [z, e0] at h; cases h
  · rw [z, e0] at h; cases h
  · by_cases z : t = p
    · subst z
      exact ⟨_, e1⟩
    · exact ⟨ks, x _ _ h z⟩
theorem IsV.keep {H H1 : Hp} {B d : Nat} {v : V} (h : IsV H B d v) (k : Kp H H1) : IsV H1 B d v := by
  induction h with
  | non => exact .non
  | bl b => exact .bl b
  | int i h => exact .int i h
  | str z h => exact .str z h
  | lst e => exact .lst (k.lst _ _ e).choose_spec
  | dct e => exact .dct (k.dct _ _ e).choose_spec
  | nil e => exact .nil (k.tup _ _ e)
  | tup e l _ ih => exact .tup (k.tup _ _ e) l ih
theorem IsV.mono {H : Hp} {B C d : Nat} {v : V} (h : IsV H B d v) (k : B ≤ C) : IsV H C d v := by
  induction h with
  | non => exact .non
  | bl b => exact .bl b
  | int i h => exact .int i fun q => Nat.le_trans (h (Nat.le_trans k q)) (by omega)
  | str z h => exact .str z (by omega)
  | lst e => exact .lst e
  | dct e => exact .dct e
  | nil e => exact .nil e
  | tup e l _ ih => exact .tup e (by omega) ih
theorem IsV.deep {H : Hp} {B d : Nat} {v : V} (h : IsV H B d v) : IsV H B (d + 1) v := by
  induction h with
  | non => exact .non
  | bl b => exact .bl b
  | int i h => exact .int i h
  | str z h => exact .str z h
  | lst e => exact .lst e
  | dct e => exact .dct e
  | nil e => exact .nil e
  | tup e l _ ih => exact .tup e l ih
def TupV (H : Hp) (v : V) (xs : List V) : Prop := ∃ t, v = .ref t ∧ H t = some (.tup xs)
theorem TupV.inj {H : Hp} {v : V} {xs ys : List V} (a : TupV H v xs) (b : TupV H v ys) : xs = ys := by
  obtain ⟨t, rfl, h⟩ := a
  obtain ⟨t2, e, h2⟩ := b
  cases e
  rw [h] at h2
  cases h2
  rfl
theorem TupV.keep {H H1 : Hp} {v : V} {xs : List V} (a : TupV H v xs) (k : Kp H H1) : TupV H1 v xs := by
  obtain ⟨t, rfl, h⟩ := a
  exact ⟨t, rfl, k.tup _ _ h⟩
theorem IsV.items {H : Hp} {B d : Nat} {v : V} {xs : List V} (h : IsV H B (d + 1) v) (t : TupV H v xs) : ∀ x ∈ xs, IsV H B d x := by
  obtain ⟨t, rfl, ht⟩ := t
  cases h with
  | lst e => rw [e] at ht; cases ht
  | dct e => rw [e] at ht; cases ht
  | nil e => rw [e] at ht; cases ht; exact fun x hx => absurd hx List.not_mem_nil
  | tup e l q => rw [e] at ht; cases ht; exact q
theorem IsV.len {H : Hp} {B d : Nat} {v : V} {xs : List V} (h : IsV H B d v) (t : TupV H v xs) : xs.length ≤ B := by
  obtain ⟨t, rfl, ht⟩ := t
  cases h with
  | lst e => rw [e] at ht; cases ht
  | dct e => rw [e] at ht; cases ht
  | nil e => rw [e] at ht; cases ht; exact Nat.zero_le _
  | tup e l q => rw [e] at ht; cases ht; exact l
theorem IsV.back {H H1 : Hp} {B d : Nat} {v : V} {xs : List V} (h : IsV H B d v) (k : Kp H H1) (t : TupV H1 v xs) : TupV H v xs := by
  obtain ⟨t, rfl, ht⟩ := t
  cases h with
  | lst e =>
    obtain ⟨ys, e2⟩ := k.lst _ _ e
    rw [e2] at ht; cases ht
  | dct e =>
    obtain ⟨ys, e2⟩ := k.dct _ _ e
    rw [e2] at ht; cases ht
  | nil e => exact ⟨_, rfl, by rw [← ht, k.tup _ _ e]; exact e⟩
  | tup e l q => exact ⟨_, rfl, by rw [← ht, k.tup _ _ e]; exact e⟩
/-- what isinstance asks -/
theorem kit_any {K : PySem.W.Frag} {H : Hp} {B d : Nat} {v : V} (h : IsV H B d v) : ∃ ty, TyX K H v ty ∧ (∃ b, PySem.W.kitOne K ty (.type "tuple") = some b ∧ (b = true → ∃ xs, TupV H v xs) ∧ (b = false → ∀ xs, ¬ TupV H v xs)) ∧
    (∃ b, PySem.W.kitOne K ty (.type "int") = some b ∧ (b = true → ∃ i, NumV v i) ∧ (b = false → ∀ i, v ≠ .int i)) ∧ (∃ b, PySem.W.kitOne K ty (.type "bool") = some b ∧ (b = true → ∀ i, v ≠ .int i) ∧ (b = false → ∀ j, NumV v j → v = .int j)) ∧
    (∃ b, PySem.W.kitOne K ty (.type "str") = some b ∧ (b = true → ∃ z, v = .str z) ∧ (b = false → ∀ z, v ≠ .str z)) := by
  have nt : ∀ {v : V}, (∀ t, v ≠ .ref t) → ∀ xs, ¬ TupV H v xs := fun n xs ⟨t, e, _⟩ => n t e
  have nl : ∀ {t : Addr} {o : HO}, H t = some o → (∀ xs, o ≠ .tup xs) → ∀ xs, ¬ TupV H (.ref t) xs := fun e n xs ⟨t, e1, e2⟩ => by
    cases e1
    rw [e] at e2
    cases e2
    exact n _ rfl
  cases h with
  | non => exact ⟨.type "NoneType", .base .non, ⟨false, kit_ty (by decide +kernel), nofun, fun _ => nt nofun⟩, ⟨false, kit_ty (by decide +kernel), nofun, fun _ => nofun⟩, ⟨false, kit_ty (by decide +kernel), nofun, fun _ j n => by cases n⟩, ⟨false, kit_ty (by decide +kernel), nofun, fun _ => nofun⟩⟩
  | bl b => exact ⟨.type "bool", .base (.bl b), ⟨false, kit_ty (by decide +kernel), nofun, fun _ => nt nofun⟩, ⟨true, kit_ty (by decide +kernel), fun _ => ⟨_, .bl b⟩, nofun⟩, ⟨true, kit_ty (by decide +kernel), fun _ => nofun, nofun⟩, ⟨false, kit_ty (by decide +kernel), nofun, fun _ => nofun⟩⟩
  | int i => exact ⟨.type "int", .base (.int i), ⟨false, kit_ty (by decide +kernel), nofun, fun _ => nt nofun⟩, ⟨true, kit_ty (by decide +kernel), fun _ => ⟨_, .int i⟩, nofun⟩, ⟨false, kit_ty (by decide +kernel), nofun, fun _ j n => by cases n; rfl⟩, ⟨false, kit_ty (by decide +kernel), nofun, fun _ => nofun⟩⟩
  | str z => exact ⟨.type "str", .base (.str z), ⟨false, kit_ty (by decide +kernel), nofun, fun _ => nt nofun⟩, ⟨false, kit_ty (by decide +kernel), nofun, fun _ => nofun⟩, ⟨false, kit_ty (by decide +kernel), nofun, fun _ j n => by cases n⟩, ⟨true, kit_ty (by decide +kernel), fun _ => ⟨_, rfl⟩, nofun⟩⟩
  | lst e => exact ⟨.type "list", .base (.lst e), ⟨false, kit_ty (by decide +kernel), nofun, fun _ => nl e nofun⟩, ⟨false, kit_ty (by decide +kernel), nofun, fun _ => nofun⟩, ⟨false, kit_ty (by decide +kernel), nofun, fun _ j n => by cases n⟩, ⟨false, kit_ty (by decide +kernel), nofun, fun _ => nofun⟩⟩
  | dct e => exact ⟨.type "dict", .base (.dK e), ⟨false, kit_ty (by decide +kernel), nofun, fun _ => nl e nofun⟩, ⟨false, kit_ty (by decide +kernel), nofun, fun _ => nofun⟩, ⟨false, kit_ty (by decide +kernel), nofun, fun _ j n => by cases n⟩, ⟨false, kit_ty (by decide +kernel), nofun, fun _ => nofun⟩⟩
  | nil e => exact ⟨.type "tuple", .base (.tup e), ⟨true, kit_ty (by decide +kernel), fun _ => ⟨_, _, rfl, e⟩, nofun⟩, ⟨false, kit_ty (by decide +kernel), nofun, fun _ => nofun⟩, ⟨false, kit_ty (by decide +kernel), nofun, fun _ j n => by cases n⟩, ⟨false, kit_ty (by decide +kernel), nofun, fun _ => nofun⟩⟩
  | tup e => exact ⟨.type "tuple", .base (.tup e), ⟨true, kit_ty (by decide +kernel), fun _ => ⟨_, _, rfl, e⟩, nofun⟩, ⟨false, kit_ty (by decide +kernel), nofun, fun _ => nofun⟩, ⟨false, kit_ty (by decide +kernel), nofun, fun _ j n => by cases n⟩, ⟨false, kit_ty (by decide +kernel), nofun, fun _ => nofun⟩⟩
theorem IsV.ne_str {H : Hp} {B d : Nat} {v : V} (h : IsV H B d v) (z : Str) : (scal v (.str z) = true) ∨ ∃ a, v = .ref a ∧ Kind H a := by
  cases h with
  | lst e => exact .inr ⟨_, rfl, .inr (.inl ⟨_, e⟩)⟩
  | dct e => exact .inr ⟨_, rfl, .inr (.inr ⟨_, e⟩)⟩
  | nil e => exact .inr ⟨_, rfl, .inl ⟨_, e⟩⟩
  | tup e _ _ => exact .inr ⟨_, rfl, .inl ⟨_, e⟩⟩
  | _ => exact .inl rfl
/-! ## grids -/
def RowI (H : Hp) (m : Nat) (v : V) (c : List Int) : Prop := TupV H v (c.map V.int) ∧ c.length = m
def GridL (H : Hp) (n m : Nat) (v : V) (L : List (List Int)) : Prop := ∃ rows, TupV H v rows ∧ Paired (RowI H m) rows L ∧ L.length = n
theorem GridL.keep {H H1 : Hp} {n m : Nat} {v : V} {L : List (List Int)} (h : GridL H n m v L) (k : Kp H H1) : GridL H1 n m v L := by
  obtain ⟨rows, h1, h2, h3⟩ := h
  exact ⟨rows, h1.keep k, pair_mono (fun a b q => ⟨q.1.keep k, q.2⟩) h2, h3⟩
theorem map_int_inj {a b : List Int} (h : a.map V.int = b.map V.int) : a = b := List.map_inj_right (fun x y e => V.int.inj e) |>.mp h
theorem RowI.inj {H : Hp} {m : Nat} {v : V} {c d : List Int} (a : RowI H m v c) (b : RowI H m v d) : c = d := map_int_inj (a.1.inj b.1)
theorem GridL.inj {H : Hp} {n m : Nat} {v : V} {L M : List (List Int)} (a : GridL H n m v L) (b : GridL H n m v M) : L = M := by
  obtain ⟨r1, h1, h2, l1⟩ := a
  obtain ⟨r2, g1, g2, l2⟩ := b
  cases h1.inj g1
  clear h1 g1 l1 l2
  induction h2 generalizing M with
  | nil => cases g2; rfl
  | cons a _ ih =>
    cases g2 with
    | cons b t => rw [a.inj b, ih t]
theorem pair_back {H H1 : Hp} {B m : Nat} (k : Kp H H1) : ∀ {rows : List V} {L : List (List Int)}, Paired (RowI H1 m) rows L → (∀ r ∈ rows, IsV H B 1 r) → Paired (RowI H m) rows L
  | _, _, .nil, _ => .nil
  | _, _, .cons a t, h => .cons ⟨(h _ List.mem_cons_self).back k a.1, a.2⟩ (pair_back k t fun r hr => h r (List.mem_cons_of_mem _ hr))
theorem GridL.back {H H1 : Hp} {B n m : Nat} {v : V} {L : List (List Int)} (h : IsV H B 2 v) (k : Kp H H1) (g : GridL H1 n m v L) : GridL H n m v L := by
  obtain ⟨rows, h1, h2, h3⟩ := g
  have h4 := h.back k h1
  exact ⟨rows, h4, pair_back k h2 (h.items h4), h3⟩
def ent (L : List (List Int)) (i j : Nat) : Int := ((L[i]?).getD [])[j]?.getD 0
def NearAt (L : List (List Int)) (x y : Str) (i j : Nat) : Prop := (0 < i → ent L i j ≤ ent L (i - 1) j + 1) ∧ (0 < j → ent L i j ≤ ent L i (j - 1) + 1) ∧ (0 < i → 0 < j → ent L i j ≤ ent L (i - 1) (j - 1) + (neq (ltr x (i - 1)) (ltr y (j - 1)) : Nat))
def Near (L : List (List Int)) (x y : Str) : Prop := ∀ i j, i ≤ x.length → j ≤ y.length → NearAt L x y i j
def FarL (L : List (List Int)) (x y : Str) (tot : Int) : Prop := ent L 0 0 = 0 ∧ ent L x.length y.length = tot ∧ Near L x y
def FarP (H : Hp) (x y : Str) (tot : Int) (v : V) : Prop := ∃ g L, TupV H v [.str "far", g] ∧ GridL H (x.length + 1) (y.length + 1) g L ∧ FarL L x y tot
theorem FarP.keep {H H1 : Hp} {x y : Str} {tot : Int} {v : V} (h : FarP H x y tot v) (k : Kp H H1) : FarP H1 x y tot v := by
  obtain ⟨g, L, h1, h2, h3⟩ := h
  exact ⟨g, L, h1.keep k, h2.keep k, h3⟩
theorem FarP.back {H H1 : Hp} {B : Nat} {x y : Str} {tot : Int} {v : V} (i : IsV H B 3 v) (k : Kp H H1) (h : FarP H1 x y tot v) : FarP H x y tot v := by
  obtain ⟨g, L, h1, h2, h3⟩ := h
  have h4 := i.back k h1
  exact ⟨g, L, h4, h2.back (i.items h4 g (by simp)) k, h3⟩
/-- no far paper for more than the distance -/
theorem near_le {L : List (List Int)} {x y : Str} (z : ent L 0 0 = 0) (h : Near L x y) : ∀ n i j, i + j ≤ n → i ≤ x.length → j ≤ y.length → ent L i j ≤ (edD (ltr x) (ltr y) i j : Nat)
  | n, 0, 0, _, _, _ => by rw [z]; exact Int.natCast_nonneg _
  | 0, i + 1, j, h1, _, _ => by omega
  | 0, 0, j + 1, h1, _, _ => by omega
  | n + 1, i + 1, 0, h1, h2, h3 => by
    have a := near_le z h n i 0 (by omega) (by omega) h3
    have b := (h (i + 1) 0 h2 h3).1 (by omega)
    rw [edD_s0] at a ⊢
    rw [show i + 1 - 1 = i from rfl] at b
    omega
  | n + 1, 0, j + 1, h1, h2, h3 => by
    have a := near_le z h n 0 j (by omega) h2 (by omega)
    have b := (h 0 (j + 1) h2 h3).2.1 (by omega)
    rw [edD_0] at a ⊢
    rw [show j + 1 - 1 = j from rfl] at b
    omega
  | n + 1, i + 1, j + 1, h1, h2, h3 => by
    have a1 := near_le z h n i (j + 1) (by omega) (by omega) h3
    have a2 := near_le z h n (i + 1) j (by omega) h2 (by omega)
    have a3 := near_le z h n i j (by omega) (by omega) (by omega)
    obtain ⟨b1, b2, b3⟩ := h (i + 1) (j + 1) h2 h3
    have b1 := b1 (by omega)
    have b2 := b2 (by omega)
    have b3 := b3 (by omega) (by omega)
    rw [show i + 1 - 1 = i from rfl] at b1 b3
    rw [show j + 1 - 1 = j from rfl] at b2 b3
    rw [edD_ss]
    omega
theorem far_le {L : List (List Int)} {x y : Str} {tot : Int} (h : FarL L x y tot) : tot ≤ (edD (ltr x) (ltr y) x.length y.length : Nat) := by
  obtain ⟨h1, h2, h3⟩ := h
  rw [← h2]
  exact near_le h1 h3 _ _ _ (Nat.le_refl _) (Nat.le_refl _) (Nat.le_refl _)
/-- the table, cut off at some number -/
def tabC (M : Nat) (x y : Str) : List (List Int) := (List.range (x.length + 1)).map fun i => (List.range (y.length + 1)).map fun j => ((min (edD (ltr x) (ltr y) i j) M : Nat) : Int)
theorem tabC_ent {M : Nat} {x y : Str} {i j : Nat} (hi : i ≤ x.length) (hj : j ≤ y.length) : ent (tabC M x y) i j = ((min (edD (ltr x) (ltr y) i j) M : Nat) : Int) := by
  unfold ent tabC
  rw [List.getElem?_map, List.getElem?_range (by omega)]
  show ((List.range (y.length + 1)).map _)[j]?.getD 0 = _
  rw [List.getElem?_map, List.getElem?_range (by omega)]
  rfl
theorem tabC_far {M : Nat} {x y : Str} : FarL (tabC M x y) x y ((min (edD (ltr x) (ltr y) x.length y.length) M : Nat) : Int) := by
  refine ⟨?_, tabC_ent (Nat.le_refl _) (Nat.le_refl _), fun i j hi hj => ⟨fun h => ?_, fun h => ?_, fun h g => ?_⟩⟩
  · rw [tabC_ent (Nat.zero_le _) (Nat.zero_le _), edD_0]
    simp
  · obtain ⟨i, rfl⟩ : ∃ k, i = k + 1 := ⟨i - 1, by omega⟩
    rw [tabC_ent hi hj, tabC_ent (by omega) hj, show i + 1 - 1 = i from rfl]
    cases j with
    | zero => rw [edD_s0, edD_s0]; omega
    | succ j => have e := edD_ss (A := ltr x) (B := ltr y) (i := i) (j := j); omega
  · obtain ⟨j, rfl⟩ : ∃ k, j = k + 1 := ⟨j - 1, by omega⟩
    rw [tabC_ent hi hj, tabC_ent hi (by omega), show j + 1 - 1 = j from rfl]
    cases i with
    | zero => rw [edD_0, edD_0]; omega
    | succ i => have e := edD_ss (A := ltr x) (B := ltr y) (i := i) (j := j); omega
  · obtain ⟨i, rfl⟩ : ∃ k, i = k + 1 := ⟨i - 1, by omega⟩
    obtain ⟨j, rfl⟩ : ∃ k, j = k + 1 := ⟨j - 1, by omega⟩
    rw [tabC_ent hi hj, tabC_ent (by omega) (by omega), show i + 1 - 1 = i from rfl, show j + 1 - 1 = j from rfl]
    have e := edD_ss (A := ltr x) (B := ltr y) (i := i) (j := j)
    omega
theorem Th.isV {H : Hp} {v : V} {d : PyData} (h : Th H v d) (o : okC d = true) : IsV H 5000 1 v := by
  have q := okC_srt o
  have el := okC_el o
  have ln := okC_len o
  have at0 : ∀ {v d}, Atm v d → Srt d → ∀ e, IsV H 5000 e v := fun a s e => by
    cases a with
    | non => exact .non
    | bl b => exact .bl b
    | int i => exact .int i fun z => absurd z (by decide)
    | str z => exact .str z (Nat.le_trans s.1 (by decide))
  cases h with
  | atm a => exact at0 a q 1
  | lst e _ _ => exact .lst e
  | dct e => exact .dct e
  | @tup a xs ds e pr =>
    refine .tup e (by rw [paired_len pr]; exact Nat.le_trans (ln _ rfl) (by decide)) fun x hx => ?_
    obtain ⟨y, hy, ax⟩ := paired_mem pr hx
    exact at0 ax (el _ rfl y hy) 0
end Vk
set_option Elab.async false
set_option maxRecDepth 100000
set_option linter.all false
set_option maxHeartbeats 4000000
namespace Vk
open PySem PySem.Spec PyProof.Rows L2
def isIntV : V → Bool
  | .int _ => true
  | _ => false
theorem isIntV_ne {v : V} (h : ∀ i, v ≠ .int i) : isIntV v = false := by
  cases v with
  | int i => exact absurd rfl (h i)
  | _ => rfl
theorem take_snoc {α : Type} {xs : List α} {i : Nat} {v : α} (h : xs[i]? = some v) : xs.take (i + 1) = xs.take i ++ [v] := by
  rw [List.take_add_one, h]
  rfl
theorem all_int : ∀ {xs : List V}, (xs.map isIntV).all id = true → ∃ c : List Int, xs = c.map V.int
  | [], _ => ⟨[], rfl⟩
  | v :: xs, h => by
    rw [List.map_cons, List.all_cons, Bool.and_eq_true] at h
    obtain ⟨c, rfl⟩ := all_int h.2
    cases v with
    | int i => exact ⟨i :: c, rfl⟩
    | _ => cases h.1
theorem int_all {c : List Int} : ((c.map V.int).map isIntV).all id = true := by
  rw [List.map_map, List.all_eq_true]
  intro b hb
  obtain ⟨i, _, rfl⟩ := List.mem_map.mp hb
  rfl
theorem filt_all : ∀ {xs : List V}, xs.filter (fun v => !isIntV v) = [] ↔ (xs.map isIntV).all id = true
  | [] => by simp
  | v :: xs => by
    rw [List.filter_cons, List.map_cons, List.all_cons, Bool.and_eq_true, ← filt_all]
    cases isIntV v <;> simp
section
variable {P : Program} {w : World} {K : PySem.W.Frag} {mg : Str → Option Value} {base : Heap}
def spIsIntV : Sp := fun vs H Q _ => ∃ v B d, vs = [v] ∧ IsV H B d v ∧ Q (.bl (isIntV v)) H
theorem b_is_integerV {f : Addr} {fd : FuncData} (F : Fun K "is_integer" "is_integer" s_is_integer f fd) (T : Txt mg) : FnG P w K mg base CX0 1 f fd ["value"] spIsIntV := by
  refine okG0 F sc_is_integer (fun vs H Q E h => ?_) (fun cdv A outer s H vs Q E hg hr h => ?_)
  · obtain ⟨v, B, d, rfl, _⟩ := h
    rfl
  · have hu := hu_of hr
    have hu64 := hr.units
    obtain ⟨v, B, d, rfl, iv, k⟩ := h
    obtain ⟨ty, tyx, _, ⟨bi, ki, i1, i0⟩, ⟨bb, kb, b1, b0⟩, _⟩ := kit_any (K := K) iv
    refine ⟨_, (pss_one (ps_ret (pe_and (pe_callB call_isi (by rfl) T.isinstance (by decide +kernel) (pa_cons (pv 0) (pa_cons (pe_bltn (v := .ty "int") (by rfl) T.int rfl rfl) pa_nil))) (pe_one (pe_not (pe_callB call_isi (by rfl) T.isinstance (by decide +kernel) (pa_cons (pv 0) (pa_cons (pe_bltn (v := .ty "bool") (by rfl) T.bool rfl rfl) pa_nil)))))))), ?_⟩
    refine ⟨_, rfl, v, .ty "int", ty, .type "int", bi, rfl, .ty "int", tyx, ki, _, rfl, ?_⟩
    cases bi with
    | false =>
      rw [isIntV_ne (i0 rfl)] at k
      exact iteF k
    | true =>
      refine iteT ⟨_, rfl, v, .ty "bool", ty, .type "bool", bb, rfl, .ty "bool", tyx, kb, _, rfl, ?_⟩
      cases bb with
      | true =>
        rw [isIntV_ne (b1 rfl)] at k
        exact k
      | false =>
        obtain ⟨i, n⟩ := i1 rfl
        cases b0 rfl i n
        exact k
def spGridG : Sp := fun vs H Q _ => ∃ (v : V) (x y : Str) (B : Nat), vs = [v, .int ((x.length : Nat) + 1), .int ((y.length : Nat) + 1)] ∧ IsV H B 2 v ∧ B ≤ 5000 ∧ ∀ b H', Same H H' → (b = true ↔ ∃ L, GridL H (x.length + 1) (y.length + 1) v L) → Q (.bl b) H'
/-- a grid row by row -/
theorem grid_no {H : Hp} {n m : Nat} {v : V} {rows : List V} {i : Nat} {r : V} (t : TupV H v rows) (e : rows[i]? = some r) (h : ∀ c, ¬ RowI H m r c) : ¬ ∃ L, GridL H n m v L := by
  rintro ⟨L, rows2, h1, h2, _⟩
  cases t.inj h1
  obtain ⟨c, _, hc⟩ := paired_at h2 e
  exact h c hc
abbrev s_is_grid : Stmt := top 2
theorem sc_is_grid : FnScope ["value", "height", "width", "row", "entry"] ["value", "height", "width"] (defScope s_is_grid) := ⟨rfl, rfl, rfl, by decide +kernel, rfl, by decide +kernel, by decide +kernel⟩
theorem b_is_grid {f : Addr} {fd : FuncData} (F : Fun K "is_grid" "is_grid" s_is_grid f fd) (T : Txt mg) (c_is_integer : CalG P w K mg base CX0 1 "is_integer" spIsIntV) : FnG P w K mg base CX0 2 f fd ["value", "height", "width"] spGridG := by
  refine okG0 F sc_is_grid (fun vs H Q E h => ?_) (fun cdv A outer s H vs Q E hg hr h => ?_)
  · obtain ⟨v, x, y, B, rfl, _⟩ := h
    rfl
  · have hu := hu_of hr
    have hu64 := hr.units
    obtain ⟨v, x, y, B, rfl, iv, hB, k⟩ := h
    obtain ⟨ty, tyx, ⟨bt, kt, ht1, ht0⟩, _⟩ := kit_any (K := K) iv
    refine ⟨_, (pss_cons (ps_if (PW.pt (pw_or (pt_not (pt_val (pe_callB call_isi (by rfl) T.isinstance (by decide +kernel) (pa_cons (pv 0) (pa_cons (pe_bltn (v := .ty "tuple") (by rfl) T.tuple rfl rfl) pa_nil))))) (pw_or1 (pt_cmpR op_ne (pe_callB call_len (by rfl) T.len (by decide +kernel) (pa_cons (pv 0) pa_nil)) (pv 1) (nomark _))))) (pss_one (ps_ret pe_bl)) pss_nil)
      (pss_cons (ps_for PassesOwn.never rfl (pi_tup (pv 0)) (pg_name (i := 3) sc_is_grid.nd rfl (Or.inl rfl)) (pss_one (ps_if (PW.pt (pw_or (pt_not (pt_val (pe_callB call_isi (by rfl) T.isinstance (by decide +kernel) (pa_cons (pv 3) (pa_cons (pe_bltn (v := .ty "tuple") (by rfl) T.tuple rfl rfl) pa_nil))))) (pw_or (pt_cmpR op_ne (pe_callB call_len (by rfl) T.len (by decide +kernel) (pa_cons (pv 3) pa_nil)) (pv 2) (nomark _)) (pw_or1 (pt_not (pt_val (pe_callB (cr_all rfl) (by rfl) T.all (by decide +kernel) (pa_cons (pe_lc (own := [("entry", 4)]) (g := gName 4) (tt := tYes) rfl sc_is_grid.nd (pi_tup (pv 3)) (blkOk_by (own := [("entry", 4)]) (N := ["value", "height", "width", "row", "entry"]) (sc := defScope s_is_grid) (by decide +kernel)) (fun _ _ _ _ _ => (pg_name (i := 4) sc_is_grid.nd rfl (Or.inl rfl))) (fun _ _ _ _ _ => pts_nil) (fun _ _ _ _ _ => (pe_cG c_is_integer hg hr (by decide) pass0 (pa_cons (pv 4) pa_nil)))) pa_nil)))))))) (pss_one (ps_ret pe_bl)) pss_nil)))
      (pss_one (ps_ret pe_bl)))), ?_⟩
    refine ⟨_, rfl, v, .ty "tuple", ty, .type "tuple", bt, rfl, .ty "tuple", tyx, kt, ?_⟩
    cases bt with
    | false => exact ⟨false, rfl, iteT (k false H Same.rfl ⟨nofun, fun ⟨L, rows, h, _⟩ => absurd h (ht0 rfl _)⟩)⟩
    | true =>
      obtain ⟨rows, g, rfl, hg1⟩ := ht1 rfl
      have tv : TupV H (.ref g) rows := ⟨g, rfl, hg1⟩
      refine ⟨true, rfl, iteF ?_⟩
      refine ⟨_, rfl, _, _, rfl, .inr ⟨_, SqT.of hg1, rfl⟩, _, rfl, rfl, _, rfl, ?_⟩
      by_cases c1 : rows.length = x.length + 1
      · rw [show decide (V.int ((rows.length : Nat) : Int) = V.int ((x.length : Nat) + 1)) = true from decide_eq_true (by rw [c1]; rfl)]
        refine iteF ?_
        refine ⟨_, rfl, g, rfl, ⟨_, SqT.of hg1⟩, ?_⟩
        refine for_tup (xs := rows) (fun i σ H' => ∃ o3 o4 L, σ = [some (.ref g), some (.int ((x.length : Nat) + 1)), some (.int ((y.length : Nat) + 1)), o3, o4] ∧ Same H H' ∧ Paired (RowI H (y.length + 1)) (rows.take i) L) ?_ ?_ ?_ ?_
        · exact ⟨_, _, [], rfl, fun _ _ h => h, .nil⟩
        · rintro i σ H' _ ⟨o3, o4, L, rfl, s1, _⟩
          exact SqT.of (s1 _ _ hg1)
        · rintro i r σ H1 hv ⟨o3, o4, L, rfl, s1, pr⟩
          have ir := iv.items tv r (List.mem_of_getElem? hv)
          have ir1 := ir.keep (.same s1)
          obtain ⟨ty2, tyx2, ⟨b2, kt2, h21, h20⟩, _⟩ := kit_any (K := K) ir1
          refine ⟨_, rfl, r, .ty "tuple", ty2, .type "tuple", b2, rfl, .ty "tuple", tyx2, kt2, ?_⟩
          cases b2 with
          | false => exact ⟨false, rfl, iteT (k false H1 s1 ⟨nofun, fun h => absurd h (grid_no tv hv fun c hc => h20 rfl _ (hc.1.keep (.same s1)))⟩)⟩
          | true =>
            obtain ⟨cs, t, rfl, ht2⟩ := h21 rfl
            obtain ⟨_, e, ht⟩ := ir.back (.same s1) ⟨t, rfl, ht2⟩
            cases e
            have tr : TupV H (.ref t) cs := ⟨t, rfl, ht⟩
            refine ⟨true, rfl, iteF ?_⟩
            refine ⟨_, rfl, _, _, rfl, .inr ⟨_, SqT.of ht2, rfl⟩, _, rfl, rfl, _, rfl, ?_⟩
            by_cases c2 : cs.length = y.length + 1
            · rw [show decide (V.int ((cs.length : Nat) : Int) = V.int ((y.length : Nat) + 1)) = true from decide_eq_true (by rw [c2]; rfl)]
              refine iteF ?_
              refine ⟨_, rfl, t, rfl, ⟨_, SqT.of ht2⟩, fun D hD => ?_⟩
              have sD := same_new (o := .lst []) hD
              have cl : cs.length ≤ 5000 := Nat.le_trans (ir.len tr) hB
              refine lc_tup (K := K) (a := t) (xs := cs) (fun i H' => H' D = some (.lst (((cs.take i).map isIntV).map V.bl)) ∧ Same H1 H') ?_ ?_ ?_ ?_
              · exact ⟨upd_same, sD⟩
              · rintro i H' _ ⟨_, s2⟩
                exact SqT.of (s2 _ _ ht2)
              · rintro j v H2 hv2 ⟨hD2, s2⟩
                have lj := (List.getElem?_eq_some_iff.mp hv2).1
                refine ⟨rfl, _, rfl, _, B, 0, rfl, (ir.items tr v (List.mem_of_getElem? hv2)).keep (.same (s1.trans s2)), _, hD2, fewL (by rw [List.length_map, List.length_map, List.length_take]; omega), ?_, upd_out hD s2⟩
                rw [upd_same, take_snoc hv2, List.map_append, List.map_append]
                rfl
              · rintro H2 ⟨hD2, s2⟩
                rw [List.take_length] at hD2
                refine ⟨D, _, rfl, SqL.of hD2, ?_⟩
                cases e : (cs.map isIntV).all id with
                | false => exact ⟨false, rfl, iteT (k false H2 (s1.trans s2) ⟨nofun, fun h => absurd h (grid_no tv hv fun c hc => by
                    cases tr.inj hc.1
                    rw [int_all] at e
                    cases e)⟩)⟩
                | true =>
                  obtain ⟨c, rfl⟩ := all_int e
                  exact ⟨true, rfl, iteF ⟨_, _, L ++ [c], rfl, s1.trans s2, by rw [take_snoc hv]; exact pr.snoc ⟨tr, by rw [← c2, List.length_map]⟩⟩⟩
            · rw [show decide (V.int ((cs.length : Nat) : Int) = V.int ((y.length : Nat) + 1)) = false from decide_eq_false fun z => c2 (by have := V.int.inj z; omega)]
              exact iteT (k false H1 s1 ⟨nofun, fun h => absurd h (grid_no tv hv fun c hc => by
                cases tr.inj hc.1
                exact c2 (by rw [List.length_map]; exact hc.2))⟩)
        · rintro σ H1 ⟨o3, o4, L, rfl, s1, pr⟩
          rw [List.take_length] at pr
          exact k true H1 s1 ⟨fun _ => ⟨L, rows, tv, pr, by rw [← paired_len pr]; exact c1⟩, fun _ => rfl⟩
      · rw [show decide (V.int ((rows.length : Nat) : Int) = V.int ((x.length : Nat) + 1)) = false from decide_eq_false fun z => c1 (by have := V.int.inj z; omega)]
        exact iteT (k false H Same.rfl ⟨nofun, fun ⟨L, rows2, h1, h2, h3⟩ => absurd (by cases tv.inj h1; rw [paired_len h2]; exact h3) c1⟩)
abbrev s_lnis_grid : Stmt := top 23
theorem sc_lnis_grid : FnScope ["_law_thing", "_law_size", "_law_many", "_law_row", "_law_item"] ["_law_thing", "_law_size", "_law_many"] (defScope s_lnis_grid) := ⟨rfl, rfl, rfl, by decide +kernel, rfl, by decide +kernel, by decide +kernel⟩
theorem b_lnis_grid {f : Addr} {fd : FuncData} (F : Fun K "_law_nis_grid" "_law_nis_grid" s_lnis_grid f fd) (T : Txt mg) : FnG P w K mg base CX0 1 f fd ["_law_thing", "_law_size", "_law_many"] spGridG := by
  refine okG0 F sc_lnis_grid (fun vs H Q E h => ?_) (fun cdv A outer s H vs Q E hg hr h => ?_)
  · obtain ⟨v, x, y, B, rfl, _⟩ := h
    rfl
  · have hu := hu_of hr
    have hu64 := hr.units
    obtain ⟨v, x, y, B, rfl, iv, hB, k⟩ := h
    obtain ⟨ty, tyx, ⟨bt, kt, ht1, ht0⟩, _⟩ := kit_any (K := K) iv
    refine ⟨_, (pss_cons (ps_if (PW.pt (pw_or (pt_not (pt_val (pe_callB call_isi (by rfl) T.isinstance (by decide +kernel) (pa_cons (pv 0) (pa_cons (pe_bltn (v := .ty "tuple") (by rfl) T.tuple rfl rfl) pa_nil))))) (pw_or1 (pt_cmpR op_ne (pe_callB call_len (by rfl) T.len (by decide +kernel) (pa_cons (pv 0) pa_nil)) (pv 1) (nomark _))))) (pss_one (ps_ret pe_bl)) pss_nil)
      (pss_cons (ps_for PassesOwn.never rfl (pi_tup (pv 0)) (pg_name (i := 3) sc_lnis_grid.nd rfl (Or.inl rfl)) (pss_cons (ps_if (PW.pt (pw_or (pt_not (pt_val (pe_callB call_isi (by rfl) T.isinstance (by decide +kernel) (pa_cons (pv 3) (pa_cons (pe_bltn (v := .ty "tuple") (by rfl) T.tuple rfl rfl) pa_nil))))) (pw_or1 (pt_cmpR op_ne (pe_callB call_len (by rfl) T.len (by decide +kernel) (pa_cons (pv 3) pa_nil)) (pv 2) (nomark _))))) (pss_one (ps_ret pe_bl)) pss_nil)
      (pss_one (ps_if (pt_cmpR (op_neNil hu64) (pe_lc (own := [("_law_item", 4)]) (g := gName 4) rfl sc_lnis_grid.nd (pi_tup (pv 3)) (blkOk_by (own := [("_law_item", 4)]) (N := ["_law_thing", "_law_size", "_law_many", "_law_row", "_law_item"]) (sc := defScope s_lnis_grid) (by decide +kernel)) (fun _ _ _ _ _ => (pg_name (i := 4) sc_lnis_grid.nd rfl (Or.inl rfl))) (fun _ _ _ _ _ => (pts_one (PW.pt (pw_or (pt_not (pt_val (pe_callB (call_isiK (K := K) rfl) (by rfl) T.isinstance (by decide +kernel) (pa_cons (pv 4) (pa_cons (pe_bltn (v := .ty "int") (by rfl) T.int rfl rfl) pa_nil))))) (pw_or1 (pt_val (pe_callB (call_isiK (K := K) rfl) (by rfl) T.isinstance (by decide +kernel) (pa_cons (pv 4) (pa_cons (pe_bltn (v := .ty "bool") (by rfl) T.bool rfl rfl) pa_nil))))))))) (fun _ _ _ _ _ => (pv 4))) (pe_lst pa_nil) (nomark _)) (pss_one (ps_ret pe_bl)) pss_nil))))
      (pss_one (ps_ret pe_bl)))), ?_⟩
    refine ⟨_, rfl, v, .ty "tuple", ty, .type "tuple", bt, rfl, .ty "tuple", tyx, kt, ?_⟩
    cases bt with
    | false => exact ⟨false, rfl, iteT (k false H Same.rfl ⟨nofun, fun ⟨L, rows, h, _⟩ => absurd h (ht0 rfl _)⟩)⟩
    | true =>
      obtain ⟨rows, g, rfl, hg1⟩ := ht1 rfl
      have tv : TupV H (.ref g) rows := ⟨g, rfl, hg1⟩
      refine ⟨true, rfl, iteF ?_⟩
      refine ⟨_, rfl, _, _, rfl, .inr ⟨_, SqT.of hg1, rfl⟩, _, rfl, rfl, _, rfl, ?_⟩
      by_cases c1 : rows.length = x.length + 1
      · rw [show decide (V.int ((rows.length : Nat) : Int) = V.int ((x.length : Nat) + 1)) = true from decide_eq_true (by rw [c1]; rfl)]
        refine iteF ?_
        refine ⟨_, rfl, g, rfl, ⟨_, SqT.of hg1⟩, ?_⟩
        refine for_tup (xs := rows) (fun i σ H' => ∃ o3 o4 L, σ = [some (.ref g), some (.int ((x.length : Nat) + 1)), some (.int ((y.length : Nat) + 1)), o3, o4] ∧ Same H H' ∧ Paired (RowI H (y.length + 1)) (rows.take i) L) ?_ ?_ ?_ ?_
        · exact ⟨_, _, [], rfl, fun _ _ h => h, .nil⟩
        · rintro i σ H' _ ⟨o3, o4, L, rfl, s1, _⟩
          exact SqT.of (s1 _ _ hg1)
        · rintro i r σ H1 hv ⟨o3, o4, L, rfl, s1, pr⟩
          have ir := iv.items tv r (List.mem_of_getElem? hv)
          have ir1 := ir.keep (.same s1)
          obtain ⟨ty2, tyx2, ⟨b2, kt2, h21, h20⟩, _⟩ := kit_any (K := K) ir1
          refine ⟨_, rfl, r, .ty "tuple", ty2, .type "tuple", b2, rfl, .ty "tuple", tyx2, kt2, ?_⟩
          cases b2 with
          | false => exact ⟨false, rfl, iteT (k false H1 s1 ⟨nofun, fun h => absurd h (grid_no tv hv fun c hc => h20 rfl _ (hc.1.keep (.same s1)))⟩)⟩
          | true =>
            obtain ⟨cs, t, rfl, ht2⟩ := h21 rfl
            obtain ⟨_, e, ht⟩ := ir.back (.same s1) ⟨t, rfl, ht2⟩
            cases e
            have tr : TupV H (.ref t) cs := ⟨t, rfl, ht⟩
            refine ⟨true, rfl, iteF ?_⟩
            refine ⟨_, rfl, _, _, rfl, .inr ⟨_, SqT.of ht2, rfl⟩, _, rfl, rfl, _, rfl, ?_⟩
            by_cases c2 : cs.length = y.length + 1
            · rw [show decide (V.int ((cs.length : Nat) : Int) = V.int ((y.length : Nat) + 1)) = true from decide_eq_true (by rw [c2]; rfl)]
              refine iteF ?_
              refine ⟨_, rfl, t, rfl, ⟨_, SqT.of ht2⟩, fun D hD => ?_⟩
              have sD := same_new (o := .lst []) hD
              have cl : cs.length ≤ 5000 := Nat.le_trans (ir.len tr) hB
              refine lc_tup (K := K) (a := t) (xs := cs) (fun i H' => H' D = some (.lst ((cs.take i).filter (fun v => !isIntV v))) ∧ Same H1 H') ?_ ?_ ?_ ?_
              · exact ⟨upd_same, sD⟩
              · rintro i H' _ ⟨_, s2⟩
                exact SqT.of (s2 _ _ ht2)
              · rintro j v H2 hv2 ⟨hD2, s2⟩
                have lj := (List.getElem?_eq_some_iff.mp hv2).1
                have i3 := (ir.items tr v (List.mem_of_getElem? hv2)).keep (.same (s1.trans s2))
                obtain ⟨ty3, tyx3, _, ⟨bi, ki, i1, i0⟩, ⟨bb, kb, b1, b0⟩, _⟩ := kit_any (K := K) i3
                have yes : isIntV v = false → ∃ acc, H2 D = some (.lst acc) ∧ acc.length < sizeLine ∧ upd H2 D (.lst (acc ++ [v])) D = some (.lst (((cs.take (j + 1))).filter (fun v => !isIntV v))) ∧ Same H1 (upd H2 D (.lst (acc ++ [v]))) := fun n => by
                  refine ⟨_, hD2, fewL ?_, ?_, upd_out hD s2⟩
                  · have := List.length_filter_le (fun v => !isIntV v) (cs.take j)
                    rw [List.length_take] at this
                    omega
                  · rw [upd_same, take_snoc hv2, List.filter_append, List.filter_cons_of_pos (by rw [n]; rfl), List.filter_nil]
                have no : isIntV v = true → H2 D = some (.lst ((cs.take (j + 1)).filter (fun v => !isIntV v))) := fun n => by
                  rw [take_snoc hv2, List.filter_append, List.filter_cons_of_neg (by rw [n]; exact Bool.false_ne_true), List.filter_nil, List.append_nil]
                  exact hD2
                refine ⟨rfl, _, rfl, v, .ty "int", ty3, .type "int", bi, rfl, .ty "int", tyx3, ki, ?_⟩
                cases bi with
                | false => exact ⟨false, rfl, iteT (iteT ⟨_, rfl, yes (isIntV_ne (i0 rfl))⟩)⟩
                | true =>
                  refine ⟨true, rfl, iteF ⟨_, rfl, v, .ty "bool", ty3, .type "bool", bb, rfl, .ty "bool", tyx3, kb, bb, rfl, ?_⟩⟩
                  cases bb with
                  | true => exact iteT ⟨_, rfl, yes (isIntV_ne (b1 rfl))⟩
                  | false =>
                    obtain ⟨i, n⟩ := i1 rfl
                    cases b0 rfl i n
                    exact iteF ⟨no rfl, s2⟩
              · rintro H2 ⟨hD2, s2⟩
                rw [List.take_length] at hD2
                refine ⟨by show 0 ≤ sizeLine; decide, fun q hq => ?_⟩
                have sq := same_new (o := .lst []) hq
                refine ⟨D, _, q, rfl, rfl, SqL.of (sq _ _ hD2), SqL.of upd_same, _, rfl, ?_⟩
                cases e : (cs.map isIntV).all id with
                | false =>
                  have ne : (cs.filter (fun v => !isIntV v)).length ≠ 0 := fun z => by
                    rw [filt_all.mp (List.eq_nil_of_length_eq_zero z)] at e
                    cases e
                  rw [show decide ((cs.filter (fun v => !isIntV v)).length = 0) = false from decide_eq_false ne]
                  exact iteT (k false _ ((s1.trans s2).trans sq) ⟨nofun, fun h => absurd h (grid_no tv hv fun c hc => by
                    cases tr.inj hc.1
                    rw [int_all] at e
                    cases e)⟩)
                | true =>
                  rw [show decide ((cs.filter (fun v => !isIntV v)).length = 0) = true from decide_eq_true (by rw [filt_all.mpr e]; rfl)]
                  obtain ⟨c, rfl⟩ := all_int e
                  exact iteF ⟨_, _, L ++ [c], rfl, (s1.trans s2).trans sq, by rw [take_snoc hv]; exact pr.snoc ⟨tr, by rw [← c2, List.length_map]⟩⟩
            · rw [show decide (V.int ((cs.length : Nat) : Int) = V.int ((y.length : Nat) + 1)) = false from decide_eq_false fun z => c2 (by have := V.int.inj z; omega)]
              exact iteT (k false H1 s1 ⟨nofun, fun h => absurd h (grid_no tv hv fun c hc => by
                cases tr.inj hc.1
                exact c2 (by rw [List.length_map]; exact hc.2))⟩)
        · rintro σ H1 ⟨o3, o4, L, rfl, s1, pr⟩
          rw [List.take_length] at pr
          exact k true H1 s1 ⟨fun _ => ⟨L, rows, tv, pr, by rw [← paired_len pr]; exact c1⟩, fun _ => rfl⟩
      · rw [show decide (V.int ((rows.length : Nat) : Int) = V.int ((x.length : Nat) + 1)) = false from decide_eq_false fun z => c1 (by have := V.int.inj z; omega)]
        exact iteT (k false H Same.rfl ⟨nofun, fun ⟨L, rows2, h1, h2, h3⟩ => absurd (by cases tv.inj h1; rw [paired_len h2]; exact h3) c1⟩)
end
end Vk
set_option Elab.async false
set_option maxRecDepth 100000
set_option linter.all false
set_option maxHeartbeats 4000000
namespace Vk
open PySem PySem.Spec PyProof.Rows L2
def gi (c : List Int) (j : Nat) : Int := c[j]?.getD 0
theorem at0 {a : V} {l : List V} : atI (a :: l) (0 : Int) = some a := atI_nat (j := 0) rfl
theorem at1 {a b : V} {l : List V} : atI (a :: b :: l) (1 : Int) = some b := atI_nat (j := 1) rfl
theorem gi_at {c : List Int} {j : Nat} (h : j < c.length) : atI (c.map V.int) ((j : Nat) : Int) = some (.int (gi c j)) := atI_nat (by
  unfold gi
  rw [List.getElem?_map, List.getElem?_eq_getElem h]
  rfl)
theorem ent_gi {L : List (List Int)} {i : Nat} {c : List Int} (h : L[i]? = some c) (j : Nat) : ent L i j = gi c j := by
  unfold ent gi
  rw [h]
  rfl
theorem gi_end {c : List Int} {n : Nat} (h : c.length = n + 1) : atI (c.map V.int) (-1) = some (.int (gi c n)) := atI_end (n := n) (by
  unfold gi
  rw [List.getElem?_map, List.getElem?_eq_getElem (by omega)]
  rfl) (by rw [List.length_map]; exact h)
theorem GridL.row {H : Hp} {n m : Nat} {v : V} {L : List (List Int)} (g : GridL H n m v L) {t : Addr} {rows : List V} (e : v = .ref t) (ht : H t = some (.tup rows)) {i : Nat} (hi : i < n) : ∃ u c, rows[i]? = some (.ref u) ∧ H u = some (.tup (c.map V.int)) ∧ L[i]? = some c ∧ c.length = m := by
  obtain ⟨rows2, h1, h2, h3⟩ := g
  cases h1.inj ⟨t, e, ht⟩
  have gl := paired_len h2
  obtain ⟨v, hv⟩ : ∃ v, rows[i]? = some v := ⟨rows[i]'(by omega), List.getElem?_eq_getElem (by omega)⟩
  obtain ⟨c, hc, ⟨u, rfl, hu⟩, hl⟩ := paired_at h2 hv
  exact ⟨u, c, hv, hu, hc, hl⟩
theorem GridL.size {H : Hp} {n m : Nat} {v : V} {L : List (List Int)} (g : GridL H n m v L) {t : Addr} {rows : List V} (e : v = .ref t) (ht : H t = some (.tup rows)) : rows.length = n := by
  obtain ⟨rows2, h1, h2, h3⟩ := g
  cases h1.inj ⟨t, e, ht⟩
  rw [paired_len h2, h3]
theorem nuMin2_int (a b : Int) : nuMin2 (.int a) (.int b) = some (.int (min a b)) := by
  show (some (decide (b < a))).map (fun c => if c = true then V.int b else V.int a) = _
  by_cases h : b < a
  · rw [decide_eq_true h, show min a b = b by omega]; rfl
  · rw [decide_eq_false h, show min a b = a by omega]; rfl
theorem nuMin3_int (a b c : Int) : nuMin3 (.int a) (.int b) (.int c) = some (.int (min (min a b) c)) := by
  show (nuMin2 (.int a) (.int b)).bind (fun m => nuMin2 m (.int c)) = _
  rw [nuMin2_int]
  exact nuMin2_int _ _
section
variable {P : Program} {w : World} {K : PySem.W.Frag} {mg : Str → Option Value} {base : Heap}
def NearG (a b : List Int) (j : Nat) (same : Bool) : Prop := gi b (j + 1) ≤ gi b j + 1 ∧ gi b (j + 1) ≤ gi a (j + 1) + 1 ∧ gi b (j + 1) ≤ gi a j + (if same = true then 0 else 1)
def spNearG : Sp := fun vs H Q _ => ∃ (t1 t2 : Addr) (a b : List Int) (j : Nat) (same : Bool), vs = [.ref t1, .ref t2, .int ((j : Nat) + 1), .bl same] ∧ H t1 = some (.tup (a.map V.int)) ∧ H t2 = some (.tup (b.map V.int)) ∧ j + 1 < a.length ∧ j + 1 < b.length ∧ ∀ r, (r = true ↔ NearG a b j same) → Q (.bl r) H
abbrev s_is_near_enough : Stmt := top 9
theorem sc_is_near_enough : FnScope ["last", "row", "index", "is_same", "above"] ["last", "row", "index", "is_same"] (defScope s_is_near_enough) := ⟨rfl, rfl, rfl, by decide +kernel, rfl, by decide +kernel, by decide +kernel⟩
theorem b_is_near_enough {f : Addr} {fd : FuncData} (F : Fun K "is_near_enough" "is_near_enough" s_is_near_enough f fd) (T : Txt mg) : FnG P w K mg base CX0 1 f fd ["last", "row", "index", "is_same"] spNearG := by
  refine okG0 F sc_is_near_enough (fun vs H Q E h => ?_) (fun cdv A outer s H vs Q E hg hr h => ?_)
  · obtain ⟨t1, t2, a, b, j, same, rfl, _⟩ := h
    rfl
  · have hu := hu_of hr
    have hu64 := hr.units
    obtain ⟨t1, t2, a, b, j, same, rfl, h1, h2, ja, jb, k⟩ := h
    refine ⟨_, (pss_cons (ps_set (i := 4) sc_is_near_enough.nd rfl (Or.inl rfl) (pe_ifExp (pt_val (pv 3)) (pe_ix ix_tup (pv 0) (pe_op op_sub (pv 2) pe_int) (fun _ _ => rfl)) (pe_op op_add (pe_ix ix_tup (pv 0) (pe_op op_sub (pv 2) pe_int) (fun _ _ => rfl)) pe_int)))
      (pss_one (ps_ret (pe_cmpR op_le (pe_ix ix_tup (pv 1) (pv 2) (fun _ _ => rfl)) (pe_callB (call_min3Nu rfl) (by rfl) T.min (by decide +kernel) (pa_cons (pe_op op_add (pe_ix ix_tup (pv 1) (pe_op op_sub (pv 2) pe_int) (fun _ _ => rfl)) pe_int) (pa_cons (pe_op op_add (pe_ix ix_tup (pv 0) (pv 2) (fun _ _ => rfl)) pe_int) (pa_cons (pv 4) pa_nil)))) (nomark _))))), ?_⟩
    have ej : ((j : Nat) : Int) + 1 - 1 = (j : Nat) := by omega
    have ta : atI (a.map V.int) (((j : Nat) : Int) + 1 - 1) = some (.int (gi a j)) := by rw [ej]; exact gi_at (by omega)
    have tb : atI (a.map V.int) (((j : Nat) : Int) + 1) = some (.int (gi a (j + 1))) := gi_at (j := j + 1) ja
    have tc : atI (b.map V.int) (((j : Nat) : Int) + 1 - 1) = some (.int (gi b j)) := by rw [ej]; exact gi_at (by omega)
    have td : atI (b.map V.int) (((j : Nat) : Int) + 1) = some (.int (gi b (j + 1))) := gi_at (j := j + 1) jb
    unfold NearG at k
    generalize gi a j = e1 at ta k
    generalize gi a (j + 1) = e2 at tb k
    generalize gi b j = e3 at tc k
    generalize gi b (j + 1) = e4 at td k
    refine ⟨_, rfl, same, rfl, ?_⟩
    have tail : ∀ e5 : Int, e5 = e1 + (if same = true then 0 else 1) → nuMin3 (.int (e3 + 1)) (.int (e2 + 1)) (.int e5) = some (.int (min (min (e3 + 1) (e2 + 1)) e5)) ∧ Q (.bl (decide (e4 ≤ min (min (e3 + 1) (e2 + 1)) e5))) H := fun e5 h => ⟨nuMin3_int _ _ _, k _ (by rw [decide_eq_true_iff, ← h]; omega)⟩
    cases same with
    | true =>
      refine iteT ⟨_, rfl, _, rfl, _, _, rfl, rfl, t1, _, _, _, rfl, rfl, SqT.of h1, ta, ?_⟩
      obtain ⟨q3, fin⟩ := tail e1 (by simp)
      exact name_go ⟨_, rfl, _, rfl, t2, _, _, _, rfl, rfl, SqT.of h2, td, _, rfl, _, rfl, _, _, rfl, rfl, t2, _, _, _, rfl, rfl, SqT.of h2, tc, _, _, rfl, rfl, _, rfl, _, rfl, t1, _, _, _, rfl, rfl, SqT.of h1, tb, _, _, rfl, rfl, _, rfl, _, _, _, _, rfl, q3, _, _, rfl, rfl, fin⟩
    | false =>
      refine iteF ⟨_, rfl, _, rfl, _, _, rfl, rfl, t1, _, _, _, rfl, rfl, SqT.of h1, ta, _, _, rfl, rfl, ?_⟩
      obtain ⟨q3, fin⟩ := tail (e1 + 1) (by simp)
      exact name_go ⟨_, rfl, _, rfl, t2, _, _, _, rfl, rfl, SqT.of h2, td, _, rfl, _, rfl, _, _, rfl, rfl, t2, _, _, _, rfl, rfl, SqT.of h2, tc, _, _, rfl, rfl, _, rfl, _, rfl, t1, _, _, _, rfl, rfl, SqT.of h1, tb, _, _, rfl, rfl, _, rfl, _, _, _, _, rfl, q3, _, _, rfl, rfl, fin⟩
def spFarRowsG : Sp := fun vs H Q _ => ∃ (v : V) (x y : Str) (L : List (List Int)), vs = [v, .str x, .str y] ∧ GridL H (x.length + 1) (y.length + 1) v L ∧ x.length ≤ 200 ∧ y.length ≤ 200 ∧ ∀ b H', Same H H' → (b = true ↔ Near L x y) → Q (.bl b) H'
abbrev s_are_far_rows : Stmt := top 10
theorem sc_are_far_rows : FnScope ["rows", "one", "other", "index", "number", "letter", "last", "row", "other_letter"] ["rows", "one", "other"] (defScope s_are_far_rows) := ⟨rfl, rfl, rfl, by decide +kernel, rfl, by decide +kernel, by decide +kernel⟩
theorem b_are_far_rows {f : Addr} {fd : FuncData} (F : Fun K "are_far_rows" "are_far_rows" s_are_far_rows f fd) (T : Txt mg) (c_is_near_enough : CalG P w K mg base CX0 1 "is_near_enough" spNearG) : FnG P w K mg base CX0 2 f fd ["rows", "one", "other"] spFarRowsG := by
  refine okG0 F sc_are_far_rows (fun vs H Q E h => ?_) (fun cdv A outer s H vs Q E hg hr h => ?_)
  · obtain ⟨v, x, y, L, rfl, _⟩ := h
    rfl
  · have hu := hu_of hr
    have hu64 := hr.units
    obtain ⟨v, x, y, L, rfl, gr, hx, hy, k⟩ := h
    have yl : y.length ≤ sizeLine := Nat.le_trans hy (by decide)
    obtain ⟨rows, ⟨g, rfl, hg1⟩, _⟩ := id gr
    have row := fun (i : Nat) (h : i < x.length + 1) => gr.row rfl hg1 h
    obtain ⟨t0, c0, hv0, ht0, hc0, l0⟩ := row 0 (by omega)
    have at0 : atI rows (0 : Int) = some (.ref t0) := atI_nat (j := 0) hv0
    refine ⟨_, (pss_cons (ps_if (pt_val (pe_callB (cr_any rfl) (by rfl) T.any (by decide +kernel) (pa_cons (pe_lc (own := [("index", 3)]) (g := gName 3) (tt := tYes) rfl sc_are_far_rows.nd (pi_range2 rfl T.range (pa_cons pe_int (pa_cons (pe_op op_add (pe_callB call_len (by rfl) T.len (by decide +kernel) (pa_cons (pv 2) pa_nil)) pe_int) pa_nil))) (blkOk_by (own := [("index", 3)]) (N := ["rows", "one", "other", "index", "number", "letter", "last", "row", "other_letter"]) (sc := defScope s_are_far_rows) (by decide +kernel)) (fun _ _ _ _ _ => (pg_name (i := 3) sc_are_far_rows.nd rfl (Or.inl rfl))) (fun _ _ _ _ _ => pts_nil) (fun _ _ _ _ _ => (pe_cmpR op_gt (pe_ix (ix_tupK (K := K) rfl) (pe_ix (ix_tupK (K := K) rfl) (pv 0) pe_int (fun _ _ => rfl)) (pv 3) (fun _ _ => rfl)) (pe_op op_add (pe_ix (ix_tupK (K := K) rfl) (pe_ix (ix_tupK (K := K) rfl) (pv 0) pe_int (fun _ _ => rfl)) (pe_op op_sub (pv 3) pe_int) (fun _ _ => rfl)) pe_int) (nomark _)))) pa_nil))) (pss_one (ps_ret pe_bl)) pss_nil)
      (pss_cons (ps_for PassesOwn.never rfl (pi_enumS (by rfl) T.enumerate (pa_cons (pv 1) pa_nil)) (pg_tup rfl (pgs_cons (pg_name (i := 4) sc_are_far_rows.nd rfl (Or.inl rfl)) (pgs_cons (pg_name (i := 5) sc_are_far_rows.nd rfl (Or.inl rfl)) pgs_nil))) (pss_cons (ps_par (i := 6) (j := 7) (by rfl) sc_are_far_rows.nd rfl rfl (by decide) rfl rfl (pa_cons (pe_ix ix_tup (pv 0) (pv 4) (fun _ _ => rfl)) (pa_cons (pe_ix ix_tup (pv 0) (pe_op op_add (pv 4) pe_int) (fun _ _ => rfl)) pa_nil)) (by rfl))
      (pss_cons (ps_if (pt_cmpR op_gt (pe_ix ix_tup (pv 7) pe_int (fun _ _ => rfl)) (pe_op op_add (pe_ix ix_tup (pv 6) pe_int (fun _ _ => rfl)) pe_int) (nomark _)) (pss_one (ps_ret pe_bl)) pss_nil)
      (pss_one (ps_for PassesOwn.never rfl (pi_enumS (by rfl) T.enumerate (pa_cons (pv 2) pa_nil)) (pg_tup rfl (pgs_cons (pg_name (i := 3) sc_are_far_rows.nd rfl (Or.inl rfl)) (pgs_cons (pg_name (i := 8) sc_are_far_rows.nd rfl (Or.inl rfl)) pgs_nil))) (pss_one (ps_if (pt_not (pt_val (pe_cG c_is_near_enough hg hr (by decide) pass0 (pa_cons (pv 6) (pa_cons (pv 7) (pa_cons (pe_op op_add (pv 3) pe_int) (pa_cons (pe_cmpR op_eq (pv 5) (pv 8) (nomark _)) pa_nil))))))) (pss_one (ps_ret pe_bl)) pss_nil)))))))
      (pss_one (ps_ret pe_bl)))), ?_⟩
    refine ⟨_, rfl, _, _, rfl, ⟨yl, rfl⟩, _, _, rfl, rfl, _, _, rfl, ⟨by omega, by omega, by omega, by omega⟩, fun D hD => ?_⟩
    have sD := same_new (o := .lst []) hD
    have ey : (((y.length : Nat) : Int) + 1 - 1).toNat = y.length := by omega
    rw [ey]
    refine lc_range (lo := 1) (n := y.length) (fun i H' => H' D = some (.lst (((List.range i).map fun j => decide (gi c0 (j + 1) > gi c0 j + 1)).map V.bl)) ∧ Same H H') ?_ ?_ ?_
    · exact ⟨upd_same, sD⟩
    · rintro j H1 hj ⟨hD1, s1⟩
      have ej : ((1 : Int) + (j : Nat)) = ((j + 1 : Nat) : Int) := by omega
      have ej2 : ((1 : Int) + (j : Nat)) - 1 = ((j : Nat) : Int) := by omega
      have ta : atI (c0.map V.int) ((1 : Int) + (j : Nat)) = some (.int (gi c0 (j + 1))) := by rw [ej]; exact gi_at (by omega)
      have tb : atI (c0.map V.int) ((1 : Int) + (j : Nat) - 1) = some (.int (gi c0 j)) := by rw [ej2]; exact gi_at (by omega)
      have hgs := SqT.of (K := K) (s1 _ _ hg1)
      have hts := SqT.of (K := K) (s1 _ _ ht0)
      refine ⟨rfl, _, rfl, g, _, _, _, rfl, rfl, hgs, at0, _, rfl, t0, _, _, _, rfl, rfl, hts, ta, ?_⟩
      refine ⟨_, rfl, g, _, _, _, rfl, rfl, hgs, at0, _, rfl, _, _, rfl, rfl, t0, _, _, _, rfl, rfl, hts, tb, ?_⟩
      refine ⟨_, _, rfl, rfl, _, _, rfl, rfl, _, hD1, fewL (by rw [List.length_map, List.length_map, List.length_range]; omega), ?_, upd_out hD s1⟩
      rw [upd_same, List.range_succ, List.map_append, List.map_append]
      rfl
    · rintro H1 ⟨hD1, s1⟩
      refine ⟨D, _, rfl, SqL.of hD1, ?_⟩
      cases e : ((List.range y.length).map fun j => decide (gi c0 (j + 1) > gi c0 j + 1)).any id with
      | true =>
        refine ⟨true, rfl, iteT (k false H1 s1 ⟨nofun, fun h => ?_⟩)⟩
        obtain ⟨b, hb, hb1⟩ := List.any_eq_true.mp e
        obtain ⟨j, hj, rfl⟩ := List.mem_map.mp hb
        have hj := List.mem_range.mp hj
        have q := (h 0 (j + 1) (Nat.zero_le _) hj).2.1 (by omega)
        rw [ent_gi hc0, ent_gi hc0, show j + 1 - 1 = j from rfl] at q
        exact absurd (of_decide_eq_true hb1) (by omega)
      | false =>
        have z0 : ∀ j, j ≤ y.length → NearAt L x y 0 j := fun j hj => ⟨fun q => absurd q (by omega), fun q => by
          obtain ⟨j, rfl⟩ : ∃ u, j = u + 1 := ⟨j - 1, by omega⟩
          rw [ent_gi hc0, ent_gi hc0, show j + 1 - 1 = j from rfl]
          have := List.any_eq_false.mp e _ (List.mem_map.mpr ⟨j, List.mem_range.mpr (by omega), rfl⟩)
          have z := of_decide_eq_false (Bool.eq_false_iff.mpr this)
          omega, fun q => absurd q (by omega)⟩
        refine ⟨false, rfl, iteF ?_⟩
        have hg2 := s1 _ _ hg1
        refine ⟨_, rfl, x, rfl, ?_⟩
        refine for_enumS (fun i σ H' => (∃ o3 o4 o5 o6 o7 o8, σ = [some (.ref g), some (.str x), some (.str y), o3, o4, o5, o6, o7, o8]) ∧ Same H H' ∧ ∀ i', i' ≤ i → ∀ j, j ≤ y.length → NearAt L x y i' j) ?_ ?_ ?_
        · exact ⟨⟨_, _, _, _, _, _, rfl⟩, s1, fun i' hi' => by
            obtain rfl : i' = 0 := by omega
            exact z0⟩
        · rintro i c σ H2 U hc hU ⟨⟨o3, o4, o5, o6, o7, o8, rfl⟩, s2, nr⟩
          have hi1 : i < x.length := (Array.getElem?_eq_some_iff.mp hc).1
          have hic : ltr x i = c := ltr_at hc
          have sU := same_new (o := .tup [.int (i : Nat), .str ⟨#[c]⟩]) hU
          have s3 := s2.trans sU
          have hg3 := SqT.of (K := K) (s3 _ _ hg1)
          obtain ⟨t1, c1, hv1, ht1, hc1, l1⟩ := row i (by omega)
          obtain ⟨t2, c2, hv2, ht2, hc2, l2⟩ := row (i + 1) (by omega)
          have at1 : atI rows ((i : Nat) : Int) = some (.ref t1) := atI_nat hv1
          have at2 : atI rows (((i : Nat) : Int) + 1) = some (.ref t2) := atI_nat (j := i + 1) hv2
          have az : atI (c1.map V.int) (0 : Int) = some (.int (gi c1 0)) := gi_at (j := 0) (by omega)
          have aw : atI (c2.map V.int) (0 : Int) = some (.int (gi c2 0)) := gi_at (j := 0) (by omega)
          refine ⟨U, _, rfl, SqT.of upd_same, rfl, _, _, rfl, _, _, rfl, rfl, ?_⟩
          generalize upd H2 U (.tup [.int (i : Nat), .str ⟨#[c]⟩]) = H3 at s3 hg3 ⊢
          refine ⟨_, rfl, _, rfl, g, _, _, _, rfl, rfl, hg3, at1, _, rfl, _, rfl, _, _, rfl, rfl, g, _, _, _, rfl, rfl, hg3, at2, ?_⟩
          refine ⟨_, _, rfl, ?_⟩
          refine ⟨_, rfl, t2, _, _, _, rfl, rfl, SqT.of (s3 _ _ ht2), aw, _, rfl, t1, _, _, _, rfl, rfl, SqT.of (s3 _ _ ht1), az, ?_⟩
          refine ⟨_, _, rfl, rfl, _, _, rfl, rfl, _, rfl, ?_⟩
          by_cases q0 : gi c2 0 > gi c1 0 + 1
          · rw [decide_eq_true q0]
            refine iteT (k false H3 s3 ⟨nofun, fun h => ?_⟩)
            have q := (h (i + 1) 0 (by omega) (Nat.zero_le _)).1 (by omega)
            rw [ent_gi hc2, show i + 1 - 1 = i from rfl, ent_gi hc1] at q
            omega
          · rw [decide_eq_false q0]
            refine iteF ?_
            refine ⟨_, rfl, y, rfl, ?_⟩
            refine for_enumS (fun j σ H' => (∃ o3 o8, σ = [some (.ref g), some (.str x), some (.str y), o3, some (.int (i : Nat)), some (.str ⟨#[c]⟩), some (.ref t1), some (.ref t2), o8]) ∧ Same H H' ∧ ∀ j', j' ≤ j → NearAt L x y (i + 1) j') ?_ ?_ ?_
            · refine ⟨⟨_, _, rfl⟩, s3, fun j' hj' => ?_⟩
              obtain rfl : j' = 0 := by omega
              refine ⟨fun _ => ?_, fun q => absurd q (by omega), fun _ q => absurd q (by omega)⟩
              rw [ent_gi hc2, show i + 1 - 1 = i from rfl, ent_gi hc1]
              omega
            · rintro j e2 σ H4 V2 hc2' hV ⟨⟨o3, o8, rfl⟩, s4, nj⟩
              have hj1 : j < y.length := (Array.getElem?_eq_some_iff.mp hc2').1
              have hjc : ltr y j = e2 := ltr_at hc2'
              have sV := same_new (o := .tup [.int (j : Nat), .str ⟨#[e2]⟩]) hV
              have s5 := s4.trans sV
              refine ⟨V2, _, rfl, SqT.of upd_same, rfl, _, _, rfl, _, _, rfl, rfl, ?_⟩
              generalize upd H4 V2 (.tup [.int (j : Nat), .str ⟨#[e2]⟩]) = H5 at s5 ⊢
              refine ⟨_, rfl, _, rfl, _, rfl, _, _, rfl, rfl, _, rfl, _, rfl, rfl, t1, t2, c1, c2, j, _, rfl, s5 _ _ ht1, s5 _ _ ht2, by omega, by omega, fun r hr => ?_⟩
              have nq : r = true ↔ NearAt L x y (i + 1) (j + 1) := by
                rw [hr]
                unfold NearG NearAt neq
                rw [show i + 1 - 1 = i from rfl, show j + 1 - 1 = j from rfl, ent_gi hc2, ent_gi hc2, ent_gi hc1, ent_gi hc1, hic, hjc]
                have ed : decide (V.str ⟨#[c]⟩ = V.str ⟨#[e2]⟩) = decide (c = e2) := ones_eq c e2
                rw [ed]
                by_cases h : c = e2
                · rw [decide_eq_true h, if_pos rfl, if_pos h]
                  constructor
                  · rintro ⟨a, b, c⟩; exact ⟨fun _ => b, fun _ => a, fun _ _ => c⟩
                  · rintro ⟨a, b, c⟩; exact ⟨b (by omega), a (by omega), c (by omega) (by omega)⟩
                · rw [decide_eq_false h, if_neg Bool.false_ne_true, if_neg h]
                  constructor
                  · rintro ⟨a, b, c⟩; exact ⟨fun _ => b, fun _ => a, fun _ _ => c⟩
                  · rintro ⟨a, b, c⟩; exact ⟨b (by omega), a (by omega), c (by omega) (by omega)⟩
              cases r with
              | false => exact ⟨false, rfl, iteT (k false H5 s5 ⟨nofun, fun h => absurd (nq.mpr (h _ _ (by omega) (by omega))) Bool.false_ne_true⟩)⟩
              | true => exact ⟨true, rfl, iteF ⟨⟨_, _, rfl⟩, s5, fun j' hj' => by
                  rcases Nat.lt_or_ge j' (j + 1) with h | h
                  · exact nj j' (by omega)
                  · obtain rfl : j' = j + 1 := by omega
                    exact nq.mp rfl⟩⟩
            · rintro σ H4 ⟨⟨o3, o8, rfl⟩, s4, nj⟩
              refine ⟨⟨_, _, _, _, _, _, rfl⟩, s4, fun i' hi' j hj => ?_⟩
              rcases Nat.lt_or_ge i' (i + 1) with h | h
              · exact nr i' (by omega) j hj
              · obtain rfl : i' = i + 1 := by omega
                exact nj j hj
        · rintro σ H2 ⟨⟨o3, o4, o5, o6, o7, o8, rfl⟩, s2, nr⟩
          exact k true H2 s2 ⟨fun _ i j hi hj => nr i hi j hj, fun _ => rfl⟩
def spIsFarG : Sp := fun vs H Q _ => ∃ (x y : Str) (tot : Int) (v : V) (B : Nat), vs = [.str x, .str y, .int tot, v] ∧ IsV H B 3 v ∧ B ≤ 5000 ∧ x.length ≤ 200 ∧ y.length ≤ 200 ∧ ∀ b H', Same H H' → (b = true ↔ FarP H x y tot v) → Q (.bl b) H'
theorem FarP.two {H : Hp} {x y : Str} {tot : Int} {v : V} {xs : List V} (h : FarP H x y tot v) (t : TupV H v xs) : ∃ g L, xs = [.str "far", g] ∧ GridL H (x.length + 1) (y.length + 1) g L ∧ FarL L x y tot := by
  obtain ⟨g, L, h1, h2, h3⟩ := h
  exact ⟨g, L, t.inj h1, h2, h3⟩
abbrev s_is_far_paper : Stmt := top 11
theorem sc_is_far_paper : FnScope ["one", "other", "number", "value", "rows"] ["one", "other", "number", "value"] (defScope s_is_far_paper) := ⟨rfl, rfl, rfl, by decide +kernel, rfl, by decide +kernel, by decide +kernel⟩
theorem b_is_far_paper {f : Addr} {fd : FuncData} (F : Fun K "is_far_paper" "is_far_paper" s_is_far_paper f fd) (T : Txt mg) (c_is_grid : CalG P w K mg base CX0 2 "is_grid" spGridG) (c_are_far_rows : CalG P w K mg base CX0 2 "are_far_rows" spFarRowsG) : FnG P w K mg base CX0 3 f fd ["one", "other", "number", "value"] spIsFarG := by
  refine okG0 F sc_is_far_paper (fun vs H Q E h => ?_) (fun cdv A outer s H vs Q E hg hr h => ?_)
  · obtain ⟨x, y, tot, v, B, rfl, _⟩ := h
    rfl
  · have hu := hu_of hr
    have hu64 := hr.units
    obtain ⟨x, y, tot, v, B, rfl, iv, hB, hx, hy, k⟩ := h
    have xl : x.length ≤ sizeLine := Nat.le_trans hx (by decide)
    have yl : y.length ≤ sizeLine := Nat.le_trans hy (by decide)
    obtain ⟨ty, tyx, ⟨bt, kt, ht1, ht0⟩, _⟩ := kit_any (K := K) iv
    refine ⟨_, (pss_cons (ps_if (PW.pt (pw_or (pt_not (pt_val (pe_callB call_isi (by rfl) T.isinstance (by decide +kernel) (pa_cons (pv 3) (pa_cons (pe_bltn (v := .ty "tuple") (by rfl) T.tuple rfl rfl) pa_nil))))) (pw_or (pt_cmpR op_ne (pe_callB call_len (by rfl) T.len (by decide +kernel) (pa_cons (pv 3) pa_nil)) pe_int (nomark _)) (pw_or1 (pt_cmpR (op_neAS hu64) (pe_ix ix_tup (pv 3) pe_int (fun _ _ => rfl)) pe_str (nomark _)))))) (pss_one (ps_ret pe_bl)) pss_nil)
      (pss_cons (ps_set (i := 4) sc_is_far_paper.nd rfl (Or.inl rfl) (pe_ix ix_tup (pv 3) pe_int (fun _ _ => rfl)))
      (pss_cons (ps_if (pt_not (pt_val (pe_cG c_is_grid hg hr (by decide) pass0 (pa_cons (pv 4) (pa_cons (pe_op op_add (pe_callB call_len (by rfl) T.len (by decide +kernel) (pa_cons (pv 0) pa_nil)) pe_int) (pa_cons (pe_op op_add (pe_callB call_len (by rfl) T.len (by decide +kernel) (pa_cons (pv 1) pa_nil)) pe_int) pa_nil)))))) (pss_one (ps_ret pe_bl)) pss_nil)
      (pss_one (ps_ret (pe_and (pe_cmpR op_eq (pe_ix ix_tup (pe_ix ix_tup (pv 4) pe_int (fun _ _ => rfl)) pe_int (fun _ _ => rfl)) pe_int (nomark _)) (pe_and (pe_cmpR op_eq (pe_ix ix_tup (pe_ix ix_tup (pv 4) (pe_un un_neg pe_int) (fun _ _ => rfl)) (pe_un un_neg pe_int) (fun _ _ => rfl)) (pv 2) (nomark _)) (pe_one (pe_cG c_are_far_rows hg hr (by decide) pass0 (pa_cons (pv 4) (pa_cons (pv 0) (pa_cons (pv 1) pa_nil)))))))))))), ?_⟩
    refine ⟨_, rfl, v, .ty "tuple", ty, .type "tuple", bt, rfl, .ty "tuple", tyx, kt, ?_⟩
    cases bt with
    | false => exact ⟨false, rfl, iteT (k false H Same.rfl ⟨nofun, fun ⟨g, L, h, _⟩ => absurd h (ht0 rfl _)⟩)⟩
    | true =>
      obtain ⟨xs, t, rfl, ht⟩ := ht1 rfl
      have tv : TupV H (.ref t) xs := ⟨t, rfl, ht⟩
      have itm := iv.items tv
      refine ⟨true, rfl, iteF ?_⟩
      refine ⟨_, rfl, _, _, rfl, .inr ⟨_, SqT.of ht, rfl⟩, rfl, _, rfl, ?_⟩
      match xs, ht, tv, itm with
      | [va, vb], ht, tv, itm =>
        refine iteF ?_
        refine ⟨_, rfl, t, _, _, _, rfl, rfl, SqT.of ht, at0, "far", rfl, ?_⟩
        by_cases c1 : va = .str "far"
        · subst c1
          refine .inl ⟨rfl, _, rfl, ?_⟩
          refine iteF ?_
          refine ⟨_, rfl, t, _, _, _, rfl, rfl, SqT.of ht, at1, ?_⟩
          have ib := itm vb (by simp)
          refine name_go ⟨_, rfl, _, rfl, _, _, rfl, ⟨xl, rfl⟩, _, _, rfl, rfl, _, rfl, _, _, rfl, ⟨yl, rfl⟩, _, _, rfl, rfl, vb, x, y, B, rfl, ib, hB, fun b H1 s1 hb => ?_⟩
          cases b with
          | false => exact ⟨false, rfl, iteT (k false H1 s1 ⟨nofun, fun h => by
              obtain ⟨g, L, e, h2, _⟩ := h.two tv
              cases e
              exact absurd (hb.mpr ⟨L, h2⟩) Bool.false_ne_true⟩)⟩
          | true =>
            obtain ⟨L, gr⟩ := hb.mp rfl
            obtain ⟨rows, ⟨g, rfl, hg1⟩, _⟩ := id gr
            have e : ∀ tot, FarP H x y tot (.ref t) ↔ FarL L x y tot := fun tot => ⟨fun h => by
              obtain ⟨g, L2, e, h2, h3⟩ := h.two tv
              cases e
              cases gr.inj h2
              exact h3, fun h => ⟨_, L, tv, gr, h⟩⟩
            refine ⟨true, rfl, iteF ?_⟩
            have sz := gr.size rfl hg1
            obtain ⟨t0, c0, hv0, ht0, hc0, l0⟩ := gr.row rfl hg1 (i := 0) (by omega)
            obtain ⟨tn, cn, hvn, htn, hcn, ln⟩ := gr.row rfl hg1 (i := x.length) (by omega)
            have at0 : atI rows (0 : Int) = some (.ref t0) := atI_nat (j := 0) hv0
            have atn : atI rows (-1 : Int) = some (.ref tn) := atI_end hvn (by omega)
            have az : atI (c0.map V.int) (0 : Int) = some (.int (gi c0 0)) := gi_at (j := 0) (by omega)
            have aw : atI (cn.map V.int) (-1 : Int) = some (.int (gi cn y.length)) := gi_end ln
            have hgs := SqT.of (K := K) (s1 _ _ hg1)
            refine ⟨_, rfl, g, _, _, _, rfl, rfl, hgs, at0, t0, _, _, _, rfl, rfl, SqT.of (s1 _ _ ht0), az, rfl, _, rfl, ?_⟩
            by_cases z1 : gi c0 0 = 0
            · rw [show decide (V.int (gi c0 0) = V.int 0) = true from decide_eq_true (by rw [z1])]
              refine iteT ?_
              refine ⟨_, rfl, _, rfl, g, _, _, _, rfl, rfl, hgs, atn, _, rfl, tn, _, _, _, rfl, rfl, SqT.of (s1 _ _ htn), aw, _, rfl, rfl, _, rfl, ?_⟩
              by_cases z2 : gi cn y.length = tot
              · rw [show decide (V.int (gi cn y.length) = V.int tot) = true from decide_eq_true (by rw [z2])]
                exact iteT ⟨_, rfl, _, rfl, _, rfl, _, x, y, L, rfl, gr.keep (.same s1), hx, hy, fun b H2 s2 hb2 => k b H2 (s1.trans s2) (by
                  rw [hb2, e]
                  exact ⟨fun h => ⟨by rw [ent_gi hc0]; exact z1, by rw [ent_gi hcn]; exact z2, h⟩, fun h => h.2.2⟩)⟩
              · rw [show decide (V.int (gi cn y.length) = V.int tot) = false from decide_eq_false fun z => z2 (V.int.inj z)]
                exact iteF (k false H1 s1 ⟨nofun, fun h => absurd (by
                  have q := ((e tot).mp h).2.1
                  rw [ent_gi hcn] at q
                  exact q) z2⟩)
            · rw [show decide (V.int (gi c0 0) = V.int 0) = false from decide_eq_false fun z => z1 (V.int.inj z)]
              exact iteF (k false H1 s1 ⟨nofun, fun h => absurd (by
                have q := ((e tot).mp h).1
                rw [ent_gi hc0] at q
                exact q) z1⟩)
        · have no : ¬ FarP H x y tot (.ref t) := fun h => by
            obtain ⟨g, L, e, _⟩ := h.two tv
            cases e
            exact c1 rfl
          have ia := itm va (by simp)
          rcases ia.ne_str "far" with h | ⟨a, rfl, h⟩
          · refine .inl ⟨h, _, rfl, ?_⟩
            rw [decide_eq_false c1]
            exact iteT (k false H Same.rfl ⟨nofun, fun h => absurd h no⟩)
          · exact .inr ⟨a, rfl, h, _, rfl, iteT (k false H Same.rfl ⟨nofun, fun h => absurd h no⟩)⟩
      | [], ht, tv, itm => exact iteT (k false H Same.rfl ⟨nofun, fun h => by
          obtain ⟨g, L, e, _⟩ := h.two tv
          cases e⟩)
      | [va], ht, tv, itm => exact iteT (k false H Same.rfl ⟨nofun, fun h => by
          obtain ⟨g, L, e, _⟩ := h.two tv
          cases e⟩)
      | va :: vb :: vc :: r, ht, tv, itm =>
        rw [show decide (V.int (((va :: vb :: vc :: r).length : Nat) : Int) = V.int 2) = false from decide_eq_false fun z => by
          have := V.int.inj z
          simp only [List.length_cons] at this
          omega]
        exact iteT (k false H Same.rfl ⟨nofun, fun h => by
          obtain ⟨g, L, e, _⟩ := h.two tv
          cases e⟩)
end
end Vk
set_option Elab.async false
set_option maxRecDepth 100000
set_option linter.all false
set_option maxHeartbeats 4000000
namespace Vk
open PySem PySem.Spec PyProof.Rows L2
theorem cut_lt {x : Str} {i : Nat} (h : i < x.length) : cutS x (some ((i : Nat) : Int)) (some ((i + 1 : Nat) : Int)) = ⟨#[ltr x i]⟩ := by
  rw [cut_ab (by omega) (by omega), show i + 1 - i = 1 by omega]
  have l : x.cps.toList.length = x.length := Array.length_toList
  have e : (x.cps.toList.drop i).take 1 = [ltr x i] := by
    unfold ltr
    rw [List.drop_eq_getElem_cons (by omega), List.take_succ_cons, List.take_zero, List.getD_eq_getElem?_getD, List.getElem?_eq_getElem (by omega)]
    rfl
  rw [e]
/-- an entry of a tuple of tuples -/
theorem acc {K : PySem.W.Frag} {σ : L2.St} {H : Hp} {ti tj : TE} {g t : Addr} {rows cs : List V} {i j : Int} {v : V} {Q : VK} (s4 : σ[4]? = some (some (.ref g))) (hi : ∀ Q : VK, Q (.int i) H → ti σ H Q) (hj : ∀ Q : VK, Q (.int j) H → tj σ H Q) (hg : SqT K H g rows) (e1 : atI rows i = some (.ref t)) (ht : SqT K H t cs)
    (e2 : atI cs j = some v) (q : Q v H) : tOp (rIxT K) (tOp (rIxT K) (tVar 4) ti) tj σ H Q := ⟨_, s4, hi _ ⟨g, rows, i, .ref t, rfl, rfl, hg, e1, hj _ ⟨t, cs, j, v, rfl, rfl, ht, e2, q⟩⟩⟩
theorem v_of {σ : L2.St} {H : Hp} {n : Nat} {v : V} (h : σ[n]? = some (some v)) : ∀ Q : VK, Q v H → tVar n σ H Q := fun Q q => ⟨v, h, q⟩
theorem v_sub {σ : L2.St} {H : Hp} {n : Nat} {i : Int} {j : Int} (h : σ[n]? = some (some (.int i))) (e : i - 1 = j) : ∀ Q : VK, Q (.int j) H → tOp (rI0 fun i j => V.int (i - j)) (tVar n) (tC (.int 1)) σ H Q := fun Q q => ⟨_, h, _, _, rfl, rfl, by subst e; exact q⟩
theorem and_by {A B : TT} {σ : L2.St} {H : Hp} {k : Bool → Hp → Prop} {p q : Prop} [Decidable p] [Decidable q] (ha : ∀ k' : Bool → Hp → Prop, k' (decide p) H → A σ H k') (hb : p → ∀ k' : Bool → Hp → Prop, k' (decide q) H → B σ H k') (h : k (decide (p ∧ q)) H) : tAnd A B σ H k := by
  refine ha _ ?_
  by_cases c : p
  · rw [decide_eq_true c]
    refine iteT (hb c _ ?_)
    rw [show decide (p ∧ q) = decide q by simp [c]] at h
    exact h
  · rw [decide_eq_false c]
    rw [show decide (p ∧ q) = false by simp [c]] at h
    exact iteF h
theorem or_by {A B : TT} {σ : L2.St} {H : Hp} {k : Bool → Hp → Prop} {p q : Prop} [Decidable p] [Decidable q] (ha : ∀ k' : Bool → Hp → Prop, k' (decide p) H → A σ H k') (hb : ∀ k' : Bool → Hp → Prop, k' (decide q) H → B σ H k') (h : k (decide (p ∨ q)) H) : tOr A B σ H k := by
  refine ha _ ?_
  by_cases c : p
  · rw [decide_eq_true c]
    rw [show decide (p ∨ q) = true by simp [c]] at h
    exact iteT h
  · rw [decide_eq_false c]
    refine iteF (hb _ ?_)
    rw [show decide (p ∨ q) = decide q by simp [c]] at h
    exact h
theorem pos_by {σ : L2.St} {H : Hp} {n : Nat} {i : Nat} (h : σ[n]? = some (some (.int (i : Nat)))) : ∀ k' : Bool → Hp → Prop, k' (decide (0 < i)) H → tTest (tOp (rI0 fun i j => V.bl (decide (j < i))) (tVar n) (tC (.int 0))) σ H k' := fun k' q => ⟨_, h, _, _, rfl, rfl, _, rfl, by
  rw [show decide ((0 : Int) < ((i : Nat) : Int)) = decide (0 < i) by by_cases c : 0 < i <;> simp [c]]
  exact q⟩
theorem gt_by {σ : L2.St} {H : Hp} {ta tb : TE} {a b : Int} (h1 : ∀ Q : VK, Q (.int a) H → ta σ H Q) (h2 : ∀ Q : VK, Q (.int b) H → tb σ H Q) : ∀ k' : Bool → Hp → Prop, k' (decide (b < a)) H → tTest (tOp (rI0 fun i j => V.bl (decide (j < i))) ta tb) σ H k' := fun k' q => h1 _ (h2 _ ⟨_, _, rfl, rfl, _, rfl, q⟩)
theorem one_by {σ : L2.St} {H : Hp} {ta : TE} {a : Int} (h1 : ∀ Q : VK, Q (.int a) H → ta σ H Q) : ∀ Q : VK, Q (.int (a + 1)) H → tOp (rI0 fun i j => V.int (i + j)) ta (tC (.int 1)) σ H Q := fun Q q => h1 _ ⟨_, _, rfl, rfl, q⟩
theorem add_by {σ : L2.St} {H : Hp} {ta tb : TE} {a b : Int} (h1 : ∀ Q : VK, Q (.int a) H → ta σ H Q) (h2 : ∀ Q : VK, Q (.int b) H → tb σ H Q) : ∀ Q : VK, Q (.int (a + b)) H → tOp (rI0 fun i j => V.int (i + j)) ta tb σ H Q := fun Q q => h1 _ (h2 _ ⟨_, _, rfl, rfl, q⟩)
section
variable {P : Program} {w : World} {K : PySem.W.Frag} {mg : Str → Option Value} {base : Heap}
abbrev s_lnis_far : Stmt := top 25
theorem sc_lnis_far : FnScope ["_law_left", "_law_right", "_law_total", "_law_thing", "_law_rows", "_law_i", "_law_j", "_law_step"] ["_law_left", "_law_right", "_law_total", "_law_thing"] (defScope s_lnis_far) := ⟨rfl, rfl, rfl, by decide +kernel, rfl, by decide +kernel, by decide +kernel⟩
theorem b_lnis_far {f : Addr} {fd : FuncData} (F : Fun K "_law_nis_far" "_law_nis_far" s_lnis_far f fd) (T : Txt mg) (c_lnis_grid : CalG P w K mg base CX0 1 "_law_nis_grid" spGridG) : FnG P w K mg base CX0 2 f fd ["_law_left", "_law_right", "_law_total", "_law_thing"] spIsFarG := by
  refine okG0 F sc_lnis_far (fun vs H Q E h => ?_) (fun cdv A outer s H vs Q E hg hr h => ?_)
  · obtain ⟨x, y, tot, v, B, rfl, _⟩ := h
    rfl
  · have hu := hu_of hr
    have hu64 := hr.units
    obtain ⟨x, y, tot, v, B, rfl, iv, hB, hx, hy, k⟩ := h
    have xl : x.length ≤ sizeLine := Nat.le_trans hx (by decide)
    have yl : y.length ≤ sizeLine := Nat.le_trans hy (by decide)
    obtain ⟨ty, tyx, ⟨bt, kt, ht1, ht0⟩, _⟩ := kit_any (K := K) iv
    refine ⟨_, (pss_cons (ps_if (PW.pt (pw_or (pt_not (pt_val (pe_callB call_isi (by rfl) T.isinstance (by decide +kernel) (pa_cons (pv 3) (pa_cons (pe_bltn (v := .ty "tuple") (by rfl) T.tuple rfl rfl) pa_nil))))) (pw_or (pt_cmpR op_ne (pe_callB call_len (by rfl) T.len (by decide +kernel) (pa_cons (pv 3) pa_nil)) pe_int (nomark _)) (pw_or (pt_not (pt_val (pe_callB call_isi (by rfl) T.isinstance (by decide +kernel) (pa_cons (pe_ix ix_tup (pv 3) pe_int (fun _ _ => rfl)) (pa_cons (pe_bltn (v := .ty "str") (by rfl) T.str rfl rfl) pa_nil))))) (pw_or1 (pt_cmpR op_ne (pe_ix ix_tup (pv 3) pe_int (fun _ _ => rfl)) pe_str (nomark _))))))) (pss_one (ps_ret pe_bl)) pss_nil)
      (pss_cons (ps_set (i := 4) sc_lnis_far.nd rfl (Or.inl rfl) (pe_ix ix_tup (pv 3) pe_int (fun _ _ => rfl)))
      (pss_cons (ps_if (PW.pt (pw_or (pt_not (pt_val (pe_cG c_lnis_grid hg hr (by decide) pass0 (pa_cons (pv 4) (pa_cons (pe_op op_add (pe_callB call_len (by rfl) T.len (by decide +kernel) (pa_cons (pv 0) pa_nil)) pe_int) (pa_cons (pe_op op_add (pe_callB call_len (by rfl) T.len (by decide +kernel) (pa_cons (pv 1) pa_nil)) pe_int) pa_nil)))))) (pw_or (pt_cmpR op_ne (pe_ix ix_tup (pe_ix ix_tup (pv 4) pe_int (fun _ _ => rfl)) pe_int (fun _ _ => rfl)) pe_int (nomark _)) (pw_or1 (pt_cmpR op_ne (pe_ix ix_tup (pe_ix ix_tup (pv 4) (pe_un un_neg pe_int) (fun _ _ => rfl)) (pe_un un_neg pe_int) (fun _ _ => rfl)) (pv 2) (nomark _)))))) (pss_one (ps_ret pe_bl)) pss_nil)
      (pss_cons (ps_for PassesOwn.never rfl (pi_range1 rfl T.range (pa_cons (pe_op op_add (pe_callB call_len (by rfl) T.len (by decide +kernel) (pa_cons (pv 0) pa_nil)) pe_int) pa_nil)) (pg_name (i := 5) sc_lnis_far.nd rfl (Or.inl rfl)) (pss_one (ps_for PassesOwn.never rfl (pi_range1 rfl T.range (pa_cons (pe_op op_add (pe_callB call_len (by rfl) T.len (by decide +kernel) (pa_cons (pv 1) pa_nil)) pe_int) pa_nil)) (pg_name (i := 6) sc_lnis_far.nd rfl (Or.inl rfl)) (pss_cons (ps_if (PW.pt (pw_or (PW.pt (pw_and (pt_cmpR op_gt (pv 5) pe_int (nomark _)) (pw_and1 (pt_cmpR op_gt (pe_ix ix_tup (pe_ix ix_tup (pv 4) (pv 5) (fun _ _ => rfl)) (pv 6) (fun _ _ => rfl)) (pe_op op_add (pe_ix ix_tup (pe_ix ix_tup (pv 4) (pe_op op_sub (pv 5) pe_int) (fun _ _ => rfl)) (pv 6) (fun _ _ => rfl)) pe_int) (nomark _))))) (pw_or1 (PW.pt (pw_and (pt_cmpR op_gt (pv 6) pe_int (nomark _)) (pw_and1 (pt_cmpR op_gt (pe_ix ix_tup (pe_ix ix_tup (pv 4) (pv 5) (fun _ _ => rfl)) (pv 6) (fun _ _ => rfl)) (pe_op op_add (pe_ix ix_tup (pe_ix ix_tup (pv 4) (pv 5) (fun _ _ => rfl)) (pe_op op_sub (pv 6) pe_int) (fun _ _ => rfl)) pe_int) (nomark _)))))))) (pss_one (ps_ret pe_bl)) pss_nil)
      (pss_cons (ps_set (i := 7) sc_lnis_far.nd rfl (Or.inl rfl) (pe_callTy call_int1 (by rfl) T.int (by decide +kernel) (pa_cons (pe_cmpR op_ne (pe_slice sl_str (pv 0) (po_some (pe_op op_sub (pv 5) pe_int)) (po_some (pv 5))) (pe_slice sl_str (pv 1) (po_some (pe_op op_sub (pv 6) pe_int)) (po_some (pv 6))) (nomark _)) pa_nil)))
      (pss_one (ps_if (PW.pt (pw_and (pt_cmpR op_gt (pv 5) pe_int (nomark _)) (pw_and (pt_cmpR op_gt (pv 6) pe_int (nomark _)) (pw_and1 (pt_cmpR op_gt (pe_ix ix_tup (pe_ix ix_tup (pv 4) (pv 5) (fun _ _ => rfl)) (pv 6) (fun _ _ => rfl)) (pe_op op_add (pe_ix ix_tup (pe_ix ix_tup (pv 4) (pe_op op_sub (pv 5) pe_int) (fun _ _ => rfl)) (pe_op op_sub (pv 6) pe_int) (fun _ _ => rfl)) (pv 7)) (nomark _)))))) (pss_one (ps_ret pe_bl)) pss_nil)))))))
      (pss_one (ps_ret pe_bl)))))), ?_⟩
    refine ⟨_, rfl, v, .ty "tuple", ty, .type "tuple", bt, rfl, .ty "tuple", tyx, kt, ?_⟩
    cases bt with
    | false => exact ⟨false, rfl, iteT (k false H Same.rfl ⟨nofun, fun ⟨g, L, h, _⟩ => absurd h (ht0 rfl _)⟩)⟩
    | true =>
      obtain ⟨xs, t, rfl, ht⟩ := ht1 rfl
      have tv : TupV H (.ref t) xs := ⟨t, rfl, ht⟩
      have itm := iv.items tv
      refine ⟨true, rfl, iteF ?_⟩
      refine ⟨_, rfl, _, _, rfl, .inr ⟨_, SqT.of ht, rfl⟩, rfl, _, rfl, ?_⟩
      match xs, ht, tv, itm with
      | [va, vb], ht, tv, itm =>
        refine iteF ?_
        have ia := itm va (by simp)
        have ib := itm vb (by simp)
        obtain ⟨tya, tyxa, _, _, _, ⟨bs, ks, hs1, hs0⟩⟩ := kit_any (K := K) ia
        refine ⟨_, rfl, t, _, _, _, rfl, rfl, SqT.of ht, at0, va, .ty "str", tya, .type "str", bs, rfl, .ty "str", tyxa, ks, ?_⟩
        cases bs with
        | false => exact ⟨false, rfl, iteT (k false H Same.rfl ⟨nofun, fun h => by
            obtain ⟨g, L, e, _⟩ := h.two tv
            cases e
            exact absurd rfl (hs0 rfl "far")⟩)⟩
        | true =>
          obtain ⟨z, rfl⟩ := hs1 rfl
          refine ⟨true, rfl, iteF ?_⟩
          refine ⟨_, rfl, t, _, _, _, rfl, rfl, SqT.of ht, at0, rfl, _, rfl, ?_⟩
          by_cases c1 : V.str z = .str "far"
          · cases c1
            refine iteF ?_
            refine ⟨_, rfl, t, _, _, _, rfl, rfl, SqT.of ht, at1, ?_⟩
            refine name_go ⟨_, rfl, _, rfl, _, _, rfl, ⟨xl, rfl⟩, _, _, rfl, rfl, _, rfl, _, _, rfl, ⟨yl, rfl⟩, _, _, rfl, rfl, vb, x, y, B, rfl, ib, hB, fun b H1 s1 hb => ?_⟩
            cases b with
            | false => exact ⟨false, rfl, iteT (k false H1 s1 ⟨nofun, fun h => by
                obtain ⟨g, L, e, h2, _⟩ := h.two tv
                cases e
                exact absurd (hb.mpr ⟨L, h2⟩) Bool.false_ne_true⟩)⟩
            | true =>
              obtain ⟨L, gr⟩ := hb.mp rfl
              obtain ⟨rows, ⟨g, rfl, hg1⟩, _⟩ := id gr
              have e : ∀ tot, FarP H x y tot (.ref t) ↔ FarL L x y tot := fun tot => ⟨fun h => by
                obtain ⟨g, L2, e, h2, h3⟩ := h.two tv
                cases e
                cases gr.inj h2
                exact h3, fun h => ⟨_, L, tv, gr, h⟩⟩
              refine ⟨true, rfl, iteF ?_⟩
              have sz := gr.size rfl hg1
              obtain ⟨t0, c0, hv0, ht0, hc0, l0⟩ := gr.row rfl hg1 (i := 0) (by omega)
              obtain ⟨tn, cn, hvn, htn, hcn, ln⟩ := gr.row rfl hg1 (i := x.length) (by omega)
              have at0 : atI rows (0 : Int) = some (.ref t0) := atI_nat (j := 0) hv0
              have atn : atI rows (-1 : Int) = some (.ref tn) := atI_end hvn (by omega)
              have az : atI (c0.map V.int) (0 : Int) = some (.int (gi c0 0)) := gi_at (j := 0) (by omega)
              have aw : atI (cn.map V.int) (-1 : Int) = some (.int (gi cn y.length)) := gi_end ln
              have hgs := SqT.of (K := K) (s1 _ _ hg1)
              refine ⟨_, rfl, g, _, _, _, rfl, rfl, hgs, at0, t0, _, _, _, rfl, rfl, SqT.of (s1 _ _ ht0), az, rfl, _, rfl, ?_⟩
              by_cases z1 : gi c0 0 = 0
              · rw [show decide (V.int (gi c0 0) = V.int 0) = true from decide_eq_true (by rw [z1])]
                refine iteF ?_
                refine ⟨_, rfl, _, rfl, g, _, _, _, rfl, rfl, hgs, atn, _, rfl, tn, _, _, _, rfl, rfl, SqT.of (s1 _ _ htn), aw, _, rfl, rfl, _, rfl, ?_⟩
                by_cases z2 : gi cn y.length = tot
                · rw [show decide (V.int (gi cn y.length) = V.int tot) = true from decide_eq_true (by rw [z2])]
                  refine iteF ?_
                  refine ⟨_, rfl, _, _, rfl, ⟨xl, rfl⟩, _, _, rfl, rfl, _, rfl, by omega, by omega, ?_⟩
                  refine for_range (lo := 0) (n := (((x.length : Nat) : Int) + 1).toNat) (fun i σ H' => (∃ o5 o6 o7, σ = [some (.str x), some (.str y), some (.int tot), some (.ref t), some (.ref g), o5, o6, o7]) ∧ Same H H' ∧ ∀ i' j', i' < i → j' ≤ y.length → NearAt L x y i' j') ?_ ?_ ?_
                  · exact ⟨⟨_, _, _, rfl⟩, s1, fun i' j' h => absurd h (Nat.not_lt_zero _)⟩
                  · rintro i σ H2 hi ⟨⟨o5, o6, o7, rfl⟩, s2, nr⟩
                    rw [Int.zero_add]
                    obtain ⟨t1, c1, hv1, ht1, hc1, l1⟩ := gr.row rfl hg1 (i := i) (by omega)
                    refine ⟨_, rfl, _, _, rfl, ⟨yl, rfl⟩, _, _, rfl, rfl, _, rfl, by omega, by omega, ?_⟩
                    refine for_range (lo := 0) (n := (((y.length : Nat) : Int) + 1).toNat) (fun j σ H' => (∃ o6 o7, σ = [some (.str x), some (.str y), some (.int tot), some (.ref t), some (.ref g), some (.int (i : Nat)), o6, o7]) ∧ Same H H' ∧ ∀ j', j' < j → NearAt L x y i j') ?_ ?_ ?_
                    · exact ⟨⟨_, _, rfl⟩, s2, fun j' h => absurd h (Nat.not_lt_zero _)⟩
                    · rintro j σ H3 hj ⟨⟨o6, o7, rfl⟩, s3, nj⟩
                      rw [Int.zero_add]
                      have hgs3 := SqT.of (K := K) (s3 _ _ hg1)
                      have hts3 := SqT.of (K := K) (s3 _ _ ht1)
                      have fail : ¬ NearAt L x y i j → Q (.bl false) H3 := fun n => k false H3 s3 ⟨nofun, fun h => absurd (((e tot).mp h).2.2 i j (by omega) (by omega)) n⟩
                      have a1 : atI rows ((i : Nat) : Int) = some (.ref t1) := atI_nat hv1
                      have d1 : atI (c1.map V.int) ((j : Nat) : Int) = some (.int (gi c1 j)) := gi_at (by omega)
                      have up : 0 < i → ∃ t2 c2, SqT K H3 t2 (c2.map V.int) ∧ atI rows (((i - 1 : Nat) : Nat) : Int) = some (.ref t2) ∧ L[i - 1]? = some c2 ∧ c2.length = y.length + 1 := fun h => by
                        obtain ⟨t2, c2, g1, g2, g3, g4⟩ := gr.row rfl hg1 (i := i - 1) (by omega)
                        exact ⟨t2, c2, SqT.of (s3 _ _ g2), atI_nat g1, g3, g4⟩
                      refine or_by (p := 0 < i ∧ ent L i j > ent L (i - 1) j + 1) (q := 0 < j ∧ ent L i j > ent L i (j - 1) + 1) ?_ ?_ ?_
                      · intro k' q
                        refine and_by (p := 0 < i) (q := ent L i j > ent L (i - 1) j + 1) (pos_by rfl) (fun c => ?_) q
                        obtain ⟨t2, c2, g1, g2, g3, g4⟩ := up c
                        rw [ent_gi hc1, ent_gi g3]
                        have d2 : atI (c2.map V.int) ((j : Nat) : Int) = some (.int (gi c2 j)) := gi_at (by omega)
                        exact gt_by (fun Q q => acc rfl (v_of rfl) (v_of rfl) hgs3 a1 hts3 d1 q) (one_by fun Q q => acc rfl (v_sub rfl (by omega)) (v_of rfl) hgs3 g2 g1 d2 q)
                      · intro k' q
                        refine and_by (p := 0 < j) (q := ent L i j > ent L i (j - 1) + 1) (pos_by rfl) (fun c => ?_) q
                        rw [ent_gi hc1, ent_gi hc1]
                        have d2 : atI (c1.map V.int) (((j - 1 : Nat) : Nat) : Int) = some (.int (gi c1 (j - 1))) := gi_at (by omega)
                        exact gt_by (fun Q q => acc rfl (v_of rfl) (v_of rfl) hgs3 a1 hts3 d1 q) (one_by fun Q q => acc rfl (v_of rfl) (v_sub rfl (by omega)) hgs3 a1 hts3 d2 q)
                      by_cases cA : (0 < i ∧ ent L i j > ent L (i - 1) j + 1) ∨ (0 < j ∧ ent L i j > ent L i (j - 1) + 1)
                      · rw [decide_eq_true cA]
                        refine iteT (fail fun n => ?_)
                        rcases cA with ⟨h1, h2⟩ | ⟨h1, h2⟩
                        · have := n.1 h1; omega
                        · have := n.2.1 h1; omega
                      rw [decide_eq_false cA]
                      refine iteF ?_
                      refine name_go ⟨_, rfl, _, rfl, _, _, rfl, rfl, _, rfl, _, rfl, _, rfl, x, rfl, xl, _, rfl, _, rfl, _, _, rfl, rfl, _, rfl, _, rfl, _, rfl, y, rfl, yl, rfl, .inr ⟨_, rfl, ?_⟩⟩
                      have hst : 0 < i → 0 < j → (if (!decide (V.str (cutS x (some (((i : Nat) : Int) - 1)) (some ((i : Nat) : Int))) = V.str (cutS y (some (((j : Nat) : Int) - 1)) (some ((j : Nat) : Int))))) = true then (1 : Int) else 0) = (neq (ltr x (i - 1)) (ltr y (j - 1)) : Nat) := fun hi0 hj0 => by
                        obtain ⟨i, rfl⟩ : ∃ k, i = k + 1 := ⟨i - 1, by omega⟩
                        obtain ⟨j, rfl⟩ : ∃ k, j = k + 1 := ⟨j - 1, by omega⟩
                        rw [show (((i + 1 : Nat) : Nat) : Int) - 1 = ((i : Nat) : Int) by omega, show (((j + 1 : Nat) : Nat) : Int) - 1 = ((j : Nat) : Int) by omega, cut_lt (by omega), cut_lt (by omega), show i + 1 - 1 = i from rfl, show j + 1 - 1 = j from rfl]
                        rw [show decide (V.str ⟨#[ltr x i]⟩ = V.str ⟨#[ltr y j]⟩) = decide (ltr x i = ltr y j) from ones_eq _ _]
                        unfold neq
                        by_cases h : ltr x i = ltr y j
                        · rw [decide_eq_true h, if_pos h]; rfl
                        · rw [decide_eq_false h, if_neg h]; rfl
                      generalize (if (!decide (V.str (cutS x (some (((i : Nat) : Int) - 1)) (some ((i : Nat) : Int))) = V.str (cutS y (some (((j : Nat) : Int) - 1)) (some ((j : Nat) : Int))))) = true then (1 : Int) else 0) = st at hst ⊢
                      refine name_go (and_by (p := 0 < i) (q := 0 < j ∧ ent L i j > ent L (i - 1) (j - 1) + st) (pos_by rfl) (fun ci k' q => and_by (p := 0 < j) (q := ent L i j > ent L (i - 1) (j - 1) + st) (pos_by rfl) (fun cj => ?_) q) ?_)
                      · obtain ⟨t2, c2, g1, g2, g3, g4⟩ := up ci
                        rw [ent_gi hc1, ent_gi g3]
                        have d2 : atI (c2.map V.int) (((j - 1 : Nat) : Nat) : Int) = some (.int (gi c2 (j - 1))) := gi_at (by omega)
                        exact gt_by (fun Q q => acc rfl (v_of rfl) (v_of rfl) hgs3 a1 hts3 d1 q) (add_by (fun Q q => acc rfl (v_sub rfl (by omega)) (v_sub rfl (by omega)) hgs3 g2 g1 d2 q) (v_of rfl))
                      · by_cases cB : 0 < i ∧ 0 < j ∧ ent L i j > ent L (i - 1) (j - 1) + st
                        · rw [decide_eq_true cB]
                          refine iteT (fail fun n => ?_)
                          obtain ⟨h1, h2, h3⟩ := cB
                          have := n.2.2 h1 h2
                          have := hst h1 h2
                          omega
                        · rw [decide_eq_false cB]
                          refine iteF ⟨⟨_, _, rfl⟩, s3, fun j' hj' => ?_⟩
                          rcases Nat.lt_or_ge j' j with h | h
                          · exact nj j' h
                          · obtain rfl : j' = j := by omega
                            refine ⟨fun h1 => ?_, fun h1 => ?_, fun h1 h2 => ?_⟩
                            · rcases Int.lt_or_le (ent L (i - 1) j' + 1) (ent L i j') with h2 | h2
                              · exact absurd (.inl ⟨h1, h2⟩) cA
                              · exact h2
                            · rcases Int.lt_or_le (ent L i (j' - 1) + 1) (ent L i j') with h2 | h2
                              · exact absurd (.inr ⟨h1, h2⟩) cA
                              · exact h2
                            · have e1 := hst h1 h2
                              rcases Int.lt_or_le (ent L (i - 1) (j' - 1) + st) (ent L i j') with h3 | h3
                              · exact absurd ⟨h1, h2, h3⟩ cB
                              · omega
                    · rintro σ H3 ⟨⟨o6, o7, rfl⟩, s3, nj⟩
                      refine ⟨⟨_, _, _, rfl⟩, s3, fun i' j' h1 h2 => ?_⟩
                      rcases Nat.lt_or_ge i' i with h | h
                      · exact nr i' j' h h2
                      · obtain rfl : i' = i := by omega
                        exact nj j' (by omega)
                  · rintro σ H2 ⟨⟨o5, o6, o7, rfl⟩, s2, nr⟩
                    exact k true H2 s2 ⟨fun _ => (e tot).mpr ⟨by rw [ent_gi hc0]; exact z1, by rw [ent_gi hcn]; exact z2, fun i j hi hj => nr i j (by omega) hj⟩, fun _ => rfl⟩
                · rw [show decide (V.int (gi cn y.length) = V.int tot) = false from decide_eq_false fun z => z2 (V.int.inj z)]
                  exact iteT (k false H1 s1 ⟨nofun, fun h => absurd (by
                    have q := ((e tot).mp h).2.1
                    rw [ent_gi hcn] at q
                    exact q) z2⟩)
              · rw [show decide (V.int (gi c0 0) = V.int 0) = false from decide_eq_false fun z => z1 (V.int.inj z)]
                exact iteT (k false H1 s1 ⟨nofun, fun h => absurd (by
                  have q := ((e tot).mp h).1
                  rw [ent_gi hc0] at q
                  exact q) z1⟩)
          · rw [decide_eq_false c1]
            exact iteT (k false H Same.rfl ⟨nofun, fun h => by
              obtain ⟨g, L, e, _⟩ := h.two tv
              cases e
              exact absurd rfl c1⟩)
      | [], ht, tv, itm => exact iteT (k false H Same.rfl ⟨nofun, fun h => by
          obtain ⟨g, L, e, _⟩ := h.two tv
          cases e⟩)
      | [va], ht, tv, itm => exact iteT (k false H Same.rfl ⟨nofun, fun h => by
          obtain ⟨g, L, e, _⟩ := h.two tv
          cases e⟩)
      | va :: vb :: vc :: r, ht, tv, itm =>
        rw [show decide (V.int (((va :: vb :: vc :: r).length : Nat) : Int) = V.int 2) = false from decide_eq_false fun z => by
          have := V.int.inj z
          simp only [List.length_cons] at this
          omega]
        exact iteT (k false H Same.rfl ⟨nofun, fun h => by
          obtain ⟨g, L, e, _⟩ := h.two tv
          cases e⟩)
end
end Vk
set_option Elab.async false
set_option maxRecDepth 100000
set_option linter.all false
set_option maxHeartbeats 4000000
namespace Vk
open PySem PySem.Spec PyProof.Rows L2
theorem cutV_to {xs : List V} {k : Nat} : (cutV xs none (some (k : Int))).length ≤ k := by
  unfold cutV
  rw [List.length_take, HT.sIx_nat]
  omega
theorem cutV_from {xs : List V} {k : Nat} (h : k < xs.length) : (cutV xs (some ((k : Int) + 1)) none).length ≤ xs.length - (k + 1) := by
  unfold cutV
  have e : ((k : Int) + 1) = ((k + 1 : Nat) : Int) := by omega
  rw [List.length_take, List.length_drop, e, HT.sIx_nat]
  omega
section
variable {K : PySem.W.Frag} {H : Hp}
theorem sl_go {t : Addr} {xs : List V} {lo hi : Option Int} {Q : VK} (hx : H t = some (.tup xs)) (q : ∀ u ys H', Same H H' → H' u = some (.tup ys) → ys.length ≤ xs.length → (∀ y ∈ ys, y ∈ xs) → (ys = cutV xs lo hi ∨ ys = xs ∧ HT.sIx xs.length 0 lo = 0 ∧ HT.sIx xs.length xs.length hi = xs.length) → Q (.ref u) H') : rSlA K (.ref t) lo hi H Q :=
  ⟨t, xs, rfl, SqT.of hx, fun h => q t xs H Same.rfl hx (Nat.le_refl _) (fun y hy => hy) (.inr ⟨rfl, h⟩), fun _ p hp => q p _ _ (same_new hp) upd_same (cutV_length _ _ _) (fun y hy => cutV_mem hy) (.inl rfl)⟩
theorem cat_go {a b : Addr} {xs ys : List V} {Q : VK} (ha : H a = some (.tup xs)) (hb : H b = some (.tup ys)) (hl : xs.length + ys.length ≤ sizeLine) (q : ∀ u H', Same H H' → H' u = some (.tup (xs ++ ys)) → Q (.ref u) H') : rCatA K (.ref a) (.ref b) H Q := by
  refine ⟨a, b, xs, ys, rfl, rfl, SqT.of ha, SqT.of hb, hl, fun e => ?_, fun _ e => ?_, fun _ _ p hp => q p _ (same_new hp) upd_same⟩
  · subst e
    exact q b H Same.rfl hb
  · subst e
    exact q a H Same.rfl (by rw [List.append_nil]; exact ha)
end
theorem IsV.sub {H H1 : Hp} {B C n : Nat} {t u : Addr} {xs ys : List V} (iv : IsV H B n (.ref t)) (ht : H t = some (.tup xs)) (hu : H1 u = some (.tup ys)) (k : Kp H H1) (hC : B ≤ C) (hl : ys.length ≤ C) (m : ∀ y ∈ ys, y ∈ xs) : IsV H1 C n (.ref u) := by
  cases iv with
  | lst e => rw [e] at ht; cases ht
  | dct e => rw [e] at ht; cases ht
  | nil e =>
    rw [e] at ht; cases ht
    match ys, m, hu with
    | [], _, hu => exact .nil hu
    | y :: ys, m, _ => exact absurd (m y List.mem_cons_self) List.not_mem_nil
  | tup e l q =>
    rw [e] at ht; cases ht
    exact .tup hu hl fun y hy => ((q y (m y hy)).keep k).mono hC
theorem cut_one {xs ys : List V} (c3 : ys = cutV xs none (some (1 : Int)) ∨ ys = xs ∧ HT.sIx xs.length 0 none = 0 ∧ HT.sIx xs.length xs.length (some (1 : Int)) = xs.length) : ys.length ≤ 1 := by
  rcases c3 with rfl | ⟨rfl, _, c3⟩
  · exact cutV_to (k := 1)
  · have := HT.sIx_nat ys.length ys.length 1
    rw [show ((1 : Nat) : Int) = 1 from rfl, c3] at this
    omega
theorem cut_til {xs ys : List V} {d : Int} (h0 : 0 ≤ d) (c3 : ys = cutV xs none (some d) ∨ ys = xs ∧ HT.sIx xs.length 0 none = 0 ∧ HT.sIx xs.length xs.length (some d) = xs.length) : ys.length ≤ d.toNat := by
  have e : ((d.toNat : Nat) : Int) = d := Int.toNat_of_nonneg h0
  rcases c3 with rfl | ⟨rfl, _, c3⟩
  · rw [← e]; exact cutV_to
  · have := HT.sIx_nat ys.length ys.length d.toNat
    rw [e, c3] at this
    omega
theorem cut_behind {xs ys : List V} {d : Int} (h0 : 0 ≤ d) (h1 : d < (xs.length : Int)) (c3 : ys = cutV xs (some (d + 1)) none ∨ ys = xs ∧ HT.sIx xs.length 0 (some (d + 1)) = 0 ∧ HT.sIx xs.length xs.length none = xs.length) : ys.length ≤ xs.length - (d.toNat + 1) := by
  have e : ((d.toNat : Nat) : Int) = d := Int.toNat_of_nonneg h0
  rcases c3 with rfl | ⟨rfl, c3, _⟩
  · rw [← e]; exact cutV_from (by omega)
  · have := HT.sIx_nat ys.length 0 (d.toNat + 1)
    rw [show (((d.toNat + 1 : Nat) : Nat) : Int) = d + 1 by omega, c3] at this
    omega
section
variable {P : Program} {w : World} {K : PySem.W.Frag} {mg : Str → Option Value} {base : Heap}
theorem nxt_go {D : Ends} {σ : L2.St} {H : Hp} (h : D.nx σ H) : tNext D σ H := h
theorem nop_go {σ : L2.St} {H : Hp} {Q : Option Int → Hp → Prop} (h : Q none H) : tNoPart σ H Q := h
theorem join {A : TT} {σ : L2.St} {H : Hp} {X Y : Hp → Prop} (R : Hp → Prop) (hy : ∀ H1, R H1 → Y H1) (h : (∀ H1, R H1 → Y H1) → A σ H (fun b H1 => if b = true then X H1 else Y H1)) : A σ H (fun b H1 => if b = true then X H1 else Y H1) := h hy
def spBent : Nat → Sp
  | 0 => fun _ _ _ _ => False
  | n + 1 => fun vs H Q _ => ∃ (p c : Addr) (T : Nat) (v : V) (B : Nat), vs = [.ref p, v] ∧ IsV H B n v ∧ 200 ≤ B ∧ B ≤ 3900 ∧ Pen H p c T ∧ T + 2 * n + 10 < 1000000000 ∧ ∀ v' H', IsV H' (B + 8) n v' → Pen H' p c (T + 2 * n + 2) → Ext p H H' → Q v' H'
abbrev s_lnbent : Stmt := top 24
theorem sc_lnbent : FnScope ["_law_pen_here", "_law_thing", "_law_k"] ["_law_pen_here", "_law_thing"] (defScope s_lnbent) := ⟨rfl, rfl, rfl, by decide +kernel, rfl, by decide +kernel, by decide +kernel⟩
theorem pick_end {H : Hp} {p c q : Addr} {T B d : Nat} {xs : List V} {Q : VK} {E : XK} (hq : H q = some (.lst xs)) (ne : xs ≠ []) (hl : xs.length ≤ 1000) (hall : ∀ v ∈ xs, IsV H B d v) (P0 : Pen H p c T) (hT : T < 1000000000) (k : ∀ v H', IsV H' B d v → Pen H' p c (T + 1) → Ext p H H' → Q v H') : spPick K [.ref p, .ref q] H Q E :=
  ⟨p, c, .ref q, xs, T, rfl, .lst (SqL.of hq), ne, hl, P0, hT, fun v H6 m6 P6 x6 => k v H6 ((hall v m6).keep (.pen P0 x6 P6)) P6 x6⟩
theorem b_lnbent (n : Nat) (hn : n ≤ 10) {f : Addr} {fd : FuncData} (F : Fun K "_law_nbent" "_law_nbent" s_lnbent f fd) (T : Txt mg) (c_ldraw : CalG P w K mg base CX0 1 "_law_draw" spDraw) (c_lpick : CalG P w K mg base CX0 2 "_law_pick" (spPick K)) (c_lnbent : CalG P w K mg base CX0 (2 + n) "_law_nbent" (spBent n)) : FnG P w K mg base CX0 (2 + n + 1) f fd ["_law_pen_here", "_law_thing"] (spBent (n + 1)) := by
  refine okG0 F sc_lnbent (fun vs H Q E h => ?_) (fun cdv A outer s H vs Q E hg hr h => ?_)
  · obtain ⟨p, c, T0, v, B, rfl, _⟩ := h
    rfl
  · have hu := hu_of hr
    have hu64 := hr.units
    obtain ⟨p, c, T0, v, B, rfl, iv, hB, hB2, hpen, hT, k⟩ := h
    obtain ⟨ty, tyx, ⟨bt, kt, ht1, ht0⟩, ⟨bi, ki, i1, i0⟩, _, ⟨bs, ks, s1, s0⟩⟩ := kit_any (K := K) iv
    refine ⟨_, (pss_cons (ps_if (PW.pt (pw_and (pt_val (pe_callB call_isi (by rfl) T.isinstance (by decide +kernel) (pa_cons (pv 1) (pa_cons (pe_bltn (v := .ty "tuple") (by rfl) T.tuple rfl rfl) pa_nil)))) (pw_and (pt_cmpR (op_neNilT hu64) (pv 1) (pe_tup pa_nil) (nomark _)) (pw_and1 (pt_cmpR op_gt (pe_cG c_ldraw hg hr (by omega) pass0 (pa_cons (pv 0) (pa_cons pe_int pa_nil))) pe_int (nomark _)))))) (pss_cons (ps_set (i := 2) sc_lnbent.nd rfl (Or.inl rfl) (pe_cG c_ldraw hg hr (by omega) pass0 (pa_cons (pv 0) (pa_cons (pe_callB call_len (by rfl) T.len (by decide +kernel) (pa_cons (pv 1) pa_nil)) pa_nil))))
      (pss_one (ps_ret (pe_op op_catA (pe_op op_catA (pe_slice sl_tupA (pv 1) po_none (po_some (pv 2))) (pe_tup (pa_cons (pe_cG c_lnbent hg hr (by omega) pass0 (pa_cons (pv 0) (pa_cons (pe_ix ix_tup (pv 1) (pv 2) (fun _ _ => rfl)) pa_nil))) pa_nil))) (pe_slice sl_tupA (pv 1) (po_some (pe_op op_add (pv 2) pe_int)) po_none))))) pss_nil)
      (pss_cons (ps_if (pt_val (pe_callB call_isi (by rfl) T.isinstance (by decide +kernel) (pa_cons (pv 1) (pa_cons (pe_bltn (v := .ty "tuple") (by rfl) T.tuple rfl rfl) pa_nil)))) (pss_one (ps_ret (pe_cG c_lpick hg hr (by omega) pass0 (pa_cons (pv 0) (pa_cons (pe_lst (pa_cons (pe_slice sl_tupA (pv 1) (po_some pe_int) po_none) (pa_cons (pe_op op_catA (pv 1) (pe_slice sl_tupA (pv 1) po_none (po_some pe_int))) (pa_cons (pe_callTy call_list_of (by rfl) T.list (by decide +kernel) (pa_cons (pv 1) pa_nil)) (pa_cons pe_non (pa_cons pe_dnewK pa_nil)))))) pa_nil))))) pss_nil)
      (pss_cons (ps_if (pt_val (pe_callB call_isi (by rfl) T.isinstance (by decide +kernel) (pa_cons (pv 1) (pa_cons (pe_bltn (v := .ty "int") (by rfl) T.int rfl rfl) pa_nil)))) (pss_one (ps_ret (pe_cG c_lpick hg hr (by omega) pass0 (pa_cons (pv 0) (pa_cons (pe_lst (pa_cons (pe_op op_addNB (pv 1) pe_int) (pa_cons (pe_op op_subNB (pv 1) pe_int) (pa_cons (pe_op op_addNB (pv 1) pe_int) (pa_cons (pe_op op_subNB (pv 1) pe_int) (pa_cons (pe_op op_addNB (pv 1) pe_int) (pa_cons (pe_callTy call_bool1 (by rfl) T.bool (by decide +kernel) (pa_cons (pv 1) pa_nil)) (pa_cons (pe_callTy Vk.call_strNB (by rfl) T.str (by decide +kernel) (pa_cons (pv 1) pa_nil)) (pa_cons pe_non pa_nil))))))))) pa_nil))))) pss_nil)
      (pss_cons (ps_if (pt_val (pe_callB call_isi (by rfl) T.isinstance (by decide +kernel) (pa_cons (pv 1) (pa_cons (pe_bltn (v := .ty "str") (by rfl) T.str rfl rfl) pa_nil)))) (pss_one (ps_ret (pe_cG c_lpick hg hr (by omega) pass0 (pa_cons (pv 0) (pa_cons (pe_lst (pa_cons pe_str (pa_cons pe_str (pa_cons (pe_op op_add_str (pv 1) pe_str) (pa_cons pe_str (pa_cons pe_non (pa_cons pe_int (pa_cons (pe_tup pa_nil) pa_nil)))))))) pa_nil))))) pss_nil)
      (pss_one (ps_ret (pe_cG c_lpick hg hr (by omega) pass0 (pa_cons (pv 0) (pa_cons (pe_lst (pa_cons pe_int (pa_cons pe_int (pa_cons (pe_tup pa_nil) pa_nil)))) pa_nil))))))))), ?_⟩
    refine ⟨_, rfl, v, .ty "tuple", ty, .type "tuple", bt, rfl, .ty "tuple", tyx, kt, ?_⟩
    cases bt with
    | false =>
      refine ⟨false, rfl, iteF (iteF ?_)⟩
      refine ⟨_, rfl, v, .ty "tuple", ty, .type "tuple", false, rfl, .ty "tuple", tyx, kt, false, rfl, iteF ?_⟩
      refine ⟨_, rfl, v, .ty "int", ty, .type "int", bi, rfl, .ty "int", tyx, ki, bi, rfl, ?_⟩
      cases bi with
      | true =>
        obtain ⟨i, nv⟩ := i1 rfl
        refine iteT ?_
        have nb : i.natAbs ≤ 1000000 + B := by
          cases nv with
          | int =>
            cases iv with
            | int _ h => exact h (by omega)
          | bl b => cases b <;> (show (_ : Nat) ≤ _; simp [ivB]) <;> omega
        have shw : Showy (.int i) 0 101 := Showy.int (Nat.lt_of_le_of_lt (Nat.le_trans nb (show 1000000 + B ≤ 1003900 by omega)) (by decide +kernel))
        have lg : i.natAbs.log2 < 1920 := of_decide_eq_true shw.sh
        have sl : (Str.ofString (toString i)).length ≤ 101 := shw.ln
        have fin : ∀ (w1 w2 : V), (∀ H', IsV H' (B + 8) n w1) → (∀ H', IsV H' (B + 8) n w2) → ∀ q, H q = none → spPick K [.ref p, .ref q] (upd H q (.lst [.int (i + 1), .int (i - 1), .int (i + 1), .int (i - 1), .int (i + 7), w1, w2, .non])) Q E0 := fun w1 w2 h1 h2 q hq => by
          have sq := same_new (o := .lst [.int (i + 1), .int (i - 1), .int (i + 1), .int (i - 1), .int (i + 7), w1, w2, .non]) hq
          refine pick_end (E := E0) (B := B + 8) (d := n) upd_same (fun z => nomatch z) (Nat.le_of_ble_eq_true rfl) (fun v hv => ?_) (hpen.stay sq) (by omega) fun v' H8 iv' P8 x8 => k v' H8 iv' (P8.mono (by omega)) ((Ext.same sq).trans x8)
          rcases List.mem_cons.mp hv with rfl | hv
          · exact .int _ fun _ => by omega
          rcases List.mem_cons.mp hv with rfl | hv
          · exact .int _ fun _ => by omega
          rcases List.mem_cons.mp hv with rfl | hv
          · exact .int _ fun _ => by omega
          rcases List.mem_cons.mp hv with rfl | hv
          · exact .int _ fun _ => by omega
          rcases List.mem_cons.mp hv with rfl | hv
          · exact .int _ fun _ => by omega
          rcases List.mem_cons.mp hv with rfl | hv
          · exact h1 _
          rcases List.mem_cons.mp hv with rfl | hv
          · exact h2 _
          rcases List.mem_cons.mp hv with rfl | hv
          · exact .non
          · cases hv
        cases nv with
        | int =>
          refine ⟨_, rfl, _, rfl, _, _, .int _, rfl, _, rfl, _, _, .int _, rfl, _, rfl, _, _, .int _, rfl, _, rfl, _, _, .int _, rfl, _, rfl, _, _, .int _, rfl, _, rfl, .inl ⟨_, rfl, ?_⟩⟩
          refine ⟨_, rfl, _, _, rfl, .int _, lg, fun j e => ?_, fun b e => nomatch e⟩
          cases e
          exact ⟨by show 8 ≤ sizeLine; decide, fun q hq => fin _ _ (fun _ => .bl _) (fun _ => .str _ (by omega)) q hq⟩
        | bl b =>
          refine ⟨_, rfl, _, rfl, _, _, .bl _, rfl, _, rfl, _, _, .bl _, rfl, _, rfl, _, _, .bl _, rfl, _, rfl, _, _, .bl _, rfl, _, rfl, _, _, .bl _, rfl, _, rfl, .inr ⟨_, rfl, ?_⟩⟩
          refine ⟨_, rfl, _, _, rfl, .bl _, lg, (by intro j e; cases e), fun b' e => ?_⟩
          cases e
          exact ⟨by show 8 ≤ sizeLine; decide, fun q hq => fin _ _ (fun _ => .bl _) (fun _ => .str _ (by cases b <;> exact Nat.le_trans (Nat.le_of_ble_eq_true (m := 200) rfl) (by omega))) q hq⟩
      | false =>
        refine iteF ?_
        refine ⟨_, rfl, v, .ty "str", ty, .type "str", bs, rfl, .ty "str", tyx, ks, bs, rfl, ?_⟩
        cases bs with
        | true =>
          obtain ⟨z, rfl⟩ := s1 rfl
          have zl : z.length ≤ B := by
            cases iv with
            | str _ h => exact h
          have e39 : 4000 ≤ sizeLine := by decide
          refine iteT ?_
          refine ⟨_, rfl, _, rfl, _, _, rfl, rfl, (show z.length + 1 ≤ sizeLine by omega), ?_⟩
          refine ⟨by show 0 ≤ sizeLine; decide, fun q1 hq1 => ?_⟩
          refine ⟨by show 7 ≤ sizeLine; decide, fun q hq => ?_⟩
          have s1 := same_new (o := .tup []) hq1
          have sq := same_new (o := .lst [.str "far", .str "prices", .str (z ++ "x"), .str "", .non, .int 1, .ref q1]) hq
          refine pick_end (E := E0) (B := B + 8) (d := n) upd_same (fun z => nomatch z) (Nat.le_of_ble_eq_true rfl) (fun v hv => ?_) ((hpen.stay s1).stay sq) (by omega) fun v' H8 iv' P8 x8 => k v' H8 iv' (P8.mono (by omega)) ((Ext.same (s1.trans sq)).trans x8)
          rcases List.mem_cons.mp hv with rfl | hv
          · exact .str _ (show 3 ≤ B + 8 by omega)
          rcases List.mem_cons.mp hv with rfl | hv
          · exact .str _ (show 6 ≤ B + 8 by omega)
          rcases List.mem_cons.mp hv with rfl | hv
          · refine .str _ ?_
            rw [Str.length_append]
            show z.length + 1 ≤ B + 8
            omega
          rcases List.mem_cons.mp hv with rfl | hv
          · exact .str _ (show 0 ≤ B + 8 by omega)
          rcases List.mem_cons.mp hv with rfl | hv
          · exact .non
          rcases List.mem_cons.mp hv with rfl | hv
          · exact .int _ fun _ => (show 1 ≤ 1000000 + (B + 8) by omega)
          rcases List.mem_cons.mp hv with rfl | hv
          · exact .nil (sq _ _ upd_same)
          · cases hv
        | false =>
          refine iteF ?_
          refine nxt_go ⟨_, rfl, by show 0 ≤ sizeLine; decide, fun q1 hq1 => ?_⟩
          refine ⟨by show 3 ≤ sizeLine; decide, fun q hq => ?_⟩
          have s1 := same_new (o := .tup []) hq1
          have sq := same_new (o := .lst [.int 0, .int 1, .ref q1]) hq
          refine pick_end (E := E0) (B := B + 8) (d := n) upd_same (fun z => nomatch z) (Nat.le_of_ble_eq_true rfl) (fun v hv => ?_) ((hpen.stay s1).stay sq) (by omega) fun v' H8 iv' P8 x8 => k v' H8 iv' (P8.mono (by omega)) ((Ext.same (s1.trans sq)).trans x8)
          rcases List.mem_cons.mp hv with rfl | hv
          · exact .int _ fun _ => (show 0 ≤ 1000000 + (B + 8) by omega)
          rcases List.mem_cons.mp hv with rfl | hv
          · exact .int _ fun _ => (show 1 ≤ 1000000 + (B + 8) by omega)
          rcases List.mem_cons.mp hv with rfl | hv
          · exact .nil (sq _ _ upd_same)
          · cases hv
    | true =>
      obtain ⟨xs, t, rfl, ht⟩ := ht1 rfl
      have tv : TupV H (.ref t) xs := ⟨t, rfl, ht⟩
      have xl := iv.len tv
      have e39 : 3900 + 3900 ≤ sizeLine := by decide
      refine ⟨true, rfl, iteT ?_⟩
      refine join (fun H1 => ∃ T1, Pen H1 p c T1 ∧ T1 ≤ T0 + 1 ∧ Ext p H H1) ?_ (fun hy => ?_)
      · rintro H1 ⟨T1, P1, hT1, x1⟩
        have kp := Kp.pen hpen x1 P1
        have h1 := kp.tup _ _ ht
        refine ⟨_, rfl, .ref t, .ty "tuple", .type "tuple", .type "tuple", true, rfl, .ty "tuple", .base (.tup h1), kit_ty (by decide +kernel), true, rfl, iteT ?_⟩
        refine ⟨_, rfl, _, rfl, _, rfl, nop_go ?_⟩
        refine sl_go h1 fun u2 ys2 H2 s2 hu2 l2 m2 _ => ?_
        have h2 := s2 _ _ h1
        refine ⟨_, rfl, _, rfl, nop_go ⟨_, rfl, ?_⟩⟩
        refine sl_go h2 fun u3 ys3 H3 s3 hu3 l3 m3 c3 => ?_
        have h3 := s3 _ _ h2
        refine cat_go h3 hu3 (by omega) fun u4 H4 s4 hu4 => ?_
        have h4 := s4 _ _ h3
        refine ⟨_, rfl, t, xs, rfl, .inr (SqT.of h4), fun q5 hq5 => ?_⟩
        have s5 := same_new (o := .lst xs) hq5
        refine fun d6 hd6 => ?_
        have s6 := same_new (o := .dK []) hd6
        refine ⟨by show 5 ≤ sizeLine; decide, fun q7 hq7 => ?_⟩
        have s7 := same_new (o := .lst [.ref u2, .ref u4, .ref q5, .non, .ref d6]) hq7
        have s17 : Same H1 _ := (((((s2.trans s3).trans s4).trans s5).trans s6).trans s7)
        have k17 : Kp H1 _ := .same s17
        have l3' : ys3.length ≤ 1 := cut_one c3
        refine pick_end (E := E0) (B := B + 8) (d := n) upd_same (fun z => nomatch z) (Nat.le_of_ble_eq_true rfl) (fun v hv => ?_) (P1.stay s17) (by omega) fun v' H8 iv' P8 x8 => k v' H8 iv' (P8.mono (by omega)) ((x1.trans (.same s17)).trans x8)
        have kk := kp.trans k17
        rcases List.mem_cons.mp hv with rfl | hv
        · exact iv.sub ht (((((s3.trans s4).trans s5).trans s6).trans s7) _ _ hu2) kk (by omega) (by omega) m2
        rcases List.mem_cons.mp hv with rfl | hv
        · exact iv.sub ht (((s5.trans s6).trans s7) _ _ hu4) kk (by omega) (by rw [List.length_append]; omega) fun y hy => by
            rcases List.mem_append.mp hy with hy | hy
            · exact hy
            · exact m3 y hy
        rcases List.mem_cons.mp hv with rfl | hv
        · exact .lst ((s6.trans s7) _ _ upd_same)
        rcases List.mem_cons.mp hv with rfl | hv
        · exact .non
        rcases List.mem_cons.mp hv with rfl | hv
        · exact .dct (s7 _ _ upd_same)
        · cases hv
      · refine ⟨_, rfl, by show 0 ≤ sizeLine; decide, fun q hq => ?_⟩
        have sq := same_new (o := .tup []) hq
        refine ⟨t, xs, q, rfl, rfl, SqT.of (sq _ _ ht), SqT.of upd_same, _, rfl, ?_⟩
        cases xs with
        | nil => exact iteF (iteF (hy _ ⟨T0, hpen.stay sq, by omega, .same sq⟩))
        | cons x0 xr =>
          refine iteT ?_
          refine ⟨_, rfl, p, c, 8, T0, rfl, by decide, by decide, hpen.stay sq, by omega, fun d1 H1 d1a d1b P1 x1 => ?_⟩
          have x1 := (Ext.same sq).trans x1
          refine ⟨_, _, rfl, rfl, _, rfl, ?_⟩
          by_cases d0 : 0 < d1
          · rw [decide_eq_true d0]
            refine iteT ?_
            have kp1 := Kp.pen hpen x1 P1
            have h1 := kp1.tup _ _ ht
            refine ⟨_, rfl, _, rfl, _, _, rfl, .inr ⟨_, SqT.of h1, rfl⟩, ?_⟩
            have xl2 : ((x0 :: xr).length : Int) ≤ 3900 := by omega
            have xl3 : 0 < (x0 :: xr).length := Nat.succ_pos _
            generalize hxs : x0 :: xr = xs at *
            refine ⟨p, c, _, T0 + 1, rfl, by omega, by omega, P1, by omega, fun d2 H2 d2a d2b P2 x2 => ?_⟩
            have x12 := x1.trans x2
            have kp2 := Kp.pen hpen x12 P2
            have h2 := kp2.tup _ _ ht
            cases n with
            | zero =>
              cases iv with
              | lst e => rw [e] at ht; cases ht
              | dct e => rw [e] at ht; cases ht
              | nil e => rw [e] at ht; cases ht; cases xl3
            | succ m =>
              have itm := iv.items tv
              refine name_go ⟨_, rfl, nop_go ⟨_, rfl, _, rfl, ?_⟩⟩
              refine sl_go h2 fun u3 ys3 H3 s3 hu3 l3 m3 c3 => ?_
              have h3 := s3 _ _ h2
              obtain ⟨xk, hxk⟩ : ∃ xk, xs[d2.toNat]? = some xk := ⟨xs[d2.toNat]'(by omega), List.getElem?_eq_getElem (by omega)⟩
              have ea : atI xs d2 = some xk := by
                have := atI_nat hxk
                rw [Int.toNat_of_nonneg d2a] at this
                exact this
              have ik := (itm xk (List.mem_of_getElem? hxk)).keep (kp2.trans (.same s3))
              refine ⟨_, rfl, _, rfl, _, rfl, t, _, _, xk, rfl, rfl, SqT.of h3, ea, p, c, T0 + 2, xk, B, rfl, ik, hB, hB2, P2.stay s3, by omega, fun v' H4 iv' P4 x4 => ?_⟩
              have x14 := (x12.trans (.same s3)).trans x4
              have k34 := Kp.pen (P2.stay s3) x4 P4
              have h4 := k34.tup _ _ h3
              have hu4 := k34.tup _ _ hu3
              refine ⟨by show 1 ≤ sizeLine; decide, fun q5 hq5 => ?_⟩
              have s5 := same_new (o := .tup [v']) hq5
              have l3' := cut_til d2a c3
              refine cat_go (s5 _ _ hu4) upd_same (by rw [List.length_singleton]; omega) fun u6 H6 s6 hu6 => ?_
              have h6 := s6 _ _ (s5 _ _ h4)
              refine ⟨_, rfl, _, rfl, _, _, rfl, rfl, _, rfl, nop_go ?_⟩
              refine sl_go h6 fun u7 ys7 H7 s7 hu7 l7 m7 c7 => ?_
              have l7' := cut_behind d2a d2b c7
              refine cat_go (s7 _ _ hu6) hu7 (by rw [List.length_append, List.length_singleton]; omega) fun u8 H8 s8 hu8 => ?_
              have s48 := ((s5.trans s6).trans s7).trans s8
              refine k _ H8 (.tup hu8 (by rw [List.length_append, List.length_append, List.length_singleton]; omega) fun y hy => ?_) ((P4.stay s48).mono (by omega)) (x14.trans (.same s48))
              have k8 : Kp H H8 := .pen hpen (x14.trans (.same s48)) (P4.stay s48)
              rcases List.mem_append.mp hy with hy | hy
              · rcases List.mem_append.mp hy with hy | hy
                · exact ((itm y (m3 y hy)).keep k8).mono (by omega)
                · rw [List.mem_singleton.mp hy]
                  exact iv'.keep (.same s48)
              · exact ((itm y (m7 y hy)).keep k8).mono (by omega)
          · rw [decide_eq_false d0]
            exact iteF (hy _ ⟨T0 + 1, P1, Nat.le_refl _, x1⟩)
end
end Vk
set_option Elab.async false
set_option maxRecDepth 100000
set_option linter.all false
set_option maxHeartbeats 4000000
namespace Vk
open PySem PySem.Spec PyProof.Rows L2
theorem edD_le {A B : Nat → Nat} : ∀ i j, edD A B i j ≤ i + j
  | 0, j => by rw [edD_0]; omega
  | i + 1, 0 => by rw [edD_s0]; omega
  | i + 1, j + 1 => by
    have a := edD_le (A := A) (B := B) (i + 1) j
    rw [edD_ss]
    omega
theorem pair_mapR {α β γ : Type} {R : α → γ → Prop} {f : β → γ} : ∀ {xs : List α} {ys : List β}, Paired (fun a b => R a (f b)) xs ys → Paired R xs (ys.map f)
  | _, _, .nil => .nil
  | _, _, .cons a t => .cons a (pair_mapR t)
def cutR (M : Nat) (x y : Str) (i : Nat) : List Int := (List.range (y.length + 1)).map fun j => ((min (edD (ltr x) (ltr y) i j) M : Nat) : Int)
theorem tabC_rows (M : Nat) (x y : Str) : tabC M x y = (List.range (x.length + 1)).map (cutR M x y) := rfl
theorem rowN_cut {x y : Str} {i : Nat} (h : i ≤ x.length) : rowN x y i (y.length + 1) = (cutR (x.length + y.length) x y i).map V.int := by
  unfold cutR rowN
  rw [List.map_map]
  refine List.map_congr_left fun j hj => ?_
  have := List.mem_range.mp hj
  have := edD_le (A := ltr x) (B := ltr y) i j
  show V.int _ = V.int ((min _ _ : Nat) : Int)
  rw [Nat.min_eq_left (by omega)]
theorem cutR_len {M : Nat} {x y : Str} {i : Nat} : (cutR M x y i).length = y.length + 1 := by unfold cutR; rw [List.length_map, List.length_range]
/-- rows that are tuples of the cut table -/
def RowC (H : Hp) (M : Nat) (x y : Str) : List V → List Nat → Prop := Paired (fun v k => ∃ t, v = V.ref t ∧ H t = some (.tup ((cutR M x y k).map V.int)))
theorem RowC.keep {H H1 : Hp} {M : Nat} {x y : Str} {xs : List V} {ks : List Nat} (h : RowC H M x y xs ks) (s : Same H H1) : RowC H1 M x y xs ks := pair_mono (fun v p ⟨t, e, ht⟩ => ⟨t, e, s _ _ ht⟩) h
theorem RowC.keepT {H H1 : Hp} {M : Nat} {x y : Str} {xs : List V} {ks : List Nat} (h : RowC H M x y xs ks) (s : ∀ u ws, H u = some (.tup ws) → H1 u = some (.tup ws)) : RowC H1 M x y xs ks := pair_mono (fun v p ⟨t, e, ht⟩ => ⟨t, e, s _ _ ht⟩) h
theorem RowC.grid {H : Hp} {M : Nat} {x y : Str} {rows : List V} {g : Addr} (hg : H g = some (.tup rows)) (h : RowC H M x y rows (List.range (x.length + 1))) : GridL H (x.length + 1) (y.length + 1) (.ref g) (tabC M x y) := by
  refine ⟨rows, ⟨g, rfl, hg⟩, ?_, by rw [tabC_rows, List.length_map, List.length_range]⟩
  rw [tabC_rows]
  exact pair_mapR (pair_mono (fun v k ⟨t, e, ht⟩ => ⟨⟨t, e, ht⟩, cutR_len⟩) h)
theorem paired_rng {R S : V → Nat → Prop} {n : Nat} : ∀ {xs : List V} {ks : List Nat}, Paired R xs ks → (∀ k ∈ ks, ∀ v, R v k → S v k) → Paired S xs ks
  | _, _, .nil, _ => .nil
  | _, _, .cons a t, h => .cons (h _ List.mem_cons_self _ a) (paired_rng (n := n) t fun k hk => h k (List.mem_cons_of_mem _ hk))
theorem far_grid {H : Hp} {t : Addr} {x y : Str} (h : FarV H t x y) : ∃ g, H t = some (.tup [.str "far", .ref g]) ∧ GridL H (x.length + 1) (y.length + 1) (.ref g) (tabC (x.length + y.length) x y) := by
  obtain ⟨g, rows, h1, h2, h3⟩ := h
  refine ⟨g, h1, RowC.grid h2 (paired_rng (n := 0) h3 fun k hk v => ?_)⟩
  rintro ⟨t, e, ht⟩
  have := List.mem_range.mp hk
  exact ⟨t, e, by rw [ht, rowN_cut (by omega)]⟩
theorem GridL.isV {H : Hp} {n m B : Nat} {v : V} {L : List (List Int)} (g : GridL H n m v L) (hn : n ≤ B) (hm : m ≤ B) (hL : ∀ r ∈ L, ∀ i ∈ r, i.natAbs ≤ 1000000) : IsV H B 2 v := by
  obtain ⟨rows, ⟨t, rfl, ht⟩, h2, h3⟩ := g
  refine .tup ht (by rw [paired_len h2, h3]; exact hn) fun r hr => ?_
  obtain ⟨c, hc, ⟨u, rfl, hu⟩, hl⟩ := paired_mem h2 hr
  refine .tup hu (by rw [List.length_map, hl]; exact hm) fun e he => ?_
  obtain ⟨i, hi, rfl⟩ := List.mem_map.mp he
  exact .int i fun _ => Nat.le_trans (hL c hc i hi) (by omega)
theorem tabC_small {M : Nat} {x y : Str} (hM : M ≤ 1000000) : ∀ r ∈ tabC M x y, ∀ i ∈ r, i.natAbs ≤ 1000000 := fun r hr i hi => by
  obtain ⟨k, _, rfl⟩ := List.mem_map.mp hr
  obtain ⟨j, _, rfl⟩ := List.mem_map.mp hi
  rw [Int.natAbs_natCast]
  omega
/-- a far paper made of the cut table -/
theorem far_of {H : Hp} {M : Nat} {x y : Str} {t g : Addr} (ht : H t = some (.tup [.str "far", .ref g])) (gr : GridL H (x.length + 1) (y.length + 1) (.ref g) (tabC M x y)) (hM : M ≤ 1000) (hx : x.length ≤ 100) (hy : y.length ≤ 100) : IsV H 200 3 (.ref t) ∧ FarP H x y ((min (edD (ltr x) (ltr y) x.length y.length) M : Nat) : Int) (.ref t) := by
  refine ⟨.tup ht (Nat.le_of_ble_eq_true rfl) fun v hv => ?_, .ref g, _, ⟨t, rfl, ht⟩, gr, tabC_far⟩
  rcases List.mem_cons.mp hv with rfl | hv
  · exact .str _ (Nat.le_of_ble_eq_true rfl)
  rcases List.mem_cons.mp hv with rfl | hv
  · exact gr.isV (by omega) (by omega) (tabC_small (by omega))
  · cases hv
/-! ## what is no far paper -/
def NoFar (H : Hp) (x y : Str) (v : V) : Prop := ∀ tot, ¬ FarP H x y tot v
theorem no_leaf {H : Hp} {x y : Str} {v : V} {B : Nat} (i : IsV H B 1 v) : NoFar H x y v := by
  rintro tot ⟨g, L, h1, h2, _⟩
  have ig := i.items h1 g (by simp)
  obtain ⟨rows, ⟨t, rfl, ht⟩, h3, h4⟩ := h2
  have l := paired_len h3
  cases ig with
  | lst e => rw [e] at ht; cases ht
  | dct e => rw [e] at ht; cases ht
  | nil e =>
    rw [e] at ht; cases ht
    rw [h4] at l
    cases l
theorem no_tup {H : Hp} {x y : Str} {t : Addr} {xs : List V} (ht : H t = some (.tup xs)) (h : ∀ g, xs ≠ [.str "far", g]) : NoFar H x y (.ref t) := by
  rintro tot ⟨g, L, h1, h2, _⟩
  exact h g ((TupV.inj ⟨t, rfl, ht⟩ h1))
theorem no_lst {H : Hp} {x y : Str} {t : Addr} {xs : List V} (ht : H t = some (.lst xs)) : NoFar H x y (.ref t) := by
  rintro tot ⟨g, L, ⟨t2, e, h1⟩, h2, _⟩
  cases e
  rw [ht] at h1
  cases h1
theorem no_grid {H : Hp} {x y : Str} {n m : Nat} {g : V} {L : List (List Int)} (gr : GridL H (n + 1) m g L) : NoFar H x y g := by
  rintro tot ⟨g2, L2, h1, _⟩
  obtain ⟨rows, h2, h3, h4⟩ := gr
  cases h2.inj h1
  cases h3 with
  | cons a _ =>
    obtain ⟨⟨t, e, _⟩, _⟩ := a
    cases e
theorem no_pair {H : Hp} {x y : Str} {t g : Addr} {rows : List V} (ht : H t = some (.tup [.str "far", .ref g])) (hg : H g = some (.tup rows)) (h : ∀ L, Paired (RowI H (y.length + 1)) rows L → L.length ≠ x.length + 1) : NoFar H x y (.ref t) := by
  rintro tot ⟨g2, L, h1, h2, _⟩
  have e := TupV.inj ⟨t, rfl, ht⟩ h1
  obtain ⟨rows2, h3, h4, h5⟩ := h2
  cases e
  cases h3.inj ⟨g, rfl, hg⟩
  exact h L h4 h5
theorem NoFar.keep {H H1 : Hp} {x y : Str} {v : V} {B : Nat} (i : IsV H B 3 v) (h : NoFar H x y v) (k : Kp H H1) : NoFar H1 x y v := fun tot f => h tot (f.back i k)
end Vk
set_option Elab.async false
set_option maxRecDepth 100000
set_option linter.all false
set_option maxHeartbeats 4000000
namespace Vk
open PySem PySem.Spec PyProof.Rows L2
theorem pi_listK {X : Cx} {K : PySem.W.Frag} {tg l : Expr} {tl : TE} (h : X.K = K) (hl : PE X l tl) : PI X tg l (iList K tl) := h ▸ pi_list hl
section
variable {P : Program} {w : World} {K : PySem.W.Frag} {mg : Str → Option Value} {base : Heap}
def spLaw (K : PySem.W.Frag) : Sp := fun vs H Q _ => ∃ (a : Addr) (ns : List Int), vs = [.ref a] ∧ SqL K H a (ns.map V.int) ∧ ns.length ≤ 63 ∧ ∀ H', Q (.bl true) H'
abbrev s_law : Stmt := top 26
theorem sc_law : FnScope ["_law_script", "_law_pen_here", "_law_turn", "_law_signs_here", "_law_here", "_law_away", "_law_few_here", "_law_told", "_law_less", "_law_own", "_law_item", "_law_row", "_law_thing", "_law_again", "_law_total", "_law_due"] ["_law_script"] (defScope s_law) := ⟨rfl, rfl, rfl, by decide +kernel, rfl, by decide +kernel, by decide +kernel⟩
theorem b_law {f : Addr} {fd : FuncData} (F : Fun K "law" "law" s_law f fd) (T : Txt mg) (c_lpen : CalG P w K mg base CX0 1 "_law_pen" (spPen K)) (c_lfew : CalG P w K mg base CX0 3 "_law_few" spFew) (c_ldraw : CalG P w K mg base CX0 1 "_law_draw" spDraw) (c_lpick : CalG P w K mg base CX0 2 "_law_pick" (spPick K)) (c_lntext : CalG P w K mg base CX0 4 "_law_ntext" spNtext) (c_lany_value : CalG P w K mg base CX0 3 "_law_any_value" spAny) (c_lnrows : CalG P w K mg base CX0 1 "_law_nrows" spRows) (c_lnapart : CalG P w K mg base CX0 2 "_law_napart" spApart) (c_lnbent : CalG P w K mg base CX0 6 "_law_nbent" (spBent 4)) (c_lnis_far : CalG P w K mg base CX0 2 "_law_nis_far" spIsFarG)
    (c_distance : CalG P w K mg base CX0 3 "distance" spDist) (k_far_paper : CalK P w K mg base CX0 1 "far_paper" spFar ["other", "one"] List.reverse) (c_is_far_paper : CalG P w K mg base CX0 3 "is_far_paper" spIsFarG) (k_is_far_paper : CalK P w K mg base CX0 3 "is_far_paper" spIsFarG ["value", "number", "other", "one"] List.reverse) : FnG P w K mg base CX0 7 f fd ["_law_script"] (spLaw K) := by
  refine okG0 F sc_law (fun vs H Q E h => ?_) (fun cdv A outer s H vs Q E hg hr h => ?_)
  · obtain ⟨a, ns, rfl, _⟩ := h
    rfl
  · have hu := hu_of hr
    have hu64 := hr.units
    obtain ⟨a, ns, rfl, hS, hlen, k⟩ := h
    refine ⟨_, (pss_cons (ps_set (i := 1) sc_law.nd rfl (Or.inl rfl) (pe_cG c_lpen hg hr (by decide) pass0 (pa_cons (pv 0) pa_nil)))
      (pss_cons (ps_for PassesOwn.never rfl (pi_range1 rfl T.range (pa_cons (pe_op op_add pe_int (pe_callB (call_min2 rfl) (by rfl) T.min (by decide +kernel) (pa_cons pe_int (pa_cons (pe_callB call_len (by rfl) T.len (by decide +kernel) (pa_cons (pv 0) pa_nil)) pa_nil)))) pa_nil)) (pg_name (i := 2) sc_law.nd rfl (Or.inl rfl)) (pss_cons (ps_set (i := 3) sc_law.nd rfl (Or.inl rfl) (pe_cG c_lfew hg hr (by decide) pass0 (pa_cons (pv 1) pa_nil)))
      (pss_cons (ps_par (i := 4) (j := 5) (by rfl) sc_law.nd rfl rfl (by decide) rfl rfl (pa_cons (pe_cG c_lntext hg hr (by decide) pass0 (pa_cons (pv 1) (pa_cons (pv 3) (pa_cons pe_int pa_nil)))) (pa_cons (pe_cG c_lntext hg hr (by decide) pass0 (pa_cons (pv 1) (pa_cons (pv 3) (pa_cons pe_int pa_nil)))) pa_nil)) (by rfl))
      (pss_cons (ps_asg (pe_tup (pa_cons (pe_cG c_lnapart hg hr (by decide) pass0 (pa_cons (pv 4) (pa_cons (pv 5) pa_nil))) (pa_cons (pe_kw k_far_paper hg hr (by decide) pass0 (pk_cons (pv 5) (pk_cons (pv 4) pk_nil))) pa_nil))) (pg_tup rfl (pgs_cons (pg_name (i := 6) sc_law.nd rfl (Or.inr rfl)) (pgs_cons (pg_name (i := 7) sc_law.nd rfl (Or.inl rfl)) pgs_nil))))
      (pss_cons (ps_if (PW.pt (pw_or (pt_not (pt_val (pe_cG c_lnis_far hg hr (by decide) pass0 (pa_cons (pv 4) (pa_cons (pv 5) (pa_cons (pv 6) (pa_cons (pv 7) pa_nil))))))) (pw_or1 (pt_cmpR op_notBl (pe_cG c_is_far_paper hg hr (by decide) pass0 (pa_cons (pv 4) (pa_cons (pv 5) (pa_cons (pv 6) (pa_cons (pv 7) pa_nil))))) pe_bl (nomark _))))) (pss_one (ps_ret pe_bl)) pss_nil)
      (pss_cons (ps_set (i := 8) sc_law.nd rfl (Or.inr rfl) (pe_cG c_ldraw hg hr (by decide) pass0 (pa_cons (pv 1) (pa_cons pe_int pa_nil))))
      (pss_cons (ps_set (i := 9) sc_law.nd rfl (Or.inl rfl) (pe_tup (pa_cons pe_str (pa_cons (pe_callTy call_tuple_of (by rfl) T.tuple (by decide +kernel) (pa_cons (pe_lc (own := [("_law_row", 11)]) (g := gName 11) (tt := tYes) rfl sc_law.nd (pi_list (pe_cG c_lnrows hg hr (by decide) pass0 (pa_cons (pv 4) (pa_cons (pv 5) pa_nil)))) (blkOk_by (own := [("_law_row", 11)]) (N := ["_law_script", "_law_pen_here", "_law_turn", "_law_signs_here", "_law_here", "_law_away", "_law_few_here", "_law_told", "_law_less", "_law_own", "_law_item", "_law_row", "_law_thing", "_law_again", "_law_total", "_law_due"]) (sc := defScope s_law) (by decide +kernel)) (fun _ _ _ _ _ => (pg_name (i := 11) sc_law.nd rfl (Or.inl rfl))) (fun _ _ _ _ _ => pts_nil) (fun _ _ _ _ _ => (pe_callTy (call_tuple_ofK (K := K) rfl) (by rfl) T.tuple (by decide +kernel) (pa_cons (pe_lc (own := [("_law_item", 10)]) (g := gName 10) (tt := tYes) rfl sc_law.nd (pi_listK (K := K) rfl (pv 11)) (blkOk_by (own := [("_law_item", 10)]) (N := ["_law_script", "_law_pen_here", "_law_turn", "_law_signs_here", "_law_here", "_law_away", "_law_few_here", "_law_told", "_law_less", "_law_own", "_law_item", "_law_row", "_law_thing", "_law_again", "_law_total", "_law_due"]) (sc := relabel { kind := ScopeKind.function, names := [(".0", NameKind.local), ("_law_row", NameKind.local), ("tuple", NameKind.globalImplicit), ("_law_few_here", NameKind.free), ("_law_less", NameKind.free)], isGenerator := false, isCoroutine := false } (envOfC "law" (defScope s_law) 0 0 .none)) (by decide +kernel)) (fun _ _ _ _ _ => (pg_name (i := 10) sc_law.nd rfl (Or.inl rfl))) (fun _ _ _ _ _ => pts_nil) (fun _ _ _ _ _ => (pe_callB (call_min2 rfl) (by rfl) T.min (by decide +kernel) (pa_cons (pv 10) (pa_cons (pe_callB (call_max2 rfl) (by rfl) T.max (by decide +kernel) (pa_cons pe_int (pa_cons (pe_op op_sub (pv 6) (pv 8)) pa_nil))) pa_nil))))) pa_nil)))) pa_nil)) pa_nil))))
      (pss_cons (ps_if (pt_cmpR op_notBl (pe_kw k_is_far_paper hg hr (by decide) pass0 (pk_cons (pv 9) (pk_cons (pe_callB (call_max2 rfl) (by rfl) T.max (by decide +kernel) (pa_cons pe_int (pa_cons (pe_op op_sub (pv 6) (pv 8)) pa_nil))) (pk_cons (pv 5) (pk_cons (pv 4) pk_nil))))) pe_bl (nomark _)) (pss_one (ps_ret pe_bl)) pss_nil)
      (pss_cons (ps_set (i := 12) sc_law.nd rfl (Or.inl rfl) (pv 7))
      (pss_cons (ps_for PassesOwn.never rfl (pi_range1 rfl T.range (pa_cons pe_int pa_nil)) (pg_name (i := 13) sc_law.nd rfl (Or.inl rfl)) (pss_cons (ps_set (i := 12) sc_law.nd rfl (Or.inl rfl) (pe_cG c_lnbent hg hr (by decide) pass0 (pa_cons (pv 1) (pa_cons (pe_cG c_lpick hg hr (by decide) pass0 (pa_cons (pv 1) (pa_cons (pe_lst (pa_cons (pv 7) (pa_cons (pv 7) (pa_cons (pv 9) (pa_cons (pv 12) pa_nil))))) pa_nil))) pa_nil))))
      (pss_cons (ps_if (pt_not (pt_val (pe_callB call_isi (by rfl) T.isinstance (by decide +kernel) (pa_cons (pv 12) (pa_cons (pe_bltn (v := .ty "tuple") (by rfl) T.tuple rfl rfl) pa_nil))))) (pss_one (ps_set (i := 12) sc_law.nd rfl (Or.inl rfl) (pv 7))) pss_nil)
      (pss_cons (ps_set (i := 14) sc_law.nd rfl (Or.inl rfl) (pe_cG c_lpick hg hr (by decide) pass0 (pa_cons (pv 1) (pa_cons (pe_lst (pa_cons (pv 6) (pa_cons (pv 6) (pa_cons (pe_op op_add (pv 6) pe_int) (pa_cons (pe_callB (call_max2 rfl) (by rfl) T.max (by decide +kernel) (pa_cons pe_int (pa_cons (pe_op op_sub (pv 6) (pv 8)) pa_nil))) (pa_cons (pe_op op_add (pe_cG c_distance hg hr (by decide) pass0 (pa_cons (pv 4) (pa_cons (pv 5) pa_nil))) pe_int) pa_nil)))))) pa_nil))))
      (pss_cons (ps_set (i := 15) sc_law.nd rfl (Or.inl rfl) (pe_cG c_lnis_far hg hr (by decide) pass0 (pa_cons (pv 4) (pa_cons (pv 5) (pa_cons (pv 14) (pa_cons (pv 12) pa_nil))))))
      (pss_one (ps_if (PW.pt (pw_or (pt_cmpR op_ne (pe_callB (Vk.call_reprD hg hu64) (by rfl) T.repr (by decide +kernel) (pa_cons (pe_cG c_is_far_paper hg hr (by decide) pass0 (pa_cons (pv 4) (pa_cons (pv 5) (pa_cons (pv 14) (pa_cons (pv 12) pa_nil))))) pa_nil)) (pe_callB (Vk.call_reprD hg hu64) (by rfl) T.repr (by decide +kernel) (pa_cons (pv 15) pa_nil)) (nomark _)) (pw_or1 (PW.pt (pw_and (pt_val (pv 15)) (pw_and1 (pt_cmpR op_gt (pv 14) (pv 6) (nomark _)))))))) (pss_one (ps_ret pe_bl)) pss_nil)))))))
      (pss_one (ps_for PassesOwn.never rfl (pi_list (pe_lst (pa_cons (pe_cG c_lany_value hg hr (by decide) pass0 (pa_cons (pv 1) pa_nil)) (pa_cons (pe_ix ix_tup (pv 7) pe_int (fun _ _ => rfl)) (pa_cons (pe_tup (pa_cons pe_str pa_nil)) (pa_cons (pe_tup (pa_cons pe_str (pa_cons (pe_tup pa_nil) pa_nil))) (pa_cons (pe_tup (pa_cons pe_str (pa_cons (pe_tup (pa_cons (pe_tup pa_nil) pa_nil)) pa_nil))) (pa_cons (pe_tup (pa_cons pe_str (pa_cons (pe_ix ix_tup (pv 7) pe_int (fun _ _ => rfl)) (pa_cons pe_int pa_nil)))) (pa_cons (pe_lst (pa_cons (pv 7) pa_nil)) pa_nil))))))))) (pg_name (i := 12) sc_law.nd rfl (Or.inl rfl)) (pss_one (ps_if (pt_cmpR op_notBl (pe_cG c_is_far_paper hg hr (by decide) pass0 (pa_cons (pv 4) (pa_cons (pv 5) (pa_cons (pv 6) (pa_cons (pv 12) pa_nil))))) pe_bl (nomark _)) (pss_one (ps_ret pe_bl)) pss_nil))))))))))))))
      (pss_one (ps_ret pe_bl)))), ?_⟩
    refine ⟨_, rfl, a, ns, rfl, hS, fun p pc H1 hp0 Pn0 s1 => ?_⟩
    refine ⟨_, rfl, _, _, rfl, .inl ⟨_, s1.seq hS, rfl⟩, _, _, rfl, _, _, rfl, rfl, _, rfl, ?_, ?_, ?_⟩
    · split <;> omega
    · split <;> omega
    refine for_range (lo := 0) (fun i σ H' => ∃ o2 o3 o4 o5 o6 o7 o8 o9 o10 o11 o12 o13 o14 o15 : Option V, σ = [some (.ref a), some (.ref p), o2, o3, o4, o5, o6, o7, o8, o9, o10, o11, o12, o13, o14, o15] ∧ Pen H' p pc (5000 * i)) ?_ ?_ ?_
    · exact ⟨_, _, _, _, _, _, _, _, _, _, _, _, _, _, rfl, Pn0⟩
    · rintro i σ H2 hi ⟨o2, o3, o4, o5, o6, o7, o8, o9, o10, o11, o12, o13, o14, o15, rfl, P2⟩
      have hi8 : i ≤ 20 := by
        have : i < 21 := by
          revert hi
          split <;> omega
        omega
      refine ⟨_, rfl, p, pc, 5000 * i, rfl, P2, by omega, fun sg H3 fz P3 x3 => ?_⟩
      refine name_go ⟨_, rfl, _, rfl, p, pc, sg, 6, _, rfl, fz, by decide, P3, by omega, fun x H4 xl xt P4 x4 => ?_⟩
      refine ⟨_, rfl, _, rfl, p, pc, sg, 6, _, rfl, fz, by decide, P4, by omega, fun y H5 yl yt P5 x5 => ?_⟩
      refine ⟨_, _, rfl, ?_⟩
      refine name_go ⟨_, rfl, _, rfl, x, y, rfl, by omega, by omega, fun H6 s6 => ?_⟩
      refine ⟨_, rfl, _, rfl, rfl, x, y, rfl, by omega, by omega, fun tt H7 fv s7 => ?_⟩
      refine ⟨by show 2 ≤ sizeLine; decide, fun q8 hq8 => ⟨q8, _, rfl, SqT.of upd_same, rfl, _, _, rfl, _, _, rfl, rfl, ?_⟩⟩
      have s8 := same_new (o := .tup [.int (edD (ltr x) (ltr y) x.length y.length : Nat), .ref tt]) hq8
      obtain ⟨g, htt, gr⟩ := far_grid fv
      have htt := s8 _ _ htt
      have gr := gr.keep (.same s8)
      have P8 := P5.stay ((s6.trans s7).trans s8)
      have bnd := edD_le (A := ltr x) (B := ltr y) x.length y.length
      obtain ⟨iv1, fp1⟩ := far_of htt gr (by omega) (by omega) (by omega)
      rw [Nat.min_eq_left bnd] at fp1
      generalize upd H7 q8 (.tup [.int (edD (ltr x) (ltr y) x.length y.length : Nat), .ref tt]) = H8 at htt gr P8 iv1 fp1 ⊢
      generalize hfew : edD (ltr x) (ltr y) x.length y.length = few at bnd fp1 ⊢
      refine name_go ⟨_, rfl, _, rfl, _, rfl, _, rfl, x, y, (few : Nat), .ref tt, 200, rfl, iv1, by decide, by omega, by omega, fun b9 H9 s9 hb9 => ?_⟩
      have b9t : b9 = true := hb9.mpr fp1
      subst b9t
      refine ⟨true, rfl, iteF ?_⟩
      refine ⟨_, rfl, _, rfl, _, rfl, _, rfl, x, y, (few : Nat), .ref tt, 200, rfl, iv1.keep (.same s9), by decide, by omega, by omega, fun b10 H10 s10 hb10 => ?_⟩
      have b10t : b10 = true := hb10.mpr (fp1.keep (.same s9))
      subst b10t
      have s810 := s9.trans s10
      have P10 := P8.stay s810
      have htt := s810 _ _ htt
      have gr := gr.keep (.same s810)
      have iv1 := iv1.keep (.same s810)
      have fp1 := fp1.keep (.same s810)
      refine ⟨_, _, rfl, rfl, _, rfl, iteF ?_⟩
      refine ⟨_, rfl, p, pc, 4, _, rfl, by decide, by decide, P10, by omega, fun ls H11 ls0 ls1 P11 x11 => ?_⟩
      obtain ⟨lz, rfl⟩ : ∃ n : Nat, ls = (n : Nat) := ⟨ls.toNat, by omega⟩
      have kp11 := Kp.pen P10 x11 P11
      have htt := kp11.tup _ _ htt
      have gr := gr.keep kp11
      have iv1 := iv1.keep kp11
      have fp1 := fp1.keep kp11
      obtain ⟨M, hM⟩ : ∃ M, M = few - lz := ⟨_, rfl⟩
      have cutM : (if ((few : Nat) : Int) - ((lz : Nat) : Int) > 0 then ((few : Nat) : Int) - ((lz : Nat) : Int) else 0) = ((M : Nat) : Int) := by split <;> omega
      refine name_go ⟨_, rfl, _, rfl, x, y, rfl, by omega, by omega, fun ar refs H12 ha12 hr12 rl12 s12 => ?_⟩
      have gl := paired_len rl12
      rw [List.length_range] at gl
      refine ⟨ar, rfl, ⟨_, SqL.of hr12⟩, fun D hD => ?_⟩
      have sD := same_new (o := .lst []) hD
      refine lc_list (K := K) (a := ar) (xs := refs) (fun i H' => ∃ got, H' D = some (.lst got) ∧ RowC H' M x y got (List.range i) ∧ Same H12 H') ?_ ?_ ?_ ?_
      · exact ⟨[], upd_same, .nil, sD⟩
      · rintro i H' _ ⟨got, _, _, s3⟩
        exact SqL.of (s3 _ _ hr12)
      · rintro i2 v H13 hv ⟨got, hD13, rc13, s13⟩
        obtain ⟨i', hi', t, rfl, ht⟩ := paired_at rl12 hv
        have li := (List.getElem?_eq_some_iff.mp hv).1
        have ei : i' = i2 := by
          rw [List.getElem?_range (by omega)] at hi'
          exact (Option.some.inj hi').symm
        subst ei
        have g3 := paired_len rc13
        rw [List.length_range] at g3
        refine ⟨rfl, _, rfl, t, rfl, ⟨_, SqL.of (s13 _ _ ht)⟩, fun D2 hD2 => ?_⟩
        have sD2 := same_new (o := .lst []) hD2
        refine lc_list (K := K) (a := t) (xs := rowN x y i' (y.length + 1)) (fun j H' => H' D2 = some (.lst ((List.range j).map fun k => V.int ((min (edD (ltr x) (ltr y) i' k) M : Nat) : Int))) ∧ Same H13 H') ?_ ?_ ?_ ?_
        · exact ⟨upd_same, sD2⟩
        · rintro j H' _ ⟨_, s4⟩
          exact SqL.of (s4 _ _ (s13 _ _ ht))
        · rintro j v H14 hv2 ⟨hD14, s14⟩
          have lj := (List.getElem?_eq_some_iff.mp hv2).1
          rw [rowN_len] at lj
          rw [rowN_at lj] at hv2
          cases hv2
          refine ⟨rfl, _, rfl, _, rfl, _, rfl, _, _, rfl, rfl, _, _, rfl, ?_⟩
          rw [cutM]
          have e : (if ((M : Nat) : Int) < ((edD (ltr x) (ltr y) i' j : Nat) : Int) then ((M : Nat) : Int) else ((edD (ltr x) (ltr y) i' j : Nat) : Int)) = ((min (edD (ltr x) (ltr y) i' j) M : Nat) : Int) := by split <;> omega
          refine ⟨_, _, rfl, ?_⟩
          rw [e]
          refine ⟨_, hD14, fewL (by rw [List.length_map, List.length_range]; omega), ?_, upd_out hD2 s14⟩
          rw [upd_same, List.range_succ, List.map_append]
          rfl
        · rintro H14 ⟨hD14, s14⟩
          rw [rowN_len] at hD14
          have ec : ((List.range (y.length + 1)).map fun k => V.int ((min (edD (ltr x) (ltr y) i' k) M : Nat) : Int)) = (cutR M x y i').map V.int := by
            unfold cutR
            rw [List.map_map]
            rfl
          rw [ec] at hD14
          refine ⟨D2, _, rfl, .inl ⟨SqL.of hD14, fun u hu => ?_⟩⟩
          have su := same_new (o := .tup ((cutR M x y i').map V.int)) hu
          have hDu := su _ _ (s14 _ _ hD13)
          refine ⟨_, hDu, fewL (by omega), got ++ [.ref u], upd_same, ?_, upd_out hD ((s13.trans s14).trans su)⟩
          rw [List.range_succ]
          exact Paired.snoc ((rc13.keep (s14.trans su)).keepT (upd_list hDu)) ⟨u, rfl, upd_list hDu _ _ upd_same⟩
      · rintro H13 ⟨got, hD13, rc13, s13⟩
        rw [gl] at rc13
        refine ⟨D, _, rfl, .inl ⟨SqL.of hD13, fun g2 hg2 => ?_⟩⟩
        have sg2 := same_new (o := .tup got) hg2
        refine ⟨by show 2 ≤ sizeLine; decide, fun t2 ht2 => ?_⟩
        have st2 := same_new (o := .tup [.str "far", .ref g2]) ht2
        have s1115 := ((s12.trans s13).trans sg2).trans st2
        have gr2 := RowC.grid (st2 _ _ upd_same) ((rc13.keep sg2).keep st2)
        obtain ⟨iv2, fp2⟩ := far_of upd_same gr2 (by omega) (by omega) (by omega)
        have htt := s1115 _ _ htt
        have gr := gr.keep (.same s1115)
        have iv1 := iv1.keep (.same s1115)
        have fp1 := fp1.keep (.same s1115)
        have P15 := P11.stay s1115
        rw [hfew, show min few M = M by omega] at fp2
        have h2t : (upd (upd H13 g2 (.tup got)) t2 (.tup [.str "far", .ref g2])) t2 = some (.tup [.str "far", .ref g2]) := upd_same
        generalize upd (upd H13 g2 (.tup got)) t2 (.tup [.str "far", .ref g2]) = H15 at htt gr iv1 fp1 P15 gr2 iv2 fp2 h2t ⊢
        refine name_go ⟨_, rfl, _, rfl, _, rfl, _, _, rfl, rfl, _, _, rfl, _, rfl, _, rfl, rfl, x, y, _, .ref t2, 200, rfl, iv2, by decide, by omega, by omega, fun b16 H16 s16 hb16 => ?_⟩
        rw [cutM] at hb16
        have b16t : b16 = true := hb16.mpr fp2
        subst b16t
        refine ⟨_, _, rfl, rfl, _, rfl, iteF ?_⟩
        have htt := s16 _ _ htt
        have gr := gr.keep (.same s16)
        have iv1 := iv1.keep (.same s16)
        have iv2 := iv2.keep (.same s16)
        have P16 := P15.stay s16
        refine name_go ⟨_, rfl, ?_⟩
        refine name_go ⟨10, rfl, by decide, by decide, ?_⟩
        refine for_range (lo := 0) (n := (10 : Int).toNat) (fun r σ H' => ∃ (o13 o14 o15 : Option V) (th : V), σ = [some (.ref a), some (.ref p), some (.int (0 + (i : Int))), some (.str sg), some (.str x), some (.str y), some (.int (few : Nat)), some (.ref tt), some (.int (lz : Nat)), some (.ref t2), o10, o11, some th, o13, o14, o15] ∧ IsV H' (200 + 8 * r) 3 th ∧ Kp H16 H' ∧ Pen H' p pc (5000 * i + 300 + 100 * r)) ?_ ?_ ?_
        · exact ⟨_, _, _, _, rfl, iv1, Kp.rfl, P16.mono (by omega)⟩
        · rintro r σ H17 hr10 ⟨o13, o14, o15, th, rfl, ivt, kp17, P17⟩
          have r10 : r < 10 := hr10
          refine name_go ⟨_, rfl, _, rfl, _, rfl, _, rfl, _, rfl, _, rfl, by show 4 ≤ sizeLine; decide, fun q hq => ?_⟩
          have sq := same_new (o := .lst [.ref tt, .ref tt, .ref t2, th]) hq
          have kq := kp17.trans (.same sq)
          refine pick_end (E := E0) (B := 200 + 8 * r) (d := 3) upd_same (fun z => nomatch z) (Nat.le_of_ble_eq_true rfl) (fun v hv => ?_) (P17.stay sq) (by omega) fun v1 H18 iv18 P18 x18 => ?_
          · rcases List.mem_cons.mp hv with rfl | hv
            · exact (iv1.keep kq).mono (by omega)
            rcases List.mem_cons.mp hv with rfl | hv
            · exact (iv1.keep kq).mono (by omega)
            rcases List.mem_cons.mp hv with rfl | hv
            · exact (iv2.keep kq).mono (by omega)
            rcases List.mem_cons.mp hv with rfl | hv
            · exact ivt.keep (.same sq)
            · cases hv
          have k18 := kq.trans (Kp.pen (P17.stay sq) x18 P18)
          refine ⟨p, pc, _, v1, 200 + 8 * r, rfl, iv18, by omega, by omega, P18, (by show _ + 2 * 3 + 10 < _; omega), fun v2 H19 iv19 P19 x19 => ?_⟩
          have k19 := k18.trans (Kp.pen P18 x19 P19)
          have e8 : 200 + 8 * r + 8 = 200 + 8 * (r + 1) := by omega
          rw [e8] at iv19
          replace P19 : Pen H19 p pc (5000 * i + 300 + 100 * r + 1 + 2 * 3 + 2) := P19
          refine name_go ?_
          dsimp only
          refine seq_mid (fun σ H' => ∃ (th : V), σ = [some (.ref a), some (.ref p), some (.int (0 + (i : Int))), some (.str sg), some (.str x), some (.str y), some (.int (few : Nat)), some (.ref tt), some (.int (lz : Nat)), some (.ref t2), o10, o11, some th, some (.int (0 + (r : Int))), o14, o15] ∧ IsV H' (200 + 8 * (r + 1)) 3 th ∧ Kp H16 H' ∧ Pen H' p pc (5000 * i + 320 + 100 * r)) (fun D' hD' => ?_) (fun σ H20 hm => ?_)
          · obtain ⟨ty, tyx, ⟨bt, kt, _, _⟩, _⟩ := kit_any (K := K) iv19
            refine ⟨_, rfl, v2, .ty "tuple", ty, .type "tuple", bt, rfl, .ty "tuple", tyx, kt, bt, rfl, ?_⟩
            cases bt with
            | false => exact iteT ⟨_, rfl, hD' _ _ ⟨_, rfl, (iv1.keep k19).mono (by omega), k19, P19.mono (by omega)⟩⟩
            | true => exact iteF (hD' _ _ ⟨_, rfl, iv19, k19, P19.mono (by omega)⟩)
          obtain ⟨th, rfl, iv20, k20, P20⟩ := hm
          refine ⟨_, rfl, _, rfl, _, rfl, _, rfl, _, _, rfl, rfl, _, rfl, _, rfl, _, _, rfl, rfl, _, _, rfl, _, rfl, _, rfl, x, y, rfl, by omega, by omega, fun H21 s21 => ⟨_, _, rfl, rfl, by show 5 ≤ sizeLine; decide, fun q2 hq2 => ?_⟩⟩
          have sq2 := same_new (o := .lst [.int (few : Nat), .int (few : Nat), .int ((few : Nat) + 1), .int (if ((few : Nat) : Int) - ((lz : Nat) : Int) > 0 then ((few : Nat) : Int) - ((lz : Nat) : Int) else 0), .int ((dst (ll x) (ll y) : Nat) + 1)]) hq2
          have P22 := P20.stay (s21.trans sq2)
          refine ⟨p, pc, .ref q2, _, _, rfl, .lst (SqL.of upd_same), (fun z => nomatch z), Nat.le_of_ble_eq_true rfl, P22, by omega, fun v H23 m23 P23 x23 => ?_⟩
          obtain ⟨tot, rfl⟩ : ∃ tot, v = .int tot := by
            rcases List.mem_cons.mp m23 with rfl | m23
            · exact ⟨_, rfl⟩
            rcases List.mem_cons.mp m23 with rfl | m23
            · exact ⟨_, rfl⟩
            rcases List.mem_cons.mp m23 with rfl | m23
            · exact ⟨_, rfl⟩
            rcases List.mem_cons.mp m23 with rfl | m23
            · exact ⟨_, rfl⟩
            rcases List.mem_cons.mp m23 with rfl | m23
            · exact ⟨_, rfl⟩
            · cases m23
          have k23 : Kp H20 H23 := (Kp.same (s21.trans sq2)).trans (Kp.pen P22 x23 P23)
          have iv23 := iv20.keep k23
          have k23 := k20.trans k23
          refine name_go ⟨_, rfl, _, rfl, _, rfl, _, rfl, x, y, tot, th, _, rfl, iv23, by omega, by omega, by omega, fun bd H24 s24 hbd => ?_⟩
          refine name_go ⟨_, rfl, _, rfl, _, rfl, _, rfl, x, y, tot, th, _, rfl, iv23.keep (.same s24), by omega, by omega, by omega, fun be H25 s25 hbe => ?_⟩
          have eb : be = bd := by
            rw [Bool.eq_iff_iff, hbe, hbd]
            exact ⟨fun h => h.back iv23 (.same s24), fun h => h.keep (.same s24)⟩
          subst eb
          refine ⟨_, .bool be, rfl, .bl be, rfl, rfl, Nat.zero_le _, by cases be <;> decide, _, rfl, _, .bool be, rfl, .bl be, rfl, rfl, Nat.zero_le _, by cases be <;> decide, rfl, _, rfl, ?_⟩
          rw [decide_eq_true rfl]
          refine iteF ⟨_, rfl, be, rfl, ?_⟩
          have fin : ∃ (o13 o14 o15 : Option V) (th' : V), [some (.ref a), some (.ref p), some (.int (0 + (i : Int))), some (.str sg), some (.str x), some (.str y), some (.int (few : Nat)), some (.ref tt), some (.int (lz : Nat)), some (.ref t2), o10, o11, some th, some (.int (0 + (r : Int))), some (.int tot), some (.bl be)] = [some (.ref a), some (.ref p), some (.int (0 + (i : Int))), some (.str sg), some (.str x), some (.str y), some (.int (few : Nat)), some (.ref tt), some (.int (lz : Nat)), some (.ref t2), o10, o11, some th', o13, o14, o15] ∧ IsV H25 (200 + 8 * (r + 1)) 3 th' ∧ Kp H16 H25 ∧ Pen H25 p pc (5000 * i + 300 + 100 * (r + 1)) := ⟨_, _, _, _, rfl, iv23.keep (.same (s24.trans s25)), k23.trans (.same (s24.trans s25)), (P23.stay (s24.trans s25)).mono (by omega)⟩
          cases be with
          | false => exact iteF (iteF fin)
          | true =>
            refine iteT ⟨_, rfl, _, rfl, _, _, rfl, rfl, _, rfl, ?_⟩
            obtain ⟨_, L, _, _, fl⟩ := hbd.mp rfl
            have le := far_le fl
            rw [hfew] at le
            rw [show decide (((few : Nat) : Int) < tot) = false from decide_eq_false (by omega)]
            exact iteF fin
        · rintro σ H17 ⟨o13, o14, o15, th, rfl, ivt, kp17, P17⟩
          have htt17 := kp17.tup _ _ htt
          have gr17 := gr.keep kp17
          have iv17 := iv1.keep kp17
          have at1' : atI [V.str "far", V.ref g] (1 : Int) = some (.ref g) := atI_nat (j := 1) rfl
          refine ⟨_, rfl, p, pc, _, rfl, P17, by omega, fun v0 d0 H20 th0 ok0 _ P20 x20 => ?_⟩
          have k20 := Kp.pen P17 x20 P20
          have htt20 := k20.tup _ _ htt17
          refine ⟨_, rfl, tt, _, _, _, rfl, rfl, SqT.of htt20, at1', ?_⟩
          refine ⟨by show 1 ≤ sizeLine; decide, fun u3 hu3 => ?_⟩
          have s3 := same_new (o := .tup [.str "far"]) hu3
          refine ⟨by show 0 ≤ sizeLine; decide, fun e4 he4 => ⟨by show 2 ≤ sizeLine; decide, fun u4 hu4 => ?_⟩⟩
          have se4 := same_new (o := .tup []) he4
          have s4 := same_new (o := .tup [.str "far", .ref e4]) hu4
          refine ⟨by show 0 ≤ sizeLine; decide, fun e5 he5 => ⟨by show 1 ≤ sizeLine; decide, fun f5 hf5 => ⟨by show 2 ≤ sizeLine; decide, fun u5 hu5 => ?_⟩⟩⟩
          have se5 := same_new (o := .tup []) he5
          have sf5 := same_new (o := .tup [.ref e5]) hf5
          have s5 := same_new (o := .tup [.str "far", .ref f5]) hu5
          have c5 := ((((s3.trans se4).trans s4).trans se5).trans sf5).trans s5
          refine ⟨_, rfl, tt, _, _, _, rfl, rfl, SqT.of (c5 _ _ htt20), at1', by show 3 ≤ sizeLine; decide, fun u6 hu6 => ?_⟩
          have s6 := same_new (o := .tup [.str "far", .ref g, .int 0]) hu6
          refine ⟨_, rfl, by show 1 ≤ sizeLine; decide, fun l7 hl7 => ?_⟩
          have s7 := same_new (o := .lst [.ref tt]) hl7
          refine ⟨by show 7 ≤ sizeLine; decide, fun q8 hq8 => ⟨q8, rfl, ⟨_, SqL.of upd_same⟩, ?_⟩⟩
          have s8 := same_new (o := .lst [v0, .ref g, .ref u3, .ref u4, .ref u5, .ref u6, .ref l7]) hq8
          have c38 := ((c5.trans s6).trans s7).trans s8
          have hq8' : (upd (upd (upd (upd (upd (upd (upd (upd (upd H20 u3 (.tup [.str "far"])) e4 (.tup [])) u4 (.tup [.str "far", .ref e4])) e5 (.tup [])) f5 (.tup [.ref e5])) u5 (.tup [.str "far", .ref f5])) u6 (.tup [.str "far", .ref g, .int 0])) l7 (.lst [.ref tt])) q8 (.lst [v0, .ref g, .ref u3, .ref u4, .ref u5, .ref u6, .ref l7])) q8 = some (.lst [v0, .ref g, .ref u3, .ref u4, .ref u5, .ref u6, .ref l7]) := upd_same
          have h3 := (((((((se4.trans s4).trans se5).trans sf5).trans s5).trans s6).trans s7).trans s8) _ _ (upd_same (H := H20) (a := u3) (o := .tup [.str "far"]))
          have he4' := ((((((s4.trans se5).trans sf5).trans s5).trans s6).trans s7).trans s8) _ _ (upd_same (a := e4) (o := .tup []))
          have h4 := (((((se5.trans sf5).trans s5).trans s6).trans s7).trans s8) _ _ (upd_same (a := u4) (o := .tup [.str "far", .ref e4]))
          have he5' := ((((sf5.trans s5).trans s6).trans s7).trans s8) _ _ (upd_same (a := e5) (o := .tup []))
          have hf5' := (((s5.trans s6).trans s7).trans s8) _ _ (upd_same (a := f5) (o := .tup [.ref e5]))
          have h5 := ((s6.trans s7).trans s8) _ _ (upd_same (a := u5) (o := .tup [.str "far", .ref f5]))
          have h6 := (s7.trans s8) _ _ (upd_same (a := u6) (o := .tup [.str "far", .ref g, .int 0]))
          have h7 := s8 _ _ (upd_same (a := l7) (o := .lst [.ref tt]))
          have ivg := (iv17.keep (k20.trans (.same c38))).items ⟨tt, rfl, c38 _ _ htt20⟩ (.ref g) (by simp)
          have grq := gr17.keep (k20.trans (.same c38))
          have iv0 := (th0.isV ok0).keep (.same c38)
          have P28 := P20.stay c38
          generalize upd (upd (upd (upd (upd (upd (upd (upd (upd H20 u3 (.tup [.str "far"])) e4 (.tup [])) u4 (.tup [.str "far", .ref e4])) e5 (.tup [])) f5 (.tup [.ref e5])) u5 (.tup [.str "far", .ref f5])) u6 (.tup [.str "far", .ref g, .int 0])) l7 (.lst [.ref tt])) q8 (.lst [v0, .ref g, .ref u3, .ref u4, .ref u5, .ref u6, .ref l7]) = H28 at hq8' h3 he4' h4 he5' hf5' h5 h6 h7 ivg grq iv0 P28 ⊢
          have str0 : ∀ d, IsV H28 5000 d (.str "far") := fun d => .str _ (Nat.le_of_ble_eq_true rfl)
          have two : ∀ {u : Addr} {w : V}, H28 u = some (.tup [.str "far", w]) → IsV H28 5000 2 w → IsV H28 5000 3 (.ref u) := fun hu iw => .tup hu (Nat.le_of_ble_eq_true rfl) fun z hz => by
            rcases List.mem_cons.mp hz with rfl | hz
            · exact str0 _
            rcases List.mem_cons.mp hz with rfl | hz
            · exact iw
            · cases hz
          have all : ∀ v ∈ [v0, .ref g, .ref u3, .ref u4, .ref u5, .ref u6, .ref l7], IsV H28 5000 3 v ∧ NoFar H28 x y v := fun v hv => by
            rcases List.mem_cons.mp hv with rfl | hv
            · exact ⟨iv0.deep.deep, no_leaf iv0⟩
            rcases List.mem_cons.mp hv with rfl | hv
            · exact ⟨(ivg.mono (by omega)).deep, no_grid grq⟩
            rcases List.mem_cons.mp hv with rfl | hv
            · refine ⟨.tup h3 (Nat.le_of_ble_eq_true rfl) fun z hz => ?_, no_tup h3 fun g => nofun⟩
              rw [List.mem_singleton.mp hz]
              exact str0 _
            rcases List.mem_cons.mp hv with rfl | hv
            · refine ⟨two h4 (.nil he4'), no_pair h4 he4' fun L pr => ?_⟩
              cases pr
              exact nofun
            rcases List.mem_cons.mp hv with rfl | hv
            · refine ⟨two h5 (.tup hf5' (Nat.le_of_ble_eq_true rfl) fun z hz => ?_), no_pair h5 hf5' fun L pr => ?_⟩
              · rw [List.mem_singleton.mp hz]
                exact .nil he5'
              · cases pr with
                | cons a _ =>
                  obtain ⟨a1, a2⟩ := a
                  have e := TupV.inj ⟨e5, rfl, he5'⟩ a1
                  have e2 := congrArg List.length e
                  rw [List.length_map, a2] at e2
                  cases e2
            rcases List.mem_cons.mp hv with rfl | hv
            · refine ⟨.tup h6 (Nat.le_of_ble_eq_true rfl) fun z hz => ?_, no_tup h6 fun g => nofun⟩
              rcases List.mem_cons.mp hz with rfl | hz
              · exact str0 _
              rcases List.mem_cons.mp hz with rfl | hz
              · exact ivg.mono (by omega)
              rcases List.mem_cons.mp hz with rfl | hz
              · exact .int _ fun _ => Nat.zero_le _
              · cases hz
            rcases List.mem_cons.mp hv with rfl | hv
            · exact ⟨.lst h7, no_lst h7⟩
            · cases hv
          refine for_list (xs := [v0, .ref g, .ref u3, .ref u4, .ref u5, .ref u6, .ref l7]) (fun j σ H' => ∃ (th : V), σ = [some (.ref a), some (.ref p), some (.int (0 + (i : Int))), some (.str sg), some (.str x), some (.str y), some (.int (few : Nat)), some (.ref tt), some (.int (lz : Nat)), some (.ref t2), o10, o11, some th, o13, o14, o15] ∧ Same H28 H') ?_ ?_ ?_ ?_
          · exact ⟨_, rfl, Same.rfl⟩
          · rintro j σ H' _ ⟨th, rfl, s9⟩
            exact SqL.of (s9 _ _ hq8')
          · rintro j v σ H29 hv ⟨th, rfl, s9⟩
            obtain ⟨iv, nf⟩ := all v (List.mem_of_getElem? hv)
            refine name_go ⟨_, rfl, _, rfl, _, rfl, _, rfl, x, y, _, v, 5000, rfl, iv.keep (.same s9), Nat.le_refl _, by omega, by omega, fun b H30 s30 hb => ?_⟩
            have bf : b = false := by
              cases b with
              | false => rfl
              | true => exact absurd (hb.mp rfl) (nf.keep iv (.same s9) _)
            subst bf
            exact ⟨_, _, rfl, rfl, _, rfl, iteF ⟨_, rfl, s9.trans s30⟩⟩
          · rintro σ H' ⟨th, rfl, s9⟩
            exact ⟨_, _, _, _, _, _, _, _, _, _, _, _, _, _, rfl, (P28.stay s9).mono (by omega)⟩
    · rintro σ H2 ⟨o2, o3, o4, o5, o6, o7, o8, o9, o10, o11, o12, o13, o14, o15, rfl, P2⟩
      exact k _
end
end Vk
set_option Elab.async false
set_option maxRecDepth 100000
set_option maxHeartbeats 4000000
set_option linter.all false
namespace Vk
open PySem PySem.Spec PyProof.Rows L2 PySem.W
theorem walkX {l : PySem.W.OpenLaw} {n k : Nat} {q : Program} {loose : List Str} {XP : (Str → Option Value) → Heap → Prop} {YP : World → Heap → Prop} {d : DefRec} {K : Params → PySem.W.Frag} {CX : CXT} {sp : PySem.W.Frag → Sp} {x : Str}
    (hn : l.most = some n) (hn2 : n ≤ sizeLine) (hdf : d.params.defaults = []) (hr : Room k callerA) (hY : ∀ (w : World) (h : Heap), YP w h → (K w.params).In h)
    (F : ∀ (w : World) (mg : Str → Option Value) (fa : Addr) (h : Heap), (K w.params).In h → (∃ s0 mb, PySem.W.Ground q loose [] XP w s0 mg mb h) → mg d.name = some (.ref fa) →
      ∃ fd : FuncData, (∀ (s : Shared) (u : Value), BindsTo s fd ⟨[u], []⟩ [(x, u)]) ∧ ∀ base : Heap, (K w.params).In base → base.Ns mainGlobals mg → FnG l.prog w (K w.params) mg base CX k fa fd [x] (sp (K w.params)))
    (hsp : ∀ (K : PySem.W.Frag) (H : Hp) (a : Addr) (ns : List Int), ns.length ≤ n → Only H → SqL K H a (ns.map V.int) → sp K [.ref a] H (fun v _ => v = .bl true) fun _ _ _ => False)
    (noX : ∀ (H : Hp) (s : Shared) (e : Value) (s2 : Shared), CX [] H s (fun _ _ _ => False) e s2 → False) : PySem.W.WalkO q loose XP YP l.row.toRowW d [] (fun f vs => PySem.call f vs) := by
  refine Att.attach_call hn hdf ?_
  intro w s0 s1 mg mb fa o pm cd doc a vs ns G Y _ _ _ hmg scr hints hlen gens0
  obtain ⟨fd, hb, hF⟩ := F w mg fa _ (hY w _ Y) ⟨s0, mb, G⟩ hmg
  exact lawG (hY w _ Y) G.T.g G.T.b G.T.builtins G.T.nolimit gens0 scr hints (Nat.le_trans hlen hn2) hr hF hb (fun H h1 h2 => hsp _ H a ns hlen h1 h2) (fun H => noX H s1)
end Vk
set_option Elab.async false
set_option maxRecDepth 100000
set_option linter.all false
set_option maxHeartbeats 4000000
namespace Vk
open PySem PySem.Spec PyProof.Rows L2 LamX NdefX StX PySem.VkX
theorem all {l : PySem.W.OpenLaw} {w : World} {K : PySem.W.Frag} {h : Heap} {mg : Str → Option Value} {fa : Addr} (X : K.In h) (G : h.Ns mainGlobals mg) (hfa : mg "law" = some (.ref fa))
    (d_lsigns : ∃ (f : Addr) (fd : FuncData), At K "_law_signs" s_lsigns f fd)
    (d_ldraw : ∃ (f : Addr) (fd : FuncData), At K "_law_draw" s_ldraw f fd)
    (d_lpen : ∃ (f : Addr) (fd : FuncData), At K "_law_pen" s_lpen f fd)
    (d_lpick : ∃ (f : Addr) (fd : FuncData), At K "_law_pick" s_lpick f fd)
    (d_lfew : ∃ (f : Addr) (fd : FuncData), At K "_law_few" s_lfew f fd)
    (d_lword : ∃ (f : Addr) (fd : FuncData), At K "_law_word" s_lword f fd)
    (d_lany_value : ∃ (f : Addr) (fd : FuncData), At K "_law_any_value" s_lany_value f fd)
    (d_lntext : ∃ (f : Addr) (fd : FuncData), At K "_law_ntext" s_lntext f fd)
    (d_lnrows : ∃ (f : Addr) (fd : FuncData), At K "_law_nrows" s_lnrows f fd)
    (d_lnapart : ∃ (f : Addr) (fd : FuncData), At K "_law_napart" s_lnapart f fd)
    (d_lnis_grid : ∃ (f : Addr) (fd : FuncData), At K "_law_nis_grid" s_lnis_grid f fd)
    (d_lnbent : ∃ (f : Addr) (fd : FuncData), At K "_law_nbent" s_lnbent f fd)
    (d_lnis_far : ∃ (f : Addr) (fd : FuncData), At K "_law_nis_far" s_lnis_far f fd)
    (d_is_integer : ∃ (f : Addr) (fd : FuncData), At K "is_integer" s_is_integer f fd)
    (d_is_grid : ∃ (f : Addr) (fd : FuncData), At K "is_grid" s_is_grid f fd)
    (d_run_on : ∃ (f : Addr) (fd : FuncData), At K "run_on" s_run_on f fd)
    (d_starts_behind : ∃ (f : Addr) (fd : FuncData), At K "starts_behind" s_starts_behind f fd)
    (d_levels_to : ∃ (f : Addr) (fd : FuncData), At K "levels_to" s_levels_to f fd)
    (d_distance : ∃ (f : Addr) (fd : FuncData), At K "distance" s_distance f fd)
    (d_far_paper : ∃ (f : Addr) (fd : FuncData), At K "far_paper" s_far_paper f fd)
    (d_is_near_enough : ∃ (f : Addr) (fd : FuncData), At K "is_near_enough" s_is_near_enough f fd)
    (d_are_far_rows : ∃ (f : Addr) (fd : FuncData), At K "are_far_rows" s_are_far_rows f fd)
    (d_is_far_paper : ∃ (f : Addr) (fd : FuncData), At K "is_far_paper" s_is_far_paper f fd)
    (d_law : ∃ (f : Addr) (fd : FuncData), At K "law" s_law f fd)
    (z_str : PySem.W.nsIn K mainGlobals "str" = some none)
    (z_tuple : PySem.W.nsIn K mainGlobals "tuple" = some none)
    (z_enumerate : PySem.W.nsIn K mainGlobals "enumerate" = some none)
    (z_bool : PySem.W.nsIn K mainGlobals "bool" = some none)
    (z_sum : PySem.W.nsIn K mainGlobals "sum" = some none)
    (z_max : PySem.W.nsIn K mainGlobals "max" = some none)
    (z_ValueError : PySem.W.nsIn K mainGlobals "ValueError" = some none)
    (z_len : PySem.W.nsIn K mainGlobals "len" = some none)
    (z_list : PySem.W.nsIn K mainGlobals "list" = some none)
    (z_int : PySem.W.nsIn K mainGlobals "int" = some none)
    (z_abs : PySem.W.nsIn K mainGlobals "abs" = some none)
    (z_range : PySem.W.nsIn K mainGlobals "range" = some none)
    (z_min : PySem.W.nsIn K mainGlobals "min" = some none)
    (z_repr : PySem.W.nsIn K mainGlobals "repr" = some none)
    (z_isinstance : PySem.W.nsIn K mainGlobals "isinstance" = some none)
    (z_all : PySem.W.nsIn K mainGlobals "all" = some none)
    (z_any : PySem.W.nsIn K mainGlobals "any" = some none)
    (z_reversed : PySem.W.nsIn K mainGlobals "reversed" = some none)
    : ∃ (fd : FuncData), (∀ (s : Shared) (v : Value), BindsTo s fd ⟨[v], []⟩ [("_law_script", v)]) ∧ ∀ base : Heap, K.In base → base.Ns mainGlobals mg → FnG l.prog w K mg base CX0 7 fa fd ["_law_script"] (spLaw K) := by
  obtain ⟨f_lsigns, fd_lsigns, A_lsigns⟩ := d_lsigns
  have m_lsigns := PySem.W.mg_of X G A_lsigns.ns
  obtain ⟨f_ldraw, fd_ldraw, A_ldraw⟩ := d_ldraw
  have m_ldraw := PySem.W.mg_of X G A_ldraw.ns
  obtain ⟨f_lpen, fd_lpen, A_lpen⟩ := d_lpen
  have m_lpen := PySem.W.mg_of X G A_lpen.ns
  obtain ⟨f_lpick, fd_lpick, A_lpick⟩ := d_lpick
  have m_lpick := PySem.W.mg_of X G A_lpick.ns
  obtain ⟨f_lfew, fd_lfew, A_lfew⟩ := d_lfew
  have m_lfew := PySem.W.mg_of X G A_lfew.ns
  obtain ⟨f_lword, fd_lword, A_lword⟩ := d_lword
  have m_lword := PySem.W.mg_of X G A_lword.ns
  obtain ⟨f_lany_value, fd_lany_value, A_lany_value⟩ := d_lany_value
  have m_lany_value := PySem.W.mg_of X G A_lany_value.ns
  obtain ⟨f_lntext, fd_lntext, A_lntext⟩ := d_lntext
  have m_lntext := PySem.W.mg_of X G A_lntext.ns
  obtain ⟨f_lnrows, fd_lnrows, A_lnrows⟩ := d_lnrows
  have m_lnrows := PySem.W.mg_of X G A_lnrows.ns
  obtain ⟨f_lnapart, fd_lnapart, A_lnapart⟩ := d_lnapart
  have m_lnapart := PySem.W.mg_of X G A_lnapart.ns
  obtain ⟨f_lnis_grid, fd_lnis_grid, A_lnis_grid⟩ := d_lnis_grid
  have m_lnis_grid := PySem.W.mg_of X G A_lnis_grid.ns
  obtain ⟨f_lnbent, fd_lnbent, A_lnbent⟩ := d_lnbent
  have m_lnbent := PySem.W.mg_of X G A_lnbent.ns
  obtain ⟨f_lnis_far, fd_lnis_far, A_lnis_far⟩ := d_lnis_far
  have m_lnis_far := PySem.W.mg_of X G A_lnis_far.ns
  obtain ⟨f_is_integer, fd_is_integer, A_is_integer⟩ := d_is_integer
  have m_is_integer := PySem.W.mg_of X G A_is_integer.ns
  obtain ⟨f_is_grid, fd_is_grid, A_is_grid⟩ := d_is_grid
  have m_is_grid := PySem.W.mg_of X G A_is_grid.ns
  obtain ⟨f_run_on, fd_run_on, A_run_on⟩ := d_run_on
  have m_run_on := PySem.W.mg_of X G A_run_on.ns
  obtain ⟨f_starts_behind, fd_starts_behind, A_starts_behind⟩ := d_starts_behind
  have m_starts_behind := PySem.W.mg_of X G A_starts_behind.ns
  obtain ⟨f_levels_to, fd_levels_to, A_levels_to⟩ := d_levels_to
  have m_levels_to := PySem.W.mg_of X G A_levels_to.ns
  obtain ⟨f_distance, fd_distance, A_distance⟩ := d_distance
  have m_distance := PySem.W.mg_of X G A_distance.ns
  obtain ⟨f_far_paper, fd_far_paper, A_far_paper⟩ := d_far_paper
  have m_far_paper := PySem.W.mg_of X G A_far_paper.ns
  obtain ⟨f_is_near_enough, fd_is_near_enough, A_is_near_enough⟩ := d_is_near_enough
  have m_is_near_enough := PySem.W.mg_of X G A_is_near_enough.ns
  obtain ⟨f_are_far_rows, fd_are_far_rows, A_are_far_rows⟩ := d_are_far_rows
  have m_are_far_rows := PySem.W.mg_of X G A_are_far_rows.ns
  obtain ⟨f_is_far_paper, fd_is_far_paper, A_is_far_paper⟩ := d_is_far_paper
  have m_is_far_paper := PySem.W.mg_of X G A_is_far_paper.ns
  obtain ⟨f_law, fd_law, A_law⟩ := d_law
  have m_law := PySem.W.mg_of X G A_law.ns
  have e := hfa.symm.trans m_law
  cases e
  have T : Txt mg := ⟨PySem.W.mg_none_of X G z_str, PySem.W.mg_none_of X G z_tuple, PySem.W.mg_none_of X G z_enumerate, PySem.W.mg_none_of X G z_bool, PySem.W.mg_none_of X G z_sum, PySem.W.mg_none_of X G z_max, PySem.W.mg_none_of X G z_ValueError, PySem.W.mg_none_of X G z_len, PySem.W.mg_none_of X G z_list, PySem.W.mg_none_of X G z_int, PySem.W.mg_none_of X G z_abs, PySem.W.mg_none_of X G z_range, PySem.W.mg_none_of X G z_min, PySem.W.mg_none_of X G z_repr, PySem.W.mg_none_of X G z_isinstance, PySem.W.mg_none_of X G z_all, PySem.W.mg_none_of X G z_any, PySem.W.mg_none_of X G z_reversed⟩
  have bd_lsigns : Binds K fd_lsigns [] [] := A_lsigns.fn.binds (ps := []) fun _ _ _ _ _ _ us hl => match us, hl with | [], _ => rfl
  have bd_ldraw : Binds K fd_ldraw ["_law_pen_here", "_law_many"] [] := A_ldraw.fn.binds (ps := ["_law_pen_here", "_law_many"]) fun _ _ _ _ _ _ us hl => match us, hl with | [_, _], _ => rfl
  have bd_lpen : Binds K fd_lpen ["_law_script"] [] := A_lpen.fn.binds (ps := ["_law_script"]) fun _ _ _ _ _ _ us hl => match us, hl with | [_], _ => rfl
  have bd_lpick : Binds K fd_lpick ["_law_pen_here", "_law_options"] [] := A_lpick.fn.binds (ps := ["_law_pen_here", "_law_options"]) fun _ _ _ _ _ _ us hl => match us, hl with | [_, _], _ => rfl
  have bd_lfew : Binds K fd_lfew ["_law_pen_here"] [] := A_lfew.fn.binds (ps := ["_law_pen_here"]) fun _ _ _ _ _ _ us hl => match us, hl with | [_], _ => rfl
  have bd_lword : Binds K fd_lword ["_law_pen_here", "_law_signs_here", "_law_least", "_law_most_letters"] [] := A_lword.fn.binds (ps := ["_law_pen_here", "_law_signs_here", "_law_least", "_law_most_letters"]) fun _ _ _ _ _ _ us hl => match us, hl with | [_, _, _, _], _ => rfl
  have bd_lany_value : Binds K fd_lany_value ["_law_pen_here"] [] := A_lany_value.fn.binds (ps := ["_law_pen_here"]) fun _ _ _ _ _ _ us hl => match us, hl with | [_], _ => rfl
  have bd_lntext : Binds K fd_lntext ["_law_pen_here", "_law_signs_here", "_law_most_letters"] [] := A_lntext.fn.binds (ps := ["_law_pen_here", "_law_signs_here", "_law_most_letters"]) fun _ _ _ _ _ _ us hl => match us, hl with | [_, _, _], _ => rfl
  have bd_lnrows : Binds K fd_lnrows ["_law_left", "_law_right"] [] := A_lnrows.fn.binds (ps := ["_law_left", "_law_right"]) fun _ _ _ _ _ _ us hl => match us, hl with | [_, _], _ => rfl
  have bd_lnapart : Binds K fd_lnapart ["_law_left", "_law_right"] [] := A_lnapart.fn.binds (ps := ["_law_left", "_law_right"]) fun _ _ _ _ _ _ us hl => match us, hl with | [_, _], _ => rfl
  have bd_lnis_grid : Binds K fd_lnis_grid ["_law_thing", "_law_size", "_law_many"] [] := A_lnis_grid.fn.binds (ps := ["_law_thing", "_law_size", "_law_many"]) fun _ _ _ _ _ _ us hl => match us, hl with | [_, _, _], _ => rfl
  have bd_lnbent : Binds K fd_lnbent ["_law_pen_here", "_law_thing"] [] := A_lnbent.fn.binds (ps := ["_law_pen_here", "_law_thing"]) fun _ _ _ _ _ _ us hl => match us, hl with | [_, _], _ => rfl
  have bd_lnis_far : Binds K fd_lnis_far ["_law_left", "_law_right", "_law_total", "_law_thing"] [] := A_lnis_far.fn.binds (ps := ["_law_left", "_law_right", "_law_total", "_law_thing"]) fun _ _ _ _ _ _ us hl => match us, hl with | [_, _, _, _], _ => rfl
  have bd_is_integer : Binds K fd_is_integer ["value"] [] := A_is_integer.fn.binds (ps := ["value"]) fun _ _ _ _ _ _ us hl => match us, hl with | [_], _ => rfl
  have bd_is_grid : Binds K fd_is_grid ["value", "height", "width"] [] := A_is_grid.fn.binds (ps := ["value", "height", "width"]) fun _ _ _ _ _ _ us hl => match us, hl with | [_, _, _], _ => rfl
  have bd_run_on : Binds K fd_run_on ["one", "other", "index", "diagonal"] [] := A_run_on.fn.binds (ps := ["one", "other", "index", "diagonal"]) fun _ _ _ _ _ _ us hl => match us, hl with | [_, _, _, _], _ => rfl
  have bd_starts_behind : Binds K fd_starts_behind ["one", "other", "level", "diagonal"] [] := A_starts_behind.fn.binds (ps := ["one", "other", "level", "diagonal"]) fun _ _ _ _ _ _ us hl => match us, hl with | [_, _, _, _], _ => rfl
  have bd_levels_to : Binds K fd_levels_to ["one", "other"] [] := A_levels_to.fn.binds (ps := ["one", "other"]) fun _ _ _ _ _ _ us hl => match us, hl with | [_, _], _ => rfl
  have bd_distance : Binds K fd_distance ["one", "other"] [] := A_distance.fn.binds (ps := ["one", "other"]) fun _ _ _ _ _ _ us hl => match us, hl with | [_, _], _ => rfl
  have bd_far_paper : Binds K fd_far_paper ["one", "other"] [] := A_far_paper.fn.binds (ps := ["one", "other"]) fun _ _ _ _ _ _ us hl => match us, hl with | [_, _], _ => rfl
  have bd_is_near_enough : Binds K fd_is_near_enough ["last", "row", "index", "is_same"] [] := A_is_near_enough.fn.binds (ps := ["last", "row", "index", "is_same"]) fun _ _ _ _ _ _ us hl => match us, hl with | [_, _, _, _], _ => rfl
  have bd_are_far_rows : Binds K fd_are_far_rows ["rows", "one", "other"] [] := A_are_far_rows.fn.binds (ps := ["rows", "one", "other"]) fun _ _ _ _ _ _ us hl => match us, hl with | [_, _, _], _ => rfl
  have bd_is_far_paper : Binds K fd_is_far_paper ["one", "other", "number", "value"] [] := A_is_far_paper.fn.binds (ps := ["one", "other", "number", "value"]) fun _ _ _ _ _ _ us hl => match us, hl with | [_, _, _, _], _ => rfl
  refine ⟨fd_law, fun s v => A_law.fn.binds1 rfl s v, fun base _ _ => ?_⟩
  have t_signs : FnT l.prog w K mg base 1 "_law_signs" letS := okT A_lsigns.fn sc_lsigns m_lsigns bd_lsigns rfl
  have c_is_integer : CalG l.prog w K mg base CX0 1 "is_integer" spIsIntV := ⟨f_is_integer, fd_is_integer, _, b_is_integerV A_is_integer.fn T, m_is_integer, A_is_integer.fn.kp, bd_is_integer⟩
  have c_is_grid : CalG l.prog w K mg base CX0 2 "is_grid" spGridG := ⟨f_is_grid, fd_is_grid, _, b_is_grid A_is_grid.fn T c_is_integer, m_is_grid, A_is_grid.fn.kp, bd_is_grid⟩
  have c_run_on : CalG l.prog w K mg base CX0 1 "run_on" spRun := ⟨f_run_on, fd_run_on, _, b_run_on A_run_on.fn T, m_run_on, A_run_on.fn.kp, bd_run_on⟩
  have c_starts_behind : CalG l.prog w K mg base CX0 1 "starts_behind" spStarts := ⟨f_starts_behind, fd_starts_behind, _, b_starts_behind A_starts_behind.fn T, m_starts_behind, A_starts_behind.fn.kp, bd_starts_behind⟩
  have c_levels_to : CalG l.prog w K mg base CX0 2 "levels_to" spLevels := ⟨f_levels_to, fd_levels_to, _, b_levels_to A_levels_to.fn T c_run_on c_starts_behind, m_levels_to, A_levels_to.fn.kp, bd_levels_to⟩
  have c_distance : CalG l.prog w K mg base CX0 3 "distance" spDist := ⟨f_distance, fd_distance, _, b_distance A_distance.fn T c_levels_to, m_distance, A_distance.fn.kp, bd_distance⟩
  have c_far_paper : CalG l.prog w K mg base CX0 1 "far_paper" spFar := ⟨f_far_paper, fd_far_paper, _, b_far_paper A_far_paper.fn T, m_far_paper, A_far_paper.fn.kp, bd_far_paper⟩
  have c_is_near_enough : CalG l.prog w K mg base CX0 1 "is_near_enough" spNearG := ⟨f_is_near_enough, fd_is_near_enough, _, b_is_near_enough A_is_near_enough.fn T, m_is_near_enough, A_is_near_enough.fn.kp, bd_is_near_enough⟩
  have c_are_far_rows : CalG l.prog w K mg base CX0 2 "are_far_rows" spFarRowsG := ⟨f_are_far_rows, fd_are_far_rows, _, b_are_far_rows A_are_far_rows.fn T c_is_near_enough, m_are_far_rows, A_are_far_rows.fn.kp, bd_are_far_rows⟩
  have c_is_far_paper : CalG l.prog w K mg base CX0 3 "is_far_paper" spIsFarG := ⟨f_is_far_paper, fd_is_far_paper, _, b_is_far_paper A_is_far_paper.fn T c_is_grid c_are_far_rows, m_is_far_paper, A_is_far_paper.fn.kp, bd_is_far_paper⟩
  have k_far_paper : CalK l.prog w K mg base CX0 1 "far_paper" spFar ["other", "one"] List.reverse := ⟨f_far_paper, fd_far_paper, ["one", "other"], b_far_paper A_far_paper.fn T, m_far_paper, A_far_paper.fn.kp, A_far_paper.fn.kwb fun _ _ _ _ _ _ us hl => match us, hl with | [_, _], _ => rfl, fun _ _ r _ => vals_rev r⟩
  have k_is_far_paper : CalK l.prog w K mg base CX0 3 "is_far_paper" spIsFarG ["value", "number", "other", "one"] List.reverse := ⟨f_is_far_paper, fd_is_far_paper, ["one", "other", "number", "value"], b_is_far_paper A_is_far_paper.fn T c_is_grid c_are_far_rows, m_is_far_paper, A_is_far_paper.fn.kp, A_is_far_paper.fn.kwb fun _ _ _ _ _ _ us hl => match us, hl with | [_, _, _, _], _ => rfl, fun _ _ r _ => vals_rev r⟩
  have c_lsigns : CalG l.prog w K mg base CX0 1 "_law_signs" spSigns := ⟨f_lsigns, fd_lsigns, _, b_lsigns A_lsigns.fn T, m_lsigns, A_lsigns.fn.kp, bd_lsigns⟩
  have c_ldraw : CalG l.prog w K mg base CX0 1 "_law_draw" spDraw := ⟨f_ldraw, fd_ldraw, _, b_ldraw A_ldraw.fn T, m_ldraw, A_ldraw.fn.kp, bd_ldraw⟩
  have c_lpen : CalG l.prog w K mg base CX0 1 "_law_pen" (spPen K) := ⟨f_lpen, fd_lpen, _, b_lpen A_lpen.fn T, m_lpen, A_lpen.fn.kp, bd_lpen⟩
  have c_lpick : CalG l.prog w K mg base CX0 2 "_law_pick" (spPick K) := ⟨f_lpick, fd_lpick, _, b_lpick A_lpick.fn T c_ldraw, m_lpick, A_lpick.fn.kp, bd_lpick⟩
  have c_lfew : CalG l.prog w K mg base CX0 3 "_law_few" spFew := ⟨f_lfew, fd_lfew, _, b_lfew A_lfew.fn T c_lpick t_signs, m_lfew, A_lfew.fn.kp, bd_lfew⟩
  have c_lword : CalG l.prog w K mg base CX0 3 "_law_word" spWord := ⟨f_lword, fd_lword, _, b_lword A_lword.fn T c_ldraw c_lpick, m_lword, A_lword.fn.kp, bd_lword⟩
  have c_lany_value : CalG l.prog w K mg base CX0 3 "_law_any_value" spAny := ⟨f_lany_value, fd_lany_value, _, b_lany_value A_lany_value.fn T c_lpick, m_lany_value, A_lany_value.fn.kp, bd_lany_value⟩
  have c_lntext : CalG l.prog w K mg base CX0 4 "_law_ntext" spNtext := ⟨f_lntext, fd_lntext, _, b_lntext A_lntext.fn T c_ldraw c_lpick c_lword, m_lntext, A_lntext.fn.kp, bd_lntext⟩
  have c_lnrows : CalG l.prog w K mg base CX0 1 "_law_nrows" spRows := ⟨f_lnrows, fd_lnrows, _, b_lnrows A_lnrows.fn T, m_lnrows, A_lnrows.fn.kp, bd_lnrows⟩
  have c_lnapart : CalG l.prog w K mg base CX0 2 "_law_napart" spApart := ⟨f_lnapart, fd_lnapart, _, b_lnapart A_lnapart.fn T c_lnrows, m_lnapart, A_lnapart.fn.kp, bd_lnapart⟩
  have c_lnis_grid : CalG l.prog w K mg base CX0 1 "_law_nis_grid" spGridG := ⟨f_lnis_grid, fd_lnis_grid, _, b_lnis_grid A_lnis_grid.fn T, m_lnis_grid, A_lnis_grid.fn.kp, bd_lnis_grid⟩
  have c_lnbent : CalG l.prog w K mg base CX0 6 "_law_nbent" (spBent 4) := by
    have z0 : CalG l.prog w K mg base CX0 2 "_law_nbent" (spBent 0) := ⟨f_lnbent, fd_lnbent, _, ⟨fun _ _ _ _ h => h.elim, fun _ _ _ _ _ _ _ _ _ _ _ _ _ _ h => h.elim⟩, m_lnbent, A_lnbent.fn.kp, bd_lnbent⟩
    have z1 : CalG l.prog w K mg base CX0 3 "_law_nbent" (spBent 1) := ⟨f_lnbent, fd_lnbent, _, b_lnbent 0 (by omega) A_lnbent.fn T c_ldraw c_lpick z0, m_lnbent, A_lnbent.fn.kp, bd_lnbent⟩
    have z2 : CalG l.prog w K mg base CX0 4 "_law_nbent" (spBent 2) := ⟨f_lnbent, fd_lnbent, _, b_lnbent 1 (by omega) A_lnbent.fn T c_ldraw c_lpick z1, m_lnbent, A_lnbent.fn.kp, bd_lnbent⟩
    have z3 : CalG l.prog w K mg base CX0 5 "_law_nbent" (spBent 3) := ⟨f_lnbent, fd_lnbent, _, b_lnbent 2 (by omega) A_lnbent.fn T c_ldraw c_lpick z2, m_lnbent, A_lnbent.fn.kp, bd_lnbent⟩
    exact ⟨f_lnbent, fd_lnbent, _, b_lnbent 3 (by omega) A_lnbent.fn T c_ldraw c_lpick z3, m_lnbent, A_lnbent.fn.kp, bd_lnbent⟩
  have c_lnis_far : CalG l.prog w K mg base CX0 2 "_law_nis_far" spIsFarG := ⟨f_lnis_far, fd_lnis_far, _, b_lnis_far A_lnis_far.fn T c_lnis_grid, m_lnis_far, A_lnis_far.fn.kp, bd_lnis_far⟩
  exact b_law A_law.fn T c_lpen c_lfew c_ldraw c_lpick c_lntext c_lany_value c_lnrows c_lnapart c_lnbent c_lnis_far c_distance k_far_paper c_is_far_paper k_is_far_paper
end Vk
set_option Elab.async false
set_option maxRecDepth 100000
set_option linter.all false
open PySem PySem.W PyProof.Rows
set_option maxRecDepth 100000 in
set_option maxHeartbeats 0 in
theorem PySem.Challenge.cw_anchoredits_k60_whole_far_papers_holds : PySem.Challenge.rw_anchoredits_k60_whole_far_papers.Holds := by
  w_on; o_law; k_headL; (case hw => w_witness2)
  k_fill
  refine Vk.walkX (l := PySem.Challenge.rw_anchoredits_k60_whole_far_papers) (n := 63) (k := 7) (x := "_law_script") (CX := L2.CX0) (sp := Vk.spLaw) rfl (by decide) rfl ⟨rfl, by decide, by decide⟩ (fun w h Y => PySem.W.kIn_of Y) ?F (fun K H a ns hl _ hS => ⟨a, ns, rfl, hS, hl, fun _ => rfl⟩) (fun _ _ _ _ z => z)
  case F =>
    intro w mg fa h KX Gr hmg
    obtain ⟨s0, mb, Gr⟩ := Gr
    refine' Vk.all KX Gr.T.g hmg ?d_lsigns ?d_ldraw ?d_lpen ?d_lpick ?d_lfew ?d_lword ?d_lany_value ?d_lntext ?d_lnrows ?d_lnapart ?d_lnis_grid ?d_lnbent ?d_lnis_far ?d_is_integer ?d_is_grid ?d_run_on ?d_starts_behind ?d_levels_to ?d_distance ?d_far_paper ?d_is_near_enough ?d_are_far_rows ?d_is_far_paper ?d_law ?z_str ?z_tuple ?z_enumerate ?z_bool ?z_sum ?z_max ?z_ValueError ?z_len ?z_list ?z_int ?z_abs ?z_range ?z_min ?z_repr ?z_isinstance ?z_all ?z_any ?z_reversed
    (case d_lsigns => as_aux_lemma => (refine' ⟨_, _, Vk.at_mk ?a ?l ?c ?k⟩; (case a => k_is); (case l => k_is); (case c => k_is); (case k => k_is)))
    (case d_ldraw => as_aux_lemma => (refine' ⟨_, _, Vk.at_mk ?a ?l ?c ?k⟩; (case a => k_is); (case l => k_is); (case c => k_is); (case k => k_is)))
    (case d_lpen => as_aux_lemma => (refine' ⟨_, _, Vk.at_mk ?a ?l ?c ?k⟩; (case a => k_is); (case l => k_is); (case c => k_is); (case k => k_is)))
    (case d_lpick => as_aux_lemma => (refine' ⟨_, _, Vk.at_mk ?a ?l ?c ?k⟩; (case a => k_is); (case l => k_is); (case c => k_is); (case k => k_is)))
    (case d_lfew => as_aux_lemma => (refine' ⟨_, _, Vk.at_mk ?a ?l ?c ?k⟩; (case a => k_is); (case l => k_is); (case c => k_is); (case k => k_is)))
    (case d_lword => as_aux_lemma => (refine' ⟨_, _, Vk.at_mk ?a ?l ?c ?k⟩; (case a => k_is); (case l => k_is); (case c => k_is); (case k => k_is)))
    (case d_lany_value => as_aux_lemma => (refine' ⟨_, _, Vk.at_mk ?a ?l ?c ?k⟩; (case a => k_is); (case l => k_is); (case c => k_is); (case k => k_is)))
    (case d_lntext => as_aux_lemma => (refine' ⟨_, _, Vk.at_mk ?a ?l ?c ?k⟩; (case a => k_is); (case l => k_is); (case c => k_is); (case k => k_is)))
    (case d_lnrows => as_aux_lemma => (refine' ⟨_, _, Vk.at_mk ?a ?l ?c ?k⟩; (case a => k_is); (case l => k_is); (case c => k_is); (case k => k_is)))
    (case d_lnapart => as_aux_lemma => (refine' ⟨_, _, Vk.at_mk ?a ?l ?c ?k⟩; (case a => k_is); (case l => k_is); (case c => k_is); (case k => k_is)))
    (case d_lnis_grid => as_aux_lemma => (refine' ⟨_, _, Vk.at_mk ?a ?l ?c ?k⟩; (case a => k_is); (case l => k_is); (case c => k_is); (case k => k_is)))
    (case d_lnbent => as_aux_lemma => (refine' ⟨_, _, Vk.at_mk ?a ?l ?c ?k⟩; (case a => k_is); (case l => k_is); (case c => k_is); (case k => k_is)))
    (case d_lnis_far => as_aux_lemma => (refine' ⟨_, _, Vk.at_mk ?a ?l ?c ?k⟩; (case a => k_is); (case l => k_is); (case c => k_is); (case k => k_is)))
    (case d_is_integer => as_aux_lemma => (refine' ⟨_, _, Vk.at_mk ?a ?l ?c ?k⟩; (case a => k_is); (case l => k_is); (case c => k_is); (case k => k_is)))
    (case d_is_grid => as_aux_lemma => (refine' ⟨_, _, Vk.at_mk ?a ?l ?c ?k⟩; (case a => k_is); (case l => k_is); (case c => k_is); (case k => k_is)))
    (case d_run_on => as_aux_lemma => (refine' ⟨_, _, Vk.at_mk ?a ?l ?c ?k⟩; (case a => k_is); (case l => k_is); (case c => k_is); (case k => k_is)))
    (case d_starts_behind => as_aux_lemma => (refine' ⟨_, _, Vk.at_mk ?a ?l ?c ?k⟩; (case a => k_is); (case l => k_is); (case c => k_is); (case k => k_is)))
    (case d_levels_to => as_aux_lemma => (refine' ⟨_, _, Vk.at_mk ?a ?l ?c ?k⟩; (case a => k_is); (case l => k_is); (case c => k_is); (case k => k_is)))
    (case d_distance => as_aux_lemma => (refine' ⟨_, _, Vk.at_mk ?a ?l ?c ?k⟩; (case a => k_is); (case l => k_is); (case c => k_is); (case k => k_is)))
    (case d_far_paper => as_aux_lemma => (refine' ⟨_, _, Vk.at_mk ?a ?l ?c ?k⟩; (case a => k_is); (case l => k_is); (case c => k_is); (case k => k_is)))
    (case d_is_near_enough => as_aux_lemma => (refine' ⟨_, _, Vk.at_mk ?a ?l ?c ?k⟩; (case a => k_is); (case l => k_is); (case c => k_is); (case k => k_is)))
    (case d_are_far_rows => as_aux_lemma => (refine' ⟨_, _, Vk.at_mk ?a ?l ?c ?k⟩; (case a => k_is); (case l => k_is); (case c => k_is); (case k => k_is)))
    (case d_is_far_paper => as_aux_lemma => (refine' ⟨_, _, Vk.at_mk ?a ?l ?c ?k⟩; (case a => k_is); (case l => k_is); (case c => k_is); (case k => k_is)))
    (case d_law => as_aux_lemma => (refine' ⟨_, _, Vk.at_mk ?a ?l ?c ?k⟩; (case a => k_is); (case l => k_is); (case c => k_is); (case k => k_is)))
    (case z_str => as_aux_lemma => k_is)
    (case z_tuple => as_aux_lemma => k_is)
    (case z_enumerate => as_aux_lemma => k_is)
    (case z_bool => as_aux_lemma => k_is)
    (case z_sum => as_aux_lemma => k_is)
    (case z_max => as_aux_lemma => k_is)
    (case z_ValueError => as_aux_lemma => k_is)
    (case z_len => as_aux_lemma => k_is)
    (case z_list => as_aux_lemma => k_is)
    (case z_int => as_aux_lemma => k_is)
    (case z_abs => as_aux_lemma => k_is)
    (case z_range => as_aux_lemma => k_is)
    (case z_min => as_aux_lemma => k_is)
    (case z_repr => as_aux_lemma => k_is)
    (case z_isinstance => as_aux_lemma => k_is)
    (case z_all => as_aux_lemma => k_is)
    (case z_any => as_aux_lemma => k_is)
    (case z_reversed => as_aux_lemma => k_is)
#print axioms PySem.Challenge.cw_anchoredits_k60_whole_far_papers_holds
