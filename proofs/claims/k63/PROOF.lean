import PyProof.Rows.All
import Wide.All
import OpenK.AllK
import Wide.FinOn
import HandS.Base
import HandS.Call
import HandS.List
import HandS.Comp
import HandS.Ends
import HandS.Text
import HandS.Words
import HandS.StrMore
import HandS.ForMost
import HandS.Codes
import HandS.Replace
import HandS.FStrTup
import PyProof.StrBlock2
import HandS.Exc
import HandS.ExcInit
import HandS.ExcIs
import HandS.ExcField
import KE.KExcIs
import HandS.IsInst
import HandS.Zip
import HandS.Nested
import HandS.OwnEq
import HandS.More
import HandS.Star
import HandS.ClsMeth
import HandS.Property
import HandS.Iter
import HandS.Zip0
import KE.GoesMore
import KE.GoesEnum
import HandS.NoneIn
import PyProof.StrLawsRepr
import HandS.EndTab
import HandS.ListEq
import KE.LtData
import PySem.Challenge.RW_anchoredits_k63_whole_prices_and_cheapes
import KE.KTryMore
import KE.KRevSl
import HandS.Style
import HandS.TupAny
import HandS.Conv
import HandS.FltList
import PyProof.EnumMake
import HandS.Rev
import HandS.DictComp
import HandS.RevRange
import PyProof.NeKinds
import PyProof.CallStr
import PyProof.Rows.IntBool
import PyProof.ListStr
import PyProof.CollectStr
import HandS.Strs
import HandS.ExcValue
import PyProof.Rows.SortShellAny
import HandS.Dict
import KE.KDictZip
import KE.KTurns
import HandS.SetFor
import HandS.Defaults
import KE.OsRunLaw
set_option Elab.async false
set_option maxRecDepth 100000
set_option linter.all false
namespace Vk
open PySem PySem.Spec PyProof.Rows L2
/-! ## defs that may show values: no guard is under way -/
structure FnG (P : Program) (w : World) (K : PySem.W.Frag) (mg : Str → Option Value) (base : Heap) (CX : CXT) (k : Nat) (f : Addr) (fd : FuncData) (ps : List Str) (sp : Sp) : Prop where
  len : ∀ vs H Q E, sp vs H Q E → vs.length = ps.length
  run : ∀ (A : Around) (outer : List Env) (s : Shared) (H : Hp) (args : Args) (us : List Value) (vs : List V) (Q : VK) (E : XK), A.guards = some [] → Room k A → Env0 P w K mg base A outer s H → BindsTo s fd args (ps.zip us) → Vals vs us → sp vs H Q E →
    codeAny (model P w) A (.call (.ref f) args) (CR CX outer P w H s Q E) s
theorem FnG.of {P : Program} {w : World} {K : PySem.W.Frag} {mg : Str → Option Value} {base : Heap} {CX : CXT} {k : Nat} {f : Addr} {fd : FuncData} {ps : List Str} {sp : Sp} (F : FnOk P w K mg base CX k f fd ps sp) : FnG P w K mg base CX k f fd ps sp :=
  ⟨F.len, fun A outer s H args us vs Q E _ => F.run A outer s H args us vs Q E⟩
section
variable {P : Program} {w : World} {K : PySem.W.Frag} {mg : Str → Option Value} {base : Heap}
theorem okG {CX : CXT} {x qual : Str} {st : Stmt} {f : Addr} {fd : FuncData} {N ps : List Str} {k : Nat} {sp : Sp} (F : Fun K x qual st f fd) (S : FnScope N ps (defScope st)) (hlen : ∀ vs H Q E, sp vs H Q E → vs.length = ps.length)
    (hbody : ∀ (cdv : Value) (A : Around) (outer : List Env) (s : Shared) (H : Hp) (vs : List V) (Q : VK) (E : XK), A.guards = some [] → Room k (A.deeper (envOfC qual (defScope st) s.heap.objs.size f cdv)) → sp vs H Q E →
      ∃ t, PSs (cxOf CX P w K mg base N qual (defScope st) f cdv A outer s H E) (defBody st) t ∧ t { nx := fun _ H' => Q .non H', rt := Q } (start N vs) H) : FnG P w K mg base CX (k + 1) f fd ps sp := by
  obtain ⟨oc, od, kV, doc, pm, an, cdv, ct, osl, rfl, lk, hcd⟩ := F.ex
  refine ⟨hlen, fun A outer s H args us vs Q E hg hr e0 hb r hsp => ?_⟩
  have hvl := hlen _ _ _ _ hsp
  have KX := e0.mod.kin.keeps (fun b o e => (e0.bs b o e).1 : ∀ b o, base.get? b = some o → s.heap.get? b = some o)
  have noLim := e0.mod.nolimit.keeps (fun b o e => (e0.bs b o e).1 : ∀ b o, base.get? b = some o → s.heap.get? b = some o)
  have kinds : ∀ y ∈ ps.zip us, (defScope st).names.lookup y.1 = some .local ∨ ((defScope st).names.lookup y.1 = some .cell ∧ ((cellsFrom (s.heap.objs.size + 1) (defScope st).names []).lookup y.1).isSome = true) := by
    rintro ⟨n, v⟩ hy
    have hy1 := (List.of_mem_zip hy).1
    cases S.par n hy1 with
    | inl q => exact Or.inl q
    | inr q => exact Or.inr (And.intro q (PySem.W.cellsFrom_some _ _ _ (Or.inl q)))
  refine codeAny_call_function hr.depth (KX f _ lk) rfl S.co S.gen rfl (PySem.W.codeRec_of KX hcd) (hb _ _ _ _ (wpAny_newFunctionEnv_cells S.kind kinds fun env he s1 x => ?_))
  cases he
  refine And.intro (noLim.keeps x.toInCall.keep) (codeAny_func ?_)
  obtain ⟨t, ht, hq⟩ := hbody cdv A outer s H vs Q E hg (hr.deeper _) hsp
  have I0 := inv_start (CX := CX) (E := E) S hr.hd e0 hvl r x
  refine wpAny_mono (ht.run [] s1 (start N vs) H _ I0 hq) (fun fl s2 hs => ?_) (fun e s2 hs => hs)
  have close : ∀ {σ2 : L2.St} {H2 : Hp} {v : V} {u : Value}, Inv (cxOf CX P w K mg base N qual (defScope st) f cdv A outer s H E) [] σ2 H2 s2 → RelV v u → Q v H2 → CE outer P w H s Q u s2 := by
    intro σ2 H2 v u J rv q
    exact ⟨v, H2, And.intro J.os (And.intro J.bare (And.intro J.base (And.intro J.hok (And.intro rv q))))⟩
  match fl, hs with
  | .ret u, ⟨v, σ2, H2, J, rv, q⟩ => exact close J rv q
  | .next, ⟨σ2, H2, J, q⟩ => exact close (v := V.non) (u := Value.none) J rfl q
  | .brk, ⟨_, _, _, q⟩ => exact q.elim
  | .cont, ⟨_, _, _, q⟩ => exact q.elim
end
section
variable {P : Program} {w : World} {K : PySem.W.Frag} {mg : Str → Option Value} {base : Heap}
theorem okG0 {x qual : Str} {st : Stmt} {f : Addr} {fd : FuncData} {N ps : List Str} {k : Nat} {sp : Sp} (F : Fun K x qual st f fd) (S : FnScope N ps (defScope st)) (hlen : ∀ vs H Q E, sp vs H Q E → vs.length = ps.length)
    (hbody : ∀ (cdv : Value) (A : Around) (outer : List Env) (s : Shared) (H : Hp) (vs : List V) (Q : VK) (E : XK), A.guards = some [] → Room k (A.deeper (envOfC qual (defScope st) s.heap.objs.size f cdv)) → sp vs H Q E →
      ∃ t, PSs (cxOf CX0 P w K mg base N qual (defScope st) f cdv A outer s H E).nox (defBody st) t ∧ t { nx := fun _ H' => Q .non H', rt := Q } (start N vs) H) : FnG P w K mg base CX0 (k + 1) f fd ps sp :=
  okG F S hlen fun cdv A outer s H vs Q E hg hr hsp => match hbody cdv A outer s H vs Q E hg hr hsp with | ⟨t, h, q⟩ => ⟨t, h.nox, q⟩
end
/-- a def of the module by its name -/
structure CalG (P : Program) (w : World) (K : PySem.W.Frag) (mg : Str → Option Value) (base : Heap) (CX : CXT) (k : Nat) (x : Str) (sp : Sp) : Prop where
  ex : ∃ (f : Addr) (fd : FuncData) (ps : List Str), FnG P w K mg base CX k f fd ps sp ∧ mg x = some (.ref f) ∧ PySem.W.keepIn K (.ref f) = true ∧ Binds K fd ps []
section
variable {X : Cx} {CX : CXT} {j k : Nat} {f : Addr} {fd : FuncData} {ps : List Str} {sp : Sp} {E : XK} {x : Str} {p pos : Pos} {e : Expr} {es : List Expr} {t : TA}
theorem run_fnG {pins : List (Addr × Obj)} {σ : L2.St} {H : Hp} {s : Shared} {Q : VK} {us : List Value} {vs : List V} (F : FnG X.prog X.w X.K X.mg X.base CX k f fd ps sp) (hg : X.A.guards = some []) (hr : Room k X.A) (hb : Binds X.K fd ps []) (hx : Passes CX X E)
    (I : Inv X pins σ H s) (r : Vals vs us) (h : sp vs H Q E) : wpAny (model X.prog X.w) X.A (call (.ref f) us) (EP X pins σ Q) X.xe s := by
  have hl : us.length = ps.length := r.length.symm.trans (F.len _ _ _ _ h)
  have b := hb s us I.kIn ((congrArg List.length (List.append_nil us)).trans hl)
  rw [List.append_nil] at b
  refine wpAny_call (codeAny_mono (F.run X.A X.stack s H ⟨us, []⟩ us vs Q E hg hr I.env0 b r h) (fun res s2 hq => ?_))
  match res, hq with
  | .error e, hq => exact hx pins σ H s e s2 I hq
  | .ok (.ret u), hq => exact I.after hq
  | .ok .next, hq => exact hq.elim
  | .ok .brk, hq => exact hq.elim
  | .ok .cont, hq => exact hq.elim
theorem pe_cG (c : CalG X.prog X.w X.K X.mg X.base CX k x sp) (hg : X.A.guards = some []) (hr : Room j X.A) (hk : k ≤ j) (hx : Passes CX X E) (ha : PA X (e :: es) t) (gl : Gl X x := by rfl)
    (hdb : (x == ("__debug__" : Str)) = false := by decide) (he : starEach (e :: es) X.env = (false, eval e X.env) :: starEach es X.env := by rfl) (hpl : (backTo pos (starEach es X.env)).any (·.1) = false := by rfl) :
    PE X (.Call (.Name x p) (e :: es) [] pos) (tCall sp [] E t) := by
  obtain ⟨f, fd, ps, F, hm, kp, hb⟩ := c.ex
  refine ⟨fun pins s σ H Q I h => wpAny_Call_Name_kw (ld_glob I gl hm (PySem.W.callWith_K (h₀ := X.base) I.ok.mod.kin kp (thn (ha.run pos pins s σ H _ I h) fun us s1 hh => ?_) he hpl) hdb)⟩
  obtain ⟨vs, H1, I1, r, q⟩ := hh
  rw [List.append_nil] at q
  exact ⟨I1.kIn, run_fnG F hg (hr.mono hk) hb hx I1 r q⟩
end
/-! ## repr -/
section
variable {X : Cx}
end
/-! ## the law's own call -/
theorem lawG {P : Program} {w : World} {K : PySem.W.Frag} {mg mb : Str → Option Value} {CX : CXT} {k : Nat} {fa a : Addr} {fd : FuncData} {x : Str} {sp : Sp} {s1 : Shared} {vs : List Value} {ns : List Int}
    (KX : K.In s1.heap) (gns : s1.heap.Ns mainGlobals mg) (bns : s1.heap.Ns builtinsNs mb) (bbt : ∀ x : Str, x ≠ "__name__" → mb x = bootBuiltins x) (nolim : s1.heap.NoLimit) (gens0 : s1.gens = #[])
    (scr : s1.heap.get? a = some { cls := .type "list", data := .seq vs.toArray }) (hints : IntsAre vs ns) (short : ns.length ≤ sizeLine) (room : Room k callerA)
    (F : ∀ base : Heap, K.In base → base.Ns mainGlobals mg → FnG P w K mg base CX k fa fd [x] sp) (bind1 : ∀ (s : Shared) (u : Value), BindsTo s fd ⟨[u], []⟩ [(x, u)])
    (prom : ∀ H : Hp, Only H → SqL K H a (ns.map V.int) → sp [.ref a] H (fun v _ => v = .bl true) fun _ _ _ => False)
    (noX : ∀ H e s2, CX [] H s1 (fun _ _ _ => False) e s2 → False) :
    codeAny (model P w) callerA (.call (.ref fa) ⟨[.ref a], []⟩) (fun r s2 => r = .ok (.ret (.bool true)) ∧ OldK s1.heap s2.heap ∧ s2.os = s1.os ∧ AllBare s2.gens) s1 := by
  have rel := vals_ints hints
  have main : ∀ H : Hp, Only H → SqL K H a (ns.map V.int) → HOk P w H s1.heap → (∀ b u, H b = some u → b = a) → (∀ u, H a = some u → K.lookup a = none) →
      codeAny (model P w) callerA (.call (.ref fa) ⟨[.ref a], []⟩) (fun r s2 => r = .ok (.ret (.bool true)) ∧ OldK s1.heap s2.heap ∧ s2.os = s1.os ∧ AllBare s2.gens) s1 := by
    intro H only seq ok at1 un1
    have dictFree : ∀ {b : Addr} {o : Obj} {es : Array DictEntry} {ep : Nat}, s1.heap.get? b = some o → o.data = .dict es ep → H b = none := by
      intro b o es ep e d
      match q : H b with
      | none => rfl
      | some u =>
        have eb := at1 b u q
        subst eb
        rw [scr] at e
        cases e
        exact nomatch (show Data.seq vs.toArray _ = Data.dict es ep from d)
    have nsAt : ∀ {b : Addr} {m : Str → Option Value}, s1.heap.Ns b m → (hidT s1.heap H).Ns b m := by
      rintro b m ⟨o, es, ep, e, d, r⟩
      exact ⟨o, es, ep, hidT_get e (dictFree e d), d, r⟩
    have inK : K.In (hidT s1.heap H) := by
      intro b o e
      refine hidT_get (KX b o e) ?_
      match q : H b with
      | none => rfl
      | some u =>
        have eb := at1 b u q
        subst eb
        exact nomatch (un1 u q).symm.trans e
    have limAt : (hidT s1.heap H).NoLimit := match nolim with | ⟨mc, h1, h2⟩ => ⟨mc, nsAt h1, h2⟩
    have mod1 : Mod K mg (hidT s1.heap H) := ⟨inK, nsAt gns, ⟨mb, nsAt bns, bbt⟩, limAt⟩
    have start0 : Env0 P w K mg (hidT s1.heap H) callerA [] s1 H := ⟨rfl, mod1, fun b o => of_hidT, Nat.le_of_eq (hidT_size s1.heap H), trivial, (fun b hb => absurd hb (List.not_mem_nil (a := b))), ok, AllBare.of_eq gens0⟩
    refine codeAny_mono ((F _ inK (nsAt gns)).run callerA [] s1 H ⟨[.ref a], []⟩ [.ref a] [.ref a] _ _ rfl room start0 (bind1 s1 (.ref a)) (.cons rfl .nil) (prom H only seq)) ?_
    intro res s2 h
    match res, h with
    | .error e, h => exact (noX H e s2 h).elim
    | .ok .next, h => exact h.elim
    | .ok .brk, h => exact h.elim
    | .ok .cont, h => exact h.elim
    | .ok (.ret u), ⟨v, H2, os, bare, un, ok2, r2, (hv : v = .bl true)⟩ =>
      cases hv
      have hu : u = Value.bool true := r2
      cases hu
      refine ⟨rfl, OldK.of_keep ?_, os, bare⟩
      intro b o e
      match q : H b with
      | none => exact un.keep b o e q (fun z => nomatch z) (fun z => nomatch z)
      | some u =>
        cases only b with
        | inl z => exact nomatch z.symm.trans q
        | inr z =>
          obtain ⟨ob, xs, z⟩ := z
          have c1 := (ok b _ z).1
          have c2 := (ok2 b _ (un.frzs b ob _ z)).1
          exact c2.trans (c1.symm.trans e)
  match hk : K.lookup a with
  | some o =>
    have e := (KX a o hk).symm.trans scr
    cases e
    refine main (fun _ => none) (fun _ => Or.inl rfl) (Or.inr ⟨_, vs.toArray, _, hk, rfl, rfl, rfl, ?_, ?_⟩) (fun b u z => nomatch (show (none : Option HO) = some u from z)) (fun b u z => nomatch (show (none : Option HO) = some u from z)) (fun u z => nomatch (show (none : Option HO) = some u from z))
    · rw [List.size_toArray, hints.length]
      exact short
    · simpa using rel
  | none =>
    refine main (fun b => if b = a then some (.frz { cls := .type "list", data := .seq vs.toArray } (.lst (ns.map V.int))) else none) ?_ (Or.inl (Or.inr ⟨_, if_pos rfl⟩)) ?_ ?_ (fun _ _ => hk)
    · intro b
      by_cases hb : b = a
      · exact Or.inr ⟨_, _, if_pos hb⟩
      · exact Or.inl (if_neg hb)
    · intro b u z
      by_cases hb : b = a
      · subst hb
        have z1 := (if_pos rfl).symm.trans z
        cases z1
        exact ⟨scr, (by rw [List.length_map]; exact short), vs, _, rel, scr⟩
      · exact nomatch (if_neg hb).symm.trans z
    · intro b u z
      by_cases hb : b = a
      · exact hb
      · exact nomatch (if_neg hb).symm.trans z
end Vk
set_option Elab.async false
set_option maxRecDepth 100000
set_option linter.all false
namespace Vk
open PySem PySem.Spec PyProof.Rows L2
/-! ## what stays -/
/-- all that was tracked stays, but what stands at p -/
def Ext (p : Addr) (H H' : Hp) : Prop := ∀ b o, H b = some o → b ≠ p → H' b = some o
theorem Ext.rfl {p : Addr} {H : Hp} : Ext p H H := fun _ _ h _ => h
theorem Ext.trans {p : Addr} {H H1 H2 : Hp} (a : Ext p H H1) (b : Ext p H1 H2) : Ext p H H2 := fun c o h n => b c o (a c o h n) n
theorem Ext.same {p : Addr} {H H1 : Hp} (a : Same H H1) : Ext p H H1 := fun c o h _ => a c o h
theorem Ext.at {p : Addr} {H : Hp} {o : HO} : Ext p H (upd H p o) := fun c u h n => (upd_ne n).trans h
theorem same_new {H : Hp} {a : Addr} {o : HO} (h : H a = none) : Same H (upd H a o) := fun c u e => (upd_ne (ne_of_none e h)).trans e
theorem Ext.new {p a : Addr} {H : Hp} {o : HO} (h : H a = none) : Ext p H (upd H a o) := .same (same_new h)
theorem Ext.set {p a : Addr} {H H1 : Hp} {o : HO} (x : Ext p H H1) (h : H a = none) : Ext p H (upd H1 a o) := fun c u e n => (upd_ne (ne_of_none e h)).trans (x c u e n)
theorem Ext.none_of {p a : Addr} {H H1 : Hp} (x : Ext p H H1) (hp : a ≠ p) (h : H1 a = none) : H a = none := by
  match q : H a with
  | none => rfl
  | some o => exact nomatch (x a o q hp).symm.trans h
theorem up_new {H : Hp} {a b : Addr} {o u : HO} (h : H a = some o) (hb : H b = none) : upd H b u a = some o := same_new hb a o h
/-! ## the pen -/
def penL (c : Addr) (t l : Int) : List (Key × V) := [(.inr "cells", .ref c), (.inr "turn", .int t), (.inr "left", .int l)]
theorem k_ct : ¬ ((Str.ofString "cells") = Str.ofString "turn") := by decide +kernel
theorem k_cl : ¬ ((Str.ofString "cells") = Str.ofString "left") := by decide +kernel
theorem k_tl : ¬ ((Str.ofString "turn") = Str.ofString "left") := by decide +kernel
theorem k_lt : ¬ ((Str.ofString "left") = Str.ofString "turn") := by decide +kernel
theorem pen_cells (c : Addr) (t l : Int) : valV (penL c t l) (Sum.inr "cells" : Key) = some (.ref c) := valV_pos rfl
theorem pen_turn (c : Addr) (t l : Int) : valV (penL c t l) (Sum.inr "turn" : Key) = some (.int t) := (valV_neg (fun e => k_ct (Sum.inr.inj e))).trans (valV_pos rfl)
theorem pen_left (c : Addr) (t l : Int) : valV (penL c t l) (Sum.inr "left" : Key) = some (.int l) := (valV_neg (fun e => k_cl (Sum.inr.inj e))).trans ((valV_neg (fun e => k_tl (Sum.inr.inj e))).trans (valV_pos rfl))
theorem pen_put_turn (c : Addr) (t l u : Int) : putK (penL c t l) (Sum.inr "turn" : Key) (.int u) = penL c u l := by
  unfold putK
  rw [valV_any, pen_turn]
  simp [penL, k_ct, k_lt]
theorem pen_put_left (c : Addr) (t l u : Int) : putK (penL c t l) (Sum.inr "left" : Key) (.int u) = penL c t u := by
  unfold putK
  rw [valV_any, pen_left]
  simp [penL, k_cl, k_tl]
theorem pen_made (c : Addr) (t l : Int) : mergeK [] (penL c t l) = penL c t l := by
  simp [mergeK, penL, putK, k_ct, k_cl, k_tl]
structure Pen (H : Hp) (p c : Addr) (T : Nat) : Prop where
  ex : ∃ (ns : List Int) (t l : Int), H p = some (.dK (penL c t l)) ∧ H c = some (.lst (ns.map V.int)) ∧ ns.length ≤ 63 ∧ 0 ≤ t ∧ t ≤ T ∧ 0 ≤ l
section
variable {H H1 : Hp} {p c a : Addr} {T U : Nat} {o : HO} {xs : List V}
theorem Pen.mono (x : Pen H p c T) (h : T ≤ U) : Pen H p c U := by
  obtain ⟨ns, t, l, h1, h2, h3, h4, h5, h6⟩ := x.ex
  exact ⟨ns, t, l, h1, h2, h3, h4, by omega, h6⟩
theorem Pen.stay (x : Pen H p c T) (s : Same H H1) : Pen H1 p c T := by
  obtain ⟨ns, t, l, h1, h2, r⟩ := x.ex
  exact ⟨ns, t, l, s _ _ h1, s _ _ h2, r⟩
theorem Pen.new (x : Pen H p c T) (h : H a = none) : Pen (upd H a o) p c T := x.stay (same_new h)
theorem Pen.is (x : Pen H p c T) : ∃ t l, H p = some (.dK (penL c t l)) := by
  obtain ⟨ns, t, l, h1, _⟩ := x.ex
  exact ⟨t, l, h1⟩
theorem Pen.ne (x : Pen H p c T) (h : H a = some (.lst xs)) : a ≠ p := by
  obtain ⟨t, l, h1⟩ := x.is
  exact ne_of h h1 (by intro z; cases z)
/-- another thing is changed -/
theorem Pen.set (x : Pen H p c T) (h1 : a ≠ p) (h2 : a ≠ c) : Pen (upd H a o) p c T := by
  obtain ⟨ns, t, l, g1, g2, r⟩ := x.ex
  exact ⟨ns, t, l, (upd_ne h1.symm).trans g1, (upd_ne h2.symm).trans g2, r⟩
/-- a thing that was not there when the pen stood is neither the pen nor its cells -/
theorem Pen.apart (x : Pen H p c T) (h : H a = none) : a ≠ p ∧ a ≠ c := by
  obtain ⟨ns, t, l, g1, g2, r⟩ := x.ex
  exact ⟨(ne_of_none g1 h).symm, (ne_of_none g2 h).symm⟩
end
/-- draw's promise -/
def spDraw : Sp := fun vs H Q _ => ∃ (p c : Addr) (m : Int) (T : Nat), vs = [.ref p, .int m] ∧ 0 < m ∧ m < 1073741824 ∧ Pen H p c T ∧ T < 1000000000 ∧
  ∀ (d : Int) (H' : Hp), 0 ≤ d → d < m → Pen H' p c (T + 1) → Ext p H H' → Q (.int d) H'
def spPen (K : PySem.W.Frag) : Sp := fun vs H Q _ => ∃ (a : Addr) (ns : List Int), vs = [.ref a] ∧ SqL K H a (ns.map V.int) ∧
  ∀ (p c : Addr) (H' : Hp), H p = none → Pen H' p c 0 → Same H H' → Q (.ref p) H'
/-! ## draws' small facts -/
theorem ints_dp {K : PySem.W.Frag} {H : Hp} : ∀ ns : List Int, DpAll K H (ns.map V.int) (ns.map PyData.int)
  | [] => .nil
  | n :: ns => .cons (.int n) (ints_dp ns)
theorem ints_canLay : ∀ ns : List Int, PyData.canLayAll0 (ns.map PyData.int) = true
  | [] => rfl
  | n :: ns => by
    show (PyData.canLay0 (.int n) && PyData.canLayAll0 (ns.map PyData.int)) = true
    rw [ints_canLay ns]
    rfl
theorem ints_depth : ∀ ns : List Int, PyData.depthAll (ns.map PyData.int) = 0
  | [] => rfl
  | n :: ns => by
    show max (PyData.depth (.int n)) (PyData.depthAll (ns.map PyData.int)) = 0
    rw [ints_depth ns]
    rfl
theorem ints_shaped (ns : List Int) : SeqAt.shaped (.list (ns.map PyData.int)) = true := by
  have h1 : PyData.canLay0 (.list (ns.map PyData.int)) = true := ints_canLay ns
  have h2 : PyData.depth (.list (ns.map PyData.int)) = 1 := by
    show PyData.depthAll (ns.map PyData.int) + 1 = 1
    rw [ints_depth]
  unfold SeqAt.shaped
  rw [h1, h2]
  rfl
theorem ints_ne_nil (ns : List Int) : PyData.eqv (.list (ns.map PyData.int)) (.list []) = ns.isEmpty := by
  match ns with
  | [] => rfl
  | n :: r => rfl
theorem get_left {H : Hp} {p c : Addr} {t l : Int} (h : H p = some (.dK (penL c t l))) : DGet H p (.str "left") (some (.int l)) := pen_left c t l ▸ DGet.k (k := Sum.inr "left") h
theorem get_turn {H : Hp} {p c : Addr} {t l : Int} (h : H p = some (.dK (penL c t l))) : DGet H p (.str "turn") (some (.int t)) := pen_turn c t l ▸ DGet.k (k := Sum.inr "turn") h
theorem get_cells {H : Hp} {p c : Addr} {t l : Int} (h : H p = some (.dK (penL c t l))) : DGet H p (.str "cells") (some (.ref c)) := pen_cells c t l ▸ DGet.k (k := Sum.inr "cells") h
theorem put_left {H : Hp} {p c : Addr} {t l u : Int} (h : H p = some (.dK (penL c t l))) : DPut H p (.str "left") (.int u) (upd H p (.dK (penL c t u))) := pen_put_left c t l u ▸ DPut.k (k := Sum.inr "left") h (by show 3 < sizeLine; decide)
theorem put_turn {H : Hp} {p c : Addr} {t l u : Int} (h : H p = some (.dK (penL c t l))) : DPut H p (.str "turn") (.int u) (upd H p (.dK (penL c u l))) := pen_put_turn c t l u ▸ DPut.k (k := Sum.inr "turn") h (by show 3 < sizeLine; decide)
theorem at_mod {α : Type} {xs : List α} {i : Int} (h0 : 0 ≤ i) (h : i < (xs.length : Int)) : ∃ v, atI xs i = some v ∧ v ∈ xs := by
  have hj : i.toNat < xs.length := by omega
  refine ⟨xs[i.toNat], ?_, List.getElem_mem hj⟩
  have e : i = (i.toNat : Int) := by omega
  have q := atI_nat (List.getElem?_eq_getElem hj)
  rw [← e] at q
  exact q
def primes : List Int := [2147483629, 2147483647, 2147483587, 2147483563, 2147483579]
theorem primes_in {v : V} (h : v ∈ primes.map V.int) : ∃ i : Int, v = .int i ∧ 0 < i ∧ i < 2147483648 := by
  obtain ⟨i, hi, e⟩ := List.mem_map.mp h
  refine ⟨i, e.symm, ?_⟩
  have q : ∀ j ∈ primes, 0 < j ∧ j < 2147483648 := by decide
  exact q i hi
end Vk
set_option Elab.async false
set_option maxRecDepth 100000
set_option linter.all false
namespace Vk
open PySem PySem.Spec PyProof.Rows L2
/-! ## a def that returns one written text, and a replace of what it returns (a token is out behind it) -/
structure FnT (P : Program) (w : World) (K : PySem.W.Frag) (mg : Str → Option Value) (base : Heap) (k : Nat) (x : Str) (z : Str) : Prop where
  ex : ∃ f : Addr, mg x = some (.ref f) ∧ PySem.W.keepIn K (.ref f) = true ∧ ∀ (A : Around) (outer : List Env) (s : Shared) (H : Hp) (Q : VK), Room k A → Env0 P w K mg base A outer s H → Q (.str z) H →
    codeAny (model P w) A (.call (.ref f) ⟨[], []⟩) (fun r s2 => 1 ≤ s2.toks ∧ CR CX0 outer P w H s Q E0 r s2) s
section
variable {P : Program} {w : World} {K : PySem.W.Frag} {mg : Str → Option Value} {base : Heap}
theorem okT {x : Str} {st : Stmt} {f : Addr} {fd : FuncData} {z : Str} {j : Nat} {p1 p2 : Pos} (F : Fun K x x st f fd) (S : FnScope [] [] (defScope st)) (hm : mg x = some (.ref f)) (hb : Binds K fd [] [])
    (body : defBody st = [.Return (some (.Constant (.str z) j p1)) p2]) : FnT P w K mg base 1 x z := by
  refine ⟨f, hm, F.kp, ?_⟩
  obtain ⟨oc, od, kV, doc, pm, an, cdv, ct, osl, rfl, lk, hcd⟩ := F.ex
  intro A outer s H Q hr e0 hsp
  have KX := e0.mod.kin.keeps (fun b o e => (e0.bs b o e).1 : ∀ b o, base.get? b = some o → s.heap.get? b = some o)
  have noLim := e0.mod.nolimit.keeps (fun b o e => (e0.bs b o e).1 : ∀ b o, base.get? b = some o → s.heap.get? b = some o)
  refine codeAny_call_function hr.depth (KX f _ lk) rfl S.co S.gen rfl (PySem.W.codeRec_of KX hcd) (hb s [] KX rfl _ _ _ _ (wpAny_newFunctionEnv_cells S.kind (fun y hy => absurd hy (List.not_mem_nil (a := y))) fun env he s1 x0 => ?_))
  cases he
  refine And.intro (noLim.keeps x0.toInCall.keep) (codeAny_func ?_)
  have I0 := inv_start (P := P) (CX := CX0) (E := E0) (us := []) (vs := []) S hr.hd e0 rfl .nil x0
  show wpAny _ _ (execs (defBody st) _) _ _ s1
  rw [body]
  refine wpAny_execs_cons (wpAny_Return_some (Calls.Constant_str ?_))
  exact ⟨Nat.succ_pos _, .str z, H, I0.os, I0.bare, (I0.tok (s1.toks + 1)).base, (I0.tok (s1.toks + 1)).hok, ⟨_, rfl⟩, hsp⟩
end
section
variable {X : Cx} {j k : Nat} {x z y v : Str} {q q2 apos pos c0 c1 : Pos} {j0 j1 : Nat}
theorem pe_replT (c : FnT X.prog X.w X.K X.mg X.base k x z) (hr : Room j X.A) (hk : k ≤ j) (hz : z.length + (z.length + 1) * v.length ≤ 16777216) (hyz : (y == v) = false) (gl : Gl X x := by rfl) (hdb : (x == ("__debug__" : Str)) = false := by decide)
    (hst : starEach [.Constant (.str y) j0 c0, .Constant (.str v) j1 c1] X.env = [(false, eval (.Constant (.str y) j0 c0) X.env), (false, eval (.Constant (.str v) j1 c1) X.env)] := by rfl)
    (hbase : attributeBase (.Call (.Name x q) [] [] q2) "replace" X.env (eval (.Call (.Name x q) [] [] q2) X.env) = eval (.Call (.Name x q) [] [] q2) X.env := by rfl) (hline : (apos.endLine == pos.line) = true := by rfl) :
    PE X (.Call (.Attribute (.Call (.Name x q) [] [] q2) "replace" apos) [.Constant (.str y) j0 c0, .Constant (.str v) j1 c1] [] pos) (fun σ H Q => Q (.str (Txt.replace z y v)) H) := by
  obtain ⟨f, hm, kp, run⟩ := c.ex
  refine ⟨fun pins s σ H Q I h => PySem.Call_method2 (Q := EP X pins σ Q) hbase hst hline (wpAny_mono (Q := fun u s1 => 1 ≤ s1.toks ∧ EP X pins σ (fun w H1 => w = .str z ∧ H1 = H) u s1) ?_ ?_ (fun _ _ e => e))⟩
  · refine wpAny_Call_Name_kw (ld_glob I gl hm (PySem.W.callWith_K0 I.kIn kp (wpAny_call (codeAny_mono (run X.A X.stack s H (fun w H1 => w = .str z ∧ H1 = H) (hr.mono hk) I.env0 ⟨rfl, rfl⟩) fun res s2 hq => ?_))) hdb)
    match res, hq with
    | .error e, hq => exact hq.2.elim
    | .ok (.ret u), hq => exact ⟨hq.1, I.after hq.2⟩
    | .ok .next, hq => exact hq.2.elim
    | .ok .brk, hq => exact hq.2.elim
    | .ok .cont, hq => exact hq.2.elim
  · rintro u s1 ⟨ht, w, H1, I1, r1, rfl, rfl⟩
    obtain ⟨tx, rfl⟩ := r1
    refine ⟨"str", _, PySem.F.plainAttrs_str, PySem.F.slot_str_replace, PySem.F.type_str_replace, typeIs_str _ _ _, (fun _ e => nomatch e), Calls.callWith_builtin rfl (Calls.evalArgs_plain (Calls.spliced_cons (Calls.Constant_str (Calls.spliced_cons (Calls.Constant_str (Calls.spliced_nil ?_))))))⟩
    exact PySem.SC.replace (Nat.ne_of_gt ht) (Nat.succ_ne_zero _) (by show s1.toks ≠ s1.toks + 1; omega) hyz hz fun t' kk => ⟨V.str _, _, I1.tok kk, ⟨t', rfl⟩, h⟩
end
/-! ## options to pick from -/
def OneS (c : Nat) : V := .str ⟨#[c]⟩
inductive Opts (K : PySem.W.Frag) (H : Hp) : V → List V → Prop
  | str (z : Str) (h : z.length ≤ 1000) : Opts K H (.str z) (z.cps.toList.map OneS)
  | lst {a : Addr} {xs : List V} (h : SqL K H a xs) : Opts K H (.ref a) xs
  | tup {a : Addr} {xs : List V} (h : SqT K H a xs) : Opts K H (.ref a) xs
theorem Ext.sqL {K : PySem.W.Frag} {p a : Addr} {H H1 : Hp} {xs : List V} {kvs : List (Key × V)} (x : Ext p H H1) (hp : H p = some (.dK kvs)) (h : SqL K H a xs) : SqL K H1 a xs := by
  match h with
  | .inl (.inl e) => exact .inl (.inl (x _ _ e (ne_of e hp (by intro z; cases z))))
  | .inl (.inr ⟨o, e⟩) => exact .inl (.inr ⟨o, x _ _ e (ne_of e hp (by intro z; cases z))⟩)
  | .inr e => exact .inr e
theorem Ext.sqT {K : PySem.W.Frag} {p a : Addr} {H H1 : Hp} {xs : List V} {kvs : List (Key × V)} (x : Ext p H H1) (hp : H p = some (.dK kvs)) (h : SqT K H a xs) : SqT K H1 a xs := by
  match h with
  | .inl (.inl e) => exact .inl (.inl (x _ _ e (ne_of e hp (by intro z; cases z))))
  | .inl (.inr ⟨o, e⟩) => exact .inl (.inr ⟨o, x _ _ e (ne_of e hp (by intro z; cases z))⟩)
  | .inr e => exact .inr e
theorem Ext.is {p a : Addr} {H H1 : Hp} {xs : List V} {kvs : List (Key × V)} (x : Ext p H H1) (hp : H p = some (.dK kvs)) (h : H a = some (.lst xs)) : H1 a = some (.lst xs) := x _ _ h (ne_of h hp (by intro z; cases z))
theorem Ext.isT {p a : Addr} {H H1 : Hp} {xs : List V} {kvs : List (Key × V)} (x : Ext p H H1) (hp : H p = some (.dK kvs)) (h : H a = some (.tup xs)) : H1 a = some (.tup xs) := x _ _ h (ne_of h hp (by intro z; cases z))
theorem Pen.keepL {K : PySem.W.Frag} {p c a : Addr} {T : Nat} {H H1 : Hp} {xs : List V} (q : Pen H p c T) (x : Ext p H H1) (h : SqL K H a xs) : SqL K H1 a xs := by
  obtain ⟨t, l, hp⟩ := q.is
  exact x.sqL hp h
theorem Pen.keepT {K : PySem.W.Frag} {p c a : Addr} {T : Nat} {H H1 : Hp} {xs : List V} (q : Pen H p c T) (x : Ext p H H1) (h : SqT K H a xs) : SqT K H1 a xs := by
  obtain ⟨t, l, hp⟩ := q.is
  exact x.sqT hp h
theorem Pen.keepI {p c a : Addr} {T : Nat} {H H1 : Hp} {xs : List V} (q : Pen H p c T) (x : Ext p H H1) (h : H a = some (.lst xs)) : H1 a = some (.lst xs) := by
  obtain ⟨t, l, hp⟩ := q.is
  exact x.is hp h
def spPick (K : PySem.W.Frag) : Sp := fun vs H Q _ => ∃ (p c : Addr) (o : V) (xs : List V) (T : Nat), vs = [.ref p, o] ∧ Opts K H o xs ∧ xs ≠ [] ∧ xs.length ≤ 1000 ∧ Pen H p c T ∧ T < 1000000000 ∧
  ∀ (v : V) (H' : Hp), v ∈ xs → Pen H' p c (T + 1) → Ext p H H' → Q v H'
def letS : Str := "\n !\"#$&'()*+,-./0123456789:;<=>?@ABCDEFGHIJKLMNOPQRSTUVWXYZ[\\]^_`abcdefghijklmnopqrstuvwxyz{|}~"
def spSigns : Sp := fun vs H Q _ => vs = [] ∧ Q (.str letS) H
/-- what few gives: one to three letters -/
def Few (z : Str) : Prop := 1 ≤ z.length ∧ z.length ≤ 3 ∧ ∀ c ∈ z.cps.toList, c ∈ letS.cps.toList
def spFew : Sp := fun vs H Q _ => ∃ (p c : Addr) (T : Nat), vs = [.ref p] ∧ Pen H p c T ∧ T + 4 < 1000000000 ∧ ∀ (z : Str) (H' : Hp), Few z → Pen H' p c (T + 4) → Ext p H H' → Q (.str z) H'
/-- a word of the letters of z, a to b of them -/
def Word (z : Str) (a b : Nat) (x : Str) : Prop := a ≤ x.length ∧ x.length ≤ b ∧ ∀ c ∈ x.cps.toList, c ∈ z.cps.toList
def spWord : Sp := fun vs H Q _ => ∃ (p c : Addr) (z : Str) (a b T : Nat), vs = [.ref p, .str z, .int a, .int b] ∧ a ≤ b ∧ b ≤ 100 ∧ 1 ≤ z.length ∧ z.length ≤ 1000 ∧ Pen H p c T ∧ T + 200 < 1000000000 ∧
  ∀ (x : Str) (H' : Hp), Word z a b x → Pen H' p c (T + b + 1) → Ext p H H' → Q (.str x) H'
theorem cut63 (ns : List Int) : ∃ ms : List Int, cutV (ns.map V.int) none (some 63) = ms.map V.int ∧ ms.length ≤ 63 := by
  refine ⟨ns.take 63, ?_, List.length_take_le _ _⟩
  unfold cutV
  rw [HT.sIx_none, show (63 : Int) = ((63 : Nat) : Int) from rfl, HT.sIx_nat, List.drop_zero, Nat.sub_zero, List.map_take, Nat.min_comm, ← List.take_take]
  exact List.take_of_length_le (by rw [List.length_take]; omega)
theorem one_len (z : Str) : (z.cps.toList.map OneS).length = z.length := by
  rw [List.length_map]
  exact Array.length_toList
theorem join_nil : ∀ ls : List (List Nat), TL.joinL [] ls = ls.flatten
  | [] => rfl
  | [p] => by simp [TL.joinL]
  | p :: q :: r => by
    show p ++ ([] ++ TL.joinL [] (q :: r)) = _
    rw [List.nil_append, join_nil (q :: r)]
    rfl
theorem join_ones (cs : List Nat) : Txt.join "" (cs.map fun c => (⟨#[c]⟩ : Str)) = ⟨cs.toArray⟩ := by
  rw [TL.join_eq]
  refine TL.ext_tl ?_
  rw [TL.tl_join]
  refine (join_nil _).trans ?_
  show (List.map TL.tl (cs.map fun c => (⟨#[c]⟩ : Str))).flatten = cs
  rw [List.map_map]
  induction cs with
  | nil => rfl
  | cons c r ih => exact congrArg (c :: ·) ih
theorem ones_len (cs : List Nat) : ((cs.map fun c => (⟨#[c]⟩ : Str)).map (·.length)).sum = cs.length := by
  induction cs with
  | nil => rfl
  | cons c r ih =>
    rw [List.map_cons, List.map_cons, List.sum_cons, ih, List.length_cons]
    show 1 + r.length = r.length + 1
    omega
theorem ones_map (cs : List Nat) : (cs.map fun c => (⟨#[c]⟩ : Str)).map V.str = cs.map OneS := List.map_map
theorem noq_list : (Txt.replace letS "q" "").cps.toList = letS.cps.toList.filter (· != 113) := replace_strikes letS 113
theorem noq_len : (Txt.replace letS "q" "").length = 94 := by
  rw [show (Txt.replace letS "q" "").length = (Txt.replace letS "q" "").cps.toList.length from Array.length_toList.symm, noq_list]
  decide +kernel
theorem noq_in {c : Nat} (h : c ∈ (Txt.replace letS "q" "").cps.toList) : c ∈ letS.cps.toList := by
  rw [noq_list] at h
  exact (List.mem_filter.mp h).1
theorem ones_of {z : Str} {v : V} (h : v ∈ z.cps.toList.map OneS) : ∃ c, v = OneS c ∧ c ∈ z.cps.toList := by
  obtain ⟨c, hc, e⟩ := List.mem_map.mp h
  exact ⟨c, e.symm, hc⟩
theorem opts_ne {z : Str} (h : 1 ≤ z.length) : z.cps.toList.map OneS ≠ [] := fun e => by
  have q := one_len z
  rw [e] at q
  simp at q
  omega
theorem opts_le {z : Str} {n : Nat} (h : z.length ≤ n) : (z.cps.toList.map OneS).length ≤ n := by
  rw [one_len]
  exact h
/-- the fixed choices of few are few -/
theorem few_of {z : Str} (h : (decide (1 ≤ z.length) && decide (z.length ≤ 3) && z.cps.toList.all fun c => decide (c ∈ letS.cps.toList)) = true) : Few z := by
  simp only [Bool.and_eq_true, decide_eq_true_eq, List.all_eq_true] at h
  exact ⟨h.1.1, h.1.2, h.2⟩
theorem few_ones {cs : List Nat} (h1 : 1 ≤ cs.length) (h3 : cs.length ≤ 3) (h : ∀ c ∈ cs, c ∈ letS.cps.toList) : Few ⟨cs.toArray⟩ := ⟨by simpa [Str.length] using h1, by simpa [Str.length] using h3, by simpa using h⟩
/-! ## rules whose written part is named (within a comprehension's block) -/
section
variable {X : Cx} {K : PySem.W.Frag}
theorem ix_seqK (h : X.K = K) : IxR X (rIx K) := h ▸ ix_seq
theorem ix_listK (h : X.K = K) : IxR X (rIxL K) := h ▸ ix_list
theorem op_notIn_seqK (h : X.K = K) : OpR X (compareOp .NotIn) (rIn K true) := h ▸ op_notIn_seq
theorem sl_listK (h : X.K = K) : SlR X (rSlL K) := h ▸ sl_list
theorem call_lenK (h : X.K = K) : CallR X (.builtin "len") (fun xs H Q => ∃ x n, xs = [x] ∧ LenV K x H n ∧ Q (.int n) H) := h ▸ call_len
end
theorem cutV_mem {xs : List V} {lo hi : Option Int} {v : V} (h : v ∈ cutV xs lo hi) : v ∈ xs := List.mem_of_mem_drop (List.mem_of_mem_take h)
theorem cutV_all {xs : List V} {lo hi : Option Int} {f : V → Bool} (h : xs.all f = true) : (cutV xs lo hi).all f = true := List.all_eq_true.mpr fun v hv => List.all_eq_true.mp h v (cutV_mem hv)
theorem ones_flat (cs : List Nat) : (cs.map OneS).all flatV = true := List.all_eq_true.mpr fun v hv => by
  obtain ⟨c, _, rfl⟩ := List.mem_map.mp hv
  rfl
theorem cutV_zero (xs : List V) : cutV xs none (some 0) = [] := by
  unfold cutV
  rw [HT.sIx_none, show (0 : Int) = ((0 : Nat) : Int) from rfl, HT.sIx_nat]
  simp
theorem one_mem {cs : List Nat} {v : V} (h : v ∈ cs.map OneS) : ∃ c, v = OneS c ∧ c ∈ cs := by
  obtain ⟨c, hc, e⟩ := List.mem_map.mp h
  exact ⟨c, e.symm, hc⟩
end Vk
set_option Elab.async false
set_option maxRecDepth 100000
set_option linter.all false
namespace Vk
open PySem PySem.Spec PyProof.Rows L2
/-! ## how long what is shown may be -/
theorem listText_le : ∀ ts : List Str, (listText ts).length ≤ piled ts + 2
  | [] => by decide +kernel
  | t :: r => by
    have h := textFrom_length_pos r 1 (("[" : Str) ++ (if (0 : Nat) > 0 then ", " else "" : String) ++ t) (Nat.succ_pos 0)
    have e : (listText (t :: r)).length = (textFrom 1 (("[" : Str) ++ (if (0 : Nat) > 0 then ", " else "" : String) ++ t) r).length + 1 := strLen_append _ _
    rw [e, h, strLen_append, strLen_append, piled_cons]
    show 1 + 0 + t.length + piled r + 1 ≤ _
    omega
theorem piled_le {ts : List Str} {n : Nat} (h : ∀ t ∈ ts, t.length ≤ n) : piled ts ≤ ts.length * (n + 2) := by
  induction ts with
  | nil => exact Nat.zero_le _
  | cons t r ih =>
    have h1 := h t List.mem_cons_self
    have h2 := ih fun u hu => h u (List.mem_cons_of_mem _ hu)
    rw [piled_cons, List.length_cons, Nat.succ_mul]
    omega
theorem shownAll_map : ∀ ds : List PyData, PyData.shownAll ds = ds.map PyData.shown
  | [] => rfl
  | d :: r => congrArg (d.shown :: ·) (shownAll_map r)
theorem showableAll_iff : ∀ {ds : List PyData}, (∀ d ∈ ds, d.showable = true) → PyData.showableAll ds = true
  | [], _ => rfl
  | d :: r, h => by
    show (d.showable && PyData.showableAll r) = true
    rw [h d List.mem_cons_self, showableAll_iff fun e he => h e (List.mem_cons_of_mem _ he)]
    rfl
theorem hasDictAll_of : ∀ {ds : List PyData}, (∀ d ∈ ds, d.hasDict = false) → PyData.hasDictAll ds = false
  | [], _ => rfl
  | d :: r, h => by
    show (d.hasDict || PyData.hasDictAll r) = false
    rw [h d List.mem_cons_self, hasDictAll_of fun e he => h e (List.mem_cons_of_mem _ he)]
    rfl
theorem depthAll_le : ∀ {ds : List PyData} {n : Nat}, (∀ d ∈ ds, d.depth ≤ n) → PyData.depthAll ds ≤ n
  | [], _, _ => Nat.zero_le _
  | d :: r, n, h => Nat.max_le.mpr ⟨h d List.mem_cons_self, depthAll_le fun e he => h e (List.mem_cons_of_mem _ he)⟩
/-- d may be shown, in at most n signs, at most k deep -/
structure Showy (d : PyData) (k n : Nat) : Prop where
  sh : d.showable = true
  nd : d.hasDict = false
  dp : d.depth ≤ k
  ln : d.shown.length ≤ n
theorem Showy.list {ds : List PyData} {k n : Nat} (h : ∀ d ∈ ds, Showy d k n) : Showy (.list ds) (k + 1) (ds.length * (n + 2) + 2) := by
  refine ⟨showableAll_iff fun d hd => (h d hd).sh, hasDictAll_of fun d hd => (h d hd).nd, Nat.succ_le_succ (depthAll_le fun d hd => (h d hd).dp), ?_⟩
  show (listText (PyData.shownAll ds)).length ≤ _
  rw [shownAll_map]
  have h1 := listText_le (ds.map PyData.shown)
  have h2 := piled_le (ts := ds.map PyData.shown) (n := n) fun t ht => by
    obtain ⟨d, hd, rfl⟩ := List.mem_map.mp ht
    exact (h d hd).ln
  rw [List.length_map] at h2
  omega
theorem Showy.tuple {ds : List PyData} {k n : Nat} (h : ∀ d ∈ ds, Showy d k n) : Showy (.tuple ds) (k + 1) (ds.length * (n + 2) + 2) := by
  refine ⟨showableAll_iff fun d hd => (h d hd).sh, hasDictAll_of fun d hd => (h d hd).nd, Nat.succ_le_succ (depthAll_le fun d hd => (h d hd).dp), ?_⟩
  show (tupleText (PyData.shownAll ds)).length ≤ _
  rw [shownAll_map]
  have h1 := fmt_text (ds.map PyData.shown)
  have h2 := piled_le (ts := ds.map PyData.shown) (n := n) fun t ht => by
    obtain ⟨d, hd, rfl⟩ := List.mem_map.mp ht
    exact (h d hd).ln
  rw [List.length_map] at h2
  omega
theorem Showy.int {i : Int} (h : i.natAbs < 10 ^ 100) : Showy (.int i) 0 101 := by
  have hl : i.natAbs.log2 < 1920 := by
    by_cases h0 : i.natAbs = 0
    · rw [h0]; decide
    · exact (Nat.log2_lt h0).mpr (Nat.lt_of_lt_of_le h (by decide +kernel))
  refine ⟨decide_eq_true hl, rfl, Nat.le_refl _, ?_⟩
  show (Str.ofString (toString i)).length ≤ 101
  rw [PySem.ofString_length]
  exact int_text_length_le10 (k := 100) (by decide) h
theorem Showy.mono {d : PyData} {k k' n n' : Nat} (h : Showy d k n) (h1 : k ≤ k') (h2 : n ≤ n') : Showy d k' n' := ⟨h.sh, h.nd, Nat.le_trans h.dp h1, Nat.le_trans h.ln h2⟩
/-! ## places of words -/
open StrLaws in
theorem find_from (x y : Str) (lo : Nat) (hlo : lo ≤ x.length + 1) :
    ((match Builtin.Str.occurrences x y lo x.length 1 with | i :: _ => (i : Int) | [] => -1) = -1 ∧ ∀ i, lo ≤ i → ¬ At x y x.length i) ∨
    ∃ i : Nat, (match Builtin.Str.occurrences x y lo x.length 1 with | i :: _ => (i : Int) | [] => -1) = (i : Int) ∧ lo ≤ i ∧ At x y x.length i ∧ ∀ k, lo ≤ k → k < i → ¬ At x y x.length k := by
  rw [occ_eq]
  have inr : ∀ i, lo ≤ i → i ≤ x.length → i ∈ List.range' lo (x.length + 1 - lo) := fun i h1 h2 => by
    simp only [List.mem_range'_1]
    omega
  rcases occ_first x y x.length 1 (Nat.le_refl _) (List.range' lo (x.length + 1 - lo)) lo (fun i hi => (List.mem_range'_1.mp hi).1) with ⟨h0, hn⟩ | ⟨pre, a, post, e, h0, ha, hn⟩
  · refine .inl ⟨by rw [h0], fun i hi hA => hn i (inr i hi (Nat.le_trans (Nat.le_add_right _ _) hA.1)) hA⟩
  · refine .inr ⟨a, ?_, ?_, ha, fun k h1 h2 => ?_⟩
    · generalize (forIn (List.range' lo (x.length + 1 - lo)) ((#[] : Array Nat), lo) (occBody x y x.length 1)).run.fst = arr at h0
      have h1 : arr.toList[0]? = some a := by simpa using h0
      match hL : arr.toList with
      | [] => rw [hL] at h1; cases h1
      | b :: t => rw [hL] at h1; simp at h1; rw [h1]
    · exact (List.mem_range'_1.mp (by rw [e]; exact List.mem_append_right _ List.mem_cons_self : a ∈ List.range' lo (x.length + 1 - lo))).1
    · refine hn k ?_
      have hk : k ∈ pre ++ a :: post := by
        rw [← e]
        refine inr k h1 ?_
        have q := ha.1
        omega
      have pw : (pre ++ a :: post).Pairwise (· < ·) := by rw [← e]; exact List.pairwise_lt_range'
      rcases List.mem_append.mp hk with hk | hk
      · exact hk
      · rcases List.mem_cons.mp hk with rfl | hk
        · exact absurd h2 (Nat.lt_irrefl _)
        · have q := (List.pairwise_cons.mp (List.pairwise_append.mp pw).2.1).1 k hk
          omega
def atB (x w : Str) (i : Nat) : Bool := decide (i + w.length ≤ x.length) && Builtin.Str.subAt x w i
theorem atB_iff (x w : Str) (i : Nat) : atB x w i = true ↔ StrLaws.At x w x.length i := by
  unfold atB StrLaws.At
  simp
/-- all places of a word in a text -/
def plc (x w : Str) : List Nat := (List.range (x.length + 1)).filter (atB x w)
theorem filter_more {P : Nat → Bool} {lo m : Nat} (h : lo ≤ m) (hn : ∀ i, lo ≤ i → i < m → P i = false) : (List.range m).filter P = (List.range lo).filter P := by
  induction m with
  | zero => rw [Nat.le_zero.mp h]
  | succ m ih =>
    by_cases e : lo = m + 1
    · rw [e]
    · rw [List.range_succ, List.filter_append, ih (by omega) fun i h1 h2 => hn i h1 (by omega)]
      have q := hn m (by omega) (Nat.lt_succ_self _)
      simp [q]
theorem filter_snoc {P : Nat → Bool} {m : Nat} (h : P m = true) : (List.range (m + 1)).filter P = (List.range m).filter P ++ [m] := by
  rw [List.range_succ, List.filter_append]
  simp [h]
def plcI (x w : Str) : List Int := (plc x w).map Int.ofNat
def spPlaces (K : PySem.W.Frag) : Sp := fun vs H Q _ => ∃ (x w : Str), vs = [.str x, .str w] ∧ x.length ≤ 10000 ∧ w.length ≤ 10000 ∧
  ∀ (a : Addr) (H' : Hp), H a = none → H' a = some (.lst ((plcI x w).map V.int)) → Same H H' → Q (.ref a) H'
/-- the slice of a text at a place -/
theorem cut_at (x w : Str) (k : Nat) (h : k + w.length ≤ x.length) : decide (V.str (cutS x (some (k : Int)) (some ((k : Int) + (w.length : Int)))) = V.str w) = atB x w k := by
  have e : cutS x (some (k : Int)) (some ((k : Int) + (w.length : Int))) = ⟨((x.cps.toList.drop k).take w.length).toArray⟩ := by
    unfold cutS
    rw [show (k : Int) + (w.length : Int) = ((k + w.length : Nat) : Int) by omega, HT.sIx_nat, HT.sIx_nat, Nat.min_eq_left h, Nat.min_eq_left (show k ≤ x.length by omega), show k + w.length - k = w.length by omega]
  rw [e]
  unfold atB
  rw [StrLaws.subAt_eq, decide_eq_true h, Bool.true_and, Bool.eq_iff_iff, decide_eq_true_eq, beq_iff_eq]
  constructor
  · intro q
    have q2 := V.str.inj q
    exact congrArg (fun z : Str => z.cps.toList) q2
  · intro q
    rw [q]
end Vk
set_option Elab.async false
set_option maxRecDepth 100000
set_option linter.all false
namespace Vk
open PySem PySem.Spec PyProof.Rows L2
/-! ## a text some times -/
section
variable {X : Cx}
end
/-! ## a def called by keywords alone -/
structure CalK (P : Program) (w : World) (K : PySem.W.Frag) (mg : Str → Option Value) (base : Heap) (CX : CXT) (k : Nat) (x : Str) (sp : Sp) (ks : List Str) (g : {α : Type} → List α → List α) : Prop where
  ex : ∃ (f : Addr) (fd : FuncData) (ps : List Str), FnG P w K mg base CX k f fd ps sp ∧ mg x = some (.ref f) ∧ PySem.W.keepIn K (.ref f) = true ∧
    (∀ (s : Shared) (ws : List Value), K.In s.heap → ws.length = ks.length → BindsTo s fd ⟨[], ks.zip ws⟩ (ps.zip (g ws))) ∧ ∀ (vs : List V) (ws : List Value), Vals vs ws → vs.length = ks.length → Vals (g vs) (g ws)
def tCallW (n : Nat) (sp : Sp) (g : {α : Type} → List α → List α) (E : XK) (t : TA) : TE := fun σ H Q => t σ H fun vs H1 => vs.length = n ∧ sp (g vs) H1 Q E
section
variable {X : Cx} {CX : CXT} {j k : Nat} {sp : Sp} {E : XK} {x : Str} {p pos : Pos} {kws : List Keyword} {tk : TA} {ks : List Str} {g : {α : Type} → List α → List α}
theorem pe_kw (c : CalK X.prog X.w X.K X.mg X.base CX k x sp ks g) (hg : X.A.guards = some []) (hr : Room j X.A) (hk : k ≤ j) (hx : Passes CX X E) (hkw : PK X kws tk) (gl : Gl X x := by rfl)
    (hall : (backToKw pos (keywordEach kws X.env)).all (·.1.isSome) = true := by rfl) (hks : (backToKw pos (keywordEach kws X.env)).filterMap (·.1) = ks := by rfl) (hdb : (x == ("__debug__" : Str)) = false := by decide)
    (hpl : ((backTo pos (starEach [] X.env)).any (·.1) || (backToKw pos (keywordEach kws X.env)).any (·.1.isNone)) = false := by rfl) :
    PE X (.Call (.Name x p) [] kws pos) (tCallW ks.length sp g E tk) := by
  obtain ⟨f, fd, ps, F, hm, kp, hb, hv⟩ := c.ex
  refine ⟨fun pins s σ H Q I h => wpAny_Call_Name_kw (ld_glob I gl hm (PySem.W.callWith_KW0 (h₀ := X.base) I.ok.mod.kin kp hall (thn (hkw.run pos pins s σ H _ I h) fun ws s2 hh => ?_) hpl) hdb)⟩
  obtain ⟨vs, H2, I2, rz, l2, q2⟩ := hh
  refine ⟨I2.kIn, ?_⟩
  rw [hks]
  refine wpAny_call (codeAny_mono (F.run X.A X.stack s2 H2 ⟨[], ks.zip ws⟩ (g ws) (g vs) Q E hg (hr.mono hk) I2.env0 (hb s2 ws I2.kIn (rz.length.symm.trans l2)) (hv vs ws rz l2) q2) (fun res s3 hq => ?_))
  match res, hq with
  | .error e, hq => exact hx pins σ H2 s2 e s3 I2 hq
  | .ok (.ret u), hq => exact I2.after hq
  | .ok .next, hq => exact hq.elim
  | .ok .brk, hq => exact hq.elim
  | .ok .cont, hq => exact hq.elim
end
theorem vals_rev : ∀ {vs : List V} {ws : List Value}, Vals vs ws → Vals vs.reverse ws.reverse
  | _, _, .nil => .nil
  | _, _, .cons r t => by
    rw [List.reverse_cons, List.reverse_cons]
    exact (vals_rev t).append (.cons r .nil)
/-! ## a def of the text as the head leaves it -/
structure At (K : PySem.W.Frag) (x : Str) (st : Stmt) (f : Addr) (fd : FuncData) : Prop where
  ns : PySem.W.nsIn K mainGlobals x = some (some (.ref f))
  fn : Fun K x x st f fd
theorem at_mk {K : PySem.W.Frag} {x : Str} {st : Stmt} {f : Addr} {oc : Value} {od an : Option Addr} {sl : Array (Option Value)} {kV doc pm cd ct : Value} (a : PySem.W.nsIn K mainGlobals x = some (some (.ref f)))
    (l : K.lookup f = some ⟨oc, od, .func (PySem.W.fnOf x x (defArgs st) (defBody st) (defScope st) .none kV doc pm an cd ct), sl⟩) (c : PySem.W.codeIn K cd x = true) (k : PySem.W.keepIn K (.ref f) = true) :
    At K x st f (PySem.W.fnOf x x (defArgs st) (defBody st) (defScope st) .none kV doc pm an cd ct) := ⟨a, fun_mk l c k⟩
section
variable {K : PySem.W.Frag} {x y qual : Str} {st : Stmt} {f : Addr} {fd : FuncData} {ps ks : List Str} {g : List Value → List Value}
theorem _root_.L2.Fun.kwb (F : Fun K x qual st f fd)
    (h : ∀ (kV doc pm : Value) (an : Option Addr) (cdv ct : Value) (ws : List Value), ws.length = ks.length → bindArgs (PySem.W.fnOf x qual (defArgs st) (defBody st) (defScope st) .none kV doc pm an cdv ct) ⟨[], ks.zip ws⟩ = pure (ps.zip (g ws))) :
    ∀ (s : Shared) (ws : List Value), K.In s.heap → ws.length = ks.length → BindsTo s fd ⟨[], ks.zip ws⟩ (ps.zip (g ws)) := by
  obtain ⟨oc, od, kV, doc, pm, an, cdv, ct, osl, rfl, lk, hcd⟩ := F.ex
  exact fun s ws _ hl => .of_eq (h kV doc pm an cdv ct ws hl)
theorem _root_.L2.Fun.binds1 (F : Fun K x qual st f fd)
    (h : ∀ {kV doc pm : Value} {an : Option Addr} {cdv ct : Value} {v : Value}, bindArgs (PySem.W.fnOf x qual (defArgs st) (defBody st) (defScope st) .none kV doc pm an cdv ct) ⟨[v], []⟩ = pure [(y, v)]) :
    ∀ (s : Shared) (v : Value), BindsTo s fd ⟨[v], []⟩ [(y, v)] := by
  obtain ⟨oc, od, kV, doc, pm, an, cdv, ct, osl, rfl, lk, hcd⟩ := F.ex
  exact fun s v => .of_eq h
end
end Vk
set_option Elab.async false
set_option maxRecDepth 100000
set_option maxHeartbeats 4000000
set_option linter.all false
namespace PySem
namespace VkX
open PySem.W PySem.Calls PyProof.Rows Builtin Builtin.ObjectAttr PySem.HandSPX
/-! ## own exception classes straight below one of the four -/
structure ExB (B newId initId : String) (tl : List Value) : Prop where
  F : ExcBaseFacts B newId initId tl
  pass : ∀ self : Value, refuseLoop self "__setattr__" tl = pure ()
  obj : tl.contains (.type "object") = true
  refs : tl.all (fun v => match v with | .type _ => true | _ => false) = true
section
variable {M : Model} {A : Around} {E : Value → Shared → Prop} {h : Heap} {g : Array GenState} {d : Drawn} {t : Nat} {os : OsState}
variable {nm q : Str} {C N : Addr} {bs bm : List Value} {hdct : Bool} {sn : List Str} {sub : List Value} {ab : Bool} {col : Option Bool} {dd : Option Addr} {k0 k1 k2 k3 k5 : Option Value} {B newId initId : String}
end
section
variable {prog : Program} {w : World} {A : Around} {E : Value → Shared → Prop} {R : Result → Shared → Prop} {h : Heap} {g : Array GenState} {d : Drawn} {t : Nat} {os : OsState}
variable {nm q : Str} {C N : Addr} {bs bm : List Value} {hdct : Bool} {sn : List Str} {sub : List Value} {ab : Bool} {col : Option Bool} {dd : Option Addr} {k0 k1 k2 k3 k5 : Option Value} {B newId initId : String}
end
end VkX
end PySem
set_option Elab.async false
set_option maxRecDepth 100000
set_option maxHeartbeats 4000000
set_option linter.all false
namespace PySem
namespace VkX
open PySem.W PySem.Calls PyProof.Rows Builtin Builtin.ObjectAttr PySem.HandSPX
section
variable {prog : Program} {w : World} {A : Around} {E : Value → Shared → Prop} {R : Result → Shared → Prop} {hp : Heap} {g : Array GenState} {d : Drawn} {t : Nat} {os : OsState}
end
end VkX
end PySem
namespace Vk
open L2 PySem PySem.Spec PyProof.Rows PySem.VkX
/-- what the written part says of an own exception class over one of the four -/
structure OexK (K : PySem.W.Frag) (C : Addr) : Prop where
  cls : ∃ B newId initId tl nm q N bs sn sub ab col dd k0 k1 k2 k3 k5, ExB B newId initId tl ∧ K.lookup C = some (excClassObj nm q C N bs tl true sn sub ab col dd k0 k1 k2 k3 k5 newId)
  sa : PySem.W.findIn K (.ref C) "__setattr__" = some (some (.builtin "object.__setattr__"))
  kC : PySem.W.keepIn K (.ref C) = true
  xf : XfC K C
  ic : ExcC K C
section
variable {X : Cx} {pins : List (Addr × Obj)} {σ : L2.St} {H : Hp} {s : Shared} {a C dx : Addr} {f : Str} {y : V} {u : Value} {fs : List (Str × V)} {Q : Unit → Shared → Prop} {E : Value → Shared → Prop} {A : Around}
end
section
variable {X : Cx} {o e : Expr} {es : List Expr} {to te : TE} {ta : TA} {f : Str} {p p' p1 p2 pos : Pos}
end
end Vk
set_option Elab.async false
set_option maxRecDepth 100000
set_option maxHeartbeats 4000000
set_option linter.all false
namespace Vk
open L2 PySem PySem.Spec PyProof.Rows PySem.VkX
/-! ## making one -/
/-- __init__(self, f1, ..): the fields stored in their order -/
def spIni (C : Addr) (fsn : List Str) : Sp := fun vs H Q E => ∃ a ws, vs = .ref a :: ws ∧ ws.length = fsn.length ∧ H a = some (exo a C none) ∧
  (fsn = [] → Q .non H) ∧ (fsn ≠ [] → ∀ d, H d = none → d ≠ a → Q .non (upd (upd H d (exd d (fsn.zip ws).reverse)) a (exo a C (some d))))
structure ClsI (P : Program) (w : World) (K : PySem.W.Frag) (mg : Str → Option Value) (base : Heap) (k : Nat) (x : Str) (C : Addr) (fsn : List Str) : Prop where
  T : OexK K C
  hm : mg x = some (.ref C)
  no : ∀ f ∈ fsn, PySem.W.findIn K (.ref C) f = some none
  ex : ∃ (fI : Addr) (fd : FuncData), PySem.W.findIn K (.ref C) "__init__" = some (some (.ref fI)) ∧ PySem.W.typeIn K (.ref fI) = some (.type "function") ∧ FnG P w K mg base CX0 k fI fd (("self" : Str) :: fsn) (spIni C fsn) ∧ Binds K fd (("self" : Str) :: fsn) [] ∧
    (∀ (s : Shared) (v : Value) (ws : List Value), K.In s.heap → ws.length = fsn.length → BindsTo s fd ⟨[v], fsn.reverse.zip ws⟩ ((("self" : Str) :: fsn).zip (v :: ws.reverse)))
/-- the exception that was made of H: at a, and its dict -/
def Made (C : Addr) (fsn : List Str) (vs : List V) (H : Hp) (Q : VK) : Prop := ∀ a, H a = none → (fsn = [] → Q (.ref a) (upd H a (exo a C none))) ∧
  (fsn ≠ [] → ∀ d, H d = none → d ≠ a → Q (.ref a) (upd (upd H d (exd d (fsn.zip vs).reverse)) a (exo a C (some d))))
section
variable {X : Cx} {j k : Nat} {x : Str} {C : Addr} {fsn : List Str} {p pos : Pos} {e : Expr} {es : List Expr} {t : TA}
theorem few_len {n : Nat} (h : n ≤ 1000) : n ≤ sizeLine := Nat.le_trans h (by rw [sizeLine_eq]; decide)
end
end Vk
set_option Elab.async false
set_option maxRecDepth 100000
set_option maxHeartbeats 4000000
set_option linter.all false
namespace Vk
open L2 PySem PySem.Spec PyProof.Rows PySem.VkX
theorem no1 {P : Str → Prop} {a : Str} (h : P a) : ∀ f ∈ ([a] : List Str), P f := fun f z => by
  rw [List.mem_singleton] at z
  exact z ▸ h
theorem no2 {P : Str → Prop} {a b : Str} (h : P a) (h2 : P b) : ∀ f ∈ ([a, b] : List Str), P f := fun f z => by
  rcases List.mem_cons.mp z with z | z
  · exact z ▸ h
  · rw [List.mem_singleton] at z
    exact z ▸ h2
/-- the class at C has the name x and these classes behind it -/
def ClsN (K : PySem.W.Frag) (C : Addr) (x : Str) (tl : List Value) : Prop := ∃ newId q N bs sn sub ab col dd k0 k1 k2 k3 k5, K.lookup C = some (excClassObj x q C N bs tl true sn sub ab col dd k0 k1 k2 k3 k5 newId)
structure ExcTxt (K : PySem.W.Frag) (x qual : Str) (st : Stmt) (C fI : Addr) (fd : FuncData) (fsn : List Str) (tl : List Value) : Prop where
  cn : ClsN K C x tl
  ns : PySem.W.nsIn K mainGlobals x = some (some (.ref C))
  T : OexK K C
  iC : PySem.W.findIn K (.ref C) "__init__" = some (some (.ref fI))
  tI : PySem.W.typeIn K (.ref fI) = some (.type "function")
  no : ∀ f ∈ fsn, PySem.W.findIn K (.ref C) f = some none
  fn : Fun K "__init__" qual st fI fd
section
variable {P : Program} {w : World} {K : PySem.W.Frag} {mg : Str → Option Value} {base h : Heap} {x qual f f2 : Str} {st : Stmt} {C fI : Addr} {fd : FuncData} {p1 p2 p3 p4 q1 q2 q3 q4 : Pos}
end
end Vk
namespace Vk
open L2 PySem PySem.Spec PyProof.Rows PySem.VkX
end Vk
set_option Elab.async false
set_option maxRecDepth 100000
set_option maxHeartbeats 4000000
set_option linter.all false
namespace Vk
open L2 PySem PySem.Spec PyProof.Rows PySem.VkX
/-! ## values that are shown, dicts among them -/
inductive Atm : V → PyData → Prop
  | non : Atm .non .none
  | bl (b : Bool) : Atm (.bl b) (.bool b)
  | int (i : Int) : Atm (.int i) (.int i)
  | str (x : Str) : Atm (.str x) (.str x)
def kvS (ps : List (Str × Str)) : List (Key × V) := ps.map fun p => (Sum.inr p.1, V.str p.2)
def kvD (ps : List (Str × Str)) : List (PyData × PyData) := ps.map fun p => (.str p.1, .str p.2)
/-- one level deep -/
inductive Th (H : Hp) : V → PyData → Prop
  | atm {v : V} {d : PyData} : Atm v d → Th H v d
  | lst {a : Addr} {xs : List V} {ds : List PyData} : H a = some (.lst xs) → a ≠ sysModules → Paired Atm xs ds → Th H (.ref a) (.list ds)
  | tup {a : Addr} {xs : List V} {ds : List PyData} : H a = some (.tup xs) → Paired Atm xs ds → Th H (.ref a) (.tuple ds)
  | dct {a : Addr} {ps : List (Str × Str)} : H a = some (.dK (kvS ps)) → Th H (.ref a) (.dict (kvD ps))
theorem Th.keep {H H' : Hp} {v : V} {d : PyData} (h : Th H v d) (k : ∀ a o, H a = some o → H' a = some o) : Th H' v d := by
  cases h with
  | atm h => exact .atm h
  | lst e n h => exact .lst (k _ _ e) n h
  | tup e h => exact .tup (k _ _ e) h
  | dct e => exact .dct (k _ _ e)
section
variable {X : Cx} {pins : List (Addr × Obj)} {σ : L2.St} {H : Hp} {s : Shared}
theorem Atm.reads {h : Heap} {v : V} {u : Value} {d : PyData} (a : Atm v d) (r : RelV v u) : Reads h u d [] ∧ d.hasDict = false := by
  cases a with
  | non => cases r; exact ⟨Reads.none, by simp only [PyData.hasDict]⟩
  | bl b => cases r; exact ⟨Reads.bool b, by simp only [PyData.hasDict]⟩
  | int i => obtain ⟨t, rfl⟩ := r; exact ⟨Reads.int i t, by simp only [PyData.hasDict]⟩
  | str x => obtain ⟨t, rfl⟩ := r; exact ⟨Reads.str x t, by simp only [PyData.hasDict]⟩
theorem atms_reads {h : Heap} : ∀ {vs : List V} {ds : List PyData} {us : List Value}, Paired Atm vs ds → Vals vs us → ReadsAll h us ds [] ∧ PyData.hasDictAll ds = false
  | _, _, _, .nil, .nil => ⟨ReadsAll.nil, by simp only [PyData.hasDictAll]⟩
  | _, _, _, .cons a t, .cons r rs => by
    obtain ⟨h1, n1⟩ := a.reads (h := h) r
    obtain ⟨h2, n2⟩ := atms_reads (h := h) t rs
    exact ⟨ReadsAll.cons h1 h2, by simp only [PyData.hasDictAll, n1, n2, Bool.or_false]⟩
theorem strs_read {P : Program} {w : World} {h : Heap} : ∀ {ps : List (Str × Str)} {vs : List (Key × Value)} {es : List DictEntry}, KV (kvS ps) vs → Pairs (mixKind P w) es vs →
    ReadsAll h (es.map (·.key)) ((kvD ps).map (·.1)) [] ∧ ReadsAll h (es.map (·.val)) ((kvD ps).map (·.2)) []
  | [], _, _, .nil, .nil => ⟨ReadsAll.nil, ReadsAll.nil⟩
  | p :: ps, _, _, .cons a t, .cons k v r => by
    obtain ⟨h1, h2⟩ := strs_read (P := P) (w := w) (h := h) (ps := ps) t r
    obtain ⟨e1, e2⟩ := a
    rw [mixKind_is, ← e1] at k
    obtain ⟨y, ey⟩ := (show ∃ y, _ = Value.str p.2 y from e2)
    rcases keyIs_shape k with ⟨i, t, z, _⟩ | ⟨x, t, z, z2⟩
    · cases z
    · cases z
      refine ⟨?_, ?_⟩
      · have q := ReadsAll.cons (Reads.str (h := h) p.1 t) h1
        rw [← z2] at q
        exact q
      · have q := ReadsAll.cons (Reads.str (h := h) p.2 y) h2
        rw [← ey, ← v] at q
        exact q
theorem Th.reads (I : Inv X pins σ H s) {v : V} {u : Value} {d : PyData} (h : Th H v d) (r : RelV v u) : ∃ as, Reads s.heap u d as ∧ sysModules ∉ as := by
  cases h with
  | atm a =>
    obtain ⟨h1, n⟩ := a.reads (h := s.heap) r
    exact ⟨_, h1, List.not_mem_nil⟩
  | lst e ne a =>
    cases r
    obtain ⟨its, rv, ⟨o, n, ho, hc, _, hd⟩, _⟩ := I.list (SqL.of e)
    obtain ⟨h1, n1⟩ := atms_reads (h := s.heap) a rv
    exact ⟨_, Reads.list ho hc hd h1, fun z => by simp at z; exact ne z.symm⟩
  | tup e a =>
    cases r
    obtain ⟨its, rv, ⟨o, ho, hc, n, hd⟩, _⟩ := I.tuple (SqT.of e)
    obtain ⟨h1, n1⟩ := atms_reads (h := s.heap) a rv
    exact ⟨_, Reads.tuple ho hc hd h1, List.not_mem_nil⟩
  | @dct a ps e =>
    cases r
    obtain ⟨_, ne, vs, kv, o, es, ep, ho, ex, hd, _, pr, _⟩ := (show ObjOk X.prog X.w H s.heap a (.dK (kvS ps)) from I.hok a _ e)
    obtain ⟨h1, h2⟩ := strs_read (h := s.heap) kv pr
    refine ⟨_, Reads.dict ho ex.1 hd h1 h2, fun hm => ?_⟩
    have z : sysModules = a := by simpa using hm
    rw [← z] at ne
    exact absurd ne (by decide)
/-- what is handed to repr -/
def Shw (H : Hp) (x : V) (d : PyData) : Prop := Th H x d ∨ ∃ q y e, x = .ref q ∧ H q = some (.lst [y, y]) ∧ q ≠ sysModules ∧ Th H y e ∧ d = .list [e, e]
theorem Shw.reads (I : Inv X pins σ H s) {v : V} {u : Value} {d : PyData} (h : Shw H v d) (r : RelV v u) : ∃ as, Reads s.heap u d as ∧ (d.hasDict = true → sysModules ∉ as) := by
  rcases h with h | ⟨q, y, d, rfl, e, ne, t, rfl⟩
  · obtain ⟨as, h1, n1⟩ := h.reads I r
    exact ⟨as, h1, fun _ => n1⟩
  · cases r
    obtain ⟨its, rv, ⟨o, n, ho, hc, _, hd⟩, _⟩ := I.list (SqL.of e)
    cases rv with
    | cons r1 rv =>
      cases rv with
      | cons r2 rv =>
        cases rv
        obtain ⟨as, h1, n1⟩ := t.reads I r1
        obtain ⟨bs, h2, n2⟩ := t.reads I r2
        refine ⟨_, Reads.list ho hc hd (ReadsAll.cons h1 (ReadsAll.cons h2 ReadsAll.nil)), fun z => ?_⟩
        simp only [PyData.hasDict, PyData.hasDictAll, Bool.or_false, Bool.or_self] at z
        have m1 := n1
        have m2 := n2
        simp only [List.append_nil, List.mem_cons, List.mem_append, not_or]
        exact ⟨fun w => ne w.symm, m1, m2⟩
end
section
variable {X : Cx} {es : List Expr} {pos : Pos} {t : TA}
end
end Vk
set_option Elab.async false
set_option maxRecDepth 100000
set_option maxHeartbeats 4000000
set_option linter.all false
namespace Vk
open L2 PySem PySem.Spec PyProof.Rows PySem.VkX
/-! ## isinstance among own exception classes -/
section
variable {K : PySem.W.Frag} {C D : Addr} {x y : Str} {tl tl2 : List Value}
theorem ClsN.cls (c : ClsN K C x tl) : ∃ cd, PySem.W.clsIn K C = some cd ∧ cd.name = x ∧ cd.mro = .ref C :: tl ∧ PySem.W.typeIn K (.ref C) = some (.type "type") := by
  obtain ⟨newId, q, N, bs, sn, sub, ab, col, dd, k0, k1, k2, k3, k5, e⟩ := c
  refine ⟨{ name := x, bases := bs, mro := .ref C :: tl, ns := N, qualname := q, hasDict := true, slotNames := sn, subclasses := sub, abstract := ab, collection := col, hasDel := false }, ?_, rfl, rfl, ?_⟩
  · unfold PySem.W.clsIn; rw [e] <;> rfl
  · show (K.lookup C).map (·.cls) = _
    rw [e] <;> rfl
theorem ClsN.inj (c : ClsN K C x tl) (d : ClsN K D y tl2) : (C == D) = true → x = y := by
  intro h
  have e : C = D := by simpa using h
  subst e
  obtain ⟨cd, h1, h2, _⟩ := c.cls
  obtain ⟨ce, g1, g2, _⟩ := d.cls
  cases h1.symm.trans g1
  exact h2.symm.trans g2
/-- what stands at a name is one class -/
structure One (K : PySem.W.Frag) (C : Addr) (x : Str) (tl : List Value) : Prop where
  cn : ClsN K C x tl
  ns : PySem.W.nsIn K mainGlobals x = some (some (.ref C))
  rf : tl.all (fun v => match v with | .type _ => true | _ => false) = true
end
/-! ## list.count -/
/-! ## a comprehension over zip of two lists of one length -/
end Vk
set_option Elab.async false
set_option maxRecDepth 100000
set_option maxHeartbeats 4000000
set_option linter.all false
namespace Vk
open L2 PySem PySem.Spec PyProof.Rows PySem.VkX
/-! ## what is laid, told by what it shows -/
theorem Same.rfl {H : Hp} : Same H H := fun _ _ h => h
theorem Same.trans {H H1 H2 : Hp} (a : Same H H1) (b : Same H1 H2) : Same H H2 := fun c o h => b c o (a c o h)
def Mk (t : TE) (d : PyData) : Prop := ∀ σ H Q, (∀ v H', Same H H' → Th H' v d → Q v H') → t σ H Q
section
variable {t te : TE} {ta : TA} {d : PyData} {ds : List PyData}
theorem paired_len {α β : Type} {R : α → β → Prop} : ∀ {xs : List α} {ys : List β}, Paired R xs ys → xs.length = ys.length
  | _, _, .nil => rfl
  | _, _, .cons _ t => congrArg (· + 1) (paired_len t)
theorem ths_keep {H H' : Hp} (k : Same H H') : ∀ {vs : List V} {ds : List PyData}, Paired (Th H) vs ds → Paired (Th H') vs ds
  | _, _, .nil => .nil
  | _, _, .cons a t => .cons (a.keep k) (ths_keep k t)
theorem paired_mem {α β : Type} {R : α → β → Prop} : ∀ {xs : List α} {ys : List β} {x : α}, Paired R xs ys → x ∈ xs → ∃ y, y ∈ ys ∧ R x y
  | _, _, _, .cons a t, h => by
    rcases List.mem_cons.mp h with rfl | h
    · exact ⟨_, List.mem_cons_self, a⟩
    · obtain ⟨y, h1, h2⟩ := paired_mem t h
      exact ⟨y, List.mem_cons_of_mem _ h1, h2⟩
end
/-- nothing of such a value is the pen -/
theorem Th.ext {H H' : Hp} {p c : Addr} {T : Nat} {v : V} {d : PyData} (h : Th H v d) (hp : Pen H p c T) (x : Ext p H H') : Th H' v d := by
  obtain ⟨ns, t, l, hpp, _⟩ := hp.ex
  cases h with
  | atm a => exact .atm a
  | lst e n a => exact .lst (x _ _ e (fun z => by rw [z, hpp] at e; cases e)) n a
  | tup e a => exact .tup (x _ _ e (fun z => by rw [z, hpp] at e; cases e)) a
  | @dct a ps e =>
    refine .dct (x _ _ e (fun z => ?_))
    rw [z, hpp] at e
    have e2 : penL c t l = kvS ps := HO.dK.inj (Option.some.inj e)
    match ps, e2 with
    | [], e2 => cases e2
    | q :: r, e2 =>
      have z := congrArg (fun l => (l.head?).map (·.2)) e2
      cases z
end Vk
namespace Vk
open L2 PySem PySem.Spec PyProof.Rows PySem.VkX
end Vk
namespace Vk
open L2 PySem PySem.Spec PyProof.Rows PySem.VkX
def okB (d : PyData) : Bool := d.showable && decide (d.depth ≤ 60) && decide (d.shown.length ≤ 1000) && (PyData.list [d, d]).showable && decide ((PyData.list [d, d]).depth ≤ 60) && decide ((PyData.list [d, d]).shown.length ≤ 10000)
end Vk
set_option Elab.async false
set_option maxRecDepth 100000
set_option maxHeartbeats 4000000
set_option linter.all false
namespace Vk
open L2 PySem PySem.Spec PyProof.Rows PySem.VkX
/-! ## several except clauses, with a name or without -/
abbrev Sui := Addr → Value → Option Addr → TS
inductive Clz
  | only (c : Value) (ts : Sui)
  | named (c : Value) (i : Nat) (ts : Sui)
def SuiOk (X : Cx) (ss : List Stmt) (ts : Sui) : Prop := ∀ (a : Addr) (oe : Obj) (cls : Value) (d : Option Addr) (pn : List (Addr × Obj)), Zc cls d oe → (∃ vs, oe.data = .fields vs) → PSs (X.suite a ((a, oe) :: pn)) ss (ts a cls d)
inductive ClzOk (X : Cx) : List ExceptHandler → List Clz → Prop
  | nil : ClzOk X [] []
  | only {x : Str} {c : Value} {ts : Sui} {s0 : Stmt} {ss : List Stmt} {p1 p2 : Pos} {hs : List ExceptHandler} {l : List Clz} (hc : Names X x c) (su : SuiOk X (s0 :: ss) ts) (r : ClzOk X hs l) : ClzOk X (.ExceptHandler (some (.Name x p1)) none (s0 :: ss) p2 :: hs) (.only c ts :: l)
  | named {x n : Str} {c : Value} {i : Nat} {ts : Sui} {s0 : Stmt} {ss : List Stmt} {p1 p2 : Pos} {hs : List ExceptHandler} {l : List Clz} (hi : X.N[i]? = some n) (hl : X.env.kindOf n = some .local) (hc : Names X x c) (su : SuiOk X (s0 :: ss) ts) (r : ClzOk X hs l) :
      ClzOk X (.ExceptHandler (some (.Name x p1)) (some n) (s0 :: ss) p2 :: hs) (.named c i ts :: l)
section
variable {X : Cx} {body : List Stmt} {e0 : ExceptHandler} {es : List ExceptHandler} {l : List Clz} {pos : Pos} {tb : WX → TS} {W0 : WX}
end
end Vk
set_option Elab.async false
set_option maxRecDepth 100000
set_option maxHeartbeats 4000000
set_option linter.all false
namespace Vk
open L2 PySem PySem.Spec PyProof.Rows PySem.VkX
/-! ## C(e, ..) to be raised -/
section
variable {X : Cx} {j k : Nat} {x : Str} {C : Addr} {fsn : List Str} {p pos : Pos} {e : Expr} {es : List Expr} {t : TA}
end
end Vk
set_option Elab.async false
set_option maxRecDepth 100000
set_option maxHeartbeats 4000000
set_option linter.all false
namespace Vk
open L2 PySem PySem.Spec PyProof.Rows PySem.VkX
/-! ## instances of own classes whose __init__ may raise, made by position and by all keywords in the other order -/
structure MakI (P : Program) (w : World) (K : PySem.W.Frag) (mg : Str → Option Value) (base : Heap) (CX : CXT) (k : Nat) (x : Str) (C : Addr) (fsn : List Str) (sp : Sp) : Prop where
  hm : mg x = some (.ref C)
  ex : ∃ (fI : Addr) (fd : FuncData), L2.Mk K C fI ∧ FnG P w K mg base CX k fI fd (("self" : Str) :: fsn) sp ∧ Binds K fd (("self" : Str) :: fsn) [] ∧
    (∀ (s : Shared) (v : Value) (ws : List Value), K.In s.heap → ws.length = fsn.length → BindsTo s fd ⟨[v], fsn.reverse.zip ws⟩ ((("self" : Str) :: fsn).zip (v :: ws.reverse)))
section
variable {X : Cx} {CX : CXT} {E : XK} {j k : Nat} {x : Str} {C : Addr} {fsn : List Str} {sp : Sp} {p pos : Pos} {e : Expr} {es : List Expr} {t : TA}
end
end Vk
set_option Elab.async false
set_option maxRecDepth 100000
set_option maxHeartbeats 4000000
set_option linter.all false
namespace Vk
open L2 PySem PySem.Spec PyProof.Rows PySem.VkX LamX NdefX
/-! ## a lambda as a value: made in a def, kept in lists, handed to a def that calls it -/
structure LF where
  qual : Str
  params : Arguments
  body : Expr
  scope : Scope
  cl : List (Str × Addr)
  c : Addr
def LamO (f : Addr) (F : LF) : HO := .ext fun h => ∃ pm ctv : Value, h.get? f = some (PySem.W.kla_obj "<lambda>" F.qual F.params F.body F.scope F.cl pm F.c ctv)
section
variable {X : Cx} {pins : List (Addr × Obj)} {σ : L2.St} {H : Hp} {s : Shared}
end
section
variable {X : Cx}
end
/-! ### what it does -/
abbrev SpL := List (Option V) → Hp → VK → XK → Prop
structure LamK (P : Program) (w : World) (K : PySem.W.Frag) (mg : Str → Option Value) (base : Heap) (k : Nat) (F : LF) (fr : List Str) (sp : SpL) : Prop where
  run : ∀ (A : Around) (outer : List Env) (s : Shared) (H : Hp) (f : Addr) (ws : List (Option V)) (Q : VK) (E : XK), A.guards = some [] → Room k A → Env0 P w K mg base A outer s H → H f = some (LamO f F) → H F.c = some (CodeO F.c F.qual) → CellsAt F.cl fr ws s.heap H → sp ws H Q E →
    codeAny (model P w) A (.call (.ref f) ⟨[], []⟩) (CR (L2.CX P w) outer P w H s Q E) s
section
variable {P : Program} {w : World} {K : PySem.W.Frag} {mg : Str → Option Value} {base : Heap} {N fr : List Str} {F : LF} {k j : Nat} {sp : SpL}
theorem LamK.mono (l : LamK P w K mg base j F fr sp) (h : j ≤ k) : LamK P w K mg base k F fr sp := ⟨fun A outer s H f ws Q E hg hr => l.run A outer s H f ws Q E hg (hr.mono h)⟩
end
/-! ### called by the def that got it -/
section
variable {X : Cx} {F : LF} {fr : List Str} {ws : List (Option V)} {i j k : Nat} {x : Str} {sp : SpL} {E : XK} {p pos : Pos} {f0 : Addr}
end
/-! ### defs whose promise speaks of the cells that the heap holds -/
structure FnH (P : Program) (w : World) (K : PySem.W.Frag) (mg : Str → Option Value) (base : Heap) (CX : CXT) (k : Nat) (f : Addr) (fd : FuncData) (ps : List Str) (sp : Heap → Sp) : Prop where
  len : ∀ h vs H Q E, sp h vs H Q E → vs.length = ps.length
  run : ∀ (A : Around) (outer : List Env) (s : Shared) (H : Hp) (args : Args) (us : List Value) (vs : List V) (Q : VK) (E : XK), A.guards = some [] → Room k A → Env0 P w K mg base A outer s H → BindsTo s fd args (ps.zip us) → Vals vs us → sp s.heap vs H Q E →
    codeAny (model P w) A (.call (.ref f) args) (CR CX outer P w H s Q E) s
structure CalH (P : Program) (w : World) (K : PySem.W.Frag) (mg : Str → Option Value) (base : Heap) (CX : CXT) (k : Nat) (x : Str) (sp : Heap → Sp) : Prop where
  ex : ∃ (f : Addr) (fd : FuncData) (ps : List Str), FnH P w K mg base CX k f fd ps sp ∧ mg x = some (.ref f) ∧ PySem.W.keepIn K (.ref f) = true ∧ Binds K fd ps []
section
variable {X : Cx} {CX : CXT} {j k : Nat} {x : Str} {sp : Heap → Sp} {E : XK} {p pos : Pos} {e : Expr} {es : List Expr} {t : TA} {rd : L2.St → List V → Hp → VK → Prop}
end
/-! ### isinstance(e, T) of a caught exception that has fields -/
/-! ### a def whose code object is known -/
structure FunC (K : PySem.W.Frag) (x qual : Str) (st : Stmt) (f : Addr) (fd : FuncData) (c : Addr) : Prop where
  ex : ∃ (oc : Value) (od : Option Addr) (kV doc pm : Value) (an : Option Addr) (ct : Value) (sl : Array (Option Value)), fd = PySem.W.fnOf x qual (defArgs st) (defBody st) (defScope st) .none kV doc pm an (.ref c) ct ∧ K.lookup f = some ⟨oc, od, .func fd, sl⟩ ∧ PySem.W.codeIn K (.ref c) qual = true
  kp : PySem.W.keepIn K (.ref f) = true
theorem FunC.fn {K : PySem.W.Frag} {x qual : Str} {st : Stmt} {f c : Addr} {fd : FuncData} (F : FunC K x qual st f fd c) : Fun K x qual st f fd := by
  obtain ⟨oc, od, kV, doc, pm, an, ct, sl, e, l, hc⟩ := F.ex
  exact ⟨⟨oc, od, kV, doc, pm, an, .ref c, ct, sl, e, l, hc⟩, F.kp⟩
end Vk
set_option Elab.async false
set_option maxRecDepth 100000
set_option maxHeartbeats 4000000
set_option linter.all false
namespace Vk
open PySem PySem.Spec PyProof.Rows PySem.SeqAt L2
open Builtin
section
variable {prog : Program} {w : World} {A : Around} {E : Value → Shared → Prop} {s : Shared} {K : PySem.W.Frag} {x C : Addr} {ox : Obj} {od : Option Obj}
end
end Vk
set_option Elab.async false
set_option maxRecDepth 100000
set_option maxHeartbeats 4000000
set_option linter.all false
namespace Vk
open PySem PySem.Spec PyProof.Rows PySem.SeqAt L2
open Builtin
/-! ## == and != and in, on the left an instance of an own class with its own == -/
inductive TyE (H : Hp) : V → Value → Prop
  | non : TyE H .non (.type "NoneType")
  | bl (b : Bool) : TyE H (.bl b) (.type "bool")
  | int (i : Int) : TyE H (.int i) (.type "int")
  | str (z : Str) : TyE H (.str z) (.type "str")
  | tup {a : Addr} {xs : List V} (e : H a = some (.tup xs)) : TyE H (.ref a) (.type "tuple")
  | lst {a : Addr} {xs : List V} (e : H a = some (.lst xs)) : TyE H (.ref a) (.type "list")
  | ins {a C dx : Addr} {fs : List (Str × V)} (e : H a = some (.ins C dx fs)) : TyE H (.ref a) (.ref C)
section
variable {X : Cx} {pins : List (Addr × Obj)} {σ : L2.St} {H : Hp} {s : Shared}
end
/-- the own == of the class at C -/
structure EqI (P : Program) (w : World) (K : PySem.W.Frag) (mg : Str → Option Value) (base : Heap) (k : Nat) (C : Addr) (sp : Sp) : Prop where
  ex : ∃ (f : Addr) (fd : FuncData), PySem.W.findIn K (.ref C) "__eq__" = some (some (.ref f)) ∧ PySem.W.isFn K (.ref f) = true ∧ FnOk P w K mg base CX0 k f fd ["self", "other"] sp ∧ Binds K fd ["self", "other"] []
  ne : PySem.W.findIn K (.ref C) "__ne__" = some (some (.builtin "object.__ne__"))
  obj : PySem.W.mroIn K C (.type "object") = some true
  no1 : PySem.W.mroIn K C (.type "tuple") = some false
  no2 : PySem.W.mroIn K C (.type "list") = some false
  no3 : PySem.W.mroIn K C (.type "str") = some false
  no4 : PySem.W.mroIn K C (.type "NoneType") = some false
section
variable {X : Cx} {k j : Nat} {C : Addr} {sp : Sp}
/-- the items that give way to the instance's own == -/
inductive Dec (H : Hp) : V → Prop
  | non : Dec H .non
  | str (z : Str) : Dec H (.str z)
  | tup {a : Addr} {xs : List V} (e : H a = some (.tup xs)) : Dec H (.ref a)
  | lst {a : Addr} {xs : List V} (e : H a = some (.lst xs)) : Dec H (.ref a)
end
end Vk
set_option Elab.async false
set_option maxRecDepth 100000
set_option maxHeartbeats 4000000
set_option linter.all false
namespace Vk
open PySem PySem.Spec PyProof.Rows L2 StX
/-! ## def f(self, *parts), with nothing under way -/
section
variable {CX : CXT} {P : Program} {w : World} {K : PySem.W.Frag} {mg : Str → Option Value} {base : Heap} {k : Nat} {x qual : Str} {st : Stmt} {f : Addr} {fd : FuncData} {N ps : List Str} {sp : Sp}
end
section
variable {X : Cx} {CX : CXT} {k j : Nat} {C f : Addr} {sp : Sp} {E : XK} {x : Str} {p pos : Pos} {e : Expr} {es : List Expr} {t : TA}
end
theorem pg_tupK {X : Cx} {K : PySem.W.Frag} {es : List Expr} {k : Nat} {t : TGs} {n : Nat} {pos : Pos} (hK : X.K = K) (hc : X.calm = true) (h : PGs X es t)
    (hn : (assignEach es X.env).length = n := by rfl) (hst : (assignEach es X.env).findIdx? (·.1) = none := by rfl) : PG X (.Tuple es k pos) (gTup K n t) := hK ▸ pg_tup hc h hn hst
end Vk
set_option Elab.async false
set_option maxRecDepth 100000
set_option maxHeartbeats 4000000
set_option linter.all false
namespace Vk
open PySem PySem.Spec PyProof.Rows L2
/-! ## for i, x in enumerate(t), t a tuple -/
section
variable {prog : Program} {w : World} {A : Around} {E : Value → Shared → Prop} {s : Shared}
end
end Vk
set_option Elab.async false
set_option maxRecDepth 100000
set_option maxHeartbeats 4000000
set_option linter.all false
namespace Vk
open PySem PySem.Spec PyProof.Rows L2
section
variable {X : Cx}
/-- e.f, a property, e an instance of one of some classes -/
structure PrI (P : Program) (w : World) (K : PySem.W.Frag) (mg : Str → Option Value) (base : Heap) (k : Nat) (C : Addr) (f fa : Str) : Prop where
  ex : ∃ (p g : Addr) (fd : FuncData), Cls K C ∧ PropOf K C f p g ∧ FnOk P w K mg base CX0 k g fd ["self"] (getSp C fa) ∧ Binds K fd ["self"] []
end
end Vk
set_option Elab.async false
set_option maxRecDepth 100000
set_option maxHeartbeats 4000000
set_option linter.all false
namespace Vk
open L2 PySem PySem.Spec PyProof.Rows
/-! ## lstrip leaves nothing of a string exactly if all its signs are to be stripped -/
end Vk
namespace Vk
open L2 PySem PySem.Spec PyProof.Rows
/-- a comprehension over the signs of a string -/
theorem lc_str {z : Str} {g : TG} {tt : TT} {te : TE} {vs : List Nat} {σ : L2.St} {H1 : Hp} {D : Addr} {Qd : Hp → Prop} (Pv : Nat → Hp → Prop) (h0 : Pv 0 (upd H1 D (.lst [])))
    (hs : ∀ i c H, z.cps[i]? = some c → Pv i H → g (.str ⟨#[c]⟩) (wipe σ vs) H fun σ2 H2 => wipe σ2 vs = wipe σ vs ∧ tt σ2 H2 fun b H3 =>
      if b = true then te σ2 H3 fun y H4 => ∃ acc, H4 D = some (.lst acc) ∧ acc.length < sizeLine ∧ Pv (i + 1) (upd H4 D (.lst (acc ++ [y]))) else Pv (i + 1) H3) (hd : ∀ H, Pv z.cps.size H → Qd H) :
    ∃ W : Nat → Nat → Hp → Prop, (∃ m, W 0 m (upd H1 D (.lst []))) ∧ ∀ i m H, W i m H →
      ((Its z).stop i H ∧ Qd H) ∨ ((Its z).go i H ∧ ∃ Nx : Hp → Prop, (∀ H', Nx H' → ∃ m', m' < m ∧ W (i + 1) m' H') ∧ ∀ x H', (Its z).yld i H x H' → g x (wipe σ vs) H' fun σ2 H2 => wipe σ2 vs = wipe σ vs ∧ tt σ2 H2 fun b H3 =>
        if b = true then te σ2 H3 fun y H4 => ∃ acc, H4 D = some (.lst acc) ∧ acc.length < sizeLine ∧ Nx (upd H4 D (.lst (acc ++ [y]))) else Nx H3) := by
  refine ⟨fun i m H => m = z.cps.size - i ∧ i ≤ z.cps.size ∧ Pv i H, ⟨z.cps.size, rfl, Nat.zero_le _, h0⟩, ?_⟩
  rintro i m H ⟨rfl, hi, p⟩
  by_cases lt : i < z.cps.size
  · refine .inr ⟨lt, Pv (i + 1), fun H2 p2 => ⟨z.cps.size - (i + 1), by omega, rfl, lt, p2⟩, fun v H2 w => ?_⟩
    obtain ⟨rfl, c, hc, rfl⟩ := w
    exact hs i c _ hc p
  · have e : i = z.cps.size := by omega
    subst e
    exact .inl ⟨Nat.le_refl _, hd H p⟩
end Vk
set_option Elab.async false
set_option maxRecDepth 100000
set_option maxHeartbeats 4000000
set_option linter.all false
namespace Vk
open PySem PySem.Spec PyProof.Rows L2 LamX
/-! ## the law's own call, one def of the text makes lambdas (its code object c, its table P) -/
end Vk
set_option Elab.async false
set_option maxRecDepth 100000
set_option maxHeartbeats 4000000
set_option linter.all false
namespace Vk
open PySem PySem.Spec PyProof.Rows L2 LamX
/-! ## where the modules are told lies a dict -/
section
variable {X : Cx} {pins : List (Addr × Obj)} {σ : L2.St} {H : Hp} {s : Shared}
end
/-! ## == of a list and the empty list -/
section
open Builtin
end
/-! ## the law's own call, one def of the text makes lambdas (its code object c, its table P) -/
end Vk
set_option Elab.async false
set_option maxRecDepth 100000
set_option maxHeartbeats 4000000
set_option linter.all false
namespace Vk
open L2 PySem PySem.Spec PyProof.Rows PySem.VkX
/-! ## what is made is new -/
def New (H : Hp) (v : V) : Prop := ∀ b, v = .ref b → H b = none
theorem New.same {H H1 : Hp} {v : V} (n : New H1 v) (s : Same H H1) : New H v := fun b e => by
  match q : H b with
  | none => rfl
  | some o => exact nomatch (s b o q).symm.trans (n b e)
theorem New.ext {H H1 : Hp} {v : V} {p c : Addr} {T : Nat} (n : New H1 v) (x : Ext p H H1) (P : Pen H1 p c T) : New H v := fun b e => by
  match q : H b with
  | none => rfl
  | some o =>
    obtain ⟨t, l, hp⟩ := P.is
    by_cases hb : b = p
    · rw [hb] at e
      exact nomatch hp.symm.trans (n p e)
    · exact nomatch (x b o q hb).symm.trans (n b e)
theorem Atm.new {H : Hp} {v : V} {d : PyData} (a : Atm v d) : New H v := fun b e => by
  subst e
  cases a
theorem New.ne {H : Hp} {v : V} {D : Addr} {o : HO} (n : New H v) (h : H D = some o) : v ≠ .ref D := fun e => nomatch h.symm.trans (n D e)
theorem Th.at {H : Hp} {v : V} {d : PyData} {D : Addr} {o : HO} (h : Th H v d) (n : v ≠ .ref D) : Th (upd H D o) v d := by
  cases h with
  | atm a => exact .atm a
  | @lst a xs ds e ne p => exact .lst ((upd_ne fun z => n (congrArg V.ref z)).trans e) ne p
  | @tup a xs ds e p => exact .tup ((upd_ne fun z => n (congrArg V.ref z)).trans e) p
  | @dct a ps e => exact .dct ((upd_ne fun z => n (congrArg V.ref z)).trans e)
section
variable {t te : TE} {ta : TA} {d : PyData} {ds : List PyData}
end
end Vk
set_option Elab.async false
set_option maxRecDepth 100000
set_option linter.all false
namespace Vk
open PySem PySem.Spec PyProof.Rows L2
/-! ## lists whose items stand for items of another list -/
theorem paired_at {α β : Type} {R : α → β → Prop} : ∀ {xs : List α} {ys : List β} {i : Nat} {x : α}, Paired R xs ys → xs[i]? = some x → ∃ y, ys[i]? = some y ∧ R x y
  | _, _, 0, _, .cons a t, h => by cases h; exact ⟨_, rfl, a⟩
  | _, _, i + 1, _, .cons a t, h => paired_at (i := i) t h
theorem drop_at {α : Type} : ∀ {l : List α} {i : Nat} {x : α}, l[i]? = some x → l.drop i = x :: l.drop (i + 1)
  | a :: l, 0, x, h => by cases h; rfl
  | a :: l, i + 1, x, h => by simpa using drop_at (l := l) (i := i) (x := x) (by simpa using h)
end Vk
set_option Elab.async false
set_option maxRecDepth 100000
set_option maxHeartbeats 4000000
set_option linter.all false
namespace Vk
open PySem PySem.Spec PyProof.Rows L2
theorem fewL {n : Nat} (h : n ≤ 100000) : n < sizeLine := Nat.lt_of_le_of_lt h (by rw [sizeLine_eq]; decide)
theorem pair_mono {α β : Type} {R S : α → β → Prop} (h : ∀ a b, R a b → S a b) : ∀ {xs : List α} {ys : List β}, Paired R xs ys → Paired S xs ys
  | _, _, .nil => .nil
  | _, _, .cons a t => .cons (h _ _ a) (pair_mono h t)
theorem none_up {H H1 : Hp} {a : Addr} (s : Same H H1) (h : H1 a = none) : H a = none := by
  match e : H a with
  | none => rfl
  | some o => exact nomatch (s _ _ e).symm.trans h
theorem upd_out {H H1 : Hp} {l : Addr} {o : HO} (hl : H l = none) (s : Same H H1) : Same H (upd H1 l o) := fun b o2 h => by
  rw [upd_ne (ne_of_none h hl)]
  exact s _ _ h
/-- letter i of x -/
def ltr (x : Str) (i : Nat) : Nat := x.cps.toList.getD i 0
theorem cut_ab {x : Str} {a b : Nat} (h1 : a ≤ b) (h2 : b ≤ x.length) : cutS x (some (a : Int)) (some (b : Int)) = ⟨((x.cps.toList.drop a).take (b - a)).toArray⟩ := by
  unfold cutS
  rw [HT.sIx_nat, HT.sIx_nat, Nat.min_eq_left h2, Nat.min_eq_left (Nat.le_trans h1 h2)]
theorem cut_len {x : Str} {a b : Nat} (h1 : a ≤ b) (h2 : b ≤ x.length) : (cutS x (some (a : Int)) (some (b : Int))).length = b - a := by
  rw [cut_ab h1 h2]
  show (List.toArray _).size = _
  have : x.cps.toList.length = x.length := Array.length_toList
  rw [List.size_toArray, List.length_take, List.length_drop]
  omega
theorem cut_ltr {x : Str} {a b t : Nat} (h1 : a ≤ b) (h2 : b ≤ x.length) (ht : t < b - a) : ltr (cutS x (some (a : Int)) (some (b : Int))) t = ltr x (a + t) := by
  rw [cut_ab h1 h2]
  unfold ltr
  show (List.getD (List.take _ _) t 0) = _
  rw [List.getD_eq_getElem?_getD, List.getD_eq_getElem?_getD, List.getElem?_take, if_pos ht, List.getElem?_drop]
theorem or_both {c : Bool} {T B R : Prop} (h1 : c = true → R → T) (h2 : c = false → R → B) (h : R) : if c = true then T else B := by
  cases c with
  | true => exact h1 rfl h
  | false => exact h2 rfl h
theorem plc_asc (x w : Str) : (plc x w).Pairwise (· < ·) := List.pairwise_lt_range.filter _
theorem plc_ltr {x w : Str} {k : Nat} : k ∈ plc x w ↔ k + w.length ≤ x.length ∧ ∀ t, t < w.length → ltr x (k + t) = ltr w t := by
  unfold plc atB
  rw [List.mem_filter, List.mem_range, Bool.and_eq_true, decide_eq_true_eq, StrLaws.subAt_eq, beq_iff_eq]
  constructor
  · rintro ⟨_, h1, h2⟩
    refine ⟨h1, fun t ht => ?_⟩
    unfold ltr
    rw [← h2, List.getD_eq_getElem?_getD, List.getD_eq_getElem?_getD, List.getElem?_take, if_pos ht, List.getElem?_drop]
  · rintro ⟨h1, h2⟩
    refine ⟨by omega, h1, List.ext_getElem? fun t => ?_⟩
    have lw : w.cps.toList.length = w.length := Array.length_toList
    have lx : x.cps.toList.length = x.length := Array.length_toList
    by_cases ht : t < w.length
    · have q := h2 t ht
      unfold ltr at q
      rw [List.getD_eq_getElem?_getD, List.getD_eq_getElem?_getD, List.getElem?_eq_getElem (by omega : k + t < x.cps.toList.length), List.getElem?_eq_getElem (by omega : t < w.cps.toList.length)] at q
      rw [List.getElem?_take, if_pos ht, List.getElem?_drop, List.getElem?_eq_getElem (by omega : k + t < x.cps.toList.length), List.getElem?_eq_getElem (by omega : t < w.cps.toList.length)]
      exact congrArg some q
    · rw [List.getElem?_take, if_neg ht, List.getElem?_eq_none (by omega)]
theorem atI_end {xs : List V} {n : Nat} {v : V} (h : xs[n]? = some v) (hl : xs.length = n + 1) : atI xs (-1) = some v := by
  have e : xs = xs.take n ++ [v] := by
    have := List.take_append_drop n xs
    rw [drop_at h, List.drop_of_length_le (by omega)] at this
    exact this.symm
  rw [e]
  exact atI_last _ _
/-- pairs of numbers -/
def PrN (H : Hp) : List V → List (Nat × Nat) → Prop := Paired (fun v (p : Nat × Nat) => ∃ t, v = V.ref t ∧ H t = some (.tup [.int (p.1 : Nat), .int (p.2 : Nat)]))
theorem PrN.keep {H H1 : Hp} {xs : List V} {ps : List (Nat × Nat)} (h : PrN H xs ps) (s : Same H H1) : PrN H1 xs ps := pair_mono (fun v p ⟨t, e, ht⟩ => ⟨t, e, s _ _ ht⟩) h
theorem PrN.keepT {H H1 : Hp} {xs : List V} {ps : List (Nat × Nat)} (h : PrN H xs ps) (s : ∀ u ws, H u = some (.tup ws) → H1 u = some (.tup ws)) : PrN H1 xs ps := pair_mono (fun v p ⟨t, e, ht⟩ => ⟨t, e, s _ _ ht⟩) h
/-! ## windows -/
/-- the letters from a to b stand at another place, too -/
def Tw (X : Nat → Nat) (n a b : Nat) : Prop := ∃ k, k ≠ a ∧ k + (b - a) ≤ n ∧ ∀ t, t < b - a → X (k + t) = X (a + t)
theorem Tw.less {X : Nat → Nat} {n a b a' b' : Nat} (h : Tw X n a b) (h1 : a ≤ a') (h2 : a' ≤ b') (h3 : b' ≤ b) : Tw X n a' b' := by
  obtain ⟨k, k1, k2, k3⟩ := h
  refine ⟨k + (a' - a), by omega, by omega, fun t ht => ?_⟩
  have := k3 (a' - a + t) (by omega)
  rw [show k + (a' - a) + t = k + (a' - a + t) by omega, this, show a + (a' - a + t) = a' + t by omega]
def twB (x : Str) (a b : Nat) : Bool := decide (2 ≤ (plc x (cutS x (some (a : Int)) (some (b : Int)))).length)
theorem plc_own {x : Str} {a b : Nat} (h1 : a ≤ b) (h2 : b ≤ x.length) : a ∈ plc x (cutS x (some (a : Int)) (some (b : Int))) :=
  plc_ltr.mpr ⟨by rw [cut_len h1 h2]; omega, fun t ht => by
    rw [cut_len h1 h2] at ht
    exact (cut_ltr h1 h2 ht).symm⟩
theorem two_of {l : List Nat} {a : Nat} (nd : l.Pairwise (· < ·)) (ha : a ∈ l) : 2 ≤ l.length ↔ ∃ k ∈ l, k ≠ a := by
  constructor
  · intro h
    match l, nd, h with
    | x :: y :: r, nd, _ =>
      have lt := (List.pairwise_cons.mp nd).1 y List.mem_cons_self
      by_cases e : x = a
      · exact ⟨y, List.mem_cons_of_mem _ List.mem_cons_self, by omega⟩
      · exact ⟨x, List.mem_cons_self, e⟩
  · rintro ⟨k, hk, hne⟩
    match l, ha, hk with
    | [x], ha, hk => exact absurd ((List.mem_singleton.mp hk).trans (List.mem_singleton.mp ha).symm) hne
    | x :: y :: r, _, _ => show 2 ≤ r.length + 1 + 1; omega
theorem twB_iff {x : Str} {a b : Nat} (h1 : a ≤ b) (h2 : b ≤ x.length) : twB x a b = true ↔ Tw (ltr x) x.length a b := by
  unfold twB
  rw [decide_eq_true_eq, two_of (plc_asc _ _) (plc_own h1 h2)]
  constructor
  · rintro ⟨k, hk, hne⟩
    obtain ⟨k1, k2⟩ := plc_ltr.mp hk
    rw [cut_len h1 h2] at k1 k2
    exact ⟨k, hne, k1, fun t ht => (k2 t ht).trans (cut_ltr h1 h2 ht)⟩
  · rintro ⟨k, hne, k1, k2⟩
    refine ⟨k, plc_ltr.mpr ⟨by rw [cut_len h1 h2]; exact k1, fun t ht => ?_⟩, hne⟩
    rw [cut_len h1 h2] at ht
    rw [k2 t ht, cut_ltr h1 h2 ht]
theorem plc_one {x : Str} {a b : Nat} (h1 : a ≤ b) (h2 : b ≤ x.length) : (plc x (cutS x (some (a : Int)) (some (b : Int)))).length = 1 ↔ twB x a b = false := by
  have h := plc_own h1 h2
  have : 0 < (plc x (cutS x (some (a : Int)) (some (b : Int)))).length := List.length_pos_of_mem h
  unfold twB
  rw [decide_eq_false_iff_not]
  omega
/-- the least end of a window from a that stands once; behind the text if there is none -/
theorem cutV_take {xs : List V} {k : Nat} : cutV xs none (some (k : Int)) = xs.take k := by
  unfold cutV
  rw [HT.sIx_none, HT.sIx_nat]
  simp
/-- parts, one behind the other -/
def OkR (n : Nat) : Nat → List (Nat × Nat × Str) → Prop
  | _, [] => True
  | p, r :: rs => p ≤ r.1 ∧ r.1 < r.2.1 ∧ r.2.1 ≤ n ∧ OkR n r.2.1 rs
theorem okR_all {n : Nat} : ∀ {p : Nat} {rs : List (Nat × Nat × Str)}, OkR n p rs → ∀ r ∈ rs, p ≤ r.1 ∧ r.1 < r.2.1 ∧ r.2.1 ≤ n
  | p, s :: rs, h, r, hr => by
    rcases List.mem_cons.mp hr with rfl | hr
    · exact ⟨h.1, h.2.1, h.2.2.1⟩
    · have := okR_all h.2.2.2 r hr
      have := h.1
      have := h.2.1
      omega
theorem cut_from {x : Str} {a : Nat} : (cutS x (some (a : Int)) none).cps.toList = x.cps.toList.drop a := by
  show ((x.cps.toList.drop (HT.sIx x.length 0 (some (a : Int)))).take (HT.sIx x.length x.length none - HT.sIx x.length 0 (some (a : Int)))).toArray.toList = _
  have lx : x.cps.toList.length = x.length := Array.length_toList
  rw [HT.sIx_none, HT.sIx_nat, List.toList_toArray]
  by_cases h : a ≤ x.length
  · rw [Nat.min_eq_left h, List.take_of_length_le (by rw [List.length_drop]; omega)]
  · rw [Nat.min_eq_right (by omega), Nat.sub_self, List.take_zero, List.drop_of_length_le (by omega)]
theorem cut_mid {x : Str} {a b : Nat} (h1 : a ≤ b) (h2 : b ≤ x.length) : (cutS x (some (a : Int)) (some (b : Int))).cps.toList = (x.cps.toList.drop a).take (b - a) := by
  rw [cut_ab h1 h2]
theorem app_list (x y : Str) : (x ++ y).cps.toList = x.cps.toList ++ y.cps.toList := by
  show (x.cps ++ y.cps).toList = _
  exact Array.toList_append
theorem str_ext {x y : Str} (h : x.cps.toList = y.cps.toList) : x = y := PySem.W.str_of_cps h
theorem more_list {z y : Str} : (z ++ y).cps.toList = z.cps.toList ++ y.cps.toList := by
  show (z.cps ++ y.cps).toList = _
  simp
end Vk
set_option Elab.async false
set_option maxRecDepth 100000
set_option linter.all false
namespace Vk
open PySem PySem.Spec PyProof.Rows L2
def top (i : Nat) : Stmt := PySem.Challenge.pw_anchoredits_k63_whole_prices_and_cheapes.main.body.getD i (.Pass ⟨0, 0, 0, 0⟩)
structure Txt (mg : Str → Option Value) : Prop where
  str : mg "str" = none
  tuple : mg "tuple" = none
  enumerate : mg "enumerate" = none
  bool : mg "bool" = none
  sum : mg "sum" = none
  max : mg "max" = none
  ValueError : mg "ValueError" = none
  len : mg "len" = none
  list : mg "list" = none
  int : mg "int" = none
  abs : mg "abs" = none
  range : mg "range" = none
  min : mg "min" = none
  repr : mg "repr" = none
  all : mg "all" = none
  sorted : mg "sorted" = none
  set : mg "set" = none
  dict : mg "dict" = none
  zip : mg "zip" = none
  reversed : mg "reversed" = none
  isinstance : mg "isinstance" = none
section
variable {P : Program} {w : World} {K : PySem.W.Frag} {mg : Str → Option Value} {base : Heap}
/-- a text: a string of letters -/
def isT : PyData → Bool
  | .str z => decide (V.str (Txt.lstripChars z letS) = V.str "")
  | _ => false
/-- strings of values are short -/
def Srt (d : PyData) : Prop := match d with | .str z => z.length ≤ 1000 ∧ PyData.strOk z = true | _ => True
abbrev s_lsigns : Stmt := top 22
theorem sc_lsigns : FnScope [] [] (defScope s_lsigns) := ⟨rfl, rfl, rfl, by decide +kernel, rfl, by decide +kernel, by decide +kernel⟩
theorem b_lsigns {f : Addr} {fd : FuncData} (F : Fun K "_law_signs" "_law_signs" s_lsigns f fd) (T : Txt mg) : FnG P w K mg base CX0 1 f fd [] spSigns := by
  refine okG0 F sc_lsigns (fun vs H Q E h => ?_) (fun cdv A outer s H vs Q E hg hr h => ?_)
  · obtain ⟨rfl, _⟩ := h
    rfl
  · have hu := hu_of hr
    have hu64 := hr.units
    obtain ⟨rfl, k⟩ := h
    exact ⟨_, (pss_one (ps_ret pe_str)), k⟩

abbrev s_is_integer : Stmt := top 1
theorem sc_is_integer : FnScope ["value"] ["value"] (defScope s_is_integer) := ⟨rfl, rfl, rfl, by decide +kernel, rfl, by decide +kernel, by decide +kernel⟩
end
end Vk
set_option Elab.async false
set_option maxRecDepth 100000
set_option maxHeartbeats 4000000
set_option linter.all false
namespace Vk
open L2 PySem PySem.Spec PyProof.Rows PySem.VkX
/-! ## several except clauses, two classes in one among them -/
inductive Cly
  | only (c : Value) (ts : Sui)
  | named (c : Value) (i : Nat) (ts : Sui)
  | pair (c1 c2 : Value) (ts : Sui)
inductive ClyOk (X : Cx) : List ExceptHandler → List Cly → Prop
  | nil : ClyOk X [] []
  | only {x : Str} {c : Value} {ts : Sui} {s0 : Stmt} {ss : List Stmt} {p1 p2 : Pos} {hs : List ExceptHandler} {l : List Cly} (hc : Names X x c) (su : SuiOk X (s0 :: ss) ts) (r : ClyOk X hs l) : ClyOk X (.ExceptHandler (some (.Name x p1)) none (s0 :: ss) p2 :: hs) (.only c ts :: l)
  | named {x n : Str} {c : Value} {i : Nat} {ts : Sui} {s0 : Stmt} {ss : List Stmt} {p1 p2 : Pos} {hs : List ExceptHandler} {l : List Cly} (hi : X.N[i]? = some n) (hl : X.env.kindOf n = some .local) (hc : Names X x c) (su : SuiOk X (s0 :: ss) ts) (r : ClyOk X hs l) :
      ClyOk X (.ExceptHandler (some (.Name x p1)) (some n) (s0 :: ss) p2 :: hs) (.named c i ts :: l)
  | pair {x y : Str} {c1 c2 : Value} {ts : Sui} {s0 : Stmt} {ss : List Stmt} {p1 p2 p3 pt : Pos} {kk : Nat} {hs : List ExceptHandler} {l : List Cly} (hx : Names X x c1) (hy : Names X y c2) (su : SuiOk X (s0 :: ss) ts) (r : ClyOk X hs l) :
      ClyOk X (.ExceptHandler (some (.Tuple [.Name x p1, .Name y p3] kk pt)) none (s0 :: ss) p2 :: hs) (.pair c1 c2 ts :: l)
section
variable {X : Cx} {body : List Stmt} {e0 : ExceptHandler} {es : List ExceptHandler} {l : List Cly} {pos : Pos} {tb : WX → TS} {W0 : WX}
end
end Vk
set_option Elab.async false
set_option maxRecDepth 100000
set_option maxHeartbeats 4000000
set_option linter.all false
namespace Vk
open PySem PySem.Spec PyProof.Rows L2
/-! ## x[::-1], x a text -/
theorem back_idx (n : Nat) : Builtin.Str.strSliceIndices none none (-1) n = (List.range n).reverse := by
  rw [← PySem.W.krv_range, ← PySem.W.krv_sliceRange]
  rfl
/-- read from the end -/
def backS (z : Str) : Str := ⟨z.cps.toList.reverse.toArray⟩
def tRevS (te : TE) : TE := fun σ H Q => te σ H fun x H1 => ∃ z, x = .str z ∧ z.length ≤ sizeLine ∧ Q (.str (backS z)) H1
theorem pe_revS {X : Cx} {e : Expr} {te : TE} {k : Nat} {p1 p2 p3 pos : Pos} (he : PE X e te) : PE X (.Subscript e (.Slice none none (some (.UnaryOp .USub (.Constant (.int 1) k p1) p2)) p3) pos) (tRevS te) := by
  refine ⟨fun pins s σ H Q I h => ?_⟩
  refine Subscript_ (thn (he.run pins s σ H _ I h) fun v s1 ⟨x, H1, I1, r1, q1⟩ => ?_)
  obtain ⟨z, rfl, hz, q⟩ := q1
  obtain ⟨t, rfl⟩ := r1
  have step : PO X (some (.UnaryOp .USub (.Constant (.int 1) k p1) p2)) (tPart (tUn (rU fun i => .int (-i)) (tC (.int 1)))) := po_some (pe_un un_neg pe_int)
  refine wpAny_Slice (thn (po_none.run pins s1 σ H1 (fun o H2 => o = none ∧ H2 = H1) I1 ⟨rfl, rfl⟩) fun vl s2 ⟨l, H2, I2, pl, el, e2⟩ => ?_)
  subst el e2
  refine thn (po_none.run pins s2 σ H2 (fun o H3 => o = none ∧ H3 = H2) I2 ⟨rfl, rfl⟩) fun vu s3 ⟨u, H3, I3, pu, eu, e3⟩ => ?_
  subst eu e3
  refine thn (step.run pins s3 σ H3 (fun o H4 => o = some (-1) ∧ H4 = H3) I3 ⟨1, rfl, -1, rfl, rfl, rfl⟩) fun vs s4 ⟨o, H4, I4, ps, eo, e4⟩ => ?_
  subst eo e4
  have I5 : Inv X pins σ H4 { s4 with heap := s4.heap.push { cls := .type "slice", data := .fields #[vl, vu, vs] } } := I4.kept (t' := s4.toks) fun b ob q => Heap.get?_push_of_some _ q
  obtain ⟨pl1, rfl, el⟩ := IsPart.raw pl
  obtain ⟨pu1, rfl, eu⟩ := IsPart.raw pu
  obtain ⟨ps1, rfl, es⟩ := IsPart.raw ps
  match pl1, pu1, ps1, el, eu, es with
  | none, none, some (m, tm), _, _, es =>
    have em : m = -1 := Option.some.inj es
    subst em
    refine tail_any (ops := [.str z t, .ref s4.heap.objs.size]) (typeIs_str _ _ _) F.slot_str_getitem.lookup ?_ (by with_unfolding_all rfl)
    refine wpAny_getItem_str_slice (l := none) (u := none) (st := some (-1, tm)) ⟨_, Heap.get?_push_size _ rfl, rfl, rfl⟩ rfl ?_
    have e : (⟨((Builtin.Str.strSliceIndices none none (-1) z.length).filterMap (z.cps[·]?)).toArray⟩ : Str) = backS z := by
      rw [back_idx, List.filterMap_reverse]
      unfold backS
      exact congrArg (fun l : List Nat => (⟨l.reverse.toArray⟩ : Str)) (PySem.W.krv_all z.cps)
    show Made.post (Made.str ⟨((Builtin.Str.strSliceIndices none none (-1) z.length).filterMap (z.cps[·]?)).toArray⟩) (EP X pins σ Q) _
    rw [e]
    have hl : (backS z).length ≤ sizeLine := by
      show (z.cps.toList.reverse.toArray).size ≤ sizeLine
      rw [List.size_toArray, List.length_reverse, Array.length_toList]
      exact hz
    exact ⟨hl, .str _, H4, I5.tok _, ⟨_, rfl⟩, q⟩
end Vk
set_option Elab.async false
set_option maxRecDepth 100000
set_option maxHeartbeats 4000000
set_option linter.all false
namespace Vk
open PySem PySem.Spec PyProof.Rows L2 HT
/-! ## t[::-1], t a tuple -/
section
variable {prog : Program} {w : World} {A : Around} {E : Value → Shared → Prop} {s : Shared}
end
end Vk
set_option Elab.async false
set_option maxRecDepth 100000
set_option maxHeartbeats 4000000
set_option linter.all false
namespace Vk
open PySem PySem.Spec PyProof.Rows L2 LamX
/-! ## things: a value, or a list or a tuple of values -/
inductive Tg (H : Hp) : V → PyData → Prop
  | one {v : V} {d : PyData} : Th H v d → (∀ ds, d ≠ .tuple ds) → Tg H v d
  | lst {a : Addr} {vs : List V} {ds : List PyData} : H a = some (.lst vs) → Paired (Th H) vs ds → Tg H (.ref a) (.list ds)
  | tup {a : Addr} {vs : List V} {ds : List PyData} : H a = some (.tup vs) → Paired (Th H) vs ds → Tg H (.ref a) (.tuple ds)
theorem atms_ths {H : Hp} : ∀ {vs : List V} {ds : List PyData}, Paired Atm vs ds → Paired (Th H) vs ds
  | _, _, .nil => .nil
  | _, _, .cons a t => .cons (.atm a) (atms_ths t)
theorem Th.tg {H : Hp} {v : V} {d : PyData} (h : Th H v d) : Tg H v d := by
  cases h with
  | atm a => exact .one (.atm a) (fun ds z => by cases a <;> cases z)
  | lst e n p => exact .one (.lst e n p) (fun ds z => by cases z)
  | tup e p => exact .tup e (atms_ths p)
  | dct e => exact .one (.dct e) (fun ds z => by cases z)
theorem Tg.keep {H H' : Hp} {v : V} {d : PyData} (h : Tg H v d) (s : Same H H') : Tg H' v d := by
  cases h with
  | one th n => exact .one (th.keep s) n
  | lst e p => exact .lst (s _ _ e) (ths_keep s p)
  | tup e p => exact .tup (s _ _ e) (ths_keep s p)
theorem ths_ext {H H' : Hp} {p c : Addr} {T : Nat} (hp : Pen H p c T) (x : Ext p H H') : ∀ {vs : List V} {ds : List PyData}, Paired (Th H) vs ds → Paired (Th H') vs ds
  | _, _, .nil => .nil
  | _, _, .cons a t => .cons (a.ext hp x) (ths_ext hp x t)
theorem Tg.ext {H H' : Hp} {p c : Addr} {T : Nat} {v : V} {d : PyData} (h : Tg H v d) (hp : Pen H p c T) (x : Ext p H H') : Tg H' v d := by
  have ne : ∀ {a o}, H a = some o → (∀ k, o ≠ .dK k) → H' a = some o := fun {a o} e n => x _ _ e fun z => by
    obtain ⟨t, l, hl⟩ := hp.is
    rw [z, hl] at e
    exact n _ (Option.some.inj e).symm
  cases h with
  | one th n => exact .one (th.ext hp x) n
  | lst e p => exact .lst (ne e fun _ z => nomatch z) (ths_ext hp x p)
  | tup e p => exact .tup (ne e fun _ z => nomatch z) (ths_ext hp x p)
end Vk
set_option Elab.async false
set_option maxRecDepth 100000
set_option linter.all false
set_option maxHeartbeats 4000000
namespace Vk
open PySem PySem.Spec PyProof.Rows L2
section
variable {P : Program} {w : World} {K : PySem.W.Frag} {mg : Str → Option Value} {base : Heap}
theorem find_two {x w : Str} : (∃ z : Int, Txt.find x w = z ∧ ∃ y : Int, Txt.find3 x w (z + 1) = y ∧ (decide (0 ≤ y) = decide (2 ≤ (plc x w).length))) := by
  have nd := plc_asc x w
  have mem : ∀ i, StrLaws.At x w x.length i ↔ i ∈ plc x w := fun i => by
    unfold plc
    rw [List.mem_filter, List.mem_range, atB_iff]
    exact ⟨fun h => ⟨by have := h.1; omega, h⟩, fun h => h.2⟩
  have ef : ∀ i : Nat, Txt.find3 x w ((i : Nat) : Int) = (match Builtin.Str.occurrences x w i x.length 1 with | i :: _ => (i : Int) | [] => -1) := fun i => by
    unfold Txt.find3
    rw [show fromIndex x.length ((i : Nat) : Int) = i by unfold fromIndex; rw [if_neg (by omega)]; omega]
    cases Builtin.Str.occurrences x w i x.length 1 <;> rfl
  have key : ∀ i : Nat, i ≤ x.length + 1 → (Txt.find3 x w ((i : Nat) : Int) = -1 ∧ ∀ k, i ≤ k → ¬ StrLaws.At x w x.length k) ∨ ∃ j : Nat, Txt.find3 x w ((i : Nat) : Int) = (j : Int) ∧ i ≤ j ∧ StrLaws.At x w x.length j ∧ ∀ k, i ≤ k → k < j → ¬ StrLaws.At x w x.length k := fun i hi => by
    rw [ef]
    exact find_from x w i hi
  have f0 : (Txt.find x w = -1 ∧ ∀ k, 0 ≤ k → ¬ StrLaws.At x w x.length k) ∨ ∃ j : Nat, Txt.find x w = (j : Int) ∧ 0 ≤ j ∧ StrLaws.At x w x.length j ∧ ∀ k, 0 ≤ k → k < j → ¬ StrLaws.At x w x.length k := find_from x w 0 (Nat.zero_le _)
  refine ⟨_, rfl, _, rfl, ?_⟩
  rcases f0 with ⟨h1, h2⟩ | ⟨i, h1, h2, h3, h4⟩
  · have en : plc x w = [] := List.eq_nil_iff_forall_not_mem.mpr fun k hk => h2 k (Nat.zero_le _) ((mem k).mpr hk)
    have k0 := key 0 (Nat.zero_le _)
    rw [h1, en]
    rcases k0 with ⟨g1, _⟩ | ⟨j, _, _, g3, _⟩
    · rw [show ((-1 : Int) + 1) = ((0 : Nat) : Int) by rfl, g1]
      decide
    · exact absurd g3 (h2 j (Nat.zero_le _))
  · have il : i ≤ x.length := by have := h3.1; omega
    have hi := (mem i).mp h3
    rw [h1, show ((i : Int) + 1) = ((i + 1 : Nat) : Int) by omega, decide_eq_decide, two_of nd hi]
    rcases key (i + 1) (by omega) with ⟨g1, g2⟩ | ⟨j, g1, g2, g3, g4⟩
    · rw [g1]
      constructor
      · intro h; omega
      · rintro ⟨k, hk, hne⟩
        have hk2 := (mem k).mpr hk
        by_cases lt : k < i
        · exact absurd hk2 (h4 k (Nat.zero_le _) lt)
        · exact absurd hk2 (g2 k (by omega))
    · rw [g1]
      exact ⟨fun _ => ⟨j, (mem j).mp g3, by omega⟩, fun _ => by omega⟩
def spTwice : Sp := fun vs H Q _ => ∃ x w, vs = [.str x, .str w] ∧ Q (.bl (decide (2 ≤ (plc x w).length))) H
abbrev s_stands_twice : Stmt := top 4
theorem sc_stands_twice : FnScope ["text", "word"] ["text", "word"] (defScope s_stands_twice) := ⟨rfl, rfl, rfl, by decide +kernel, rfl, by decide +kernel, by decide +kernel⟩
theorem b_stands_twice {f : Addr} {fd : FuncData} (F : Fun K "stands_twice" "stands_twice" s_stands_twice f fd) (T : Txt mg) : FnG P w K mg base CX0 1 f fd ["text", "word"] spTwice := by
  refine okG0 F sc_stands_twice (fun vs H Q E h => ?_) (fun cdv A outer s H vs Q E hg hr h => ?_)
  · obtain ⟨x, w, rfl, _⟩ := h
    rfl
  · have hu := hu_of hr
    have hu64 := hr.units
    obtain ⟨x, w, rfl, k⟩ := h
    refine ⟨_, (pss_one (ps_ret (pe_cmpR op_ge (pe_bm PySem.F.plainAttrs_str PySem.F.slot_str_find PySem.F.type_str_find mt_find3 (pv 0) (pa_cons (pv 1) (pa_cons (pe_op op_add (pe_bm PySem.F.plainAttrs_str PySem.F.slot_str_find PySem.F.type_str_find mt_find (pv 0) (pa_cons (pv 1) pa_nil)) pe_int) pa_nil))) pe_int (nomark _)))), ?_⟩
    obtain ⟨z, e1, y, e2, e3⟩ := @find_two x w
    refine ⟨_, rfl, rfl, _, rfl, _, rfl, rfl, _, rfl, x, w, rfl, rfl, ?_⟩
    rw [e1]
    refine ⟨_, _, rfl, rfl, x, w, _, rfl, rfl, ?_⟩
    rw [e2]
    refine ⟨_, _, rfl, rfl, ?_⟩
    show Q (V.bl (decide (0 ≤ y))) H
    rw [e3]
    exact k

/-- parts -/
def Rw3 (H : Hp) : List V → List (Nat × Nat × Str) → Prop := Paired (fun v (r : Nat × Nat × Str) => ∃ t, v = V.ref t ∧ H t = some (.tup [.int (r.1 : Nat), .int (r.2.1 : Nat), .str r.2.2]))
theorem Rw3.keep {H H1 : Hp} {xs : List V} {rs : List (Nat × Nat × Str)} (h : Rw3 H xs rs) (s : Same H H1) : Rw3 H1 xs rs := pair_mono (fun v p ⟨t, e, ht⟩ => ⟨t, e, s _ _ ht⟩) h
theorem Rw3.keepT {H H1 : Hp} {xs : List V} {rs : List (Nat × Nat × Str)} (h : Rw3 H xs rs) (s : ∀ u ws, H u = some (.tup ws) → H1 u = some (.tup ws)) : Rw3 H1 xs rs := pair_mono (fun v p ⟨t, e, ht⟩ => ⟨t, e, s _ _ ht⟩) h
def costE (e : Int) (r : Nat × Nat × Str) : Int := (r.2.1 : Int) - (r.1 : Int) + (r.2.2.length : Nat) + e
def spCost : Sp := fun vs H Q _ => ∃ (q : Addr) (e : Int) (xs : List V) (rs : List (Nat × Nat × Str)), vs = [.ref q, .int e] ∧ H q = some (.tup xs) ∧ Rw3 H xs rs ∧ rs.length ≤ 100 ∧ (∀ r ∈ rs, r.2.2.length ≤ 100) ∧ ∀ H', Same H H' → Q (.int ((rs.map (costE e)).sum)) H'
abbrev s_cost_of : Stmt := top 8
theorem sc_cost_of : FnScope ["exchange", "each", "begin", "end", "new"] ["exchange", "each"] (defScope s_cost_of) := ⟨rfl, rfl, rfl, by decide +kernel, rfl, by decide +kernel, by decide +kernel⟩
theorem b_cost_of {f : Addr} {fd : FuncData} (F : Fun K "cost_of" "cost_of" s_cost_of f fd) (T : Txt mg) : FnG P w K mg base CX0 1 f fd ["exchange", "each"] spCost := by
  refine okG0 F sc_cost_of (fun vs H Q E h => ?_) (fun cdv A outer s H vs Q E hg hr h => ?_)
  · obtain ⟨q, e0, xs, rs, rfl, _⟩ := h
    rfl
  · have hu := hu_of hr
    have hu64 := hr.units
    obtain ⟨q, e0, xs, rs, rfl, hq, rw0, hl, hz, k⟩ := h
    have glen := paired_len rw0
    refine ⟨_, (pss_one (ps_ret (pe_callB (cr_sum rfl) (by rfl) T.sum (by decide +kernel) (pa_cons (pe_lc (own := [("begin", 2), ("end", 3), ("new", 4)]) (g := (gTup K 3 (gCons (gName 2) (gCons (gName 3) (gCons (gName 4) gNil))))) (tt := tYes) rfl sc_cost_of.nd (pi_tup (pv 0)) (blkOk_by (own := [("begin", 2), ("end", 3), ("new", 4)]) (N := ["exchange", "each", "begin", "end", "new"]) (sc := defScope s_cost_of) (by decide +kernel)) (fun _ _ _ _ _ => (pg_tupK (K := K) rfl rfl (pgs_cons (pg_name (i := 2) sc_cost_of.nd rfl (Or.inl rfl)) (pgs_cons (pg_name (i := 3) sc_cost_of.nd rfl (Or.inl rfl)) (pgs_cons (pg_name (i := 4) sc_cost_of.nd rfl (Or.inl rfl)) pgs_nil))))) (fun _ _ _ _ _ => pts_nil) (fun _ _ _ _ _ => (pe_op op_add (pe_op op_add (pe_op op_sub (pv 3) (pv 2)) (pe_callB (call_lenK (K := K) rfl) (by rfl) T.len (by decide +kernel) (pa_cons (pv 4) pa_nil))) (pv 1)))) pa_nil)))), ?_⟩
    refine ⟨_, rfl, q, rfl, ⟨_, SqT.of hq⟩, fun D hD => ?_⟩
    have sD := same_new (o := .lst []) hD
    refine lc_tup (K := K) (a := q) (xs := xs) (fun n H' => H' D = some (.lst ((rs.take n).map fun r => V.int (costE e0 r))) ∧ Same H H') ?_ ?_ ?_ ?_
    · exact ⟨upd_same, sD⟩
    · rintro n H' _ ⟨_, sm⟩
      exact SqT.of (sm _ _ hq)
    · rintro n v H' hv ⟨hDz, sm⟩
      obtain ⟨r, hr1, t, rfl, ht⟩ := paired_at rw0 hv
      have zl : r.2.2.length ≤ sizeLine := Nat.le_of_lt (fewL (by have := hz r (List.mem_of_getElem? hr1); omega))
      refine ⟨t, _, rfl, SqT.of (sm _ _ ht), rfl, _, _, rfl, _, _, rfl, _, _, rfl, rfl, ?_⟩
      refine ⟨rfl, _, rfl, _, rfl, _, _, rfl, rfl, _, rfl, _, _, rfl, ⟨zl, rfl⟩, _, _, rfl, rfl, _, rfl, _, _, rfl, rfl, ?_⟩
      refine ⟨_, hDz, fewL (by rw [List.length_map, List.length_take]; omega), ?_, upd_out hD sm⟩
      rw [upd_same, List.take_add_one, hr1, Option.toList_some, List.map_append]
      rfl
    · rintro H2 ⟨hD2, s2⟩
      rw [List.take_of_length_le (by omega)] at hD2
      refine ⟨D, rs.map (costE e0), rfl, SqL.of ?_, k _ s2⟩
      rw [hD2, List.map_map]
      rfl

/-- what stands when the parts are put -/
def putH (x : Str) : Nat → List (Nat × Nat × Str) → Str → Str
  | p, [], acc => acc ++ cutS x (some (p : Int)) none
  | p, r :: rs, acc => putH x r.2.1 rs (acc ++ cutS x (some (p : Int)) (some (r.1 : Int)) ++ r.2.2)
end
end Vk
set_option Elab.async false
set_option maxRecDepth 100000
set_option linter.all false
set_option maxHeartbeats 4000000
namespace Vk
open PySem PySem.Spec PyProof.Rows L2
section
variable {P : Program} {w : World} {K : PySem.W.Frag} {mg : Str → Option Value} {base : Heap}
abbrev Ltr (x : Str) : Prop := ∀ c ∈ x.cps.toList, c ∈ letS.cps.toList
abbrev s_ldraw : Stmt := top 19
theorem sc_ldraw : FnScope ["_law_pen_here", "_law_many", "_law_digit", "_law_turn", "_law_cell", "_law_primes", "_law_prime", "_law_drawn"] ["_law_pen_here", "_law_many"] (defScope s_ldraw) := ⟨rfl, rfl, rfl, by decide +kernel, rfl, by decide +kernel, by decide +kernel⟩
theorem b_ldraw {f : Addr} {fd : FuncData} (F : Fun K "_law_draw" "_law_draw" s_ldraw f fd) (T : Txt mg) : FnG P w K mg base CX0 1 f fd ["_law_pen_here", "_law_many"] spDraw := by
  refine okG0 F sc_ldraw (fun vs H Q E h => ?_) (fun cdv A outer s H vs Q E hg hr h => ?_)
  · obtain ⟨p, c, m, T0, rfl, _⟩ := h
    rfl
  · have hu := hu_of hr
    have hu64 := hr.units
    obtain ⟨p, c, m, T0, rfl, m0, m1, ⟨ns, t, l, hp, hc, hn, t0, tT, l0⟩, hT, k⟩ := h
    have ncp : c ≠ p := ne_of hc hp (by intro z; cases z)
    have lenns : (ns.map V.int).length = ns.length := List.length_map _
    refine ⟨_, (pss_cons (ps_if (pt_cmpR op_gt (pe_dget hu (pv 0) pe_str (fun _ _ => rfl)) pe_int (nomark _)) (pss_cons (ps_set (i := 2) sc_ldraw.nd rfl (Or.inl rfl) (pe_op op_mod (pe_callTy call_int1 (by rfl) T.int (by decide +kernel) (pa_cons (pe_dget hu (pv 0) pe_str (fun _ _ => rfl)) pa_nil)) (pv 1)))
      (pss_cons (ps_dput hu (pv 0) pe_str (pe_op op_fdiv (pe_dget hu (pv 0) pe_str (fun _ _ => rfl)) (pv 1)) rfl)
      (pss_one (ps_ret (pv 2))))) pss_nil)
      (pss_cons (ps_set (i := 3) sc_ldraw.nd rfl (Or.inl rfl) (pe_dget hu (pv 0) pe_str (fun _ _ => rfl)))
      (pss_cons (ps_dput hu (pv 0) pe_str (pe_op op_add (pv 3) pe_int) rfl)
      (pss_cons (ps_set (i := 4) sc_ldraw.nd rfl (Or.inl rfl) (pe_op op_add (pe_op op_mul pe_int (pv 3)) pe_int))
      (C8.pss_cut (ps_if (pt_cmpR (op_neD hu64) (pe_dget hu (pv 0) pe_str (fun _ _ => rfl)) (pe_lst pa_nil) (nomark _)) (pss_one (ps_set (i := 4) sc_ldraw.nd rfl (Or.inl rfl) (pe_ix ix_seq (pe_dget hu (pv 0) pe_str (fun _ _ => rfl)) (pe_op op_mod (pe_callTy call_int1 (by rfl) T.int (by decide +kernel) (pa_cons (pv 3) pa_nil)) (pe_callB call_len (by rfl) T.len (by decide +kernel) (pa_cons (pe_dget hu (pv 0) pe_str (fun _ _ => rfl)) pa_nil))) (fun _ _ => rfl)))) pss_nil)
      (C8.pss_cut (ps_if (PW.pt (pw_and (pt_cmpR op_lt (pv 3) (pe_callB call_len (by rfl) T.len (by decide +kernel) (pa_cons (pe_dget hu (pv 0) pe_str (fun _ _ => rfl)) pa_nil)) (nomark _)) (pw_and1 (pt_cmpR op_ge (pe_callB call_abs (by rfl) T.abs (by decide +kernel) (pa_cons (pv 4) pa_nil)) (pe_op op_pow pe_int pe_int) (nomark _))))) (pss_cons (ps_dput hu (pv 0) pe_str (pe_op op_fdiv (pe_op op_sub (pe_callB call_abs (by rfl) T.abs (by decide +kernel) (pa_cons (pv 4) pa_nil)) (pe_op op_pow pe_int pe_int)) (pv 1)) rfl)
      (pss_one (ps_ret (pe_op op_mod (pe_op op_sub (pe_callB call_abs (by rfl) T.abs (by decide +kernel) (pa_cons (pv 4) pa_nil)) (pe_op op_pow pe_int pe_int)) (pv 1))))) pss_nil)
      (pss_cons (ps_set (i := 5) sc_ldraw.nd rfl (Or.inl rfl) (pe_lst (pa_cons pe_int (pa_cons pe_int (pa_cons pe_int (pa_cons pe_int (pa_cons pe_int pa_nil)))))))
      (pss_cons (ps_set (i := 6) sc_ldraw.nd rfl (Or.inl rfl) (pe_ix ix_seq (pv 5) (pe_op op_mod (pe_callTy call_int1 (by rfl) T.int (by decide +kernel) (pa_cons (pv 3) pa_nil)) pe_int) (fun _ _ => rfl)))
      (pss_cons (ps_set (i := 7) sc_ldraw.nd rfl (Or.inl rfl) (pe_op op_mod (pe_callTy call_int1 (by rfl) T.int (by decide +kernel) (pa_cons (pe_op op_add (pe_op op_add (pe_op op_mul (pe_op op_mod (pe_callTy call_int1 (by rfl) T.int (by decide +kernel) (pa_cons (pv 4) pa_nil)) (pv 6)) pe_int) (pe_op op_mul (pv 3) (pe_op op_add (pe_op op_mul pe_int (pv 3)) pe_int))) pe_int) pa_nil)) (pv 6)))
      (pss_cons (ps_set (i := 7) sc_ldraw.nd rfl (Or.inl rfl) (pe_op op_mod (pe_callTy call_int1 (by rfl) T.int (by decide +kernel) (pa_cons (pe_op op_mul (pv 7) (pe_op op_add (pv 7) pe_int)) pa_nil)) (pe_ix ix_seq (pv 5) (pe_op op_mod (pe_callTy call_int1 (by rfl) T.int (by decide +kernel) (pa_cons (pe_op op_add (pv 3) pe_int) pa_nil)) pe_int) (fun _ _ => rfl))))
      (pss_one (ps_ret (pe_op op_mod (pe_callTy call_int1 (by rfl) T.int (by decide +kernel) (pa_cons (pe_op op_fdiv (pe_op op_mod (pe_callTy call_int1 (by rfl) T.int (by decide +kernel) (pa_cons (pe_op op_add (pe_op op_add (pe_op op_mul (pv 7) (pv 7)) (pe_op op_mul pe_int (pv 7))) (pv 3)) pa_nil)) pe_int) pe_int) pa_nil)) (pv 1)))))))))))))), ?_⟩
    refine ⟨_, rfl, p, _, rfl, get_left hp, _, _, rfl, rfl, _, rfl, ?_⟩
    refine ite2 (fun hl => ?_) (fun hl => ?_)
    · refine ⟨_, rfl, p, _, rfl, get_left hp, .inl ⟨_, rfl, ?_⟩⟩
      refine ⟨_, rfl, _, _, rfl, rfl, m0, ?_⟩
      refine ⟨_, rfl, p, _, rfl, get_left hp, _, rfl, _, _, rfl, rfl, ⟨by omega, by omega⟩, ?_⟩
      refine ⟨_, rfl, p, _, rfl, put_left hp, _, rfl, ?_⟩
      refine k _ _ (Int.emod_nonneg _ (by omega)) (Int.emod_lt_of_pos _ m0) ⟨ns, t, _, upd_same, (upd_ne ncp).trans hc, hn, t0, by omega, Int.ediv_nonneg l0 (by omega)⟩ Ext.at
    · refine ⟨_, rfl, p, _, rfl, get_turn hp, ?_⟩
      refine ⟨_, rfl, _, _, rfl, rfl, _, rfl, p, _, rfl, put_turn hp, ?_⟩
      generalize hH1 : upd H p (.dK (penL c (t + 1) l)) = H1
      have hp1 : H1 p = some (.dK (penL c (t + 1) l)) := by rw [← hH1]; exact upd_same
      have hc1 : H1 c = some (.lst (ns.map V.int)) := by rw [← hH1]; exact (upd_ne ncp).trans hc
      have e1 : Ext p H H1 := by rw [← hH1]; exact Ext.at
      refine ⟨_, rfl, _, _, rfl, rfl, .inl ⟨by decide, by decide⟩, _, _, rfl, rfl, ?_⟩
      refine ⟨fun σ' H2 => ∃ z : Int, σ' = [some (.ref p), some (.int m), none, some (.int t), some (.int z), none, none, none] ∧ H2 p = some (.dK (penL c (t + 1) l)) ∧ H2 c = some (.lst (ns.map V.int)) ∧ Ext p H H2, ?_, ?_⟩
      · refine ⟨_, rfl, p, _, rfl, get_cells hp1, by decide, fun b hb => ?_⟩
        have hp2 := up_new (u := .lst []) hp1 hb
        have hc2 := up_new (u := .lst []) hc1 hb
        refine ⟨.list (ns.map .int), .list [], .lst (SqL.of hc2) (ints_dp ns), .lst (SqL.of upd_same) .nil, ints_shaped ns, by decide +kernel, _, rfl, ?_⟩
        rw [ints_ne_nil]
        refine ite2 (fun hne => ?_) (fun _ => ?_)
        · have hpos : 0 < ns.length := by
            cases ns with
            | nil => simp at hne
            | cons a r => exact Nat.succ_pos _
          refine ⟨_, rfl, p, _, rfl, get_cells hp2, _, rfl, .inl ⟨_, rfl, _, rfl, p, _, rfl, get_cells hp2, _, _, rfl, .inl ⟨_, SqL.of hc2, rfl⟩, _, _, rfl, rfl, ?_, ?_⟩⟩
          · rw [lenns]; omega
          · obtain ⟨v, hv, hm⟩ := at_mod (xs := ns.map V.int) (i := t % ((ns.map V.int).length : Int)) (Int.emod_nonneg _ (by rw [lenns]; omega)) (Int.emod_lt_of_pos _ (by rw [lenns]; omega))
            obtain ⟨z, _, rfl⟩ := List.mem_map.mp hm
            refine .inl ⟨_, _, _, _, rfl, rfl, SqL.of hc2, hv, z, rfl, hp2, hc2, e1.set (e1.none_of ?_ hb)⟩
            exact (ne_of_none hp1 hb).symm
        · exact ⟨_, rfl, hp2, hc2, e1.set (e1.none_of (ne_of_none hp1 hb).symm hb)⟩
      · rintro σ2 H2 ⟨z, rfl, hp2, hc2, e2⟩
        refine ⟨fun σ' H3 => σ' = [some (.ref p), some (.int m), none, some (.int t), some (.int z), none, none, none] ∧ H3 = H2, ?_, ?_⟩
        · refine ⟨_, rfl, _, rfl, p, _, rfl, get_cells hp2, _, _, rfl, .inl ⟨_, SqL.of hc2, rfl⟩, _, _, rfl, rfl, _, rfl, ?_⟩
          refine ite2 (fun _ => ?_) (fun _ => ?_)
          · refine ⟨_, rfl, _, rfl, _, _, rfl, rfl, ⟨by decide, by decide, by decide⟩, _, _, rfl, rfl, _, rfl, ?_⟩
            refine ite2 (fun hbig => ?_) (fun _ => ?_)
            · have big := of_decide_eq_true hbig
              refine ⟨_, rfl, _, rfl, _, _, rfl, rfl, ⟨by decide, by decide, by decide⟩, _, _, rfl, rfl, _, rfl, _, _, rfl, rfl, ⟨by omega, by omega⟩, ?_⟩
              refine ⟨_, rfl, p, _, rfl, put_left hp2, ?_⟩
              refine ⟨_, rfl, _, rfl, _, _, rfl, rfl, ⟨by decide, by decide, by decide⟩, _, _, rfl, rfl, _, rfl, _, _, rfl, rfl, m0, ?_⟩
              refine k _ _ (Int.emod_nonneg _ (by omega)) (Int.emod_lt_of_pos _ m0) ⟨ns, t + 1, _, upd_same, (upd_ne ncp).trans hc2, hn, by omega, by omega, Int.ediv_nonneg (by omega) (by omega)⟩ (e2.trans Ext.at)
            · exact ⟨rfl, rfl⟩
          · exact ⟨rfl, rfl⟩
        · rintro σ3 H3 ⟨rfl, rfl⟩
          refine ⟨by decide, fun q hq => ?_⟩
          have hp3 := up_new (u := .lst (primes.map V.int)) hp2 hq
          have hc3 := up_new (u := .lst (primes.map V.int)) hc2 hq
          have e3 : Ext p H (upd H3 q (.lst (primes.map V.int))) := e2.set (e2.none_of (ne_of_none hp2 hq).symm hq)
          have hq3 : (upd H3 q (.lst (primes.map V.int))) q = some (.lst (primes.map V.int)) := upd_same
          have pick : ∀ i : Int, 0 ≤ i → i < 5 → ∃ z : Int, atI (primes.map V.int) i = some (.int z) ∧ 0 < z ∧ z < 2147483648 := fun i h0 h5 => by
            obtain ⟨v, hv, hm⟩ := at_mod (xs := primes.map V.int) h0 h5
            obtain ⟨z, rfl, hz⟩ := primes_in hm
            exact ⟨z, hv, hz⟩
          obtain ⟨a1, ha1, a1p, a1b⟩ := pick (t % 5) (Int.emod_nonneg _ (by decide)) (Int.emod_lt_of_pos _ (by decide))
          obtain ⟨a2, ha2, a2p, a2b⟩ := pick ((t + 2) % 5) (Int.emod_nonneg _ (by decide)) (Int.emod_lt_of_pos _ (by decide))
          refine ⟨_, rfl, _, rfl, .inl ⟨_, rfl, _, _, rfl, rfl, (by show (0 : Int) < 5; decide), .inl ⟨_, _, _, _, rfl, rfl, SqL.of hq3, ha1, ?_⟩⟩⟩
          have b1 := Int.emod_nonneg z (show a1 ≠ 0 by omega)
          have b2 := Int.emod_lt_of_pos z a1p
          refine ⟨_, rfl, .inl ⟨_, rfl, _, rfl, _, _, rfl, rfl, a1p, _, _, rfl, rfl, .inr ⟨by decide, by decide⟩, ?_⟩⟩
          refine ⟨_, rfl, _, rfl, _, _, rfl, rfl, .inl ⟨by decide, by decide⟩, _, _, rfl, rfl, _, _, rfl, rfl, .inl ⟨by omega, by omega⟩, _, _, rfl, rfl, _, _, rfl, rfl, .inl ⟨_, rfl, _, rfl, _, _, rfl, rfl, a1p, ?_⟩⟩
          have d1 := Int.emod_nonneg (z % a1 * 39373 + t * (30011 * t + 8117) + 23) (show a1 ≠ 0 by omega)
          have d2 := Int.emod_lt_of_pos (z % a1 * 39373 + t * (30011 * t + 8117) + 23) a1p
          refine ⟨_, rfl, _, rfl, _, _, rfl, rfl, _, _, rfl, rfl, .inl ⟨by omega, by omega⟩, .inl ⟨_, rfl, _, rfl, _, rfl, _, _, rfl, rfl, .inl ⟨_, rfl, _, _, rfl, rfl, (by show (0 : Int) < 5; decide), .inl ⟨_, _, _, _, rfl, rfl, SqL.of hq3, ha2, _, _, rfl, rfl, a2p, ?_⟩⟩⟩⟩
          have f1 := Int.emod_nonneg (((z % a1 * 39373 + t * (30011 * t + 8117) + 23) % a1) * (((z % a1 * 39373 + t * (30011 * t + 8117) + 23) % a1) + 69621)) (show a2 ≠ 0 by omega)
          have f2 := Int.emod_lt_of_pos (((z % a1 * 39373 + t * (30011 * t + 8117) + 23) % a1) * (((z % a1 * 39373 + t * (30011 * t + 8117) + 23) % a1) + 69621)) a2p
          refine ⟨_, rfl, _, rfl, _, _, rfl, rfl, .inl ⟨by omega, by omega⟩, _, rfl, _, _, rfl, rfl, .inl ⟨by decide, by decide⟩, _, _, rfl, rfl, _, rfl, _, _, rfl, rfl, .inl ⟨_, rfl, _, _, rfl, rfl, (by show (0 : Int) < 2147483549; decide), _, _, rfl, rfl, ⟨by decide, by decide⟩, .inl ⟨_, rfl, _, rfl, _, _, rfl, rfl, m0, ?_⟩⟩⟩
          exact k _ _ (Int.emod_nonneg _ (by omega)) (Int.emod_lt_of_pos _ m0) ⟨ns, t + 1, l, hp3, hc3, hn, by omega, by omega, l0⟩ e3

abbrev s_lpen : Stmt := top 18
theorem sc_lpen : FnScope ["_law_script"] ["_law_script"] (defScope s_lpen) := ⟨rfl, rfl, rfl, by decide +kernel, rfl, by decide +kernel, by decide +kernel⟩
theorem b_lpen {f : Addr} {fd : FuncData} (F : Fun K "_law_pen" "_law_pen" s_lpen f fd) (T : Txt mg) : FnG P w K mg base CX0 1 f fd ["_law_script"] (spPen K) := by
  refine okG0 F sc_lpen (fun vs H Q E h => ?_) (fun cdv A outer s H vs Q E hg hr h => ?_)
  · obtain ⟨a, ns, rfl, _⟩ := h
    rfl
  · have hu := hu_of hr
    have hu64 := hr.units
    obtain ⟨a, ns, rfl, hs, k⟩ := h
    refine ⟨_, (pss_one (ps_ret (pe_disp (pps_cons pe_str (pe_callTy call_list_of (by rfl) T.list (by decide +kernel) (pa_cons (pe_slice sl_list (pv 0) po_none (po_some pe_int)) pa_nil)) (pps_cons pe_str pe_int (pps_cons pe_str pe_int pps_nil))) (by rfl) (by rfl) (fun z => by cases z) (by decide)))), ?_⟩
    intro p hp
    obtain ⟨ms, hms, hml⟩ := cut63 ns
    refine ⟨_, rfl, 63, rfl, a, _, rfl, (same_new hp).seq hs, fun q hq => ?_⟩
    refine ⟨q, _, rfl, .inl (SqL.of upd_same), fun c hc => ?_⟩
    rw [hms] at hc ⊢
    have nqp : p ≠ q := fun e => by rw [← e, upd_same] at hq; cases hq
    have ncp : p ≠ c := fun e => by rw [← e, upd_ne nqp, upd_same] at hc; cases hc
    have hp2 : (upd (upd (upd H p (.dK [])) q (.lst (ms.map V.int))) c (.lst (ms.map V.int))) p = some (.dK []) := by rw [upd_ne ncp, upd_ne nqp, upd_same]
    refine ⟨hp2, penL c 0 0, rfl, (by show 3 ≤ 15; decide), ?_⟩
    rw [pen_made]
    refine k p c _ hp ⟨ms, 0, 0, upd_same, by rw [upd_ne ncp.symm, upd_same], hml, Int.le_refl _, Int.le_refl _, Int.le_refl _⟩ fun b o e => ?_
    rw [upd_ne (ne_of_none e hp), upd_ne ?_, upd_ne ?_, upd_ne (ne_of_none e hp)]
    · exact e
    · rintro rfl
      rw [upd_ne (ne_of_none e hp)] at hq
      rw [hq] at e
      cases e
    · rintro rfl
      by_cases ebq : b = q
      · subst ebq
        rw [upd_ne nqp.symm] at hq
        rw [hq] at e
        cases e
      · rw [upd_ne ebq, upd_ne (ne_of_none e hp)] at hc
        rw [hc] at e
        cases e

abbrev s_lpick : Stmt := top 20
theorem sc_lpick : FnScope ["_law_pen_here", "_law_options"] ["_law_pen_here", "_law_options"] (defScope s_lpick) := ⟨rfl, rfl, rfl, by decide +kernel, rfl, by decide +kernel, by decide +kernel⟩
theorem b_lpick {f : Addr} {fd : FuncData} (F : Fun K "_law_pick" "_law_pick" s_lpick f fd) (T : Txt mg) (c_ldraw : CalG P w K mg base CX0 1 "_law_draw" spDraw) : FnG P w K mg base CX0 2 f fd ["_law_pen_here", "_law_options"] (spPick K) := by
  refine okG0 F sc_lpick (fun vs H Q E h => ?_) (fun cdv A outer s H vs Q E hg hr h => ?_)
  · obtain ⟨p, c, o, xs, T0, rfl, _⟩ := h
    rfl
  · have hu := hu_of hr
    have hu64 := hr.units
    obtain ⟨p, c, o, xs, T0, rfl, ho, hne, hlen, hpen, hT, k⟩ := h
    have hpos : 0 < xs.length := List.length_pos_iff.mpr hne
    have hr1 : Room 1 _ := hr
    refine ⟨_, (pss_one (ps_ret (pe_ix ix_seq (pv 1) (pe_cG c_ldraw hg hr (by decide) pass0 (pa_cons (pv 0) (pa_cons (pe_callB call_len (by rfl) T.len (by decide +kernel) (pa_cons (pv 1) pa_nil)) pa_nil))) (fun _ _ => rfl)))), ?_⟩

    cases ho with
    | str z hz =>
      have e := one_len z
      have hz24 : z.length ≤ sizeLine := Nat.le_trans hz (by decide)
      refine ⟨_, rfl, _, rfl, _, rfl, _, _, rfl, ⟨hz24, rfl⟩, p, c, _, T0, rfl, by omega, by omega, hpen, hT, fun d H' d0 d1 hpen' x => ?_⟩
      obtain ⟨e1, hc, hm⟩ := at_mod (xs := z.cps.toList) d0 (by rw [show (z.cps.toList.length : Int) = (z.length : Int) from congrArg Nat.cast Array.length_toList]; exact d1)
      exact .inr (.inr ⟨z, d, e1, rfl, rfl, hz24, hc, k _ _ (List.mem_map_of_mem (f := OneS) hm) hpen' x⟩)
    | lst hs =>
      refine ⟨_, rfl, _, rfl, _, rfl, _, _, rfl, .inl ⟨_, hs, rfl⟩, p, c, _, T0, rfl, by omega, by omega, hpen, hT, fun d H' d0 d1 hpen' x => ?_⟩
      obtain ⟨v, hv, hm⟩ := at_mod d0 d1
      exact .inl ⟨_, xs, d, v, rfl, rfl, hpen.keepL x hs, hv, k _ _ hm hpen' x⟩
    | tup hs =>
      refine ⟨_, rfl, _, rfl, _, rfl, _, _, rfl, .inr ⟨_, hs, rfl⟩, p, c, _, T0, rfl, by omega, by omega, hpen, hT, fun d H' d0 d1 hpen' x => ?_⟩
      obtain ⟨v, hv, hm⟩ := at_mod d0 d1
      exact .inr (.inl ⟨_, xs, d, v, rfl, rfl, hpen.keepT x hs, hv, k _ _ hm hpen' x⟩)

abbrev s_lfew : Stmt := top 23
theorem sc_lfew : FnScope ["_law_pen_here", "_law_some", "_law_rare", "_law_k"] ["_law_pen_here"] (defScope s_lfew) := ⟨rfl, rfl, rfl, by decide +kernel, rfl, by decide +kernel, by decide +kernel⟩
theorem b_lfew {f : Addr} {fd : FuncData} (F : Fun K "_law_few" "_law_few" s_lfew f fd) (T : Txt mg) (c_lpick : CalG P w K mg base CX0 2 "_law_pick" (spPick K)) (t_signs : FnT P w K mg base 1 "_law_signs" letS) : FnG P w K mg base CX0 3 f fd ["_law_pen_here"] spFew := by
  refine okG0 F sc_lfew (fun vs H Q E h => ?_) (fun cdv A outer s H vs Q E hg hr h => ?_)
  · obtain ⟨p, pc, T0, rfl, _⟩ := h
    rfl
  · have hu := hu_of hr
    have hu64 := hr.units
    obtain ⟨p, pc, T0, rfl, hpen, hT, k⟩ := h
    have hr2 : Room 2 _ := hr
    refine ⟨_, (pss_cons (ps_set (i := 1) sc_lfew.nd rfl (Or.inr rfl) (pe_lst (pa_cons (pe_cG c_lpick hg hr (by decide) pass0 (pa_cons (pv 0) (pa_cons (pe_replT t_signs hr (by decide) (by decide +kernel) (by decide +kernel)) pa_nil))) (pa_cons (pe_cG c_lpick hg hr (by decide) pass0 (pa_cons (pv 0) (pa_cons pe_str pa_nil))) (pa_cons (pe_cG c_lpick hg hr (by decide) pass0 (pa_cons (pv 0) (pa_cons pe_str pa_nil))) pa_nil)))))
      (pss_cons (ps_set (i := 2) sc_lfew.nd rfl (Or.inl rfl) (pe_join pe_str (pe_lc (own := [("_law_k", 3)]) (g := gName 3) rfl sc_lfew.nd (pi_range1 rfl T.range (pa_cons pe_int pa_nil)) (blkOk_by (own := [("_law_k", 3)]) (N := ["_law_pen_here", "_law_some", "_law_rare", "_law_k"]) (sc := defScope s_lfew) (by decide +kernel)) (fun _ _ _ _ _ => (pg_name (i := 3) sc_lfew.nd rfl (Or.inl rfl))) (fun _ _ _ _ _ => (pts_one (pt_cmpR (op_notIn_seqK (K := K) rfl) (pe_ix (ix_seqK (K := K) rfl) (pv 1) (pv 3) (fun _ _ => rfl)) (pe_slice (sl_listK (K := K) rfl) (pv 1) po_none (po_some (pv 3))) (by rfl)))) (fun _ _ _ _ _ => (pe_ix (ix_seqK (K := K) rfl) (pv 1) (pv 3) (fun _ _ => rfl))))))
      (pss_one (ps_ret (pe_cG c_lpick hg hr (by decide) pass0 (pa_cons (pv 0) (pa_cons (pe_lst (pa_cons pe_str (pa_cons pe_str (pa_cons pe_str (pa_cons pe_str (pa_cons pe_str (pa_cons pe_str (pa_cons pe_str (pa_cons pe_str (pa_cons pe_str (pa_cons (pv 2) pa_nil))))))))))) pa_nil))))))), ?_⟩
    refine ⟨_, rfl, p, pc, _, _, T0, rfl, .str _ (by rw [noq_len]; decide), opts_ne (by rw [noq_len]; decide), opts_le (by rw [noq_len]; decide), hpen, by omega, fun v1 H1 m1 P1 x1 => ?_⟩
    obtain ⟨c1, rfl, k1⟩ := ones_of m1
    refine ⟨_, rfl, p, pc, _, _, T0 + 1, rfl, .str _ (by decide), opts_ne (by decide), opts_le (by decide), P1, by omega, fun v2 H2 m2 P2 x2 => ?_⟩
    obtain ⟨c2, rfl, k2⟩ := ones_of m2
    refine ⟨_, rfl, p, pc, _, _, T0 + 2, rfl, .str _ (by decide), opts_ne (by decide), opts_le (by decide), P2, by omega, fun v3 H3 m3 P3 x3 => ?_⟩
    obtain ⟨c3, rfl, k3⟩ := ones_of m3
    refine ⟨by show 3 ≤ sizeLine; decide, fun a ha => ?_⟩
    have hin : ∀ c ∈ [c1, c2, c3], c ∈ letS.cps.toList := by
      intro c hc
      simp only [List.mem_cons, List.not_mem_nil, or_false] at hc
      rcases hc with rfl | rfl | rfl
      · exact noq_in k1
      · exact (by decide +kernel : ∀ c ∈ (Str.ofString "yz").cps.toList, c ∈ letS.cps.toList) _ k2
      · exact (by decide +kernel : ∀ c ∈ (Str.ofString "(\n").cps.toList, c ∈ letS.cps.toList) _ k3
    have P4 := P3.new (o := .lst ([c1, c2, c3].map OneS)) ha
    have x4 : Ext p H (upd H3 a (.lst ([c1, c2, c3].map OneS))) := (x1.trans (x2.trans x3)).trans (Ext.new ha)
    have ha4 : (upd H3 a (.lst ([c1, c2, c3].map OneS))) a = some (.lst ([c1, c2, c3].map OneS)) := upd_same
    generalize hxs : ([c1, c2, c3].map OneS : List V) = xs at ha4 P4 x4
    have hxl : xs.length = 3 := by rw [← hxs]; rfl
    have hxf : xs.all flatV = true := by rw [← hxs]; exact ones_flat _
    have hxm : ∀ v ∈ xs, ∃ c, v = OneS c ∧ c ∈ [c1, c2, c3] := by rw [← hxs]; exact fun v hv => one_mem hv
    have ha5 : (upd H3 a (.lst ([c1, c2, c3].map OneS))) = upd H3 a (.lst xs) := by rw [hxs]
    generalize hH4 : upd H3 a (.lst xs) = H4 at ha4 P4 x4 ha5
    refine ⟨⟨_, rfl⟩, ?_⟩
    show (iRng1 (tCons (tC (V.int 3)) tNil)) _ (upd H3 a (.lst ([c1, c2, c3].map OneS))) _
    rw [ha5]
    refine ⟨3, rfl, by decide, by decide, fun D hD => lc_range (lo := 0) (n := 3) (fun i H' => ∃ cs : List Nat, H' D = some (.lst (cs.map OneS)) ∧ cs.length ≤ i ∧ (1 ≤ i → 1 ≤ cs.length) ∧ (∀ c ∈ cs, c ∈ letS.cps.toList) ∧ Same H4 H') ?_ ?_ ?_⟩
    · exact ⟨[], upd_same, Nat.le_refl _, fun h => by omega, fun c hc => absurd hc List.not_mem_nil, same_new hD⟩
    · rintro i H5 hi ⟨cs, hDc, hcl, hc1, hcm, sm⟩
      obtain ⟨v, hv, hvm⟩ := at_mod (xs := xs) (i := 0 + (i : Int)) (by omega) (by rw [hxl]; omega)
      obtain ⟨c, rfl, hcc⟩ := hxm v hvm
      have sa : SqL K H5 a xs := sm.seq (SqL.of ha4)
      refine ⟨rfl, _, rfl, _, rfl, .inl ⟨a, xs, _, _, rfl, rfl, sa, hv, _, rfl, _, rfl, _, rfl, a, xs, rfl, sa, fun q hq => ⟨q, _, rfl, .inl (SqL.of upd_same), rfl, cutV_all hxf, _, rfl, ?_⟩⟩⟩
      have sq : Same H4 (upd H5 q (.lst (cutV xs none (some (0 + (i : Int)))))) := sm.trans (same_new hq)
      have dq := up_new (u := .lst (cutV xs none (some (0 + (i : Int))))) hDc hq
      refine ite2 (fun hb => ?_) (fun hb => ?_)
      · refine ⟨_, rfl, _, rfl, .inl ⟨a, xs, _, _, rfl, rfl, sq.seq (SqL.of ha4), hv, _, dq, by rw [List.length_map]; exact Nat.lt_of_le_of_lt hcl (Nat.lt_trans hi (by decide)), cs ++ [c], ?_, ?_, fun _ => ?_, ?_, ?_⟩⟩
        · rw [upd_same, List.map_append]
          rfl
        · rw [List.length_append]; exact Nat.add_le_add_right hcl 1
        · rw [List.length_append]; exact Nat.le_add_left _ _
        · intro d hd
          rcases List.mem_append.mp hd with hd | hd
          · exact hcm d hd
          · rw [List.mem_singleton.mp hd]
            exact hin c hcc
        · intro b o e
          by_cases hbD : b = D
          · rw [hbD, hD] at e
            cases e
          · exact (upd_ne hbD).trans (sq b o e)
      · refine ⟨cs, dq, Nat.le_succ_of_le hcl, fun _ => ?_, hcm, sq⟩
        by_cases h0 : i = 0
        · subst h0
          refine absurd ?_ hb
          show (if true = true then !inV (OneS c) (cutV xs none (some (0 + ((0 : Nat) : Int)))) else inV (OneS c) (cutV xs none (some (0 + ((0 : Nat) : Int))))) = true
          rw [show (0 : Int) + ((0 : Nat) : Int) = 0 from rfl, cutV_zero]
          rfl
        · exact hc1 (by omega)
    · rintro H5 ⟨cs, hDc, hcl, hc1, hcm, sm⟩
      refine ⟨_, D, cs.map fun c => ⟨#[c]⟩, rfl, rfl, .inl (SqL.of (by rw [ones_map]; exact hDc)), ?_, ?_⟩
      · rw [ones_len]
        show cs.length + _ * 0 ≤ _
        omega
      · rw [join_ones]
        have fz : Few ⟨cs.toArray⟩ := few_ones (hc1 (by decide)) hcl hcm
        have x5 : Ext p H H5 := x4.trans (Ext.same sm)
        have P5 := P4.stay sm
        refine ⟨_, rfl, _, rfl, by show 10 ≤ sizeLine; decide, fun q hq => ?_⟩
        refine ⟨p, pc, _, _, T0 + 3, rfl, .lst (SqL.of upd_same), by simp, by show 10 ≤ 1000; decide, P5.new hq, by omega, fun v H6 hm P6 x6 => ?_⟩
        have fin : ∃ z, v = .str z ∧ Few z := by
          simp only [List.mem_cons, List.not_mem_nil, or_false] at hm
          rcases hm with rfl | rfl | rfl | rfl | rfl | rfl | rfl | rfl | rfl | rfl
          all_goals first
            | exact ⟨_, rfl, fz⟩
            | exact ⟨_, rfl, few_of (by decide +kernel)⟩
        obtain ⟨z, rfl, hz⟩ := fin
        exact k z H6 hz P6 (x5.trans ((Ext.new hq).trans x6))

abbrev s_lword : Stmt := top 24
theorem sc_lword : FnScope ["_law_pen_here", "_law_signs_here", "_law_least", "_law_most_letters", "_law_many", "_law_k"] ["_law_pen_here", "_law_signs_here", "_law_least", "_law_most_letters"] (defScope s_lword) := ⟨rfl, rfl, rfl, by decide +kernel, rfl, by decide +kernel, by decide +kernel⟩
theorem b_lword {f : Addr} {fd : FuncData} (F : Fun K "_law_word" "_law_word" s_lword f fd) (T : Txt mg) (c_ldraw : CalG P w K mg base CX0 1 "_law_draw" spDraw) (c_lpick : CalG P w K mg base CX0 2 "_law_pick" (spPick K)) : FnG P w K mg base CX0 3 f fd ["_law_pen_here", "_law_signs_here", "_law_least", "_law_most_letters"] spWord := by
  refine okG0 F sc_lword (fun vs H Q E h => ?_) (fun cdv A outer s H vs Q E hg hr h => ?_)
  · obtain ⟨p, pc, z, a, b, T0, rfl, _⟩ := h
    rfl
  · have hu := hu_of hr
    have hu64 := hr.units
    obtain ⟨p, pc, z, a, b, T0, rfl, hab, hb, hz1, hz, hpen, hT, k⟩ := h
    have hr2 : Room 2 _ := hr
    refine ⟨_, (pss_cons (ps_set (i := 4) sc_lword.nd rfl (Or.inl rfl) (pe_op op_add (pv 2) (pe_cG c_ldraw hg hr (by decide) pass0 (pa_cons (pv 0) (pa_cons (pe_op op_add (pe_op op_sub (pv 3) (pv 2)) pe_int) pa_nil)))))
      (pss_one (ps_ret (pe_join pe_str (pe_lc (own := [("_law_k", 5)]) (g := gName 5) (tt := tYes) rfl sc_lword.nd (pi_range1 rfl T.range (pa_cons (pv 4) pa_nil)) (blkOk_by (own := [("_law_k", 5)]) (N := ["_law_pen_here", "_law_signs_here", "_law_least", "_law_most_letters", "_law_many", "_law_k"]) (sc := defScope s_lword) (by decide +kernel)) (fun _ _ _ _ _ => (pg_name (i := 5) sc_lword.nd rfl (Or.inl rfl))) (fun _ _ _ _ _ => pts_nil) (fun _ _ _ _ _ => (pe_cG c_lpick hg hr (by decide) pass0 (pa_cons (pv 0) (pa_cons (pv 1) pa_nil))))))))), ?_⟩
    refine ⟨_, rfl, _, rfl, _, rfl, _, rfl, _, _, rfl, rfl, _, _, rfl, rfl, p, pc, _, T0, rfl, by omega, by omega, hpen, by omega, fun d H1 d0 d1 P1 x1 => ?_⟩
    refine ⟨_, _, rfl, rfl, ⟨_, rfl⟩, ?_⟩
    obtain ⟨n, rfl⟩ : ∃ n : Nat, d = (n : Int) := ⟨d.toNat, by omega⟩
    refine ⟨_, rfl, _, rfl, by omega, by omega, fun D hD => ?_⟩
    have en : ((a : Int) + (n : Int)).toNat = a + n := by omega
    have hn : a + n ≤ b := by omega
    obtain ⟨nDp, nDc⟩ := P1.apart hD
    refine lc_range (lo := 0) (n := ((a : Int) + (n : Int)).toNat) (fun i H' => ∃ cs : List Nat, H' D = some (.lst (cs.map OneS)) ∧ cs.length = i ∧ (∀ c ∈ cs, c ∈ z.cps.toList) ∧ Pen H' p pc (T0 + 1 + i) ∧ Ext p H H') ?_ ?_ ?_
    · refine ⟨[], upd_same, rfl, fun c hc => absurd hc List.not_mem_nil, P1.new hD, x1.trans (Ext.new hD)⟩
    · rintro i H2 hi ⟨cs, hDc, hcl, hcm, P2, x2⟩
      rw [en] at hi
      refine ⟨rfl, _, rfl, _, rfl, p, pc, _, _, T0 + 1 + i, rfl, .str z hz, opts_ne hz1, opts_le hz, P2, by omega, fun v H3 hm P3 x3 => ?_⟩
      obtain ⟨c, rfl, hc⟩ := ones_of hm
      have d3 := P2.keepI x3 hDc
      refine ⟨_, d3, by rw [List.length_map, hcl]; exact Nat.lt_of_lt_of_le hi (Nat.le_trans hn (Nat.le_trans hb (by decide))), cs ++ [c], ?_, by rw [List.length_append, hcl]; rfl, ?_, ?_, ?_⟩
      · rw [upd_same, List.map_append]
        rfl
      · intro e he
        rcases List.mem_append.mp he with he | he
        · exact hcm e he
        · rw [List.mem_singleton.mp he]
          exact hc
      · exact P3.set nDp nDc
      · exact fun b o e hb => by
          rw [upd_ne (fun q => by rw [q, x1.none_of nDp hD] at e; cases e)]
          exact x3 b o (x2 b o e hb) hb
    · rintro H2 ⟨cs, hDc, hcl, hcm, P2, x2⟩
      refine ⟨_, D, cs.map fun c => ⟨#[c]⟩, rfl, rfl, .inl (SqL.of (by rw [ones_map]; exact hDc)), ?_, ?_⟩
      · rw [ones_len]
        show cs.length + _ * 0 ≤ _
        omega
      · rw [join_ones]
        rw [en] at hcl P2
        exact k _ H2 ⟨by show a ≤ cs.toArray.size; rw [List.size_toArray]; omega, by show cs.toArray.size ≤ b; rw [List.size_toArray]; omega, by simpa using hcm⟩ (P2.mono (by omega)) x2

abbrev s_lplaces : Stmt := top 25
theorem sc_lplaces : FnScope ["_law_text_here", "_law_was", "_law_size", "_law_k"] ["_law_text_here", "_law_was"] (defScope s_lplaces) := ⟨rfl, rfl, rfl, by decide +kernel, rfl, by decide +kernel, by decide +kernel⟩
theorem b_lplaces {f : Addr} {fd : FuncData} (F : Fun K "_law_places" "_law_places" s_lplaces f fd) (T : Txt mg) : FnG P w K mg base CX0 1 f fd ["_law_text_here", "_law_was"] (spPlaces K) := by
  refine okG0 F sc_lplaces (fun vs H Q E h => ?_) (fun cdv A outer s H vs Q E hg hr h => ?_)
  · obtain ⟨x, wd, rfl, _⟩ := h
    rfl
  · have hu := hu_of hr
    have hu64 := hr.units
    obtain ⟨x, wd, rfl, hx, hw, k⟩ := h
    refine ⟨_, (pss_cons (ps_set (i := 2) sc_lplaces.nd rfl (Or.inr rfl) (pe_callB call_len (by rfl) T.len (by decide +kernel) (pa_cons (pv 1) pa_nil)))
      (pss_one (ps_ret (pe_lc (own := [("_law_k", 3)]) (g := gName 3) rfl sc_lplaces.nd (pi_range1 rfl T.range (pa_cons (pe_op op_add (pe_op op_sub (pe_callB call_len (by rfl) T.len (by decide +kernel) (pa_cons (pv 0) pa_nil)) (pv 2)) pe_int) pa_nil)) (blkOk_by (own := [("_law_k", 3)]) (N := ["_law_text_here", "_law_was", "_law_size", "_law_k"]) (sc := defScope s_lplaces) (by decide +kernel)) (fun _ _ _ _ _ => (pg_name (i := 3) sc_lplaces.nd rfl (Or.inl rfl))) (fun _ _ _ _ _ => (pts_one (pt_cmpR op_eq (pe_slice sl_str (pv 0) (po_some (pv 3)) (po_some (pe_op op_add (pv 3) (pv 2)))) (pv 1) (nomark _)))) (fun _ _ _ _ _ => (pv 3)))))), ?_⟩
    have hx24 : x.length ≤ sizeLine := Nat.le_trans hx (by decide)
    have hw24 : wd.length ≤ sizeLine := Nat.le_trans hw (by decide)
    refine ⟨_, rfl, _, _, rfl, ⟨hw24, rfl⟩, ?_⟩
    refine ⟨_, rfl, _, _, rfl, ⟨hx24, rfl⟩, _, rfl, _, _, rfl, rfl, _, _, rfl, rfl, _, rfl, by omega, by omega, fun D hD => ?_⟩
    refine lc_range (lo := 0) (n := ((x.length : Int) - (wd.length : Int) + 1).toNat) (fun i H' => H' D = some (.lst ((((List.range i).filter (atB x wd)).map Int.ofNat).map V.int)) ∧ Same H H') ?_ ?_ ?_
    · exact ⟨upd_same, same_new hD⟩
    · rintro i H2 hi ⟨hd, sm⟩
      have hi2 : i + wd.length ≤ x.length := by omega
      refine ⟨rfl, _, rfl, _, rfl, _, rfl, _, rfl, _, rfl, _, _, rfl, rfl, _, rfl, x, rfl, hx24, ?_⟩
      refine ⟨_, rfl, rfl, _, rfl, ?_⟩
      have ec := cut_at x wd i hi2
      rw [show (0 : Int) + (i : Int) = (i : Int) by omega, ec]
      cases hb : atB x wd i with
      | true =>
        refine iteT ?_
        have fl : ((((List.range i).filter (atB x wd)).map Int.ofNat).map V.int).length ≤ i := by
          rw [List.length_map, List.length_map]
          exact Nat.le_trans (List.length_filter_le _ _) (Nat.le_of_eq List.length_range)
        refine ⟨_, rfl, _, hd, Nat.lt_of_le_of_lt fl (Nat.lt_of_le_of_lt (show i ≤ 10002 by omega) (by decide)), ?_, ?_⟩
        · rw [upd_same, filter_snoc hb, List.map_append, List.map_append]
          rfl
        · intro b o e
          exact (upd_ne (fun q => by rw [q, hD] at e; cases e)).trans (sm b o e)
      | false =>
        refine iteF ⟨?_, sm⟩
        rw [hd, filter_more (Nat.le_succ i) fun j h1 h2 => by rw [show j = i by omega]; exact hb]
    · rintro H2 ⟨hd, sm⟩
      refine k D H2 hD ?_ sm
      rw [hd]
      unfold plcI plc
      rw [← filter_more (lo := ((x.length : Int) - (wd.length : Int) + 1).toNat) (m := x.length + 1) (by omega) fun j h1 h2 => by
        unfold atB
        rw [decide_eq_false (by omega)]
        rfl]

theorem cut_upto (x : Str) (M : Nat) : (cutS x none (some (M : Int))).length ≤ M := by
  unfold cutS
  show (List.toArray _).size ≤ M
  rw [List.size_toArray, HT.sIx_nat, HT.sIx_none]
  refine Nat.le_trans (List.length_take_le _ _) ?_
  have := Nat.min_le_left M x.length
  omega
abbrev s_lntext : Stmt := top 26
theorem sc_lntext : FnScope ["_law_pen_here", "_law_signs_here", "_law_most_letters", "_law_some", "_law_found", "_law_k"] ["_law_pen_here", "_law_signs_here", "_law_most_letters"] (defScope s_lntext) := ⟨rfl, rfl, rfl, by decide +kernel, rfl, by decide +kernel, by decide +kernel⟩
/-- a window that stands once -/
def spNonce : Sp := fun vs H Q _ => ∃ (x : Str) (a b : Nat), vs = [.str x, .int (a : Nat), .int (b : Nat)] ∧ x.length ≤ 100 ∧ (a < b → b ≤ x.length) ∧ ∀ H', Same H H' → Q (.bl (decide (a < b ∧ twB x a b = false))) H'
abbrev s_lnonce : Stmt := top 27
theorem sc_lnonce : FnScope ["_law_text_here", "_law_a", "_law_b"] ["_law_text_here", "_law_a", "_law_b"] (defScope s_lnonce) := ⟨rfl, rfl, rfl, by decide +kernel, rfl, by decide +kernel, by decide +kernel⟩
theorem b_lnonce {f : Addr} {fd : FuncData} (F : Fun K "_law_nonce" "_law_nonce" s_lnonce f fd) (T : Txt mg) (c_lplaces : CalG P w K mg base CX0 1 "_law_places" (spPlaces K)) : FnG P w K mg base CX0 2 f fd ["_law_text_here", "_law_a", "_law_b"] spNonce := by
  refine okG0 F sc_lnonce (fun vs H Q E h => ?_) (fun cdv A outer s H vs Q E hg hr h => ?_)
  · obtain ⟨x, a, b, rfl, _⟩ := h
    rfl
  · have hu := hu_of hr
    have hu64 := hr.units
    obtain ⟨x, a, b, rfl, hx, hb, k⟩ := h
    have hr1 : Room 1 _ := hr
    have xl : x.length ≤ sizeLine := Nat.le_of_lt (fewL (by omega))
    refine ⟨_, (pss_one (ps_ret (pe_and (pe_cmpR op_lt (pv 1) (pv 2) (nomark _)) (pe_one (pe_cmpR op_eq (pe_callB call_len (by rfl) T.len (by decide +kernel) (pa_cons (pe_cG c_lplaces hg hr (by decide) pass0 (pa_cons (pv 0) (pa_cons (pe_slice sl_str (pv 0) (po_some (pv 1)) (po_some (pv 2))) pa_nil))) pa_nil)) pe_int (nomark _)))))), ?_⟩
    refine ⟨_, rfl, _, rfl, _, _, rfl, rfl, _, rfl, ?_⟩
    by_cases hab : a < b
    · rw [decide_eq_true (show ((a : Nat) : Int) < ((b : Nat) : Int) by omega)]
      refine iteT ⟨_, rfl, _, rfl, _, rfl, _, rfl, _, rfl, _, rfl, x, rfl, xl, x, _, rfl, by omega, ?_⟩
      refine ⟨Nat.le_trans (cutS_length _ _ _) (by omega), fun lp H1 _ hp s1 => ⟨_, _, rfl, .inl ⟨_, SqL.of hp, rfl⟩, rfl, ?_⟩⟩
      have hl : ((plcI x (cutS x (some ((a : Nat) : Int)) (some ((b : Nat) : Int)))).map V.int).length = (plc x (cutS x (some ((a : Nat) : Int)) (some ((b : Nat) : Int)))).length := by
        unfold plcI
        rw [List.length_map, List.length_map]
      have q := k H1 s1
      have e : decide (V.int ((((plcI x (cutS x (some ((a : Nat) : Int)) (some ((b : Nat) : Int)))).map V.int).length : Nat) : Int) = V.int 1) = decide (a < b ∧ twB x a b = false) := by
        rw [hl]
        refine decide_eq_decide.mpr (Iff.trans ⟨fun z => ?_, fun z => ?_⟩ (Iff.trans (plc_one (Nat.le_of_lt hab) (hb hab)) ⟨fun z => ⟨hab, z⟩, fun z => z.2⟩))
        · have := V.int.inj z
          omega
        · rw [z]
          rfl
      rw [← e] at q
      exact q
    · rw [decide_eq_false (show ¬ ((a : Nat) : Int) < ((b : Nat) : Int) by omega)]
      refine iteF ?_
      have q := k H (fun _ _ e => e)
      rw [decide_eq_false (fun z => hab z.1)] at q
      exact q

end
end Vk
set_option Elab.async false
set_option maxRecDepth 100000
set_option linter.all false
set_option maxHeartbeats 4000000
namespace Vk
open PySem PySem.Spec PyProof.Rows L2
section
variable {P : Program} {w : World} {K : PySem.W.Frag} {mg : Str → Option Value} {base : Heap}
theorem pen_tup {H H1 : Hp} {p c : Addr} {T : Nat} (q : Pen H p c T) (x : Ext p H H1) : ∀ u ws, H u = some (.tup ws) → H1 u = some (.tup ws) := fun u ws h => x u _ h fun e => by
  obtain ⟨t, l, z⟩ := q.is
  rw [e, z] at h
  cases h
end
end Vk
set_option Elab.async false
set_option maxRecDepth 100000
set_option linter.all false
namespace Vk
open PySem PySem.Spec PyProof.Rows L2
section
variable {P : Program} {w : World} {K : PySem.W.Frag} {mg : Str → Option Value} {base : Heap}
def srtB : PyData → Bool
  | .str z => decide (z.length ≤ 1000) && PyData.strOk z
  | _ => true
def elB : PyData → Bool
  | .tuple l => l.all srtB && decide (l.length ≤ 100)
  | _ => true
def okC (d : PyData) : Bool := okB d && srtB d && PyData.strOk d.shown && elB d
/-- the strings within a tuple are short -/
def El (d : PyData) : Prop := ∀ l, d = .tuple l → ∀ x ∈ l, Srt x
theorem srtB_srt {d : PyData} (h : srtB d = true) : Srt d := by
  cases d with
  | str z =>
    unfold srtB at h
    rw [Bool.and_eq_true, decide_eq_true_eq] at h
    exact h
  | _ => trivial
theorem okC_el {d : PyData} (h : okC d = true) : El d := by
  unfold okC at h
  rw [Bool.and_eq_true] at h
  rintro l rfl x hx
  exact srtB_srt (List.all_eq_true.mp (Bool.and_eq_true_iff.mp h.2).1 x hx)
theorem okC_srt {d : PyData} (h : okC d = true) : Srt d := by
  unfold okC at h
  rw [Bool.and_eq_true, Bool.and_eq_true, Bool.and_eq_true] at h
  cases d with
  | str z =>
    have q := h.1.1.2
    unfold srtB at q
    rw [Bool.and_eq_true, decide_eq_true_eq] at q
    exact q
  | _ => trivial
theorem okC_len {d : PyData} (h : okC d = true) : ∀ l, d = .tuple l → l.length ≤ 100 := by
  unfold okC at h
  rw [Bool.and_eq_true] at h
  rintro l rfl
  exact of_decide_eq_true (Bool.and_eq_true_iff.mp h.2).2
end
end Vk
set_option Elab.async false
set_option maxRecDepth 100000
set_option linter.all false
set_option maxHeartbeats 4000000
namespace Vk
open PySem PySem.Spec PyProof.Rows L2
section
variable {P : Program} {w : World} {K : PySem.W.Frag} {mg : Str → Option Value} {base : Heap}
end
end Vk
set_option Elab.async false
set_option maxRecDepth 100000
set_option linter.all false
set_option maxHeartbeats 4000000
namespace Vk
open PySem PySem.Spec PyProof.Rows L2
section
variable {P : Program} {w : World} {K : PySem.W.Frag} {mg : Str → Option Value} {base : Heap}
end
end Vk
set_option Elab.async false
set_option maxRecDepth 100000
set_option linter.all false
set_option maxHeartbeats 4000000
namespace Vk
open PySem PySem.Spec PyProof.Rows L2
section
variable {P : Program} {w : World} {K : PySem.W.Frag} {mg : Str → Option Value} {base : Heap}
end
end Vk
set_option Elab.async false
set_option maxRecDepth 100000
set_option linter.all false
set_option maxHeartbeats 4000000
namespace Vk
open PySem PySem.Spec PyProof.Rows L2
section
variable {P : Program} {w : World} {K : PySem.W.Frag} {mg : Str → Option Value} {base : Heap}
end
end Vk
set_option Elab.async false
set_option maxRecDepth 100000
set_option linter.all false
set_option maxHeartbeats 4000000
namespace Vk
open PySem PySem.Spec PyProof.Rows L2
section
variable {P : Program} {w : World} {K : PySem.W.Frag} {mg : Str → Option Value} {base : Heap}
end
end Vk
set_option Elab.async false
set_option maxRecDepth 100000
set_option linter.all false
namespace Vk
open PySem PySem.Spec PyProof.Rows L2
/-- the least end of a window from a that stands once; behind the text if there is none -/
def lendF (x : Str) (a : Nat) : Nat → Nat → Nat
  | 0, e => e
  | f + 1, e => if e ≤ x.length ∧ twB x a e = true then lendF x a f (e + 1) else e
theorem lendF_spec {x : Str} {a : Nat} : ∀ (f e : Nat), a < e → x.length + 1 ≤ e + f → (∀ b, a < b → b < e → b ≤ x.length → twB x a b = true) →
    e ≤ lendF x a f e ∧ (∀ b, a < b → b < lendF x a f e → b ≤ x.length → twB x a b = true) ∧ (lendF x a f e ≤ x.length → twB x a (lendF x a f e) = false) ∧ (e ≤ x.length + 1 → lendF x a f e ≤ x.length + 1)
  | 0, e, h0, h1, h2 => ⟨Nat.le_refl _, h2, fun h => by rw [lendF] at h; omega, fun h => h⟩
  | f + 1, e, h0, h1, h2 => by
    rw [lendF]
    split
    · rename_i c
      obtain ⟨s1, s2, s3, s4⟩ := lendF_spec (x := x) (a := a) f (e + 1) (by omega) (by omega) fun b b1 b2 b3 => by
        by_cases be : b = e
        · rw [be]; exact c.2
        · exact h2 b b1 (by omega) b3
      exact ⟨by omega, s2, s3, fun _ => s4 (by omega)⟩
    · rename_i c
      refine ⟨Nat.le_refl _, h2, fun h => ?_, fun h => h⟩
      cases e2 : twB x a e with
      | false => rfl
      | true => exact absurd ⟨h, e2⟩ c
theorem lendF_step {x : Str} {a f e : Nat} (h : e ≤ x.length ∧ twB x a e = true) : lendF x a (f + 1) e = lendF x a f (e + 1) := by rw [lendF, if_pos h]
theorem lendF_stop {x : Str} {a f e : Nat} (h : ¬ (e ≤ x.length ∧ twB x a e = true)) : lendF x a f e = e := by
  cases f with
  | zero => rfl
  | succ f => rw [lendF, if_neg h]
/-- e is the least end from a -/
structure Lend (x : Str) (a e : Nat) : Prop where
  gt : a < e
  le : e ≤ x.length + 1
  twice : ∀ b, a < b → b < e → b ≤ x.length → twB x a b = true
  once : e ≤ x.length → twB x a e = false
theorem Lend.more {x : Str} {a e : Nat} (h : Lend x a e) {b : Nat} (h1 : e ≤ b) (h2 : b ≤ x.length) : twB x a b = false := by
  have g := h.gt
  cases e2 : twB x a b with
  | false => rfl
  | true =>
    have t := (twB_iff (by omega) h2).mp e2
    have := (twB_iff (by omega) (by omega)).mpr (t.less (Nat.le_refl _) (by omega) h1)
    rw [h.once (by omega)] at this
    cases this
theorem Lend.iff {x : Str} {a e : Nat} (h : Lend x a e) {b : Nat} (h1 : a < b) (h2 : b ≤ x.length) : twB x a b = false ↔ e ≤ b := by
  constructor
  · intro z
    refine Nat.le_of_not_lt fun q => ?_
    rw [h.twice b h1 q h2] at z
    cases z
  · intro z
    exact h.more z h2
theorem Lend.next {x : Str} {a e : Nat} (h : Lend x a e) : ∀ b, a + 1 < b → b < max e (a + 2) → b ≤ x.length → twB x (a + 1) b = true := by
  intro b b1 b2 b3
  have t := (twB_iff (by omega) b3).mp (h.twice b (by omega) (by omega) b3)
  exact (twB_iff (by omega) b3).mpr (t.less (by omega) (by omega) (Nat.le_refl _))
end Vk
set_option linter.all false
namespace Vk
/-! ## distances -/
def neq (a b : Nat) : Nat := if a = b then 0 else 1
def edD (A B : Nat → Nat) : Nat → Nat → Nat
  | 0, j => j
  | i + 1, 0 => i + 1
  | i + 1, j + 1 => min (min (edD A B i j + neq (A i) (B j)) (edD A B i (j + 1) + 1)) (edD A B (i + 1) j + 1)
/-! ## windows from a to i -/
def fD (X B : Nat → Nat) (a i j : Nat) : Nat := edD (fun t => X (a + t)) B (i - a) j
structure Best (X B : Nat → Nat) (i j num bits : Nat) : Prop where
  le : ∀ a, a ≤ i → num ≤ fD X B a i j
  bit : ∀ l, bits.testBit l = true ↔ l ≤ i ∧ fD X B (i - l) i j = num
  at_ : ∃ a, a ≤ i ∧ fD X B a i j = num
  up : num ≤ j
/-- the three pairs of next_column -/
def three (ne n1 b1 n2 b2 n3 b3 : Nat) : List (Nat × Nat) := [(n1 + ne, b1 * 2), (n2 + 1, b2 * 2), (n3 + 1, b3)]
/-! ## windows -/
/-! the law's rows -/
/-- what is told and what is due is the same -/
structure Cols (X B : Nat → Nat) (m n : Nat) (es : List (Nat × Nat)) : Prop where
  len : es.length = n
  best : ∀ i e, es[i]? = some e → Best X B (i + 1) m e.1 e.2
/-! an empty old -/
end Vk
set_option linter.all false
namespace Vk
/-! ## edits that make b of a, n of them -/
inductive Ed : List Nat → List Nat → Nat → Prop
  | nil : Ed [] [] 0
  | keep {a b : List Nat} {n : Nat} (x : Nat) : Ed a b n → Ed (x :: a) (x :: b) n
  | drop {a b : List Nat} {n : Nat} (x : Nat) : Ed a b n → Ed (x :: a) b (n + 1)
  | put {a b : List Nat} {n : Nat} (y : Nat) : Ed a b n → Ed a (y :: b) (n + 1)
  | set {a b : List Nat} {n : Nat} (x y : Nat) : Ed a b n → Ed (x :: a) (y :: b) (n + 1)
theorem Ed.refl : ∀ a : List Nat, Ed a a 0
  | [] => .nil
  | x :: a => .keep x (Ed.refl a)
theorem Ed.symm {a b : List Nat} {n : Nat} (h : Ed a b n) : Ed b a n := by
  induction h with
  | nil => exact .nil
  | keep x _ ih => exact .keep x ih
  | drop x _ ih => exact .put x ih
  | put y _ ih => exact .drop y ih
  | set x y _ ih => exact .set y x ih
theorem Ed.len {a b : List Nat} {n : Nat} (h : Ed a b n) : a.length ≤ b.length + n ∧ b.length ≤ a.length + n := by
  induction h with
  | nil => exact ⟨Nat.le_refl _, Nat.le_refl _⟩
  | _ => simp only [List.length_cons] at *; omega
theorem Ed.zero {a b : List Nat} {n : Nat} (h : Ed a b n) (e : n = 0) : a = b := by
  induction h with
  | nil => rfl
  | keep x _ ih => rw [ih e]
  | _ => cases e
theorem Ed.trans {a b c : List Nat} {n m : Nat} (h : Ed a b n) (g : Ed b c m) : ∃ k, k ≤ n + m ∧ Ed a c k := by
  induction h generalizing c m with
  | nil => exact ⟨m, by omega, g⟩
  | @keep a b n x _ ih =>
    generalize hl : x :: b = l at g
    induction g with
    | nil => cases hl
    | keep y g _ =>
      cases hl
      obtain ⟨k, hk, e⟩ := ih g
      exact ⟨k, hk, .keep _ e⟩
    | drop y g _ =>
      cases hl
      obtain ⟨k, hk, e⟩ := ih g
      exact ⟨k + 1, by omega, .drop _ e⟩
    | put y g ig =>
      obtain ⟨k, hk, e⟩ := ig hl
      exact ⟨k + 1, by omega, .put _ e⟩
    | set y z g _ =>
      cases hl
      obtain ⟨k, hk, e⟩ := ih g
      exact ⟨k + 1, by omega, .set _ _ e⟩
  | @drop a b n x _ ih =>
    obtain ⟨k, hk, e⟩ := ih g
    exact ⟨k + 1, by omega, .drop _ e⟩
  | @put a b n x _ ih =>
    generalize hl : x :: b = l at g
    induction g with
    | nil => cases hl
    | keep y g _ =>
      cases hl
      obtain ⟨k, hk, e⟩ := ih g
      exact ⟨k + 1, by omega, .put _ e⟩
    | drop y g _ =>
      cases hl
      obtain ⟨k, hk, e⟩ := ih g
      exact ⟨k, by omega, e⟩
    | put y g ig =>
      obtain ⟨k, hk, e⟩ := ig hl
      exact ⟨k + 1, by omega, .put _ e⟩
    | set y z g _ =>
      cases hl
      obtain ⟨k, hk, e⟩ := ih g
      exact ⟨k + 1, by omega, .put _ e⟩
  | @set a b n x x2 _ ih =>
    generalize hl : x2 :: b = l at g
    induction g with
    | nil => cases hl
    | keep y g _ =>
      cases hl
      obtain ⟨k, hk, e⟩ := ih g
      exact ⟨k + 1, by omega, .set _ _ e⟩
    | drop y g _ =>
      cases hl
      obtain ⟨k, hk, e⟩ := ih g
      exact ⟨k + 1, by omega, .drop _ e⟩
    | put y g ig =>
      obtain ⟨k, hk, e⟩ := ig hl
      exact ⟨k + 1, by omega, .put _ e⟩
    | set y z g _ =>
      cases hl
      obtain ⟨k, hk, e⟩ := ih g
      exact ⟨k + 1, by omega, .set _ _ e⟩
/-! ## the table's distance -/
end Vk
set_option Elab.async false
set_option maxRecDepth 100000
set_option linter.all false
set_option maxHeartbeats 4000000
namespace Vk
/-! ## the least number that a promise holds for, below a bound -/
structure Least (S : Nat → Prop) (B v : Nat) : Prop where
  is : v < B → S v
  le : ∀ c, S c → v ≤ c
  top : v ≤ B
theorem least_ex (S : Nat → Prop) : ∀ B, ∃ v, Least S B v
  | 0 => ⟨0, fun h => absurd h (Nat.lt_irrefl _), fun _ _ => Nat.zero_le _, Nat.le_refl _⟩
  | B + 1 => by
    obtain ⟨v, h⟩ := least_ex S B
    rcases Nat.lt_or_ge v B with l | l
    · exact ⟨v, fun _ => h.is l, h.le, by omega⟩
    · have e : v = B := Nat.le_antisymm h.top l
      subst e
      rcases Classical.em (S v) with z | z
      · exact ⟨v, fun _ => z, h.le, by omega⟩
      · refine ⟨v + 1, fun q => absurd q (Nat.lt_irrefl _), fun c hc => ?_, Nat.le_refl _⟩
        have := h.le c hc
        rcases Nat.lt_or_ge v c with m | m
        · exact m
        · obtain rfl : c = v := by omega
          exact absurd hc z
noncomputable def lstB (S : Nat → Prop) (B : Nat) : Nat := Classical.choose (least_ex S B)
theorem lstB_least (S : Nat → Prop) (B : Nat) : Least S B (lstB S B) := Classical.choose_spec (least_ex S B)
theorem Least.uniq {S : Nat → Prop} {B v w : Nat} (a : Least S B v) (b : Least S B w) : v = w := by
  rcases Nat.lt_or_ge v B with l | l
  · have h1 := b.le _ (a.is l)
    rcases Nat.lt_or_ge w B with m | m
    · have h2 := a.le _ (b.is m)
      omega
    · omega
  · rcases Nat.lt_or_ge w B with m | m
    · have h2 := a.le _ (b.is m)
      have := b.top
      omega
    · have := a.top
      have := b.top
      omega
theorem Least.eq {S : Nat → Prop} {B v : Nat} (a : Least S B v) : lstB S B = v := (lstB_least S B).uniq a
section
variable (a b : List Nat) (once : Nat → Nat → Prop) (e : Nat)
/-- ways to (i, j), step by step: a letter kept, a window exchanged -/
inductive WayF : Nat → Nat → Nat → Prop
  | start : WayF 0 0 0
  | keep {i j c : Nat} : WayF i j c → i < a.length → a[i]? = b[j]? → WayF (i + 1) (j + 1) c
  | xch {i j c t k : Nat} : WayF i j c → i < t → t ≤ a.length → once i t → j ≤ k → k ≤ b.length → WayF t k (c + e + (t - i) + (k - j))
/-- ways from (i, j) to the end -/
inductive WayB : Nat → Nat → Nat → Prop
  | stop : WayB a.length b.length 0
  | keep {i j c : Nat} : WayB (i + 1) (j + 1) c → i < a.length → a[i]? = b[j]? → WayB i j c
  | xch {i j c t k : Nat} : WayB t k c → i < t → t ≤ a.length → once i t → j ≤ k → k ≤ b.length → WayB i j (c + e + (t - i) + (k - j))
variable {a b once e}
theorem WayB.join {i j c d : Nat} (h : WayB a b once e i j c) (f : WayF a b once e i j d) : WayF a b once e a.length b.length (d + c) := by
  induction h generalizing d with
  | stop => exact f
  | keep _ h1 h2 ih => exact ih (.keep f h1 h2)
  | xch _ h1 h2 h3 h4 h5 ih =>
    have := ih (.xch f h1 h2 h3 h4 h5)
    rw [show ∀ x y z u v : Nat, x + (y + z + u + v) = x + z + u + v + y from by intros; omega]
    exact this
theorem WayF.join {i j c d : Nat} (f : WayF a b once e i j d) (h : WayB a b once e i j c) : WayB a b once e 0 0 (d + c) := by
  induction f generalizing c with
  | start => rw [Nat.zero_add]; exact h
  | keep _ h1 h2 ih => exact ih (.keep h h1 h2)
  | xch _ h1 h2 h3 h4 h5 ih =>
    have := ih (.xch h h1 h2 h3 h4 h5)
    rw [show ∀ x y z u v : Nat, x + y + z + u + v = x + (v + y + z + u) from by intros; omega]
    exact this
theorem way_both {c : Nat} : WayF a b once e a.length b.length c ↔ WayB a b once e 0 0 c := by
  constructor
  · intro h
    have := h.join .stop
    exact this
  · intro h
    have := h.join .start
    rw [Nat.zero_add] at this
    exact this
theorem WayF.in {i j c : Nat} (h : WayF a b once e i j c) : i ≤ a.length ∧ j ≤ b.length := by
  induction h with
  | start => exact ⟨Nat.zero_le _, Nat.zero_le _⟩
  | @keep i j c _ h1 h2 ih =>
    refine ⟨h1, ?_⟩
    rw [List.getElem?_eq_getElem h1] at h2
    exact (List.getElem?_eq_some_iff.mp h2.symm).1
  | xch _ h1 h2 h3 h4 h5 ih => exact ⟨h2, h5⟩
theorem WayB.in {i j c : Nat} (h : WayB a b once e i j c) : i ≤ a.length ∧ j ≤ b.length := by
  induction h with
  | stop => exact ⟨Nat.le_refl _, Nat.le_refl _⟩
  | keep _ h1 h2 ih => exact ⟨by omega, by omega⟩
  | xch _ h1 h2 h3 h4 h5 ih => exact ⟨by omega, by omega⟩
/-- the last step to (i, j) is a window -/
def Beg (a b : List Nat) (once : Nat → Nat → Prop) (e i j c : Nat) : Prop := ∃ g k d, WayF a b once e g k d ∧ g < i ∧ i ≤ a.length ∧ once g i ∧ k ≤ j ∧ j ≤ b.length ∧ c = d + e + (i - g) + (j - k)
theorem way_last {i j c : Nat} : WayF a b once e i j c ↔ (i = 0 ∧ j = 0 ∧ c = 0) ∨ Beg a b once e i j c ∨ ∃ i' j', i = i' + 1 ∧ j = j' + 1 ∧ i' < a.length ∧ a[i']? = b[j']? ∧ WayF a b once e i' j' c := by
  constructor
  · intro h
    cases h with
    | start => exact .inl ⟨rfl, rfl, rfl⟩
    | keep f h1 h2 => exact .inr (.inr ⟨_, _, rfl, rfl, h1, h2, f⟩)
    | xch f h1 h2 h3 h4 h5 => exact .inr (.inl ⟨_, _, _, f, h1, h2, h3, h4, h5, rfl⟩)
  · rintro (⟨rfl, rfl, rfl⟩ | ⟨g, k, d, f, h1, h2, h3, h4, h5, rfl⟩ | ⟨i', j', rfl, rfl, h1, h2, f⟩)
    · exact .start
    · exact .xch f h1 h2 h3 h4 h5
    · exact .keep f h1 h2
/-- no way costs more than this -/
theorem way_cost {i j c : Nat} (h : WayF a b once e i j c) : c ≤ i + j + e * i := by
  induction h with
  | start => exact Nat.zero_le _
  | @keep i j c _ _ _ ih =>
    have : e * i ≤ e * (i + 1) := Nat.mul_le_mul_left _ (Nat.le_succ _)
    omega
  | @xch i j c t k f h1 h2 h3 h4 h5 ih =>
    have : e * (i + 1) ≤ e * t := Nat.mul_le_mul_left _ h1
    rw [Nat.mul_succ] at this
    omega
def beyond (a b : List Nat) (e : Nat) : Nat := (a.length + b.length + 1) * (e + 1)
theorem way_below {i j c : Nat} (h : WayF a b once e i j c) : c < beyond a b e := by
  have h1 := way_cost h
  obtain ⟨h2, h3⟩ := h.in
  have h4 : e * i ≤ e * (a.length + b.length) := Nat.mul_le_mul_left _ (by omega)
  have h5 : beyond a b e = e * (a.length + b.length) + e + (a.length + b.length + 1) := by
    unfold beyond
    rw [Nat.mul_add, Nat.mul_one, Nat.mul_comm, Nat.mul_add, Nat.mul_one]
  omega
noncomputable def kF (a b : List Nat) (once : Nat → Nat → Prop) (e i j : Nat) : Nat := lstB (WayF a b once e i j) (beyond a b e)
noncomputable def gF (a b : List Nat) (once : Nat → Nat → Prop) (e i j : Nat) : Nat := lstB (Beg a b once e i j) (beyond a b e)
theorem kF_least (i j : Nat) : Least (WayF a b once e i j) (beyond a b e) (kF a b once e i j) := lstB_least _ _
theorem gF_least (i j : Nat) : Least (Beg a b once e i j) (beyond a b e) (gF a b once e i j) := lstB_least _ _
theorem kF_00 : kF a b once e 0 0 = 0 := by
  have := (kF_least (a := a) (b := b) (once := once) (e := e) 0 0).le 0 .start
  omega
/-- the row of kept letters: the window's price, or the letter is kept -/
theorem kF_rec {i j : Nat} (h : ¬ (i = 0 ∧ j = 0)) (hi : i ≤ a.length) : Least (WayF a b once e i j) (beyond a b e) (if 0 < i ∧ 0 < j ∧ a[i - 1]? = b[j - 1]? then min (gF a b once e i j) (kF a b once e (i - 1) (j - 1)) else gF a b once e i j) := by
  have g := gF_least (a := a) (b := b) (once := once) (e := e) i j
  have kk := kF_least (a := a) (b := b) (once := once) (e := e) (i - 1) (j - 1)
  by_cases c : 0 < i ∧ 0 < j ∧ a[i - 1]? = b[j - 1]?
  · rw [if_pos c]
    obtain ⟨c1, c2, c3⟩ := c
    refine ⟨fun l => ?_, fun d hd => ?_, Nat.le_trans (Nat.min_le_left _ _) g.top⟩
    · rcases Nat.le_total (gF a b once e i j) (kF a b once e (i - 1) (j - 1)) with m | m
      · rw [Nat.min_eq_left m] at l ⊢
        exact way_last.mpr (.inr (.inl (g.is l)))
      · rw [Nat.min_eq_right m] at l ⊢
        exact way_last.mpr (.inr (.inr ⟨i - 1, j - 1, by omega, by omega, by omega, c3, kk.is l⟩))
    · rcases way_last.mp hd with ⟨z1, z2, _⟩ | z | ⟨i', j', rfl, rfl, _, _, f⟩
      · exact absurd ⟨z1, z2⟩ h
      · exact Nat.le_trans (Nat.min_le_left _ _) (g.le _ z)
      · exact Nat.le_trans (Nat.min_le_right _ _) (kk.le _ f)
  · rw [if_neg c]
    refine ⟨fun l => way_last.mpr (.inr (.inl (g.is l))), fun d hd => ?_, g.top⟩
    rcases way_last.mp hd with ⟨z1, z2, _⟩ | z | ⟨i', j', rfl, rfl, _, z, f⟩
    · exact absurd ⟨z1, z2⟩ h
    · exact g.le _ z
    · exact absurd ⟨by omega, by omega, z⟩ c
theorem kF_eq {i j : Nat} (h : ¬ (i = 0 ∧ j = 0)) (hi : i ≤ a.length) : kF a b once e i j = if 0 < i ∧ 0 < j ∧ a[i - 1]? = b[j - 1]? then min (gF a b once e i j) (kF a b once e (i - 1) (j - 1)) else gF a b once e i j := (kF_rec h hi).eq
/-- once: what holds a window that stands once stands once; the least end from a beginning -/
structure OnceOk (a : List Nat) (once : Nat → Nat → Prop) (le : Nat → Option Nat) : Prop where
  isE : ∀ g t, le g = some t → g < t ∧ t ≤ a.length ∧ once g t
  least : ∀ g t, g < t → t ≤ a.length → once g t → ∃ u, le g = some u ∧ u ≤ t
  more : ∀ g t u, g < t → t ≤ u → u ≤ a.length → once g t → once g u
/-- the row of windows: those that begin to stand once here, or a longer one, or a longer text -/
theorem gF_rec {le : Nat → Option Nat} (ok : OnceOk a once le) {i j v : Nat} (hi : i ≤ a.length) (hj : j ≤ b.length)
    (top : v ≤ beyond a b e)
    (le1 : ∀ g, le g = some i → v ≤ kF a b once e g j + (i - g) + e) (le2 : 0 < i → v ≤ gF a b once e (i - 1) j + 1) (le3 : 0 < j → v ≤ gF a b once e i (j - 1) + 1)
    (is : v < beyond a b e → (∃ g, le g = some i ∧ v = kF a b once e g j + (i - g) + e) ∨ (0 < i ∧ v = gF a b once e (i - 1) j + 1) ∨ (0 < j ∧ v = gF a b once e i (j - 1) + 1)) : gF a b once e i j = v := by
  refine Least.eq ⟨fun l => ?_, fun c hc => ?_, top⟩
  · rcases is l with ⟨g, h1, rfl⟩ | ⟨h1, rfl⟩ | ⟨h1, rfl⟩
    · obtain ⟨q1, q2, q3⟩ := ok.isE _ _ h1
      have w := (kF_least (a := a) (b := b) (once := once) (e := e) g j).is (by omega)
      exact ⟨g, j, _, w, q1, hi, q3, Nat.le_refl _, hj, by omega⟩
    · obtain ⟨g, k, d, w, q1, q2, q3, q4, q5, q6⟩ := (gF_least (a := a) (b := b) (once := once) (e := e) (i - 1) j).is (by omega)
      exact ⟨g, k, d, w, by omega, hi, ok.more _ _ _ q1 (by omega) hi q3, q4, q5, by omega⟩
    · obtain ⟨g, k, d, w, q1, q2, q3, q4, q5, q6⟩ := (gF_least (a := a) (b := b) (once := once) (e := e) i (j - 1)).is (by omega)
      exact ⟨g, k, d, w, q1, hi, q3, by omega, hj, by omega⟩
  · obtain ⟨g, k, d, w, q1, q2, q3, q4, q5, rfl⟩ := hc
    rcases Nat.lt_or_ge k j with h | h
    · have := (gF_least (a := a) (b := b) (once := once) (e := e) i (j - 1)).le _ ⟨g, k, d, w, q1, q2, q3, by omega, by omega, rfl⟩
      have := le3 (by omega)
      omega
    · obtain rfl : k = j := by omega
      obtain ⟨u, hu, ul⟩ := ok.least _ _ q1 q2 q3
      rcases Nat.lt_or_ge u i with h2 | h2
      · obtain ⟨p1, p2, p3⟩ := ok.isE _ _ hu
        have := (gF_least (a := a) (b := b) (once := once) (e := e) (i - 1) k).le _ ⟨g, k, d, w, by omega, by omega, ok.more _ _ _ p1 (by omega) (by omega) p3, Nat.le_refl _, hj, rfl⟩
        have := le2 (by omega)
        omega
      · obtain rfl : u = i := by omega
        have := (kF_least (a := a) (b := b) (once := once) (e := e) g k).le _ w
        have := le1 g hu
        omega
/-- where a window's price comes from -/
theorem gF_from {le : Nat → Option Nat} (ok : OnceOk a once le) {i j : Nat} (l : gF a b once e i j < beyond a b e) : (∃ g, le g = some i ∧ gF a b once e i j = kF a b once e g j + (i - g) + e) ∨ (0 < j ∧ gF a b once e i j = gF a b once e i (j - 1) + 1) ∨ (0 < i ∧ gF a b once e i j = gF a b once e (i - 1) j + 1) := by
  have G := gF_least (a := a) (b := b) (once := once) (e := e) i j
  obtain ⟨g, k, d, w, q1, q2, q3, q4, q5, q6⟩ := G.is l
  rcases Nat.lt_or_ge k j with h | h
  · refine .inr (.inl ⟨by omega, ?_⟩)
    have G2 := gF_least (a := a) (b := b) (once := once) (e := e) i (j - 1)
    have h1 := G2.le _ ⟨g, k, d, w, q1, q2, q3, by omega, by omega, rfl⟩
    obtain ⟨g', k', d', w', p1, p2, p3, p4, p5, p6⟩ := G2.is (by omega)
    have h2 := G.le _ ⟨g', k', d', w', p1, p2, p3, by omega, q5, rfl⟩
    omega
  · obtain rfl : k = j := by omega
    obtain ⟨u, hu, ul⟩ := ok.least _ _ q1 q2 q3
    obtain ⟨p1, p2, p3⟩ := ok.isE _ _ hu
    rcases Nat.lt_or_ge u i with h2 | h2
    · refine .inr (.inr ⟨by omega, ?_⟩)
      have G2 := gF_least (a := a) (b := b) (once := once) (e := e) (i - 1) k
      have h1 := G2.le _ ⟨g, k, d, w, by omega, by omega, ok.more _ _ _ p1 (by omega) (by omega) p3, Nat.le_refl _, q5, rfl⟩
      obtain ⟨g', k', d', w', r1, r2, r3, r4, r5, r6⟩ := G2.is (by omega)
      have h3 := G.le _ ⟨g', k', d', w', by omega, q2, ok.more _ _ _ r1 (by omega) q2 r3, r4, q5, rfl⟩
      omega
    · obtain rfl : u = i := by omega
      refine .inl ⟨g, hu, ?_⟩
      have K := kF_least (a := a) (b := b) (once := once) (e := e) g k
      have h1 := K.le _ w
      have h2 := G.le _ ⟨g, k, _, K.is (by omega), q1, q2, q3, Nat.le_refl _, q5, rfl⟩
      omega
end
end Vk
set_option Elab.async false
set_option maxRecDepth 100000
set_option linter.all false
set_option maxHeartbeats 4000000
namespace Vk
open PySem PySem.Spec PyProof.Rows L2
section
variable {P : Program} {w : World} {K : PySem.W.Frag} {mg : Str → Option Value} {base : Heap}
/-- what stands for an end -/
def endV (x : Str) (e : Nat) : V := if e ≤ x.length then .int (e : Nat) else .non
def spEnds : Sp := fun vs H Q _ => ∃ x, vs = [.str x] ∧ x.length ≤ 100 ∧ ∀ (a : Addr) (es : List Nat) H', H a = none → H' a = some (.lst (es.map (endV x))) → es.length = x.length → (∀ i e, es[i]? = some e → Lend x i e) → Same H H' → Q (.ref a) H'
abbrev s_least_ends : Stmt := top 6
theorem sc_least_ends : FnScope ["text", "told", "end", "begin"] ["text"] (defScope s_least_ends) := ⟨rfl, rfl, rfl, by decide +kernel, rfl, by decide +kernel, by decide +kernel⟩
theorem b_least_ends {f : Addr} {fd : FuncData} (F : Fun K "least_ends" "least_ends" s_least_ends f fd) (T : Txt mg) (c_stands_twice : CalG P w K mg base CX0 1 "stands_twice" spTwice) : FnG P w K mg base CX0 2 f fd ["text"] spEnds := by
  refine okG0 F sc_least_ends (fun vs H Q E h => ?_) (fun cdv A outer s H vs Q E hg hr h => ?_)
  · obtain ⟨x, rfl, _⟩ := h
    rfl
  · have hu := hu_of hr
    have hu64 := hr.units
    obtain ⟨x, rfl, hx, k⟩ := h
    have hr1 : Room 1 _ := hr
    have xl : x.length ≤ sizeLine := Nat.le_of_lt (fewL (by omega))
    refine ⟨_, (pss_cons (ps_set (i := 1) sc_least_ends.nd rfl (Or.inl rfl) (pe_lst pa_nil))
      (pss_cons (ps_set (i := 2) sc_least_ends.nd rfl (Or.inl rfl) pe_int)
      (pss_cons (ps_for PassesOwn.never rfl (pi_range1 rfl T.range (pa_cons (pe_callB call_len (by rfl) T.len (by decide +kernel) (pa_cons (pv 0) pa_nil)) pa_nil)) (pg_name (i := 3) sc_least_ends.nd rfl (Or.inl rfl)) (pss_cons (ps_set (i := 2) sc_least_ends.nd rfl (Or.inl rfl) (pe_callB (call_max2 rfl) (by rfl) T.max (by decide +kernel) (pa_cons (pv 2) (pa_cons (pe_op op_add (pv 3) pe_int) pa_nil))))
      (pss_cons (ps_while PassesOwn.never (PW.pt (pw_and (pt_cmpR op_le (pv 2) (pe_callB call_len (by rfl) T.len (by decide +kernel) (pa_cons (pv 0) pa_nil)) (nomark _)) (pw_and1 (pt_val (pe_cG c_stands_twice hg hr (by decide) pass0 (pa_cons (pv 0) (pa_cons (pe_slice sl_str (pv 0) (po_some (pv 3)) (po_some (pv 2))) pa_nil))))))) (pss_one (ps_aug (i := 2) sc_least_ends.nd rfl (Or.inl rfl) pe_int ip_add)))
      (pss_one (ps_expr (pe_bm PySem.F.plainAttrs_list PySem.F.slot_list_append PySem.F.type_list_append mt_append (pv 1) (pa_cons (pe_ifExp (pt_cmpR op_le (pv 2) (pe_callB call_len (by rfl) T.len (by decide +kernel) (pa_cons (pv 0) pa_nil)) (nomark _)) (pv 2) pe_non) pa_nil)))))))
      (pss_one (ps_ret (pv 1)))))), ?_⟩
    refine ⟨by show 0 ≤ sizeLine; decide, fun a ha => ?_⟩
    have sa := same_new (o := .lst []) ha
    refine ⟨_, rfl, _, _, rfl, ⟨xl, rfl⟩, _, rfl, by omega, by omega, ?_⟩
    refine for_range (lo := 0) (n := ((x.length : Nat) : Int).toNat) (fun i σ H' => ∃ (o3 : Option V) (e0 : Nat) (es : List Nat), σ = [some (.str x), some (.ref a), some (.int (e0 : Nat)), o3] ∧ H' a = some (.lst (es.map (endV x))) ∧ es.length = i ∧ (∀ j e, es[j]? = some e → Lend x j e) ∧ Same H H' ∧ ((i = 0 ∧ e0 = 0) ∨ (1 ≤ i ∧ Lend x (i - 1) e0))) ?_ ?_ ?_
    · exact ⟨_, 0, [], rfl, upd_same, rfl, (fun j e h => by cases h), sa, .inl ⟨rfl, rfl⟩⟩
    · rintro i σ H2 hi ⟨o3, e0, es, rfl, ha2, el, le, s2, h0⟩
      have hi1 : i < x.length := by omega
      rw [Int.zero_add]
      refine ⟨_, rfl, _, rfl, _, _, rfl, rfl, _, _, rfl, ?_⟩
      have em : (if ((i : Nat) : Int) + 1 > ((e0 : Nat) : Int) then ((i : Nat) : Int) + 1 else ((e0 : Nat) : Int)) = ((max e0 (i + 1) : Nat) : Int) := by split <;> omega
      rw [em]
      have hm1 : i < max e0 (i + 1) := by omega
      have hm2 : max e0 (i + 1) ≤ x.length + 1 := by
        rcases h0 with h0 | h0
        · omega
        · have := h0.2.le; omega
      have tw0 : ∀ b, i < b → b < max e0 (i + 1) → b ≤ x.length → twB x i b = true := fun b b1 b2 b3 => by
        rcases h0 with h0 | h0
        · omega
        · have q := h0.2.next b
          rw [show i - 1 + 1 = i by omega, show i - 1 + 2 = i + 1 by omega] at q
          exact q b1 b2 b3
      obtain ⟨r1, r2, r3, r4⟩ := lendF_spec (x := x) (a := i) (x.length + 1) (max e0 (i + 1)) hm1 (by omega) tw0
      have L : Lend x i (lendF x i (x.length + 1) (max e0 (i + 1))) := ⟨by omega, r4 hm2, r2, r3⟩
      generalize hR : lendF x i (x.length + 1) (max e0 (i + 1)) = R at L
      clear r1 r2 r3 r4
      refine ⟨fun m σ H' => ∃ e f, σ = [some (.str x), some (.ref a), some (.int (e : Nat)), some (.int (i : Nat))] ∧ H' = H2 ∧ lendF x i f e = R ∧ x.length + 1 ≤ e + f ∧ i < e ∧ m = x.length + 1 - e, ⟨_, _, _, rfl, rfl, hR, by omega, hm1, rfl⟩, ?_⟩
      rintro m σ H3 ⟨e, f, rfl, rfl, eR, ef, ie, rfl⟩
      refine ⟨_, rfl, _, rfl, _, _, rfl, ⟨xl, rfl⟩, _, _, rfl, rfl, _, rfl, ?_⟩
      by_cases cond : e ≤ x.length ∧ twB x i e = true
      · rw [decide_eq_true (show ((e : Nat) : Int) ≤ ((x.length : Nat) : Int) by omega)]
        refine iteT ⟨_, rfl, _, rfl, _, rfl, _, rfl, _, rfl, _, rfl, x, rfl, xl, x, _, rfl, _, rfl, ?_⟩
        rw [show decide (2 ≤ (plc x (cutS x (some ((i : Nat) : Int)) (some ((e : Nat) : Int)))).length) = twB x i e from rfl, cond.2]
        refine iteT ⟨fun σ' H' => σ' = [some (.str x), some (.ref a), some (.int ((e + 1 : Nat) : Int)), some (.int (i : Nat))] ∧ H' = H3, ?_, ?_⟩
        · rintro σ' H' ⟨rfl, rfl⟩
          cases f with
          | zero => omega
          | succ f => exact ⟨_, (by omega : x.length + 1 - (e + 1) < x.length + 1 - e), e + 1, f, rfl, rfl, (lendF_step cond).symm.trans eR, by omega, by omega, rfl⟩
        · exact ⟨_, rfl, _, _, rfl, rfl, rfl, rfl⟩
      · have eq : e = R := by rw [← eR, lendF_stop cond]
        refine' or_both (R := ?oR) ?oa ?ob ?oc
        case oa =>
          intro hc hR
          refine ⟨_, rfl, _, rfl, _, rfl, _, rfl, _, rfl, _, rfl, x, rfl, xl, x, _, rfl, _, rfl, ?_⟩
          have el2 : e ≤ x.length := Int.ofNat_le.mp (of_decide_eq_true hc)
          rw [show decide (2 ≤ (plc x (cutS x (some ((i : Nat) : Int)) (some ((e : Nat) : Int)))).length) = twB x i e from rfl]
          cases q : twB x i e with
          | true => exact absurd ⟨el2, q⟩ cond
          | false =>
            refine iteF ?_
            exact hR
        case ob =>
          intro hc hR
          exact hR
        case oc =>
          subst eq
          refine ⟨_, rfl, .inl ⟨rfl, _, SqL.of ha2⟩, _, rfl, _, rfl, _, _, rfl, ⟨xl, rfl⟩, _, _, rfl, rfl, _, rfl, ?_⟩
          have snoc : ∀ v, v = endV x e → es.map (endV x) ++ [v] = (es ++ [e]).map (endV x) := fun v hv => by rw [List.map_append, hv]; rfl
          have fin : ∀ j e', (es ++ [e])[j]? = some e' → Lend x j e' := fun j e' h => by
            by_cases hj : j < es.length
            · rw [List.getElem?_append_left hj] at h
              exact le j e' h
            · have ej : j = i := by
                have := (List.getElem?_eq_some_iff.mp h).1
                rw [List.length_append, List.length_singleton] at this
                omega
              subst ej
              rw [List.getElem?_append_right (by omega), el, Nat.sub_self] at h
              cases h
              exact L
          by_cases c : e ≤ x.length
          · rw [decide_eq_true (show ((e : Nat) : Int) ≤ ((x.length : Nat) : Int) by omega)]
            refine iteT ⟨_, rfl, a, _, _, rfl, rfl, ha2, fewL (by rw [List.length_map]; omega), _, e, es ++ [e], rfl, ?_, by rw [List.length_append, el]; rfl, fin, upd_out ha s2, .inr ⟨by omega, L⟩⟩
            rw [upd_same, snoc _ (by unfold endV; rw [if_pos c])]
          · rw [decide_eq_false (show ¬ ((e : Nat) : Int) ≤ ((x.length : Nat) : Int) by omega)]
            refine iteF ⟨a, _, _, rfl, rfl, ha2, fewL (by rw [List.length_map]; omega), _, e, es ++ [e], rfl, ?_, by rw [List.length_append, el]; rfl, fin, upd_out ha s2, .inr ⟨by omega, L⟩⟩
            rw [upd_same, snoc _ (by unfold endV; rw [if_neg c])]
    · rintro σ H2 ⟨o3, e0, es, rfl, ha2, el, le, s2, h0⟩
      rw [Int.toNat_natCast] at el
      exact ⟨_, rfl, k a es H2 ha ha2 el le s2⟩

end
end Vk
set_option Elab.async false
set_option maxRecDepth 100000
set_option maxHeartbeats 4000000
set_option linter.all false
namespace Vk
open PySem PySem.Spec PyProof.Rows L2
/-! ## for i, c in enumerate(x), x a text -/
/-! ## loops over these -/
theorem for_enumL {K : PySem.W.Frag} {a : Addr} {xs : List V} {g : TG} {tb : TS} {D : Ends} {σ : L2.St} {H : Hp} (Pv : Nat → L2.St → Hp → Prop) (h0 : Pv 0 σ H) (hl : ∀ i σ H, i ≤ xs.length → Pv i σ H → SqL K H a xs)
    (hs : ∀ i v σ H T, xs[i]? = some v → H T = none → Pv i σ H → g (.ref T) σ (upd H T (.tup [.int (i : Nat), v])) fun σ2 H2 => tb { D with nx := Pv (i + 1), ct := Pv (i + 1), bk := D.nx } σ2 H2) (hd : ∀ σ H, Pv xs.length σ H → D.nx σ H) :
    ∃ W : Nat → Nat → L2.St → Hp → Prop, (∃ m, W 0 m σ H) ∧ ∀ i m σ H, W i m σ H →
      ((Ite K a).stop i H ∧ D.nx σ H) ∨ ((Ite K a).go i H ∧ ∃ N : L2.St → Hp → Prop, (∀ σ' H', N σ' H' → ∃ m', m' < m ∧ W (i + 1) m' σ' H') ∧ ∀ x1 H', (Ite K a).yld i H x1 H' → g x1 σ H' fun σ2 H2 => tb { D with nx := N, ct := N, bk := D.nx } σ2 H2) := by
  refine ⟨fun i m σ H => m = xs.length - i ∧ i ≤ xs.length ∧ Pv i σ H, ⟨xs.length, by simp, Nat.zero_le _, h0⟩, ?_⟩
  rintro i m σ H ⟨rfl, hi, p⟩
  have q := hl i σ H hi p
  by_cases hlt : i < xs.length
  · refine .inr ⟨⟨xs, xs[i], q, by simp [hlt]⟩, Pv (i + 1), fun σ' H' p' => ⟨xs.length - (i + 1), by omega, rfl, hlt, p'⟩, ?_⟩
    rintro x1 H' ⟨T, v, rfl, hT, rfl, hv⟩
    exact hs i v σ H T (hv xs q) hT p
  · have e : i = xs.length := by omega
    subst e
    exact .inl ⟨⟨xs, q, Nat.le_refl _⟩, hd σ H p⟩
end Vk
set_option Elab.async false
set_option maxRecDepth 100000
set_option linter.all false
set_option maxHeartbeats 4000000
namespace Vk
open PySem PySem.Spec PyProof.Rows L2
def onceX (x : Str) (g t : Nat) : Prop := twB x g t = false
def leE (x : Str) (es : List Nat) (g : Nat) : Option Nat := match es[g]? with | some e => if e ≤ x.length then some e else none | none => none
theorem onceOk_es {x : Str} {es : List Nat} (el : es.length = x.length) (le : ∀ i e, es[i]? = some e → Lend x i e) : OnceOk x.cps.toList (onceX x) (leE x es) := by
  have l : x.cps.toList.length = x.length := Array.length_toList
  refine ⟨fun g t h => ?_, fun g t h1 h2 h3 => ?_, fun g t u h1 h2 h3 h4 => ?_⟩
  · unfold leE at h
    cases q0 : es[g]? with
    | none => rw [q0] at h; cases h
    | some e0 =>
      rw [q0] at h
      dsimp only at h
      by_cases c : e0 ≤ x.length
      · rw [if_pos c] at h
        cases h
        have q := le g _ q0
        exact ⟨q.gt, by omega, q.once c⟩
      · rw [if_neg c] at h
        cases h
  · rw [l] at h2
    have hg : g < es.length := by omega
    have q := le g es[g] (List.getElem?_eq_getElem hg)
    have z : es[g] ≤ t := (q.iff h1 h2).mp h3
    refine ⟨es[g], ?_, z⟩
    unfold leE
    rw [List.getElem?_eq_getElem hg]
    show (if es[g] ≤ x.length then _ else _) = _
    rw [if_pos (by omega)]
  · rw [l] at h3
    unfold onceX at h4 ⊢
    cases e2 : twB x g u with
    | false => rfl
    | true =>
      have t2 := (twB_iff (by omega) h3).mp e2
      have := (twB_iff (by omega) (by omega)).mpr (t2.less (Nat.le_refl _) (by omega) h2)
      rw [h4] at this
      cases this
/-- where windows that end here begin -/
def begs (es : List Nat) (n t : Nat) : List Nat := (List.range n).filter fun g => decide (es[g]? = some t)
theorem begs_snoc {es : List Nat} {n t : Nat} : begs es (n + 1) t = if es[n]? = some t then begs es n t ++ [n] else begs es n t := by
  unfold begs
  rw [List.range_succ, List.filter_append]
  by_cases h : es[n]? = some t
  · rw [if_pos h]; simp [h]
  · rw [if_neg h]; simp [h]
/-- the lists of beginnings -/
structure OpenL (H : Hp) (a : Addr) (es : List Nat) (n k : Nat) : Prop where
  ex : ∃ us : List Addr, H a = some (.lst (us.map V.ref)) ∧ us.length = n + 1 ∧ us.Nodup ∧ a ∉ us ∧ ∀ t u, us[t]? = some u → H u = some (.lst ((begs es k t).map fun g => V.int (g : Nat)))
theorem name_go {i : Nat} {x : V} {σ : L2.St} {H : Hp} {Q : L2.St → Hp → Prop} (h : Q (σ.set i (some x)) H) : gName i x σ H Q := h
section
variable {P : Program} {w : World} {K : PySem.W.Frag} {mg : Str → Option Value} {base : Heap}
def spOpen : Sp := fun vs H Q _ => ∃ x, vs = [.str x] ∧ x.length ≤ 100 ∧ ∀ (a : Addr) (es : List Nat) H', H a = none → es.length = x.length → (∀ i e, es[i]? = some e → Lend x i e) → OpenL H' a es x.length x.length → Same H H' → Q (.ref a) H'
abbrev s_openings : Stmt := top 9
theorem sc_openings : FnScope ["text", "told", "_", "begin", "end"] ["text"] (defScope s_openings) := ⟨rfl, rfl, rfl, by decide +kernel, rfl, by decide +kernel, by decide +kernel⟩
theorem b_openings {f : Addr} {fd : FuncData} (F : Fun K "openings" "openings" s_openings f fd) (T : Txt mg) (c_least_ends : CalG P w K mg base CX0 2 "least_ends" spEnds) : FnG P w K mg base CX0 3 f fd ["text"] spOpen := by
  refine okG0 F sc_openings (fun vs H Q E h => ?_) (fun cdv A outer s H vs Q E hg hr h => ?_)
  · obtain ⟨x, rfl, _⟩ := h
    rfl
  · have hu := hu_of hr
    have hu64 := hr.units
    obtain ⟨x, rfl, hx, k⟩ := h
    have xl : x.length ≤ sizeLine := Nat.le_of_lt (fewL (by omega))
    refine ⟨_, (pss_cons (ps_setLc (i := 1) (own := [("_", 2)]) (g := gName 2) (tt := tYes) rfl sc_openings.nd rfl rfl (sw_true rfl rfl rfl (by decide +kernel)) (pi_range1 rfl T.range (pa_cons (pe_op op_add (pe_callB call_len (by rfl) T.len (by decide +kernel) (pa_cons (pv 0) pa_nil)) pe_int) pa_nil)) (blkOk_by (own := [("_", 2)]) (N := ["text", "told", "_", "begin", "end"]) (sc := defScope s_openings) (by decide +kernel)) (fun _ _ _ _ _ => (pg_name (i := 2) sc_openings.nd rfl (Or.inl rfl))) (fun _ _ _ _ _ => pts_nil) (fun _ _ _ _ _ => (pe_lst pa_nil)))
      (pss_cons (ps_for PassesOwn.never rfl (pi_enum (by rfl) T.enumerate (pa_cons (pe_cG c_least_ends hg hr (by decide) pass0 (pa_cons (pv 0) pa_nil)) pa_nil)) (pg_tup rfl (pgs_cons (pg_name (i := 3) sc_openings.nd rfl (Or.inl rfl)) (pgs_cons (pg_name (i := 4) sc_openings.nd rfl (Or.inl rfl)) pgs_nil))) (pss_one (ps_if (pt_cmpR op_notN (pv 4) pe_non (nomark _)) (pss_one (ps_expr (pe_bm PySem.F.plainAttrs_list PySem.F.slot_list_append PySem.F.type_list_append mt_append (pe_ix ix_list (pv 1) (pv 4) (fun _ _ => rfl)) (pa_cons (pv 3) pa_nil)))) pss_nil)))
      (pss_one (ps_ret (pv 1))))), ?_⟩
    refine ⟨_, rfl, _, _, rfl, ⟨xl, rfl⟩, _, _, rfl, rfl, _, rfl, by omega, by omega, fun a ha => ?_⟩
    refine lc_range (lo := 0) (n := (((x.length : Nat) : Int) + 1).toNat) (fun i H' => ∃ us : List Addr, H' a = some (.lst (us.map V.ref)) ∧ us.length = i ∧ us.Nodup ∧ a ∉ us ∧ (∀ u ∈ us, H' u = some (.lst [])) ∧ (∀ u ∈ us, H u = none) ∧ Same H H') ?_ ?_ ?_
    · exact ⟨[], upd_same, rfl, .nil, List.not_mem_nil, fun u hu => absurd hu List.not_mem_nil, fun u hu => absurd hu List.not_mem_nil, same_new ha⟩
    · rintro i H1 hi ⟨us, h1, h2, h3, h4, h5, h6, s1⟩
      refine ⟨rfl, by show 0 ≤ sizeLine; decide, fun u hu => ?_⟩
      have su := same_new (o := .lst []) hu
      have nu : u ∉ us := fun z => by rw [h5 u z] at hu; cases hu
      have na : u ≠ a := fun z => by rw [z, h1] at hu; cases hu
      refine ⟨_, su _ _ h1, fewL (by rw [List.length_map]; omega), us ++ [u], ?_, by rw [List.length_append, h2]; rfl, ?_, ?_, fun v hv => ?_, fun v hv => ?_, upd_out ha (s1.trans su)⟩
      · rw [upd_same, List.map_append]; rfl
      · rw [List.nodup_append]
        exact ⟨h3, by simp, fun p hp q hq e => by rw [List.mem_singleton.mp hq] at e; rw [e] at hp; exact nu hp⟩
      · intro z
        rcases List.mem_append.mp z with z | z
        · exact h4 z
        · exact na (List.mem_singleton.mp z).symm
      · rcases List.mem_append.mp hv with hv | hv
        · rw [upd_ne (fun z => h4 (by rw [← z]; exact hv))]
          exact su _ _ (h5 v hv)
        · rw [List.mem_singleton.mp hv, upd_ne na]
          exact upd_same
      · rcases List.mem_append.mp hv with hv | hv
        · exact h6 v hv
        · rw [List.mem_singleton.mp hv]
          exact none_up s1 hu
    · rintro H1 ⟨us, h1, h2, h3, h4, h5, h6, s1⟩
      refine name_go ⟨_, rfl, x, rfl, hx, fun b es H3 hb hb3 el le s3 => ⟨b, _, rfl, SqL.of hb3, ?_⟩⟩
      have nb : b ∉ us := fun z => by rw [h5 b z] at hb; cases hb
      have nba : b ≠ a := fun z => by rw [z, h1] at hb; cases hb
      refine for_enumL (K := K) (a := b) (xs := es.map (endV x)) (fun i σ H' => ∃ (o2 o3 o4 : Option V), σ = [some (.str x), some (.ref a), o2, o3, o4] ∧ H' a = some (.lst (us.map V.ref)) ∧ (∀ t u, us[t]? = some u → H' u = some (.lst ((begs es i t).map fun g => V.int (g : Nat)))) ∧ H' b = some (.lst (es.map (endV x))) ∧ Same H H') ?_ ?_ ?_ ?_
      · exact ⟨_, _, _, rfl, s3 _ _ h1, fun t u e => s3 _ _ (h5 u (List.mem_of_getElem? e)), hb3, s1.trans s3⟩
      · rintro i σ H' _ ⟨o2, o3, o4, rfl, _, _, q, _⟩
        exact SqL.of q
      · rintro i v σ H4 U hv hU ⟨o2, o3, o4, rfl, ha4, hu4, hb4, s4⟩
        rw [List.getElem?_map] at hv
        obtain ⟨e, he, rfl⟩ := Option.map_eq_some_iff.mp hv
        have sU := same_new (o := .tup [.int (i : Nat), endV x e]) hU
        refine ⟨U, _, rfl, SqT.of upd_same, rfl, _, _, rfl, _, _, rfl, rfl, ?_⟩
        replace ha4 := sU _ _ ha4
        replace hb4 := sU _ _ hb4
        replace s4 := s4.trans sU
        replace hu4 := fun t u q => sU _ _ (hu4 t u q)
        generalize upd H4 U (.tup [.int (i : Nat), endV x e]) = H5 at ha4 hb4 s4 hu4 ⊢
        have ul : us.length = x.length + 1 := by rw [h2]; omega
        by_cases c : e ≤ x.length
        · rw [show endV x e = .int (e : Nat) from if_pos c]
          refine ⟨_, rfl, rfl, _, rfl, ?_⟩
          rw [show decide (V.int ((e : Nat) : Int) = V.non) = false from decide_eq_false nofun]
          obtain ⟨u, hue⟩ : ∃ u, us[e]? = some u := ⟨us[e]'(by omega), List.getElem?_eq_getElem (by omega)⟩
          have um := List.mem_of_getElem? hue
          have hu := hu4 e u hue
          have at1 : atI (us.map V.ref) ((e : Nat) : Int) = some (.ref u) := atI_nat (by rw [List.getElem?_map, hue]; rfl)
          have bl : (begs es i e).length ≤ i := Nat.le_trans (List.length_filter_le _ _) (Nat.le_of_eq List.length_range)
          have il : i < es.length := (List.getElem?_eq_some_iff.mp he).1
          refine iteT ⟨_, rfl, _, rfl, a, _, _, .ref u, rfl, rfl, SqL.of ha4, at1, .inl ⟨rfl, _, SqL.of hu⟩, _, rfl, u, _, _, rfl, rfl, hu, fewL (by rw [List.length_map]; omega), ?_⟩
          refine ⟨_, _, _, rfl, ?_, fun t u' q => ?_, ?_, upd_out (h6 u um) s4⟩
          · rw [upd_ne (fun z => h4 (by rw [z]; exact um))]
            exact ha4
          · by_cases eu : u' = u
            · subst eu
              have te : t = e := (List.getElem?_inj (by have := (List.getElem?_eq_some_iff.mp q).1; exact this) h3).mp (q.trans hue.symm)
              subst te
              rw [upd_same, begs_snoc, if_pos he, List.map_append]
              rfl
            · rw [upd_ne eu, begs_snoc, if_neg (fun z => eu (by
                rw [he] at z
                cases z
                rw [hue] at q
                exact (Option.some.inj q).symm))]
              exact hu4 t u' q
          · rw [upd_ne (fun z => nb (by rw [z]; exact um))]
            exact hb4
        · rw [show endV x e = .non from if_neg c]
          refine ⟨_, rfl, rfl, _, rfl, ?_⟩
          rw [show decide (V.non = V.non) = true from decide_eq_true rfl]
          refine iteF ⟨_, _, _, rfl, ha4, fun t u q => ?_, hb4, s4⟩
          rw [begs_snoc, if_neg (fun z => c (by
            rw [he] at z
            cases z
            have := (List.getElem?_eq_some_iff.mp q).1
            omega))]
          exact hu4 t u q
      · rintro σ H' ⟨o2, o3, o4, rfl, q1, q2, q3, q4⟩
        rw [List.length_map, el] at q2
        exact ⟨_, rfl, k a es H' ha el le ⟨us, q1, by rw [h2]; omega, h3, h4, q2⟩ q4⟩
end
end Vk
set_option Elab.async false
set_option maxRecDepth 100000
set_option linter.all false
set_option maxHeartbeats 4000000
namespace Vk
open PySem PySem.Spec PyProof.Rows L2
theorem leE_es {x : Str} {es : List Nat} {g i : Nat} : leE x es g = some i ↔ es[g]? = some i ∧ i ≤ x.length := by
  unfold leE
  cases q : es[g]? with
  | none => constructor
            · intro h; cases h
            · rintro ⟨h, _⟩; cases h
  | some w0 =>
    dsimp only
    by_cases c : w0 ≤ x.length
    · rw [if_pos c]
      constructor
      · intro h; cases h; exact ⟨rfl, c⟩
      · rintro ⟨h, _⟩; exact h
    · rw [if_neg c]
      constructor
      · intro h; cases h
      · rintro ⟨h, z⟩; cases h; exact absurd z c
/-- the least of the prices that price_tables lists is the window's price -/
theorem min_g {x y : Str} {es : List Nat} {e i j : Nat} (el : es.length = x.length) (le : ∀ i e, es[i]? = some e → Lend x i e) (hi : i ≤ x.length) (hj : j ≤ y.length) {m : Int}
    (hm : m ∈ ((beyond x.cps.toList y.cps.toList e : Nat) : Int) :: (((begs es x.length i).map fun g => ((kF x.cps.toList y.cps.toList (onceX x) e g j : Nat) : Int) + (0 + ((i : Nat) : Int)) - ((g : Nat) : Int) + ((e : Nat) : Int)) ++ (if 0 < i then [((gF x.cps.toList y.cps.toList (onceX x) e (i - 1) j : Nat) : Int) + 1] else []) ++ (if 0 < j then [((gF x.cps.toList y.cps.toList (onceX x) e i (j - 1) : Nat) : Int) + 1] else [])))
    (hl : ∀ v ∈ ((beyond x.cps.toList y.cps.toList e : Nat) : Int) :: (((begs es x.length i).map fun g => ((kF x.cps.toList y.cps.toList (onceX x) e g j : Nat) : Int) + (0 + ((i : Nat) : Int)) - ((g : Nat) : Int) + ((e : Nat) : Int)) ++ (if 0 < i then [((gF x.cps.toList y.cps.toList (onceX x) e (i - 1) j : Nat) : Int) + 1] else []) ++ (if 0 < j then [((gF x.cps.toList y.cps.toList (onceX x) e i (j - 1) : Nat) : Int) + 1] else [])), m ≤ v) :
    m = ((gF x.cps.toList y.cps.toList (onceX x) e i j : Nat) : Int) := by
  have lx : x.cps.toList.length = x.length := Array.length_toList
  have ly : y.cps.toList.length = y.length := Array.length_toList
  have bg : ∀ g ∈ begs es x.length i, es[g]? = some i ∧ g < i := fun g hg => by
    have q := of_decide_eq_true (List.mem_filter.mp hg).2
    exact ⟨q, (le g i q).gt⟩
  have cs : m = ((beyond x.cps.toList y.cps.toList e : Nat) : Int) ∨ (∃ g, es[g]? = some i ∧ g < i ∧ m = ((kF x.cps.toList y.cps.toList (onceX x) e g j : Nat) : Int) + (0 + ((i : Nat) : Int)) - ((g : Nat) : Int) + ((e : Nat) : Int)) ∨ (0 < i ∧ m = ((gF x.cps.toList y.cps.toList (onceX x) e (i - 1) j : Nat) : Int) + 1) ∨ (0 < j ∧ m = ((gF x.cps.toList y.cps.toList (onceX x) e i (j - 1) : Nat) : Int) + 1) := by
    rcases List.mem_cons.mp hm with h | h
    · exact .inl h
    rcases List.mem_append.mp h with h | h
    · rcases List.mem_append.mp h with h | h
      · obtain ⟨g, hg, rfl⟩ := List.mem_map.mp h
        obtain ⟨q1, q2⟩ := bg g hg
        exact .inr (.inl ⟨g, q1, q2, rfl⟩)
      · by_cases c : 0 < i
        · rw [if_pos c] at h
          exact .inr (.inr (.inl ⟨c, List.mem_singleton.mp h⟩))
        · rw [if_neg c] at h
          cases h
    · by_cases c : 0 < j
      · rw [if_pos c] at h
        exact .inr (.inr (.inr ⟨c, List.mem_singleton.mp h⟩))
      · rw [if_neg c] at h
        cases h
  obtain ⟨v, rfl⟩ : ∃ v : Nat, m = (v : Nat) := ⟨m.toNat, by
    have : 0 ≤ m := by
      rcases cs with rfl | ⟨g, _, q, rfl⟩ | ⟨_, rfl⟩ | ⟨_, rfl⟩ <;> omega
    omega⟩
  have tp := hl _ List.mem_cons_self
  refine congrArg _ (gF_rec (onceOk_es el le) (by omega) (by omega) (by omega) (fun g hg => ?_) (fun h => ?_) (fun h => ?_) (fun h => ?_)).symm
  · obtain ⟨q1, q2⟩ := leE_es.mp hg
    have q3 := (le g i q1).gt
    have q4 := (List.getElem?_eq_some_iff.mp q1).1
    have gm : g ∈ begs es x.length i := List.mem_filter.mpr ⟨List.mem_range.mpr (by omega), decide_eq_true q1⟩
    have := hl _ (List.mem_cons_of_mem _ (List.mem_append_left _ (List.mem_append_left _ (List.mem_map.mpr ⟨g, gm, rfl⟩))))
    omega
  · have := hl _ (List.mem_cons_of_mem _ (List.mem_append_left _ (List.mem_append_right _ (by rw [if_pos h]; exact List.mem_singleton.mpr rfl))))
    omega
  · have := hl _ (List.mem_cons_of_mem _ (List.mem_append_right _ (by rw [if_pos h]; exact List.mem_singleton.mpr rfl)))
    omega
  · rcases cs with q | ⟨g, q1, q2, q3⟩ | ⟨q1, q2⟩ | ⟨q1, q2⟩
    · omega
    · exact .inl ⟨g, leE_es.mpr ⟨q1, hi⟩, by omega⟩
    · exact .inr (.inl ⟨q1, by omega⟩)
    · exact .inr (.inr ⟨q1, by omega⟩)
end Vk
set_option Elab.async false
set_option maxRecDepth 100000
set_option linter.all false
set_option maxHeartbeats 4000000
namespace Vk
open PySem PySem.Spec PyProof.Rows L2 StX
theorem seq_mid {A B : TS} {D : Ends} {σ : L2.St} {H : Hp} (Mid : L2.St → Hp → Prop) (h1 : ∀ D', (∀ σ H, Mid σ H → D'.nx σ H) → A D' σ H) (h2 : ∀ σ H, Mid σ H → B D σ H) : tSeq A B D σ H := h1 _ h2
theorem and_by {A B : TT} {σ : L2.St} {H : Hp} {k : Bool → Hp → Prop} {p q : Prop} [Decidable p] [Decidable q] (ha : ∀ k' : Bool → Hp → Prop, k' (decide p) H → A σ H k') (hb : p → ∀ k' : Bool → Hp → Prop, k' (decide q) H → B σ H k') (h : k (decide (p ∧ q)) H) : tAnd A B σ H k := by
  refine ha _ ?_
  by_cases c : p
  · rw [decide_eq_true c]
    refine iteT (hb c _ ?_)
    rw [show decide (p ∧ q) = decide q by simp [c]] at h
    exact h
  · rw [decide_eq_false c]
    rw [show decide (p ∧ q) = false by simp [c]] at h
    exact iteF h
theorem pos_by {σ : L2.St} {H : Hp} {n : Nat} {i : Nat} (h : σ[n]? = some (some (.int (0 + (i : Int))))) : ∀ k' : Bool → Hp → Prop, k' (decide (0 < i)) H → tTest (tOp (rI0 fun i j => V.bl (decide (j < i))) (tVar n) (tC (.int 0))) σ H k' := fun k' q => ⟨_, h, _, _, rfl, rfl, _, rfl, by
  rw [show decide ((0 : Int) < 0 + ((i : Nat) : Int)) = decide (0 < i) from decide_eq_decide.mpr (by omega)]
  exact q⟩
theorem nul_by {σ : L2.St} {H : Hp} {n : Nat} {i : Nat} (h : σ[n]? = some (some (.int (0 + (i : Int))))) : ∀ k' : Bool → Hp → Prop, k' (decide (i = 0)) H → tTest (tOp rEq (tVar n) (tC (.int 0))) σ H k' := fun k' q => ⟨_, h, rfl, _, rfl, by
  rw [show decide (V.int (0 + ((i : Nat) : Int)) = V.int 0) = decide (i = 0) from decide_eq_decide.mpr ⟨fun z => by have := V.int.inj z; omega, fun z => by rw [z]; rfl⟩]
  exact q⟩
theorem min_k {x y : Str} {e i j : Nat} (hi : i ≤ x.length) {m : Int}
    (hm : m ∈ (if i = 0 ∧ j = 0 then (0 : Int) else ((gF x.cps.toList y.cps.toList (onceX x) e i j : Nat) : Int)) :: (if 0 < i ∧ 0 < j ∧ x.cps.toList[i - 1]? = y.cps.toList[j - 1]? then [((kF x.cps.toList y.cps.toList (onceX x) e (i - 1) (j - 1) : Nat) : Int)] else []))
    (hl : ∀ v ∈ (if i = 0 ∧ j = 0 then (0 : Int) else ((gF x.cps.toList y.cps.toList (onceX x) e i j : Nat) : Int)) :: (if 0 < i ∧ 0 < j ∧ x.cps.toList[i - 1]? = y.cps.toList[j - 1]? then [((kF x.cps.toList y.cps.toList (onceX x) e (i - 1) (j - 1) : Nat) : Int)] else []), m ≤ v) : m = ((kF x.cps.toList y.cps.toList (onceX x) e i j : Nat) : Int) := by
  have lx : x.cps.toList.length = x.length := Array.length_toList
  by_cases z : i = 0 ∧ j = 0
  · obtain ⟨rfl, rfl⟩ := z
    rw [if_pos ⟨rfl, rfl⟩, if_neg (fun h => absurd h.1 (Nat.lt_irrefl _))] at hm
    rw [List.mem_singleton.mp hm, kF_00]
    rfl
  · rw [if_neg z] at hm hl
    rw [kF_eq z (by omega)]
    by_cases c : 0 < i ∧ 0 < j ∧ x.cps.toList[i - 1]? = y.cps.toList[j - 1]?
    · rw [if_pos c] at hm hl ⊢
      have h1 := hl _ List.mem_cons_self
      have h2 := hl _ (List.mem_cons_of_mem _ (List.mem_singleton.mpr rfl))
      rcases List.mem_cons.mp hm with h | h
      · omega
      · have h3 := List.mem_singleton.mp h
        omega
    · rw [if_neg c] at hm ⊢
      exact List.mem_singleton.mp hm
/-- the first n entries of a row of prices -/
def rowF (F : Nat → Nat → Nat) (i n : Nat) : List V := (List.range n).map fun j => V.int (F i j : Nat)
theorem rowF_len {F : Nat → Nat → Nat} {i n : Nat} : (rowF F i n).length = n := by unfold rowF; rw [List.length_map, List.length_range]
theorem rowF_at {F : Nat → Nat → Nat} {i n j : Nat} (h : j < n) : (rowF F i n)[j]? = some (.int (F i j : Nat)) := by
  unfold rowF
  rw [List.getElem?_map, List.getElem?_range h]
  rfl
theorem rowF_snoc {F : Nat → Nat → Nat} {i n : Nat} : rowF F i n ++ [.int (F i n : Nat)] = rowF F i (n + 1) := by
  unfold rowF
  rw [List.range_succ, List.map_append]
  rfl
/-- n rows of prices, m of each -/
structure Tab (H : Hp) (a : Addr) (F : Nat → Nat → Nat) (n m : Nat) : Prop where
  ex : ∃ us : List Addr, H a = some (.lst (us.map V.ref)) ∧ us.length = n ∧ ∀ i u, us[i]? = some u → H u = some (.lst (rowF F i m))
theorem Tab.row {H : Hp} {a : Addr} {F : Nat → Nat → Nat} {n m : Nat} (t : Tab H a F n m) {i : Nat} (h : i < n) : ∃ (us : List Addr) (u : Addr), H a = some (.lst (us.map V.ref)) ∧ atI (us.map V.ref) ((i : Nat) : Int) = some (.ref u) ∧ H u = some (.lst (rowF F i m)) := by
  obtain ⟨us, h1, h2, h3⟩ := t.ex
  have e : us[i]? = some (us[i]'(by omega)) := List.getElem?_eq_getElem (by omega)
  exact ⟨us, _, h1, atI_nat (by rw [List.getElem?_map, e]; rfl), h3 _ _ e⟩
theorem Tab.keep {H H1 : Hp} {a : Addr} {F : Nat → Nat → Nat} {n m : Nat} (t : Tab H a F n m) (s : Same H H1) : Tab H1 a F n m := by
  obtain ⟨us, h1, h2, h3⟩ := t.ex
  exact ⟨us, s _ _ h1, h2, fun i u h => s _ _ (h3 i u h)⟩
/-- another row -/
theorem Tab.snoc {H : Hp} {a u : Addr} {F : Nat → Nat → Nat} {n m : Nat} {us : List Addr} (h1 : H a = some (.lst (us.map V.ref))) (h2 : us.length = n) (h3 : ∀ i u, us[i]? = some u → H u = some (.lst (rowF F i m))) (hu : H u = some (.lst (rowF F n m))) (na : a ≠ u) (nn : a ∉ us) : Tab (upd H a (.lst (us.map V.ref ++ [.ref u]))) a F (n + 1) m := by
  refine ⟨us ++ [u], by rw [upd_same, List.map_append]; rfl, by rw [List.length_append, h2]; rfl, fun i v h => ?_⟩
  rcases Nat.lt_or_ge i us.length with l | l
  · rw [List.getElem?_append_left l] at h
    rw [upd_ne (fun z => nn (by rw [← z]; exact List.mem_of_getElem? h))]
    exact h3 i v h
  · rw [List.getElem?_append_right l] at h
    have e : i = n := by
      have := (List.getElem?_eq_some_iff.mp h).1
      rw [List.length_singleton] at this
      omega
    subst e
    rw [h2, Nat.sub_self] at h
    cases h
    rw [upd_ne na.symm]
    exact hu
theorem OpenL.keep {H H1 : Hp} {a : Addr} {es : List Nat} {n k : Nat} (o : OpenL H a es n k) (s : Same H H1) : OpenL H1 a es n k := by
  obtain ⟨us, h1, h2, h3, h4, h5⟩ := o.ex
  exact ⟨us, s _ _ h1, h2, h3, h4, fun t u h => s _ _ (h5 t u h)⟩
/-- a table under way: its rows are other things than the two tables -/
structure TabW (H : Hp) (a c : Addr) (F : Nat → Nat → Nat) (n m : Nat) (us : List Addr) : Prop where
  at' : H a = some (.lst (us.map V.ref))
  len : us.length = n
  row : ∀ i u, us[i]? = some u → H u = some (.lst (rowF F i m))
  na : a ∉ us
  nc : c ∉ us
theorem TabW.keep {H H1 : Hp} {a c : Addr} {F : Nat → Nat → Nat} {n m : Nat} {us : List Addr} (t : TabW H a c F n m us) (s : Same H H1) : TabW H1 a c F n m us := ⟨s _ _ t.at', t.len, fun i u h => s _ _ (t.row i u h), t.na, t.nc⟩
theorem TabW.tab {H : Hp} {a c : Addr} {F : Nat → Nat → Nat} {n m : Nat} {us : List Addr} (t : TabW H a c F n m us) : Tab H a F n m := ⟨us, t.at', t.len, t.row⟩
theorem TabW.snoc {H : Hp} {a c u : Addr} {F : Nat → Nat → Nat} {n m : Nat} {us : List Addr} (t : TabW H a c F n m us) (hu : H u = some (.lst (rowF F n m))) (na : a ≠ u) (nc : c ≠ u) : TabW (upd H a (.lst (us.map V.ref ++ [.ref u]))) a c F (n + 1) m (us ++ [u]) := by
  refine ⟨by rw [upd_same, List.map_append]; rfl, by rw [List.length_append, t.len]; rfl, fun i v h => ?_, fun h => ?_, fun h => ?_⟩
  · rcases Nat.lt_or_ge i us.length with l | l
    · rw [List.getElem?_append_left l] at h
      rw [upd_ne (fun z => t.na (by rw [← z]; exact List.mem_of_getElem? h))]
      exact t.row i v h
    · rw [List.getElem?_append_right l] at h
      have e : i = n := by
        have := (List.getElem?_eq_some_iff.mp h).1
        have := t.len
        rw [List.length_singleton] at *
        omega
      subst e
      rw [t.len, Nat.sub_self] at h
      cases h
      rw [upd_ne na.symm]
      exact hu
  · rcases List.mem_append.mp h with h | h
    · exact t.na h
    · exact na (List.mem_singleton.mp h)
  · rcases List.mem_append.mp h with h | h
    · exact t.nc h
    · exact nc (List.mem_singleton.mp h)
/-- another table is written: this one stays -/
theorem TabW.other {H : Hp} {a c : Addr} {F : Nat → Nat → Nat} {n m : Nat} {us : List Addr} {o : HO} (t : TabW H a c F n m us) (ac : a ≠ c) : TabW (upd H c o) a c F n m us := ⟨by rw [upd_ne ac]; exact t.at', t.len, fun i u h => by
  rw [upd_ne (fun z => t.nc (by rw [← z]; exact List.mem_of_getElem? h))]
  exact t.row i u h, t.na, t.nc⟩
section
variable {P : Program} {w : World} {K : PySem.W.Frag} {mg : Str → Option Value} {base : Heap}
noncomputable abbrev kX (x y : Str) (e : Nat) : Nat → Nat → Nat := kF x.cps.toList y.cps.toList (onceX x) e
noncomputable abbrev gX (x y : Str) (e : Nat) : Nat → Nat → Nat := gF x.cps.toList y.cps.toList (onceX x) e
def spPrices : Sp := fun vs H Q _ => ∃ (x y : Str) (e : Nat), vs = [.str x, .str y, .int (e : Nat)] ∧ x.length ≤ 100 ∧ y.length ≤ 100 ∧ e ≤ 100000 ∧ ∀ (t ak ab : Addr) (H' : Hp), H' t = some (.tup [.ref ak, .ref ab]) → Tab H' ak (kX x y e) (x.length + 1) (y.length + 1) → Tab H' ab (gX x y e) (x.length + 1) (y.length + 1) → Same H H' → Q (.ref t) H'
abbrev s_price_tables : Stmt := top 10
theorem sc_price_tables : FnScope ["one", "other", "each", "beyond", "begins", "kept", "begun", "i", "kept_row", "begun_row", "j", "told", "begin"] ["one", "other", "each"] (defScope s_price_tables) := ⟨rfl, rfl, rfl, by decide +kernel, rfl, by decide +kernel, by decide +kernel⟩
theorem b_price_tables {f : Addr} {fd : FuncData} (F : Fun K "price_tables" "price_tables" s_price_tables f fd) (T : Txt mg) (c_openings : CalG P w K mg base CX0 3 "openings" spOpen) : FnG P w K mg base CX0 4 f fd ["one", "other", "each"] spPrices := by
  refine okG0 F sc_price_tables (fun vs H Q E h => ?_) (fun cdv A outer s H vs Q E hg hr h => ?_)
  · obtain ⟨x, y, e, rfl, _⟩ := h
    rfl
  · have hu := hu_of hr
    have hu64 := hr.units
    obtain ⟨x, y, e, rfl, hx, hy, he, k⟩ := h
    have xl : x.length ≤ sizeLine := Nat.le_of_lt (fewL (by omega))
    have yl : y.length ≤ sizeLine := Nat.le_of_lt (fewL (by omega))
    have lx : x.cps.toList.length = x.length := Array.length_toList
    have ly : y.cps.toList.length = y.length := Array.length_toList
    refine ⟨_, (pss_cons (ps_set (i := 3) sc_price_tables.nd rfl (Or.inl rfl) (pe_op op_mul (pe_op op_add (pe_op op_add (pe_callB call_len (by rfl) T.len (by decide +kernel) (pa_cons (pv 0) pa_nil)) (pe_callB call_len (by rfl) T.len (by decide +kernel) (pa_cons (pv 1) pa_nil))) pe_int) (pe_op op_add (pv 2) pe_int)))
      (pss_cons (ps_set (i := 4) sc_price_tables.nd rfl (Or.inl rfl) (pe_cG c_openings hg hr (by decide) pass0 (pa_cons (pv 0) pa_nil)))
      (pss_cons (ps_asg (pe_tup (pa_cons (pe_lst pa_nil) (pa_cons (pe_lst pa_nil) pa_nil))) (pg_tup rfl (pgs_cons (pg_name (i := 5) sc_price_tables.nd rfl (Or.inr rfl)) (pgs_cons (pg_name (i := 6) sc_price_tables.nd rfl (Or.inl rfl)) pgs_nil))))
      (pss_cons (ps_for PassesOwn.never rfl (pi_range1 rfl T.range (pa_cons (pe_op op_add (pe_callB call_len (by rfl) T.len (by decide +kernel) (pa_cons (pv 0) pa_nil)) pe_int) pa_nil)) (pg_name (i := 7) sc_price_tables.nd rfl (Or.inr rfl)) (pss_cons (ps_par (i := 8) (j := 9) (by rfl) sc_price_tables.nd rfl rfl (by decide) rfl rfl (pa_cons (pe_lst pa_nil) (pa_cons (pe_lst pa_nil) pa_nil)) (by rfl))
      (pss_cons (ps_for PassesOwn.never rfl (pi_range1 rfl T.range (pa_cons (pe_op op_add (pe_callB call_len (by rfl) T.len (by decide +kernel) (pa_cons (pv 1) pa_nil)) pe_int) pa_nil)) (pg_name (i := 10) sc_price_tables.nd rfl (Or.inr rfl)) (pss_cons (ps_setLc (i := 11) (own := [("begin", 12)]) (g := gName 12) (tt := tYes) rfl sc_price_tables.nd rfl rfl (sw_true rfl rfl rfl (by decide +kernel)) (pi_list (pe_ix ix_list (pv 4) (pv 7) (fun _ _ => rfl))) (blkOk_by (own := [("begin", 12)]) (N := ["one", "other", "each", "beyond", "begins", "kept", "begun", "i", "kept_row", "begun_row", "j", "told", "begin"]) (sc := defScope s_price_tables) (by decide +kernel)) (fun _ _ _ _ _ => (pg_name (i := 12) sc_price_tables.nd rfl (Or.inl rfl))) (fun _ _ _ _ _ => pts_nil) (fun _ _ _ _ _ => (pe_op op_add (pe_op op_sub (pe_op op_add (pe_ix (ix_listK (K := K) rfl) (pe_ix (ix_listK (K := K) rfl) (pv 5) (pv 12) (fun _ _ => rfl)) (pv 10) (fun _ _ => rfl)) (pv 7)) (pv 12)) (pv 2))))
      (pss_cons (ps_if (pt_cmpR op_gt (pv 7) pe_int (nomark _)) (pss_one (ps_expr (pe_bm PySem.F.plainAttrs_list PySem.F.slot_list_append PySem.F.type_list_append mt_append (pv 11) (pa_cons (pe_op op_add (pe_ix ix_list (pe_ix ix_list (pv 6) (pe_op op_sub (pv 7) pe_int) (fun _ _ => rfl)) (pv 10) (fun _ _ => rfl)) pe_int) pa_nil)))) pss_nil)
      (pss_cons (ps_if (pt_cmpR op_gt (pv 10) pe_int (nomark _)) (pss_one (ps_expr (pe_bm PySem.F.plainAttrs_list PySem.F.slot_list_append PySem.F.type_list_append mt_append (pv 11) (pa_cons (pe_op op_add (pe_ix ix_list (pv 9) (pe_op op_sub (pv 10) pe_int) (fun _ _ => rfl)) pe_int) pa_nil)))) pss_nil)
      (pss_cons (ps_expr (pe_bm PySem.F.plainAttrs_list PySem.F.slot_list_append PySem.F.type_list_append mt_append (pv 9) (pa_cons (pe_callB (cr_min rfl) (by rfl) T.min (by decide +kernel) (pa_cons (pe_lst (pa_cons (pv 3) (pa_star (pv 11) pa_nil))) pa_nil)) pa_nil)))
      (pss_cons (ps_set (i := 11) sc_price_tables.nd rfl (Or.inl rfl) (pe_lst (pa_cons (pe_ifExp (PW.pt (pw_and (pt_cmpR op_eq (pv 7) pe_int (nomark _)) (pw_and1 (pt_cmpR op_eq (pv 10) pe_int (nomark _))))) pe_int (pe_ix ix_list (pv 9) (pv 10) (fun _ _ => rfl))) pa_nil)))
      (pss_cons (ps_if (PW.pt (pw_and (pt_cmpR op_gt (pv 7) pe_int (nomark _)) (pw_and (pt_cmpR op_gt (pv 10) pe_int (nomark _)) (pw_and1 (pt_cmpR op_eq (pe_ix ix_str (pv 0) (pe_op op_sub (pv 7) pe_int) (fun _ _ => rfl)) (pe_ix ix_str (pv 1) (pe_op op_sub (pv 10) pe_int) (fun _ _ => rfl)) (nomark _)))))) (pss_one (ps_expr (pe_bm PySem.F.plainAttrs_list PySem.F.slot_list_append PySem.F.type_list_append mt_append (pv 11) (pa_cons (pe_ix ix_list (pe_ix ix_list (pv 5) (pe_op op_sub (pv 7) pe_int) (fun _ _ => rfl)) (pe_op op_sub (pv 10) pe_int) (fun _ _ => rfl)) pa_nil)))) pss_nil)
      (pss_one (ps_expr (pe_bm PySem.F.plainAttrs_list PySem.F.slot_list_append PySem.F.type_list_append mt_append (pv 8) (pa_cons (pe_callB (cr_min rfl) (by rfl) T.min (by decide +kernel) (pa_cons (pv 11) pa_nil)) pa_nil)))))))))))
      (pss_cons (ps_expr (pe_bm PySem.F.plainAttrs_list PySem.F.slot_list_append PySem.F.type_list_append mt_append (pv 5) (pa_cons (pv 8) pa_nil)))
      (pss_one (ps_expr (pe_bm PySem.F.plainAttrs_list PySem.F.slot_list_append PySem.F.type_list_append mt_append (pv 6) (pa_cons (pv 9) pa_nil))))))))
      (pss_one (ps_ret (pe_tup (pa_cons (pv 5) (pa_cons (pv 6) pa_nil))))))))), ?_⟩
    refine ⟨_, rfl, _, _, rfl, ⟨xl, rfl⟩, _, rfl, _, _, rfl, ⟨yl, rfl⟩, _, _, rfl, rfl, _, _, rfl, rfl, _, rfl, _, _, rfl, rfl, ?_⟩
    refine ⟨_, _, rfl, rfl, .inr ⟨by omega, by omega⟩, ?_⟩
    have eb : (((x.length : Nat) : Int) + ((y.length : Nat) : Int) + 1) * (((e : Nat) : Int) + 1) = ((beyond x.cps.toList y.cps.toList e : Nat) : Int) := by
      unfold beyond
      rw [lx, ly, Int.natCast_mul]
      rfl
    refine name_go ⟨_, rfl, x, rfl, hx, fun ao es H1 hao el le op s1 => ?_⟩
    refine name_go ⟨by show 0 ≤ sizeLine; decide, fun ak hak => ⟨by show 0 ≤ sizeLine; decide, fun ab hab => ⟨by show 2 ≤ sizeLine; decide, fun tq htq => ⟨tq, _, rfl, SqT.of upd_same, rfl, _, _, rfl, _, _, rfl, rfl, ?_⟩⟩⟩⟩
    have sk := same_new (o := .lst []) hak
    have sb := same_new (o := .lst []) hab
    have sq := same_new (o := .tup [.ref ak, .ref ab]) htq
    have hak2 := sq _ _ (sb _ _ (upd_same (H := H1) (a := ak) (o := .lst [])))
    have hab2 := sq _ _ (upd_same (H := upd H1 ak (.lst [])) (a := ab) (o := .lst []))
    have kb : ak ≠ ab := fun z => by rw [← z, upd_same] at hab; cases hab
    have hab1 : H1 ab = none := none_up sk hab
    have s2 := (sk.trans sb).trans sq
    generalize upd (upd (upd H1 ak (.lst [])) ab (.lst [])) tq (.tup [.ref ak, .ref ab]) = H2 at hak2 hab2 s2 ⊢
    refine ⟨_, rfl, _, _, rfl, ⟨xl, rfl⟩, _, _, rfl, rfl, _, rfl, by omega, by omega, ?_⟩
    refine for_range (lo := 0) (n := (((x.length : Nat) : Int) + 1).toNat) (fun i σ H' => ∃ (o7 o8 o9 o10 o11 o12 : Option V) (uk ub : List Addr), σ = [some (.str x), some (.str y), some (.int (e : Nat)), some (.int ((((x.length : Nat) : Int) + ((y.length : Nat) : Int) + 1) * (((e : Nat) : Int) + 1))), some (.ref ao), some (.ref ak), some (.ref ab), o7, o8, o9, o10, o11, o12] ∧ TabW H' ak ab (kX x y e) i (y.length + 1) uk ∧ TabW H' ab ak (gX x y e) i (y.length + 1) ub ∧ Same H1 H') ?_ ?_ ?_
    · exact ⟨_, _, _, _, _, _, [], [], rfl, ⟨hak2, rfl, (fun i u h => by cases h), List.not_mem_nil, List.not_mem_nil⟩, ⟨hab2, rfl, (fun i u h => by cases h), List.not_mem_nil, List.not_mem_nil⟩, s2⟩
    · rintro i σ H3 hi ⟨o7, o8, o9, o10, o11, o12, uk, ub, rfl, tk, tb, s3⟩
      have hi1 : i ≤ x.length := by omega
      refine name_go ⟨by show 0 ≤ sizeLine; decide, fun kr hkr => ⟨by show 0 ≤ sizeLine; decide, fun br hbr => ⟨_, _, rfl, ?_⟩⟩⟩
      have s4 := (same_new (o := .lst []) hkr).trans (same_new (o := .lst []) hbr)
      have nkb : kr ≠ br := fun z => by rw [← z, upd_same] at hbr; cases hbr
      have hbr3 : H3 br = none := none_up (same_new (o := .lst []) hkr) hbr
      have k4 : upd (upd H3 kr (.lst [])) br (.lst []) kr = some (.lst []) := by rw [upd_ne nkb]; exact upd_same
      have b4 : upd (upd H3 kr (.lst [])) br (.lst []) br = some (.lst []) := upd_same
      refine ⟨_, rfl, _, _, rfl, ⟨yl, rfl⟩, _, _, rfl, rfl, _, rfl, by omega, by omega, ?_⟩
      refine for_range (lo := 0) (n := (((y.length : Nat) : Int) + 1).toNat) (fun j σ H' => ∃ (o10 o11 o12 : Option V), σ = [some (.str x), some (.str y), some (.int (e : Nat)), some (.int ((((x.length : Nat) : Int) + ((y.length : Nat) : Int) + 1) * (((e : Nat) : Int) + 1))), some (.ref ao), some (.ref ak), some (.ref ab), some (.int (0 + (i : Int))), some (.ref kr), some (.ref br), o10, o11, o12] ∧ H' kr = some (.lst (rowF (kX x y e) i j)) ∧ H' br = some (.lst (rowF (gX x y e) i j)) ∧ Same H3 H') ?_ ?_ ?_
      · exact ⟨_, _, _, rfl, k4, b4, s4⟩
      · rintro j σ H5 hj ⟨o10, o11, o12, rfl, hk5, hb5, s5⟩
        have hj1 : j ≤ y.length := by omega
        have tk5 := tk.keep s5
        have tb5 := tb.keep s5
        obtain ⟨us, q1, q2, q3, q4, q5⟩ := (op.keep (s3.trans s5)).ex
        have ui : us[i]? = some (us[i]'(by omega)) := List.getElem?_eq_getElem (by omega)
        generalize us[i]'(by omega) = u at ui
        have hu5 := q5 i u ui
        have at1 : atI (us.map V.ref) (0 + ((i : Nat) : Int)) = some (.ref u) := by
          rw [Int.zero_add]
          exact atI_nat (by rw [List.getElem?_map, ui]; rfl)
        refine name_go ⟨_, rfl, _, rfl, ao, _, _, .ref u, rfl, rfl, SqL.of q1, at1, ?_⟩
        refine ⟨u, rfl, ⟨_, SqL.of hu5⟩, fun D hD => ?_⟩
        have sD := same_new (o := .lst []) hD
        have bm : ∀ g ∈ begs es x.length i, es[g]? = some i := fun g hg => of_decide_eq_true (List.mem_filter.mp hg).2
        have bl : (begs es x.length i).length ≤ x.length := Nat.le_trans (List.length_filter_le _ _) (Nat.le_of_eq List.length_range)
        refine lc_list (K := K) (a := u) (xs := (begs es x.length i).map fun g => V.int (g : Nat)) (fun t H' => H' D = some (.lst ((((begs es x.length i).take t).map fun g => ((kX x y e g j : Nat) : Int) + (0 + ((i : Nat) : Int)) - ((g : Nat) : Int) + ((e : Nat) : Int)).map V.int)) ∧ Same H5 H') ?_ ?_ ?_ ?_
        · exact ⟨upd_same, sD⟩
        · rintro t H' _ ⟨_, s6⟩
          exact SqL.of (s6 _ _ hu5)
        · rintro t v H6 hv ⟨hD6, s6⟩
          rw [List.getElem?_map] at hv
          obtain ⟨g, hg, rfl⟩ := Option.map_eq_some_iff.mp hv
          have gm := bm g (List.mem_of_getElem? hg)
          have gi := (le g i gm).gt
          have tk6 := tk5.keep s6
          obtain ⟨vs, ur, r1, r2, r3⟩ := tk6.tab.row (i := g) (by omega)
          have at2 : atI (rowF (kX x y e) g (y.length + 1)) (0 + ((j : Nat) : Int)) = some (.int (kX x y e g j : Nat)) := by
            rw [Int.zero_add]
            exact atI_nat (rowF_at (by omega))
          refine ⟨rfl, _, rfl, _, rfl, ak, _, _, .ref ur, rfl, rfl, SqL.of r1, r2, _, rfl, ur, _, _, _, rfl, rfl, SqL.of r3, at2, _, rfl, _, _, rfl, rfl, _, rfl, _, _, rfl, rfl, _, rfl, _, _, rfl, rfl, ?_⟩
          refine ⟨_, hD6, fewL (by rw [List.length_map, List.length_map, List.length_take]; omega), ?_, upd_out hD s6⟩
          rw [upd_same, List.take_add_one, hg, List.map_append, List.map_append]
          rfl
        · rintro H6 ⟨hD6, s6⟩
          rw [List.length_map, List.take_length] at hD6
          generalize hns0 : (begs es x.length i).map (fun g => ((kX x y e g j : Nat) : Int) + (0 + ((i : Nat) : Int)) - ((g : Nat) : Int) + ((e : Nat) : Int)) = ns0 at hD6
          have nl0 : ns0.length ≤ x.length := by rw [← hns0, List.length_map]; exact bl
          have nDk : D ≠ kr := fun z => by rw [z, hk5] at hD; cases hD
          have nDb : D ≠ br := fun z => by rw [z, hb5] at hD; cases hD
          refine name_go ?_
          dsimp only
          refine seq_mid (fun σ H' => σ = [some (.str x), some (.str y), some (.int (e : Nat)), some (.int ((((x.length : Nat) : Int) + ((y.length : Nat) : Int) + 1) * (((e : Nat) : Int) + 1))), some (.ref ao), some (.ref ak), some (.ref ab), some (.int (0 + (i : Int))), some (.ref kr), some (.ref br), some (.int (0 + (j : Int))), some (.ref D), o12] ∧ H' D = some (.lst ((ns0 ++ (if 0 < i then [((gX x y e (i - 1) j : Nat) : Int) + 1] else [])).map V.int)) ∧ Same H5 H') (fun D' hD' => ?_) (fun σ H7 hm => ?_)
          · refine ⟨_, rfl, _, _, rfl, rfl, _, rfl, ?_⟩
            by_cases c : 0 < i
            · rw [show decide ((0 : Int) < 0 + ((i : Nat) : Int)) = true from decide_eq_true (by omega)]
              obtain ⟨vs, ur, r1, r2, r3⟩ := (tb5.keep s6).tab.row (i := i - 1) (by omega)
              have r2' : atI (vs.map V.ref) (0 + ((i : Nat) : Int) - 1) = some (.ref ur) := by
                rw [show 0 + ((i : Nat) : Int) - 1 = ((i - 1 : Nat) : Int) by omega]
                exact r2
              have at2 : atI (rowF (gX x y e) (i - 1) (y.length + 1)) (0 + ((j : Nat) : Int)) = some (.int (gX x y e (i - 1) j : Nat)) := by
                rw [Int.zero_add]
                exact atI_nat (rowF_at (by omega))
              refine iteT ⟨_, rfl, .inl ⟨rfl, _, SqL.of hD6⟩, _, rfl, _, rfl, _, _, rfl, rfl, ab, _, _, .ref ur, rfl, rfl, SqL.of r1, r2', _, rfl, ur, _, _, _, rfl, rfl, SqL.of r3, at2, _, _, rfl, rfl, D, _, _, rfl, rfl, hD6, fewL (by rw [List.length_map]; omega), ?_⟩
              refine hD' _ _ ⟨rfl, ?_, upd_out hD s6⟩
              rw [if_pos c, upd_same, List.map_append]
              rfl
            · rw [show decide ((0 : Int) < 0 + ((i : Nat) : Int)) = false from decide_eq_false (by omega)]
              exact iteF (hD' _ _ ⟨rfl, by rw [if_neg c, List.append_nil]; exact hD6, s6⟩)
          obtain ⟨rfl, hD7, s7⟩ := hm
          generalize hns1 : ns0 ++ (if 0 < i then [((gX x y e (i - 1) j : Nat) : Int) + 1] else []) = ns1 at hD7
          have nl1 : ns1.length ≤ x.length + 1 := by
            rw [← hns1, List.length_append]
            split
            · rw [List.length_singleton]; omega
            · rw [List.length_nil]; omega
          refine seq_mid (fun σ H' => σ = [some (.str x), some (.str y), some (.int (e : Nat)), some (.int ((((x.length : Nat) : Int) + ((y.length : Nat) : Int) + 1) * (((e : Nat) : Int) + 1))), some (.ref ao), some (.ref ak), some (.ref ab), some (.int (0 + (i : Int))), some (.ref kr), some (.ref br), some (.int (0 + (j : Int))), some (.ref D), o12] ∧ H' D = some (.lst ((ns1 ++ (if 0 < j then [((gX x y e i (j - 1) : Nat) : Int) + 1] else [])).map V.int)) ∧ Same H5 H') (fun D' hD' => ?_) (fun σ H8 hm => ?_)
          · refine ⟨_, rfl, _, _, rfl, rfl, _, rfl, ?_⟩
            by_cases c : 0 < j
            · rw [show decide ((0 : Int) < 0 + ((j : Nat) : Int)) = true from decide_eq_true (by omega)]
              have at2 : atI (rowF (gX x y e) i j) (0 + ((j : Nat) : Int) - 1) = some (.int (gX x y e i (j - 1) : Nat)) := by
                rw [show 0 + ((j : Nat) : Int) - 1 = ((j - 1 : Nat) : Int) by omega]
                exact atI_nat (rowF_at (by omega))
              refine iteT ⟨_, rfl, .inl ⟨rfl, _, SqL.of hD7⟩, _, rfl, _, rfl, _, _, rfl, rfl, br, _, _, _, rfl, rfl, SqL.of (s7 _ _ hb5), at2, _, _, rfl, rfl, D, _, _, rfl, rfl, hD7, fewL (by rw [List.length_map]; omega), ?_⟩
              refine hD' _ _ ⟨rfl, ?_, upd_out hD s7⟩
              rw [if_pos c, upd_same, List.map_append]
              rfl
            · rw [show decide ((0 : Int) < 0 + ((j : Nat) : Int)) = false from decide_eq_false (by omega)]
              exact iteF (hD' _ _ ⟨rfl, by rw [if_neg c, List.append_nil]; exact hD7, s7⟩)
          obtain ⟨rfl, hD8, s8⟩ := hm
          generalize hns2 : ns1 ++ (if 0 < j then [((gX x y e i (j - 1) : Nat) : Int) + 1] else []) = ns2 at hD8
          have nl2 : ns2.length ≤ x.length + 2 := by
            rw [← hns2, List.length_append]
            split
            · rw [List.length_singleton]; omega
            · rw [List.length_nil]; omega
          have hb8 := s8 _ _ hb5
          have hk8 := s8 _ _ hk5
          have e102 : 102 < sizeLine := by decide
          refine ⟨_, rfl, .inl ⟨rfl, _, SqL.of hb8⟩, _, rfl, _, rfl, D, _, rfl, .inr (SqL.of hD8), ?_⟩
          refine ⟨by simp only [List.length_append, List.length_map, List.length_cons, List.length_nil]; omega, fun q hq => ?_⟩
          have sq9 := same_new (o := .lst (V.int ((((x.length : Nat) : Int) + ((y.length : Nat) : Int) + 1) * (((e : Nat) : Int) + 1)) :: (ns2.map V.int ++ []))) hq
          refine ⟨q, ((((x.length : Nat) : Int) + ((y.length : Nat) : Int) + 1) * (((e : Nat) : Int) + 1)) :: ns2, rfl, SqL.of (by rw [upd_same, List.append_nil]; rfl), Nat.succ_pos _, fun m hm1 hm2 => ?_⟩
          have em : m = ((gX x y e i j : Nat) : Int) := by
            subst hns2 hns1 hns0
            rw [eb] at hm1 hm2
            exact min_g el le hi1 hj1 hm1 hm2
          subst em
          refine ⟨br, _, _, rfl, rfl, sq9 _ _ hb8, fewL (by rw [rowF_len]; omega), ?_⟩
          have s39 := upd_out (o := .lst (rowF (gX x y e) i j ++ [.int (gX x y e i j : Nat)])) hbr3 ((s5.trans s8).trans sq9)
          have hk9 := (show upd (upd H8 q (.lst (V.int ((((x.length : Nat) : Int) + ((y.length : Nat) : Int) + 1) * (((e : Nat) : Int) + 1)) :: (ns2.map V.int ++ [])))) br (.lst (rowF (gX x y e) i j ++ [.int (gX x y e i j : Nat)])) kr = some (.lst (rowF (kX x y e) i j)) by rw [upd_ne nkb]; exact sq9 _ _ hk8)
          have hb9 := (show upd (upd H8 q (.lst (V.int ((((x.length : Nat) : Int) + ((y.length : Nat) : Int) + 1) * (((e : Nat) : Int) + 1)) :: (ns2.map V.int ++ [])))) br (.lst (rowF (gX x y e) i j ++ [.int (gX x y e i j : Nat)])) br = some (.lst (rowF (gX x y e) i (j + 1))) by rw [upd_same, rowF_snoc])
          generalize upd (upd H8 q (.lst (V.int ((((x.length : Nat) : Int) + ((y.length : Nat) : Int) + 1) * (((e : Nat) : Int) + 1)) :: (ns2.map V.int ++ [])))) br (.lst (rowF (gX x y e) i j ++ [.int (gX x y e i j : Nat)])) = H9 at s39 hk9 hb9 ⊢
          dsimp only
          refine seq_mid (fun σ H' => ∃ D2, σ = [some (.str x), some (.str y), some (.int (e : Nat)), some (.int ((((x.length : Nat) : Int) + ((y.length : Nat) : Int) + 1) * (((e : Nat) : Int) + 1))), some (.ref ao), some (.ref ak), some (.ref ab), some (.int (0 + (i : Int))), some (.ref kr), some (.ref br), some (.int (0 + (j : Int))), some (.ref D2), o12] ∧ H' D2 = some (.lst ([if i = 0 ∧ j = 0 then (0 : Int) else ((gX x y e i j : Nat) : Int)].map V.int)) ∧ H9 D2 = none ∧ Same H9 H') (fun D' hD' => ?_) (fun σ H10 hm => ?_)
          · refine and_by (p := i = 0) (q := j = 0) (nul_by rfl) (fun _ => nul_by rfl) ?_
            by_cases c : i = 0 ∧ j = 0
            · rw [decide_eq_true c]
              refine iteT ⟨by show 1 ≤ sizeLine; decide, fun D2 hD2 => hD' _ _ ⟨D2, rfl, ?_, hD2, same_new hD2⟩⟩
              rw [upd_same, if_pos c]
              rfl
            · rw [decide_eq_false c]
              have at3 : atI (rowF (gX x y e) i (j + 1)) (0 + ((j : Nat) : Int)) = some (.int (gX x y e i j : Nat)) := by
                rw [Int.zero_add]
                exact atI_nat (rowF_at (by omega))
              refine iteF ⟨_, rfl, _, rfl, br, _, _, _, rfl, rfl, SqL.of hb9, at3, by show 1 ≤ sizeLine; decide, fun D2 hD2 => hD' _ _ ⟨D2, rfl, ?_, hD2, same_new hD2⟩⟩
              rw [upd_same, if_neg c]
              rfl
          obtain ⟨D2, rfl, hD10, hD9, s10⟩ := hm
          generalize hw1 : (if i = 0 ∧ j = 0 then (0 : Int) else ((gX x y e i j : Nat) : Int)) = w1 at hD10
          have s310 := s39.trans s10
          have nDk2 : D2 ≠ kr := fun z => by rw [z, hk9] at hD9; cases hD9
          have nDb2 : D2 ≠ br := fun z => by rw [z, hb9] at hD9; cases hD9
          refine seq_mid (fun σ H' => σ = [some (.str x), some (.str y), some (.int (e : Nat)), some (.int ((((x.length : Nat) : Int) + ((y.length : Nat) : Int) + 1) * (((e : Nat) : Int) + 1))), some (.ref ao), some (.ref ak), some (.ref ab), some (.int (0 + (i : Int))), some (.ref kr), some (.ref br), some (.int (0 + (j : Int))), some (.ref D2), o12] ∧ H' D2 = some (.lst ((w1 :: (if 0 < i ∧ 0 < j ∧ x.cps.toList[i - 1]? = y.cps.toList[j - 1]? then [((kX x y e (i - 1) (j - 1) : Nat) : Int)] else [])).map V.int)) ∧ Same H9 H') (fun D' hD' => ?_) (fun σ H11 hm => ?_)
          · refine and_by (p := 0 < i) (q := 0 < j ∧ x.cps.toList[i - 1]? = y.cps.toList[j - 1]?) (pos_by rfl) (fun ci k' q => and_by (p := 0 < j) (q := x.cps.toList[i - 1]? = y.cps.toList[j - 1]?) (pos_by rfl) (fun cj k' q => ?_) q) ?_
            · obtain ⟨c1, g1⟩ : ∃ c, x.cps.toList[i - 1]? = some c := ⟨x.cps.toList[i - 1]'(by omega), List.getElem?_eq_getElem (by omega)⟩
              obtain ⟨c2, g2⟩ : ∃ c, y.cps.toList[j - 1]? = some c := ⟨y.cps.toList[j - 1]'(by omega), List.getElem?_eq_getElem (by omega)⟩
              have a1 : atI x.cps.toList (0 + ((i : Nat) : Int) - 1) = some c1 := by
                rw [show 0 + ((i : Nat) : Int) - 1 = ((i - 1 : Nat) : Int) by omega]
                exact atI_nat g1
              have a2 : atI y.cps.toList (0 + ((j : Nat) : Int) - 1) = some c2 := by
                rw [show 0 + ((j : Nat) : Int) - 1 = ((j - 1 : Nat) : Int) by omega]
                exact atI_nat g2
              refine ⟨_, rfl, _, rfl, _, _, rfl, rfl, x, _, c1, rfl, rfl, xl, a1, _, rfl, _, rfl, _, _, rfl, rfl, y, _, c2, rfl, rfl, yl, a2, rfl, _, rfl, ?_⟩
              rw [show decide (V.str ⟨#[c1]⟩ = V.str ⟨#[c2]⟩) = decide (x.cps.toList[i - 1]? = y.cps.toList[j - 1]?) from decide_eq_decide.mpr ⟨fun z => by rw [g1, g2]; cases z; rfl, fun z => by rw [g1, g2] at z; cases z; rfl⟩]
              exact q
            · by_cases c : 0 < i ∧ 0 < j ∧ x.cps.toList[i - 1]? = y.cps.toList[j - 1]?
              · rw [decide_eq_true c]
                obtain ⟨vs, ur, r1, r2, r3⟩ := (tk.keep s310).tab.row (i := i - 1) (by omega)
                have r2' : atI (vs.map V.ref) (0 + ((i : Nat) : Int) - 1) = some (.ref ur) := by
                  rw [show 0 + ((i : Nat) : Int) - 1 = ((i - 1 : Nat) : Int) by omega]
                  exact r2
                have at2 : atI (rowF (kX x y e) (i - 1) (y.length + 1)) (0 + ((j : Nat) : Int) - 1) = some (.int (kX x y e (i - 1) (j - 1) : Nat)) := by
                  rw [show 0 + ((j : Nat) : Int) - 1 = ((j - 1 : Nat) : Int) by omega]
                  exact atI_nat (rowF_at (by omega))
                refine iteT ⟨_, rfl, .inl ⟨rfl, _, SqL.of hD10⟩, _, rfl, _, rfl, _, _, rfl, rfl, ak, _, _, .ref ur, rfl, rfl, SqL.of r1, r2', _, rfl, _, _, rfl, rfl, ur, _, _, _, rfl, rfl, SqL.of r3, at2, D2, _, _, rfl, rfl, hD10, (by show 1 < sizeLine; decide), ?_⟩
                refine hD' _ _ ⟨rfl, ?_, upd_out hD9 s10⟩
                rw [if_pos c, upd_same]
                rfl
              · rw [decide_eq_false c]
                exact iteF (hD' _ _ ⟨rfl, by rw [if_neg c]; exact hD10, s10⟩)
          obtain ⟨rfl, hD11, s11⟩ := hm
          have hk11 := s11 _ _ hk9
          have hb11 := s11 _ _ hb9
          refine ⟨_, rfl, .inl ⟨rfl, _, SqL.of hk11⟩, _, rfl, D2, _, rfl, SqL.of hD11, Nat.succ_pos _, fun m hm1 hm2 => ?_⟩
          have em : m = ((kX x y e i j : Nat) : Int) := by
            subst hw1
            exact min_k hi1 hm1 hm2
          subst em
          refine ⟨kr, _, _, rfl, rfl, hk11, fewL (by rw [rowF_len]; omega), ?_⟩
          exact ⟨_, _, _, rfl, by rw [upd_same, rowF_snoc], by rw [upd_ne nkb.symm]; exact hb11, upd_out hkr (s39.trans s11)⟩
      · rintro σ H5 ⟨o10, o11, o12, rfl, hk5, hb5, s5⟩
        rw [show (((y.length : Nat) : Int) + 1).toNat = y.length + 1 by omega] at hk5 hb5
        have tk5 := tk.keep s5
        have tb5 := tb.keep s5
        have hkr3 : H3 kr = none := hkr
        have n1 : ak ≠ kr := fun z => by rw [← z, tk.at'] at hkr3; cases hkr3
        have n2 : ab ≠ kr := fun z => by rw [← z, tb.at'] at hkr3; cases hkr3
        have n3 : ak ≠ br := fun z => by rw [← z, tk.at'] at hbr3; cases hbr3
        have n4 : ab ≠ br := fun z => by rw [← z, tb.at'] at hbr3; cases hbr3
        have tk6 := tk5.snoc hk5 n1 n2
        have tb6 := tb5.other (o := .lst (uk.map V.ref ++ [.ref kr])) kb.symm
        refine ⟨_, rfl, .inl ⟨rfl, _, SqL.of tk5.at'⟩, _, rfl, ak, _, _, rfl, rfl, tk5.at', fewL (by rw [List.length_map, tk5.len]; omega), ?_⟩
        have b6 : upd H5 ak (.lst (uk.map V.ref ++ [.ref kr])) br = some (.lst (rowF (gX x y e) i (y.length + 1))) := by rw [upd_ne n3.symm]; exact hb5
        have tb7 := tb6.snoc b6 n4 n3
        have tk7 := tk6.other (o := .lst (ub.map V.ref ++ [.ref br])) kb
        refine ⟨_, rfl, .inl ⟨rfl, _, SqL.of tb6.at'⟩, _, rfl, ab, _, _, rfl, rfl, tb6.at', fewL (by rw [List.length_map, tb6.len]; omega), ?_⟩
        exact ⟨_, _, _, _, _, _, _, _, rfl, tk7, tb7, upd_out hab1 (upd_out hak (s3.trans s5))⟩
    · rintro σ H3 ⟨o7, o8, o9, o10, o11, o12, uk, ub, rfl, tk, tb, s3⟩
      rw [show (((x.length : Nat) : Int) + 1).toNat = x.length + 1 by omega] at tk tb
      refine ⟨_, rfl, _, rfl, by show 2 ≤ sizeLine; decide, fun t ht => ?_⟩
      have st := same_new (o := .tup [.ref ak, .ref ab]) ht
      exact k t ak ab _ upd_same (tk.tab.keep st) (tb.tab.keep st) ((s1.trans s3).trans st)
end
end Vk
set_option Elab.async false
set_option maxRecDepth 100000
set_option linter.all false
set_option maxHeartbeats 4000000
namespace Vk
open PySem PySem.Spec PyProof.Rows L2 StX
section
variable {P : Program} {w : World} {K : PySem.W.Frag} {mg : Str → Option Value} {base : Heap}
inductive WBr (x y : Str) (es : List Nat) (e : Nat) : Nat → Nat → Nat → Nat → Prop
  | here {i j t g : Nat} : (begs es x.length i)[t]? = some g → (∀ g' ∈ (begs es x.length i).take t, gX x y e i j ≠ kX x y e g' j + (i - g') + e) → gX x y e i j = kX x y e g j + (i - g) + e → WBr x y es e i j g j
  | left {i j g k : Nat} : (∀ g' ∈ begs es x.length i, gX x y e i j ≠ kX x y e g' j + (i - g') + e) → (0 < j ∧ gX x y e i j = gX x y e i (j - 1) + 1) → WBr x y es e i (j - 1) g k → WBr x y es e i j g k
  | up {i j g k : Nat} : (∀ g' ∈ begs es x.length i, gX x y e i j ≠ kX x y e g' j + (i - g') + e) → ¬ (0 < j ∧ gX x y e i j = gX x y e i (j - 1) + 1) → WBr x y es e (i - 1) j g k → WBr x y es e i j g k
def spWB : Sp := fun vs H Q _ => ∃ (ab ao ak : Addr) (x y : Str) (es : List Nat) (e i j : Nat), vs = [.ref ab, .ref ao, .ref ak, .int (i : Nat), .int (j : Nat), .int (e : Nat)] ∧ Tab H ab (gX x y e) (x.length + 1) (y.length + 1) ∧ OpenL H ao es x.length x.length ∧ Tab H ak (kX x y e) (x.length + 1) (y.length + 1) ∧ es.length = x.length ∧ (∀ i e, es[i]? = some e → Lend x i e) ∧ i ≤ x.length ∧ j ≤ y.length ∧ gX x y e i j < beyond x.cps.toList y.cps.toList e ∧
  ∀ (g k : Nat) (t : Addr) (H' : Hp), H' t = some (.tup [.int (g : Nat), .int (k : Nat)]) → g < i → k ≤ j → onceX x g i → gX x y e i j = kX x y e g k + e + (i - g) + (j - k) → WBr x y es e i j g k → Same H H' → Q (.ref t) H'
abbrev s_window_back : Stmt := top 11
theorem sc_window_back : FnScope ["begun", "begins", "kept", "i", "j", "each", "begin"] ["begun", "begins", "kept", "i", "j", "each"] (defScope s_window_back) := ⟨rfl, rfl, rfl, by decide +kernel, rfl, by decide +kernel, by decide +kernel⟩
theorem b_window_back {f : Addr} {fd : FuncData} (F : Fun K "window_back" "window_back" s_window_back f fd) (T : Txt mg) : FnG P w K mg base CX0 1 f fd ["begun", "begins", "kept", "i", "j", "each"] spWB := by
  refine okG0 F sc_window_back (fun vs H Q E h => ?_) (fun cdv A outer s H vs Q E hg hr h => ?_)
  · obtain ⟨ab, ao, ak, x, y, es, e, i, j, rfl, _⟩ := h
    rfl
  · have hu := hu_of hr
    have hu64 := hr.units
    obtain ⟨ab, ao, ak, x, y, es, e, i0, j0, rfl, tb, op, tk, el, le, hi0, hj0, lt0, k⟩ := h
    have lx : x.cps.toList.length = x.length := Array.length_toList
    refine ⟨_, (pss_one (ps_while PassesOwn.never (pt_val pe_bl) (pss_cons (ps_for PassesOwn.never rfl (pi_list (pe_ix ix_list (pv 1) (pv 3) (fun _ _ => rfl))) (pg_name (i := 6) sc_window_back.nd rfl (Or.inl rfl)) (pss_one (ps_if (pt_cmpR op_eq (pe_ix ix_list (pe_ix ix_list (pv 0) (pv 3) (fun _ _ => rfl)) (pv 4) (fun _ _ => rfl)) (pe_op op_add (pe_op op_sub (pe_op op_add (pe_ix ix_list (pe_ix ix_list (pv 2) (pv 6) (fun _ _ => rfl)) (pv 4) (fun _ _ => rfl)) (pv 3)) (pv 6)) (pv 5)) (nomark _)) (pss_one (ps_ret (pe_tup (pa_cons (pv 6) (pa_cons (pv 4) pa_nil))))) pss_nil)))
      (pss_one (ps_if (PW.pt (pw_and (pt_cmpR op_gt (pv 4) pe_int (nomark _)) (pw_and1 (pt_cmpR op_eq (pe_ix ix_list (pe_ix ix_list (pv 0) (pv 3) (fun _ _ => rfl)) (pv 4) (fun _ _ => rfl)) (pe_op op_add (pe_ix ix_list (pe_ix ix_list (pv 0) (pv 3) (fun _ _ => rfl)) (pe_op op_sub (pv 4) pe_int) (fun _ _ => rfl)) pe_int) (nomark _))))) (pss_one (ps_aug (i := 4) sc_window_back.nd rfl (Or.inl rfl) pe_int ip_sub)) (pss_one (ps_aug (i := 3) sc_window_back.nd rfl (Or.inl rfl) pe_int ip_sub))))))), ?_⟩
    refine ⟨fun m σ H' => ∃ (i j : Nat) (o6 : Option V), σ = [some (.ref ab), some (.ref ao), some (.ref ak), some (.int (i : Nat)), some (.int (j : Nat)), some (.int (e : Nat)), o6] ∧ H' = H ∧ i ≤ i0 ∧ j ≤ j0 ∧ gX x y e i0 j0 = gX x y e i j + (i0 - i) + (j0 - j) ∧ (∀ g, g < i → onceX x g i → onceX x g i0) ∧ (∀ g k, WBr x y es e i j g k → WBr x y es e i0 j0 g k) ∧ m = i + j, ⟨_, i0, j0, _, rfl, rfl, Nat.le_refl _, Nat.le_refl _, by omega, fun _ _ h => h, fun _ _ h => h, rfl⟩, ?_⟩
    rintro m σ H1 ⟨i, j, o6, rfl, rfl, hi, hj, hsum, hon, hwb, rfl⟩
    refine ⟨true, rfl, iteT ⟨fun σ' H' => ∃ (i' j' : Nat) (o6' : Option V), σ' = [some (.ref ab), some (.ref ao), some (.ref ak), some (.int (i' : Nat)), some (.int (j' : Nat)), some (.int (e : Nat)), o6'] ∧ H' = H1 ∧ i' ≤ i0 ∧ j' ≤ j0 ∧ gX x y e i0 j0 = gX x y e i' j' + (i0 - i') + (j0 - j') ∧ (∀ g, g < i' → onceX x g i' → onceX x g i0) ∧ (∀ g k, WBr x y es e i' j' g k → WBr x y es e i0 j0 g k) ∧ i' + j' < i + j, ?_, ?_⟩⟩
    · rintro σ' H' ⟨i', j', o6', rfl, rfl, a, b, c, d, d2, f⟩
      exact ⟨_, f, i', j', _, rfl, rfl, a, b, c, d, d2, rfl⟩
    · have lt1 : gX x y e i j < beyond x.cps.toList y.cps.toList e := by omega
      have ok := onceOk_es el le
      obtain ⟨us, q1, q2, q3, q4, q5⟩ := op.ex
      have ui : us[i]? = some (us[i]'(by omega)) := List.getElem?_eq_getElem (by omega)
      generalize us[i]'(by omega) = u at ui
      have hu5 := q5 i u ui
      have at1 : atI (us.map V.ref) ((i : Nat) : Int) = some (.ref u) := atI_nat (by rw [List.getElem?_map, ui]; rfl)
      obtain ⟨vb, rb, b1, b2, b3⟩ := tb.row (i := i) (by omega)
      have bt : atI (rowF (gX x y e) i (y.length + 1)) ((j : Nat) : Int) = some (.int (gX x y e i j : Nat)) := atI_nat (rowF_at (by omega))
      have bm : ∀ g ∈ begs es x.length i, es[g]? = some i := fun g hg => of_decide_eq_true (List.mem_filter.mp hg).2
      refine ⟨_, rfl, _, rfl, ao, _, _, .ref u, rfl, rfl, SqL.of q1, at1, u, rfl, ⟨_, SqL.of hu5⟩, ?_⟩
      refine for_list (K := K) (a := u) (xs := (begs es x.length i).map fun g => V.int (g : Nat)) (fun t σ H' => ∃ (o6 : Option V), σ = [some (.ref ab), some (.ref ao), some (.ref ak), some (.int (i : Nat)), some (.int (j : Nat)), some (.int (e : Nat)), o6] ∧ H' = H1 ∧ ∀ g ∈ (begs es x.length i).take t, gX x y e i j ≠ kX x y e g j + (i - g) + e) ?_ ?_ ?_ ?_
      · exact ⟨_, rfl, rfl, fun g hg => absurd hg List.not_mem_nil⟩
      · rintro t σ H' _ ⟨o6, rfl, rfl, _⟩
        exact SqL.of hu5
      · rintro t v σ H' hv ⟨o6, rfl, rfl, nn⟩
        rw [List.getElem?_map] at hv
        obtain ⟨g, hg, rfl⟩ := Option.map_eq_some_iff.mp hv
        have gm := bm g (List.mem_of_getElem? hg)
        have gl := le g i gm
        have gi := gl.gt
        obtain ⟨vk, rk, k1, k2, k3⟩ := tk.row (i := g) (by omega)
        have ct : atI (rowF (kX x y e) g (y.length + 1)) ((j : Nat) : Int) = some (.int (kX x y e g j : Nat)) := atI_nat (rowF_at (by omega))
        refine ⟨_, rfl, _, rfl, ab, _, _, .ref rb, rfl, rfl, SqL.of b1, b2, _, rfl, rb, _, _, _, rfl, rfl, SqL.of b3, bt, _, rfl, _, rfl, ak, _, _, .ref rk, rfl, rfl, SqL.of k1, k2, _, rfl, rk, _, _, _, rfl, rfl, SqL.of k3, ct, _, rfl, _, _, rfl, rfl, _, rfl, _, _, rfl, rfl, _, rfl, _, _, rfl, rfl, rfl, _, rfl, ?_⟩
        by_cases c : gX x y e i j = kX x y e g j + (i - g) + e
        · rw [show decide (V.int ((gX x y e i j : Nat) : Int) = V.int (((kX x y e g j : Nat) : Int) + ((i : Nat) : Int) - ((g : Nat) : Int) + ((e : Nat) : Int))) = true from decide_eq_true (congrArg V.int (by omega))]
          refine iteT ⟨_, rfl, _, rfl, by show 2 ≤ sizeLine; decide, fun tt htt => ?_⟩
          exact k g j tt _ upd_same (by omega) hj (hon g gi (gl.once (by omega))) (by omega) (hwb _ _ (.here hg nn c)) (same_new htt)
        · rw [show decide (V.int ((gX x y e i j : Nat) : Int) = V.int (((kX x y e g j : Nat) : Int) + ((i : Nat) : Int) - ((g : Nat) : Int) + ((e : Nat) : Int))) = false from decide_eq_false fun z => c (by have := V.int.inj z; omega)]
          refine iteF ⟨_, rfl, rfl, fun g' hg' => ?_⟩
          rw [List.take_add_one, hg] at hg'
          rcases List.mem_append.mp hg' with h | h
          · exact nn g' h
          · rw [List.mem_singleton.mp h]
            exact c
      · rintro σ H' ⟨o6, rfl, rfl, nn⟩
        rw [List.length_map, List.take_length] at nn
        have from3 : (0 < j ∧ gX x y e i j = gX x y e i (j - 1) + 1) ∨ (0 < i ∧ gX x y e i j = gX x y e (i - 1) j + 1) := by
          rcases gF_from ok lt1 with ⟨g, h1, h2⟩ | h | h
          · obtain ⟨z1, z2⟩ := leE_es.mp h1
            have z3 := (List.getElem?_eq_some_iff.mp z1).1
            exact absurd h2 (nn g (List.mem_filter.mpr ⟨List.mem_range.mpr (by omega), decide_eq_true z1⟩))
          · exact .inl h
          · exact .inr h
        dsimp only
        refine and_by (p := 0 < j) (q := gX x y e i j = gX x y e i (j - 1) + 1) (fun k' q => ⟨_, rfl, _, _, rfl, rfl, _, rfl, by
          rw [show decide ((0 : Int) < ((j : Nat) : Int)) = decide (0 < j) from decide_eq_decide.mpr (by omega)]
          exact q⟩) (fun cj k' q => ?_) ?_
        · have bt2 : atI (rowF (gX x y e) i (y.length + 1)) (((j : Nat) : Int) - 1) = some (.int (gX x y e i (j - 1) : Nat)) := by
            rw [show ((j : Nat) : Int) - 1 = ((j - 1 : Nat) : Int) by omega]
            exact atI_nat (rowF_at (by omega))
          refine ⟨_, rfl, _, rfl, ab, _, _, .ref rb, rfl, rfl, SqL.of b1, b2, _, rfl, rb, _, _, _, rfl, rfl, SqL.of b3, bt, _, rfl, _, rfl, ab, _, _, .ref rb, rfl, rfl, SqL.of b1, b2, _, rfl, _, _, rfl, rfl, rb, _, _, _, rfl, rfl, SqL.of b3, bt2, _, _, rfl, rfl, rfl, _, rfl, ?_⟩
          rw [show decide (V.int ((gX x y e i j : Nat) : Int) = V.int (((gX x y e i (j - 1) : Nat) : Int) + 1)) = decide (gX x y e i j = gX x y e i (j - 1) + 1) from decide_eq_decide.mpr ⟨fun z => by have := V.int.inj z; omega, fun z => congrArg V.int (by omega)⟩]
          exact q
        · by_cases c : 0 < j ∧ gX x y e i j = gX x y e i (j - 1) + 1
          · rw [decide_eq_true c]
            have ej : ((j : Nat) : Int) - 1 = ((j - 1 : Nat) : Int) := by omega
            refine iteT ⟨_, rfl, _, _, rfl, rfl, ?_⟩
            exact ⟨i, j - 1, _, by rw [← ej]; rfl, rfl, hi, by omega, by omega, hon, fun g k q => hwb g k (.left nn c q), by omega⟩
          · rw [decide_eq_false c]
            have c2 : 0 < i ∧ gX x y e i j = gX x y e (i - 1) j + 1 := from3.resolve_left c
            have ei : ((i : Nat) : Int) - 1 = ((i - 1 : Nat) : Int) := by omega
            refine iteF ⟨_, rfl, _, _, rfl, rfl, ?_⟩
            exact ⟨i - 1, j, _, by rw [← ei]; rfl, rfl, by omega, hj, by omega, fun g h1 h2 => hon g (by omega) (ok.more g (i - 1) i h1 (by omega) (by omega) h2), fun g k q => hwb g k (.up nn c q), by omega⟩
end
end Vk
set_option Elab.async false
set_option maxRecDepth 100000
set_option linter.all false
set_option maxHeartbeats 4000000
namespace Vk
open PySem PySem.Spec PyProof.Rows L2 StX
section
variable {P : Program} {w : World} {K : PySem.W.Frag} {mg : Str → Option Value} {base : Heap}
def spHas : Sp := fun vs H Q _ => ∃ (x y : Str), vs = [.str x, .str y] ∧ Q (.bl (!decide (V.str x = V.str "") || decide (V.str y = V.str ""))) H
abbrev s_has_exchange : Stmt := top 12
theorem sc_has_exchange : FnScope ["one", "other"] ["one", "other"] (defScope s_has_exchange) := ⟨rfl, rfl, rfl, by decide +kernel, rfl, by decide +kernel, by decide +kernel⟩
theorem b_has_exchange {f : Addr} {fd : FuncData} (F : Fun K "has_exchange" "has_exchange" s_has_exchange f fd) (T : Txt mg) : FnG P w K mg base CX0 1 f fd ["one", "other"] spHas := by
  refine okG0 F sc_has_exchange (fun vs H Q E h => ?_) (fun cdv A outer s H vs Q E hg hr h => ?_)
  · obtain ⟨x, y, rfl, _⟩ := h
    rfl
  · have hu := hu_of hr
    have hu64 := hr.units
    obtain ⟨x, y, rfl, k⟩ := h
    refine ⟨_, (pss_one (ps_ret (pe_or (pe_cmpR op_ne (pv 0) pe_str (nomark _)) (pe_one (pe_cmpR op_eq (pv 1) pe_str (nomark _)))))), ?_⟩
    refine ⟨_, rfl, rfl, _, rfl, ?_⟩
    cases e1 : decide (V.str x = V.str "") with
    | false =>
      rw [e1] at k
      exact iteT k
    | true =>
      rw [e1] at k
      exact iteF ⟨_, rfl, rfl, k⟩
end
end Vk
set_option Elab.async false
set_option maxRecDepth 100000
set_option linter.all false
set_option maxHeartbeats 4000000
namespace Vk
open PySem PySem.Spec PyProof.Rows L2 StX
theorem back_len (z : Str) : (backS z).length = z.length := by
  show (z.cps.toList.reverse.toArray).size = z.cps.size
  rw [List.size_toArray, List.length_reverse, Array.length_toList]
theorem back_lt {x : Str} (h : Ltr x) : Ltr (backS x) := fun c hc => h c (List.mem_reverse.mp hc)
section
variable {P : Program} {w : World} {K : PySem.W.Frag} {mg : Str → Option Value} {base : Heap}
end
end Vk
set_option Elab.async false
set_option maxRecDepth 100000
set_option linter.all false
set_option maxHeartbeats 4000000
namespace Vk
/-! ## the parts of a way, as cheapest spells them from the end -/
section
variable (a b : List Nat) (once : Nat → Nat → Prop) (e : Nat)
inductive Parts : Nat → Nat → Nat → List (Nat × Nat × List Nat) → Prop
  | stop : Parts a.length b.length 0 []
  | keep {i j c : Nat} {rs : List (Nat × Nat × List Nat)} : Parts (i + 1) (j + 1) c rs → i < a.length → a[i]? = b[j]? → Parts i j c rs
  | xch {i j c t k : Nat} {rs : List (Nat × Nat × List Nat)} : Parts t k c rs → i < t → t ≤ a.length → once i t → j ≤ k → k ≤ b.length → Parts i j (c + e + (t - i) + (k - j)) ((i, t, (b.drop j).take (k - j)) :: rs)
variable {a b once e}
theorem Parts.way {i j c : Nat} {rs : List (Nat × Nat × List Nat)} (h : Parts a b once e i j c rs) : WayB a b once e i j c := by
  induction h with
  | stop => exact .stop
  | keep _ h1 h2 ih => exact .keep ih h1 h2
  | xch _ h1 h2 h3 h4 h5 ih => exact .xch ih h1 h2 h3 h4 h5
/-- what the parts make of the text behind i -/
def doneP (a : List Nat) : Nat → List (Nat × Nat × List Nat) → List Nat
  | i, [] => a.drop i
  | i, (g, t, w) :: rs => (a.drop i).take (g - i) ++ w ++ doneP a t rs
def OkP (a : List Nat) (once : Nat → Nat → Prop) : Nat → List (Nat × Nat × List Nat) → Prop
  | _, [] => True
  | i, (g, t, _) :: rs => i ≤ g ∧ g < t ∧ t ≤ a.length ∧ once g t ∧ OkP a once t rs
def costP (e : Nat) : List (Nat × Nat × List Nat) → Nat
  | [] => 0
  | (g, t, w) :: rs => e + (t - g) + w.length + costP e rs
theorem OkP.less {i : Nat} {rs : List (Nat × Nat × List Nat)} (h : OkP a once (i + 1) rs) : OkP a once i rs := by
  match rs, h with
  | [], _ => trivial
  | (g, t, w) :: rs, ⟨h1, h2⟩ => exact ⟨by omega, h2⟩
theorem doneP_step {i : Nat} {rs : List (Nat × Nat × List Nat)} (hi : i < a.length) (h : OkP a once (i + 1) rs) : doneP a i rs = a[i] :: doneP a (i + 1) rs := by
  match rs, h with
  | [], _ => exact List.drop_eq_getElem_cons hi
  | (g, t, w) :: rs, ⟨h1, _⟩ =>
    show (a.drop i).take (g - i) ++ w ++ doneP a t rs = a[i] :: ((a.drop (i + 1)).take (g - (i + 1)) ++ w ++ doneP a t rs)
    rw [List.drop_eq_getElem_cons hi, show g - i = (g - (i + 1)) + 1 by omega, List.take_succ_cons]
    rfl
theorem Parts.ok {i j c : Nat} {rs : List (Nat × Nat × List Nat)} (h : Parts a b once e i j c rs) : OkP a once i rs ∧ doneP a i rs = b.drop j ∧ c = costP e rs := by
  induction h with
  | stop => exact ⟨trivial, by show a.drop a.length = b.drop b.length; rw [List.drop_length, List.drop_length], rfl⟩
  | @keep i j c rs _ h1 h2 ih =>
    obtain ⟨i1, i2, i3⟩ := ih
    rw [List.getElem?_eq_getElem h1] at h2
    obtain ⟨h3, h4⟩ := List.getElem?_eq_some_iff.mp h2.symm
    exact ⟨i1.less, by rw [doneP_step h1 i1, i2, List.drop_eq_getElem_cons h3, h4], i3⟩
  | @xch i j c t k rs _ h1 h2 h3 h4 h5 ih =>
    obtain ⟨i1, i2, i3⟩ := ih
    refine ⟨⟨Nat.le_refl _, h1, h2, h3, i1⟩, ?_, ?_⟩
    · show (a.drop i).take (i - i) ++ (b.drop j).take (k - j) ++ doneP a t rs = b.drop j
      rw [Nat.sub_self, List.take_zero, List.nil_append, i2]
      have : b.drop k = (b.drop j).drop (k - j) := by rw [List.drop_drop, show j + (k - j) = k by omega]
      rw [this, List.take_append_drop]
    · show _ = e + (t - i) + ((b.drop j).take (k - j)).length + costP e rs
      rw [List.length_take, List.length_drop, ← i3]
      omega
theorem parts_nil {i : Nat} {rs : List (Nat × Nat × List Nat)} (h : OkP a once i rs) (z : costP e rs = 0) : rs = [] := by
  match rs, h, z with
  | [], _, _ => rfl
  | (g, t, w) :: rs, ⟨_, h2, _⟩, z =>
    have z : e + (t - g) + w.length + costP e rs = 0 := z
    omega
/-- a text goes over to itself for nothing -/
theorem way_self : ∀ n, n ≤ a.length → WayF a a once e n n 0
  | 0, _ => .start
  | n + 1, h => .keep (way_self n (by omega)) (by omega) rfl
/-- no part exactly where the texts are one -/
theorem parts_same {rs : List (Nat × Nat × List Nat)} (h : Parts a b once e 0 0 (kF a b once e a.length b.length) rs) : rs = [] ↔ a = b := by
  obtain ⟨h1, h2, h3⟩ := h.ok
  constructor
  · rintro rfl
    exact h2
  · rintro rfl
    have := (kF_least (a := a) (b := a) (once := once) (e := e) a.length a.length).le 0 (way_self _ (Nat.le_refl _))
    exact parts_nil (e := e) h1 (by omega)
end
end Vk
set_option Elab.async false
set_option maxRecDepth 100000
set_option linter.all false
set_option maxHeartbeats 4000000
namespace Vk
open PySem PySem.Spec PyProof.Rows L2 StX RT
theorem strE_d {x : Str} : decide (V.str x = V.str "") = decide (x.length = 0) := by
  by_cases h : x.length = 0
  · rw [decide_eq_true h]
    refine decide_eq_true ?_
    have : x = "" := by
      obtain ⟨c⟩ := x
      have : c = #[] := Array.eq_empty_of_size_eq_zero h
      rw [this]
      rfl
    rw [this]
  · rw [decide_eq_false h]
    refine decide_eq_false fun e => h ?_
    rw [V.str.inj e]
    rfl
theorem or_by {A B : TT} {σ : L2.St} {H : Hp} {k : Bool → Hp → Prop} {p q : Prop} [Decidable p] [Decidable q] (ha : ∀ k' : Bool → Hp → Prop, k' (decide p) H → A σ H k') (hb : ¬ p → ∀ k' : Bool → Hp → Prop, k' (decide q) H → B σ H k') (h : k (decide (p ∨ q)) H) : tOr A B σ H k := by
  refine ha _ ?_
  by_cases c : p
  · rw [decide_eq_true c]
    rw [show decide (p ∨ q) = true by simp [c]] at h
    exact iteT h
  · rw [decide_eq_false c]
    refine iteF (hb c _ ?_)
    rw [show decide (p ∨ q) = decide q by simp [c]] at h
    exact h
theorem posN {σ : L2.St} {H : Hp} {n : Nat} {i : Nat} (h : σ[n]? = some (some (.int (i : Nat)))) : ∀ k' : Bool → Hp → Prop, k' (decide (0 < i)) H → tTest (tOp (rI0 fun i j => V.bl (decide (j < i))) (tVar n) (tC (.int 0))) σ H k' := fun k' q => ⟨_, h, _, _, rfl, rfl, _, rfl, by
  rw [show decide ((0 : Int) < ((i : Nat) : Int)) = decide (0 < i) by by_cases c : 0 < i <;> simp [c]]
  exact q⟩
/-- the whole text stands once in itself -/
theorem once_all {x : Str} : onceX x 0 x.length := by
  unfold onceX
  cases e : twB x 0 x.length with
  | false => rfl
  | true =>
    obtain ⟨k, k1, k2, _⟩ := (twB_iff (Nat.zero_le _) (Nat.le_refl _)).mp e
    omega
theorem way_any {x y : Str} {e : Nat} (h : ¬ (x.length = 0 ∧ ¬ y.length = 0)) : ∃ c, WayF x.cps.toList y.cps.toList (onceX x) e x.length y.length c := by
  have lx : x.cps.toList.length = x.length := Array.length_toList
  have ly : y.cps.toList.length = y.length := Array.length_toList
  by_cases c : x.length = 0
  · have d : y.length = 0 := Decidable.byContradiction fun z => h ⟨c, z⟩
    rw [c, d]
    exact ⟨0, .start⟩
  · exact ⟨_, .xch (t := x.length) (k := y.length) .start (by omega) (by omega) once_all (Nat.zero_le _) (by omega)⟩
def partT (r : Nat × Nat × Str) : Nat × Nat × List Nat := (r.1, r.2.1, r.2.2.cps.toList)
def PartS (x y : Str) (e i j c : Nat) (rs : List (Nat × Nat × Str)) : Prop := Parts x.cps.toList y.cps.toList (onceX x) e i j c (rs.map partT)
section
variable {P : Program} {w : World} {K : PySem.W.Frag} {mg : Str → Option Value} {base : Heap}
/-- what cheapest walks, from the end; the parts in the order in which it finds them -/
inductive Walk (x y : Str) (es : List Nat) (e : Nat) : Nat → Nat → List (Nat × Nat × Str) → Prop
  | stop : Walk x y es e 0 0 []
  | keep {i j : Nat} {l : List (Nat × Nat × Str)} : (0 < i ∧ 0 < j ∧ x.cps.toList[i - 1]? = y.cps.toList[j - 1]? ∧ kX x y e i j = kX x y e (i - 1) (j - 1)) → Walk x y es e (i - 1) (j - 1) l → Walk x y es e i j l
  | win {i j g k : Nat} {l : List (Nat × Nat × Str)} : 0 < i ∨ 0 < j → ¬ (0 < i ∧ 0 < j ∧ x.cps.toList[i - 1]? = y.cps.toList[j - 1]? ∧ kX x y e i j = kX x y e (i - 1) (j - 1)) → WBr x y es e i j g k → Walk x y es e g k l → Walk x y es e i j ((g, i, cutS y (some (k : Int)) (some (j : Int))) :: l)
theorem lend_uniq {x : Str} {a e e' : Nat} (h : Lend x a e) (h' : Lend x a e') : e = e' := by
  have one : ∀ {e e' : Nat}, Lend x a e → Lend x a e' → ¬ e < e' := fun {e e'} h h' l => by
    have n := h'.le
    have q1 := h.once (by omega)
    have q2 := h'.twice e h.gt l (by omega)
    rw [q1] at q2
    cases q2
  have := one h h'
  have := one h' h
  omega
def spCheap : Sp := fun vs H Q _ => ∃ (x y : Str) (e : Nat), vs = [.str x, .str y, .int (e : Nat)] ∧ x.length ≤ 100 ∧ y.length ≤ 100 ∧ e ≤ 100000 ∧
  ((x.length = 0 ∧ ¬ y.length = 0) → Q .non H) ∧
  (¬ (x.length = 0 ∧ ¬ y.length = 0) → ∀ (t : Addr) (xs : List V) (rs : List (Nat × Nat × Str)) (es : List Nat) (H' : Hp), es.length = x.length → (∀ i e, es[i]? = some e → Lend x i e) → Walk x y es e x.length y.length rs.reverse → H' t = some (.tup xs) → Rw3 H' xs rs → PartS x y e 0 0 (kX x y e x.length y.length) rs → kX x y e x.length y.length < beyond x.cps.toList y.cps.toList e → rs.length ≤ x.length → Same H H' → Q (.ref t) H')
abbrev s_cheapest : Stmt := top 13
theorem sc_cheapest : FnScope ["one", "other", "each", "kept", "begun", "begins", "parts", "i", "j", "end", "last"] ["one", "other", "each"] (defScope s_cheapest) := ⟨rfl, rfl, rfl, by decide +kernel, rfl, by decide +kernel, by decide +kernel⟩
theorem b_cheapest {f : Addr} {fd : FuncData} (F : Fun K "cheapest" "cheapest" s_cheapest f fd) (T : Txt mg) (c_openings : CalG P w K mg base CX0 3 "openings" spOpen) (c_price_tables : CalG P w K mg base CX0 4 "price_tables" spPrices) (c_window_back : CalG P w K mg base CX0 1 "window_back" spWB) (c_has_exchange : CalG P w K mg base CX0 1 "has_exchange" spHas) : FnG P w K mg base CX0 5 f fd ["one", "other", "each"] spCheap := by
  refine okG0 F sc_cheapest (fun vs H Q E h => ?_) (fun cdv A outer s H vs Q E hg hr h => ?_)
  · obtain ⟨x, y, e, rfl, _⟩ := h
    rfl
  · have hu := hu_of hr
    have hu64 := hr.units
    obtain ⟨x, y, e, rfl, hx, hy, he, kN, k⟩ := h
    have xl : x.length ≤ sizeLine := Nat.le_of_lt (fewL (by omega))
    have yl : y.length ≤ sizeLine := Nat.le_of_lt (fewL (by omega))
    have lx : x.cps.toList.length = x.length := Array.length_toList
    have ly : y.cps.toList.length = y.length := Array.length_toList
    refine ⟨_, (pss_cons (ps_if (pt_not (pt_val (pe_cG c_has_exchange hg hr (by decide) pass0 (pa_cons (pv 0) (pa_cons (pv 1) pa_nil))))) (pss_one (ps_ret pe_non)) pss_nil)
      (pss_cons (ps_asg (pe_cG c_price_tables hg hr (by decide) pass0 (pa_cons (pv 0) (pa_cons (pv 1) (pa_cons (pv 2) pa_nil)))) (pg_tup rfl (pgs_cons (pg_name (i := 3) sc_cheapest.nd rfl (Or.inl rfl)) (pgs_cons (pg_name (i := 4) sc_cheapest.nd rfl (Or.inl rfl)) pgs_nil))))
      (pss_cons (ps_set (i := 5) sc_cheapest.nd rfl (Or.inl rfl) (pe_cG c_openings hg hr (by decide) pass0 (pa_cons (pv 0) pa_nil)))
      (pss_cons (ps_set (i := 6) sc_cheapest.nd rfl (Or.inl rfl) (pe_lst pa_nil))
      (pss_cons (ps_par (i := 7) (j := 8) (by rfl) sc_cheapest.nd rfl rfl (by decide) rfl rfl (pa_cons (pe_callB call_len (by rfl) T.len (by decide +kernel) (pa_cons (pv 0) pa_nil)) (pa_cons (pe_callB call_len (by rfl) T.len (by decide +kernel) (pa_cons (pv 1) pa_nil)) pa_nil)) (by rfl))
      (pss_cons (ps_while PassesOwn.never (PW.pt (pw_or (pt_cmpR op_gt (pv 7) pe_int (nomark _)) (pw_or1 (pt_cmpR op_gt (pv 8) pe_int (nomark _))))) (pss_one (ps_if (PW.pt (pw_and (pt_cmpR op_gt (pv 7) pe_int (nomark _)) (pw_and (pt_cmpR op_gt (pv 8) pe_int (nomark _)) (pw_and (pt_cmpR op_eq (pe_ix ix_str (pv 0) (pe_op op_sub (pv 7) pe_int) (fun _ _ => rfl)) (pe_ix ix_str (pv 1) (pe_op op_sub (pv 8) pe_int) (fun _ _ => rfl)) (nomark _)) (pw_and1 (pt_cmpR op_eq (pe_ix ix_list (pe_ix ix_list (pv 3) (pv 7) (fun _ _ => rfl)) (pv 8) (fun _ _ => rfl)) (pe_ix ix_list (pe_ix ix_list (pv 3) (pe_op op_sub (pv 7) pe_int) (fun _ _ => rfl)) (pe_op op_sub (pv 8) pe_int) (fun _ _ => rfl)) (nomark _))))))) (pss_one (ps_par (i := 7) (j := 8) (by rfl) sc_cheapest.nd rfl rfl (by decide) rfl rfl (pa_cons (pe_op op_sub (pv 7) pe_int) (pa_cons (pe_op op_sub (pv 8) pe_int) pa_nil)) (by rfl))) (pss_cons (ps_par (i := 9) (j := 10) (by rfl) sc_cheapest.nd rfl rfl (by decide) rfl rfl (pa_cons (pv 7) (pa_cons (pv 8) pa_nil)) (by rfl))
      (pss_cons (ps_asg (pe_cG c_window_back hg hr (by decide) pass0 (pa_cons (pv 4) (pa_cons (pv 5) (pa_cons (pv 3) (pa_cons (pv 7) (pa_cons (pv 8) (pa_cons (pv 2) pa_nil))))))) (pg_tup rfl (pgs_cons (pg_name (i := 7) sc_cheapest.nd rfl (Or.inl rfl)) (pgs_cons (pg_name (i := 8) sc_cheapest.nd rfl (Or.inl rfl)) pgs_nil))))
      (pss_one (ps_expr (pe_bm PySem.F.plainAttrs_list PySem.F.slot_list_append PySem.F.type_list_append mt_append (pv 6) (pa_cons (pe_tup (pa_cons (pv 7) (pa_cons (pv 9) (pa_cons (pe_slice sl_str (pv 1) (po_some (pv 8)) (po_some (pv 10))) pa_nil)))) pa_nil)))))))))
      (pss_one (ps_ret (pe_tupRev rfl (by rfl) T.tuple (by rfl) T.reversed (pv 6)))))))))), ?_⟩
    refine ⟨_, rfl, _, rfl, x, y, rfl, _, rfl, ?_⟩
    rw [strE_d, strE_d]
    by_cases no : x.length = 0 ∧ ¬ y.length = 0
    · rw [decide_eq_true no.1, decide_eq_false no.2]
      exact iteT (kN no)
    · replace k := k no
      rw [show (!decide (x.length = 0) || decide (y.length = 0)) = true by
        by_cases c : x.length = 0
        · have d : y.length = 0 := Decidable.byContradiction fun z => no ⟨c, z⟩
          simp [c, d]
        · simp [c]]
      refine iteF ?_
      refine ⟨_, rfl, _, rfl, _, rfl, x, y, e, rfl, hx, hy, he, fun tt ak ab H1 htt tk tb s1 => ?_⟩
      refine ⟨tt, _, rfl, SqT.of htt, rfl, _, _, rfl, _, _, rfl, rfl, ?_⟩
      refine name_go ⟨_, rfl, x, rfl, hx, fun ao es H2 hao el le op s2 => ?_⟩
      refine name_go ⟨by show 0 ≤ sizeLine; decide, fun pl hpl => ?_⟩
      have s3 := same_new (o := .lst []) hpl
      have hps : upd H2 pl (.lst []) pl = some (.lst []) := upd_same
      refine ⟨_, rfl, _, _, rfl, ⟨xl, rfl⟩, _, rfl, _, _, rfl, ⟨yl, rfl⟩, _, _, rfl, ?_⟩
      have kB : kX x y e x.length y.length < beyond x.cps.toList y.cps.toList e := by
        obtain ⟨c, hc⟩ := way_any (e := e) no
        exact Nat.lt_of_le_of_lt ((kF_least _ _).le _ hc) (way_below hc)
      have ok := onceOk_es el le
      refine ⟨fun m σ H' => ∃ (i j c : Nat) (xs : List V) (rs : List (Nat × Nat × Str)) (o9 o10 : Option V), σ = [some (.str x), some (.str y), some (.int (e : Nat)), some (.ref ak), some (.ref ab), some (.ref ao), some (.ref pl), some (.int (i : Nat)), some (.int (j : Nat)), o9, o10] ∧ H' pl = some (.lst xs) ∧ Rw3 H' xs.reverse rs ∧ PartS x y e i j c rs ∧ i ≤ x.length ∧ j ≤ y.length ∧ c + kX x y e i j = kX x y e x.length y.length ∧ rs.length + i ≤ x.length ∧ (∀ l, Walk x y es e i j l → Walk x y es e x.length y.length (rs.reverse ++ l)) ∧ Same H2 H' ∧ m = i + j, ⟨_, x.length, y.length, 0, [], [], _, _, rfl, hps, .nil, by unfold PartS; rw [← lx, ← ly]; exact .stop, Nat.le_refl _, Nat.le_refl _, Nat.zero_add _, Nat.le_of_eq (Nat.zero_add _), fun _ q => q, s3, rfl⟩, ?_⟩
      rintro m σ H4 ⟨i, j, c, xs, rs, o9, o10, rfl, hp4, rw4, pt, hi, hj, hc, hl, hw, s4, rfl⟩
      have rl := paired_len rw4
      rw [List.length_reverse] at rl
      refine or_by (p := 0 < i) (q := 0 < j) (posN rfl) (fun _ => posN rfl) ?_
      by_cases go : 0 < i ∨ 0 < j
      · rw [decide_eq_true go]
        refine iteT ⟨fun σ' H' => ∃ (i' j' c : Nat) (xs : List V) (rs : List (Nat × Nat × Str)) (o9 o10 : Option V), σ' = [some (.str x), some (.str y), some (.int (e : Nat)), some (.ref ak), some (.ref ab), some (.ref ao), some (.ref pl), some (.int (i' : Nat)), some (.int (j' : Nat)), o9, o10] ∧ H' pl = some (.lst xs) ∧ Rw3 H' xs.reverse rs ∧ PartS x y e i' j' c rs ∧ i' ≤ x.length ∧ j' ≤ y.length ∧ c + kX x y e i' j' = kX x y e x.length y.length ∧ rs.length + i' ≤ x.length ∧ (∀ l, Walk x y es e i' j' l → Walk x y es e x.length y.length (rs.reverse ++ l)) ∧ Same H2 H' ∧ i' + j' < i + j, ?_, ?_⟩
        · rintro σ' H' ⟨i', j', c, xs, rs, o9, o10, a1, a2, a3, a4, a5, a6, a7, a8, a9, a11, a10⟩
          exact ⟨_, a10, i', j', c, xs, rs, o9, o10, a1, a2, a3, a4, a5, a6, a7, a8, a9, a11, rfl⟩
        · have tk4 := (tk.keep s2).keep s4
          have tb4 := (tb.keep s2).keep s4
          have op4 := op.keep s4
          refine and_by (p := 0 < i) (q := 0 < j ∧ x.cps.toList[i - 1]? = y.cps.toList[j - 1]? ∧ kX x y e i j = kX x y e (i - 1) (j - 1)) (posN rfl) (fun ci k' q => and_by (p := 0 < j) (q := x.cps.toList[i - 1]? = y.cps.toList[j - 1]? ∧ kX x y e i j = kX x y e (i - 1) (j - 1)) (posN rfl) (fun cj k' q => and_by (p := x.cps.toList[i - 1]? = y.cps.toList[j - 1]?) (q := kX x y e i j = kX x y e (i - 1) (j - 1)) (fun k' q => ?_) (fun _ k' q => ?_) q) q) ?_
          · obtain ⟨c1, g1⟩ : ∃ c, x.cps.toList[i - 1]? = some c := ⟨x.cps.toList[i - 1]'(by omega), List.getElem?_eq_getElem (by omega)⟩
            obtain ⟨c2, g2⟩ : ∃ c, y.cps.toList[j - 1]? = some c := ⟨y.cps.toList[j - 1]'(by omega), List.getElem?_eq_getElem (by omega)⟩
            have a1 : atI x.cps.toList (((i : Nat) : Int) - 1) = some c1 := by
              rw [show ((i : Nat) : Int) - 1 = ((i - 1 : Nat) : Int) by omega]
              exact atI_nat g1
            have a2 : atI y.cps.toList (((j : Nat) : Int) - 1) = some c2 := by
              rw [show ((j : Nat) : Int) - 1 = ((j - 1 : Nat) : Int) by omega]
              exact atI_nat g2
            refine ⟨_, rfl, _, rfl, _, _, rfl, rfl, x, _, c1, rfl, rfl, xl, a1, _, rfl, _, rfl, _, _, rfl, rfl, y, _, c2, rfl, rfl, yl, a2, rfl, _, rfl, ?_⟩
            rw [show decide (V.str ⟨#[c1]⟩ = V.str ⟨#[c2]⟩) = decide (x.cps.toList[i - 1]? = y.cps.toList[j - 1]?) from decide_eq_decide.mpr ⟨fun z => by rw [g1, g2]; cases z; rfl, fun z => by rw [g1, g2] at z; cases z; rfl⟩]
            exact q
          · obtain ⟨va, ra, b1, b2, b3⟩ := tk4.row (i := i) (by omega)
            obtain ⟨vb, rb, d1, d2, d3⟩ := tk4.row (i := i - 1) (by omega)
            have at1 : atI (rowF (kX x y e) i (y.length + 1)) ((j : Nat) : Int) = some (.int (kX x y e i j : Nat)) := atI_nat (rowF_at (by omega))
            have ei : ((i : Nat) : Int) - 1 = ((i - 1 : Nat) : Int) := by omega
            have at2 : atI (vb.map V.ref) (((i : Nat) : Int) - 1) = some (.ref rb) := by rw [ei]; exact d2
            have at3 : atI (rowF (kX x y e) (i - 1) (y.length + 1)) (((j : Nat) : Int) - 1) = some (.int (kX x y e (i - 1) (j - 1) : Nat)) := by
              rw [show ((j : Nat) : Int) - 1 = ((j - 1 : Nat) : Int) by omega]
              exact atI_nat (rowF_at (by omega))
            refine ⟨_, rfl, _, rfl, ak, _, _, .ref ra, rfl, rfl, SqL.of b1, b2, _, rfl, ra, _, _, _, rfl, rfl, SqL.of b3, at1, _, rfl, _, rfl, _, _, rfl, rfl, ak, _, _, .ref rb, rfl, rfl, SqL.of d1, at2, _, rfl, _, _, rfl, rfl, rb, _, _, _, rfl, rfl, SqL.of d3, at3, rfl, _, rfl, ?_⟩
            rw [show decide (V.int ((kX x y e i j : Nat) : Int) = V.int ((kX x y e (i - 1) (j - 1) : Nat) : Int)) = decide (kX x y e i j = kX x y e (i - 1) (j - 1)) from decide_eq_decide.mpr ⟨fun z => by have := V.int.inj z; omega, fun z => congrArg V.int (by omega)⟩]
            exact q
          · by_cases t : 0 < i ∧ 0 < j ∧ x.cps.toList[i - 1]? = y.cps.toList[j - 1]? ∧ kX x y e i j = kX x y e (i - 1) (j - 1)
            · rw [decide_eq_true t]
              obtain ⟨t1, t2, t3, t4⟩ := t
              have ei : ((i : Nat) : Int) - 1 = ((i - 1 : Nat) : Int) := by omega
              have ej : ((j : Nat) : Int) - 1 = ((j - 1 : Nat) : Int) := by omega
              refine iteT ⟨_, rfl, _, _, rfl, rfl, _, rfl, _, _, rfl, rfl, _, _, rfl, ?_⟩
              refine ⟨i - 1, j - 1, c, xs, rs, _, _, by rw [← ei, ← ej]; rfl, hp4, rw4, ?_, by omega, by omega, by omega, by omega, fun l q => hw l (.keep ⟨t1, t2, t3, t4⟩ q), s4, by omega⟩
              unfold PartS at pt ⊢
              refine .keep ?_ (by omega) t3
              rw [show i - 1 + 1 = i by omega, show j - 1 + 1 = j by omega]
              exact pt
            · rw [decide_eq_false t]
              have gk : gX x y e i j = kX x y e i j := by
                have q := kF_eq (a := x.cps.toList) (b := y.cps.toList) (once := onceX x) (e := e) (i := i) (j := j) (by omega) (by omega)
                by_cases t' : 0 < i ∧ 0 < j ∧ x.cps.toList[i - 1]? = y.cps.toList[j - 1]?
                · rw [if_pos t'] at q
                  have : kX x y e i j ≠ kX x y e (i - 1) (j - 1) := fun z => t ⟨t'.1, t'.2.1, t'.2.2, z⟩
                  show gF _ _ _ _ _ _ = kF _ _ _ _ _ _
                  have q1 := Nat.min_def (m := kF x.cps.toList y.cps.toList (onceX x) e (i - 1) (j - 1)) (n := gF x.cps.toList y.cps.toList (onceX x) e i j)
                  have this : kF x.cps.toList y.cps.toList (onceX x) e i j ≠ kF x.cps.toList y.cps.toList (onceX x) e (i - 1) (j - 1) := this
                  split at q1 <;> omega
                · rw [if_neg t'] at q
                  exact q.symm
              refine iteF ⟨_, rfl, _, rfl, _, _, rfl, ?_⟩
              refine ⟨_, rfl, _, rfl, _, rfl, _, rfl, _, rfl, _, rfl, ab, ao, ak, x, y, es, e, i, j, rfl, tb4, op4, tk4, el, le, hi, hj, by omega, fun g kk tq H5 htq g1 g2 g3 g4 gw s5 => ?_⟩
              refine ⟨tq, _, rfl, SqT.of htq, rfl, _, _, rfl, _, _, rfl, rfl, ?_⟩
              have hp5 := s5 _ _ hp4
              refine ⟨_, rfl, .inl ⟨rfl, _, SqL.of hp5⟩, ?_⟩
              refine ⟨_, rfl, _, rfl, _, rfl, ?_⟩
              refine ⟨_, rfl, _, rfl, _, rfl, _, rfl, y, rfl, yl, ?_⟩
              refine ⟨by show 3 ≤ sizeLine; decide, fun u hu => ?_⟩
              have su := same_new (o := .tup [.int (g : Nat), .int (i : Nat), .str (cutS y (some (kk : Int)) (some (j : Int)))]) hu
              refine ⟨pl, _, _, rfl, rfl, su _ _ hp5, fewL (by omega), ?_⟩
              have su2 : H2 pl = none := hpl
              refine ⟨g, kk, c + e + (i - g) + (j - kk), xs ++ [.ref u], (g, i, cutS y (some (kk : Int)) (some (j : Int))) :: rs, _, _, rfl, upd_same, ?_, ?_, by omega, by omega, by omega, by show rs.length + 1 + g ≤ x.length; omega, fun l q => ?_, ?_, by omega⟩
              · have nu : ∀ t ws, upd H5 u (.tup [.int (g : Nat), .int (i : Nat), .str (cutS y (some (kk : Int)) (some (j : Int)))]) t = some (.tup ws) → upd (upd H5 u (.tup [.int (g : Nat), .int (i : Nat), .str (cutS y (some (kk : Int)) (some (j : Int)))])) pl (.lst (xs ++ [.ref u])) t = some (.tup ws) := fun t ws h => by
                  have np : t ≠ pl := fun z => by
                    rw [z, su _ _ hp5] at h
                    cases h
                  rw [upd_ne np]
                  exact h
                rw [List.reverse_append]
                exact .cons ⟨u, rfl, nu _ _ upd_same⟩ (((rw4.keep s5).keep su).keepT nu)
              · unfold PartS at pt ⊢
                have := Parts.xch (e := e) pt (show g < i from g1) (by omega) g3 g2 (by omega)
                rw [List.map_cons]
                show Parts _ _ _ _ _ _ _ ((g, i, (cutS y (some (kk : Int)) (some (j : Int))).cps.toList) :: _)
                rw [cut_mid g2 hj]
                exact this
              · rw [List.reverse_cons, List.append_assoc]
                exact hw _ (.win go t gw q)
              · exact upd_out hpl ((s4.trans s5).trans su)
      · rw [decide_eq_false go]
        have zi : i = 0 := by omega
        have zj : j = 0 := by omega
        subst zi zj
        have k0 : kX x y e 0 0 = 0 := kF_00
        refine iteF ⟨_, rfl, pl, _, rfl, SqL.of hp4, fun q hq => ?_⟩
        have sq := same_new (o := .tup xs.reverse) hq
        refine k q xs.reverse rs es _ el le (by have := hw [] .stop; rw [List.append_nil] at this; exact this) upd_same (rw4.keep sq) (by rw [← hc, k0, Nat.add_zero]; exact pt) kB (by omega) ?_
        exact (((s1.trans s2).trans s4).trans sq)
end
end Vk
set_option Elab.async false
set_option maxRecDepth 100000
set_option linter.all false
set_option maxHeartbeats 4000000
namespace Vk
open PySem PySem.Spec PyProof.Rows L2 StX
/-! ## the law's own table, from the end -/
noncomputable def bF (x y : Str) (e i j : Nat) : Nat := lstB (WayB x.cps.toList y.cps.toList (onceX x) e i j) 1000000000
/-- where windows from i end -/
def tipsL (x : Str) (i s : Nat) : List Nat := ((List.range s).map fun q => i + 1 + q).filter fun t => decide (i < t ∧ twB x i t = false)
theorem tips_snoc {x : Str} {i s : Nat} : tipsL x i (s + 1) = if i < i + 1 + s ∧ twB x i (i + 1 + s) = false then tipsL x i s ++ [i + 1 + s] else tipsL x i s := by
  unfold tipsL
  rw [List.range_succ, List.map_append, List.filter_append]
  by_cases h : i < i + 1 + s ∧ twB x i (i + 1 + s) = false
  · rw [if_pos h]
    show _ ++ List.filter _ [i + 1 + s] = _
    rw [List.filter_cons_of_pos (by rw [decide_eq_true h])]
    rfl
  · rw [if_neg h]
    show _ ++ List.filter _ [i + 1 + s] = _
    rw [List.filter_cons_of_neg (by rw [decide_eq_false h]; exact Bool.false_ne_true), List.filter_nil, List.append_nil]
theorem tips_len {x : Str} {i s : Nat} : (tipsL x i s).length ≤ s := by
  unfold tipsL
  exact Nat.le_trans (List.length_filter_le _ _) (by rw [List.length_map, List.length_range]; exact Nat.le_refl _)
theorem tips_mem {x : Str} {i t : Nat} (hi : i ≤ x.length) : t ∈ tipsL x i (x.length - i) ↔ i < t ∧ t ≤ x.length ∧ onceX x i t := by
  unfold tipsL
  rw [List.mem_filter, List.mem_map]
  constructor
  · rintro ⟨⟨q, hq, rfl⟩, h⟩
    have hq := List.mem_range.mp hq
    obtain ⟨h1, h2⟩ := of_decide_eq_true h
    exact ⟨h1, by omega, h2⟩
  · rintro ⟨h1, h2, h3⟩
    exact ⟨⟨t - (i + 1), List.mem_range.mpr (by omega), by omega⟩, decide_eq_true ⟨h1, h3⟩⟩
/-- the prices of exchanges up to the end t -/
noncomputable def rowB (x y : Str) (e i j t s : Nat) : List Int := (List.range s).map fun q => ((bF x y e t (j + q) : Nat) : Int) + (e : Nat) + (t : Nat) - (i : Nat) + ((j + q : Nat) : Int) - (j : Nat)
noncomputable def rowsB (x y : Str) (e i j : Nat) (ts : List Nat) : List Int := (ts.map fun t => rowB x y e i j t (y.length + 1 - j)).flatten
/-- one letter of each -/
theorem cut_one {x : Str} {i : Nat} : (cutS x (some (i : Int)) (some ((i : Int) + 1))).cps.toList = (x.cps.toList.drop i).take 1 := by
  have lx : x.cps.toList.length = x.length := Array.length_toList
  rw [show (i : Int) + 1 = ((i + 1 : Nat) : Int) by omega]
  by_cases h : i + 1 ≤ x.length
  · rw [cut_mid (by omega) h, show i + 1 - i = 1 by omega]
  · rw [List.drop_of_length_le (by omega)]
    unfold cutS
    rw [HT.sIx_nat, HT.sIx_nat]
    rw [List.drop_of_length_le (by omega)]
    simp
theorem one_letter {x y : Str} {i j : Nat} (hi : i < x.length) : decide (V.str (cutS x (some (i : Int)) (some ((i : Int) + 1))) = V.str (cutS y (some (j : Int)) (some ((j : Int) + 1)))) = decide (x.cps.toList[i]? = y.cps.toList[j]?) := by
  have lx : x.cps.toList.length = x.length := Array.length_toList
  have one : ∀ (l : List Nat) (i : Nat), (l.drop i).take 1 = (l[i]?).toList := fun l i => by
    rcases Nat.lt_or_ge i l.length with h | h
    · rw [List.drop_eq_getElem_cons h, List.getElem?_eq_getElem h]
      rfl
    · rw [List.drop_of_length_le h, List.getElem?_eq_none h]
      rfl
  refine decide_eq_decide.mpr ⟨fun z => ?_, fun z => ?_⟩
  · have z := congrArg (fun s : Str => s.cps.toList) (V.str.inj z)
    simp only [cut_one, one] at z
    cases h1 : x.cps.toList[i]? <;> cases h2 : y.cps.toList[j]? <;> rw [h1, h2] at z
    · cases z
    · cases z
    · cases z; rfl
  · refine congrArg V.str (str_ext ?_)
    rw [cut_one, cut_one, one, one, z]
end Vk
set_option Elab.async false
set_option maxRecDepth 100000
set_option maxHeartbeats 4000000
set_option linter.all false
namespace Vk
open PySem PySem.Spec PyProof.Rows L2
/-! ## {k: v for x in l}, l a list that stays -/
theorem call_isiK {X : Cx} {K : PySem.W.Frag} (h : X.K = K) : CallR X (.builtin "isinstance") (rIsi K) := h ▸ call_isi
end Vk
set_option Elab.async false
set_option maxRecDepth 100000
set_option linter.all false
set_option maxHeartbeats 4000000
namespace Vk
open PySem PySem.Spec PyProof.Rows L2 StX
section
variable {P : Program} {w : World} {K : PySem.W.Frag} {mg : Str → Option Value} {base : Heap}
noncomputable def bestV (x y : Str) (e : Nat) : V := if bF x y e 0 0 < 1000000000 then .int (bF x y e 0 0 : Nat) else .non
end
end Vk
set_option Elab.async false
set_option maxRecDepth 100000
set_option linter.all false
set_option maxHeartbeats 4000000
namespace Vk
open PySem PySem.Spec PyProof.Rows L2 StX
theorem parts_let {a b : List Nat} {once : Nat → Nat → Prop} {e i j c : Nat} {rs : List (Nat × Nat × List Nat)} (h : Parts a b once e i j c rs) : ∀ r ∈ rs, (∀ c ∈ r.2.2, c ∈ b) ∧ r.2.2.length ≤ b.length := by
  induction h with
  | stop => exact fun r hr => absurd hr List.not_mem_nil
  | keep _ _ _ ih => exact ih
  | xch _ _ _ _ _ _ ih =>
    intro r hr
    rcases List.mem_cons.mp hr with rfl | hr
    · refine ⟨fun c hc => List.mem_of_mem_drop (List.mem_of_mem_take hc), ?_⟩
      show (List.take _ _).length ≤ _
      rw [List.length_take, List.length_drop]
      omega
    · exact ih r hr
theorem okr_of {x : Str} {once : Nat → Nat → Prop} : ∀ {rs : List (Nat × Nat × Str)} {i : Nat}, OkP x.cps.toList once i (rs.map partT) → OkR x.length i rs ∧ ∀ r ∈ rs, once r.1 r.2.1
  | [], _, _ => ⟨trivial, fun r hr => absurd hr List.not_mem_nil⟩
  | (g, t, z) :: rs, i, ⟨h1, h2, h3, h4, h5⟩ => by
    obtain ⟨q1, q2⟩ := okr_of (rs := rs) h5
    refine ⟨⟨h1, h2, Nat.le_trans h3 (Nat.le_of_eq Array.length_toList), q1⟩, fun r hr => ?_⟩
    rcases List.mem_cons.mp hr with rfl | hr
    · exact h4
    · exact q2 r hr
theorem putH_done {x : Str} {once : Nat → Nat → Prop} : ∀ {rs : List (Nat × Nat × Str)} {p : Nat} {acc : Str}, OkP x.cps.toList once p (rs.map partT) → (putH x p rs acc).cps.toList = acc.cps.toList ++ doneP x.cps.toList p (rs.map partT)
  | [], p, acc, _ => by
    show (acc ++ cutS x (some (p : Int)) none).cps.toList = acc.cps.toList ++ x.cps.toList.drop p
    rw [app_list, cut_from]
  | (g, t, z) :: rs, p, acc, ⟨h1, h2, h3, h4, h5⟩ => by
    have lx : x.cps.toList.length = x.length := Array.length_toList
    show (putH x t rs (acc ++ cutS x (some (p : Int)) (some (g : Int)) ++ z)).cps.toList = acc.cps.toList ++ ((x.cps.toList.drop p).take (g - p) ++ z.cps.toList ++ doneP x.cps.toList t (rs.map partT))
    rw [putH_done (rs := rs) h5, app_list, app_list, cut_mid h1 (by omega), List.append_assoc, List.append_assoc, List.append_assoc]
theorem cost_sum {x : Str} {once : Nat → Nat → Prop} {e : Nat} : ∀ {rs : List (Nat × Nat × Str)} {i : Nat}, OkP x.cps.toList once i (rs.map partT) → (rs.map (costE (e : Nat))).sum = ((costP e (rs.map partT) : Nat) : Int)
  | [], _, _ => rfl
  | (g, t, z) :: rs, i, ⟨h1, h2, h3, h4, h5⟩ => by
    have lz : z.cps.toList.length = z.length := Array.length_toList
    rw [List.map_cons, List.sum_cons, cost_sum (rs := rs) h5]
    have h2 : g < t := h2
    show ((t : Int) - (g : Int) + (z.length : Nat) + (e : Nat)) + _ = (((e + (t - g) + z.cps.toList.length + costP e (rs.map partT)) : Nat) : Int)
    omega
structure Told (x y : Str) (e : Nat) (rs : List (Nat × Nat × Str)) : Prop where
  ok : OkR x.length 0 rs
  all : ∀ r ∈ rs, Ltr r.2.2 ∧ r.2.2.length ≤ y.length ∧ twB x r.1 r.2.1 = false
  put : putH x 0 rs "" = y
  cost : (rs.map (costE (e : Nat))).sum = ((kX x y e x.length y.length : Nat) : Int)
  nil : rs = [] ↔ x = y
theorem told_of {x y : Str} {e : Nat} {rs : List (Nat × Nat × Str)} (ly : Ltr y) (h : PartS x y e 0 0 (kX x y e x.length y.length) rs) : Told x y e rs := by
  have h' : Parts x.cps.toList y.cps.toList (onceX x) e 0 0 (kF x.cps.toList y.cps.toList (onceX x) e x.cps.toList.length y.cps.toList.length) (rs.map partT) := by
    rw [Array.length_toList, Array.length_toList]
    exact h
  obtain ⟨o1, o2, o3⟩ := h'.ok
  obtain ⟨q1, q2⟩ := okr_of o1
  have al := parts_let h'
  refine ⟨q1, fun r hr => ?_, ?_, ?_, ?_⟩
  · obtain ⟨a1, a2⟩ := al (partT r) (List.mem_map.mpr ⟨r, hr, rfl⟩)
    refine ⟨fun c hc => ly c (a1 c hc), ?_, q2 r hr⟩
    have e1 : r.2.2.cps.toList.length = r.2.2.length := Array.length_toList
    have e2 : y.cps.toList.length = y.length := Array.length_toList
    have a2 : r.2.2.cps.toList.length ≤ y.cps.toList.length := a2
    omega
  · refine str_ext ?_
    rw [putH_done o1, o2]
    rfl
  · rw [cost_sum o1, ← o3, Array.length_toList, Array.length_toList]
    rfl
  · have := parts_same h'
    rw [List.map_eq_nil_iff] at this
    exact this.trans ⟨fun z => str_ext z, fun z => by rw [z]⟩
theorem kX_lt {x y : Str} {e : Nat} (no : ¬ (x.length = 0 ∧ ¬ y.length = 0)) : kX x y e x.length y.length < beyond x.cps.toList y.cps.toList e ∧ WayF x.cps.toList y.cps.toList (onceX x) e x.length y.length (kX x y e x.length y.length) := by
  obtain ⟨c, hc⟩ := way_any (e := e) no
  have l := Nat.lt_of_le_of_lt ((kF_least _ _).le _ hc) (way_below hc)
  exact ⟨l, (kF_least _ _).is l⟩
end Vk
set_option Elab.async false
set_option maxRecDepth 100000
set_option maxHeartbeats 4000000
set_option linter.all false
namespace Vk
open PySem PySem.Spec PyProof.Rows L2
/-! ## != of a list and the empty list -/
def rNeNil (K : PySem.W.Frag) : R2 := fun x y H Q => ∃ a xs b, x = .ref a ∧ y = .ref b ∧ SqL K H a xs ∧ SqL K H b [] ∧ Q (.bl (!decide (xs.length = 0))) H
theorem op_neNil {X : Cx} (hu : X.A.units + 64 < cLine) : OpR X (compareOp .NotEq) (rNeNil X.K) := by
  intro pins s σ H x y v u Q I rx ry h
  obtain ⟨a, xs, b, rfl, rfl, ha, hb, q⟩ := h
  cases (show v = Value.ref a from rx)
  cases (show u = Value.ref b from ry)
  obtain ⟨us, r1, p1, _⟩ := I.list ha
  obtain ⟨ws, r2, p2, _⟩ := I.list hb
  cases r2
  cases xs with
  | nil =>
    cases r1
    exact (SeqAt.RcNeAt.lists (e := fun _ => true) p1.isList p2.isList rfl (by omega) (fun j h1 h2 => absurd h1 (by simp))) _ _ _ _ ⟨.bl false, H, I, rfl, q⟩
  | cons y ys =>
    cases r1 with
    | cons r rs => exact (SeqAt.RcNeAt.lists_lengths p1.isList p2.isList (by simp) (by omega)) _ _ _ _ ⟨.bl true, H, I, rfl, q⟩
end Vk
set_option Elab.async false
set_option maxRecDepth 100000
set_option maxHeartbeats 4000000
set_option linter.all false
namespace Vk
open PySem PySem.Spec PyProof.Rows L2
/-! ## != of a tuple and the empty tuple -/
/-! ## != of a thing on the heap and a text -/
theorem str_ne_declines_dict (b : Str) (u : Tok) (l : Addr) (es : Array DictEntry) (n : Nat) (dd : Option Addr) (sl : Array (Option Value)) :
    Meets (Builtin.«str.__ne__» ⟨[.str b u, .ref l], []⟩) (fun _ R s => s.heap.get? l = some { cls := .type "dict", dict := dd, data := .dict es n, slots := sl } ∧ R (.ok (.ret .notImplemented)) s) :=
  .of_wp fun prog w A R s h => by obtain ⟨hp, g, d, tk, os⟩ := s; obtain ⟨hl, h⟩ := h; wp_walk using AutoSeq1.wpAny_loadPart' hl, wpAny_load hl; exact ⟨_, rfl, h⟩
theorem dict_ne_declines_str (b : Str) (u : Tok) (l : Addr) (es : Array DictEntry) (n : Nat) (dd : Option Addr) (sl : Array (Option Value)) :
    Meets (Builtin.«dict.__ne__» ⟨[.ref l, .str b u], []⟩) (fun _ R s => s.heap.get? l = some { cls := .type "dict", dict := dd, data := .dict es n, slots := sl } ∧ R (.ok (.ret .notImplemented)) s) :=
  .of_wp fun prog w A R s h => by obtain ⟨hp, g, d, tk, os⟩ := s; obtain ⟨hl, h⟩ := h; have f1 := F.sub_str_dict; wp_walk using AutoSeq1.wpAny_loadPart' hl, wpAny_load hl; exact ⟨_, rfl, h⟩
theorem ne_dict_str {A : Around} {s : Shared} {l : Addr} {o : Obj} {es : Array DictEntry} {n : Nat} (b : Str) (u : Tok) (ho : s.heap.get? l = some o) (hx : o.ExactDict) (hd : o.data = .dict es n) (hu : A.units < cLine) : SeqAt.RcNeAt A s (.ref l) (.str b u) true := fun prog w E Q h => by
  obtain ⟨cls, dd, data, sl⟩ := o
  have hc : cls = .type "dict" := hx.1
  simp only at hd
  subst hc hd
  exact SeqAt.rc_ne_decline_or (k := false) ⟨_, ho, rfl⟩ (typeIs_str s b u) (by decide) F.sub_str_dict F.slot_dict_ne F.slot_str_ne_refl
    (fun _ hq => call_meets F.slot_dict_ne ⟨_, ho, rfl⟩ F.entry_dict_ne (F.args_dict_ne_2 _ _) (dict_ne_declines_str b u l es n dd sl) ⟨ho, hq⟩)
    (fun _ hq => call_meets F.slot_str_ne_refl (typeIs_str s b u) F.entry_str_ne (F.args_str_ne_2 _ _) (str_ne_declines_dict b u l es n dd sl) ⟨ho, hq⟩)
    (fun _ hq => wpAny_of_eq (rfl : isSame (.ref l) (.str b u) = pure false) hq) (.inr hu) h
/-- a thing of any kind -/
def Kind (H : Hp) (a : Addr) : Prop := (∃ xs, H a = some (.tup xs)) ∨ (∃ xs, H a = some (.lst xs)) ∨ ∃ ks, H a = some (.dK ks)
def rNeAS : R2 := fun x y H Q => ∃ z, y = .str z ∧ ((scal x (.str z) = true ∧ Q (.bl (!decide (x = .str z))) H) ∨ ∃ a, x = .ref a ∧ Kind H a ∧ Q (.bl true) H)
theorem op_neAS {X : Cx} (hu : X.A.units + 64 < cLine) : OpR X (compareOp .NotEq) rNeAS := by
  intro pins s σ H x y v u Q I rx ry h
  obtain ⟨z, rfl, ⟨h1, q⟩ | ⟨a, rfl, h1, q⟩⟩ := h
  · exact op_ne pins s σ H x (.str z) v u Q I rx ry ⟨h1, q⟩
  · cases (show v = Value.ref a from rx)
    obtain ⟨t, rfl⟩ := ry
    rcases h1 with ⟨xs, e⟩ | ⟨xs, e⟩ | ⟨ks, e⟩
    · obtain ⟨us, r1, p1, _⟩ := I.tuple (SqT.of e)
      exact (SeqAt.RcNeAt.tuple_str z t p1 (by omega)) _ _ _ _ ⟨.bl true, H, I, rfl, q⟩
    · obtain ⟨us, r1, p1, _⟩ := I.list (SqL.of e)
      exact (SeqAt.RcNeAt.list_str z t p1.isList (by omega)) _ _ _ _ ⟨.bl true, H, I, rfl, q⟩
    · obtain ⟨_, ya, va, ra, da⟩ := (show ObjOk X.prog X.w H s.heap a (.dK ks) from I.hok a _ e)
      obtain ⟨o, es, n, ho, hx, hd, _⟩ := da
      exact (ne_dict_str z t ho hx hd (by omega)) _ _ _ _ ⟨.bl true, H, I, rfl, q⟩
/-! ## numbers that may be bools -/
def ivB (b : Bool) : Int := if b = true then 1 else 0
inductive NumV : V → Int → Prop
  | int (i : Int) : NumV (.int i) i
  | bl (b : Bool) : NumV (.bl b) (ivB b)
end Vk
set_option Elab.async false
set_option maxRecDepth 100000
set_option linter.all false
set_option maxHeartbeats 4000000
namespace Vk
open PySem PySem.Spec PyProof.Rows L2
/-! ## values of any depth -/
inductive IsV (H : Hp) (B : Nat) : Nat → V → Prop
  | non {d : Nat} : IsV H B d .non
  | bl {d : Nat} (b : Bool) : IsV H B d (.bl b)
  | int {d : Nat} (i : Int) : (B ≤ 4000 → i.natAbs ≤ 1000000 + B) → IsV H B d (.int i)
  | str {d : Nat} (z : Str) : z.length ≤ B → IsV H B d (.str z)
  | lst {d : Nat} {t : Addr} {xs : List V} : H t = some (.lst xs) → IsV H B d (.ref t)
  | dct {d : Nat} {t : Addr} {ks : List (Key × V)} : H t = some (.dK ks) → IsV H B d (.ref t)
  | nil {d : Nat} {t : Addr} : H t = some (.tup []) → IsV H B d (.ref t)
  | tup {d : Nat} {t : Addr} {xs : List V} : H t = some (.tup xs) → xs.length ≤ B → (∀ x ∈ xs, IsV H B d x) → IsV H B (d + 1) (.ref t)
/-- what a thing is stays -/
structure Kp (H H1 : Hp) : Prop where
  tup : ∀ t xs, H t = some (.tup xs) → H1 t = some (.tup xs)
  lst : ∀ t xs, H t = some (.lst xs) → ∃ ys, H1 t = some (.lst ys)
  dct : ∀ t ks, H t = some (.dK ks) → ∃ ls, H1 t = some (.dK ls)
theorem Kp.same {H H1 : Hp} (s : Same H H1) : Kp H H1 := ⟨fun t xs h => s _ _ h, fun t xs h => ⟨xs, s _ _ h⟩, fun t ks h => ⟨ks, s _ _ h⟩⟩
theorem Kp.rfl {H : Hp} : Kp H H := .same Same.rfl
theorem Kp.trans {H H1 H2 : Hp} (a : Kp H H1) (b : Kp H1 H2) : Kp H H2 := ⟨fun t xs h => b.tup _ _ (a.tup _ _ h), fun t xs h => by
  obtain ⟨ys, e⟩ := a.lst _ _ h
  exact b.lst _ _ e, fun t ks h => by
  obtain ⟨ys, e⟩ := a.dct _ _ h
  exact b.dct _ _ e⟩
theorem Kp.pen {H H1 : Hp} {p c : Addr} {T U : Nat} (P : Pen H p c T) (x : Ext p H H1) (P1 : Pen H1 p c U) : Kp H H1 := by
  obtain ⟨t0, l0, e0⟩ := P.is
  obtain ⟨t1, l1, e1⟩ := P1.is
  refine ⟨fun t xs h => x _ _ h fun z => ?_, fun t xs h => ⟨xs, x _ _ h fun z => ?_⟩, fun t ks h => ?_⟩
  · rw [z, e0] at h; cases h
  · rw [z, e0] at h; cases h
  · by_cases z : t = p
    · subst z
      exact ⟨_, e1⟩
    · exact ⟨ks, x _ _ h z⟩
theorem IsV.keep {H H1 : Hp} {B d : Nat} {v : V} (h : IsV H B d v) (k : Kp H H1) : IsV H1 B d v := by
  induction h with
  | non => exact .non
  | bl b => exact .bl b
  | int i h => exact .int i h
  | str z h => exact .str z h
  | lst e => exact .lst (k.lst _ _ e).choose_spec
  | dct e => exact .dct (k.dct _ _ e).choose_spec
  | nil e => exact .nil (k.tup _ _ e)
  | tup e l _ ih => exact .tup (k.tup _ _ e) l ih
theorem IsV.mono {H : Hp} {B C d : Nat} {v : V} (h : IsV H B d v) (k : B ≤ C) : IsV H C d v := by
  induction h with
  | non => exact .non
  | bl b => exact .bl b
  | int i h => exact .int i fun q => Nat.le_trans (h (Nat.le_trans k q)) (by omega)
  | str z h => exact .str z (by omega)
  | lst e => exact .lst e
  | dct e => exact .dct e
  | nil e => exact .nil e
  | tup e l _ ih => exact .tup e (by omega) ih
theorem IsV.deep {H : Hp} {B d : Nat} {v : V} (h : IsV H B d v) : IsV H B (d + 1) v := by
  induction h with
  | non => exact .non
  | bl b => exact .bl b
  | int i h => exact .int i h
  | str z h => exact .str z h
  | lst e => exact .lst e
  | dct e => exact .dct e
  | nil e => exact .nil e
  | tup e l _ ih => exact .tup e l ih
def TupV (H : Hp) (v : V) (xs : List V) : Prop := ∃ t, v = .ref t ∧ H t = some (.tup xs)
theorem TupV.inj {H : Hp} {v : V} {xs ys : List V} (a : TupV H v xs) (b : TupV H v ys) : xs = ys := by
  obtain ⟨t, rfl, h⟩ := a
  obtain ⟨t2, e, h2⟩ := b
  cases e
  rw [h] at h2
  cases h2
  rfl
theorem TupV.keep {H H1 : Hp} {v : V} {xs : List V} (a : TupV H v xs) (k : Kp H H1) : TupV H1 v xs := by
  obtain ⟨t, rfl, h⟩ := a
  exact ⟨t, rfl, k.tup _ _ h⟩
theorem IsV.items {H : Hp} {B d : Nat} {v : V} {xs : List V} (h : IsV H B (d + 1) v) (t : TupV H v xs) : ∀ x ∈ xs, IsV H B d x := by
  obtain ⟨t, rfl, ht⟩ := t
  cases h with
  | lst e => rw [e] at ht; cases ht
  | dct e => rw [e] at ht; cases ht
  | nil e => rw [e] at ht; cases ht; exact fun x hx => absurd hx List.not_mem_nil
  | tup e l q => rw [e] at ht; cases ht; exact q
theorem IsV.len {H : Hp} {B d : Nat} {v : V} {xs : List V} (h : IsV H B d v) (t : TupV H v xs) : xs.length ≤ B := by
  obtain ⟨t, rfl, ht⟩ := t
  cases h with
  | lst e => rw [e] at ht; cases ht
  | dct e => rw [e] at ht; cases ht
  | nil e => rw [e] at ht; cases ht; exact Nat.zero_le _
  | tup e l q => rw [e] at ht; cases ht; exact l
theorem IsV.back {H H1 : Hp} {B d : Nat} {v : V} {xs : List V} (h : IsV H B d v) (k : Kp H H1) (t : TupV H1 v xs) : TupV H v xs := by
  obtain ⟨t, rfl, ht⟩ := t
  cases h with
  | lst e =>
    obtain ⟨ys, e2⟩ := k.lst _ _ e
    rw [e2] at ht; cases ht
  | dct e =>
    obtain ⟨ys, e2⟩ := k.dct _ _ e
    rw [e2] at ht; cases ht
  | nil e => exact ⟨_, rfl, by rw [← ht, k.tup _ _ e]; exact e⟩
  | tup e l q => exact ⟨_, rfl, by rw [← ht, k.tup _ _ e]; exact e⟩
/-- what isinstance asks -/
theorem kit_any {K : PySem.W.Frag} {H : Hp} {B d : Nat} {v : V} (h : IsV H B d v) : ∃ ty, TyX K H v ty ∧ (∃ b, PySem.W.kitOne K ty (.type "tuple") = some b ∧ (b = true → ∃ xs, TupV H v xs) ∧ (b = false → ∀ xs, ¬ TupV H v xs)) ∧
    (∃ b, PySem.W.kitOne K ty (.type "int") = some b ∧ (b = true → ∃ i, NumV v i) ∧ (b = false → ∀ i, v ≠ .int i)) ∧ (∃ b, PySem.W.kitOne K ty (.type "bool") = some b ∧ (b = true → ∀ i, v ≠ .int i) ∧ (b = false → ∀ j, NumV v j → v = .int j)) ∧
    (∃ b, PySem.W.kitOne K ty (.type "str") = some b ∧ (b = true → ∃ z, v = .str z) ∧ (b = false → ∀ z, v ≠ .str z)) := by
  have nt : ∀ {v : V}, (∀ t, v ≠ .ref t) → ∀ xs, ¬ TupV H v xs := fun n xs ⟨t, e, _⟩ => n t e
  have nl : ∀ {t : Addr} {o : HO}, H t = some o → (∀ xs, o ≠ .tup xs) → ∀ xs, ¬ TupV H (.ref t) xs := fun e n xs ⟨t, e1, e2⟩ => by
    cases e1
    rw [e] at e2
    cases e2
    exact n _ rfl
  cases h with
  | non => exact ⟨.type "NoneType", .base .non, ⟨false, kit_ty (by decide +kernel), nofun, fun _ => nt nofun⟩, ⟨false, kit_ty (by decide +kernel), nofun, fun _ => nofun⟩, ⟨false, kit_ty (by decide +kernel), nofun, fun _ j n => by cases n⟩, ⟨false, kit_ty (by decide +kernel), nofun, fun _ => nofun⟩⟩
  | bl b => exact ⟨.type "bool", .base (.bl b), ⟨false, kit_ty (by decide +kernel), nofun, fun _ => nt nofun⟩, ⟨true, kit_ty (by decide +kernel), fun _ => ⟨_, .bl b⟩, nofun⟩, ⟨true, kit_ty (by decide +kernel), fun _ => nofun, nofun⟩, ⟨false, kit_ty (by decide +kernel), nofun, fun _ => nofun⟩⟩
  | int i => exact ⟨.type "int", .base (.int i), ⟨false, kit_ty (by decide +kernel), nofun, fun _ => nt nofun⟩, ⟨true, kit_ty (by decide +kernel), fun _ => ⟨_, .int i⟩, nofun⟩, ⟨false, kit_ty (by decide +kernel), nofun, fun _ j n => by cases n; rfl⟩, ⟨false, kit_ty (by decide +kernel), nofun, fun _ => nofun⟩⟩
  | str z => exact ⟨.type "str", .base (.str z), ⟨false, kit_ty (by decide +kernel), nofun, fun _ => nt nofun⟩, ⟨false, kit_ty (by decide +kernel), nofun, fun _ => nofun⟩, ⟨false, kit_ty (by decide +kernel), nofun, fun _ j n => by cases n⟩, ⟨true, kit_ty (by decide +kernel), fun _ => ⟨_, rfl⟩, nofun⟩⟩
  | lst e => exact ⟨.type "list", .base (.lst e), ⟨false, kit_ty (by decide +kernel), nofun, fun _ => nl e nofun⟩, ⟨false, kit_ty (by decide +kernel), nofun, fun _ => nofun⟩, ⟨false, kit_ty (by decide +kernel), nofun, fun _ j n => by cases n⟩, ⟨false, kit_ty (by decide +kernel), nofun, fun _ => nofun⟩⟩
  | dct e => exact ⟨.type "dict", .base (.dK e), ⟨false, kit_ty (by decide +kernel), nofun, fun _ => nl e nofun⟩, ⟨false, kit_ty (by decide +kernel), nofun, fun _ => nofun⟩, ⟨false, kit_ty (by decide +kernel), nofun, fun _ j n => by cases n⟩, ⟨false, kit_ty (by decide +kernel), nofun, fun _ => nofun⟩⟩
  | nil e => exact ⟨.type "tuple", .base (.tup e), ⟨true, kit_ty (by decide +kernel), fun _ => ⟨_, _, rfl, e⟩, nofun⟩, ⟨false, kit_ty (by decide +kernel), nofun, fun _ => nofun⟩, ⟨false, kit_ty (by decide +kernel), nofun, fun _ j n => by cases n⟩, ⟨false, kit_ty (by decide +kernel), nofun, fun _ => nofun⟩⟩
  | tup e => exact ⟨.type "tuple", .base (.tup e), ⟨true, kit_ty (by decide +kernel), fun _ => ⟨_, _, rfl, e⟩, nofun⟩, ⟨false, kit_ty (by decide +kernel), nofun, fun _ => nofun⟩, ⟨false, kit_ty (by decide +kernel), nofun, fun _ j n => by cases n⟩, ⟨false, kit_ty (by decide +kernel), nofun, fun _ => nofun⟩⟩
theorem IsV.ne_str {H : Hp} {B d : Nat} {v : V} (h : IsV H B d v) (z : Str) : (scal v (.str z) = true) ∨ ∃ a, v = .ref a ∧ Kind H a := by
  cases h with
  | lst e => exact .inr ⟨_, rfl, .inr (.inl ⟨_, e⟩)⟩
  | dct e => exact .inr ⟨_, rfl, .inr (.inr ⟨_, e⟩)⟩
  | nil e => exact .inr ⟨_, rfl, .inl ⟨_, e⟩⟩
  | tup e _ _ => exact .inr ⟨_, rfl, .inl ⟨_, e⟩⟩
  | _ => exact .inl rfl
/-! ## grids -/
def RowI (H : Hp) (m : Nat) (v : V) (c : List Int) : Prop := TupV H v (c.map V.int) ∧ c.length = m
def GridL (H : Hp) (n m : Nat) (v : V) (L : List (List Int)) : Prop := ∃ rows, TupV H v rows ∧ Paired (RowI H m) rows L ∧ L.length = n
theorem GridL.keep {H H1 : Hp} {n m : Nat} {v : V} {L : List (List Int)} (h : GridL H n m v L) (k : Kp H H1) : GridL H1 n m v L := by
  obtain ⟨rows, h1, h2, h3⟩ := h
  exact ⟨rows, h1.keep k, pair_mono (fun a b q => ⟨q.1.keep k, q.2⟩) h2, h3⟩
theorem map_int_inj {a b : List Int} (h : a.map V.int = b.map V.int) : a = b := List.map_inj_right (fun x y e => V.int.inj e) |>.mp h
theorem RowI.inj {H : Hp} {m : Nat} {v : V} {c d : List Int} (a : RowI H m v c) (b : RowI H m v d) : c = d := map_int_inj (a.1.inj b.1)
theorem GridL.inj {H : Hp} {n m : Nat} {v : V} {L M : List (List Int)} (a : GridL H n m v L) (b : GridL H n m v M) : L = M := by
  obtain ⟨r1, h1, h2, l1⟩ := a
  obtain ⟨r2, g1, g2, l2⟩ := b
  cases h1.inj g1
  clear h1 g1 l1 l2
  induction h2 generalizing M with
  | nil => cases g2; rfl
  | cons a _ ih =>
    cases g2 with
    | cons b t => rw [a.inj b, ih t]
theorem pair_back {H H1 : Hp} {B m : Nat} (k : Kp H H1) : ∀ {rows : List V} {L : List (List Int)}, Paired (RowI H1 m) rows L → (∀ r ∈ rows, IsV H B 1 r) → Paired (RowI H m) rows L
  | _, _, .nil, _ => .nil
  | _, _, .cons a t, h => .cons ⟨(h _ List.mem_cons_self).back k a.1, a.2⟩ (pair_back k t fun r hr => h r (List.mem_cons_of_mem _ hr))
theorem GridL.back {H H1 : Hp} {B n m : Nat} {v : V} {L : List (List Int)} (h : IsV H B 2 v) (k : Kp H H1) (g : GridL H1 n m v L) : GridL H n m v L := by
  obtain ⟨rows, h1, h2, h3⟩ := g
  have h4 := h.back k h1
  exact ⟨rows, h4, pair_back k h2 (h.items h4), h3⟩
def ent (L : List (List Int)) (i j : Nat) : Int := ((L[i]?).getD [])[j]?.getD 0
theorem Th.isV {H : Hp} {v : V} {d : PyData} (h : Th H v d) (o : okC d = true) : IsV H 5000 1 v := by
  have q := okC_srt o
  have el := okC_el o
  have ln := okC_len o
  have at0 : ∀ {v d}, Atm v d → Srt d → ∀ e, IsV H 5000 e v := fun a s e => by
    cases a with
    | non => exact .non
    | bl b => exact .bl b
    | int i => exact .int i fun z => absurd z (by decide)
    | str z => exact .str z (Nat.le_trans s.1 (by decide))
  cases h with
  | atm a => exact at0 a q 1
  | lst e _ _ => exact .lst e
  | dct e => exact .dct e
  | @tup a xs ds e pr =>
    refine .tup e (by rw [paired_len pr]; exact Nat.le_trans (ln _ rfl) (by decide)) fun x hx => ?_
    obtain ⟨y, hy, ax⟩ := paired_mem pr hx
    exact at0 ax (el _ rfl y hy) 0
end Vk
set_option Elab.async false
set_option maxRecDepth 100000
set_option linter.all false
set_option maxHeartbeats 4000000
namespace Vk
open PySem PySem.Spec PyProof.Rows L2
def isIntV : V → Bool
  | .int _ => true
  | _ => false
theorem isIntV_ne {v : V} (h : ∀ i, v ≠ .int i) : isIntV v = false := by
  cases v with
  | int i => exact absurd rfl (h i)
  | _ => rfl
theorem take_snoc {α : Type} {xs : List α} {i : Nat} {v : α} (h : xs[i]? = some v) : xs.take (i + 1) = xs.take i ++ [v] := by
  rw [List.take_add_one, h]
  rfl
theorem all_int : ∀ {xs : List V}, (xs.map isIntV).all id = true → ∃ c : List Int, xs = c.map V.int
  | [], _ => ⟨[], rfl⟩
  | v :: xs, h => by
    rw [List.map_cons, List.all_cons, Bool.and_eq_true] at h
    obtain ⟨c, rfl⟩ := all_int h.2
    cases v with
    | int i => exact ⟨i :: c, rfl⟩
    | _ => cases h.1
theorem int_all {c : List Int} : ((c.map V.int).map isIntV).all id = true := by
  rw [List.map_map, List.all_eq_true]
  intro b hb
  obtain ⟨i, _, rfl⟩ := List.mem_map.mp hb
  rfl
theorem filt_all : ∀ {xs : List V}, xs.filter (fun v => !isIntV v) = [] ↔ (xs.map isIntV).all id = true
  | [] => by simp
  | v :: xs => by
    rw [List.filter_cons, List.map_cons, List.all_cons, Bool.and_eq_true, ← filt_all]
    cases isIntV v <;> simp
section
variable {P : Program} {w : World} {K : PySem.W.Frag} {mg : Str → Option Value} {base : Heap}
def spIsIntV : Sp := fun vs H Q _ => ∃ v B d, vs = [v] ∧ IsV H B d v ∧ Q (.bl (isIntV v)) H
theorem b_is_integerV {f : Addr} {fd : FuncData} (F : Fun K "is_integer" "is_integer" s_is_integer f fd) (T : Txt mg) : FnG P w K mg base CX0 1 f fd ["value"] spIsIntV := by
  refine okG0 F sc_is_integer (fun vs H Q E h => ?_) (fun cdv A outer s H vs Q E hg hr h => ?_)
  · obtain ⟨v, B, d, rfl, _⟩ := h
    rfl
  · have hu := hu_of hr
    have hu64 := hr.units
    obtain ⟨v, B, d, rfl, iv, k⟩ := h
    obtain ⟨ty, tyx, _, ⟨bi, ki, i1, i0⟩, ⟨bb, kb, b1, b0⟩, _⟩ := kit_any (K := K) iv
    refine ⟨_, (pss_one (ps_ret (pe_and (pe_callB call_isi (by rfl) T.isinstance (by decide +kernel) (pa_cons (pv 0) (pa_cons (pe_bltn (v := .ty "int") (by rfl) T.int rfl rfl) pa_nil))) (pe_one (pe_not (pe_callB call_isi (by rfl) T.isinstance (by decide +kernel) (pa_cons (pv 0) (pa_cons (pe_bltn (v := .ty "bool") (by rfl) T.bool rfl rfl) pa_nil)))))))), ?_⟩
    refine ⟨_, rfl, v, .ty "int", ty, .type "int", bi, rfl, .ty "int", tyx, ki, _, rfl, ?_⟩
    cases bi with
    | false =>
      rw [isIntV_ne (i0 rfl)] at k
      exact iteF k
    | true =>
      refine iteT ⟨_, rfl, v, .ty "bool", ty, .type "bool", bb, rfl, .ty "bool", tyx, kb, _, rfl, ?_⟩
      cases bb with
      | true =>
        rw [isIntV_ne (b1 rfl)] at k
        exact k
      | false =>
        obtain ⟨i, n⟩ := i1 rfl
        cases b0 rfl i n
        exact k
def spGridG : Sp := fun vs H Q _ => ∃ (v : V) (x y : Str) (B : Nat), vs = [v, .int ((x.length : Nat) + 1), .int ((y.length : Nat) + 1)] ∧ IsV H B 2 v ∧ B ≤ 5000 ∧ ∀ b H', Same H H' → (b = true ↔ ∃ L, GridL H (x.length + 1) (y.length + 1) v L) → Q (.bl b) H'
/-- a grid row by row -/
theorem grid_no {H : Hp} {n m : Nat} {v : V} {rows : List V} {i : Nat} {r : V} (t : TupV H v rows) (e : rows[i]? = some r) (h : ∀ c, ¬ RowI H m r c) : ¬ ∃ L, GridL H n m v L := by
  rintro ⟨L, rows2, h1, h2, _⟩
  cases t.inj h1
  obtain ⟨c, _, hc⟩ := paired_at h2 e
  exact h c hc
abbrev s_is_grid : Stmt := top 2
theorem sc_is_grid : FnScope ["value", "height", "width", "row", "entry"] ["value", "height", "width"] (defScope s_is_grid) := ⟨rfl, rfl, rfl, by decide +kernel, rfl, by decide +kernel, by decide +kernel⟩
theorem b_is_grid {f : Addr} {fd : FuncData} (F : Fun K "is_grid" "is_grid" s_is_grid f fd) (T : Txt mg) (c_is_integer : CalG P w K mg base CX0 1 "is_integer" spIsIntV) : FnG P w K mg base CX0 2 f fd ["value", "height", "width"] spGridG := by
  refine okG0 F sc_is_grid (fun vs H Q E h => ?_) (fun cdv A outer s H vs Q E hg hr h => ?_)
  · obtain ⟨v, x, y, B, rfl, _⟩ := h
    rfl
  · have hu := hu_of hr
    have hu64 := hr.units
    obtain ⟨v, x, y, B, rfl, iv, hB, k⟩ := h
    obtain ⟨ty, tyx, ⟨bt, kt, ht1, ht0⟩, _⟩ := kit_any (K := K) iv
    refine ⟨_, (pss_cons (ps_if (PW.pt (pw_or (pt_not (pt_val (pe_callB call_isi (by rfl) T.isinstance (by decide +kernel) (pa_cons (pv 0) (pa_cons (pe_bltn (v := .ty "tuple") (by rfl) T.tuple rfl rfl) pa_nil))))) (pw_or1 (pt_cmpR op_ne (pe_callB call_len (by rfl) T.len (by decide +kernel) (pa_cons (pv 0) pa_nil)) (pv 1) (nomark _))))) (pss_one (ps_ret pe_bl)) pss_nil)
      (pss_cons (ps_for PassesOwn.never rfl (pi_tup (pv 0)) (pg_name (i := 3) sc_is_grid.nd rfl (Or.inl rfl)) (pss_one (ps_if (PW.pt (pw_or (pt_not (pt_val (pe_callB call_isi (by rfl) T.isinstance (by decide +kernel) (pa_cons (pv 3) (pa_cons (pe_bltn (v := .ty "tuple") (by rfl) T.tuple rfl rfl) pa_nil))))) (pw_or (pt_cmpR op_ne (pe_callB call_len (by rfl) T.len (by decide +kernel) (pa_cons (pv 3) pa_nil)) (pv 2) (nomark _)) (pw_or1 (pt_not (pt_val (pe_callB (cr_all rfl) (by rfl) T.all (by decide +kernel) (pa_cons (pe_lc (own := [("entry", 4)]) (g := gName 4) (tt := tYes) rfl sc_is_grid.nd (pi_tup (pv 3)) (blkOk_by (own := [("entry", 4)]) (N := ["value", "height", "width", "row", "entry"]) (sc := defScope s_is_grid) (by decide +kernel)) (fun _ _ _ _ _ => (pg_name (i := 4) sc_is_grid.nd rfl (Or.inl rfl))) (fun _ _ _ _ _ => pts_nil) (fun _ _ _ _ _ => (pe_cG c_is_integer hg hr (by decide) pass0 (pa_cons (pv 4) pa_nil)))) pa_nil)))))))) (pss_one (ps_ret pe_bl)) pss_nil)))
      (pss_one (ps_ret pe_bl)))), ?_⟩
    refine ⟨_, rfl, v, .ty "tuple", ty, .type "tuple", bt, rfl, .ty "tuple", tyx, kt, ?_⟩
    cases bt with
    | false => exact ⟨false, rfl, iteT (k false H Same.rfl ⟨nofun, fun ⟨L, rows, h, _⟩ => absurd h (ht0 rfl _)⟩)⟩
    | true =>
      obtain ⟨rows, g, rfl, hg1⟩ := ht1 rfl
      have tv : TupV H (.ref g) rows := ⟨g, rfl, hg1⟩
      refine ⟨true, rfl, iteF ?_⟩
      refine ⟨_, rfl, _, _, rfl, .inr ⟨_, SqT.of hg1, rfl⟩, _, rfl, rfl, _, rfl, ?_⟩
      by_cases c1 : rows.length = x.length + 1
      · rw [show decide (V.int ((rows.length : Nat) : Int) = V.int ((x.length : Nat) + 1)) = true from decide_eq_true (by rw [c1]; rfl)]
        refine iteF ?_
        refine ⟨_, rfl, g, rfl, ⟨_, SqT.of hg1⟩, ?_⟩
        refine for_tup (xs := rows) (fun i σ H' => ∃ o3 o4 L, σ = [some (.ref g), some (.int ((x.length : Nat) + 1)), some (.int ((y.length : Nat) + 1)), o3, o4] ∧ Same H H' ∧ Paired (RowI H (y.length + 1)) (rows.take i) L) ?_ ?_ ?_ ?_
        · exact ⟨_, _, [], rfl, fun _ _ h => h, .nil⟩
        · rintro i σ H' _ ⟨o3, o4, L, rfl, s1, _⟩
          exact SqT.of (s1 _ _ hg1)
        · rintro i r σ H1 hv ⟨o3, o4, L, rfl, s1, pr⟩
          have ir := iv.items tv r (List.mem_of_getElem? hv)
          have ir1 := ir.keep (.same s1)
          obtain ⟨ty2, tyx2, ⟨b2, kt2, h21, h20⟩, _⟩ := kit_any (K := K) ir1
          refine ⟨_, rfl, r, .ty "tuple", ty2, .type "tuple", b2, rfl, .ty "tuple", tyx2, kt2, ?_⟩
          cases b2 with
          | false => exact ⟨false, rfl, iteT (k false H1 s1 ⟨nofun, fun h => absurd h (grid_no tv hv fun c hc => h20 rfl _ (hc.1.keep (.same s1)))⟩)⟩
          | true =>
            obtain ⟨cs, t, rfl, ht2⟩ := h21 rfl
            obtain ⟨_, e, ht⟩ := ir.back (.same s1) ⟨t, rfl, ht2⟩
            cases e
            have tr : TupV H (.ref t) cs := ⟨t, rfl, ht⟩
            refine ⟨true, rfl, iteF ?_⟩
            refine ⟨_, rfl, _, _, rfl, .inr ⟨_, SqT.of ht2, rfl⟩, _, rfl, rfl, _, rfl, ?_⟩
            by_cases c2 : cs.length = y.length + 1
            · rw [show decide (V.int ((cs.length : Nat) : Int) = V.int ((y.length : Nat) + 1)) = true from decide_eq_true (by rw [c2]; rfl)]
              refine iteF ?_
              refine ⟨_, rfl, t, rfl, ⟨_, SqT.of ht2⟩, fun D hD => ?_⟩
              have sD := same_new (o := .lst []) hD
              have cl : cs.length ≤ 5000 := Nat.le_trans (ir.len tr) hB
              refine lc_tup (K := K) (a := t) (xs := cs) (fun i H' => H' D = some (.lst (((cs.take i).map isIntV).map V.bl)) ∧ Same H1 H') ?_ ?_ ?_ ?_
              · exact ⟨upd_same, sD⟩
              · rintro i H' _ ⟨_, s2⟩
                exact SqT.of (s2 _ _ ht2)
              · rintro j v H2 hv2 ⟨hD2, s2⟩
                have lj := (List.getElem?_eq_some_iff.mp hv2).1
                refine ⟨rfl, _, rfl, _, B, 0, rfl, (ir.items tr v (List.mem_of_getElem? hv2)).keep (.same (s1.trans s2)), _, hD2, fewL (by rw [List.length_map, List.length_map, List.length_take]; omega), ?_, upd_out hD s2⟩
                rw [upd_same, take_snoc hv2, List.map_append, List.map_append]
                rfl
              · rintro H2 ⟨hD2, s2⟩
                rw [List.take_length] at hD2
                refine ⟨D, _, rfl, SqL.of hD2, ?_⟩
                cases e : (cs.map isIntV).all id with
                | false => exact ⟨false, rfl, iteT (k false H2 (s1.trans s2) ⟨nofun, fun h => absurd h (grid_no tv hv fun c hc => by
                    cases tr.inj hc.1
                    rw [int_all] at e
                    cases e)⟩)⟩
                | true =>
                  obtain ⟨c, rfl⟩ := all_int e
                  exact ⟨true, rfl, iteF ⟨_, _, L ++ [c], rfl, s1.trans s2, by rw [take_snoc hv]; exact pr.snoc ⟨tr, by rw [← c2, List.length_map]⟩⟩⟩
            · rw [show decide (V.int ((cs.length : Nat) : Int) = V.int ((y.length : Nat) + 1)) = false from decide_eq_false fun z => c2 (by have := V.int.inj z; omega)]
              exact iteT (k false H1 s1 ⟨nofun, fun h => absurd h (grid_no tv hv fun c hc => by
                cases tr.inj hc.1
                exact c2 (by rw [List.length_map]; exact hc.2))⟩)
        · rintro σ H1 ⟨o3, o4, L, rfl, s1, pr⟩
          rw [List.take_length] at pr
          exact k true H1 s1 ⟨fun _ => ⟨L, rows, tv, pr, by rw [← paired_len pr]; exact c1⟩, fun _ => rfl⟩
      · rw [show decide (V.int ((rows.length : Nat) : Int) = V.int ((x.length : Nat) + 1)) = false from decide_eq_false fun z => c1 (by have := V.int.inj z; omega)]
        exact iteT (k false H Same.rfl ⟨nofun, fun ⟨L, rows2, h1, h2, h3⟩ => absurd (by cases tv.inj h1; rw [paired_len h2]; exact h3) c1⟩)
abbrev s_lnis_grid : Stmt := top 28
theorem sc_lnis_grid : FnScope ["_law_thing", "_law_size", "_law_many", "_law_row", "_law_item"] ["_law_thing", "_law_size", "_law_many"] (defScope s_lnis_grid) := ⟨rfl, rfl, rfl, by decide +kernel, rfl, by decide +kernel, by decide +kernel⟩
theorem b_lnis_grid {f : Addr} {fd : FuncData} (F : Fun K "_law_nis_grid" "_law_nis_grid" s_lnis_grid f fd) (T : Txt mg) : FnG P w K mg base CX0 1 f fd ["_law_thing", "_law_size", "_law_many"] spGridG := by
  refine okG0 F sc_lnis_grid (fun vs H Q E h => ?_) (fun cdv A outer s H vs Q E hg hr h => ?_)
  · obtain ⟨v, x, y, B, rfl, _⟩ := h
    rfl
  · have hu := hu_of hr
    have hu64 := hr.units
    obtain ⟨v, x, y, B, rfl, iv, hB, k⟩ := h
    obtain ⟨ty, tyx, ⟨bt, kt, ht1, ht0⟩, _⟩ := kit_any (K := K) iv
    refine ⟨_, (pss_cons (ps_if (PW.pt (pw_or (pt_not (pt_val (pe_callB call_isi (by rfl) T.isinstance (by decide +kernel) (pa_cons (pv 0) (pa_cons (pe_bltn (v := .ty "tuple") (by rfl) T.tuple rfl rfl) pa_nil))))) (pw_or1 (pt_cmpR op_ne (pe_callB call_len (by rfl) T.len (by decide +kernel) (pa_cons (pv 0) pa_nil)) (pv 1) (nomark _))))) (pss_one (ps_ret pe_bl)) pss_nil)
      (pss_cons (ps_for PassesOwn.never rfl (pi_tup (pv 0)) (pg_name (i := 3) sc_lnis_grid.nd rfl (Or.inl rfl)) (pss_cons (ps_if (PW.pt (pw_or (pt_not (pt_val (pe_callB call_isi (by rfl) T.isinstance (by decide +kernel) (pa_cons (pv 3) (pa_cons (pe_bltn (v := .ty "tuple") (by rfl) T.tuple rfl rfl) pa_nil))))) (pw_or1 (pt_cmpR op_ne (pe_callB call_len (by rfl) T.len (by decide +kernel) (pa_cons (pv 3) pa_nil)) (pv 2) (nomark _))))) (pss_one (ps_ret pe_bl)) pss_nil)
      (pss_one (ps_if (pt_cmpR (op_neNil hu64) (pe_lc (own := [("_law_item", 4)]) (g := gName 4) rfl sc_lnis_grid.nd (pi_tup (pv 3)) (blkOk_by (own := [("_law_item", 4)]) (N := ["_law_thing", "_law_size", "_law_many", "_law_row", "_law_item"]) (sc := defScope s_lnis_grid) (by decide +kernel)) (fun _ _ _ _ _ => (pg_name (i := 4) sc_lnis_grid.nd rfl (Or.inl rfl))) (fun _ _ _ _ _ => (pts_one (PW.pt (pw_or (pt_not (pt_val (pe_callB (call_isiK (K := K) rfl) (by rfl) T.isinstance (by decide +kernel) (pa_cons (pv 4) (pa_cons (pe_bltn (v := .ty "int") (by rfl) T.int rfl rfl) pa_nil))))) (pw_or1 (pt_val (pe_callB (call_isiK (K := K) rfl) (by rfl) T.isinstance (by decide +kernel) (pa_cons (pv 4) (pa_cons (pe_bltn (v := .ty "bool") (by rfl) T.bool rfl rfl) pa_nil))))))))) (fun _ _ _ _ _ => (pv 4))) (pe_lst pa_nil) (nomark _)) (pss_one (ps_ret pe_bl)) pss_nil))))
      (pss_one (ps_ret pe_bl)))), ?_⟩
    refine ⟨_, rfl, v, .ty "tuple", ty, .type "tuple", bt, rfl, .ty "tuple", tyx, kt, ?_⟩
    cases bt with
    | false => exact ⟨false, rfl, iteT (k false H Same.rfl ⟨nofun, fun ⟨L, rows, h, _⟩ => absurd h (ht0 rfl _)⟩)⟩
    | true =>
      obtain ⟨rows, g, rfl, hg1⟩ := ht1 rfl
      have tv : TupV H (.ref g) rows := ⟨g, rfl, hg1⟩
      refine ⟨true, rfl, iteF ?_⟩
      refine ⟨_, rfl, _, _, rfl, .inr ⟨_, SqT.of hg1, rfl⟩, _, rfl, rfl, _, rfl, ?_⟩
      by_cases c1 : rows.length = x.length + 1
      · rw [show decide (V.int ((rows.length : Nat) : Int) = V.int ((x.length : Nat) + 1)) = true from decide_eq_true (by rw [c1]; rfl)]
        refine iteF ?_
        refine ⟨_, rfl, g, rfl, ⟨_, SqT.of hg1⟩, ?_⟩
        refine for_tup (xs := rows) (fun i σ H' => ∃ o3 o4 L, σ = [some (.ref g), some (.int ((x.length : Nat) + 1)), some (.int ((y.length : Nat) + 1)), o3, o4] ∧ Same H H' ∧ Paired (RowI H (y.length + 1)) (rows.take i) L) ?_ ?_ ?_ ?_
        · exact ⟨_, _, [], rfl, fun _ _ h => h, .nil⟩
        · rintro i σ H' _ ⟨o3, o4, L, rfl, s1, _⟩
          exact SqT.of (s1 _ _ hg1)
        · rintro i r σ H1 hv ⟨o3, o4, L, rfl, s1, pr⟩
          have ir := iv.items tv r (List.mem_of_getElem? hv)
          have ir1 := ir.keep (.same s1)
          obtain ⟨ty2, tyx2, ⟨b2, kt2, h21, h20⟩, _⟩ := kit_any (K := K) ir1
          refine ⟨_, rfl, r, .ty "tuple", ty2, .type "tuple", b2, rfl, .ty "tuple", tyx2, kt2, ?_⟩
          cases b2 with
          | false => exact ⟨false, rfl, iteT (k false H1 s1 ⟨nofun, fun h => absurd h (grid_no tv hv fun c hc => h20 rfl _ (hc.1.keep (.same s1)))⟩)⟩
          | true =>
            obtain ⟨cs, t, rfl, ht2⟩ := h21 rfl
            obtain ⟨_, e, ht⟩ := ir.back (.same s1) ⟨t, rfl, ht2⟩
            cases e
            have tr : TupV H (.ref t) cs := ⟨t, rfl, ht⟩
            refine ⟨true, rfl, iteF ?_⟩
            refine ⟨_, rfl, _, _, rfl, .inr ⟨_, SqT.of ht2, rfl⟩, _, rfl, rfl, _, rfl, ?_⟩
            by_cases c2 : cs.length = y.length + 1
            · rw [show decide (V.int ((cs.length : Nat) : Int) = V.int ((y.length : Nat) + 1)) = true from decide_eq_true (by rw [c2]; rfl)]
              refine iteF ?_
              refine ⟨_, rfl, t, rfl, ⟨_, SqT.of ht2⟩, fun D hD => ?_⟩
              have sD := same_new (o := .lst []) hD
              have cl : cs.length ≤ 5000 := Nat.le_trans (ir.len tr) hB
              refine lc_tup (K := K) (a := t) (xs := cs) (fun i H' => H' D = some (.lst ((cs.take i).filter (fun v => !isIntV v))) ∧ Same H1 H') ?_ ?_ ?_ ?_
              · exact ⟨upd_same, sD⟩
              · rintro i H' _ ⟨_, s2⟩
                exact SqT.of (s2 _ _ ht2)
              · rintro j v H2 hv2 ⟨hD2, s2⟩
                have lj := (List.getElem?_eq_some_iff.mp hv2).1
                have i3 := (ir.items tr v (List.mem_of_getElem? hv2)).keep (.same (s1.trans s2))
                obtain ⟨ty3, tyx3, _, ⟨bi, ki, i1, i0⟩, ⟨bb, kb, b1, b0⟩, _⟩ := kit_any (K := K) i3
                have yes : isIntV v = false → ∃ acc, H2 D = some (.lst acc) ∧ acc.length < sizeLine ∧ upd H2 D (.lst (acc ++ [v])) D = some (.lst (((cs.take (j + 1))).filter (fun v => !isIntV v))) ∧ Same H1 (upd H2 D (.lst (acc ++ [v]))) := fun n => by
                  refine ⟨_, hD2, fewL ?_, ?_, upd_out hD s2⟩
                  · have := List.length_filter_le (fun v => !isIntV v) (cs.take j)
                    rw [List.length_take] at this
                    omega
                  · rw [upd_same, take_snoc hv2, List.filter_append, List.filter_cons_of_pos (by rw [n]; rfl), List.filter_nil]
                have no : isIntV v = true → H2 D = some (.lst ((cs.take (j + 1)).filter (fun v => !isIntV v))) := fun n => by
                  rw [take_snoc hv2, List.filter_append, List.filter_cons_of_neg (by rw [n]; exact Bool.false_ne_true), List.filter_nil, List.append_nil]
                  exact hD2
                refine ⟨rfl, _, rfl, v, .ty "int", ty3, .type "int", bi, rfl, .ty "int", tyx3, ki, ?_⟩
                cases bi with
                | false => exact ⟨false, rfl, iteT (iteT ⟨_, rfl, yes (isIntV_ne (i0 rfl))⟩)⟩
                | true =>
                  refine ⟨true, rfl, iteF ⟨_, rfl, v, .ty "bool", ty3, .type "bool", bb, rfl, .ty "bool", tyx3, kb, bb, rfl, ?_⟩⟩
                  cases bb with
                  | true => exact iteT ⟨_, rfl, yes (isIntV_ne (b1 rfl))⟩
                  | false =>
                    obtain ⟨i, n⟩ := i1 rfl
                    cases b0 rfl i n
                    exact iteF ⟨no rfl, s2⟩
              · rintro H2 ⟨hD2, s2⟩
                rw [List.take_length] at hD2
                refine ⟨by show 0 ≤ sizeLine; decide, fun q hq => ?_⟩
                have sq := same_new (o := .lst []) hq
                refine ⟨D, _, q, rfl, rfl, SqL.of (sq _ _ hD2), SqL.of upd_same, _, rfl, ?_⟩
                cases e : (cs.map isIntV).all id with
                | false =>
                  have ne : (cs.filter (fun v => !isIntV v)).length ≠ 0 := fun z => by
                    rw [filt_all.mp (List.eq_nil_of_length_eq_zero z)] at e
                    cases e
                  rw [show decide ((cs.filter (fun v => !isIntV v)).length = 0) = false from decide_eq_false ne]
                  exact iteT (k false _ ((s1.trans s2).trans sq) ⟨nofun, fun h => absurd h (grid_no tv hv fun c hc => by
                    cases tr.inj hc.1
                    rw [int_all] at e
                    cases e)⟩)
                | true =>
                  rw [show decide ((cs.filter (fun v => !isIntV v)).length = 0) = true from decide_eq_true (by rw [filt_all.mpr e]; rfl)]
                  obtain ⟨c, rfl⟩ := all_int e
                  exact iteF ⟨_, _, L ++ [c], rfl, (s1.trans s2).trans sq, by rw [take_snoc hv]; exact pr.snoc ⟨tr, by rw [← c2, List.length_map]⟩⟩
            · rw [show decide (V.int ((cs.length : Nat) : Int) = V.int ((y.length : Nat) + 1)) = false from decide_eq_false fun z => c2 (by have := V.int.inj z; omega)]
              exact iteT (k false H1 s1 ⟨nofun, fun h => absurd h (grid_no tv hv fun c hc => by
                cases tr.inj hc.1
                exact c2 (by rw [List.length_map]; exact hc.2))⟩)
        · rintro σ H1 ⟨o3, o4, L, rfl, s1, pr⟩
          rw [List.take_length] at pr
          exact k true H1 s1 ⟨fun _ => ⟨L, rows, tv, pr, by rw [← paired_len pr]; exact c1⟩, fun _ => rfl⟩
      · rw [show decide (V.int ((rows.length : Nat) : Int) = V.int ((x.length : Nat) + 1)) = false from decide_eq_false fun z => c1 (by have := V.int.inj z; omega)]
        exact iteT (k false H Same.rfl ⟨nofun, fun ⟨L, rows2, h1, h2, h3⟩ => absurd (by cases tv.inj h1; rw [paired_len h2]; exact h3) c1⟩)
end
end Vk
set_option Elab.async false
set_option maxRecDepth 100000
set_option linter.all false
set_option maxHeartbeats 4000000
namespace Vk
open PySem PySem.Spec PyProof.Rows L2 StX
/-! ## papers of prices -/
def EndX (x : Str) (i t : Nat) : Prop := Lend x i t ∧ t ≤ x.length
def LowAt (A F : List (List Int)) (x y : Str) (e i j : Nat) : Prop := ent A i j ≤ ent F i j ∧ (i < x.length → ent F (i + 1) j ≤ ent F i j + 1) ∧ (j < y.length → ent F i (j + 1) ≤ ent F i j + 1) ∧ (i < x.length → j < y.length → x.cps.toList[i]? = y.cps.toList[j]? → ent A (i + 1) (j + 1) ≤ ent A i j) ∧ ∀ t, EndX x i t → ent F t j ≤ ent A i j + (t : Nat) - (i : Nat) + (e : Nat)
def Low (A F : List (List Int)) (x y : Str) (e : Nat) : Prop := ∀ i j, i ≤ x.length → j ≤ y.length → LowAt A F x y e i j
def PricesL (A F : List (List Int)) (x y : Str) (e : Nat) (tot : Int) : Prop := ent A 0 0 = 0 ∧ ent A x.length y.length = tot ∧ Low A F x y e
def PriP (H : Hp) (x y : Str) (e : Nat) (tot : Int) (v : V) : Prop := ∃ a f A F, TupV H v [.str "prices", a, f] ∧ GridL H (x.length + 1) (y.length + 1) a A ∧ GridL H (x.length + 1) (y.length + 1) f F ∧ PricesL A F x y e tot
theorem PriP.keep {H H1 : Hp} {x y : Str} {e : Nat} {tot : Int} {v : V} (h : PriP H x y e tot v) (k : Kp H H1) : PriP H1 x y e tot v := by
  obtain ⟨a, f, A, F, h1, h2, h3, h4⟩ := h
  exact ⟨a, f, A, F, h1.keep k, h2.keep k, h3.keep k, h4⟩
theorem PriP.back {H H1 : Hp} {B : Nat} {x y : Str} {e : Nat} {tot : Int} {v : V} (i : IsV H B 3 v) (k : Kp H H1) (h : PriP H1 x y e tot v) : PriP H x y e tot v := by
  obtain ⟨a, f, A, F, h1, h2, h3, h4⟩ := h
  have h5 := i.back k h1
  exact ⟨a, f, A, F, h5, h2.back (i.items h5 a (by simp)) k, h3.back (i.items h5 f (by simp)) k, h4⟩
theorem end_once {x : Str} {g t : Nat} (h1 : g < t) (h2 : t ≤ x.length) (h3 : onceX x g t) : ∃ u, EndX x g u ∧ u ≤ t := by
  refine ⟨lendF x g (x.length + 1) (g + 1), ?_⟩
  have L : Lend x g (lendF x g (x.length + 1) (g + 1)) := by
    obtain ⟨q1, q2, q3, q4⟩ := lendF_spec (x := x) (a := g) (x.length + 1) (g + 1) (by omega) (by omega) (fun b h4 h5 => by omega)
    exact ⟨by omega, q4 (by omega), q2, q3⟩
  have z := (L.iff h1 h2).mp h3
  exact ⟨⟨L, by omega⟩, z⟩
/-- the rows of a table -/
def gridOf (G : Nat → Nat → Nat) (n m : Nat) : List (List Int) := (List.range (n + 1)).map fun i => (List.range (m + 1)).map fun j => ((G i j : Nat) : Int)
theorem gridOf_ent {G : Nat → Nat → Nat} {n m i j : Nat} (hi : i ≤ n) (hj : j ≤ m) : ent (gridOf G n m) i j = ((G i j : Nat) : Int) := by
  unfold ent gridOf
  rw [List.getElem?_map, List.getElem?_range (by omega)]
  show ((List.range (m + 1)).map _)[j]?.getD 0 = _
  rw [List.getElem?_map, List.getElem?_range (by omega)]
  rfl
/-- the tables of price_tables, cut off at some number -/
theorem prices_own {x y : Str} {e M : Nat} : PricesL (gridOf (fun i j => min (kX x y e i j) M) x.length y.length) (gridOf (fun i j => min (gX x y e i j) M) x.length y.length) x y e ((min (kX x y e x.length y.length) M : Nat) : Int) := by
  have lx : x.cps.toList.length = x.length := Array.length_toList
  have ly : y.cps.toList.length = y.length := Array.length_toList
  refine ⟨?_, gridOf_ent (Nat.le_refl _) (Nat.le_refl _), fun i j hi hj => ?_⟩
  · rw [gridOf_ent (Nat.zero_le _) (Nat.zero_le _), show kX x y e 0 0 = 0 from kF_00]
    simp
  have K := kF_least (a := x.cps.toList) (b := y.cps.toList) (once := onceX x) (e := e)
  have G := gF_least (a := x.cps.toList) (b := y.cps.toList) (once := onceX x) (e := e)
  refine ⟨?_, fun h => ?_, fun h => ?_, fun h1 h2 h3 => ?_, fun t ht => ?_⟩
  · rw [gridOf_ent hi hj, gridOf_ent hi hj]
    have : kX x y e i j ≤ gX x y e i j := by
      rcases Nat.lt_or_ge (gX x y e i j) (beyond x.cps.toList y.cps.toList e) with l | l
      · exact (K i j).le _ (way_last.mpr (.inr (.inl ((G i j).is l))))
      · exact Nat.le_trans (K i j).top l
    omega
  · rw [gridOf_ent (by omega) hj, gridOf_ent hi hj]
    have : gX x y e (i + 1) j ≤ gX x y e i j + 1 := by
      rcases Nat.lt_or_ge (gX x y e i j) (beyond x.cps.toList y.cps.toList e) with l | l
      · obtain ⟨g, k, d, w, p1, p2, p3, p4, p5, p6⟩ := (G i j).is l
        have : gX x y e i j = d + e + (i - g) + (j - k) := p6
        refine Nat.le_trans ((G (i + 1) j).le (d + e + (i + 1 - g) + (j - k)) ⟨g, k, d, w, by omega, by omega, ?_, p4, p5, rfl⟩) (by omega)
        have t2 : ∀ {a b c : Nat}, a < b → b ≤ c → c ≤ x.length → onceX x a b → onceX x a c := fun {a b c} h1 h2 h3 h4 => by
          unfold onceX at h4 ⊢
          cases e2 : twB x a c with
          | false => rfl
          | true =>
            have t2 := (twB_iff (by omega) h3).mp e2
            have := (twB_iff (by omega) (by omega)).mpr (t2.less (Nat.le_refl _) (by omega) h2)
            rw [h4] at this
            cases this
        exact t2 p1 (by omega) h p3
      · have := (G (i + 1) j).top
        have : gX x y e (i + 1) j ≤ beyond x.cps.toList y.cps.toList e := this
        omega
    omega
  · rw [gridOf_ent hi (by omega), gridOf_ent hi hj]
    have : gX x y e i (j + 1) ≤ gX x y e i j + 1 := by
      rcases Nat.lt_or_ge (gX x y e i j) (beyond x.cps.toList y.cps.toList e) with l | l
      · obtain ⟨g, k, d, w, p1, p2, p3, p4, p5, p6⟩ := (G i j).is l
        have : gX x y e i j = d + e + (i - g) + (j - k) := p6
        exact Nat.le_trans ((G i (j + 1)).le (d + e + (i - g) + (j + 1 - k)) ⟨g, k, d, w, p1, p2, p3, by omega, by omega, rfl⟩) (by omega)
      · have := (G i (j + 1)).top
        have : gX x y e i (j + 1) ≤ beyond x.cps.toList y.cps.toList e := this
        omega
    omega
  · rw [gridOf_ent (by omega) (by omega), gridOf_ent hi hj]
    have : kX x y e (i + 1) (j + 1) ≤ kX x y e i j := by
      rcases Nat.lt_or_ge (kX x y e i j) (beyond x.cps.toList y.cps.toList e) with l | l
      · exact (K (i + 1) (j + 1)).le _ (.keep ((K i j).is l) (by omega) h3)
      · exact Nat.le_trans (K (i + 1) (j + 1)).top l
    omega
  · obtain ⟨L, tn⟩ := ht
    have ti := L.gt
    rw [gridOf_ent tn hj, gridOf_ent hi hj]
    have : gX x y e t j ≤ kX x y e i j + (t - i) + e := by
      rcases Nat.lt_or_ge (kX x y e i j) (beyond x.cps.toList y.cps.toList e) with l | l
      · have w := (K i j).is l
        exact Nat.le_trans ((G t j).le _ ⟨i, j, _, w, ti, by omega, L.once tn, Nat.le_refl _, by omega, rfl⟩) (by show kX x y e i j + e + (t - i) + (j - j) ≤ _; omega)
      · have := (G t j).top
        have : gX x y e t j ≤ beyond x.cps.toList y.cps.toList e := this
        omega
    omega
end Vk
set_option Elab.async false
set_option maxRecDepth 100000
set_option linter.all false
set_option maxHeartbeats 4000000
namespace Vk
open PySem PySem.Spec PyProof.Rows L2 StX
theorem call_tuple_ofK {X : Cx} {K : PySem.W.Frag} (h : X.K = K) : CallR X (.type "tuple") (fun xs H Q => ∃ p ys, xs = [.ref p] ∧ ((SqL K H p ys ∧ ∀ l, H l = none → Q (.ref l) (upd H l (.tup ys))) ∨ (SqT K H p ys ∧ Q (.ref p) H))) := h ▸ call_tuple_of
section
variable {P : Program} {w : World} {K : PySem.W.Frag} {mg : Str → Option Value} {base : Heap}
/-- tuples of rows of numbers, from lists of rows -/
theorem paired_grid {H : Hp} {G : Nat → Nat → Nat} {n m : Nat} {ts : List Addr} (h1 : ts.length = n + 1) (h2 : ∀ i t, ts[i]? = some t → H t = some (.tup (rowF G i (m + 1)))) : Paired (RowI H (m + 1)) (ts.map V.ref) (gridOf G n m) := by
  have gen : ∀ (l : List Nat) (us : List Addr), us.length = l.length → (∀ (i : Nat) (t : Addr) (q : Nat), us[i]? = some t → l[i]? = some q → H t = some (.tup (rowF G q (m + 1)))) → Paired (RowI H (m + 1)) (us.map V.ref) (l.map fun i => (List.range (m + 1)).map fun j => ((G i j : Nat) : Int)) := fun l => by
    induction l with
    | nil =>
      intro us hl _
      rw [List.eq_nil_of_length_eq_zero hl]
      exact .nil
    | cons q l ih =>
      intro us hl h
      match us, hl with
      | u :: us, hl =>
        refine .cons ⟨⟨u, rfl, ?_⟩, by rw [List.length_map, List.length_range]⟩ (ih us (by simpa using hl) fun i t q' a b => h (i + 1) t q' a b)
        rw [h 0 u q rfl rfl]
        unfold rowF
        rw [List.map_map]
        rfl
  refine gen (List.range (n + 1)) ts (by rw [h1, List.length_range]) fun i t q a b => ?_
  have : i < (List.range (n + 1)).length := (List.getElem?_eq_some_iff.mp b).1
  rw [List.length_range] at this
  rw [List.getElem?_range this] at b
  cases b
  exact h2 i t a
def spPri : Sp := fun vs H Q _ => ∃ (x y : Str) (e : Nat), vs = [.str x, .str y, .int (e : Nat)] ∧ x.length ≤ 100 ∧ y.length ≤ 100 ∧ e ≤ 100000 ∧
  ((x.length = 0 ∧ ¬ y.length = 0) → Q .non H) ∧
  (¬ (x.length = 0 ∧ ¬ y.length = 0) → ∀ (t a f : Addr) (H' : Hp), H' t = some (.tup [.str "prices", .ref a, .ref f]) → GridL H' (x.length + 1) (y.length + 1) (.ref a) (gridOf (kX x y e) x.length y.length) → GridL H' (x.length + 1) (y.length + 1) (.ref f) (gridOf (gX x y e) x.length y.length) → Same H H' → Q (.ref t) H')
abbrev s_prices : Stmt := top 14
theorem sc_prices : FnScope ["one", "other", "each", "kept", "begun", "row"] ["one", "other", "each"] (defScope s_prices) := ⟨rfl, rfl, rfl, by decide +kernel, rfl, by decide +kernel, by decide +kernel⟩
theorem b_prices {f : Addr} {fd : FuncData} (F : Fun K "prices" "prices" s_prices f fd) (T : Txt mg) (c_price_tables : CalG P w K mg base CX0 4 "price_tables" spPrices) (c_has_exchange : CalG P w K mg base CX0 1 "has_exchange" spHas) : FnG P w K mg base CX0 5 f fd ["one", "other", "each"] spPri := by
  refine okG0 F sc_prices (fun vs H Q E h => ?_) (fun cdv A outer s H vs Q E hg hr h => ?_)
  · obtain ⟨x, y, e, rfl, _⟩ := h
    rfl
  · have hu := hu_of hr
    have hu64 := hr.units
    obtain ⟨x, y, e, rfl, hx, hy, he, kN, k⟩ := h
    refine ⟨_, (pss_cons (ps_if (pt_not (pt_val (pe_cG c_has_exchange hg hr (by decide) pass0 (pa_cons (pv 0) (pa_cons (pv 1) pa_nil))))) (pss_one (ps_ret pe_non)) pss_nil)
      (pss_cons (ps_asg (pe_cG c_price_tables hg hr (by decide) pass0 (pa_cons (pv 0) (pa_cons (pv 1) (pa_cons (pv 2) pa_nil)))) (pg_tup rfl (pgs_cons (pg_name (i := 3) sc_prices.nd rfl (Or.inl rfl)) (pgs_cons (pg_name (i := 4) sc_prices.nd rfl (Or.inl rfl)) pgs_nil))))
      (pss_one (ps_ret (pe_tup (pa_cons pe_str (pa_cons (pe_callTy call_tuple_of (by rfl) T.tuple (by decide +kernel) (pa_cons (pe_lc (own := [("row", 5)]) (g := gName 5) (tt := tYes) rfl sc_prices.nd (pi_list (pv 3)) (blkOk_by (own := [("row", 5)]) (N := ["one", "other", "each", "kept", "begun", "row"]) (sc := defScope s_prices) (by decide +kernel)) (fun _ _ _ _ _ => (pg_name (i := 5) sc_prices.nd rfl (Or.inl rfl))) (fun _ _ _ _ _ => pts_nil) (fun _ _ _ _ _ => (pe_callTy (call_tuple_ofK (K := K) rfl) (by rfl) T.tuple (by decide +kernel) (pa_cons (pv 5) pa_nil)))) pa_nil)) (pa_cons (pe_callTy call_tuple_of (by rfl) T.tuple (by decide +kernel) (pa_cons (pe_lc (own := [("row", 5)]) (g := gName 5) (tt := tYes) rfl sc_prices.nd (pi_list (pv 4)) (blkOk_by (own := [("row", 5)]) (N := ["one", "other", "each", "kept", "begun", "row"]) (sc := defScope s_prices) (by decide +kernel)) (fun _ _ _ _ _ => (pg_name (i := 5) sc_prices.nd rfl (Or.inl rfl))) (fun _ _ _ _ _ => pts_nil) (fun _ _ _ _ _ => (pe_callTy (call_tuple_ofK (K := K) rfl) (by rfl) T.tuple (by decide +kernel) (pa_cons (pv 5) pa_nil)))) pa_nil)) pa_nil)))))))), ?_⟩
    refine ⟨_, rfl, _, rfl, x, y, rfl, _, rfl, ?_⟩
    rw [strE_d, strE_d]
    by_cases no : x.length = 0 ∧ ¬ y.length = 0
    · rw [decide_eq_true no.1, decide_eq_false no.2]
      exact iteT (kN no)
    · replace k := k no
      rw [show (!decide (x.length = 0) || decide (y.length = 0)) = true by
        by_cases c : x.length = 0
        · have d : y.length = 0 := Decidable.byContradiction fun z => no ⟨c, z⟩
          simp [c, d]
        · simp [c]]
      refine iteF ?_
      refine ⟨_, rfl, _, rfl, _, rfl, x, y, e, rfl, hx, hy, he, fun tt ak ab H1 htt tk tb s1 => ?_⟩
      refine ⟨tt, _, rfl, SqT.of htt, rfl, _, _, rfl, _, _, rfl, rfl, ?_⟩
      obtain ⟨us, u1, u2, u3⟩ := tk.ex
      obtain ⟨vs', v1, v2', v3⟩ := tb.ex
      refine ⟨_, rfl, ak, rfl, ⟨_, SqL.of u1⟩, fun D hD => ?_⟩
      have sD := same_new (o := .lst []) hD
      refine lc_list (K := K) (a := ak) (xs := us.map V.ref) (fun i H' => ∃ ts : List Addr, H' D = some (.lst (ts.map V.ref)) ∧ ts.length = i ∧ (∀ i t, ts[i]? = some t → H' t = some (.tup (rowF (kX x y e) i (y.length + 1)))) ∧ Same H1 H') ?_ ?_ ?_ ?_
      · exact ⟨[], upd_same, rfl, (fun i t h => by simp at h), sD⟩
      · rintro i H2 _ ⟨ts, _, _, _, s2⟩
        exact SqL.of (s2 _ _ u1)
      · rintro i v H2 hv ⟨ts, d2, l2, t2, s2⟩
        rw [List.getElem?_map] at hv
        obtain ⟨u, hu', rfl⟩ := Option.map_eq_some_iff.mp hv
        have hr2 := s2 _ _ (u3 i u hu')
        have hd := d2
        refine ⟨rfl, _, rfl, u, _, rfl, .inl ⟨SqL.of hr2, fun q hq => ?_⟩⟩
        have sq := same_new (o := .tup (rowF (kX x y e) i (y.length + 1))) hq
        have il : i < us.length := (List.getElem?_eq_some_iff.mp hu').1
        refine ⟨_, sq _ _ d2, fewL (by rw [List.length_map]; omega), ts ++ [q], by rw [upd_same, List.map_append]; rfl, by rw [List.length_append, l2]; rfl, fun j t h => ?_, upd_out hD (s2.trans sq)⟩
        have key : upd H2 q (.tup (rowF (kX x y e) i (y.length + 1))) t = some (.tup (rowF (kX x y e) j (y.length + 1))) := by
          rcases Nat.lt_or_ge j ts.length with l | l
          · rw [List.getElem?_append_left l] at h
            exact sq _ _ (t2 j t h)
          · rw [List.getElem?_append_right l] at h
            have ej : j = i := by
              have := (List.getElem?_eq_some_iff.mp h).1
              rw [List.length_singleton] at this
              omega
            subst ej
            rw [l2, Nat.sub_self] at h
            cases h
            exact upd_same
        rw [upd_ne fun z => by rw [z, sq _ _ d2] at key; cases key]
        exact key
      · rintro H2 ⟨ts, d2, l2, t2, s2⟩
        rw [List.length_map, u2] at l2
        refine ⟨D, _, rfl, .inl ⟨SqL.of d2, fun ka hka => ?_⟩⟩
        have ska := same_new (o := .tup (ts.map V.ref)) hka
        have ga : GridL (upd H2 ka (.tup (ts.map V.ref))) (x.length + 1) (y.length + 1) (.ref ka) (gridOf (kX x y e) x.length y.length) := ⟨_, ⟨ka, rfl, upd_same⟩, paired_grid l2 fun i t h => ska _ _ (t2 i t h), by unfold gridOf; rw [List.length_map, List.length_range]⟩
        have s3 := s2.trans ska
        generalize upd H2 ka (.tup (ts.map V.ref)) = H3 at ga s3
        clear d2 t2 s2 ska
        have v1' := s3 _ _ v1
        have v3' := fun i t h => s3 _ _ (v3 i t h)
        refine ⟨_, rfl, ab, rfl, ⟨_, SqL.of v1'⟩, fun D hD => ?_⟩
        have sD := same_new (o := .lst []) hD
        refine lc_list (K := K) (a := ab) (xs := vs'.map V.ref) (fun i H' => ∃ ts : List Addr, H' D = some (.lst (ts.map V.ref)) ∧ ts.length = i ∧ (∀ i t, ts[i]? = some t → H' t = some (.tup (rowF (gX x y e) i (y.length + 1)))) ∧ Same H3 H') ?_ ?_ ?_ ?_
        · exact ⟨[], upd_same, rfl, (fun i t h => by simp at h), sD⟩
        · rintro i H5 _ ⟨ts, _, _, _, s2⟩
          exact SqL.of (s2 _ _ v1')
        · rintro i v H5 hv ⟨ts, d2, l2, t2, s2⟩
          rw [List.getElem?_map] at hv
          obtain ⟨u, hu', rfl⟩ := Option.map_eq_some_iff.mp hv
          have hr2 := s2 _ _ (v3' i u hu')
          have hd := d2
          refine ⟨rfl, _, rfl, u, _, rfl, .inl ⟨SqL.of hr2, fun q hq => ?_⟩⟩
          have sq := same_new (o := .tup (rowF (gX x y e) i (y.length + 1))) hq
          have il : i < vs'.length := (List.getElem?_eq_some_iff.mp hu').1
          refine ⟨_, sq _ _ d2, fewL (by rw [List.length_map]; omega), ts ++ [q], by rw [upd_same, List.map_append]; rfl, by rw [List.length_append, l2]; rfl, fun j t h => ?_, upd_out hD (s2.trans sq)⟩
          have key : upd H5 q (.tup (rowF (gX x y e) i (y.length + 1))) t = some (.tup (rowF (gX x y e) j (y.length + 1))) := by
            rcases Nat.lt_or_ge j ts.length with l | l
            · rw [List.getElem?_append_left l] at h
              exact sq _ _ (t2 j t h)
            · rw [List.getElem?_append_right l] at h
              have ej : j = i := by
                have := (List.getElem?_eq_some_iff.mp h).1
                rw [List.length_singleton] at this
                omega
              subst ej
              rw [l2, Nat.sub_self] at h
              cases h
              exact upd_same
          rw [upd_ne fun z => by rw [z, sq _ _ d2] at key; cases key]
          exact key
        · rintro H5 ⟨ts, d2, l2, t2, s2⟩
          rw [List.length_map, v2'] at l2
          refine ⟨D, _, rfl, .inl ⟨SqL.of d2, fun kb hkb => ?_⟩⟩
          have skb := same_new (o := .tup (ts.map V.ref)) hkb
          have gb : GridL (upd H5 kb (.tup (ts.map V.ref))) (x.length + 1) (y.length + 1) (.ref kb) (gridOf (gX x y e) x.length y.length) := ⟨_, ⟨kb, rfl, upd_same⟩, paired_grid l2 fun i t h => skb _ _ (t2 i t h), by unfold gridOf; rw [List.length_map, List.length_range]⟩
          have s3' := s2.trans skb
          generalize upd H5 kb (.tup (ts.map V.ref)) = H6 at gb s3'
          refine ⟨by show 3 ≤ sizeLine; decide, fun t ht => ?_⟩
          have st := same_new (o := .tup [.str "prices", .ref ka, .ref kb]) ht
          exact k t ka kb _ upd_same ((ga.keep (.same s3')).keep (.same st)) (gb.keep (.same st)) (((s1.trans s3).trans s3').trans st)
end
end Vk
set_option Elab.async false
set_option maxRecDepth 100000
set_option linter.all false
set_option maxHeartbeats 4000000
namespace Vk
open PySem PySem.Spec PyProof.Rows L2 StX
structure Step7 where
  k : Nat
  i : Nat
  j : Nat
  kb : Nat
  ib : Nat
  jb : Nat
  c : Nat
/-- the steps from (i, j) -/
def stepsAt (x y : Str) (ends : Nat → Option Nat) (e i j : Nat) : List Step7 :=
  [⟨2, i, j, 1, i, j, 0⟩] ++ (if i < x.length then [⟨2, i, j, 2, i + 1, j, 1⟩] else []) ++ (if j < y.length then [⟨2, i, j, 2, i, j + 1, 1⟩] else []) ++ (if i < x.length ∧ j < y.length ∧ x.cps.toList[i]? = y.cps.toList[j]? then [⟨1, i, j, 1, i + 1, j + 1, 0⟩] else []) ++ (match ends i with | some t => if i < x.length then [⟨1, i, j, 2, t, j, t - i + e⟩] else [] | none => [])
theorem stepsAt_len {x y : Str} {ends : Nat → Option Nat} {e i j : Nat} : (stepsAt x y ends e i j).length ≤ 5 := by
  unfold stepsAt
  simp only [List.length_append, List.length_singleton]
  have h1 : ∀ (p : Prop) [Decidable p] (s : Step7), (if p then [s] else []).length ≤ 1 := fun p _ s => by split <;> simp
  have a1 := h1 (i < x.length) ⟨2, i, j, 2, i + 1, j, 1⟩
  have a2 := h1 (j < y.length) ⟨2, i, j, 2, i, j + 1, 1⟩
  have a3 := h1 (i < x.length ∧ j < y.length ∧ x.cps.toList[i]? = y.cps.toList[j]?) ⟨1, i, j, 1, i + 1, j + 1, 0⟩
  have a4 : (match ends i with | some t => if i < x.length then [(⟨1, i, j, 2, t, j, t - i + e⟩ : Step7)] else [] | none => []).length ≤ 1 := by
    cases ends i with
    | none => simp
    | some t => exact h1 _ _
  omega
/-- those of the row i up to j -/
def stepsRow (x y : Str) (ends : Nat → Option Nat) (e i j : Nat) : List Step7 := ((List.range j).map fun j => stepsAt x y ends e i j).flatten
def stepsAll (x y : Str) (ends : Nat → Option Nat) (e i : Nat) : List Step7 := ((List.range i).map fun i => stepsRow x y ends e i (y.length + 1)).flatten
theorem stepsRow_snoc {x y : Str} {ends : Nat → Option Nat} {e i j : Nat} : stepsRow x y ends e i (j + 1) = stepsRow x y ends e i j ++ stepsAt x y ends e i j := by
  unfold stepsRow
  rw [List.range_succ, List.map_append, List.flatten_append]
  simp
theorem stepsAll_snoc {x y : Str} {ends : Nat → Option Nat} {e i : Nat} : stepsAll x y ends e (i + 1) = stepsAll x y ends e i ++ stepsRow x y ends e i (y.length + 1) := by
  unfold stepsAll
  rw [List.range_succ, List.map_append, List.flatten_append]
  simp
theorem stepsRow_len {x y : Str} {ends : Nat → Option Nat} {e i : Nat} : ∀ {j : Nat}, (stepsRow x y ends e i j).length ≤ 5 * j
  | 0 => Nat.le_refl _
  | j + 1 => by
    have := stepsRow_len (x := x) (y := y) (ends := ends) (e := e) (i := i) (j := j)
    have := stepsAt_len (x := x) (y := y) (ends := ends) (e := e) (i := i) (j := j)
    rw [stepsRow_snoc, List.length_append]
    omega
theorem stepsAll_len {x y : Str} {ends : Nat → Option Nat} {e : Nat} : ∀ {i : Nat}, (stepsAll x y ends e i).length ≤ i * (5 * (y.length + 1))
  | 0 => Nat.zero_le _
  | i + 1 => by
    have := stepsAll_len (x := x) (y := y) (ends := ends) (e := e) (i := i)
    have := stepsRow_len (x := x) (y := y) (ends := ends) (e := e) (i := i) (j := y.length + 1)
    rw [stepsAll_snoc, List.length_append, Nat.succ_mul]
    omega
def St7 (H : Hp) : List V → List Step7 → Prop := Paired (fun v (s : Step7) => ∃ t, v = V.ref t ∧ H t = some (.tup [.int (s.k : Nat), .int (s.i : Nat), .int (s.j : Nat), .int (s.kb : Nat), .int (s.ib : Nat), .int (s.jb : Nat), .int (s.c : Nat)]))
theorem St7.keepT {H H1 : Hp} {xs : List V} {rs : List Step7} (h : St7 H xs rs) (s : ∀ u ws, H u = some (.tup ws) → H1 u = some (.tup ws)) : St7 H1 xs rs := pair_mono (fun v p ⟨t, e, ht⟩ => ⟨t, e, s _ _ ht⟩) h
/-- a list of steps under way -/
structure StL (H : Hp) (a : Addr) (ss : List Step7) : Prop where
  ex : ∃ xs, H a = some (.lst xs) ∧ St7 H xs ss
theorem StL.keep {H H1 : Hp} {a : Addr} {ss : List Step7} (h : StL H a ss) (s : Same H H1) : StL H1 a ss := by
  obtain ⟨xs, h1, h2⟩ := h.ex
  exact ⟨xs, s _ _ h1, h2.keepT fun u ws h => s _ _ h⟩
theorem StL.len {H : Hp} {a : Addr} {ss : List Step7} (h : StL H a ss) {xs : List V} (e : H a = some (.lst xs)) : xs.length = ss.length := by
  obtain ⟨ys, h1, h2⟩ := h.ex
  rw [h1] at e
  cases e
  exact paired_len h2
/-- one step more -/
theorem StL.snoc {H : Hp} {a t : Addr} {ss : List Step7} (h : StL H a ss) (s : Step7) (ht : H t = none) : ∃ xs, upd H t (.tup [.int (s.k : Nat), .int (s.i : Nat), .int (s.j : Nat), .int (s.kb : Nat), .int (s.ib : Nat), .int (s.jb : Nat), .int (s.c : Nat)]) a = some (.lst xs) ∧ xs.length = ss.length ∧ StL (upd (upd H t (.tup [.int (s.k : Nat), .int (s.i : Nat), .int (s.j : Nat), .int (s.kb : Nat), .int (s.ib : Nat), .int (s.jb : Nat), .int (s.c : Nat)])) a (.lst (xs ++ [.ref t]))) a (ss ++ [s]) := by
  obtain ⟨xs, h1, h2⟩ := h.ex
  have st := same_new (o := .tup [.int (s.k : Nat), .int (s.i : Nat), .int (s.j : Nat), .int (s.kb : Nat), .int (s.ib : Nat), .int (s.jb : Nat), .int (s.c : Nat)]) ht
  have ha := st _ _ h1
  have nu : ∀ u ws, upd H t (.tup [.int (s.k : Nat), .int (s.i : Nat), .int (s.j : Nat), .int (s.kb : Nat), .int (s.ib : Nat), .int (s.jb : Nat), .int (s.c : Nat)]) u = some (.tup ws) → upd (upd H t (.tup [.int (s.k : Nat), .int (s.i : Nat), .int (s.j : Nat), .int (s.kb : Nat), .int (s.ib : Nat), .int (s.jb : Nat), .int (s.c : Nat)])) a (.lst (xs ++ [.ref t])) u = some (.tup ws) := fun u ws h => by
    rw [upd_ne fun z => by rw [z, ha] at h; cases h]
    exact h
  exact ⟨xs, ha, paired_len h2, ⟨_, upd_same, ((h2.keepT fun u ws h => st _ _ h).keepT nu).snoc ⟨t, rfl, nu _ _ upd_same⟩⟩⟩
section
variable {P : Program} {w : World} {K : PySem.W.Frag} {mg : Str → Option Value} {base : Heap}
def spSteps : Sp := fun vs H Q _ => ∃ (x y : Str) (e : Nat), vs = [.str x, .str y, .int (e : Nat)] ∧ x.length ≤ 100 ∧ y.length ≤ 100 ∧ ∀ (a : Addr) (es : List Nat) (H' : Hp), es.length = x.length → (∀ i e, es[i]? = some e → Lend x i e) → StL H' a (stepsAll x y (leE x es) e (x.length + 1)) → Same H H' → Q (.ref a) H'
abbrev s_steps_on : Stmt := top 15
theorem sc_steps_on : FnScope ["one", "other", "each", "told", "ends", "i", "j"] ["one", "other", "each"] (defScope s_steps_on) := ⟨rfl, rfl, rfl, by decide +kernel, rfl, by decide +kernel, by decide +kernel⟩
theorem lt_by {σ : L2.St} {H : Hp} {n m : Nat} {i : Nat} {x : Str} (hx : x.length ≤ sizeLine) {K : PySem.W.Frag} (h1 : σ[n]? = some (some (.int (i : Nat)))) (h2 : σ[m]? = some (some (.str x))) : ∀ k' : Bool → Hp → Prop, k' (decide (i < x.length)) H → tTest (tOp (rI0 fun i j => V.bl (decide (i < j))) (tVar n) (tCB (fun xs H Q => ∃ x n, xs = [x] ∧ LenV K x H n ∧ Q (V.int ((n : Nat) : Int)) H) (tCons (tVar m) tNil))) σ H k' := fun k' q => ⟨_, h1, _, h2, _, _, rfl, ⟨hx, rfl⟩, _, _, rfl, rfl, _, rfl, by
  rw [show decide (((i : Nat) : Int) < ((x.length : Nat) : Int)) = decide (i < x.length) from decide_eq_decide.mpr (by omega)]
  exact q⟩
abbrev tup7 (s : Step7) : List V := [.int (s.k : Nat), .int (s.i : Nat), .int (s.j : Nat), .int (s.kb : Nat), .int (s.ib : Nat), .int (s.jb : Nat), .int (s.c : Nat)]
theorem app7 {H H3 : Hp} {pl b : Addr} {A : List Step7} {B : HO} (s : Step7) (L : StL H3 pl A) (hb : H3 b = some B) (nb : b ≠ pl) (sH : Same H H3) (hpl : H pl = none) (lA : A.length ≤ 60000) {Q : VK} (h : ∀ H', StL H' pl (A ++ [s]) → H' b = some B → Same H H' → Q .non H') (t : Addr) (ht : H3 t = none) : rAppend (.ref pl) [.ref t] (upd H3 t (.tup (tup7 s))) Q := by
  obtain ⟨xs2, f1, f2, f3⟩ := L.snoc s ht
  refine ⟨pl, xs2, _, rfl, rfl, f1, fewL (by omega), h _ f3 ?_ (upd_out hpl (sH.trans (same_new ht)))⟩
  rw [upd_ne nb]
  exact (same_new ht) _ _ hb
theorem int_non' {i : Int} : (!decide (V.int i = V.non)) = true := by rw [show decide (V.int i = V.non) = false from decide_eq_false nofun]; rfl
theorem non_non' : (!decide (V.non = V.non)) = false := by rw [decide_eq_true rfl]; rfl
theorem b_steps_on {f : Addr} {fd : FuncData} (F : Fun K "steps_on" "steps_on" s_steps_on f fd) (T : Txt mg) (c_least_ends : CalG P w K mg base CX0 2 "least_ends" spEnds) : FnG P w K mg base CX0 3 f fd ["one", "other", "each"] spSteps := by
  refine okG0 F sc_steps_on (fun vs H Q E h => ?_) (fun cdv A outer s H vs Q E hg hr h => ?_)
  · obtain ⟨x, y, e, rfl, _⟩ := h
    rfl
  · have hu := hu_of hr
    have hu64 := hr.units
    obtain ⟨x, y, e, rfl, hx, hy, k⟩ := h
    have xl : x.length ≤ sizeLine := Nat.le_of_lt (fewL (by omega))
    have yl : y.length ≤ sizeLine := Nat.le_of_lt (fewL (by omega))
    have lx : x.cps.toList.length = x.length := Array.length_toList
    have ly : y.cps.toList.length = y.length := Array.length_toList
    refine ⟨_, (pss_cons (ps_set (i := 3) sc_steps_on.nd rfl (Or.inl rfl) (pe_lst pa_nil))
      (pss_cons (ps_set (i := 4) sc_steps_on.nd rfl (Or.inl rfl) (pe_cG c_least_ends hg hr (by decide) pass0 (pa_cons (pv 0) pa_nil)))
      (pss_cons (ps_for PassesOwn.never rfl (pi_range1 rfl T.range (pa_cons (pe_op op_add (pe_callB call_len (by rfl) T.len (by decide +kernel) (pa_cons (pv 0) pa_nil)) pe_int) pa_nil)) (pg_name (i := 5) sc_steps_on.nd rfl (Or.inl rfl)) (pss_one (ps_for PassesOwn.never rfl (pi_range1 rfl T.range (pa_cons (pe_op op_add (pe_callB call_len (by rfl) T.len (by decide +kernel) (pa_cons (pv 1) pa_nil)) pe_int) pa_nil)) (pg_name (i := 6) sc_steps_on.nd rfl (Or.inl rfl)) (pss_cons (ps_expr (pe_bm PySem.F.plainAttrs_list PySem.F.slot_list_append PySem.F.type_list_append mt_append (pv 3) (pa_cons (pe_tup (pa_cons pe_int (pa_cons (pv 5) (pa_cons (pv 6) (pa_cons pe_int (pa_cons (pv 5) (pa_cons (pv 6) (pa_cons pe_int pa_nil)))))))) pa_nil)))
      (pss_cons (ps_if (pt_cmpR op_lt (pv 5) (pe_callB call_len (by rfl) T.len (by decide +kernel) (pa_cons (pv 0) pa_nil)) (nomark _)) (pss_one (ps_expr (pe_bm PySem.F.plainAttrs_list PySem.F.slot_list_append PySem.F.type_list_append mt_append (pv 3) (pa_cons (pe_tup (pa_cons pe_int (pa_cons (pv 5) (pa_cons (pv 6) (pa_cons pe_int (pa_cons (pe_op op_add (pv 5) pe_int) (pa_cons (pv 6) (pa_cons pe_int pa_nil)))))))) pa_nil)))) pss_nil)
      (pss_cons (ps_if (pt_cmpR op_lt (pv 6) (pe_callB call_len (by rfl) T.len (by decide +kernel) (pa_cons (pv 1) pa_nil)) (nomark _)) (pss_one (ps_expr (pe_bm PySem.F.plainAttrs_list PySem.F.slot_list_append PySem.F.type_list_append mt_append (pv 3) (pa_cons (pe_tup (pa_cons pe_int (pa_cons (pv 5) (pa_cons (pv 6) (pa_cons pe_int (pa_cons (pv 5) (pa_cons (pe_op op_add (pv 6) pe_int) (pa_cons pe_int pa_nil)))))))) pa_nil)))) pss_nil)
      (pss_cons (ps_if (PW.pt (pw_and (pt_cmpR op_lt (pv 5) (pe_callB call_len (by rfl) T.len (by decide +kernel) (pa_cons (pv 0) pa_nil)) (nomark _)) (pw_and (pt_cmpR op_lt (pv 6) (pe_callB call_len (by rfl) T.len (by decide +kernel) (pa_cons (pv 1) pa_nil)) (nomark _)) (pw_and1 (pt_cmpR op_eq (pe_ix ix_str (pv 0) (pv 5) (fun _ _ => rfl)) (pe_ix ix_str (pv 1) (pv 6) (fun _ _ => rfl)) (nomark _)))))) (pss_one (ps_expr (pe_bm PySem.F.plainAttrs_list PySem.F.slot_list_append PySem.F.type_list_append mt_append (pv 3) (pa_cons (pe_tup (pa_cons pe_int (pa_cons (pv 5) (pa_cons (pv 6) (pa_cons pe_int (pa_cons (pe_op op_add (pv 5) pe_int) (pa_cons (pe_op op_add (pv 6) pe_int) (pa_cons pe_int pa_nil)))))))) pa_nil)))) pss_nil)
      (pss_one (ps_if (PW.pt (pw_and (pt_cmpR op_lt (pv 5) (pe_callB call_len (by rfl) T.len (by decide +kernel) (pa_cons (pv 0) pa_nil)) (nomark _)) (pw_and1 (pt_cmpR op_notN (pe_ix ix_list (pv 4) (pv 5) (fun _ _ => rfl)) pe_non (nomark _))))) (pss_one (ps_expr (pe_bm PySem.F.plainAttrs_list PySem.F.slot_list_append PySem.F.type_list_append mt_append (pv 3) (pa_cons (pe_tup (pa_cons pe_int (pa_cons (pv 5) (pa_cons (pv 6) (pa_cons pe_int (pa_cons (pe_ix ix_list (pv 4) (pv 5) (fun _ _ => rfl)) (pa_cons (pv 6) (pa_cons (pe_op op_add (pe_op op_sub (pe_ix ix_list (pv 4) (pv 5) (fun _ _ => rfl)) (pv 5)) (pv 2)) pa_nil)))))))) pa_nil)))) pss_nil)))))))))
      (pss_one (ps_ret (pv 3)))))), ?_⟩
    refine ⟨by show 0 ≤ sizeLine; decide, fun pl hpl => ?_⟩
    have sp := same_new (o := .lst []) hpl
    refine name_go ⟨_, rfl, x, rfl, by omega, fun b es H1 hb hb1 el le s1 => ?_⟩
    refine name_go ⟨_, rfl, _, _, rfl, ⟨xl, rfl⟩, _, _, rfl, rfl, _, rfl, by omega, by omega, ?_⟩
    have en : ((((x.length : Nat) : Int) + 1)).toNat = x.length + 1 := by omega
    have em : ((((y.length : Nat) : Int) + 1)).toNat = y.length + 1 := by omega
    have sH1 : Same H H1 := sp.trans s1
    have L0 : StL H1 pl [] := ⟨[], s1 _ _ upd_same, .nil⟩
    refine for_range (lo := 0) (fun i σ H' => ∃ (o5 o6 : Option V), σ = [some (.str x), some (.str y), some (.int (e : Nat)), some (.ref pl), some (.ref b), o5, o6] ∧ StL H' pl (stepsAll x y (leE x es) e i) ∧ H' b = some (.lst (es.map (endV x))) ∧ Same H H') ?_ ?_ ?_
    · exact ⟨_, _, rfl, L0, hb1, sH1⟩
    · rintro i σ H2 hi ⟨o5, o6, rfl, L2, hb2, s2⟩
      rw [en] at hi
      rw [show (0 : Int) + ((i : Nat) : Int) = ((i : Nat) : Int) from Int.zero_add _]
      dsimp only
      refine name_go ⟨_, rfl, _, _, rfl, ⟨yl, rfl⟩, _, _, rfl, rfl, _, rfl, by omega, by omega, ?_⟩
      refine for_range (lo := 0) (fun j σ H' => ∃ (o6 : Option V), σ = [some (.str x), some (.str y), some (.int (e : Nat)), some (.ref pl), some (.ref b), some (.int (i : Nat)), o6] ∧ StL H' pl (stepsAll x y (leE x es) e i ++ stepsRow x y (leE x es) e i j) ∧ H' b = some (.lst (es.map (endV x))) ∧ Same H H') ?_ ?_ ?_
      · refine ⟨_, rfl, ?_, hb2, s2⟩
        show StL H2 pl (stepsAll x y (leE x es) e i ++ [])
        rw [List.append_nil]
        exact L2
      · rintro j σ H3 hj ⟨o6, rfl, L3, hb3, s3⟩
        rw [em] at hj
        rw [show (0 : Int) + ((j : Nat) : Int) = ((j : Nat) : Int) from Int.zero_add _]
        have b1 := stepsAll_len (x := x) (y := y) (ends := leE x es) (e := e) (i := i)
        have b2 := stepsRow_len (x := x) (y := y) (ends := leE x es) (e := e) (i := i) (j := j)
        have b3 : i * (5 * (y.length + 1)) ≤ 100 * 505 := Nat.mul_le_mul (by omega) (by omega)
        generalize hA : stepsAll x y (leE x es) e i ++ stepsRow x y (leE x es) e i j = A at L3
        have lA : A.length ≤ 51005 := by rw [← hA, List.length_append]; omega
        refine name_go ?_
        dsimp only
        have one : ∀ (p : Prop) [Decidable p] (s : Step7), (if p then [s] else []).length ≤ 1 := fun p _ s => by split <;> simp
        have nb : b ≠ pl := fun z => by rw [z, upd_same] at hb; cases hb
        refine seq_mid (fun σ H' => σ = [some (.str x), some (.str y), some (.int (e : Nat)), some (.ref pl), some (.ref b), some (.int (i : Nat)), some (.int (j : Nat))] ∧ StL H' pl (A ++ [⟨2, i, j, 1, i, j, 0⟩]) ∧ H' b = some (.lst (es.map (endV x))) ∧ Same H H') (fun D' hD' => ?_) (fun σ H4 hm => ?_)
        · obtain ⟨xs, e1, _⟩ := L3.ex
          exact ⟨_, rfl, .inl ⟨rfl, _, SqL.of e1⟩, _, rfl, _, rfl, _, rfl, _, rfl, by show 7 ≤ sizeLine; decide, fun t ht => app7 (Q := fun _ H' => D'.nx [some (.str x), some (.str y), some (.int (e : Nat)), some (.ref pl), some (.ref b), some (.int (i : Nat)), some (.int (j : Nat))] H') ⟨2, i, j, 1, i, j, 0⟩ L3 hb3 nb s3 hpl (by omega) (fun H' f1 f2 f3 => hD' _ _ ⟨rfl, f1, f2, f3⟩) t ht⟩
        obtain ⟨rfl, L4, hb4, s4⟩ := hm
        have l4 : (A ++ [(⟨2, i, j, 1, i, j, 0⟩ : Step7)]).length ≤ 51006 := by rw [List.length_append, List.length_singleton]; omega
        generalize hA2 : A ++ [⟨2, i, j, 1, i, j, 0⟩] = A2 at L4 l4
        clear L3 hb3 s3
        refine seq_mid (fun σ H' => σ = [some (.str x), some (.str y), some (.int (e : Nat)), some (.ref pl), some (.ref b), some (.int (i : Nat)), some (.int (j : Nat))] ∧ StL H' pl (A2 ++ (if i < x.length then [⟨2, i, j, 2, i + 1, j, 1⟩] else [])) ∧ H' b = some (.lst (es.map (endV x))) ∧ Same H H') (fun D' hD' => ?_) (fun σ H4 hm => ?_)
        · refine lt_by xl (K := K) rfl rfl _ ?_
          by_cases c : i < x.length
          · rw [decide_eq_true c]
            refine iteT ?_
            obtain ⟨xs, e1, _⟩ := L4.ex
            exact ⟨_, rfl, .inl ⟨rfl, _, SqL.of e1⟩, _, rfl, _, rfl, _, rfl, _, _, rfl, rfl, _, rfl, by show 7 ≤ sizeLine; decide, fun t ht => app7 (Q := fun _ H' => D'.nx [some (.str x), some (.str y), some (.int (e : Nat)), some (.ref pl), some (.ref b), some (.int (i : Nat)), some (.int (j : Nat))] H') ⟨2, i, j, 2, i + 1, j, 1⟩ L4 hb4 nb s4 hpl (by omega) (fun H' f1 f2 f3 => hD' _ _ ⟨rfl, by rw [if_pos c]; exact f1, f2, f3⟩) t ht⟩
          · rw [decide_eq_false c]
            exact iteF (hD' _ _ ⟨rfl, by rw [if_neg c, List.append_nil]; exact L4, hb4, s4⟩)
        obtain ⟨rfl, L5, hb5, s5⟩ := hm
        have l5 : (A2 ++ (if i < x.length then [(⟨2, i, j, 2, i + 1, j, 1⟩ : Step7)] else [])).length ≤ 51007 := by have := one (i < x.length) ⟨2, i, j, 2, i + 1, j, 1⟩; rw [List.length_append]; omega
        generalize hA3 : A2 ++ (if i < x.length then [⟨2, i, j, 2, i + 1, j, 1⟩] else []) = A3 at L5 l5
        clear L4 hb4 s4
        refine seq_mid (fun σ H' => σ = [some (.str x), some (.str y), some (.int (e : Nat)), some (.ref pl), some (.ref b), some (.int (i : Nat)), some (.int (j : Nat))] ∧ StL H' pl (A3 ++ (if j < y.length then [(⟨2, i, j, 2, i, j + 1, 1⟩ : Step7)] else [])) ∧ H' b = some (.lst (es.map (endV x))) ∧ Same H H') (fun D' hD' => ?_) (fun σ H5 hm => ?_)
        · refine lt_by yl (K := K) rfl rfl _ ?_
          by_cases c : j < y.length
          · rw [decide_eq_true c]
            refine iteT ?_
            obtain ⟨xs, e1, _⟩ := L5.ex
            exact ⟨_, rfl, .inl ⟨rfl, _, SqL.of e1⟩, _, rfl, _, rfl, _, rfl, _, rfl, _, _, rfl, rfl, by show 7 ≤ sizeLine; decide, fun t ht => app7 (Q := fun _ H' => D'.nx [some (.str x), some (.str y), some (.int (e : Nat)), some (.ref pl), some (.ref b), some (.int (i : Nat)), some (.int (j : Nat))] H') ⟨2, i, j, 2, i, j + 1, 1⟩ L5 hb5 nb s5 hpl (by omega) (fun H' f1 f2 f3 => hD' _ _ ⟨rfl, by rw [if_pos c]; exact f1, f2, f3⟩) t ht⟩
          · rw [decide_eq_false c]
            exact iteF (hD' _ _ ⟨rfl, by rw [if_neg c, List.append_nil]; exact L5, hb5, s5⟩)
        obtain ⟨rfl, L6, hb6, s6⟩ := hm
        have l6 : (A3 ++ (if j < y.length then [(⟨2, i, j, 2, i, j + 1, 1⟩ : Step7)] else [])).length ≤ 51008 := by have := one (j < y.length) ⟨2, i, j, 2, i, j + 1, 1⟩; rw [List.length_append]; omega
        generalize hA4 : A3 ++ (if j < y.length then [(⟨2, i, j, 2, i, j + 1, 1⟩ : Step7)] else []) = A4 at L6 l6
        clear L5 hb5 s5
        refine seq_mid (fun σ H' => σ = [some (.str x), some (.str y), some (.int (e : Nat)), some (.ref pl), some (.ref b), some (.int (i : Nat)), some (.int (j : Nat))] ∧ StL H' pl (A4 ++ (if i < x.length ∧ j < y.length ∧ x.cps.toList[i]? = y.cps.toList[j]? then [(⟨1, i, j, 1, i + 1, j + 1, 0⟩ : Step7)] else [])) ∧ H' b = some (.lst (es.map (endV x))) ∧ Same H H') (fun D' hD' => ?_) (fun σ H6 hm => ?_)
        · refine and_by (p := i < x.length) (q := j < y.length ∧ x.cps.toList[i]? = y.cps.toList[j]?) (lt_by xl (K := K) rfl rfl) (fun ci k' q => and_by (p := j < y.length) (q := x.cps.toList[i]? = y.cps.toList[j]?) (lt_by yl (K := K) rfl rfl) (fun cj k' q => ?_) q) ?_
          · obtain ⟨c1, g1⟩ : ∃ c, x.cps.toList[i]? = some c := ⟨x.cps.toList[i]'(by omega), List.getElem?_eq_getElem (by omega)⟩
            obtain ⟨c2, g2⟩ : ∃ c, y.cps.toList[j]? = some c := ⟨y.cps.toList[j]'(by omega), List.getElem?_eq_getElem (by omega)⟩
            refine ⟨_, rfl, _, rfl, x, _, c1, rfl, rfl, xl, atI_nat g1, _, rfl, _, rfl, y, _, c2, rfl, rfl, yl, atI_nat g2, rfl, _, rfl, ?_⟩
            rw [show decide (V.str ⟨#[c1]⟩ = V.str ⟨#[c2]⟩) = decide (x.cps.toList[i]? = y.cps.toList[j]?) from decide_eq_decide.mpr ⟨fun z => by rw [g1, g2]; cases z; rfl, fun z => by rw [g1, g2] at z; cases z; rfl⟩]
            exact q
          by_cases c : i < x.length ∧ j < y.length ∧ x.cps.toList[i]? = y.cps.toList[j]?
          · rw [decide_eq_true c]
            refine iteT ?_
            obtain ⟨xs, e1, _⟩ := L6.ex
            exact ⟨_, rfl, .inl ⟨rfl, _, SqL.of e1⟩, _, rfl, _, rfl, _, rfl, _, _, rfl, rfl, _, rfl, _, _, rfl, rfl, by show 7 ≤ sizeLine; decide, fun t ht => app7 (Q := fun _ H' => D'.nx [some (.str x), some (.str y), some (.int (e : Nat)), some (.ref pl), some (.ref b), some (.int (i : Nat)), some (.int (j : Nat))] H') ⟨1, i, j, 1, i + 1, j + 1, 0⟩ L6 hb6 nb s6 hpl (by omega) (fun H' f1 f2 f3 => hD' _ _ ⟨rfl, by rw [if_pos c]; exact f1, f2, f3⟩) t ht⟩
          · rw [decide_eq_false c]
            exact iteF (hD' _ _ ⟨rfl, by rw [if_neg c, List.append_nil]; exact L6, hb6, s6⟩)
        obtain ⟨rfl, L7, hb7, s7⟩ := hm
        have l7 : (A4 ++ (if i < x.length ∧ j < y.length ∧ x.cps.toList[i]? = y.cps.toList[j]? then [(⟨1, i, j, 1, i + 1, j + 1, 0⟩ : Step7)] else [])).length ≤ 51009 := by have := one (i < x.length ∧ j < y.length ∧ x.cps.toList[i]? = y.cps.toList[j]?) ⟨1, i, j, 1, i + 1, j + 1, 0⟩; rw [List.length_append]; omega
        generalize hA5 : A4 ++ (if i < x.length ∧ j < y.length ∧ x.cps.toList[i]? = y.cps.toList[j]? then [(⟨1, i, j, 1, i + 1, j + 1, 0⟩ : Step7)] else []) = A5 at L7 l7
        clear L6 hb6 s6
        have fin : ∀ L : List Step7, (match leE x es i with | some t => if i < x.length then [(⟨1, i, j, 2, t, j, t - i + e⟩ : Step7)] else [] | none => []) = L → stepsAll x y (leE x es) e i ++ stepsRow x y (leE x es) e i (j + 1) = A5 ++ L := fun L hL => by
          rw [stepsRow_snoc, ← List.append_assoc, hA, ← hA5, ← hA4, ← hA3, ← hA2]
          unfold stepsAt
          rw [hL]
          simp only [List.append_assoc]
        refine and_by (p := i < x.length) (q := (leE x es i).isSome = true) (lt_by xl (K := K) rfl rfl) (fun ci k' q => ?_) ?_
        · obtain ⟨w0, hw⟩ : ∃ w0, es[i]? = some w0 := ⟨es[i]'(by omega), List.getElem?_eq_getElem (by omega)⟩
          have at1 : atI (es.map (endV x)) ((i : Nat) : Int) = some (endV x w0) := atI_nat (by rw [List.getElem?_map, hw]; rfl)
          refine ⟨_, rfl, _, rfl, b, _, _, _, rfl, rfl, SqL.of hb7, at1, rfl, _, rfl, ?_⟩
          have lE : leE x es i = if w0 ≤ x.length then some w0 else none := by unfold leE; rw [hw]
          rw [lE] at q
          by_cases c : w0 ≤ x.length
          · rw [if_pos c] at q
            rw [show endV x w0 = .int (w0 : Nat) from if_pos c, int_non']
            exact q
          · rw [if_neg c] at q
            rw [show endV x w0 = .non from if_neg c, non_non']
            exact q
        by_cases c : i < x.length ∧ (leE x es i).isSome = true
        · rw [decide_eq_true c]
          obtain ⟨ci, cs⟩ := c
          obtain ⟨w0, hw⟩ : ∃ w0, es[i]? = some w0 := ⟨es[i]'(by omega), List.getElem?_eq_getElem (by omega)⟩
          have lE : leE x es i = if w0 ≤ x.length then some w0 else none := by unfold leE; rw [hw]
          have c : w0 ≤ x.length := Decidable.byContradiction fun z => by rw [lE, if_neg z] at cs; cases cs
          rw [if_pos c] at lE
          have at1 : atI (es.map (endV x)) ((i : Nat) : Int) = some (.int (w0 : Nat)) := atI_nat (by rw [List.getElem?_map, hw]; exact congrArg some (if_pos c))
          have gt := (le i w0 hw).gt
          refine iteT ?_
          obtain ⟨xs, e1, _⟩ := L7.ex
          refine ⟨_, rfl, .inl ⟨rfl, _, SqL.of e1⟩, _, rfl, _, rfl, _, rfl, _, rfl, b, _, _, _, rfl, rfl, SqL.of hb7, at1, _, rfl, _, rfl, _, rfl, b, _, _, _, rfl, rfl, SqL.of hb7, at1, _, rfl, _, _, rfl, rfl, _, rfl, _, _, rfl, rfl, by show 7 ≤ sizeLine; decide, fun t ht => ?_⟩
          dsimp only
          rw [show ((w0 : Nat) : Int) - ((i : Nat) : Int) + ((e : Nat) : Int) = ((w0 - i + e : Nat) : Int) by omega]
          refine app7 (Q := fun _ H' => ∃ o6 : Option V, [some (.str x), some (.str y), some (.int (e : Nat)), some (.ref pl), some (.ref b), some (.int (i : Nat)), some (.int (j : Nat))] = [some (.str x), some (.str y), some (.int (e : Nat)), some (.ref pl), some (.ref b), some (.int (i : Nat)), o6] ∧ StL H' pl (stepsAll x y (leE x es) e i ++ stepsRow x y (leE x es) e i (j + 1)) ∧ H' b = some (.lst (es.map (endV x))) ∧ Same H H') ⟨1, i, j, 2, w0, j, w0 - i + e⟩ L7 hb7 nb s7 hpl (by omega) (fun H' f1 f2 f3 => ⟨_, rfl, ?_, f2, f3⟩) t ht
          rw [fin [⟨1, i, j, 2, w0, j, w0 - i + e⟩] (by rw [lE]; exact if_pos ci)]
          exact f1
        · rw [decide_eq_false c]
          refine iteF ⟨_, rfl, ?_, hb7, s7⟩
          rw [fin [] ?_, List.append_nil]
          · exact L7
          · cases q : leE x es i with
            | none => rfl
            | some t => exact if_neg fun z => c ⟨z, by rw [q]; rfl⟩
      · rintro σ H3 ⟨o6, rfl, L3, hb3, s3⟩
        rw [em, ← stepsAll_snoc] at L3
        exact ⟨_, _, rfl, L3, hb3, s3⟩
    · rintro σ H2 ⟨o5, o6, rfl, L2, hb2, s2⟩
      rw [en] at L2
      exact ⟨_, rfl, k pl es H2 el le L2 s2⟩
end
end Vk
set_option Elab.async false
set_option maxRecDepth 100000
set_option linter.all false
set_option maxHeartbeats 4000000
namespace Vk
open PySem PySem.Spec PyProof.Rows L2 StX
def gi (c : List Int) (j : Nat) : Int := c[j]?.getD 0
theorem at0 {a : V} {l : List V} : atI (a :: l) (0 : Int) = some a := atI_nat (j := 0) rfl
theorem at1 {a b : V} {l : List V} : atI (a :: b :: l) (1 : Int) = some b := atI_nat (j := 1) rfl
theorem gi_at {c : List Int} {j : Nat} (h : j < c.length) : atI (c.map V.int) ((j : Nat) : Int) = some (.int (gi c j)) := atI_nat (by
  unfold gi
  rw [List.getElem?_map, List.getElem?_eq_getElem h]
  rfl)
theorem ent_gi {L : List (List Int)} {i : Nat} {c : List Int} (h : L[i]? = some c) (j : Nat) : ent L i j = gi c j := by
  unfold ent gi
  rw [h]
  rfl
theorem gi_end {c : List Int} {n : Nat} (h : c.length = n + 1) : atI (c.map V.int) (-1) = some (.int (gi c n)) := atI_end (n := n) (by
  unfold gi
  rw [List.getElem?_map, List.getElem?_eq_getElem (by omega)]
  rfl) (by rw [List.length_map]; exact h)
theorem GridL.row {H : Hp} {n m : Nat} {v : V} {L : List (List Int)} (g : GridL H n m v L) {t : Addr} {rows : List V} (e : v = .ref t) (ht : H t = some (.tup rows)) {i : Nat} (hi : i < n) : ∃ u c, rows[i]? = some (.ref u) ∧ H u = some (.tup (c.map V.int)) ∧ L[i]? = some c ∧ c.length = m := by
  obtain ⟨rows2, h1, h2, h3⟩ := g
  cases h1.inj ⟨t, e, ht⟩
  have gl := paired_len h2
  obtain ⟨v, hv⟩ : ∃ v, rows[i]? = some v := ⟨rows[i]'(by omega), List.getElem?_eq_getElem (by omega)⟩
  obtain ⟨c, hc, ⟨u, rfl, hu⟩, hl⟩ := paired_at h2 hv
  exact ⟨u, c, hv, hu, hc, hl⟩
theorem GridL.size {H : Hp} {n m : Nat} {v : V} {L : List (List Int)} (g : GridL H n m v L) {t : Addr} {rows : List V} (e : v = .ref t) (ht : H t = some (.tup rows)) : rows.length = n := by
  obtain ⟨rows2, h1, h2, h3⟩ := g
  cases h1.inj ⟨t, e, ht⟩
  rw [paired_len h2, h3]

theorem GridL.at {H : Hp} {n m : Nat} {g : Addr} {L : List (List Int)} (gr : GridL H (n + 1) (m + 1) (.ref g) L) {i j : Nat} (hi : i ≤ n) (hj : j ≤ m) : ∃ (rows : List V) (u : Addr) (c : List Int), H g = some (.tup rows) ∧ atI rows ((i : Nat) : Int) = some (.ref u) ∧ H u = some (.tup (c.map V.int)) ∧ atI (c.map V.int) ((j : Nat) : Int) = some (.int (ent L i j)) := by
  obtain ⟨rows, ⟨g', e, hg⟩, _⟩ := id gr
  cases e
  obtain ⟨u, c, h1, h2, h3, h4⟩ := gr.row rfl hg (i := i) (by omega)
  exact ⟨rows, u, c, hg, atI_nat h1, h2, by rw [ent_gi h3]; exact gi_at (by omega)⟩
theorem GridL.last {H : Hp} {n m : Nat} {g : Addr} {L : List (List Int)} (gr : GridL H (n + 1) (m + 1) (.ref g) L) : ∃ (rows : List V) (u : Addr) (c : List Int), H g = some (.tup rows) ∧ atI rows (-1) = some (.ref u) ∧ H u = some (.tup (c.map V.int)) ∧ atI (c.map V.int) (-1) = some (.int (ent L n m)) := by
  obtain ⟨rows, ⟨g', e, hg⟩, _⟩ := id gr
  cases e
  have sz := gr.size rfl hg
  obtain ⟨u, c, h1, h2, h3, h4⟩ := gr.row rfl hg (i := n) (by omega)
  exact ⟨rows, u, c, hg, atI_end h1 (by omega), h2, by rw [ent_gi h3]; exact gi_end h4⟩
theorem GridL.ref {H : Hp} {n m : Nat} {v : V} {L : List (List Int)} (gr : GridL H n m v L) : ∃ g, v = .ref g := by
  obtain ⟨rows, ⟨g, e, hg⟩, _⟩ := gr
  exact ⟨g, e⟩
/-- the grid of a number: 1 the kept letters, 2 the windows -/
def sel (A F : List (List Int)) (k : Nat) : List (List Int) := if k = 1 then A else F
def Sat (A F : List (List Int)) (s : Step7) : Prop := ent (sel A F s.kb) s.ib s.jb ≤ ent (sel A F s.k) s.i s.j + (s.c : Nat)
structure StepOk (x y : Str) (s : Step7) : Prop where
  k : s.k = 1 ∨ s.k = 2
  kb : s.kb = 1 ∨ s.kb = 2
  i : s.i ≤ x.length
  j : s.j ≤ y.length
  ib : s.ib ≤ x.length
  jb : s.jb ≤ y.length
theorem mem_if {p : Prop} [Decidable p] {s t : Step7} (h : s ∈ (if p then [t] else [])) : p ∧ s = t := by
  split at h
  · rename_i q
    exact ⟨q, List.mem_singleton.mp h⟩
  · cases h
theorem stepsAt_mem {x y : Str} {ends : Nat → Option Nat} {e i j : Nat} {s : Step7} : s ∈ stepsAt x y ends e i j ↔ s = ⟨2, i, j, 1, i, j, 0⟩ ∨ (i < x.length ∧ s = ⟨2, i, j, 2, i + 1, j, 1⟩) ∨ (j < y.length ∧ s = ⟨2, i, j, 2, i, j + 1, 1⟩) ∨ ((i < x.length ∧ j < y.length ∧ x.cps.toList[i]? = y.cps.toList[j]?) ∧ s = ⟨1, i, j, 1, i + 1, j + 1, 0⟩) ∨ ∃ t, ends i = some t ∧ i < x.length ∧ s = ⟨1, i, j, 2, t, j, t - i + e⟩ := by
  unfold stepsAt
  rw [List.mem_append, List.mem_append, List.mem_append, List.mem_append, List.mem_singleton]
  constructor
  · rintro ((((h | h) | h) | h) | h)
    · exact .inl h
    · exact .inr (.inl (mem_if h))
    · exact .inr (.inr (.inl (mem_if h)))
    · exact .inr (.inr (.inr (.inl (mem_if h))))
    · cases q : ends i with
      | none => rw [q] at h; cases h
      | some t =>
        rw [q] at h
        exact .inr (.inr (.inr (.inr ⟨t, rfl, mem_if h⟩)))
  · rintro (h | ⟨c, h⟩ | ⟨c, h⟩ | ⟨c, h⟩ | ⟨t, q, c, h⟩)
    · exact .inl (.inl (.inl (.inl h)))
    · exact .inl (.inl (.inl (.inr (by rw [if_pos c]; exact List.mem_singleton.mpr h))))
    · exact .inl (.inl (.inr (by rw [if_pos c]; exact List.mem_singleton.mpr h)))
    · exact .inl (.inr (by rw [if_pos c]; exact List.mem_singleton.mpr h))
    · refine .inr ?_
      rw [q]
      show s ∈ (if i < x.length then _ else _)
      rw [if_pos c]
      exact List.mem_singleton.mpr h
theorem stepsAll_mem {x y : Str} {ends : Nat → Option Nat} {e n : Nat} {s : Step7} : s ∈ stepsAll x y ends e n ↔ ∃ i j, i < n ∧ j < y.length + 1 ∧ s ∈ stepsAt x y ends e i j := by
  unfold stepsAll stepsRow
  constructor
  · intro h
    obtain ⟨l, hl, hs⟩ := List.mem_flatten.mp h
    obtain ⟨i, hi, rfl⟩ := List.mem_map.mp hl
    obtain ⟨l2, hl2, hs2⟩ := List.mem_flatten.mp hs
    obtain ⟨j, hj, rfl⟩ := List.mem_map.mp hl2
    exact ⟨i, j, List.mem_range.mp hi, List.mem_range.mp hj, hs2⟩
  · rintro ⟨i, j, hi, hj, h⟩
    exact List.mem_flatten.mpr ⟨_, List.mem_map.mpr ⟨i, List.mem_range.mpr hi, rfl⟩, List.mem_flatten.mpr ⟨_, List.mem_map.mpr ⟨j, List.mem_range.mpr hj, rfl⟩, h⟩⟩
theorem leE_end {x : Str} {es : List Nat} (el : es.length = x.length) (le : ∀ i e, es[i]? = some e → Lend x i e) {i t : Nat} : leE x es i = some t ↔ EndX x i t := by
  rw [leE_es]
  constructor
  · rintro ⟨h1, h2⟩
    exact ⟨le i t h1, h2⟩
  · rintro ⟨h1, h2⟩
    have gt := h1.gt
    have hw : es[i]? = some (es[i]'(by omega)) := List.getElem?_eq_getElem (by omega)
    rw [lend_uniq h1 (le i _ hw)]
    exact ⟨hw, by rw [← lend_uniq h1 (le i _ hw)]; exact h2⟩
theorem steps_ok {x y : Str} {es : List Nat} (el : es.length = x.length) (le : ∀ i e, es[i]? = some e → Lend x i e) {e : Nat} {s : Step7} (h : s ∈ stepsAll x y (leE x es) e (x.length + 1)) : StepOk x y s := by
  obtain ⟨i, j, hi, hj, h⟩ := stepsAll_mem.mp h
  rcases stepsAt_mem.mp h with rfl | ⟨c, rfl⟩ | ⟨c, rfl⟩ | ⟨⟨c1, c2, _⟩, rfl⟩ | ⟨t, q, c, rfl⟩
  · exact ⟨.inr rfl, .inl rfl, by show i ≤ _; omega, by show j ≤ _; omega, by show i ≤ _; omega, by show j ≤ _; omega⟩
  · exact ⟨.inr rfl, .inr rfl, by show i ≤ _; omega, by show j ≤ _; omega, by show i + 1 ≤ _; omega, by show j ≤ _; omega⟩
  · exact ⟨.inr rfl, .inr rfl, by show i ≤ _; omega, by show j ≤ _; omega, by show i ≤ _; omega, by show j + 1 ≤ _; omega⟩
  · exact ⟨.inl rfl, .inl rfl, by show i ≤ _; omega, by show j ≤ _; omega, by show i + 1 ≤ _; omega, by show j + 1 ≤ _; omega⟩
  · have := ((leE_end el le).mp q).2
    exact ⟨.inl rfl, .inr rfl, by show i ≤ _; omega, by show j ≤ _; omega, by show t ≤ _; omega, by show j ≤ _; omega⟩
theorem steps_low {x y : Str} {es : List Nat} (el : es.length = x.length) (le : ∀ i e, es[i]? = some e → Lend x i e) {e : Nat} {A F : List (List Int)} : (∀ s ∈ stepsAll x y (leE x es) e (x.length + 1), Sat A F s) ↔ Low A F x y e := by
  constructor
  · intro h i j hi hj
    have at' : ∀ s ∈ stepsAt x y (leE x es) e i j, Sat A F s := fun s hs => h s (stepsAll_mem.mpr ⟨i, j, by omega, by omega, hs⟩)
    refine ⟨?_, fun c => ?_, fun c => ?_, fun c1 c2 c3 => ?_, fun t ht => ?_⟩
    · have q : ent A i j ≤ ent F i j + ((0 : Nat) : Int) := at' _ (stepsAt_mem.mpr (.inl rfl))
      omega
    · have q : ent F (i + 1) j ≤ ent F i j + ((1 : Nat) : Int) := at' _ (stepsAt_mem.mpr (.inr (.inl ⟨c, rfl⟩)))
      omega
    · have q : ent F i (j + 1) ≤ ent F i j + ((1 : Nat) : Int) := at' _ (stepsAt_mem.mpr (.inr (.inr (.inl ⟨c, rfl⟩))))
      omega
    · have q : ent A (i + 1) (j + 1) ≤ ent A i j + ((0 : Nat) : Int) := at' _ (stepsAt_mem.mpr (.inr (.inr (.inr (.inl ⟨⟨c1, c2, c3⟩, rfl⟩)))))
      omega
    · have gt := ht.1.gt
      have tl := ht.2
      have q : ent F t j ≤ ent A i j + ((t - i + e : Nat) : Int) := at' _ (stepsAt_mem.mpr (.inr (.inr (.inr (.inr ⟨t, (leE_end el le).mpr ht, by omega, rfl⟩)))))
      omega
  · intro h s hs
    obtain ⟨i, j, hi, hj, hs⟩ := stepsAll_mem.mp hs
    obtain ⟨a1, a2, a3, a4, a5⟩ := h i j (by omega) (by omega)
    rcases stepsAt_mem.mp hs with rfl | ⟨c, rfl⟩ | ⟨c, rfl⟩ | ⟨⟨c1, c2, c3⟩, rfl⟩ | ⟨t, q, c, rfl⟩
    · show ent A i j ≤ ent F i j + ((0 : Nat) : Int)
      omega
    · show ent F (i + 1) j ≤ ent F i j + ((1 : Nat) : Int)
      have := a2 c
      omega
    · show ent F i (j + 1) ≤ ent F i j + ((1 : Nat) : Int)
      have := a3 c
      omega
    · show ent A (i + 1) (j + 1) ≤ ent A i j + ((0 : Nat) : Int)
      have := a4 c1 c2 c3
      omega
    · have ht := (leE_end el le).mp q
      have gt := ht.1.gt
      have := a5 t ht
      show ent F t j ≤ ent A i j + ((t - i + e : Nat) : Int)
      omega
end Vk
set_option Elab.async false
set_option maxRecDepth 100000
set_option linter.all false
set_option maxHeartbeats 4000000
namespace Vk
open PySem PySem.Spec PyProof.Rows L2 StX
theorem v_of {σ : L2.St} {H : Hp} {n : Nat} {v : V} (h : σ[n]? = some (some v)) : ∀ Q : VK, Q v H → tVar n σ H Q := fun Q q => ⟨v, h, q⟩
theorem c_of {σ : L2.St} {H : Hp} {v : V} : ∀ Q : VK, Q v H → tC v σ H Q := fun Q q => q
theorem m1_of {σ : L2.St} {H : Hp} : ∀ Q : VK, Q (.int (-1)) H → tUn (rU fun i => V.int (-i)) (tC (.int 1)) σ H Q := fun Q q => ⟨_, rfl, q⟩
theorem gt_by {σ : L2.St} {H : Hp} {ta tb : TE} {a b : Int} (h1 : ∀ Q : VK, Q (.int a) H → ta σ H Q) (h2 : ∀ Q : VK, Q (.int b) H → tb σ H Q) : ∀ k' : Bool → Hp → Prop, k' (decide (b < a)) H → tTest (tOp (rI0 fun i j => V.bl (decide (j < i))) ta tb) σ H k' := fun k' q => h1 _ (h2 _ ⟨_, _, rfl, rfl, _, rfl, q⟩)
theorem add_by {σ : L2.St} {H : Hp} {ta tb : TE} {a b : Int} (h1 : ∀ Q : VK, Q (.int a) H → ta σ H Q) (h2 : ∀ Q : VK, Q (.int b) H → tb σ H Q) : ∀ Q : VK, Q (.int (a + b)) H → tOp (rI0 fun i j => V.int (i + j)) ta tb σ H Q := fun Q q => h1 _ (h2 _ ⟨_, _, rfl, rfl, q⟩)
theorem sub_by {σ : L2.St} {H : Hp} {ta tb : TE} {a b : Int} (h1 : ∀ Q : VK, Q (.int a) H → ta σ H Q) (h2 : ∀ Q : VK, Q (.int b) H → tb σ H Q) : ∀ Q : VK, Q (.int (a - b)) H → tOp (rI0 fun i j => V.int (i - j)) ta tb σ H Q := fun Q q => h1 _ (h2 _ ⟨_, _, rfl, rfl, q⟩)
theorem ne_by {σ : L2.St} {H : Hp} {ta tb : TE} {a b : Int} (h1 : ∀ Q : VK, Q (.int a) H → ta σ H Q) (h2 : ∀ Q : VK, Q (.int b) H → tb σ H Q) : ∀ k' : Bool → Hp → Prop, k' (decide (a ≠ b)) H → tTest (tOp rNe ta tb) σ H k' := fun k' q => h1 _ (h2 _ ⟨rfl, _, rfl, by
  rw [show (!decide (V.int a = V.int b)) = decide (a ≠ b) by
    by_cases c : a = b
    · rw [c]; simp
    · rw [decide_eq_false fun z => c (V.int.inj z), decide_eq_true c]; rfl]
  exact q⟩)
theorem ix_by {K : PySem.W.Frag} {σ : L2.St} {H : Hp} {tv tk : TE} {t : Addr} {xs : List V} {k : Int} {v : V} (ht : H t = some (.tup xs)) (e : atI xs k = some v) (h0 : ∀ Q : VK, Q (.ref t) H → tv σ H Q) (h1 : ∀ Q : VK, Q (.int k) H → tk σ H Q) : ∀ Q : VK, Q v H → tOp (rIxT K) tv tk σ H Q := fun Q q => h0 _ (h1 _ ⟨t, xs, k, v, rfl, rfl, SqT.of ht, e, q⟩)
theorem ent_by {K : PySem.W.Frag} {σ : L2.St} {H : Hp} {tg ti tj : TE} {g : Addr} {L : List (List Int)} {n m i j : Nat} (gr : GridL H (n + 1) (m + 1) (.ref g) L) (hi : i ≤ n) (hj : j ≤ m) (h0 : ∀ Q : VK, Q (.ref g) H → tg σ H Q) (h1 : ∀ Q : VK, Q (.int (i : Nat)) H → ti σ H Q) (h2 : ∀ Q : VK, Q (.int (j : Nat)) H → tj σ H Q) : ∀ Q : VK, Q (.int (ent L i j)) H → tOp (rIxT K) (tOp (rIxT K) tg ti) tj σ H Q := by
  obtain ⟨rows, u, c, a1, a2, a3, a4⟩ := gr.at hi hj
  exact ix_by a3 a4 (ix_by a1 a2 h0 h1) h2
theorem end_by {K : PySem.W.Frag} {σ : L2.St} {H : Hp} {tg : TE} {g : Addr} {L : List (List Int)} {n m : Nat} (gr : GridL H (n + 1) (m + 1) (.ref g) L) (h0 : ∀ Q : VK, Q (.ref g) H → tg σ H Q) : ∀ Q : VK, Q (.int (ent L n m)) H → tOp (rIxT K) (tOp (rIxT K) tg (tUn (rU fun i => V.int (-i)) (tC (.int 1)))) (tUn (rU fun i => V.int (-i)) (tC (.int 1))) σ H Q := by
  obtain ⟨rows, u, c, a1, a2, a3, a4⟩ := gr.last
  exact ix_by a3 a4 (ix_by a1 a2 h0 m1_of) m1_of
theorem at2 {a b c : V} {l : List V} : atI (a :: b :: c :: l) (2 : Int) = some c := atI_nat (j := 2) rfl
section
variable {P : Program} {w : World} {K : PySem.W.Frag} {mg : Str → Option Value} {base : Heap}
def spIsPr : Sp := fun vs H Q _ => ∃ (x y : Str) (tot : Int) (v : V) (e B : Nat), vs = [.str x, .str y, .int tot, v, .int (e : Nat)] ∧ IsV H B 3 v ∧ B ≤ 5000 ∧ x.length ≤ 100 ∧ y.length ≤ 100 ∧ ∀ b H', Same H H' → (b = true ↔ PriP H x y e tot v) → Q (.bl b) H'
theorem PriP.three {H : Hp} {x y : Str} {e : Nat} {tot : Int} {v : V} {xs : List V} (h : PriP H x y e tot v) (t : TupV H v xs) : ∃ a f A F, xs = [.str "prices", a, f] ∧ GridL H (x.length + 1) (y.length + 1) a A ∧ GridL H (x.length + 1) (y.length + 1) f F ∧ PricesL A F x y e tot := by
  obtain ⟨a, f, A, F, h1, h2, h3, h4⟩ := h
  exact ⟨a, f, A, F, t.inj h1, h2, h3, h4⟩
abbrev s_is_prices : Stmt := top 16
theorem sc_is_prices : FnScope ["one", "other", "number", "value", "each", "kind", "i", "j", "kind_behind", "i_behind", "j_behind", "cost"] ["one", "other", "number", "value", "each"] (defScope s_is_prices) := ⟨rfl, rfl, rfl, by decide +kernel, rfl, by decide +kernel, by decide +kernel⟩
theorem b_is_prices {f : Addr} {fd : FuncData} (F : Fun K "is_prices" "is_prices" s_is_prices f fd) (T : Txt mg) (c_is_grid : CalG P w K mg base CX0 2 "is_grid" spGridG) (c_steps_on : CalG P w K mg base CX0 3 "steps_on" spSteps) : FnG P w K mg base CX0 4 f fd ["one", "other", "number", "value", "each"] spIsPr := by
  refine okG0 F sc_is_prices (fun vs H Q E h => ?_) (fun cdv A outer s H vs Q E hg hr h => ?_)
  · obtain ⟨x, y, tot, v, e, B, rfl, _⟩ := h
    rfl
  · have hu := hu_of hr
    have hu64 := hr.units
    obtain ⟨x, y, tot, v, e, B, rfl, iv, hB, hx, hy, k⟩ := h
    have xl : x.length ≤ sizeLine := Nat.le_of_lt (fewL (by omega))
    have yl : y.length ≤ sizeLine := Nat.le_of_lt (fewL (by omega))
    obtain ⟨ty, tyx, ⟨bt, kt, ht1, ht0⟩, _⟩ := kit_any (K := K) iv
    refine ⟨_, (pss_cons (ps_if (PW.pt (pw_or (pt_not (pt_val (pe_callB call_isi (by rfl) T.isinstance (by decide +kernel) (pa_cons (pv 3) (pa_cons (pe_bltn (v := .ty "tuple") (by rfl) T.tuple rfl rfl) pa_nil))))) (pw_or (pt_cmpR op_ne (pe_callB call_len (by rfl) T.len (by decide +kernel) (pa_cons (pv 3) pa_nil)) pe_int (nomark _)) (pw_or1 (pt_cmpR (op_neAS hu64) (pe_ix ix_tup (pv 3) pe_int (fun _ _ => rfl)) pe_str (nomark _)))))) (pss_one (ps_ret pe_bl)) pss_nil)
      (pss_cons (ps_if (PW.pt (pw_or (pt_not (pt_val (pe_cG c_is_grid hg hr (by decide) pass0 (pa_cons (pe_ix ix_tup (pv 3) pe_int (fun _ _ => rfl)) (pa_cons (pe_op op_add (pe_callB call_len (by rfl) T.len (by decide +kernel) (pa_cons (pv 0) pa_nil)) pe_int) (pa_cons (pe_op op_add (pe_callB call_len (by rfl) T.len (by decide +kernel) (pa_cons (pv 1) pa_nil)) pe_int) pa_nil)))))) (pw_or1 (pt_not (pt_val (pe_cG c_is_grid hg hr (by decide) pass0 (pa_cons (pe_ix ix_tup (pv 3) pe_int (fun _ _ => rfl)) (pa_cons (pe_op op_add (pe_callB call_len (by rfl) T.len (by decide +kernel) (pa_cons (pv 0) pa_nil)) pe_int) (pa_cons (pe_op op_add (pe_callB call_len (by rfl) T.len (by decide +kernel) (pa_cons (pv 1) pa_nil)) pe_int) pa_nil))))))))) (pss_one (ps_ret pe_bl)) pss_nil)
      (pss_cons (ps_if (PW.pt (pw_or (pt_cmpR op_ne (pe_ix ix_tup (pe_ix ix_tup (pe_ix ix_tup (pv 3) pe_int (fun _ _ => rfl)) pe_int (fun _ _ => rfl)) pe_int (fun _ _ => rfl)) pe_int (nomark _)) (pw_or1 (pt_cmpR op_ne (pe_ix ix_tup (pe_ix ix_tup (pe_ix ix_tup (pv 3) pe_int (fun _ _ => rfl)) (pe_un un_neg pe_int) (fun _ _ => rfl)) (pe_un un_neg pe_int) (fun _ _ => rfl)) (pv 2) (nomark _))))) (pss_one (ps_ret pe_bl)) pss_nil)
      (pss_cons (ps_for PassesOwn.never rfl (pi_list (pe_cG c_steps_on hg hr (by decide) pass0 (pa_cons (pv 0) (pa_cons (pv 1) (pa_cons (pv 4) pa_nil))))) (pg_tup rfl (pgs_cons (pg_name (i := 5) sc_is_prices.nd rfl (Or.inl rfl)) (pgs_cons (pg_name (i := 6) sc_is_prices.nd rfl (Or.inl rfl)) (pgs_cons (pg_name (i := 7) sc_is_prices.nd rfl (Or.inl rfl)) (pgs_cons (pg_name (i := 8) sc_is_prices.nd rfl (Or.inl rfl)) (pgs_cons (pg_name (i := 9) sc_is_prices.nd rfl (Or.inl rfl)) (pgs_cons (pg_name (i := 10) sc_is_prices.nd rfl (Or.inl rfl)) (pgs_cons (pg_name (i := 11) sc_is_prices.nd rfl (Or.inl rfl)) pgs_nil)))))))) (pss_one (ps_if (pt_cmpR op_gt (pe_ix ix_tup (pe_ix ix_tup (pe_ix ix_tup (pv 3) (pv 8) (fun _ _ => rfl)) (pv 9) (fun _ _ => rfl)) (pv 10) (fun _ _ => rfl)) (pe_op op_add (pe_ix ix_tup (pe_ix ix_tup (pe_ix ix_tup (pv 3) (pv 5) (fun _ _ => rfl)) (pv 6) (fun _ _ => rfl)) (pv 7) (fun _ _ => rfl)) (pv 11)) (nomark _)) (pss_one (ps_ret pe_bl)) pss_nil)))
      (pss_one (ps_ret pe_bl)))))), ?_⟩
    refine ⟨_, rfl, v, .ty "tuple", ty, .type "tuple", bt, rfl, .ty "tuple", tyx, kt, ?_⟩
    cases bt with
    | false => exact ⟨false, rfl, iteT (k false H Same.rfl ⟨nofun, fun ⟨a, f, A, F, h, _⟩ => absurd h (ht0 rfl _)⟩)⟩
    | true =>
      obtain ⟨xs, t, rfl, ht⟩ := ht1 rfl
      have tv : TupV H (.ref t) xs := ⟨t, rfl, ht⟩
      have itm := iv.items tv
      refine ⟨true, rfl, iteF ?_⟩
      refine ⟨_, rfl, _, _, rfl, .inr ⟨_, SqT.of ht, rfl⟩, rfl, _, rfl, ?_⟩
      match xs, ht, tv, itm with
      | [va, vb, vc], ht, tv, itm =>
        refine iteF ?_
        refine ⟨_, rfl, t, _, _, _, rfl, rfl, SqT.of ht, at0, "prices", rfl, ?_⟩
        by_cases c1 : va = .str "prices"
        · subst c1
          refine .inl ⟨rfl, _, rfl, ?_⟩
          refine iteF ?_
          have ib := itm vb (by simp)
          have ic := itm vc (by simp)
          dsimp only [tNext]
          refine ⟨_, rfl, t, _, _, _, rfl, rfl, SqT.of ht, at1, _, rfl, _, _, rfl, ⟨xl, rfl⟩, _, _, rfl, rfl, _, rfl, _, _, rfl, ⟨yl, rfl⟩, _, _, rfl, rfl, vb, x, y, B, rfl, ib, hB, fun b H1 s1 hb => ?_⟩
          cases b with
          | false => exact ⟨false, rfl, iteT (k false H1 s1 ⟨nofun, fun h => by
              obtain ⟨a, f, A, F, e, h2, _⟩ := h.three tv
              cases e
              exact absurd (hb.mpr ⟨A, h2⟩) Bool.false_ne_true⟩)⟩
          | true =>
          obtain ⟨LA, grA0⟩ := hb.mp rfl
          refine ⟨true, rfl, iteF ?_⟩
          refine ⟨_, rfl, t, _, _, _, rfl, rfl, SqT.of (s1 _ _ ht), at2, _, rfl, _, _, rfl, ⟨xl, rfl⟩, _, _, rfl, rfl, _, rfl, _, _, rfl, ⟨yl, rfl⟩, _, _, rfl, rfl, vc, x, y, B, rfl, ic.keep (.same s1), hB, fun b2 H2 s2 hb2 => ?_⟩
          have s12 := s1.trans s2
          cases b2 with
          | false => exact ⟨false, rfl, iteT (k false H2 s12 ⟨nofun, fun h => by
              obtain ⟨a, f, A, F, e, _, h2, _⟩ := h.three tv
              cases e
              exact absurd (hb2.mpr ⟨F, h2.keep (.same s1)⟩) Bool.false_ne_true⟩)⟩
          | true =>
          obtain ⟨LF, grF1⟩ := hb2.mp rfl
          have grF0 := GridL.back ic (.same s1) grF1
          refine ⟨true, rfl, iteF ?_⟩
          obtain ⟨ga, rfl⟩ := grA0.ref
          obtain ⟨gf, rfl⟩ := grF0.ref
          have eq : ∀ tot, PriP H x y e tot (.ref t) ↔ PricesL LA LF x y e tot := fun tot => ⟨fun h => by
            obtain ⟨a, f, A, F, e, h2, h3, h4⟩ := h.three tv
            cases e
            cases grA0.inj h2
            cases grF0.inj h3
            exact h4, fun h => ⟨_, _, LA, LF, tv, grA0, grF0, h⟩⟩
          have grA := grA0.keep (.same s12)
          have grF := grF0.keep (.same s12)
          have ht2 := s12 _ _ ht
          dsimp only [tNext]
          refine or_by (p := ent LA 0 0 ≠ 0) (q := ent LA x.length y.length ≠ tot) (ne_by (ent_by (i := 0) (j := 0) grA (Nat.zero_le _) (Nat.zero_le _) (ix_by ht2 at1 (v_of rfl) c_of) c_of c_of) c_of) (fun _ => ne_by (end_by grA (ix_by ht2 at1 (v_of rfl) c_of)) (v_of rfl)) ?_
          by_cases z : ent LA 0 0 ≠ 0 ∨ ent LA x.length y.length ≠ tot
          · rw [decide_eq_true z]
            exact iteT (k false H2 s12 ⟨nofun, fun h => by
              obtain ⟨h1, h2, _⟩ := (eq tot).mp h
              rcases z with z | z
              · exact absurd h1 z
              · exact absurd h2 z⟩)
          · rw [decide_eq_false z]
            refine iteF ?_
            dsimp only [tNext]
            refine ⟨_, rfl, _, rfl, _, rfl, x, y, e, rfl, hx, hy, fun a es H3 el le sl s3 => ?_⟩
            obtain ⟨xs, ha, st⟩ := sl.ex
            have s13 := s12.trans s3
            refine ⟨a, rfl, ⟨_, SqL.of ha⟩, ?_⟩
            refine for_list (K := K) (a := a) (xs := xs) (fun i σ H' => (∃ o5 o6 o7 o8 o9 o10 o11 : Option V, σ = [some (.str x), some (.str y), some (.int tot), some (.ref t), some (.int (e : Nat)), o5, o6, o7, o8, o9, o10, o11]) ∧ Same H3 H' ∧ ∀ s ∈ (stepsAll x y (leE x es) e (x.length + 1)).take i, Sat LA LF s) ?_ ?_ ?_ ?_
            · exact ⟨⟨_, _, _, _, _, _, _, rfl⟩, Same.rfl, fun s hs => absurd hs (by rw [List.take_zero]; exact List.not_mem_nil)⟩
            · rintro i σ H4 _ ⟨_, s4, _⟩
              exact SqL.of (s4 _ _ ha)
            · rintro i v σ H4 hv ⟨⟨o5, o6, o7, o8, o9, o10, o11, rfl⟩, s4, sat⟩
              obtain ⟨s, hs, u, rfl, hut⟩ := paired_at st hv
              have so := steps_ok el le (List.mem_of_getElem? hs)
              have hu4 := s4 _ _ hut
              refine ⟨u, _, rfl, SqT.of hu4, rfl, _, _, rfl, _, _, rfl, _, _, rfl, _, _, rfl, _, _, rfl, _, _, rfl, _, _, rfl, rfl, ?_⟩
              have ht4 := s4 _ _ (s3 _ _ ht2)
              have s34 := s3.trans s4
              have selG : ∀ k : Nat, k = 1 ∨ k = 2 → ∃ g, atI [V.str "prices", .ref ga, .ref gf] ((k : Nat) : Int) = some (.ref g) ∧ GridL H4 (x.length + 1) (y.length + 1) (.ref g) (sel LA LF k) := fun k hk => by
                rcases hk with rfl | rfl
                · exact ⟨ga, at1, grA.keep (.same s34)⟩
                · exact ⟨gf, at2, grF.keep (.same s34)⟩
              obtain ⟨g1, e1, gr1⟩ := selG s.kb so.kb
              obtain ⟨g2, e2, gr2⟩ := selG s.k so.k
              dsimp only
              refine gt_by (ent_by gr1 so.ib so.jb (ix_by ht4 e1 (v_of rfl) (v_of rfl)) (v_of rfl) (v_of rfl)) (add_by (ent_by gr2 so.i so.j (ix_by ht4 e2 (v_of rfl) (v_of rfl)) (v_of rfl) (v_of rfl)) (v_of rfl)) _ ?_
              by_cases c : Sat LA LF s
              · have c2 := c
                unfold Sat at c2
                rw [decide_eq_false (by omega)]
                refine iteF ⟨⟨_, _, _, _, _, _, _, rfl⟩, s4, fun s' hs' => ?_⟩
                rw [take_snoc hs] at hs'
                rcases List.mem_append.mp hs' with h | h
                · exact sat s' h
                · rw [List.mem_singleton.mp h]
                  exact c
              · have c2 := c
                unfold Sat at c2
                rw [decide_eq_true (by omega)]
                exact iteT (k false H4 (s13.trans s4) ⟨nofun, fun h => absurd ((steps_low el le).mpr ((eq tot).mp h).2.2 s (List.mem_of_getElem? hs)) c⟩)
            · rintro σ H4 ⟨⟨o5, o6, o7, o8, o9, o10, o11, rfl⟩, s4, sat⟩
              rw [paired_len st, List.take_length] at sat
              refine k true H4 (s13.trans s4) ⟨fun _ => (eq tot).mpr ⟨?_, ?_, (steps_low el le).mp sat⟩, fun _ => rfl⟩
              · exact Decidable.byContradiction fun q => z (.inl q)
              · exact Decidable.byContradiction fun q => z (.inr q)
        · have no : ¬ PriP H x y e tot (.ref t) := fun h => by
            obtain ⟨a, f, A, F, e, _⟩ := h.three tv
            cases e
            exact c1 rfl
          have ia := itm va (by simp)
          rcases ia.ne_str "prices" with h | ⟨a, rfl, h⟩
          · refine .inl ⟨h, _, rfl, ?_⟩
            rw [decide_eq_false c1]
            exact iteT (k false H Same.rfl ⟨nofun, fun h => absurd h no⟩)
          · exact .inr ⟨a, rfl, h, _, rfl, iteT (k false H Same.rfl ⟨nofun, fun h => absurd h no⟩)⟩
      | [], ht, tv, itm => exact iteT (k false H Same.rfl ⟨nofun, fun h => by
          obtain ⟨a, f, A, F, e, _⟩ := h.three tv
          cases e⟩)
      | [va], ht, tv, itm => exact iteT (k false H Same.rfl ⟨nofun, fun h => by
          obtain ⟨a, f, A, F, e, _⟩ := h.three tv
          cases e⟩)
      | [va, vb], ht, tv, itm => exact iteT (k false H Same.rfl ⟨nofun, fun h => by
          obtain ⟨a, f, A, F, e, _⟩ := h.three tv
          cases e⟩)
      | va :: vb :: vc :: vd :: r, ht, tv, itm =>
        rw [show decide (V.int (((va :: vb :: vc :: vd :: r).length : Nat) : Int) = V.int 3) = false from decide_eq_false fun z => by
          have := V.int.inj z
          simp only [List.length_cons] at this
          omega]
        exact iteT (k false H Same.rfl ⟨nofun, fun h => by
          obtain ⟨a, f, A, F, e, _⟩ := h.three tv
          cases e⟩)
end
end Vk
set_option Elab.async false
set_option maxRecDepth 100000
set_option linter.all false
set_option maxHeartbeats 4000000
namespace Vk
open PySem PySem.Spec PyProof.Rows L2 StX
theorem tips_asc {x : Str} {i s : Nat} : (tipsL x i s).Pairwise (· < ·) := by
  unfold tipsL
  refine List.Pairwise.filter _ ?_
  rw [List.pairwise_map]
  exact List.pairwise_lt_range.imp fun h => by omega
/-- the first end is the least -/
theorem tips_head {x : Str} {i t : Nat} (hi : i ≤ x.length) : (tipsL x i (x.length - i)).head? = some t ↔ EndX x i t := by
  have one : ∀ {t}, EndX x i t → (tipsL x i (x.length - i)).head? = some t := fun {t} ht => by
    have m : t ∈ tipsL x i (x.length - i) := (tips_mem hi).mpr ⟨ht.1.gt, ht.2, ht.1.once ht.2⟩
    match q : tipsL x i (x.length - i), m with
    | h :: r, m =>
      have a := tips_asc (x := x) (i := i) (s := x.length - i)
      rw [q] at a
      have hm : h ∈ tipsL x i (x.length - i) := by rw [q]; exact List.mem_cons_self
      obtain ⟨h1, h2, h3⟩ := (tips_mem hi).mp hm
      have l1 := (ht.1.iff h1 h2).mp h3
      rcases List.mem_cons.mp m with z | z
      · rw [z]; rfl
      · have := (List.pairwise_cons.mp a).1 t z
        omega
  constructor
  · intro h
    have m := List.mem_of_head? h
    obtain ⟨h1, h2, h3⟩ := (tips_mem hi).mp m
    obtain ⟨u, hu, _⟩ := end_once h1 h2 h3
    rw [one hu] at h
    cases h
    exact hu
  · exact one
def tipV (x : Str) (i : Nat) : V := match (tipsL x i (x.length - i)).head? with | some t => .int (t : Nat) | none => .non
def tipsV (x : Str) (n : Nat) : List V := (List.range n).map (tipV x)
theorem tipsV_snoc {x : Str} {n : Nat} : tipsV x (n + 1) = tipsV x n ++ [tipV x n] := by
  unfold tipsV
  rw [List.range_succ, List.map_append]
  rfl
section
variable {P : Program} {w : World} {K : PySem.W.Frag} {mg : Str → Option Value} {base : Heap}
def spNends : Sp := fun vs H Q _ => ∃ (x : Str), vs = [.str x] ∧ x.length ≤ 100 ∧ ∀ (t : Addr) (H' : Hp), H' t = some (.lst (tipsV x (x.length + 1))) → Same H H' → Q (.ref t) H'
abbrev s_lnends : Stmt := top 29
theorem sc_lnends : FnScope ["_law_here", "_law_found", "_law_a", "_law_tips", "_law_b"] ["_law_here"] (defScope s_lnends) := ⟨rfl, rfl, rfl, by decide +kernel, rfl, by decide +kernel, by decide +kernel⟩
theorem b_lnends {f : Addr} {fd : FuncData} (F : Fun K "_law_nends" "_law_nends" s_lnends f fd) (T : Txt mg) (c_lnonce : CalG P w K mg base CX0 2 "_law_nonce" spNonce) : FnG P w K mg base CX0 3 f fd ["_law_here"] spNends := by
  refine okG0 F sc_lnends (fun vs H Q E h => ?_) (fun cdv A outer s H vs Q E hg hr h => ?_)
  · obtain ⟨x, rfl, _⟩ := h
    rfl
  · have hu := hu_of hr
    have hu64 := hr.units
    obtain ⟨x, rfl, hx, k⟩ := h
    have xl : x.length ≤ sizeLine := Nat.le_of_lt (fewL (by omega))
    refine ⟨_, (pss_cons (ps_set (i := 1) sc_lnends.nd rfl (Or.inl rfl) (pe_lst pa_nil))
      (pss_cons (ps_for PassesOwn.never rfl (pi_range1 rfl T.range (pa_cons (pe_op op_add (pe_callB call_len (by rfl) T.len (by decide +kernel) (pa_cons (pv 0) pa_nil)) pe_int) pa_nil)) (pg_name (i := 2) sc_lnends.nd rfl (Or.inr rfl)) (pss_cons (ps_set (i := 3) sc_lnends.nd rfl (Or.inl rfl) (pe_slice sl_list (pe_lc (own := [("_law_b", 4)]) (g := gName 4) rfl sc_lnends.nd (pi_range2 rfl T.range (pa_cons (pe_op op_add (pv 2) pe_int) (pa_cons (pe_op op_add (pe_callB call_len (by rfl) T.len (by decide +kernel) (pa_cons (pv 0) pa_nil)) pe_int) pa_nil))) (blkOk_by (own := [("_law_b", 4)]) (N := ["_law_here", "_law_found", "_law_a", "_law_tips", "_law_b"]) (sc := defScope s_lnends) (by decide +kernel)) (fun _ _ _ _ _ => (pg_name (i := 4) sc_lnends.nd rfl (Or.inl rfl))) (fun _ _ _ _ _ => (pts_one (pt_val (pe_cG c_lnonce hg hr (by decide) pass0 (pa_cons (pv 0) (pa_cons (pv 2) (pa_cons (pv 4) pa_nil))))))) (fun _ _ _ _ _ => (pv 4))) po_none (po_some pe_int)))
      (pss_one (ps_expr (pe_bm PySem.F.plainAttrs_list PySem.F.slot_list_append PySem.F.type_list_append mt_append (pv 1) (pa_cons (pe_ifExp (pt_cmpR (op_neNil hu64) (pv 3) (pe_lst pa_nil) (nomark _)) (pe_ix ix_list (pv 3) pe_int (fun _ _ => rfl)) pe_non) pa_nil))))))
      (pss_one (ps_ret (pv 1))))), ?_⟩
    refine ⟨by show 0 ≤ sizeLine; decide, fun pl hpl => ?_⟩
    have sp := same_new (o := .lst []) hpl
    refine name_go ⟨_, rfl, _, _, rfl, ⟨xl, rfl⟩, _, _, rfl, rfl, _, rfl, by omega, by omega, ?_⟩
    have en : ((((x.length : Nat) : Int) + 1)).toNat = x.length + 1 := by omega
    refine for_range (lo := 0) (fun i σ H' => ∃ (o2 o3 o4 : Option V), σ = [some (.str x), some (.ref pl), o2, o3, o4] ∧ H' pl = some (.lst (tipsV x i)) ∧ Same H H') ?_ ?_ ?_
    · exact ⟨_, _, _, rfl, upd_same, sp⟩
    · rintro i σ H2 hi ⟨o2, o3, o4, rfl, hp2, s2⟩
      rw [en] at hi
      rw [show (0 : Int) + ((i : Nat) : Int) = ((i : Nat) : Int) from Int.zero_add _]
      dsimp only
      refine name_go ⟨_, rfl, _, _, rfl, rfl, _, rfl, _, _, rfl, ⟨xl, rfl⟩, _, _, rfl, rfl, _, _, rfl, by omega, fun D hD => ?_⟩
      have sD := same_new (o := .lst []) hD
      have ed : (((x.length : Nat) : Int) + 1 - (((i : Nat) : Int) + 1)).toNat = x.length - i := by omega
      refine lc_range (lo := ((i : Nat) : Int) + 1) (n := (((x.length : Nat) : Int) + 1 - (((i : Nat) : Int) + 1)).toNat) (fun s H' => H' D = some (.lst ((tipsL x i s).map fun t => V.int (t : Nat))) ∧ Same H2 H') ?_ ?_ ?_
      · exact ⟨upd_same, sD⟩
      · rintro s H3 hs ⟨hD3, s3⟩
        rw [ed] at hs
        have es : ((i : Nat) : Int) + 1 + ((s : Nat) : Int) = ((i + 1 + s : Nat) : Int) := by omega
        rw [es]
        refine ⟨rfl, _, rfl, _, rfl, _, rfl, x, i, i + 1 + s, rfl, by omega, fun _ => by omega, fun H4 s4 => ⟨_, rfl, ?_⟩⟩
        by_cases c : i < i + 1 + s ∧ twB x i (i + 1 + s) = false
        · rw [decide_eq_true c]
          refine iteT ⟨_, rfl, _, s4 _ _ hD3, fewL (by rw [List.length_map]; have := tips_len (x := x) (i := i) (s := s); omega), ?_, upd_out hD (s3.trans s4)⟩
          rw [upd_same, tips_snoc, if_pos c, List.map_append]
          rfl
        · rw [decide_eq_false c]
          refine iteF ⟨?_, s3.trans s4⟩
          rw [s4 _ _ hD3, tips_snoc, if_neg c]
      · rintro H3 ⟨hD3, s3⟩
        rw [ed] at hD3
        refine ⟨_, rfl, D, _, rfl, SqL.of hD3, fun q hq => name_go ?_⟩
        have e1 : cutV ((tipsL x i (x.length - i)).map fun t => V.int (t : Nat)) none (some 1) = ((tipsL x i (x.length - i)).map fun t => V.int (t : Nat)).take 1 := cutV_take (k := 1)
        rw [e1]
        have sq := same_new (o := .lst (((tipsL x i (x.length - i)).map fun t => V.int (t : Nat)).take 1)) hq
        have hp3 := sq _ _ (s3 _ _ hp2)
        have hq3 : upd H3 q (.lst (((tipsL x i (x.length - i)).map fun t => V.int (t : Nat)).take 1)) q = some (.lst (((tipsL x i (x.length - i)).map fun t => V.int (t : Nat)).take 1)) := upd_same
        have s23 := (s2.trans s3).trans sq
        generalize upd H3 q (.lst (((tipsL x i (x.length - i)).map fun t => V.int (t : Nat)).take 1)) = H4 at hp3 hq3 s23 ⊢
        dsimp only
        refine ⟨_, rfl, .inl ⟨rfl, _, SqL.of hp3⟩, _, rfl, by show 0 ≤ sizeLine; decide, fun q2 hq2 => ?_⟩
        have sq2 := same_new (o := .lst []) hq2
        refine ⟨q, _, q2, rfl, rfl, SqL.of (sq2 _ _ hq3), SqL.of upd_same, _, rfl, ?_⟩
        have ln : (tipsV x i).length = i := by unfold tipsV; rw [List.length_map, List.length_range]
        have tv : tipV x i = match (tipsL x i (x.length - i)).head? with | some t => .int (t : Nat) | none => .non := rfl
        match hl : tipsL x i (x.length - i) with
        | [] =>
          rw [hl] at tv
          refine iteF ⟨pl, _, _, rfl, rfl, sq2 _ _ hp3, fewL (by omega), _, _, _, rfl, ?_, upd_out hpl (s23.trans sq2)⟩
          rw [upd_same, tipsV_snoc, tv]
          rfl
        | t :: r =>
          rw [hl] at tv hq3
          refine iteT ⟨_, rfl, q, _, _, .int (t : Nat), rfl, rfl, SqL.of (sq2 _ _ hq3), atI_nat (j := 0) rfl, pl, _, _, rfl, rfl, sq2 _ _ hp3, fewL (by omega), _, _, _, rfl, ?_, upd_out hpl (s23.trans sq2)⟩
          rw [upd_same, tipsV_snoc, tv]
          rfl
    · rintro σ H2 ⟨o2, o3, o4, rfl, hp2, s2⟩
      rw [en] at hp2
      exact ⟨_, rfl, k pl H2 hp2 s2⟩
/-- a letter of each -/
def spLow : Sp := fun vs H Q _ => ∃ (x y : Str) (e : Nat) (ga gf : Addr) (A F : List (List Int)), vs = [.str x, .str y, .int (e : Nat), .ref ga, .ref gf] ∧ GridL H (x.length + 1) (y.length + 1) (.ref ga) A ∧ GridL H (x.length + 1) (y.length + 1) (.ref gf) F ∧ x.length ≤ 100 ∧ y.length ≤ 100 ∧ ∀ b H', Same H H' → (b = true ↔ Low A F x y e) → Q (.bl b) H'
abbrev s_lnare_low : Stmt := top 30
theorem sc_lnare_low : FnScope ["_law_left", "_law_right", "_law_extra", "_law_kept", "_law_free", "_law_tips", "_law_i", "_law_j", "_law_price", "_law_tip"] ["_law_left", "_law_right", "_law_extra", "_law_kept", "_law_free"] (defScope s_lnare_low) := ⟨rfl, rfl, rfl, by decide +kernel, rfl, by decide +kernel, by decide +kernel⟩
theorem ltN_by {σ : L2.St} {H : Hp} {n m : Nat} {i : Nat} {x : Str} (hx : x.length ≤ sizeLine) {K : PySem.W.Frag} (h1 : σ[n]? = some (some (.int (i : Nat)))) (h2 : σ[m]? = some (some (.str x))) : ∀ k' : Bool → Hp → Prop, k' (decide (i < x.length)) H → tTest (tOp (rI0 fun i j => V.bl (decide (i < j))) (tVar n) (tCB (fun xs H Q => ∃ x n, xs = [x] ∧ LenV K x H n ∧ Q (V.int ((n : Nat) : Int)) H) (tCons (tVar m) tNil))) σ H k' := lt_by hx h1 h2
theorem s_of {σ : L2.St} {H : Hp} {n i : Nat} (h : σ[n]? = some (some (.int (i : Nat)))) : ∀ Q : VK, Q (.int ((i + 1 : Nat) : Int)) H → tOp (rI0 fun i j => V.int (i + j)) (tVar n) (tC (.int 1)) σ H Q := fun Q q => ⟨_, h, _, _, rfl, rfl, q⟩
theorem seq_midR {A B : TS} {D : Ends} {σ : L2.St} {H : Hp} (Mid : L2.St → Hp → Prop) (h1 : ∀ N : L2.St → Hp → Prop, (∀ σ H, Mid σ H → N σ H) → A { D with nx := N } σ H) (h2 : ∀ σ H, Mid σ H → B D σ H) : tSeq A B D σ H := h1 _ h2
theorem b_lnare_low {f : Addr} {fd : FuncData} (F : Fun K "_law_nare_low" "_law_nare_low" s_lnare_low f fd) (T : Txt mg) (c_lnends : CalG P w K mg base CX0 3 "_law_nends" spNends) : FnG P w K mg base CX0 4 f fd ["_law_left", "_law_right", "_law_extra", "_law_kept", "_law_free"] spLow := by
  refine okG0 F sc_lnare_low (fun vs H Q E h => ?_) (fun cdv A outer s H vs Q E hg hr h => ?_)
  · obtain ⟨x, y, e, ga, gf, LA, LF, rfl, _⟩ := h
    rfl
  · have hu := hu_of hr
    have hu64 := hr.units
    obtain ⟨x, y, e, ga, gf, LA, LF, rfl, grA, grF, hx, hy, k⟩ := h
    have xl : x.length ≤ sizeLine := Nat.le_of_lt (fewL (by omega))
    have yl : y.length ≤ sizeLine := Nat.le_of_lt (fewL (by omega))
    have lx : x.cps.toList.length = x.length := Array.length_toList
    have ly : y.cps.toList.length = y.length := Array.length_toList
    refine ⟨_, (pss_cons (ps_set (i := 5) sc_lnare_low.nd rfl (Or.inl rfl) (pe_cG c_lnends hg hr (by decide) pass0 (pa_cons (pv 0) pa_nil)))
      (pss_cons (ps_for PassesOwn.never rfl (pi_range1 rfl T.range (pa_cons (pe_op op_add (pe_callB call_len (by rfl) T.len (by decide +kernel) (pa_cons (pv 0) pa_nil)) pe_int) pa_nil)) (pg_name (i := 6) sc_lnare_low.nd rfl (Or.inl rfl)) (pss_one (ps_for PassesOwn.never rfl (pi_range1 rfl T.range (pa_cons (pe_op op_add (pe_callB call_len (by rfl) T.len (by decide +kernel) (pa_cons (pv 1) pa_nil)) pe_int) pa_nil)) (pg_name (i := 7) sc_lnare_low.nd rfl (Or.inl rfl)) (pss_cons (ps_if (PW.pt (pw_and (pt_cmpR op_lt (pv 6) (pe_callB call_len (by rfl) T.len (by decide +kernel) (pa_cons (pv 0) pa_nil)) (nomark _)) (pw_and (pt_cmpR op_eq (pe_slice sl_str (pv 0) (po_some (pv 6)) (po_some (pe_op op_add (pv 6) pe_int))) (pe_slice sl_str (pv 1) (po_some (pv 7)) (po_some (pe_op op_add (pv 7) pe_int))) (nomark _)) (pw_and1 (pt_cmpR op_gt (pe_ix ix_tup (pe_ix ix_tup (pv 3) (pe_op op_add (pv 6) pe_int) (fun _ _ => rfl)) (pe_op op_add (pv 7) pe_int) (fun _ _ => rfl)) (pe_ix ix_tup (pe_ix ix_tup (pv 3) (pv 6) (fun _ _ => rfl)) (pv 7) (fun _ _ => rfl)) (nomark _)))))) (pss_one (ps_ret pe_bl)) pss_nil)
      (pss_cons (ps_par (i := 8) (j := 9) (by rfl) sc_lnare_low.nd rfl rfl (by decide) rfl rfl (pa_cons (pe_ix ix_tup (pe_ix ix_tup (pv 3) (pv 6) (fun _ _ => rfl)) (pv 7) (fun _ _ => rfl)) (pa_cons (pe_ix ix_list (pv 5) (pv 6) (fun _ _ => rfl)) pa_nil)) (by rfl))
      (pss_cons (ps_if (PW.pt (pw_and (pt_cmpR op_notN (pv 9) pe_non (nomark _)) (pw_and1 (pt_cmpR op_gt (pe_ix ix_tup (pe_ix ix_tup (pv 4) (pv 9) (fun _ _ => rfl)) (pv 7) (fun _ _ => rfl)) (pe_op op_add (pe_op op_sub (pe_op op_add (pv 8) (pv 9)) (pv 6)) (pv 2)) (nomark _))))) (pss_one (ps_ret pe_bl)) pss_nil)
      (pss_cons (ps_if (PW.pt (pw_or (PW.pt (pw_and (pt_cmpR op_lt (pv 6) (pe_callB call_len (by rfl) T.len (by decide +kernel) (pa_cons (pv 0) pa_nil)) (nomark _)) (pw_and1 (pt_cmpR op_gt (pe_ix ix_tup (pe_ix ix_tup (pv 4) (pe_op op_add (pv 6) pe_int) (fun _ _ => rfl)) (pv 7) (fun _ _ => rfl)) (pe_op op_add (pe_ix ix_tup (pe_ix ix_tup (pv 4) (pv 6) (fun _ _ => rfl)) (pv 7) (fun _ _ => rfl)) pe_int) (nomark _))))) (pw_or1 (pt_cmpR op_gt (pe_ix ix_tup (pe_ix ix_tup (pv 3) (pv 6) (fun _ _ => rfl)) (pv 7) (fun _ _ => rfl)) (pe_ix ix_tup (pe_ix ix_tup (pv 4) (pv 6) (fun _ _ => rfl)) (pv 7) (fun _ _ => rfl)) (nomark _))))) (pss_one (ps_ret pe_bl)) pss_nil)
      (pss_one (ps_if (PW.pt (pw_and (pt_cmpR op_lt (pv 7) (pe_callB call_len (by rfl) T.len (by decide +kernel) (pa_cons (pv 1) pa_nil)) (nomark _)) (pw_and1 (pt_cmpR op_gt (pe_ix ix_tup (pe_ix ix_tup (pv 4) (pv 6) (fun _ _ => rfl)) (pe_op op_add (pv 7) pe_int) (fun _ _ => rfl)) (pe_op op_add (pe_ix ix_tup (pe_ix ix_tup (pv 4) (pv 6) (fun _ _ => rfl)) (pv 7) (fun _ _ => rfl)) pe_int) (nomark _))))) (pss_one (ps_ret pe_bl)) pss_nil)))))))))
      (pss_one (ps_ret pe_bl)))), ?_⟩
    refine ⟨_, rfl, x, rfl, hx, fun b H1 hb1 s1 => ?_⟩
    have en : ((((x.length : Nat) : Int) + 1)).toNat = x.length + 1 := by omega
    have em : ((((y.length : Nat) : Int) + 1)).toNat = y.length + 1 := by omega
    refine name_go ⟨_, rfl, _, _, rfl, ⟨xl, rfl⟩, _, _, rfl, rfl, _, rfl, by omega, by omega, ?_⟩
    refine for_range (lo := 0) (fun i σ H' => (∃ o6 o7 o8 o9 : Option V, σ = [some (.str x), some (.str y), some (.int (e : Nat)), some (.ref ga), some (.ref gf), some (.ref b), o6, o7, o8, o9]) ∧ H' = H1 ∧ ∀ i', i' < i → ∀ j, j ≤ y.length → LowAt LA LF x y e i' j) ?_ ?_ ?_
    · exact ⟨⟨_, _, _, _, rfl⟩, rfl, fun i' h => absurd h (Nat.not_lt_zero _)⟩
    · rintro i σ H' hi ⟨⟨o6, o7, o8, o9, rfl⟩, hH, low⟩
      obtain rfl := hH.symm
      rw [en] at hi
      rw [show (0 : Int) + ((i : Nat) : Int) = ((i : Nat) : Int) from Int.zero_add _]
      dsimp only
      refine name_go ⟨_, rfl, _, _, rfl, ⟨yl, rfl⟩, _, _, rfl, rfl, _, rfl, by omega, by omega, ?_⟩
      refine for_range (lo := 0) (fun j σ H' => (∃ o7 o8 o9 : Option V, σ = [some (.str x), some (.str y), some (.int (e : Nat)), some (.ref ga), some (.ref gf), some (.ref b), some (.int (i : Nat)), o7, o8, o9]) ∧ H' = H1 ∧ ∀ j', j' < j → LowAt LA LF x y e i j') ?_ ?_ ?_
      · exact ⟨⟨_, _, _, rfl⟩, rfl, fun j' h => absurd h (Nat.not_lt_zero _)⟩
      · rintro j σ H' hj ⟨⟨o7, o8, o9, rfl⟩, hH, lowj⟩
        obtain rfl := hH.symm
        rw [em] at hj
        rw [show (0 : Int) + ((j : Nat) : Int) = ((j : Nat) : Int) from Int.zero_add _]
        have gA := grA.keep (.same s1)
        have gF := grF.keep (.same s1)
        dsimp only
        refine name_go ?_
        have hi' : i ≤ x.length := by omega
        have hj' : j ≤ y.length := by omega
        -- a letter kept
        refine and_by (p := i < x.length) (q := x.cps.toList[i]? = y.cps.toList[j]? ∧ ent LA i j < ent LA (i + 1) (j + 1)) (ltN_by xl (K := K) rfl rfl) (fun ci k' q => and_by (p := x.cps.toList[i]? = y.cps.toList[j]?) (q := ent LA i j < ent LA (i + 1) (j + 1)) (fun k' q => ⟨_, rfl, _, rfl, _, rfl, _, rfl, _, _, rfl, rfl, _, rfl, x, rfl, xl, _, rfl, _, rfl, _, rfl, _, rfl, _, _, rfl, rfl, _, rfl, y, rfl, yl, rfl, _, rfl, by rw [one_letter ci]; exact q⟩) (fun c2 k' q => ?_) q) ?_
        · have cj : j < y.length := by
            rw [List.getElem?_eq_getElem (by omega)] at c2
            have := (List.getElem?_eq_some_iff.mp c2.symm).1
            omega
          exact gt_by (ent_by (i := i + 1) (j := j + 1) gA (by omega) (by omega) (v_of rfl) (s_of rfl) (s_of rfl)) (ent_by gA hi' hj' (v_of rfl) (v_of rfl) (v_of rfl)) k' q
        by_cases c1 : i < x.length ∧ x.cps.toList[i]? = y.cps.toList[j]? ∧ ent LA i j < ent LA (i + 1) (j + 1)
        · rw [decide_eq_true c1]
          exact iteT (k false H1 s1 ⟨nofun, fun h => by
            obtain ⟨c1, c2, c3⟩ := c1
            have cj : j < y.length := by
              have c2 := c2
              rw [List.getElem?_eq_getElem (by omega)] at c2
              have := (List.getElem?_eq_some_iff.mp c2.symm).1
              omega
            have := (h i j hi' hj').2.2.2.1 c1 cj c2
            omega⟩)
        rw [decide_eq_false c1]
        refine iteF ?_
        dsimp only [tNext]
        refine ent_by gA hi' hj' (v_of rfl) (v_of rfl) (v_of rfl) _ ?_
        have at5 : atI (tipsV x (x.length + 1)) ((i : Nat) : Int) = some (tipV x i) := atI_nat (by
          unfold tipsV
          rw [List.getElem?_map, List.getElem?_range (by omega)]
          rfl)
        refine ⟨_, rfl, _, rfl, b, _, _, tipV x i, rfl, rfl, SqL.of hb1, at5, _, _, rfl, ?_⟩
        dsimp only
        -- a window opened
        refine seq_midR (fun σ H' => σ = [some (.str x), some (.str y), some (.int (e : Nat)), some (.ref ga), some (.ref gf), some (.ref b), some (.int (i : Nat)), some (.int (j : Nat)), some (.int (ent LA i j)), some (tipV x i)] ∧ H' = H1 ∧ ∀ t, EndX x i t → ent LF t j ≤ ent LA i j + (t : Nat) - (i : Nat) + (e : Nat)) (fun N hD' => ?_) (fun σ H' hm => ?_)
        · cases q : (tipsL x i (x.length - i)).head? with
          | none =>
            have tv : tipV x i = .non := by unfold tipV; rw [q]
            rw [tv]
            rw [tv] at hD'
            refine ⟨_, rfl, rfl, _, rfl, ?_⟩
            rw [non_non']
            exact iteF (hD' _ _ ⟨rfl, rfl, fun t ht => by
              rw [(tips_head hi').mpr ht] at q
              cases q⟩)
          | some t =>
            have tv : tipV x i = .int (t : Nat) := by unfold tipV; rw [q]
            have et := (tips_head hi').mp q
            rw [tv]
            rw [tv] at hD'
            refine ⟨_, rfl, rfl, _, rfl, ?_⟩
            rw [int_non']
            refine iteT ?_
            refine gt_by (ent_by gF et.2 hj' (v_of rfl) (v_of rfl) (v_of rfl)) (add_by (sub_by (add_by (v_of rfl) (v_of rfl)) (v_of rfl)) (v_of rfl)) _ ?_
            by_cases c : ent LA i j + (t : Nat) - (i : Nat) + (e : Nat) < ent LF t j
            · rw [decide_eq_true c]
              exact iteT (k false H1 s1 ⟨nofun, fun h => by
                have := (h i j hi' hj').2.2.2.2 t et
                omega⟩)
            · rw [decide_eq_false c]
              exact iteF (hD' _ _ ⟨rfl, rfl, fun u hu => by
                rw [lend_uniq hu.1 et.1]
                omega⟩)
        obtain ⟨rfl, hH, c2⟩ := hm
        obtain rfl := hH.symm
        refine seq_midR (fun σ H' => σ = [some (.str x), some (.str y), some (.int (e : Nat)), some (.ref ga), some (.ref gf), some (.ref b), some (.int (i : Nat)), some (.int (j : Nat)), some (.int (ent LA i j)), some (tipV x i)] ∧ H' = H1 ∧ (i < x.length → ent LF (i + 1) j ≤ ent LF i j + 1) ∧ ent LA i j ≤ ent LF i j) (fun N hD' => ?_) (fun σ H' hm => ?_)
        · refine or_by (p := i < x.length ∧ ent LF i j + 1 < ent LF (i + 1) j) (q := ent LF i j < ent LA i j) (fun k' q => and_by (p := i < x.length) (q := ent LF i j + 1 < ent LF (i + 1) j) (ltN_by xl (K := K) rfl rfl) (fun ci => gt_by (ent_by (i := i + 1) (j := j) gF (by omega) hj' (v_of rfl) (s_of rfl) (v_of rfl)) (add_by (ent_by gF hi' hj' (v_of rfl) (v_of rfl) (v_of rfl)) c_of)) q) (fun _ => gt_by (ent_by gA hi' hj' (v_of rfl) (v_of rfl) (v_of rfl)) (ent_by gF hi' hj' (v_of rfl) (v_of rfl) (v_of rfl))) ?_
          by_cases c : (i < x.length ∧ ent LF i j + 1 < ent LF (i + 1) j) ∨ ent LF i j < ent LA i j
          · rw [decide_eq_true c]
            exact iteT (k false H1 s1 ⟨nofun, fun h => by
              obtain ⟨a1, a2, _⟩ := h i j hi' hj'
              rcases c with ⟨c, c'⟩ | c
              · have := a2 c
                omega
              · omega⟩)
          · rw [decide_eq_false c]
            refine iteF (hD' _ _ ⟨rfl, rfl, fun h => ?_, ?_⟩)
            · have : ¬ (ent LF i j + 1 < ent LF (i + 1) j) := fun z => c (.inl ⟨h, z⟩)
              omega
            · have : ¬ (ent LF i j < ent LA i j) := fun z => c (.inr z)
              omega
        obtain ⟨rfl, hH, c3, c4⟩ := hm
        obtain rfl := hH.symm
        refine and_by (p := j < y.length) (q := ent LF i j + 1 < ent LF i (j + 1)) (ltN_by yl (K := K) rfl rfl) (fun cj => gt_by (ent_by (i := i) (j := j + 1) gF hi' (by omega) (v_of rfl) (v_of rfl) (s_of rfl)) (add_by (ent_by gF hi' hj' (v_of rfl) (v_of rfl) (v_of rfl)) c_of)) ?_
        by_cases c5 : j < y.length ∧ ent LF i j + 1 < ent LF i (j + 1)
        · rw [decide_eq_true c5]
          exact iteT (k false H1 s1 ⟨nofun, fun h => by
            have := (h i j hi' hj').2.2.1 c5.1
            have := c5.2
            omega⟩)
        · rw [decide_eq_false c5]
          refine iteF ⟨⟨_, _, _, rfl⟩, rfl, fun j' hj2 => ?_⟩
          rcases Nat.lt_or_ge j' j with l | l
          · exact lowj j' l
          · obtain rfl : j = j' := by omega
            refine ⟨c4, c3, fun h => ?_, fun h1 h2 h3 => ?_, c2⟩
            · have : ¬ (ent LF i j + 1 < ent LF i (j + 1)) := fun z => c5 ⟨h, z⟩
              omega
            · have : ¬ (ent LA i j < ent LA (i + 1) (j + 1)) := fun z => c1 ⟨h1, h3, z⟩
              omega
      · rintro σ H' ⟨⟨o7, o8, o9, rfl⟩, hH, lowj⟩
        obtain rfl := hH.symm
        rw [em] at lowj
        refine ⟨⟨_, _, _, _, rfl⟩, rfl, fun i' hi' j hj => ?_⟩
        rcases Nat.lt_or_ge i' i with l | l
        · exact low i' l j hj
        · obtain rfl : i' = i := by omega
          exact lowj j (by omega)
    · rintro σ H' ⟨⟨o6, o7, o8, o9, rfl⟩, hH, low⟩
      obtain rfl := hH.symm
      rw [en] at low
      exact k true H1 s1 ⟨fun _ i j hi hj => low i (by omega) j hj, fun _ => rfl⟩
end
end Vk
set_option Elab.async false
set_option maxRecDepth 100000
set_option linter.all false
set_option maxHeartbeats 4000000
namespace Vk
open PySem PySem.Spec PyProof.Rows L2 StX
section
variable {P : Program} {w : World} {K : PySem.W.Frag} {mg : Str → Option Value} {base : Heap}
theorem slA {H : Hp} {q : Addr} {xs : List V} {lo hi : Option Int} {Q : VK} (h : H q = some (.tup xs)) (k : ∀ p H', Same H H' → H' p = some (.tup (cutV xs lo hi)) → Q (.ref p) H') : rSlA K (.ref q) lo hi H Q := by
  refine ⟨q, xs, rfl, SqT.of h, fun w => k q H Same.rfl ?_, fun _ p hp => k p _ (same_new hp) upd_same⟩
  rw [h]
  unfold cutV
  rw [w.1, w.2, List.drop_zero, Nat.sub_zero, List.take_length]
def spNisPr : Sp := fun vs H Q _ => ∃ (x y : Str) (tot : Int) (v : V) (e B : Nat), vs = [.str x, .str y, .int tot, .int (e : Nat), v] ∧ IsV H B 3 v ∧ B ≤ 5000 ∧ x.length ≤ 100 ∧ y.length ≤ 100 ∧ ∀ b H', Same H H' → (b = true ↔ PriP H x y e tot v) → Q (.bl b) H'
abbrev s_lnis_prices : Stmt := top 31
theorem sc_lnis_prices : FnScope ["_law_left", "_law_right", "_law_total", "_law_extra", "_law_thing", "_law_grid"] ["_law_left", "_law_right", "_law_total", "_law_extra", "_law_thing"] (defScope s_lnis_prices) := ⟨rfl, rfl, rfl, by decide +kernel, rfl, by decide +kernel, by decide +kernel⟩
theorem b_lnis_prices {f : Addr} {fd : FuncData} (F : Fun K "_law_nis_prices" "_law_nis_prices" s_lnis_prices f fd) (T : Txt mg) (c_lnis_grid : CalG P w K mg base CX0 1 "_law_nis_grid" spGridG) (c_lnare_low : CalG P w K mg base CX0 4 "_law_nare_low" spLow) : FnG P w K mg base CX0 5 f fd ["_law_left", "_law_right", "_law_total", "_law_extra", "_law_thing"] spNisPr := by
  refine okG0 F sc_lnis_prices (fun vs H Q E h => ?_) (fun cdv A outer s H vs Q E hg hr h => ?_)
  · obtain ⟨x, y, tot, v, e, B, rfl, _⟩ := h
    rfl
  · have hu := hu_of hr
    have hu64 := hr.units
    obtain ⟨x, y, tot, v, e, B, rfl, iv, hB, hx, hy, k⟩ := h
    have xl : x.length ≤ sizeLine := Nat.le_of_lt (fewL (by omega))
    have yl : y.length ≤ sizeLine := Nat.le_of_lt (fewL (by omega))
    obtain ⟨ty, tyx, ⟨bt, kt, ht1, ht0⟩, _⟩ := kit_any (K := K) iv
    refine ⟨_, (pss_cons (ps_if (PW.pt (pw_or (pt_not (pt_val (pe_callB call_isi (by rfl) T.isinstance (by decide +kernel) (pa_cons (pv 4) (pa_cons (pe_bltn (v := .ty "tuple") (by rfl) T.tuple rfl rfl) pa_nil))))) (pw_or (pt_cmpR op_ne (pe_callB call_len (by rfl) T.len (by decide +kernel) (pa_cons (pv 4) pa_nil)) pe_int (nomark _)) (pw_or (pt_not (pt_val (pe_callB call_isi (by rfl) T.isinstance (by decide +kernel) (pa_cons (pe_ix ix_tup (pv 4) pe_int (fun _ _ => rfl)) (pa_cons (pe_bltn (v := .ty "str") (by rfl) T.str rfl rfl) pa_nil))))) (pw_or1 (pt_cmpR op_ne (pe_ix ix_tup (pv 4) pe_int (fun _ _ => rfl)) pe_str (nomark _))))))) (pss_one (ps_ret pe_bl)) pss_nil)
      (pss_cons (ps_if (pt_cmpR (op_neNil hu64) (pe_lc (own := [("_law_grid", 5)]) (g := gName 5) rfl sc_lnis_prices.nd (pi_tup (pe_slice sl_tupA (pv 4) (po_some pe_int) po_none)) (blkOk_by (own := [("_law_grid", 5)]) (N := ["_law_left", "_law_right", "_law_total", "_law_extra", "_law_thing", "_law_grid"]) (sc := defScope s_lnis_prices) (by decide +kernel)) (fun _ _ _ _ _ => (pg_name (i := 5) sc_lnis_prices.nd rfl (Or.inl rfl))) (fun _ _ _ _ _ => (pts_one (pt_not (pt_val (pe_cG c_lnis_grid hg hr (by decide) pass0 (pa_cons (pv 5) (pa_cons (pe_op op_add (pe_callB (call_lenK (K := K) rfl) (by rfl) T.len (by decide +kernel) (pa_cons (pv 0) pa_nil)) pe_int) (pa_cons (pe_op op_add (pe_callB (call_lenK (K := K) rfl) (by rfl) T.len (by decide +kernel) (pa_cons (pv 1) pa_nil)) pe_int) pa_nil)))))))) (fun _ _ _ _ _ => (pv 5))) (pe_lst pa_nil) (nomark _)) (pss_one (ps_ret pe_bl)) pss_nil)
      (pss_cons (ps_if (PW.pt (pw_or (pt_cmpR op_ne (pe_ix ix_tup (pe_ix ix_tup (pe_ix ix_tup (pv 4) pe_int (fun _ _ => rfl)) pe_int (fun _ _ => rfl)) pe_int (fun _ _ => rfl)) pe_int (nomark _)) (pw_or1 (pt_cmpR op_ne (pe_ix ix_tup (pe_ix ix_tup (pe_ix ix_tup (pv 4) pe_int (fun _ _ => rfl)) (pe_un un_neg pe_int) (fun _ _ => rfl)) (pe_un un_neg pe_int) (fun _ _ => rfl)) (pv 2) (nomark _))))) (pss_one (ps_ret pe_bl)) pss_nil)
      (pss_one (ps_ret (pe_cG c_lnare_low hg hr (by decide) pass0 (pa_cons (pv 0) (pa_cons (pv 1) (pa_cons (pv 3) (pa_cons (pe_ix ix_tup (pv 4) pe_int (fun _ _ => rfl)) (pa_cons (pe_ix ix_tup (pv 4) pe_int (fun _ _ => rfl)) pa_nil))))))))))), ?_⟩
    refine ⟨_, rfl, v, .ty "tuple", ty, .type "tuple", bt, rfl, .ty "tuple", tyx, kt, ?_⟩
    cases bt with
    | false => exact ⟨false, rfl, iteT (k false H Same.rfl ⟨nofun, fun ⟨a, f, A, F, h, _⟩ => absurd h (ht0 rfl _)⟩)⟩
    | true =>
      obtain ⟨xs, t, rfl, ht⟩ := ht1 rfl
      have tv : TupV H (.ref t) xs := ⟨t, rfl, ht⟩
      have itm := iv.items tv
      refine ⟨true, rfl, iteF ?_⟩
      refine ⟨_, rfl, _, _, rfl, .inr ⟨_, SqT.of ht, rfl⟩, rfl, _, rfl, ?_⟩
      match xs, ht, tv, itm with
      | [va, vb, vc], ht, tv, itm =>
        refine iteF ?_
        have ia := itm va (by simp)
        have ib := itm vb (by simp)
        have ic := itm vc (by simp)
        obtain ⟨tya, tyxa, _, _, _, ⟨bs, ks, hs1, hs0⟩⟩ := kit_any (K := K) ia
        refine ⟨_, rfl, t, _, _, _, rfl, rfl, SqT.of ht, at0, va, .ty "str", tya, .type "str", bs, rfl, .ty "str", tyxa, ks, ?_⟩
        cases bs with
        | false => exact ⟨false, rfl, iteT (k false H Same.rfl ⟨nofun, fun h => by
            obtain ⟨a, f, A, F, e, _⟩ := h.three tv
            cases e
            exact absurd rfl (hs0 rfl "prices")⟩)⟩
        | true =>
          obtain ⟨z, rfl⟩ := hs1 rfl
          refine ⟨true, rfl, iteF ?_⟩
          refine ⟨_, rfl, t, _, _, _, rfl, rfl, SqT.of ht, at0, rfl, _, rfl, ?_⟩
          by_cases c1 : V.str z = .str "prices"
          · cases c1
            refine iteF ?_
            dsimp only [tNext]
            refine ⟨_, rfl, _, rfl, ?_⟩
            dsimp only [tNoPart]
            refine slA ht fun p H1 s1 hp => ?_
            have hp : H1 p = some (.tup [vb, vc]) := hp
            refine ⟨p, rfl, ⟨_, SqT.of hp⟩, fun D hD => ?_⟩
            have sD := same_new (o := .lst []) hD
            haveI dG : DecidablePred (fun v : V => ∃ L, GridL H (x.length + 1) (y.length + 1) v L) := fun _ => Classical.propDecidable _
            refine lc_tup (K := K) (a := p) (xs := [vb, vc]) (fun i H' => H' D = some (.lst (([vb, vc].take i).filter fun v => decide (¬ ∃ L, GridL H (x.length + 1) (y.length + 1) v L))) ∧ Same H1 H') ?_ ?_ ?_ ?_
            · exact ⟨upd_same, sD⟩
            · rintro i H' _ ⟨_, s2⟩
              exact SqT.of (s2 _ _ hp)
            · rintro i v H2 hv ⟨hD2, s2⟩
              have iv2 : IsV H B 2 v := by
                rcases List.mem_cons.mp (List.mem_of_getElem? hv) with rfl | h
                · exact ib
                · rw [List.mem_singleton.mp h]; exact ic
              refine ⟨rfl, _, rfl, _, rfl, _, _, rfl, ⟨xl, rfl⟩, _, _, rfl, rfl, _, rfl, _, _, rfl, ⟨yl, rfl⟩, _, _, rfl, rfl, v, x, y, B, rfl, iv2.keep (.same (s1.trans s2)), hB, fun b H3 s3 hb => ⟨_, rfl, ?_⟩⟩
              have hb' : b = true ↔ ∃ L, GridL H (x.length + 1) (y.length + 1) v L := hb.trans ⟨fun ⟨L, g⟩ => ⟨L, GridL.back iv2 (.same (s1.trans s2)) g⟩, fun ⟨L, g⟩ => ⟨L, g.keep (.same (s1.trans s2))⟩⟩
              have fl : (([vb, vc].take i).filter fun v => decide (¬ ∃ L, GridL H (x.length + 1) (y.length + 1) v L)).length ≤ 2 := by
                refine Nat.le_trans (List.length_filter_le _ _) ?_
                rw [List.length_take]
                exact Nat.min_le_right _ _
              cases b with
              | false =>
                have no : ¬ ∃ L, GridL H (x.length + 1) (y.length + 1) v L := fun h => Bool.false_ne_true (hb'.mpr h)
                refine iteT ⟨_, rfl, _, s3 _ _ hD2, fewL (by omega), ?_, upd_out hD (s2.trans s3)⟩
                rw [upd_same, take_snoc hv, List.filter_append, List.filter_cons_of_pos (by rw [decide_eq_true no]), List.filter_nil]
              | true =>
                have is := hb'.mp rfl
                refine iteF ⟨?_, s2.trans s3⟩
                rw [s3 _ _ hD2, take_snoc hv, List.filter_append, List.filter_cons_of_neg (by rw [decide_eq_false (not_not_intro is)]; exact Bool.false_ne_true), List.filter_nil, List.append_nil]
            · rintro H2 ⟨hD2, s2⟩
              have hD2 : H2 D = some (.lst ([vb, vc].filter fun v => decide (¬ ∃ L, GridL H (x.length + 1) (y.length + 1) v L))) := hD2
              refine ⟨by show 0 ≤ sizeLine; decide, fun q hq => ?_⟩
              have sq := same_new (o := .lst []) hq
              refine ⟨D, _, q, rfl, rfl, SqL.of (sq _ _ hD2), SqL.of upd_same, _, rfl, ?_⟩
              have s13 := (s1.trans s2).trans sq
              by_cases gb : ∃ L, GridL H (x.length + 1) (y.length + 1) vb L
              · by_cases gc : ∃ L, GridL H (x.length + 1) (y.length + 1) vc L
                · rw [show ([vb, vc].filter fun v => decide (¬ ∃ L, GridL H (x.length + 1) (y.length + 1) v L)) = [] by
                    rw [List.filter_cons_of_neg (by rw [decide_eq_false (not_not_intro gb)]; exact Bool.false_ne_true), List.filter_cons_of_neg (by rw [decide_eq_false (not_not_intro gc)]; exact Bool.false_ne_true), List.filter_nil]]
                  refine iteF ?_
                  obtain ⟨LA, grA0⟩ := gb
                  obtain ⟨LF, grF0⟩ := gc
                  obtain ⟨ga, rfl⟩ := grA0.ref
                  obtain ⟨gf, rfl⟩ := grF0.ref
                  have eq : ∀ tot, PriP H x y e tot (.ref t) ↔ PricesL LA LF x y e tot := fun tot => ⟨fun h => by
                    obtain ⟨a, f, A, F, e, h2, h3, h4⟩ := h.three tv
                    cases e
                    cases grA0.inj h2
                    cases grF0.inj h3
                    exact h4, fun h => ⟨_, _, LA, LF, tv, grA0, grF0, h⟩⟩
                  generalize upd H2 q (.lst []) = H4 at s13
                  have grA := grA0.keep (.same s13)
                  have grF := grF0.keep (.same s13)
                  have ht2 := s13 _ _ ht
                  dsimp only [tNext]
                  refine or_by (p := ent LA 0 0 ≠ 0) (q := ent LA x.length y.length ≠ tot) (ne_by (ent_by (i := 0) (j := 0) grA (Nat.zero_le _) (Nat.zero_le _) (ix_by ht2 at1 (v_of rfl) c_of) c_of c_of) c_of) (fun _ => ne_by (end_by grA (ix_by ht2 at1 (v_of rfl) c_of)) (v_of rfl)) ?_
                  by_cases z : ent LA 0 0 ≠ 0 ∨ ent LA x.length y.length ≠ tot
                  · rw [decide_eq_true z]
                    exact iteT (k false H4 s13 ⟨nofun, fun h => by
                      obtain ⟨h1, h2, _⟩ := (eq tot).mp h
                      rcases z with z | z
                      · exact absurd h1 z
                      · exact absurd h2 z⟩)
                  · rw [decide_eq_false z]
                    refine iteF ?_
                    dsimp only [tNext]
                    refine ⟨_, rfl, _, rfl, _, rfl, ?_⟩
                    refine ⟨_, rfl, t, _, _, _, rfl, rfl, SqT.of ht2, at1, _, rfl, t, _, _, _, rfl, rfl, SqT.of ht2, at2, x, y, e, ga, gf, LA, LF, rfl, grA, grF, hx, hy, fun b H5 s5 hb => k b H5 (s13.trans s5) (hb.trans ⟨fun h => (eq tot).mpr ⟨?_, ?_, h⟩, fun h => ((eq tot).mp h).2.2⟩)⟩
                    · exact Decidable.byContradiction fun q => z (.inl q)
                    · exact Decidable.byContradiction fun q => z (.inr q)
                · have ne : ([vb, vc].filter fun v => decide (¬ ∃ L, GridL H (x.length + 1) (y.length + 1) v L)).length ≠ 0 := fun z => by
                    have := List.filter_eq_nil_iff.mp (List.eq_nil_of_length_eq_zero z) vc (by simp)
                    exact this (decide_eq_true gc)
                  rw [decide_eq_false ne]
                  exact iteT (k false _ s13 ⟨nofun, fun h => by
                    obtain ⟨a, f, A, F, e, _, h3, _⟩ := h.three tv
                    cases e
                    exact absurd ⟨F, h3⟩ gc⟩)
              · have ne : ([vb, vc].filter fun v => decide (¬ ∃ L, GridL H (x.length + 1) (y.length + 1) v L)).length ≠ 0 := fun z => by
                  have := List.filter_eq_nil_iff.mp (List.eq_nil_of_length_eq_zero z) vb (by simp)
                  exact this (decide_eq_true gb)
                rw [decide_eq_false ne]
                exact iteT (k false _ s13 ⟨nofun, fun h => by
                  obtain ⟨a, f, A, F, e, h2, _⟩ := h.three tv
                  cases e
                  exact absurd ⟨A, h2⟩ gb⟩)
          · rw [decide_eq_false c1]
            exact iteT (k false H Same.rfl ⟨nofun, fun h => by
              obtain ⟨a, f, A, F, e, _⟩ := h.three tv
              cases e
              exact absurd rfl c1⟩)
      | [], ht, tv, itm => exact iteT (k false H Same.rfl ⟨nofun, fun h => by
          obtain ⟨a, f, A, F, e, _⟩ := h.three tv
          cases e⟩)
      | [va], ht, tv, itm => exact iteT (k false H Same.rfl ⟨nofun, fun h => by
          obtain ⟨a, f, A, F, e, _⟩ := h.three tv
          cases e⟩)
      | [va, vb], ht, tv, itm => exact iteT (k false H Same.rfl ⟨nofun, fun h => by
          obtain ⟨a, f, A, F, e, _⟩ := h.three tv
          cases e⟩)
      | va :: vb :: vc :: vd :: r, ht, tv, itm =>
        rw [show decide (V.int (((va :: vb :: vc :: vd :: r).length : Nat) : Int) = V.int 3) = false from decide_eq_false fun z => by
          have := V.int.inj z
          simp only [List.length_cons] at this
          omega]
        exact iteT (k false H Same.rfl ⟨nofun, fun h => by
          obtain ⟨a, f, A, F, e, _⟩ := h.three tv
          cases e⟩)
end
end Vk
set_option Elab.async false
set_option maxRecDepth 100000
set_option linter.all false
set_option maxHeartbeats 4000000
namespace Vk
open PySem PySem.Spec PyProof.Rows L2 StX
/-! ## texts turned round -/
theorem backS_list (z : Str) : (backS z).cps.toList = z.cps.toList.reverse := by
  show (z.cps.toList.reverse.toArray).toList = _
  rw [List.toList_toArray]
theorem backS_two (z : Str) : backS (backS z) = z := str_ext (by rw [backS_list, backS_list, List.reverse_reverse])
theorem ltr_back {x : Str} {i : Nat} (h : i < x.length) : ltr (backS x) i = ltr x (x.length - 1 - i) := by
  have lx : x.cps.toList.length = x.length := Array.length_toList
  unfold ltr
  rw [backS_list, List.getD_eq_getElem?_getD, List.getD_eq_getElem?_getD, List.getElem?_reverse (by omega), lx]
theorem tw_back {X Y : Nat → Nat} {n g t : Nat} (hY : ∀ i, i < n → Y i = X (n - 1 - i)) (h1 : g ≤ t) (h2 : t ≤ n) (h : Tw X n g t) : Tw Y n (n - t) (n - g) := by
  obtain ⟨k, k1, k2, k3⟩ := h
  refine ⟨n - (k + (t - g)), by omega, by omega, fun s hs => ?_⟩
  rw [hY _ (by omega), hY _ (by omega)]
  have := k3 (t - g - 1 - s) (by omega)
  rw [show n - 1 - (n - (k + (t - g)) + s) = k + (t - g - 1 - s) by omega, this, show n - 1 - (n - t + s) = g + (t - g - 1 - s) by omega]
theorem once_back {x : Str} {g t : Nat} (h1 : g ≤ t) (h2 : t ≤ x.length) (h : onceX x g t) : onceX (backS x) (x.length - t) (x.length - g) := by
  have ln := back_len x
  unfold onceX at h ⊢
  cases e : twB (backS x) (x.length - t) (x.length - g) with
  | false => rfl
  | true =>
    have q := (twB_iff (by omega) (by omega)).mp e
    rw [ln] at q
    have q2 := tw_back (Y := ltr x) (fun i hi => by rw [ltr_back (by omega), show x.length - 1 - (x.length - 1 - i) = i by omega]) (by omega) (by omega) q
    rw [show x.length - (x.length - g) = g by omega, show x.length - (x.length - t) = t by omega] at q2
    have := (twB_iff h1 h2).mpr q2
    rw [h] at this
    cases this
theorem way_back {x y : Str} {e i j c : Nat} (w : WayB x.cps.toList y.cps.toList (onceX x) e i j c) : WayF (backS x).cps.toList (backS y).cps.toList (onceX (backS x)) e (x.length - i) (y.length - j) c := by
  have lx : x.cps.toList.length = x.length := Array.length_toList
  have ly : y.cps.toList.length = y.length := Array.length_toList
  have bx : (backS x).cps.toList.length = x.length := by rw [backS_list, List.length_reverse, lx]
  have by' : (backS y).cps.toList.length = y.length := by rw [backS_list, List.length_reverse, ly]
  induction w with
  | stop =>
    rw [lx, ly, Nat.sub_self, Nat.sub_self]
    exact .start
  | @keep i j c w h1 h2 ih =>
    have hj : j < y.length := by
      have h3 := h2
      rw [List.getElem?_eq_getElem h1] at h3
      have := (List.getElem?_eq_some_iff.mp h3.symm).1
      omega
    have hi : i < x.length := by omega
    have := WayF.keep ih (by omega) (by
      rw [backS_list, backS_list, List.getElem?_reverse (by omega), List.getElem?_reverse (by omega), lx, ly, show x.length - 1 - (x.length - (i + 1)) = i by omega, show y.length - 1 - (y.length - (j + 1)) = j by omega]
      exact h2)
    rw [show x.length - (i + 1) + 1 = x.length - i by omega, show y.length - (j + 1) + 1 = y.length - j by omega] at this
    exact this
  | @xch i j c t k w h1 h2 h3 h4 h5 ih =>
    have := WayF.xch (t := x.length - i) (k := y.length - j) ih (by omega) (by omega) (once_back (by omega) (by omega) h3) (by omega) (by omega)
    rw [show x.length - i - (x.length - t) = t - i by omega, show y.length - j - (y.length - k) = k - j by omega] at this
    exact this
theorem ways_back {x y : Str} {e c : Nat} (w : WayF x.cps.toList y.cps.toList (onceX x) e x.length y.length c) : WayF (backS x).cps.toList (backS y).cps.toList (onceX (backS x)) e x.length y.length c := by
  have lx : x.cps.toList.length = x.length := Array.length_toList
  have ly : y.cps.toList.length = y.length := Array.length_toList
  rw [← lx, ← ly] at w
  have := way_back (way_both.mp w)
  rw [Nat.sub_zero, Nat.sub_zero] at this
  exact this
/-- the same ways, the same price -/
theorem kX_eq {x y x' y' : Str} {e : Nat} (hx : x'.length = x.length) (hy : y'.length = y.length) (h : ∀ c, WayF x'.cps.toList y'.cps.toList (onceX x') e x.length y.length c ↔ WayF x.cps.toList y.cps.toList (onceX x) e x.length y.length c) : kX x' y' e x'.length y'.length = kX x y e x.length y.length := by
  have lx : x.cps.toList.length = x.length := Array.length_toList
  have ly : y.cps.toList.length = y.length := Array.length_toList
  have lx' : x'.cps.toList.length = x'.length := Array.length_toList
  have ly' : y'.cps.toList.length = y'.length := Array.length_toList
  show lstB _ _ = lstB _ _
  have b : beyond x'.cps.toList y'.cps.toList e = beyond x.cps.toList y.cps.toList e := by
    unfold beyond
    rw [lx, ly, lx', ly', hx, hy]
  rw [b, hx, hy, show WayF x'.cps.toList y'.cps.toList (onceX x') e x.length y.length = WayF x.cps.toList y.cps.toList (onceX x) e x.length y.length from funext fun c => propext (h c)]
theorem kX_back {x y : Str} {e : Nat} : kX (backS x) (backS y) e (backS x).length (backS y).length = kX x y e x.length y.length := by
  refine kX_eq (back_len x) (back_len y) fun c => ⟨fun w => ?_, fun w => ways_back w⟩
  have := ways_back (x := backS x) (y := backS y) (e := e) (c := c) (by rw [back_len, back_len]; exact w)
  rw [backS_two, backS_two, back_len, back_len] at this
  exact this
/-! ## other letters -/
def otherS (rd : Nat → Nat) (x : Str) : Str := ⟨(x.cps.toList.map rd).toArray⟩
theorem other_list {rd : Nat → Nat} {x : Str} : (otherS rd x).cps.toList = x.cps.toList.map rd := by
  show ((x.cps.toList.map rd).toArray).toList = _
  rw [List.toList_toArray]
theorem other_len {rd : Nat → Nat} {x : Str} : (otherS rd x).length = x.length := by
  show (x.cps.toList.map rd).toArray.size = x.cps.size
  rw [List.size_toArray, List.length_map, Array.length_toList]
theorem ltr_in {x : Str} {j : Nat} (h : j < x.length) : ltr x j ∈ x.cps.toList := by
  have h2 : j < x.cps.toList.length := by rw [Array.length_toList]; exact h
  unfold ltr
  rw [List.getD_eq_getElem?_getD, List.getElem?_eq_getElem h2]
  exact List.getElem_mem h2
theorem other_ltr {rd : Nat → Nat} {x : Str} {i : Nat} (h : i < x.length) : ltr (otherS rd x) i = rd (ltr x i) := by
  have h2 : i < x.cps.toList.length := by rw [Array.length_toList]; exact h
  unfold ltr
  rw [other_list, List.getD_eq_getElem?_getD, List.getD_eq_getElem?_getD, List.getElem?_map, List.getElem?_eq_getElem h2]
  rfl
theorem tw_letters {X Y : Nat → Nat} {n a b : Nat} (h : ∀ i j, i < n → j < n → (Y i = Y j ↔ X i = X j)) (h1 : a ≤ b) (h2 : b ≤ n) : Tw Y n a b ↔ Tw X n a b := by
  constructor
  · rintro ⟨k, k1, k2, k3⟩
    exact ⟨k, k1, k2, fun t ht => (h _ _ (by omega) (by omega)).mp (k3 t ht)⟩
  · rintro ⟨k, k1, k2, k3⟩
    exact ⟨k, k1, k2, fun t ht => (h _ _ (by omega) (by omega)).mpr (k3 t ht)⟩
theorem once_other {rd : Nat → Nat} {x : Str} (inj : ∀ c ∈ x.cps.toList, ∀ d ∈ x.cps.toList, rd c = rd d → c = d) {g t : Nat} (h1 : g ≤ t) (h2 : t ≤ x.length) : onceX (otherS rd x) g t ↔ onceX x g t := by
  unfold onceX
  have q : twB (otherS rd x) g t = true ↔ twB x g t = true := by
    rw [twB_iff h1 (by rw [other_len]; exact h2), twB_iff h1 h2, other_len]
    refine tw_letters (fun i j hi hj => ?_) h1 h2
    rw [other_ltr hi, other_ltr hj]
    exact ⟨fun e => inj _ (ltr_in hi) _ (ltr_in hj) e, fun e => by rw [e]⟩
  cases e1 : twB (otherS rd x) g t <;> cases e2 : twB x g t <;> simp [e1, e2] at q ⊢
theorem way_map {a b a' b' : List Nat} {once once' : Nat → Nat → Prop} {e i j c : Nat} (la : a'.length = a.length) (lb : b'.length = b.length) (hk : ∀ i j : Nat, i < a.length → a[i]? = b[j]? → a'[i]? = b'[j]?) (ho : ∀ g t : Nat, g < t → t ≤ a.length → once g t → once' g t) (w : WayF a b once e i j c) : WayF a' b' once' e i j c := by
  induction w with
  | start => exact .start
  | keep _ h1 h2 ih => exact .keep ih (by omega) (hk _ _ h1 h2)
  | xch _ h1 h2 h3 h4 h5 ih => exact .xch ih h1 (by omega) (ho _ _ h1 h2 h3) h4 (by omega)
theorem kX_other {rd : Nat → Nat} {x y : Str} {e : Nat} (inj : ∀ c ∈ x.cps.toList ++ y.cps.toList, ∀ d ∈ x.cps.toList ++ y.cps.toList, rd c = rd d → c = d) : kX (otherS rd x) (otherS rd y) e (otherS rd x).length (otherS rd y).length = kX x y e x.length y.length := by
  have lx : x.cps.toList.length = x.length := Array.length_toList
  have injx : ∀ c ∈ x.cps.toList, ∀ d ∈ x.cps.toList, rd c = rd d → c = d := fun c hc d hd => inj c (List.mem_append_left _ hc) d (List.mem_append_left _ hd)
  refine kX_eq other_len other_len fun c => ⟨way_map ?_ ?_ (fun i j hi h => ?_) (fun g t h1 h2 h => ?_), way_map ?_ ?_ (fun i j hi h => ?_) (fun g t h1 h2 h => ?_)⟩
  · rw [other_list, List.length_map]
  · rw [other_list, List.length_map]
  · rw [other_list, List.length_map] at hi
    rw [other_list, other_list, List.getElem?_map, List.getElem?_map, List.getElem?_eq_getElem hi] at h
    cases q : y.cps.toList[j]? with
    | none => rw [q] at h; cases h
    | some d =>
      rw [q] at h
      rw [List.getElem?_eq_getElem hi]
      exact congrArg some (inj _ (List.mem_append_left _ (List.getElem_mem hi)) _ (List.mem_append_right _ (List.mem_of_getElem? q)) (Option.some.inj h))
  · rw [other_list, List.length_map] at h2
    exact (once_other injx (by omega) (by omega)).mp h
  · rw [other_list, List.length_map]
  · rw [other_list, List.length_map]
  · rw [other_list, other_list, List.getElem?_map, List.getElem?_map, h]
  · exact (once_other injx (by omega) (by omega)).mpr h
/-! ## a dearer part -/
theorem way_cheaper {a b : List Nat} {once : Nat → Nat → Prop} {e d i j c : Nat} (w : WayF a b once (e + d) i j c) : ∃ c', WayF a b once e i j c' ∧ c' ≤ c := by
  induction w with
  | start => exact ⟨0, .start, Nat.le_refl _⟩
  | keep _ h1 h2 ih =>
    obtain ⟨c', w, l⟩ := ih
    exact ⟨c', .keep w h1 h2, l⟩
  | xch _ h1 h2 h3 h4 h5 ih =>
    obtain ⟨c', w, l⟩ := ih
    exact ⟨_, .xch w h1 h2 h3 h4 h5, by omega⟩
theorem parts_dearer {a b : List Nat} {once : Nat → Nat → Prop} {e d i j c : Nat} {rs : List (Nat × Nat × List Nat)} (h : Parts a b once e i j c rs) : Parts a b once (e + d) i j (c + d * rs.length) rs := by
  induction h with
  | stop => exact .stop
  | keep _ h1 h2 ih => exact .keep ih h1 h2
  | @xch i j c t k rs _ h1 h2 h3 h4 h5 ih =>
    have := Parts.xch ih h1 h2 h3 h4 h5
    rw [List.length_cons]
    rw [show c + e + (t - i) + (k - j) + d * (rs.length + 1) = c + d * rs.length + (e + d) + (t - i) + (k - j) by rw [Nat.mul_succ]; omega]
    exact this
theorem kX_more {x y : Str} {e d : Nat} (no : ¬ (x.length = 0 ∧ ¬ y.length = 0)) : kX x y e x.length y.length ≤ kX x y (e + d) x.length y.length := by
  obtain ⟨_, w⟩ := kX_lt (e := e + d) no
  obtain ⟨c', w', l⟩ := way_cheaper w
  exact Nat.le_trans ((kF_least _ _).le _ w') l
theorem kX_most {x y : Str} {e d : Nat} {rs : List (Nat × Nat × Str)} (h : PartS x y e 0 0 (kX x y e x.length y.length) rs) : kX x y (e + d) x.length y.length ≤ kX x y e x.length y.length + d * rs.length := by
  have lx : x.cps.toList.length = x.length := Array.length_toList
  have ly : y.cps.toList.length = y.length := Array.length_toList
  have := (parts_dearer (d := d) h).way
  rw [List.length_map, ← way_both, lx, ly] at this
  exact (kF_least _ _).le _ this
end Vk
set_option Elab.async false
set_option maxRecDepth 100000
set_option linter.all false
set_option maxHeartbeats 4000000
namespace Vk
open PySem PySem.Spec PyProof.Rows L2 LamX NdefX StX
section
variable {P : Program} {w : World} {K : PySem.W.Frag} {mg : Str → Option Value} {base : Heap}
theorem seq_at {m : Int} {n : Nat} (h0 : 0 ≤ m) (h1 : m < n) : seqIndex? m n = some m.toNat := by
  unfold seqIndex?
  simp only [ge_iff_le]
  split <;> first | rfl | omega | (split <;> first | rfl | omega) | (simp; omega)
theorem perm_erase : ∀ {xs : List V} {k : Nat} (h : k < xs.length), List.Perm (xs[k] :: xs.eraseIdx k) xs
  | _ :: _, 0, _ => List.Perm.refl _
  | y :: ys, k + 1, h => (List.Perm.swap y _ _).trans (List.Perm.cons y (perm_erase (xs := ys) (k := k) (Nat.lt_of_succ_lt_succ h)))
abbrev s_lshuffled : Stmt := top 21
theorem sc_lshuffled : FnScope ["_law_pen_here", "_law_items", "_law_left", "_law_found"] ["_law_pen_here", "_law_items"] (defScope s_lshuffled) := ⟨rfl, rfl, rfl, by decide +kernel, rfl, by decide +kernel, by decide +kernel⟩
end
end Vk
set_option Elab.async false
set_option maxRecDepth 100000
set_option linter.all false
namespace Vk
open PySem PySem.Spec PyProof.Rows L2
/-- the letters of a text, one by one -/
def onesL (x : Str) : List Str := x.cps.toList.map fun c => (⟨#[c]⟩ : Str)
theorem onesL_len (x : Str) : (onesL x).length = x.length := by
  unfold onesL
  rw [List.length_map]
  exact Array.length_toList
theorem signs_are : ∀ (cs : List Nat) (vs : List Value), vs.length = cs.length → (∀ (i : Nat) (v : Value), vs[i]? = some v → ∃ c u, cs[i]? = some c ∧ v = Value.str ⟨#[c]⟩ u) → StrsAre vs (cs.map fun c => (⟨#[c]⟩ : Str))
  | [], [], _, _ => .nil
  | c :: cs, v :: vs, hl, h => by
    obtain ⟨c', u, e, ev⟩ := h 0 v rfl
    cases e
    subst ev
    exact .cons _ u (signs_are cs vs (Nat.succ.inj hl) fun i v' e => h (i + 1) v' e)
theorem signs_str {x : Str} {acc : Array Value} (h : ItemsOf (SignAt x) acc x.cps.size) : StrsAre acc.toList (onesL x) := by
  refine signs_are _ _ ?_ fun i v e => ?_
  · rw [Array.length_toList, Array.length_toList]
    exact h.1
  · obtain ⟨c, u, ec, ev⟩ := h.2 i v (by rw [← Array.getElem?_toList]; exact e)
    exact ⟨c, u, by rw [Array.getElem?_toList]; exact ec, ev⟩
section
variable {X : Cx}
/-- list(x), x a text -/
def rListStr : List V → Hp → VK → Prop := fun vs H Q => ∃ x : Str, vs = [V.str x] ∧ x.length ≤ sizeLine ∧ ∀ l, H l = none → Q (.ref l) (upd H l (.lst ((onesL x).map V.str)))
theorem call_list_ofStr (hc : X.calm = true) : CallR X (.type "list") rListStr := by
  intro pins s σ H vs us Q I r h
  obtain ⟨x, rfl, hx, q⟩ := h
  obtain ⟨u, rfl, rx⟩ := vals1 r
  obtain ⟨t, rfl⟩ := rx
  refine call_list_str (I.ok.hd hc) x t (fun h' tk acc c hk e hi => ?_) (hn := hx)
  have hz : ((onesL x).map V.str).length ≤ sizeLine := by rw [List.length_map, onesL_len]; exact hx
  exact ⟨.ref s.heap.objs.size, _, I.laid (t' := tk) hk (Nat.le_refl _) (show ObjOk X.prog X.w _ h' _ (.lst ((onesL x).map V.str)) from ⟨hz, acc.toList, c, vals_of_strs (signs_str hi), e⟩), rfl, q _ (I.hok.fresh (Nat.le_refl _))⟩
end
end Vk
set_option Elab.async false
set_option maxRecDepth 100000
set_option linter.all false
set_option maxHeartbeats 4000000
namespace Vk
open PySem PySem.Spec PyProof.Rows L2
theorem perm_strs' {ys xs : List V} (pm : List.Perm ys xs) : ∀ {l : List Str}, xs = l.map V.str → ∃ l', List.Perm l' l ∧ ys = l'.map V.str := by
  induction pm with
  | nil => intro l e; exact ⟨l, List.Perm.refl _, e⟩
  | cons x _ ih =>
    intro l e
    match l, e with
    | a :: r, e =>
      rw [List.map_cons] at e
      obtain ⟨l', q, e2⟩ := ih (List.cons.inj e).2
      exact ⟨a :: l', q.cons a, by rw [List.map_cons, ← e2, (List.cons.inj e).1]⟩
  | swap x y r =>
    intro l e
    match l, e with
    | a :: b :: r', e =>
      rw [List.map_cons, List.map_cons] at e
      obtain ⟨e1, e2⟩ := List.cons.inj e
      obtain ⟨e3, e4⟩ := List.cons.inj e2
      exact ⟨b :: a :: r', List.Perm.swap _ _ _, by rw [List.map_cons, List.map_cons, ← e1, ← e3, ← e4]⟩
  | trans _ _ ih1 ih2 =>
    intro l e
    obtain ⟨l1, q1, e1⟩ := ih2 e
    obtain ⟨l2, q2, e2⟩ := ih1 e1
    exact ⟨l2, q2.trans q1, e2⟩
theorem perm_strs {ys : List V} {l : List Str} (pm : List.Perm ys (l.map V.str)) : ∃ l', List.Perm l' l ∧ ys = l'.map V.str := perm_strs' pm rfl
section
variable {P : Program} {w : World} {K : PySem.W.Frag} {mg : Str → Option Value} {base : Heap}
/-- shuffled: the letters of a text in some order, in a new list -/
def spShufS : Sp := fun vs H Q _ => ∃ (p c : Addr) (z : Str) (T : Nat), vs = [.ref p, .str z] ∧ z.length ≤ 1000 ∧ Pen H p c T ∧ T + z.length < 1000000000 ∧
  ∀ n (ys : List Str) H', List.Perm ys (onesL z) → H n = none → H' n = some (.lst (ys.map V.str)) → Pen H' p c (T + z.length) → Ext p H H' → Q (.ref n) H'
theorem b_lshuffledS {f : Addr} {fd : FuncData} (F : Fun K "_law_shuffled" "_law_shuffled" s_lshuffled f fd) (T : Txt mg) (c_ldraw : CalG P w K mg base CX0 1 "_law_draw" spDraw) : FnG P w K mg base CX0 2 f fd ["_law_pen_here", "_law_items"] spShufS := by
  refine okG0 F sc_lshuffled (fun vs H Q E h => ?_) (fun cdv A outer s H vs Q E hg hr h => ?_)
  · obtain ⟨p, c, z, T, rfl, _⟩ := h
    rfl
  · have hu := hu_of hr
    have hu64 := hr.units
    obtain ⟨p, pc, z, T0, rfl, hz, hpen, hT, kz⟩ := h
    obtain ⟨xs, exs⟩ : ∃ xs : List V, xs = (onesL z).map V.str := ⟨_, rfl⟩
    have lx : xs.length = z.length := by rw [exs, List.length_map, onesL_len]
    have hx : xs.length ≤ 1000 := by rw [lx]; exact hz
    rw [← lx] at hT
    have k : ∀ n ys H', List.Perm ys xs → H n = none → H' n = some (.lst ys) → Pen H' p pc (T0 + xs.length) → Ext p H H' → Q (.ref n) H' := fun n ys H' pm h1 h2 h3 h4 => by
      rw [exs] at pm
      obtain ⟨zs, q1, rfl⟩ := perm_strs pm
      exact kz n zs H' q1 h1 h2 (lx ▸ h3) h4
    refine ⟨_, (pss_cons (ps_par (i := 2) (j := 3) (by rfl) sc_lshuffled.nd rfl rfl (by decide) rfl rfl (pa_cons (pe_callTy (call_list_ofStr rfl) (by rfl) T.list (by decide +kernel) (pa_cons (pv 1) pa_nil)) (pa_cons (pe_lst pa_nil) pa_nil)) (by rfl))
      (pss_cons (ps_while PassesOwn.never (pt_cmpR (op_neNil hu64) (pv 2) (pe_lst pa_nil) (nomark _)) (pss_one (ps_expr (pe_bm PySem.F.plainAttrs_list PySem.F.slot_list_append PySem.F.type_list_append mt_append (pv 3) (pa_cons (pe_bm PySem.F.plainAttrs_list PySem.F.slot_list_pop PySem.F.type_list_pop mt_popAt (pv 2) (pa_cons (pe_cG c_ldraw hg hr (by decide) pass0 (pa_cons (pv 0) (pa_cons (pe_callB call_len (by rfl) T.len (by decide +kernel) (pa_cons (pv 2) pa_nil)) pa_nil))) pa_nil)) pa_nil)))))
      (pss_one (ps_ret (pv 3))))), ?_⟩
    refine ⟨_, rfl, z, rfl, few_len hz, fun l1 hl1 => ?_⟩
    rw [← exs]
    refine ⟨few_len (Nat.zero_le _), fun l2 hl2 => ?_⟩
    have s1 := same_new (o := .lst xs) hl1
    have s2 := s1.trans (same_new (o := .lst []) hl2)
    have n12 : l1 ≠ l2 := ne_of_none upd_same hl2
    have hl2H := none_up s1 hl2
    have a1 := hpen.apart hl1
    have a2 := hpen.apart hl2H
    refine ⟨_, _, rfl, ?_⟩
    refine ⟨fun m σ H' => ∃ ls fs, σ = [some (.ref p), some (.str z), some (.ref l1), some (.ref l2)] ∧ H' l1 = some (.lst ls) ∧ H' l2 = some (.lst fs) ∧ List.Perm (fs ++ ls) xs ∧ Pen H' p pc (T0 + fs.length) ∧ Ext p H H' ∧ m = ls.length, ⟨_, xs, [], rfl, (upd_ne n12).trans upd_same, upd_same, List.Perm.refl _, hpen.stay s2, .same s2, rfl⟩, ?_⟩
    rintro m σ H1 ⟨ls, fs, rfl, h1, h2, pm, P1, x1, rfl⟩
    have len : fs.length + ls.length = xs.length := by rw [← List.length_append]; exact pm.length_eq
    refine ⟨_, rfl, few_len (Nat.zero_le _), fun q hq => ⟨l1, ls, q, rfl, rfl, SqL.of ((same_new hq) _ _ h1), SqL.of upd_same, _, rfl, ?_⟩⟩
    have sq := same_new (o := .lst []) hq
    have P2 := P1.stay sq
    have x2 := x1.trans (.same sq)
    have h1' := sq _ _ h1
    have h2' := sq _ _ h2
    generalize upd H1 q (.lst []) = H2 at P2 x2 h1' h2' ⊢
    match ls, h1', pm, len with
    | [], h1', pm, len =>
      refine iteF ⟨_, rfl, k l2 fs H2 (by rw [List.append_nil] at pm; exact pm) hl2H h2' ?_ x2⟩
      rw [List.length_nil] at len
      rw [← len]
      exact P2
    | y :: ys, h1', pm, len =>
      rw [List.length_cons] at len
      refine iteT ⟨fun σ' H' => ∃ ls fs, σ' = [some (.ref p), some (.str z), some (.ref l1), some (.ref l2)] ∧ H' l1 = some (.lst ls) ∧ H' l2 = some (.lst fs) ∧ List.Perm (fs ++ ls) xs ∧ Pen H' p pc (T0 + fs.length) ∧ Ext p H H' ∧ ls.length = ys.length, ?_, ?_⟩
      · rintro σ' H' ⟨ls, fs, e, q1, q2, q3, q4, q5, q6⟩
        exact ⟨_, by rw [List.length_cons, q6]; exact Nat.lt_succ_self _, ls, fs, e, q1, q2, q3, q4, q5, rfl⟩
      · refine ⟨_, rfl, .inl ⟨rfl, _, SqL.of h2'⟩, ?_⟩
        refine ⟨_, rfl, .inl ⟨rfl, _, SqL.of h1'⟩, ?_⟩
        refine ⟨_, rfl, _, rfl, .ref l1, _, rfl, .inl ⟨_, SqL.of h1', rfl⟩, p, pc, _, _, rfl, by rw [List.length_cons]; omega, by rw [List.length_cons]; omega, P2, by omega, fun d H3 d0 d1 P3 x3 => ?_⟩
        have g1 := P2.keepI x3 h1'
        have g2 := P2.keepI x3 h2'
        have dl : d.toNat < (y :: ys).length := by omega
        refine ⟨l1, _, d, d.toNat, (y :: ys)[d.toNat], rfl, rfl, g1, by omega, by rw [List.length_cons] at d1; omega, seq_at d0 d1, List.getElem?_eq_getElem dl, ?_⟩
        have g2' : (upd H3 l1 (.lst ((y :: ys).eraseIdx d.toNat))) l2 = some (.lst fs) := (upd_ne n12.symm).trans g2
        refine ⟨l2, fs, _, rfl, rfl, g2', fewL (by omega), ?_⟩
        refine ⟨_, _, rfl, (upd_ne n12).trans upd_same, upd_same, ?_, ?_, ?_, ?_⟩
        · refine List.Perm.trans ?_ pm
          rw [List.append_assoc]
          exact List.Perm.append_left _ (perm_erase dl)
        · rw [List.length_append, List.length_singleton, ← Nat.add_assoc]
          exact (P3.set a1.1 a1.2).set a2.1 a2.2
        · exact ((x2.trans x3).set hl1).set hl2H
        · rw [List.length_eraseIdx_of_lt dl, List.length_cons]
          rfl
end
end Vk
set_option Elab.async false
set_option maxRecDepth 100000
set_option maxHeartbeats 4000000
set_option linter.all false
namespace Vk
open PySem PySem.Spec PyProof.Rows L2
/-! ## dict(zip(a, b)) of two lists, the first one of keys -/
def tDZ (K : PySem.W.Frag) (ta : TA) : TE := fun σ H Q => ta σ H fun vs H1 => ∃ (a b : Addr) (ks : List Key) (ys : List V), vs = [.ref a, .ref b] ∧ SqL K H1 a (ks.map kV) ∧ SqL K H1 b ys ∧ ks.length ≤ ys.length ∧ ∀ q, H1 q = none → Q (.ref q) (upd H1 q (.dK (mergeK [] (ks.zip ys))))
theorem kv_zip {P : Program} {w : World} : ∀ {ks : List Key} {us : List Value} {ys : List V} {ws : List Value}, Vals (ks.map kV) us → Vals ys ws → ks.length ≤ ys.length →
    KV (ks.zip ys) (ks.zip ws) ∧ ∀ (j : Nat) (key v : Value), us[j]? = some key → ws[j]? = some v → ∃ k, (ks.zip ws)[j]? = some (k, v) ∧ keyIs k key = true
  | [], us, ys, ws, r1, r2, _ => by
    cases r1
    exact ⟨.nil, fun j key v h => by simp at h⟩
  | k :: ks, us, [], ws, _, _, h => by simp at h
  | k :: ks, us, y :: ys, ws, r1, r2, h => by
    rw [List.map_cons] at r1
    cases r1 with
    | cons a t =>
      cases r2 with
      | cons b u =>
        obtain ⟨i1, i2⟩ := kv_zip (P := P) (w := w) t u (by simpa using h)
        refine ⟨.cons ⟨rfl, b⟩ i1, fun j key v h1 h2 => ?_⟩
        cases j with
        | zero =>
          cases Option.some.inj h1
          cases Option.some.inj h2
          exact ⟨k, rfl, kV_is (P := P) (w := w) a⟩
        | succ j =>
          obtain ⟨k2, e1, e2⟩ := i2 j key v (by simpa using h1) (by simpa using h2)
          exact ⟨k2, by simpa using e1, e2⟩
theorem pe_dictZip {X : Cx} {e e2 : Expr} {ta : TA} {p p2 pos pos2 : Pos} (hc : X.calm = true) (hgd : Gl X "dict") (hmd : X.mg "dict" = none) (hg : Gl X "zip") (hm : X.mg "zip" = none) (ha : PA X [e, e2] ta)
    (hs : starEach [e, e2] X.env = (false, eval e X.env) :: starEach [e2] X.env := by rfl) (hpl : (backTo pos2 (starEach [e2] X.env)).any (·.1) = false := by rfl)
    (na : starEach [.Call (.Name "zip" p2) [e, e2] [] pos2] X.env = (false, eval (.Call (.Name "zip" p2) [e, e2] [] pos2) X.env) :: starEach [] X.env := by rfl) :
    PE X (.Call (.Name "dict" p) [.Call (.Name "zip" p2) [e, e2] [] pos2] [] pos) (tDZ X.K ta) := by
  refine ⟨fun pins s σ H Q I h => ?_⟩
  have inner : wpAny (model X.prog X.w) X.A (eval (.Call (.Name "zip" p2) [e, e2] [] pos2) X.env) (fun v s' => ∃ (z a b : Addr) (its its2 : Array Value) (ks : List Key) (ys : List V) (H1 : Hp) (s1 : Shared), v = .ref z ∧ Inv X pins σ H1 s1 ∧ Vals (ks.map kV) its.toList ∧ Vals ys its2.toList ∧ ks.length ≤ ys.length ∧ ys.length ≤ sizeLine ∧ z = s1.heap.objs.size + 4 ∧ a < s1.heap.objs.size ∧ b < s1.heap.objs.size ∧ s1.heap.objs.size ≤ s'.heap.objs.size ∧
      IsZip s'.heap z (s1.heap.objs.size + 2) (s1.heap.objs.size + 3) .none ∧ IsPair s'.heap (s1.heap.objs.size + 2) (.ref s1.heap.objs.size) (.ref (s1.heap.objs.size + 1)) ∧ IsPair s'.heap (s1.heap.objs.size + 3) .none .none ∧ s'.heap.IsListIter s1.heap.objs.size a 0 ∧ s'.heap.IsListIter (s1.heap.objs.size + 1) b 0 ∧ s'.heap.IsList a its ∧ s'.heap.IsList b its2 ∧
      (∀ c o, s1.heap.get? c = some o → s'.heap.get? c = some o) ∧ (∃ h2 t2, s' = { s1 with heap := h2, toks := t2 }) ∧ ∀ q, H1 q = none → Q (.ref q) (upd H1 q (.dK (mergeK [] (ks.zip ys))))) X.xe s := by
    refine Call_ (ld_blt I hg hm PyProof.Rows.boot_zip (PyProof.Rows.callWith_type1 (thn (ha.run pos2 pins s σ H _ I h) fun us s1 hh => ?_) hs hpl))
    obtain ⟨vs, H1, I1, r1, a, b, ks, ys, rfl, hqx, hqy, hl, q⟩ := hh
    cases r1 with
    | cons r rr =>
      cases rr with
      | cons r' rr =>
        cases rr
        cases r
        cases r'
        obtain ⟨its, rv, q1, _⟩ := I1.list hqx
        obtain ⟨its2, rv2, q2, z2⟩ := I1.list hqy
        have la : a < s1.heap.objs.size := q1.lt
        have lb : b < s1.heap.objs.size := q2.lt
        refine call_zip_2 q1.isList q2.isList fun h' hz hTI hTO h1 h2 hsz hk => ?_
        exact ⟨_, a, b, its.toArray, its2.toArray, ks, ys, H1, s1, rfl, I1, rv, rv2, hl, z2, rfl, la, lb, by show _ ≤ h'.objs.size; omega, hz, hTI, hTO, h1, h2, q1.isList.at fun o e => hk _ o e, q2.isList.at fun o e => hk _ o e, hk, ⟨h', s1.toks, rfl⟩, q⟩
  refine Call_ (ld_blt I hgd hmd PyProof.Rows.boot_dict (PyProof.Rows.callWith_type1 (args_cons (thn inner fun v s' hh => args_nil ?_) na) na))
  obtain ⟨z, a, b, its, its2, ks, ys, H1, s1, rfl, I1, rv, rv2, hl, hz2, ez, la, lb, hle, hz, hTI, hTO, h1, h2, q1, q2, hk, ⟨hh2, tt2, es⟩, q⟩ := hh
  subst ez
  obtain ⟨kv1, kv2⟩ := kv_zip (P := X.prog) (w := X.w) rv rv2 hl
  have e1 : its.size = ks.length := by rw [← Array.length_toList, ← rv.length, List.length_map]
  have e2' : its2.size = ys.length := by rw [← Array.length_toList, ← rv2.length]
  have en : min its.size its2.size = ks.length := by rw [e1, e2', Nat.min_eq_left hl]
  have hd : X.A.handled = none := I1.ok.hd hc
  have P := PairArg.zip (prog := X.prog) (w := X.w) (s1.heap.objs.size + 4) (s1.heap.objs.size + 2) (s1.heap.objs.size + 3) s1.heap.objs.size (s1.heap.objs.size + 1) a b (PySem.W.ktu_apart s1.heap.objs.size a b la lb) its its2
  refine PySem.call_dict_pairs (knd := mixKind X.prog X.w) (kvs := ks.zip its2.toList) P hd ⟨hz, hTI, ⟨_, _, hTO⟩, h1, h2, q1, q2⟩ ⟨?_, fun j key v r => ?_⟩ (by rw [en]; omega) fun h3 tk hD keep => ?_
  · show (ks.zip its2.toList).length = min its.size its2.size
    have e3 : its2.toList.length = ys.length := rv2.length.symm
    rw [en, List.length_zip, e3]
    exact Nat.min_eq_left hl
  · obtain ⟨r1, r2⟩ := r
    exact kv2 j key v (by rw [Array.getElem?_toList]; exact r1) (by rw [Array.getElem?_toList]; exact r2)
  · have km : KV (mergeK [] (ks.zip ys)) (merged [] (ks.zip its2.toList)) := KV.merge kv1 .nil
    have kp : ∀ c o, s1.heap.get? c = some o → h3.get? c = some o := fun c o e => keep c o (fun hm => by
      have lt : c < s1.heap.objs.size := Heap.lt_size e
      simp only [List.mem_cons, List.not_mem_nil, or_false] at hm
      rcases hm with e | e | e | e
      · exact absurd (e ▸ lt : (s1.heap.objs.size + 4 : Nat) < s1.heap.objs.size) (by omega)
      · exact absurd (e ▸ lt : (s1.heap.objs.size + 3 : Nat) < s1.heap.objs.size) (by omega)
      · exact absurd (e ▸ lt : (s1.heap.objs.size : Nat) < s1.heap.objs.size) (by omega)
      · exact absurd (e ▸ lt : (s1.heap.objs.size + 1 : Nat) < s1.heap.objs.size) (by omega)) (hk c o e)
    have big : sysModules < s1.heap.objs.size := I1.big
    have hlen : (mergeK [] (ks.zip ys)).length ≤ sizeLine := Nat.le_trans (length_mergeK _ _) (by rw [List.length_nil, Nat.zero_add, List.length_zip]; omega)
    subst es
    have hle2 : s1.heap.objs.size ≤ hh2.objs.size := hle
    have ns : hh2.objs.size ≠ sysModules := fun z => Nat.lt_irrefl _ (Nat.lt_of_lt_of_le big (z ▸ hle2))
    exact ⟨.ref hh2.objs.size, _, I1.laid (a := hh2.objs.size) (o := .dK (mergeK [] (ks.zip ys))) kp hle2 ⟨hlen, beq_eq_false_iff_ne.mpr ns, _, km, hD⟩, rfl, q _ (I1.hok.fresh hle2)⟩
end Vk
set_option Elab.async false
set_option maxRecDepth 100000
set_option linter.all false
set_option maxHeartbeats 4000000
namespace Vk
open PySem PySem.Spec PyProof.Rows L2
/-- a set when it is new -/
abbrev bareSet (w : World) : Obj := ⟨.type "set", none, .set #[] 0 (.fresh 0 0 (!w.params.followText "set-order")), #[]⟩
section
variable {P : Program} {w : World} {A : Around} {E : Value → Shared → Prop} {s : Shared}
end
section
variable {X : Cx}
end
end Vk
set_option Elab.async false
set_option maxRecDepth 100000
set_option linter.all false
set_option maxHeartbeats 4000000
namespace Vk
open PySem PySem.Spec PyProof.Rows L2
/-! ## sets of texts: set(x) of a text, sorted -/
def txtOf (e : Int × Value) : Str := match e.2 with
  | .str x _ => x
  | _ => Str.empty
def TxtE (w : World) (e : Int × Value) : Prop := ∃ x t, e.2 = Value.str x t ∧ e.1 = hashStr w x
/-- the set of texts at a, M its members; its table rises and can be walked -/
structure SetTx (w : World) (h : Heap) (a : Addr) (M : List Str) : Prop where
  ex : ∃ ob en ep tb, h.get? a = some ob ∧ ob.ExactSet ∧ ob.data = .set en ep tb ∧ (∀ e ∈ en.toList, TxtE w e) ∧ (en.toList.map txtOf).Nodup ∧ (∀ k, k ∈ M ↔ k ∈ en.toList.map txtOf) ∧
    en.size < scanBound ∧ tb.fits en.size = true ∧ Ris tb.place.toList ∧ (w.params.followText "set-order" = true ∨ tb.led = true)
section
variable {P : Program} {w : World} {h h1 : Heap} {a : Addr} {M : List Str}
theorem SetTx.keep (R : SetTx w h a M) (k : ∀ ob, h.get? a = some ob → h1.get? a = some ob) : SetTx w h1 a M :=
  let ⟨ob, en, ep, tb, e, r⟩ := R.ex
  ⟨ob, en, ep, tb, k ob e, r⟩
theorem txt_elems {l : List (Int × Value)} (g : ∀ e ∈ l, TxtE w e) : ElemsOf (PySem.strKind P w) l := fun e he => by
  obtain ⟨x, t, e1, e2⟩ := g e he
  exact ⟨⟨x, by rw [e1]; exact strKind_is P w x t, e2⟩, by rw [e1] <;> rfl⟩
theorem txt_is {e : Int × Value} (g : TxtE w e) (k : Str) : (PySem.strKind P w).is k e.2 = true ↔ txtOf e = k := by
  obtain ⟨x, t, e1, _⟩ := g
  unfold txtOf
  rw [e1]
  constructor
  · intro z
    exact ((PySem.strKind P w).inj _ _ _ z (strKind_is P w x t)).symm
  · rintro rfl
    exact strKind_is P w _ t
theorem txt_mem {l : List (Int × Value)} (g : ∀ e ∈ l, TxtE w e) (k : Str) : k ∈ l.map txtOf ↔ ∃ e ∈ l, (PySem.strKind P w).is k e.2 = true := by
  rw [List.mem_map]
  exact ⟨fun ⟨e, he, q⟩ => ⟨e, he, (txt_is (g e he) k).mpr q⟩, fun ⟨e, he, q⟩ => ⟨e, he, (txt_is (g e he) k).mp q⟩⟩
end
section
variable {P : Program} {w : World} {A : Around} {E : Value → Shared → Prop} {s : Shared} {a : Addr} {M : List Str}
theorem setTx_tail {gw : Bool → Sem Unit} (hgw : ∀ (b : Bool) (s2 : Shared) (Q2 : Unit → Shared → Prop), Q2 () s2 → wpAny (model P w) A (gw b) Q2 E s2)
    {ob : Obj} {en : Array (Int × Value)} {ep : Nat} {tb : SetTable} (ho : s.heap.get? a = some ob) (hex : ob.ExactSet) (hd : ob.data = .set en ep tb)
    {e1 : Array (Int × Value)} {t1 : SetTable} {M1 : List Str} (g1 : ∀ e ∈ e1.toList, TxtE w e) (nd1 : (e1.toList.map txtOf).Nodup) (m1 : ∀ k, k ∈ M1 ↔ k ∈ e1.toList.map txtOf)
    (b1 : e1.size < scanBound) (f1 : t1.fits e1.size = true) (r1 : Ris t1.place.toList) (l1 : w.params.followText "set-order" = true ∨ t1.led = true) {dummy : Bool} {R : Option Bool → Shared → Prop}
    (hR : ∀ h2, Heap.SameBut a s.heap h2 → SetTx w h2 a M1 → R (some true) { s with heap := h2 }) :
    wpAny (model P w) A (do
        storeSet a e1 t1
        if (!dummy && t1.tooFull) = true then do
            gw (relayAll t1 e1 (SetTable.grown e1.size)).2.2
            storeSet a (relayAll t1 e1 (SetTable.grown e1.size)).1 (relayAll t1 e1 (SetTable.grown e1.size)).2.1
            pure (some true)
          else pure (some true)) R E s := by
  refine wpAny_bind (wpAny_storeSet_of ho hd ?_ (fits_of_scanBound b1))
  have at1 := store_at (es' := e1) (t' := t1) ho hd
  have sb := Heap.SameBut.update s.heap a (Obj.putSet e1 t1)
  split
  · have pm := relayAll_perm t1 e1 (SetTable.grown e1.size)
    have f2 := relayAll_fits t1 e1 (SetTable.grown e1.size)
    have r2 := relayAll_ris t1 e1 (SetTable.grown e1.size)
    have l2 := relayAll_led t1 e1 (SetTable.grown e1.size)
    generalize relayAll t1 e1 (SetTable.grown e1.size) = Z2 at pm f2 r2 l2 ⊢
    obtain ⟨e2, t2, gave⟩ := Z2
    dsimp only at pm f2 r2 l2 ⊢
    have sz2 : e2.size = e1.size := by rw [← Array.length_toList, pm.length_eq, Array.length_toList]
    have b2 : e2.size < scanBound := by rw [sz2]; exact b1
    refine wpAny_bind (hgw _ _ _ (wpAny_bind (wpAny_storeSet_of at1 rfl ?_ (fits_of_scanBound b2))))
    have at2 := store_at (es' := e2) (t' := t2) at1 rfl
    exact wpAny_pure (hR _ (sb.trans (Heap.SameBut.update _ a _)) ⟨_, e2, _, t2, at2, hex, rfl, fun e he => g1 e (pm.mem_iff.mp he), (pm.map txtOf).nodup_iff.mpr nd1, fun k => (m1 k).trans (pm.map txtOf).mem_iff.symm, b2, f2, r2,
      l1.imp id fun z => by rw [l2]; exact z⟩)
  · exact wpAny_pure (hR _ sb ⟨_, e1, _, t1, at1, hex, rfl, g1, nd1, m1, b1, f1, r1, l1⟩)
theorem setTx_add {k : Str} {t : Tok} {Q : Bool → Shared → Prop} (R : SetTx w s.heap a M) (room : M.length + 1 < scanBound) (nd : M.Nodup)
    (hQ : ∀ h2 b, Heap.SameBut a s.heap h2 → SetTx w h2 a (if k ∈ M then M else k :: M) → Q b { s with heap := h2 }) :
    wpAny (model P w) A (setAddHashed a (.str k t) ((PySem.strKind P w).hash k)) Q E s := by
  obtain ⟨ob, en, ep, tb, ho, hex, hd, g, ndK, hm, hb, hf, hr, hl⟩ := R.ex
  have hkey : (PySem.strKind P w).is k (.str k t) = true := strKind_is P w k t
  have scan : (Value.str k t).scannable = true := rfl
  have elems : ElemsOf (PySem.strKind P w) en.toList := txt_elems g
  have lenM : en.size = M.length := by
    have pmM : List.Perm M (en.toList.map txtOf) := (List.perm_ext_iff_of_nodup nd ndK).mpr hm
    rw [pmM.length_eq, List.length_map, Array.length_toList]
  unfold setAddHashed setAddHashedIn; refine wpAny_holding (wpAny_bind (wpAny_setState_of ho hd hf ?_))
  dsimp only
  rw [byScan_of scan hb elems]
  simp only [↓reduceIte]
  unfold setAddByScan
  refine wpAny_bind (wpAny_bind (wpAny_rule (wpAny_bind (wpAny_setScan_of hkey ho hd hf elems ?_))))
  cases hfi : List.findIdx? (fun e => (PySem.strKind P w).is k e.2) en.toList with
  | some j =>
    dsimp only
    obtain ⟨hj, pj, _⟩ := List.findIdx?_eq_some_iff_getElem.mp hfi
    have inM : k ∈ M := (hm k).mpr ((txt_mem (P := P) (w := w) g k).mpr ⟨en.toList[j], List.getElem_mem hj, pj⟩)
    have q := hQ s.heap false (Heap.SameBut.refl a s.heap) (by rw [if_pos inM]; exact R)
    exact wpAny_pure (wpAny_pure q)
  | none =>
    dsimp only
    have notK : k ∉ en.toList.map txtOf := fun z => by
      obtain ⟨e, he, q⟩ := (txt_mem (P := P) (w := w) g k).mp z
      have no := List.findIdx?_eq_none_iff.mp hfi e he
      rw [q] at no
      cases no
    have notM : k ∉ M := fun z => notK ((hm k).mp z)
    have pm := layNew_perm tb en ((PySem.strKind P w).hash k) (.str k t)
    have f1 := layNew_fits tb en ((PySem.strKind P w).hash k) (.str k t)
    have r1 := layNew_ris tb en ((PySem.strKind P w).hash k) (.str k t) hr
    have l1 := layNew_led tb en ((PySem.strKind P w).hash k) (.str k t)
    generalize layNew tb en ((PySem.strKind P w).hash k) (.str k t) = Z1 at pm f1 r1 l1 ⊢
    obtain ⟨e1, t1, dummy, gave⟩ := Z1
    dsimp only at pm f1 r1 l1 ⊢
    rw [Array.toList_push] at pm
    have pc : e1.toList.Perm (((PySem.strKind P w).hash k, Value.str k t) :: en.toList) := pm.trans (List.perm_append_singleton _ _)
    have pk : (e1.toList.map txtOf).Perm (k :: en.toList.map txtOf) := pc.map txtOf
    have g1 : ∀ e ∈ e1.toList, TxtE w e := fun e he => by
      rcases List.mem_cons.mp (pc.mem_iff.mp he) with z | z
      · rw [z]; exact ⟨k, t, rfl, rfl⟩
      · exact g e z
    have nd1 : (e1.toList.map txtOf).Nodup := pk.nodup_iff.mpr (List.nodup_cons.mpr ⟨notK, ndK⟩)
    have m1 : ∀ i, i ∈ k :: M ↔ i ∈ e1.toList.map txtOf := fun i => by
      rw [pk.mem_iff, List.mem_cons, List.mem_cons, hm i]
    have sz1 : e1.size = M.length + 1 := by rw [← Array.length_toList, pc.length_eq, List.length_cons, Array.length_toList, lenM]
    have b1 : e1.size < scanBound := by rw [sz1]; exact room
    have led1 : w.params.followText "set-order" = true ∨ t1.led = true := hl.imp id fun z => by rw [l1]; exact z
    have fin : ∀ h2, Heap.SameBut a s.heap h2 → SetTx w h2 a (k :: M) → Q true { s with heap := h2 } := fun h2 sb r => hQ h2 true sb (by rw [if_neg notM]; exact r)
    have hgw : ∀ (b : Bool) {s2 : Shared} {Q2 : Unit → Shared → Prop}, Q2 () s2 → wpAny (model P w) A (match b with | true => rule "set.scan.the-table-gave-way" | false => pure ()) Q2 E s2 :=
      fun b s2 Q2 q => by cases b <;> first | exact wpAny_rule q | exact wpAny_pure q
    refine wpAny_bind (hgw _ ?_)
    split
    · refine wpAny_bind ?_
      rw [hashByValue_scannable 8 scan]
      refine wpAny_pure ?_
      refine setTx_tail ?_ ho hex hd g1 nd1 m1 b1 ?_ ?_ ?_ ?_
      · intro b s2 Q2 q; cases b <;> first | exact wpAny_rule q | exact wpAny_pure q
      · first | (split <;> first | exact f1 | exact SetTable.fits_plain_off f1) | exact f1
      · first | (split <;> exact r1) | exact r1
      · first | (split <;> exact led1) | exact led1
      · intro h2 sb r; dsimp only; exact wpAny_pure (fin h2 sb r)
    · refine wpAny_bind (wpAny_pure ?_)
      simp only [↓reduceIte]
      refine setTx_tail ?_ ho hex hd g1 nd1 m1 b1 f1 r1 led1 ?_
      · intro b s2 Q2 q; cases b <;> first | exact wpAny_rule q | exact wpAny_pure q
      · intro h2 sb r; dsimp only; exact wpAny_pure (fin h2 sb r)
end
section
variable {P : Program} {w : World} {A : Around} {E : Value → Shared → Prop} {s : Shared}
theorem update_strs {I : Addr} {fp wr : List Addr} {G : Array GenState → Array GenState → Prop} {n : Nat} {Pv : Nat → Value → Prop} {St : Nat → Shared → Prop} {R : Result → Shared → Prop}
    (W : WalksS P w A.in1 I fp wr G n Pv St) (a : Addr) (out : a ∉ fp) (zs : List Str) (hn : n = zs.length) (hb : zs.length + 1 < scanBound) (val : ∀ i v, Pv i v → ∃ z t, zs[i]? = some z ∧ v = .str z t) :
    ∀ (m i : Nat) (s : Shared) (done : List Str), n - i = m → i ≤ n → St i s → SetTx w s.heap a done → done.Nodup → done.length ≤ i → (∀ z, z ∈ done ↔ z ∈ zs.take i) →
      (∀ s2 M, Moved (a :: wr) G s s2 → M.Nodup → M.length ≤ n → (∀ z, z ∈ M ↔ z ∈ zs) → SetTx w s2.heap a M → R (.ok (.ret .none)) s2) →
      codeAny (model P w) A (.builtin "set.update.loop" ⟨[.ref a, .ref I], []⟩) R s := by
  have outW : a ∉ wr := fun z => out (W.sub _ z)
  have subW : ∀ b ∈ wr, b ∈ a :: wr := fun b z => List.mem_cons_of_mem _ z
  intro m
  induction m with
  | zero =>
    intro i s done hm hi st R0 nd dl mem k
    have e : i = n := by omega
    subst e
    refine codeAny_builtin F.entry_set_update_loop ?_
    rw [Around.under_plainId F.plain_set_update_loop _]
    show wpAny _ A.in1 (pyNext (.ref I) >>= _) _ _ s
    refine wpAny_bind (W.done s _ _ st fun s2 mv => ?_)
    show wpAny _ A.in1 (ret Value.none) _ _ s2
    exact wpAny_pure (k s2 done (mv.mono subW) nd dl (fun z => (mem z).trans (by rw [List.take_of_length_le (by omega)])) (R0.keep fun o e => mv.heap a o outW e))
  | succ m ih =>
    intro i s done hm hi st R0 nd dl mem k
    have lt : i < n := by omega
    refine codeAny_builtin F.entry_set_update_loop ?_
    rw [Around.under_plainId F.plain_set_update_loop _]
    show wpAny _ A.in1 (pyNext (.ref I) >>= _) _ _ s
    refine wpAny_bind (W.item i s _ _ lt st fun v s2 hP st2 mv => ?_)
    obtain ⟨z, t, hz, rfl⟩ := val i v hP
    have R1 : SetTx w s2.heap a done := R0.keep fun o e => mv.heap a o outW e
    show wpAny _ A.in1 (holding [Value.str z t] (setAdd a (.str z t)) >>= _) _ _ s2
    refine wpAny_bind (wpAny_holding ?_)
    unfold setAdd
    refine wpAny_holding (wpAny_bind ((PySem.strKind P w).pyHash (k := z) (strKind_is _ _ _ _) ?_))
    refine setTx_add (s := { s2 with toks := s2.toks + 1 }) R1 (by omega) nd fun h2 b sb R2 => ?_
    have nd2 : (if z ∈ done then done else z :: done).Nodup := by
      split
      · exact nd
      · rename_i c
        exact List.nodup_cons.mpr ⟨c, nd⟩
    have dl2 : (if z ∈ done then done else z :: done).length ≤ i + 1 := by
      split
      · omega
      · rw [List.length_cons]; omega
    have mem2 : ∀ y, y ∈ (if z ∈ done then done else z :: done) ↔ y ∈ zs.take (i + 1) := fun y => by
      rw [List.take_add_one, hz, Option.toList_some, List.mem_append, List.mem_singleton, ← mem y]
      split
      · rename_i c
        exact ⟨.inl, fun q => q.elim id fun e => e ▸ c⟩
      · rw [List.mem_cons]
        exact Or.comm
    refine wpAny_pure ⟨plainId_quiet F.plain_set_update_loop _, ih (i + 1) _ _ (by omega) lt (W.frame _ s2 _ _ st2 (Nat.le_succ _) fun b hb o e => ?_) R2 nd2 dl2 mem2 fun s3 M mv3 nd3 l3 m3 R3 => ?_⟩
    · exact (sb.2 b (fun q : b = a => out (q ▸ hb))).trans e
    · refine k s3 M (Moved.trans W.gtrans ((mv.mono subW).then_heap (Nat.le_succ _) fun b o hb e => ?_) mv3) nd3 l3 m3 R3
      exact (sb.2 b (fun q : b = a => hb (q ▸ List.mem_cons_self))).trans e
theorem setTx_new {h : Heap} {a : Addr} (ho : h.get? a = some (bareSet w)) : SetTx w h a [] := by
  have led : w.params.followText "set-order" = true ∨ (!w.params.followText "set-order") = true := by
    cases w.params.followText "set-order" with
    | true => exact .inl rfl
    | false => exact .inr rfl
  exact ⟨_, #[], 0, _, ho, ⟨rfl, rfl, rfl⟩, rfl, (fun e he => absurd he (by simp)), List.nodup_nil, (fun k => by simp), by decide, by rfl, List.Pairwise.nil, led⟩
/-- set(x), x a text -/
theorem set_of_str {x : Str} {t : Tok} {Q : Value → Shared → Prop} (clear : A.handled = none) (small : x.length + 1 < scanBound)
    (k : ∀ (h2 : Heap) (tk : Nat) (M : List Str), SetTx w h2 s.heap.objs.size M → M.Nodup → M.length ≤ x.length → (∀ z, z ∈ M ↔ z ∈ onesL x) → (∀ b o, s.heap.get? b = some o → h2.get? b = some o) → Q (.ref s.heap.objs.size) { s with heap := h2, toks := tk }) :
    wpAny (model P w) A (call (.type "set") [.str x t]) Q E s := by
  obtain ⟨mc, mt, m0⟩ := F.called_set.mro
  have m1 := F.called_set.made
  have m2 := F.called_set.sub
  have m3 := F.called_set.notType
  have m4 := F.called_set.canCreate
  have m5 := F.typeCall_set_1 (.str x t)
  refine wpAny_call (codeAny_of_tree (wpAny_pure ⟨Code.quiet_builtin _ (by decide +kernel), codeAny_builtin F.entry_type_call ?_⟩))
  rw [Around.under_plain (weight_type_call_type "set" [.str x t] []) rfl]
  repeat (any_goals (first | wp_step | assumption))
  refine codeAny_mono (code_set_led1 (.str x t) (E := E) (Q₁ := fun v s1 => v = .ref s.heap.objs.size ∧ s1 = { s with heap := s.heap.push (bareSet w) }) ⟨rfl, rfl⟩) ?_
  intro r s1 hr
  match r, hr with
  | .error e, hr => exact hr
  | .ok .next, hr => exact hr.elim
  | .ok .brk, hr => exact hr.elim
  | .ok .cont, hr => exact hr.elim
  | .ok (.ret v), ⟨ev, es⟩ =>
  subst ev
  subst es
  have at0 : (s.heap.push (bareSet w)).get? s.heap.objs.size = some (bareSet w) := Heap.get?_push_size _ rfl
  have ty0 : Shared.TypeIs { s with heap := s.heap.push (bareSet w) } (.ref s.heap.objs.size) "set" := ⟨_, at0, rfl⟩
  have i1 := F.called_set.init.lookup
  have i2 := F.called_set.init.bind (.ref s.heap.objs.size)
  repeat (any_goals (first | wp_step | assumption))
  refine codeAny_mono (codeAny_call_builtin (R := wants (fun r s2 => r = .none ∧ ∃ h2 tk M, s2 = { s with heap := h2, toks := tk } ∧ SetTx w h2 s.heap.objs.size M ∧ M.Nodup ∧ M.length ≤ x.length ∧ (∀ z, z ∈ M ↔ z ∈ onesL x) ∧ ∀ b o, s.heap.get? b = some o → h2.get? b = some o) E) F.called_set.init.plain F.entry_set_init (check_set_init_1 ty0 ?_)) ?_
  · have sz : (s.heap.push (bareSet w)).objs.size = s.heap.objs.size + 1 := Heap.size_push ..
    have n0 := F.sub_str_set
    have n1 := F.sub_str_frozenset
    have n2 : (Value.type "str" == Value.type "dict") = false := by decide
    have cl : A.in1.in1.in1.handled = none := by simp [clear]
    unfold Builtin.«set.__init__» noKeywords Builtin.Frozenset.updateFrom
    generalize iter : pyIter = go
    wp_walk
    subst iter
    refine wpAny_pyIter_str fun oI St hW hst => wpAny_bind (wpAny_runValue ?_)
    have vals : ∀ (i : Nat) (v : Value), SignAt x i v → ∃ z t, (onesL x)[i]? = some z ∧ v = .str z t := by
      rintro i v ⟨c, u, ec, ev⟩
      refine ⟨⟨#[c]⟩, u, ?_, ev⟩
      unfold onesL
      rw [List.getElem?_map, Array.getElem?_toList, ec]
      rfl
    have out : s.heap.objs.size ∉ [(s.heap.push (bareSet w)).objs.size] := by
      intro z
      rw [sz] at z
      exact absurd (List.mem_singleton.mp z) (Nat.ne_of_lt (Nat.lt_succ_self _))
    have many : x.cps.size = (onesL x).length := (onesL_len x).symm
    refine update_strs (hW _ cl).toS s.heap.objs.size out (onesL x) many (by rw [onesL_len]; exact small) vals x.cps.size 0 _ [] (Nat.sub_zero _) (Nat.zero_le _) hst (setTx_new (Heap.get?_push_of_some _ at0)) List.nodup_nil (Nat.le_refl _) (fun z => by simp) ?_
    rintro ⟨h2, g2, d2, t2, o2⟩ M mv nd l2 mem R
    cases (mv.gens : g2 = s.gens)
    cases (mv.drawn : d2 = s.drawn)
    cases (mv.os : o2 = s.os)
    refine wpAny_pure (wpAny_pure ⟨rfl, h2, t2, M, rfl, R, nd, l2, mem, fun b u e => ?_⟩)
    have hb := Heap.lt_size e
    refine mv.heap b u (fun z => ?_) (Heap.get?_push_of_some _ (Heap.get?_push_of_some _ e))
    rcases List.mem_cons.mp z with z | z
    · exact absurd z (Nat.ne_of_lt hb)
    · have z := List.mem_singleton.mp z
      rw [sz] at z
      exact absurd z (Nat.ne_of_lt (Nat.lt_succ_of_lt hb))
  · intro r s2 hr2
    match r, hr2 with
    | .error e, hr2 => exact hr2
    | .ok .next, hr2 => exact hr2.elim
    | .ok .brk, hr2 => exact hr2.elim
    | .ok .cont, hr2 => exact hr2.elim
    | .ok (.ret v), ⟨ev, h2, tk, M, es, R, nd, l2, mem, keep⟩ =>
    subst ev
    subst es
    repeat (any_goals (first | wp_step | assumption))
    exact k _ _ M R nd l2 mem keep
end
end Vk
set_option Elab.async false
set_option maxRecDepth 100000
set_option linter.all false
set_option maxHeartbeats 4000000
namespace Vk
open PySem PySem.Spec PyProof.Rows L2
/-! ## sorted(set(x)) of a text -/
theorem txts_are (w : World) : ∀ (l : List (Int × Value)), (∀ e ∈ l, TxtE w e) → StrsAre (l.map (·.2)) (l.map txtOf)
  | [], _ => .nil
  | e :: l, g => by
    obtain ⟨x, t, e1, _⟩ := g e List.mem_cons_self
    have e2 : txtOf e = x := by
      unfold txtOf
      rw [e1]
    rw [List.map_cons, List.map_cons, e2, e1]
    exact .cons x t (txts_are w l fun z hz => g z (List.mem_cons_of_mem _ hz))
/-- texts of values, told by the values -/
def txtV : Value → Str
  | .str x _ => x
  | _ => Str.empty
theorem strs_map : ∀ {vs : List Value} {zs : List Str}, StrsAre vs zs → zs = vs.map txtV
  | _, _, .nil => rfl
  | _, _, .cons x t r => by
    rw [List.map_cons, ← strs_map r]
    rfl
theorem strs_of : ∀ (vs : List Value), (∀ v ∈ vs, ∃ x t, v = Value.str x t) → StrsAre vs (vs.map txtV)
  | [], _ => .nil
  | v :: vs, h => by
    obtain ⟨x, t, rfl⟩ := h v List.mem_cons_self
    exact .cons x t (strs_of vs fun u hu => h u (List.mem_cons_of_mem _ hu))
section
variable {P : Program} {w : World} {A : Around} {E : Value → Shared → Prop} {s : Shared} {a : Addr} {M : List Str}
theorem sorted_setTx {Q : Value → Shared → Prop} (R : SetTx w s.heap a M) (nd : M.Nodup) (clear : A.handled = none) (small : M.length ≤ 100000)
    (k : ∀ (s2 : Shared) p (out : Array Value) (c : Nat) (ys : List Str), (∀ b o, s.heap.get? b = some o → s2.heap.get? b = some o) → s2.gens = s.gens → s2.os = s.os → s.heap.objs.size ≤ p →
      s2.heap.get? p = some (seqObj "list" out c) → StrsAre out.toList ys → ys.Perm M → sortedS ys = true → Q (.ref p) s2) :
    wpAny (model P w) A (call (.builtin "sorted") [.ref a]) Q E s := by
  obtain ⟨ob, en, ep, tb, ho, hex, hd, g, ndK, hm, hb, hf, hr, hl⟩ := R.ex
  have pmM : List.Perm (en.toList.map txtOf) M := (List.perm_ext_iff_of_nodup ndK nd).mpr fun z => (hm z).symm
  have lenE : en.size = M.length := by rw [← pmM.length_eq, List.length_map, Array.length_toList]
  refine Calls.call_function_entry kind_sorted plain_sorted entry_sorted (args_sorted1 _) ?_
  unfold Builtin.«sorted»
  refine wpAny_bind (m := checkCount "sorted" 1 1 _) (wpAny_pure (wpAny_bind (collect_set (A := A.in1) clear ⟨ob, ho, hex.1, hd⟩ hf hb hr hl fun s1 vs k1 hz g1 o1 pm => ?_)))
  have lenV : vs.length = M.length := by rw [pm.length_eq, List.length_map, Array.length_toList]; exact lenE
  have lz : vs.length ≤ sizeLine := by rw [lenV, sizeLine_eq]; omega
  have hS : StrsAre vs (vs.map txtV) := strs_of vs fun v hv => by
    obtain ⟨e, he, q⟩ := List.mem_map.mp (pm.mem_iff.mp hv)
    obtain ⟨x, t, e1, _⟩ := g e he
    exact ⟨x, t, q ▸ e1⟩
  have pmK : (vs.map txtV).Perm (en.toList.map txtOf) := by
    have q := pm.map txtV
    rw [← strs_map (txts_are w en.toList g)] at q
    exact q
  refine wpAny_bind (wpAny_newList ?_ lz)
  have atL : (s1.heap.push (seqObj "list" vs.toArray 0)).get? s1.heap.objs.size = some (seqObj "list" vs.toArray 0) := Heap.get?_push_size _ rfl
  refine wpAny_bind (wpAny_holding (wpAny_call_entry slot_list_sort ⟨_, atL, rfl⟩ entry_list_sort (list_sort_treeKAny strKind_oneLt atL hS.keysOf (fun v1 v2 rest e => keyKind_strs (by rw [← e]; exact hS)) lz fun st hp hs => ⟨_, rfl, ?_⟩) (args_list_sort _)))
  obtain ⟨ys, a1, a2, a3⟩ := sorted_out_str hS hp hs
  obtain ⟨c, hc2⟩ := sortedHeap_at (vs := vs) (out := (arrOf st).map (·.2)) atL
  refine wpAny_pure ⟨_, rfl, k _ s1.heap.objs.size _ c ys (fun b u e => ?_) g1 o1 hz hc2 a1 ((a2.trans pmK).trans pmM) a3⟩
  have q := k1 b u e
  have lt := Heap.lt_size q
  show (sortedHeap (s1.heap.push (seqObj "list" vs.toArray 0)) s1.heap.objs.size vs ((arrOf st).map (·.2))).get? b = some u
  rw [sortedHeap_old (Nat.ne_of_lt lt) (by rw [size_push']; exact Nat.lt_succ_of_lt lt)]
  exact Heap.get?_push_of_some _ q
end
section
variable {X : Cx} {e : Expr} {te : TE} {p p2 pos pos2 : Pos}
/-- sorted(set(e)), e a text -/
def tSortSet (te : TE) : TE := fun σ H Q => te σ H fun x H1 => ∃ z : Str, x = .str z ∧ z.length ≤ 1000 ∧ ∀ (ys : List Str) q, ys.Nodup → (∀ y, y ∈ ys ↔ y ∈ onesL z) → sortedS ys = true → ys.length ≤ z.length → H1 q = none → Q (.ref q) (upd H1 q (.lst (ys.map V.str)))
theorem pe_sortSet (hc : X.calm = true) (gs : Gl X "sorted") (ms : X.mg "sorted" = none) (g2 : Gl X "set") (m2 : X.mg "set" = none) (he : PE X e te)
    (na : starEach [e] X.env = (false, eval e X.env) :: starEach [] X.env := by rfl) : PE X (.Call (.Name "sorted" p) [.Call (.Name "set" p2) [e] [] pos2] [] pos) (tSortSet te) := by
  refine ⟨fun pins s σ H Q I h => ?_⟩
  refine Call_ (ld_blt I gs ms PyProof.Rows.boot_sorted (PyProof.Rows.callWith_builtin1 (PyProof.Rows.args_cons (Call_ (ld_blt I g2 m2 PyProof.Rows.boot_set (PyProof.Rows.callWith_type1 (PyProof.Rows.args_cons (thn (he.run pins s σ H _ I h) fun v s1 q1 => PyProof.Rows.args_nil ?_) na) na))) rfl) rfl rfl))
  obtain ⟨x, H1, I1, rx, z, rfl, zl, k⟩ := q1
  obtain ⟨t, rfl⟩ := rx
  have clear := I1.ok.hd hc
  refine set_of_str clear (by unfold scanBound; omega) fun h2 tk M R nd l2 mem keep => PyProof.Rows.args_nil ?_
  refine sorted_setTx (s := { s1 with heap := h2, toks := tk }) R nd clear (by omega) fun s2 q out c ys k2 g1 o1 hq hL st pm so => ?_
  have kz : ∀ b u, s1.heap.get? b = some u → s2.heap.get? b = some u := fun b u e => k2 b u (keep b u e)
  have le2 : s1.heap.objs.size ≤ q := Nat.le_trans (Nat.le_of_not_lt fun lt => by
    have h0 : h2.objs.size < s1.heap.objs.size := lt
    obtain ⟨ob, _, _, _, ho, _⟩ := R.ex
    exact Nat.lt_irrefl _ (Nat.lt_trans (Heap.lt_size ho) h0)) hq
  have lenY : ys.length ≤ z.length := by rw [pm.length_eq]; exact l2
  have hlen : (ys.map V.str).length ≤ sizeLine := by rw [List.length_map, sizeLine_eq]; omega
  have hn : H1 q = none := I1.hok.fresh le2
  have J : Inv X pins σ (upd H1 q (.lst (ys.map V.str))) { s1 with heap := s2.heap, gens := s2.gens, drawn := s2.drawn, toks := s2.toks } :=
    I1.call (ch := []) (Un.laid kz le2 hn) (I1.hok.laid kz le2 ⟨hlen, out.toList, c, vals_of_strs st, hL⟩) (g1 ▸ I1.bare) (fun _ z => nomatch z)
  have eS : s2 = { s1 with heap := s2.heap, gens := s2.gens, drawn := s2.drawn, toks := s2.toks } := by
    have o2 : s2.os = s1.os := o1
    revert o2
    cases s2
    rintro ⟨⟩
    rfl
  rw [eS]
  exact ⟨.ref q, _, J, rfl, k ys q (pm.nodup_iff.mpr nd) (fun y => pm.mem_iff.trans (mem y)) so lenY hn⟩
end
end Vk
set_option Elab.async false
set_option maxRecDepth 100000
set_option linter.all false
set_option maxHeartbeats 4000000
namespace Vk
open PySem PySem.Spec PyProof.Rows L2
theorem merge_any {kvs : List (Key × V)} {k : Key} (h : k ∉ kvs.map (·.1)) : (kvs.any fun kv => decide (kv.1 = k)) = false := by
  rw [List.any_eq_false]
  intro p hp e
  exact h (List.mem_map.mpr ⟨p, hp, of_decide_eq_true e⟩)
theorem merge_new : ∀ {more kvs : List (Key × V)}, ((kvs ++ more).map (·.1)).Nodup → mergeK kvs more = kvs ++ more
  | [], kvs, _ => (List.append_nil _).symm
  | p :: r, kvs, h => by
    have e : putK kvs p.1 p.2 = kvs ++ [p] := by
      unfold putK
      rw [if_neg]
      rw [merge_any]
      · decide
      · rw [List.map_append, List.map_cons] at h
        intro q
        exact (List.nodup_append.mp h).2.2 _ q _ List.mem_cons_self rfl
    show mergeK (putK kvs p.1 p.2) r = _
    rw [e, merge_new (by rw [List.append_assoc]; exact h), List.append_assoc]
    rfl
theorem val_zip {f : Nat → V} : ∀ {ys : List Str} {ds : List Nat} {i : Nat} {y : Str} {d : Nat}, ys.Nodup → ys[i]? = some y → ds[i]? = some d → valV ((ys.map Sum.inr).zip (ds.map f)) (.inr y : Key) = some (f d)
  | [], _, _, _, _, _, h, _ => by simp at h
  | _ :: _, [], _, _, _, _, _, h => by simp at h
  | y0 :: ys, d0 :: ds, 0, y, d, _, h1, h2 => by
    cases Option.some.inj h1
    cases Option.some.inj h2
    exact valV_pos (p := ((.inr y0 : Key), f d0)) rfl
  | y0 :: ys, d0 :: ds, i + 1, y, d, nd, h1, h2 => by
    have h1' : ys[i]? = some y := by simpa using h1
    have h2' : ds[i]? = some d := by simpa using h2
    obtain ⟨n1, n2⟩ := List.nodup_cons.mp nd
    refine (valV_neg (p := ((.inr y0 : Key), f d0)) fun e => ?_).trans (val_zip (ys := ys) (ds := ds) n2 h1' h2')
    have : y0 = y := Sum.inr.inj e
    exact n1 (this ▸ List.mem_of_getElem? h1')
theorem others_is {x pool : Str} (ndp : pool.cps.toList.Nodup) {ys zs : List Str} (nd : ys.Nodup) (mem : ∀ y, y ∈ ys ↔ y ∈ onesL x) (len : ys.length ≤ zs.length) (pz : zs.Perm (onesL pool)) :
    ∃ rd : Nat → Nat, (∀ c ∈ x.cps.toList, valV (mergeK [] ((ys.map Sum.inr).zip (zs.map V.str))) (.inr (⟨#[c]⟩ : Str) : Key) = some (.str ⟨#[rd c]⟩)) ∧ ∀ c ∈ x.cps.toList, ∀ d ∈ x.cps.toList, rd c = rd d → c = d := by
  obtain ⟨ds, pd, rfl⟩ : ∃ ds : List Nat, ds.Perm pool.cps.toList ∧ zs = ds.map fun c => (⟨#[c]⟩ : Str) := by
    refine ⟨zs.map fun z => z.cps.toList.headD 0, ?_, ?_⟩
    · have := pz.map fun z : Str => z.cps.toList.headD 0
      unfold onesL at this
      rw [List.map_map] at this
      exact (List.map_id pool.cps.toList) ▸ this
    · rw [List.map_map]
      refine (List.map_id zs).symm.trans (List.map_congr_left fun z hz => ?_)
      obtain ⟨c, _, rfl⟩ := List.mem_map.mp (pz.mem_iff.mp hz)
      rfl
  rw [List.length_map] at len
  have ndd : ds.Nodup := pd.nodup_iff.mpr ndp
  have pick : ∀ c ∈ x.cps.toList, ∃ i, ys[i]? = some (⟨#[c]⟩ : Str) := fun c hc => List.mem_iff_getElem?.mp ((mem _).mpr (List.mem_map.mpr ⟨c, hc, rfl⟩))
  have mk : mergeK [] ((ys.map Sum.inr).zip ((ds.map fun c => (⟨#[c]⟩ : Str)).map V.str)) = (ys.map Sum.inr).zip (ds.map fun c => V.str ⟨#[c]⟩) := by
    rw [List.map_map, merge_new]
    · rfl
    · rw [List.nil_append, List.map_fst_zip (by rw [List.length_map, List.length_map]; exact len)]
      exact List.Pairwise.map _ (fun a b ne e => ne (Sum.inr.inj e)) nd
  have one : ∀ c ∈ x.cps.toList, ∃ i, ys[i]? = some (⟨#[c]⟩ : Str) ∧ i < ds.length := fun c hc => by
    obtain ⟨i, hi⟩ := pick c hc
    exact ⟨i, hi, Nat.lt_of_lt_of_le (List.getElem?_eq_some_iff.mp hi).1 len⟩
  let rd : Nat → Nat := fun c => ds.getD (ys.idxOf (⟨#[c]⟩ : Str)) 0
  have idx : ∀ c ∈ x.cps.toList, ys[ys.idxOf (⟨#[c]⟩ : Str)]? = some (⟨#[c]⟩ : Str) ∧ ds[ys.idxOf (⟨#[c]⟩ : Str)]? = some (rd c) := fun c hc => by
    have m : (⟨#[c]⟩ : Str) ∈ ys := (mem _).mpr (List.mem_map.mpr ⟨c, hc, rfl⟩)
    have lt : ys.idxOf (⟨#[c]⟩ : Str) < ys.length := List.idxOf_lt_length_of_mem m
    have lt2 : ys.idxOf (⟨#[c]⟩ : Str) < ds.length := Nat.lt_of_lt_of_le lt len
    refine ⟨?_, ?_⟩
    · rw [List.getElem?_eq_getElem lt]
      exact congrArg some (List.getElem_idxOf lt)
    · show _ = some (ds.getD _ 0)
      rw [List.getD_eq_getElem?_getD, List.getElem?_eq_getElem lt2]
      rfl
  refine ⟨rd, fun c hc => ?_, fun c hc d hd e => ?_⟩
  · rw [mk]
    exact val_zip (f := fun c => V.str ⟨#[c]⟩) nd (idx c hc).1 (idx c hc).2
  · obtain ⟨c1, c2⟩ := idx c hc
    obtain ⟨d1, d2⟩ := idx d hd
    have l1 := (List.getElem?_eq_some_iff.mp c2).1
    have l2 := (List.getElem?_eq_some_iff.mp d2).1
    have e2 : ys.idxOf (⟨#[c]⟩ : Str) = ys.idxOf (⟨#[d]⟩ : Str) := by
      have ee : ds[ys.idxOf (⟨#[c]⟩ : Str)] = ds[ys.idxOf (⟨#[d]⟩ : Str)] := by
        rw [(List.getElem?_eq_some_iff.mp c2).2, (List.getElem?_eq_some_iff.mp d2).2, e]
      rcases Nat.lt_trichotomy (ys.idxOf (⟨#[c]⟩ : Str)) (ys.idxOf (⟨#[d]⟩ : Str)) with h | h | h
      · exact absurd ee (List.pairwise_iff_getElem.mp ndd _ _ l1 l2 h)
      · exact h
      · exact absurd ee.symm (List.pairwise_iff_getElem.mp ndd _ _ l2 l1 h)
    rw [e2, d1] at c1
    have := Option.some.inj c1
    have := congrArg (fun z : Str => z.cps.toList) this
    simpa using this.symm

theorem other_join (rd : Nat → Nat) (x : Str) : Txt.join "" ((x.cps.toList.map rd).map fun c => (⟨#[c]⟩ : Str)) = otherS rd x := join_ones _
end Vk
set_option Elab.async false
set_option maxRecDepth 100000
set_option linter.all false
set_option maxHeartbeats 4000000
namespace Vk
open PySem PySem.Spec PyProof.Rows L2
/-- a text of the letters of z -/
def LtZ (z x : Str) : Prop := ∀ c ∈ x.cps.toList, c ∈ z.cps.toList
theorem ltz_none {z : Str} : LtZ z "" := fun c hc => by cases hc
theorem ltz_one {z : Str} {c : Nat} (h : c ∈ z.cps.toList) : LtZ z (⟨#[c]⟩ : Str) := fun d hd => by
  have e : d ∈ [c] := hd
  rw [List.mem_singleton.mp e]
  exact h
theorem ltz_cut {z x : Str} (h : LtZ z x) (a b : Option Int) : LtZ z (cutS x a b) := fun c hc => by
  have hc2 : c ∈ (List.toArray ((x.cps.toList.drop (HT.sIx x.length 0 a)).take (HT.sIx x.length x.length b - HT.sIx x.length 0 a))).toList := hc
  rw [List.toList_toArray] at hc2
  exact h c (List.mem_of_mem_drop (List.mem_of_mem_take hc2))
theorem ltz_more {z x y : Str} (h1 : LtZ z x) (h2 : LtZ z y) : LtZ z (x ++ y) := fun c hc => by
  rw [more_list] at hc
  rcases List.mem_append.mp hc with h | h
  · exact h1 c h
  · exact h2 c h
theorem ltz_back {z x : Str} (h : LtZ z x) : LtZ z (backS x) := fun c hc => h c (by rw [backS_list] at hc; exact List.mem_reverse.mp hc)
theorem ltz_lt {z x : Str} (fz : Few z) (h : LtZ z x) : Ltr x := fun c hc => fz.2.2 c (h c hc)
section
variable {P : Program} {w : World} {K : PySem.W.Frag} {mg : Str → Option Value} {base : Heap}
def spNtextZ : Sp := fun vs H Q _ => ∃ p c z M T, vs = [.ref p, .str z, .int (M : Nat)] ∧ Few z ∧ M ≤ 100 ∧ Pen H p c T ∧ T + 1000 < 1000000000 ∧ ∀ (x : Str) (H' : Hp), x.length ≤ M → LtZ z x → Pen H' p c (T + 100) → Ext p H H' → Q (.str x) H'
theorem b_lntextZ {f : Addr} {fd : FuncData} (F : Fun K "_law_ntext" "_law_ntext" s_lntext f fd) (T : Txt mg) (c_ldraw : CalG P w K mg base CX0 1 "_law_draw" spDraw) (c_lpick : CalG P w K mg base CX0 2 "_law_pick" (spPick K)) (c_lword : CalG P w K mg base CX0 3 "_law_word" spWord) : FnG P w K mg base CX0 4 f fd ["_law_pen_here", "_law_signs_here", "_law_most_letters"] spNtextZ := by
  refine okG0 F sc_lntext (fun vs H Q E h => ?_) (fun cdv A outer s H vs Q E hg hr h => ?_)
  · obtain ⟨p, pc, z, M, T0, rfl, _⟩ := h
    rfl
  · have hu := hu_of hr
    have hu64 := hr.units
    obtain ⟨p, pc, z, M, T0, rfl, fz, hM, hpen, hT, k⟩ := h
    have hr3 : Room 3 _ := hr
    have z100 : z.length ≤ 1000 := Nat.le_trans fz.2.1 (by decide)
    refine ⟨_, (pss_cons (ps_par (i := 3) (j := 4) (by rfl) sc_lntext.nd rfl rfl (by decide) rfl rfl (pa_cons (pe_lst (pa_cons (pe_cG c_lword hg hr (by decide) pass0 (pa_cons (pv 0) (pa_cons (pv 1) (pa_cons pe_int (pa_cons pe_int pa_nil))))) (pa_cons (pe_cG c_lword hg hr (by decide) pass0 (pa_cons (pv 0) (pa_cons (pv 1) (pa_cons pe_int (pa_cons pe_int pa_nil))))) pa_nil))) (pa_cons pe_str pa_nil)) (by rfl))
      (pss_cons (ps_for PassesOwn.never rfl (pi_range1 rfl T.range (pa_cons (pe_cG c_ldraw hg hr (by decide) pass0 (pa_cons (pv 0) (pa_cons pe_int pa_nil))) pa_nil)) (pg_name (i := 5) sc_lntext.nd rfl (Or.inl rfl)) (pss_one (ps_set (i := 4) sc_lntext.nd rfl (Or.inl rfl) (pe_op op_add_str (pv 4) (pe_cG c_lpick hg hr (by decide) pass0 (pa_cons (pv 0) (pa_cons (pe_op op_cat (pv 3) (pe_lst (pa_cons (pe_cG c_lpick hg hr (by decide) pass0 (pa_cons (pv 0) (pa_cons (pv 1) pa_nil))) pa_nil))) pa_nil)))))))
      (pss_one (ps_ret (pe_slice sl_str (pv 4) po_none (po_some (pv 2))))))), ?_⟩
    refine ⟨_, rfl, _, rfl, p, pc, z, 1, 4, T0, rfl, by decide, by decide, fz.1, z100, hpen, by omega, fun w1 H1 g1 P1 x1 => ?_⟩
    refine ⟨_, rfl, _, rfl, p, pc, z, 1, 3, _, rfl, by decide, by decide, fz.1, z100, P1, by omega, fun w2 H2 g2 P2 x2 => ?_⟩
    refine ⟨by show 2 ≤ sizeLine; decide, fun b hb => ?_⟩
    have sb := same_new (o := .lst [.str w1, .str w2]) hb
    have P3 := P2.stay sb
    have x3 : Ext p H _ := (x1.trans x2).trans (Ext.same sb)
    refine ⟨_, _, rfl, _, rfl, p, pc, 9, _, rfl, by decide, by decide, P3, by omega, fun n H4 n0 n1 P4 x4 => ?_⟩
    have hb4 := P3.keepI x4 upd_same
    refine ⟨_, rfl, by omega, by omega, ?_⟩
    refine for_range (lo := 0) (n := n.toNat) (fun i σ H' => ∃ (o5 : Option V) (f : Str), σ = [some (.ref p), some (.str z), some (.int (M : Nat)), some (.ref b), some (.str f), o5] ∧ (f.length ≤ 100 * i ∧ LtZ z f) ∧ Pen H' p pc (T0 + 20 + 2 * i) ∧ Ext p H H' ∧ H' b = some (.lst [.str w1, .str w2])) ?_ ?_ ?_
    · exact ⟨_, "", rfl, ⟨by show 0 ≤ _; omega, ltz_none⟩, P4.mono (by omega), x3.trans x4, hb4⟩
    · rintro i σ H5 hi ⟨o5, f, rfl, hf, P5, x5, hb5⟩
      have hf1 := hf.1
      refine ⟨_, rfl, _, rfl, _, rfl, _, rfl, _, rfl, p, pc, _, _, _, rfl, .str z z100, opts_ne fz.1, opts_le z100, P5, by omega, fun v H6 hv P6 x6 => ?_⟩
      obtain ⟨cv, rfl, hcv⟩ := ones_of hv
      have hb6 := P5.keepI x6 hb5
      refine ⟨by show 1 ≤ sizeLine; decide, fun q hq => ?_⟩
      have sq := same_new (o := .lst [OneS cv]) hq
      refine ⟨b, q, _, _, rfl, rfl, sq _ _ hb6, upd_same, by show 3 ≤ sizeLine; decide, fun q2 hq2 => ?_⟩
      have sq2 := same_new (o := .lst [.str w1, .str w2, OneS cv]) hq2
      have P7 := (P6.stay sq).stay sq2
      refine ⟨p, pc, _, _, _, rfl, .lst (SqL.of upd_same), (fun z => by cases z), by show 3 ≤ 1000; decide, P7, by omega, fun v H8 hv2 P8 x8 => ?_⟩
      have hb8 := P7.keepI x8 (sq2 _ _ (sq _ _ hb6))
      have ev : ∃ y : Str, v = .str y ∧ y.length ≤ 100 ∧ LtZ z y := by
        simp only [List.mem_append, List.mem_cons, List.not_mem_nil, or_false] at hv2
        rcases hv2 with (rfl | rfl) | rfl
        · exact ⟨w1, rfl, Nat.le_trans g1.2.1 (by decide), g1.2.2⟩
        · exact ⟨w2, rfl, Nat.le_trans g2.2.1 (by decide), g2.2.2⟩
        · exact ⟨_, rfl, by show 1 ≤ 100; decide, ltz_one hcv⟩
      obtain ⟨y, rfl, hy, oy⟩ := ev
      refine ⟨_, _, rfl, rfl, Nat.le_of_lt (fewL (by omega)), _, f ++ y, rfl, ⟨?_, ltz_more hf.2 oy⟩, P8.mono (by omega), (x5.trans x6).trans (((Ext.same sq).trans (Ext.same sq2)).trans x8), hb8⟩
      rw [strLen_append]
      omega
    · rintro σ H5 ⟨o5, f, rfl, hf, P5, x5, hb5⟩
      have hf1 := hf.1
      refine ⟨_, rfl, _, rfl, _, rfl, f, rfl, Nat.le_of_lt (fewL (by have : n.toNat ≤ 9 := by omega
                                                                     omega)), k _ _ (cut_upto f M) (ltz_cut hf.2 _ _) (P5.mono (by omega)) x5⟩


end
end Vk
set_option Elab.async false
set_option maxRecDepth 100000
set_option linter.all false
set_option maxHeartbeats 4000000
namespace Vk
open PySem PySem.Spec PyProof.Rows L2 StX
theorem GridL.isV {H : Hp} {n m B : Nat} {v : V} {L : List (List Int)} (g : GridL H n m v L) (hn : n ≤ B) (hm : m ≤ B) (hL : ∀ r ∈ L, ∀ i ∈ r, i.natAbs ≤ 1000000) : IsV H B 2 v := by
  obtain ⟨rows, ⟨t, rfl, ht⟩, h2, h3⟩ := g
  refine .tup ht (by rw [paired_len h2, h3]; exact hn) fun r hr => ?_
  obtain ⟨c, hc, ⟨u, rfl, hu⟩, hl⟩ := paired_mem h2 hr
  refine .tup hu (by rw [List.length_map, hl]; exact hm) fun e he => ?_
  obtain ⟨i, hi, rfl⟩ := List.mem_map.mp he
  exact .int i fun _ => Nat.le_trans (hL c hc i hi) (by omega)
theorem gridOf_small {G : Nat → Nat → Nat} {n m : Nat} (h : ∀ i j, G i j ≤ 1000000) : ∀ r ∈ gridOf G n m, ∀ i ∈ r, i.natAbs ≤ 1000000 := fun r hr i hi => by
  obtain ⟨k, _, rfl⟩ := List.mem_map.mp hr
  obtain ⟨j, _, rfl⟩ := List.mem_map.mp hi
  rw [Int.natAbs_natCast]
  exact h k j
theorem gridOf_cut {G : Nat → Nat → Nat} {n m M : Nat} (h : ∀ i j, G i j ≤ M) : gridOf G n m = gridOf (fun i j => min (G i j) M) n m := by
  have : G = fun i j => min (G i j) M := funext fun i => funext fun j => (Nat.min_eq_left (h i j)).symm
  exact congrArg (fun G => gridOf G n m) this
theorem kX_top {x y : Str} {e i j : Nat} : kX x y e i j ≤ beyond x.cps.toList y.cps.toList e := (kF_least (a := x.cps.toList) (b := y.cps.toList) (once := onceX x) (e := e) i j).top
theorem gX_top {x y : Str} {e i j : Nat} : gX x y e i j ≤ beyond x.cps.toList y.cps.toList e := (gF_least (a := x.cps.toList) (b := y.cps.toList) (once := onceX x) (e := e) i j).top
/-- a paper of prices made of the cut tables -/
theorem pri_of {H : Hp} {M e : Nat} {x y : Str} {t a f : Addr} (ht : H t = some (.tup [.str "prices", .ref a, .ref f])) (ga : GridL H (x.length + 1) (y.length + 1) (.ref a) (gridOf (fun i j => min (kX x y e i j) M) x.length y.length)) (gf : GridL H (x.length + 1) (y.length + 1) (.ref f) (gridOf (fun i j => min (gX x y e i j) M) x.length y.length)) (hM : M ≤ 1000000) (hx : x.length ≤ 100) (hy : y.length ≤ 100) : IsV H 200 3 (.ref t) ∧ PriP H x y e ((min (kX x y e x.length y.length) M : Nat) : Int) (.ref t) := by
  refine ⟨.tup ht (Nat.le_of_ble_eq_true rfl) fun v hv => ?_, .ref a, .ref f, _, _, ⟨t, rfl, ht⟩, ga, gf, prices_own⟩
  rcases List.mem_cons.mp hv with rfl | hv
  · exact .str _ (Nat.le_of_ble_eq_true rfl)
  rcases List.mem_cons.mp hv with rfl | hv
  · exact ga.isV (by omega) (by omega) (gridOf_small fun i j => by omega)
  rcases List.mem_cons.mp hv with rfl | hv
  · exact gf.isV (by omega) (by omega) (gridOf_small fun i j => by omega)
  · cases hv
theorem pri_told {H : Hp} {e : Nat} {x y : Str} {t a f : Addr} (ht : H t = some (.tup [.str "prices", .ref a, .ref f])) (ga : GridL H (x.length + 1) (y.length + 1) (.ref a) (gridOf (kX x y e) x.length y.length)) (gf : GridL H (x.length + 1) (y.length + 1) (.ref f) (gridOf (gX x y e) x.length y.length)) (hx : x.length ≤ 100) (hy : y.length ≤ 100) (he : e ≤ 1000) : IsV H 200 3 (.ref t) ∧ PriP H x y e ((kX x y e x.length y.length : Nat) : Int) (.ref t) := by
  have lx : x.cps.toList.length = x.length := Array.length_toList
  have ly : y.cps.toList.length = y.length := Array.length_toList
  have b : beyond x.cps.toList y.cps.toList e ≤ 201 * 1001 := by
    unfold beyond
    rw [lx, ly]
    exact Nat.mul_le_mul (by omega) (by omega)
  rw [gridOf_cut (M := beyond x.cps.toList y.cps.toList e) fun i j => kX_top] at ga
  rw [gridOf_cut (M := beyond x.cps.toList y.cps.toList e) fun i j => gX_top] at gf
  obtain ⟨h1, h2⟩ := pri_of ht ga gf (Nat.le_trans b (by decide)) hx hy
  rw [Nat.min_eq_left kX_top] at h2
  exact ⟨h1, h2⟩
end Vk
set_option Elab.async false
set_option maxRecDepth 100000
set_option linter.all false
set_option maxHeartbeats 4000000
namespace Vk
open PySem PySem.Spec PyProof.Rows L2
/-! ## calls with values of the def's own, and with arguments of both kinds -/
structure CalD (P : Program) (w : World) (K : PySem.W.Frag) (mg : Str → Option Value) (base : Heap) (CX : CXT) (k : Nat) (x : Str) (sp : Sp) (dv : List V) : Prop where
  ex : ∃ (f : Addr) (fd : FuncData) (ps : List Str) (ds : List Value), FnG P w K mg base CX k f fd ps sp ∧ mg x = some (.ref f) ∧ PySem.W.keepIn K (.ref f) = true ∧ Vals dv ds ∧ Binds K fd ps ds
structure CalM (P : Program) (w : World) (K : PySem.W.Frag) (mg : Str → Option Value) (base : Heap) (CX : CXT) (k : Nat) (x : Str) (sp : Sp) (m : Nat) (ks : List Str) : Prop where
  ex : ∃ (f : Addr) (fd : FuncData) (ps : List Str), FnG P w K mg base CX k f fd ps sp ∧ mg x = some (.ref f) ∧ PySem.W.keepIn K (.ref f) = true ∧
    ∀ (s : Shared) (us ws : List Value), K.In s.heap → us.length = m → ws.length = ks.length → BindsTo s fd ⟨us, ks.zip ws⟩ (ps.zip (us ++ ws))
def tCallM (m n : Nat) (sp : Sp) (E : XK) (ta tk : TA) : TE := fun σ H Q => ta σ H fun vs H1 => vs.length = m ∧ tk σ H1 fun ws H2 => ws.length = n ∧ sp (vs ++ ws) H2 Q E
section
variable {X : Cx} {CX : CXT} {j k m : Nat} {sp : Sp} {E : XK} {x : Str} {p pos : Pos} {e : Expr} {es : List Expr} {t ta tk : TA} {dv : List V} {kws : List Keyword} {ks : List Str}
theorem pe_cD (c : CalD X.prog X.w X.K X.mg X.base CX k x sp dv) (hg : X.A.guards = some []) (hr : Room j X.A) (hk : k ≤ j) (hx : Passes CX X E) (ha : PA X (e :: es) t) (gl : Gl X x := by rfl)
    (hdb : (x == ("__debug__" : Str)) = false := by decide) (he : starEach (e :: es) X.env = (false, eval e X.env) :: starEach es X.env := by rfl) (hpl : (backTo pos (starEach es X.env)).any (·.1) = false := by rfl) :
    PE X (.Call (.Name x p) (e :: es) [] pos) (tCall sp dv E t) := by
  obtain ⟨f, fd, ps, ds, F, hm, kp, rd, hb⟩ := c.ex
  refine ⟨fun pins s σ H Q I h => wpAny_Call_Name_kw (ld_glob I gl hm (PySem.W.callWith_K (h₀ := X.base) I.ok.mod.kin kp (thn (ha.run pos pins s σ H _ I h) fun us s1 hh => ?_) he hpl) hdb)⟩
  obtain ⟨vs, H1, I1, r, q⟩ := hh
  have rr : Vals (vs ++ dv) (us ++ ds) := r.append rd
  have hl : (us ++ ds).length = ps.length := rr.length.symm.trans (F.len _ _ _ _ q)
  refine ⟨I1.kIn, wpAny_call (codeAny_mono (F.run X.A X.stack s1 H1 ⟨us, []⟩ (us ++ ds) (vs ++ dv) Q E hg (hr.mono hk) I1.env0 (hb s1 us I1.kIn hl) rr q) (fun res s2 hq => ?_))⟩
  match res, hq with
  | .error e, hq => exact hx pins σ H1 s1 e s2 I1 hq
  | .ok (.ret u), hq => exact I1.after hq
  | .ok .next, hq => exact hq.elim
  | .ok .brk, hq => exact hq.elim
  | .ok .cont, hq => exact hq.elim
theorem pe_cM (c : CalM X.prog X.w X.K X.mg X.base CX k x sp m ks) (hg : X.A.guards = some []) (hr : Room j X.A) (hk : k ≤ j) (hx : Passes CX X E) (ha : PA X (e :: es) ta) (hkw : PK X kws tk) (gl : Gl X x := by rfl)
    (hall : (backToKw pos (keywordEach kws X.env)).all (·.1.isSome) = true := by rfl) (hks : (backToKw pos (keywordEach kws X.env)).filterMap (·.1) = ks := by rfl) (hdb : (x == ("__debug__" : Str)) = false := by decide)
    (hpl : ((backTo pos (starEach (e :: es) X.env)).any (·.1) || (backToKw pos (keywordEach kws X.env)).any (·.1.isNone)) = false := by rfl) (he : starEach (e :: es) X.env = (false, eval e X.env) :: starEach es X.env := by rfl) :
    PE X (.Call (.Name x p) (e :: es) kws pos) (tCallM m ks.length sp E ta tk) := by
  obtain ⟨f, fd, ps, F, hm, kp, hb⟩ := c.ex
  refine ⟨fun pins s σ H Q I h => wpAny_Call_Name_kw (ld_glob I gl hm (PySem.W.callWith_KW (h₀ := X.base) I.ok.mod.kin kp hall (thn (ha.run pos pins s σ H _ I h) fun us s1 hh => ?_) hpl he) hdb)⟩
  obtain ⟨vs, H1, I1, r1, l1, q1⟩ := hh
  refine thn (hkw.run pos pins s1 σ H1 _ I1 q1) fun ws s2 hh2 => ?_
  obtain ⟨zs, H2, I2, r2, l2, q2⟩ := hh2
  refine ⟨I2.kIn, ?_⟩
  rw [hks]
  refine wpAny_call (codeAny_mono (F.run X.A X.stack s2 H2 ⟨us, ks.zip ws⟩ (us ++ ws) (vs ++ zs) Q E hg (hr.mono hk) I2.env0 (hb s2 us ws I2.kIn (r1.length.symm.trans l1) (r2.length.symm.trans l2)) (r1.append r2) q2) (fun res s3 hq => ?_))
  match res, hq with
  | .error e, hq => exact hx pins σ H2 s2 e s3 I2 hq
  | .ok (.ret u), hq => exact I2.after hq
  | .ok .next, hq => exact hq.elim
  | .ok .brk, hq => exact hq.elim
  | .ok .cont, hq => exact hq.elim
end
section
variable {K : PySem.W.Frag} {x y qual : Str} {st : Stmt} {f : Addr} {fd : FuncData} {ps ks : List Str} {m : Nat}
theorem _root_.L2.Fun.kwm (F : Fun K x qual st f fd)
    (h : ∀ (kV doc pm : Value) (an : Option Addr) (cdv ct : Value) (us ws : List Value), us.length = m → ws.length = ks.length → bindArgs (PySem.W.fnOf x qual (defArgs st) (defBody st) (defScope st) .none kV doc pm an cdv ct) ⟨us, ks.zip ws⟩ = pure (ps.zip (us ++ ws))) :
    ∀ (s : Shared) (us ws : List Value), K.In s.heap → us.length = m → ws.length = ks.length → BindsTo s fd ⟨us, ks.zip ws⟩ (ps.zip (us ++ ws)) := by
  obtain ⟨oc, od, kV, doc, pm, an, cdv, ct, osl, rfl, lk, hcd⟩ := F.ex
  exact fun s us ws _ h1 h2 => .of_eq (h kV doc pm an cdv ct us ws h1 h2)
end
end Vk
set_option Elab.async false
set_option maxRecDepth 100000
set_option linter.all false
set_option maxHeartbeats 4000000
namespace Vk
open PySem PySem.Spec PyProof.Rows L2 StX
section
variable {P : Program} {w : World} {K : PySem.W.Frag} {mg : Str → Option Value} {base : Heap}
theorem ne_bl {a b : Bool} : (!decide (V.bl a = V.bl b)) = (a != b) := by
  cases a <;> cases b <;> decide
theorem ref_non {a : Addr} : decide (V.ref a = V.non) = false := decide_eq_false nofun
theorem non_non : decide (V.non = V.non) = true := decide_eq_true rfl
theorem pe_joinK {X : Cx} {K : PySem.W.Frag} {o e : Expr} {apos pos : Pos} {to te : TE} (h : X.K = K) (ho : PE X o to) (he : PE X e te) (hs : starEach [e] X.env = [(false, eval e X.env)] := by rfl) (hbase : attributeBase o "join" X.env (eval o X.env) = eval o X.env := by rfl) (hline : (apos.endLine == pos.line) = true := by rfl) : PE X (.Call (.Attribute o "join" apos) [e] [] pos) (tM1 (fun x xs H Q => ∃ a p, ∃ ys : List Str, x = .str a ∧ xs = [.ref p] ∧ (SqL K H p (ys.map V.str) ∨ SqT K H p (ys.map V.str)) ∧ (ys.map (·.length)).sum + ys.length * a.length ≤ 16777216 ∧ Q (.str (Txt.join a ys)) H) to te) := h ▸ pe_join ho he (hs := hs) (hbase := hbase) (hline := hline)
theorem nodup_leS : ∀ {l m : List Str}, l.Nodup → (∀ a ∈ l, a ∈ m) → l.length ≤ m.length
  | [], m, _, _ => Nat.zero_le _
  | a :: l, m, nd, h => by
    obtain ⟨n1, n2⟩ := List.nodup_cons.mp nd
    have ha := h a List.mem_cons_self
    have := nodup_leS (m := m.erase a) n2 fun b hb => (List.mem_erase_of_ne (show b ≠ a from fun e => n1 (by rw [← e]; exact hb))).mpr (h b (List.mem_cons_of_mem _ hb))
    rw [List.length_erase_of_mem ha] at this
    have : 0 < m.length := List.length_pos_of_mem ha
    rw [List.length_cons]
    omega
theorem pri_one {H : Hp} {x y : Str} {e : Nat} {c d : Int} {v : V} (h : PriP H x y e c v) (h' : PriP H x y e d v) : c = d := by
  obtain ⟨a, f, A, F, h1, h2, h3, h4⟩ := h
  obtain ⟨a', f', A', F', g1, g2, g3, g4⟩ := h'
  have e := h1.inj g1
  cases e
  cases h2.inj g2
  exact h4.2.1.symm.trans g4.2.1
theorem cost_parts {x y : Str} {e : Nat} {rs : List (Nat × Nat × Str)} (h : PartS x y e 0 0 (kX x y e x.length y.length) rs) : (rs.map (costE (e : Nat))).sum = ((kX x y e x.length y.length : Nat) : Int) ∧ ∀ r ∈ rs, r.2.2.length ≤ y.length := by
  have h' : Parts x.cps.toList y.cps.toList (onceX x) e 0 0 (kF x.cps.toList y.cps.toList (onceX x) e x.cps.toList.length y.cps.toList.length) (rs.map partT) := by
    rw [Array.length_toList, Array.length_toList]
    exact h
  obtain ⟨o1, o2, o3⟩ := h'.ok
  have al := parts_let h'
  refine ⟨?_, fun r hr => ?_⟩
  · rw [cost_sum o1, ← o3, Array.length_toList, Array.length_toList]
    rfl
  · obtain ⟨_, a2⟩ := al (partT r) (List.mem_map.mpr ⟨r, hr, rfl⟩)
    have e1 : r.2.2.cps.toList.length = r.2.2.length := Array.length_toList
    have e2 : y.cps.toList.length = y.length := Array.length_toList
    have a2 : r.2.2.cps.toList.length ≤ y.cps.toList.length := a2
    omega
def pool : Str := "qrstuvwxyzQRSTUVWXYZ0123456789(){}"
theorem pool_nodup : pool.cps.toList.Nodup := by decide +kernel
theorem pool_len : pool.length = 34 := by decide +kernel
def spLaw (K : PySem.W.Frag) : Sp := fun vs H Q _ => ∃ (a : Addr) (ns : List Int), vs = [.ref a] ∧ SqL K H a (ns.map V.int) ∧ ns.length ≤ 63 ∧ ∀ H', Q (.bl true) H'
abbrev s_law : Stmt := top 32
theorem sc_law : FnScope ["_law_script", "_law_pen_here", "_law_turn", "_law_signs_here", "_law_here", "_law_at", "_law_away", "_law_extra", "_law_told", "_law_paper", "_law_cost", "_law_others", "_law_turned", "_law_sign", "_law_tip", "_law_dearer"] ["_law_script"] (defScope s_law) := ⟨rfl, rfl, rfl, by decide +kernel, rfl, by decide +kernel, by decide +kernel⟩
theorem b_law {f : Addr} {fd : FuncData} (F : Fun K "law" "law" s_law f fd) (T : Txt mg) (c_lpen : CalG P w K mg base CX0 1 "_law_pen" (spPen K)) (c_lfew : CalG P w K mg base CX0 3 "_law_few" spFew) (c_ldraw : CalG P w K mg base CX0 1 "_law_draw" spDraw) (c_lpick : CalG P w K mg base CX0 2 "_law_pick" (spPick K)) (c_lword : CalG P w K mg base CX0 3 "_law_word" spWord) (c_lntext : CalG P w K mg base CX0 4 "_law_ntext" spNtextZ) (c_lshuffled : CalG P w K mg base CX0 2 "_law_shuffled" spShufS) (c_lnis_prices : CalG P w K mg base CX0 5 "_law_nis_prices" spNisPr) (q_cheapest : CalM P w K mg base CX0 5 "cheapest" spCheap 2 ["each"]) (k_prices : CalK P w K mg base CX0 5 "prices" spPri ["each", "other", "one"] List.reverse) (d_prices : CalD P w K mg base CX0 5 "prices" spPri [.int 0]) (q_cost_of : CalM P w K mg base CX0 1 "cost_of" spCost 1 ["each"]) (q_is_prices : CalM P w K mg base CX0 4 "is_prices" spIsPr 4 ["each"]) (k_is_prices : CalK P w K mg base CX0 4 "is_prices" spIsPr ["each", "value", "number", "other", "one"] List.reverse) (d_is_prices : CalD P w K mg base CX0 4 "is_prices" spIsPr [.int 0]) : FnG P w K mg base CX0 6 f fd ["_law_script"] (spLaw K) := by
  refine okG0 F sc_law (fun vs H Q E h => ?_) (fun cdv A outer s H vs Q E hg hr h => ?_)
  · obtain ⟨a, ns, rfl, _⟩ := h
    rfl
  · have hu := hu_of hr
    have hu64 := hr.units
    obtain ⟨a, ns, rfl, hS, hlen, k⟩ := h
    refine ⟨_, (pss_cons (ps_set (i := 1) sc_law.nd rfl (Or.inl rfl) (pe_cG c_lpen hg hr (by decide) pass0 (pa_cons (pv 0) pa_nil)))
      (pss_cons (ps_for PassesOwn.never rfl (pi_range1 rfl T.range (pa_cons (pe_op op_add pe_int (pe_callB (call_min2 rfl) (by rfl) T.min (by decide +kernel) (pa_cons pe_int (pa_cons (pe_callB call_len (by rfl) T.len (by decide +kernel) (pa_cons (pv 0) pa_nil)) pa_nil)))) pa_nil)) (pg_name (i := 2) sc_law.nd rfl (Or.inl rfl)) (pss_cons (ps_set (i := 3) sc_law.nd rfl (Or.inl rfl) (pe_cG c_lfew hg hr (by decide) pass0 (pa_cons (pv 1) pa_nil)))
      (pss_cons (ps_set (i := 4) sc_law.nd rfl (Or.inl rfl) (pe_cG c_lntext hg hr (by decide) pass0 (pa_cons (pv 1) (pa_cons (pv 3) (pa_cons pe_int pa_nil)))))
      (pss_cons (ps_set (i := 5) sc_law.nd rfl (Or.inl rfl) (pe_cG c_ldraw hg hr (by decide) pass0 (pa_cons (pv 1) (pa_cons (pe_op op_add (pe_callB call_len (by rfl) T.len (by decide +kernel) (pa_cons (pv 4) pa_nil)) pe_int) pa_nil))))
      (pss_cons (ps_set (i := 6) sc_law.nd rfl (Or.inl rfl) (pe_op op_add_str (pe_op op_add_str (pe_slice sl_str (pv 4) po_none (po_some (pv 5))) (pe_cG c_lword hg hr (by decide) pass0 (pa_cons (pv 1) (pa_cons (pv 3) (pa_cons pe_int (pa_cons pe_int pa_nil)))))) (pe_slice sl_str (pv 4) (po_some (pe_op op_add (pv 5) (pe_cG c_ldraw hg hr (by decide) pass0 (pa_cons (pv 1) (pa_cons pe_int pa_nil))))) po_none)))
      (pss_cons (ps_set (i := 6) sc_law.nd rfl (Or.inl rfl) (pe_slice sl_str (pe_cG c_lpick hg hr (by decide) pass0 (pa_cons (pv 1) (pa_cons (pe_lst (pa_cons (pv 6) (pa_cons (pv 6) (pa_cons (pe_revS (pv 6)) (pa_cons (pe_cG c_lntext hg hr (by decide) pass0 (pa_cons (pv 1) (pa_cons (pv 3) (pa_cons pe_int pa_nil)))) pa_nil))))) pa_nil))) po_none (po_some pe_int)))
      (pss_cons (ps_set (i := 7) sc_law.nd rfl (Or.inl rfl) (pe_cG c_lpick hg hr (by decide) pass0 (pa_cons (pv 1) (pa_cons (pe_lst (pa_cons pe_int (pa_cons pe_int (pa_cons pe_int (pa_cons pe_int (pa_cons pe_int pa_nil)))))) pa_nil))))
      (pss_cons (ps_par (i := 8) (j := 9) (by rfl) sc_law.nd rfl rfl (by decide) rfl rfl (pa_cons (pe_cM q_cheapest hg hr (by decide) pass0 (pa_cons (pv 4) (pa_cons (pv 6) pa_nil)) (pk_cons (pv 7) pk_nil)) (pa_cons (pe_kw k_prices hg hr (by decide) pass0 (pk_cons (pv 7) (pk_cons (pv 6) (pk_cons (pv 4) pk_nil)))) pa_nil)) (by rfl))
      (pss_cons (ps_if (pt_cmpR op_ne (pe_cmpR op_isN (pv 8) pe_non (nomark _)) (pe_cmpR op_isN (pv 9) pe_non (nomark _)) (nomark _)) (pss_one (ps_ret pe_bl)) pss_nil)
      (pss_cons (ps_if (pt_cmpR op_isN (pv 9) pe_non (nomark _)) (pss_one ps_continue) pss_nil)
      (pss_cons (ps_set (i := 10) sc_law.nd rfl (Or.inl rfl) (pe_cM q_cost_of hg hr (by decide) pass0 (pa_cons (pv 8) pa_nil) (pk_cons (pv 7) pk_nil)))
      (pss_cons (ps_if (pt_not (pt_val (pe_cG c_lnis_prices hg hr (by decide) pass0 (pa_cons (pv 4) (pa_cons (pv 6) (pa_cons (pv 10) (pa_cons (pv 7) (pa_cons (pv 9) pa_nil)))))))) (pss_one (ps_ret pe_bl)) pss_nil)
      (pss_cons (ps_if (pt_cmpR op_notBl (pe_kw k_is_prices hg hr (by decide) pass0 (pk_cons (pv 7) (pk_cons (pv 9) (pk_cons (pv 10) (pk_cons (pv 6) (pk_cons (pv 4) pk_nil)))))) pe_bl (nomark _)) (pss_one (ps_ret pe_bl)) pss_nil)
      (pss_cons (ps_if (pt_cmpR op_notBl (pe_cM q_is_prices hg hr (by decide) pass0 (pa_cons (pv 4) (pa_cons (pv 6) (pa_cons (pe_op op_add (pv 10) pe_int) (pa_cons (pv 9) pa_nil)))) (pk_cons (pv 7) pk_nil)) pe_bl (nomark _)) (pss_one (ps_ret pe_bl)) pss_nil)
      (pss_cons (ps_if (pt_cmpR op_ne (pe_cM q_cost_of hg hr (by decide) pass0 (pa_cons (pe_cM q_cheapest hg hr (by decide) pass0 (pa_cons (pe_revS (pv 4)) (pa_cons (pe_revS (pv 6)) pa_nil)) (pk_cons (pv 7) pk_nil)) pa_nil) (pk_cons (pv 7) pk_nil)) (pv 10) (nomark _)) (pss_one (ps_ret pe_bl)) pss_nil)
      (pss_cons (ps_set (i := 11) sc_law.nd rfl (Or.inr rfl) (pe_dictZip rfl (by rfl) T.dict (by rfl) T.zip (pa_cons (pe_sortSet rfl (by rfl) T.sorted (by rfl) T.set (pe_op op_add_str (pv 4) (pv 6))) (pa_cons (pe_cG c_lshuffled hg hr (by decide) pass0 (pa_cons (pv 1) (pa_cons pe_str pa_nil))) pa_nil))))
      (pss_cons (ps_setLc (i := 12) (own := [("_law_tip", 14)]) (g := gName 14) (tt := tYes) rfl sc_law.nd rfl rfl (sw_true rfl rfl rfl (by decide +kernel)) (pi_tup (pe_tup (pa_cons (pv 4) (pa_cons (pv 6) pa_nil)))) (blkOk_by (own := [("_law_tip", 14)]) (N := ["_law_script", "_law_pen_here", "_law_turn", "_law_signs_here", "_law_here", "_law_at", "_law_away", "_law_extra", "_law_told", "_law_paper", "_law_cost", "_law_others", "_law_turned", "_law_sign", "_law_tip", "_law_dearer"]) (sc := defScope s_law) (by decide +kernel)) (fun _ _ _ _ _ => (pg_name (i := 14) sc_law.nd rfl (Or.inl rfl))) (fun _ _ _ _ _ => pts_nil) (fun _ _ _ _ _ => (pe_joinK (K := K) rfl pe_str (pe_lc (own := [("_law_sign", 13)]) (g := gName 13) (tt := tYes) rfl sc_law.nd (pi_str (pv 14)) (blkOk_by (own := [("_law_sign", 13)]) (N := ["_law_script", "_law_pen_here", "_law_turn", "_law_signs_here", "_law_here", "_law_at", "_law_away", "_law_extra", "_law_told", "_law_paper", "_law_cost", "_law_others", "_law_turned", "_law_sign", "_law_tip", "_law_dearer"]) (sc := relabel { kind := ScopeKind.function, names := [(".0", NameKind.local), ("_law_tip", NameKind.local), ("_law_others", NameKind.free)], isGenerator := false, isCoroutine := false } (envOfC "law" (defScope s_law) 0 0 .none)) (by decide +kernel)) (fun _ _ _ _ _ => (pg_name (i := 13) sc_law.nd rfl (Or.inl rfl))) (fun _ _ _ _ _ => pts_nil) (fun _ _ _ _ _ => (pe_dget hu (pv 11) (pv 13) (fun _ _ => rfl)))))))
      (pss_cons (ps_if (pt_cmpR op_ne (pe_cM q_cost_of hg hr (by decide) pass0 (pa_cons (pe_cM q_cheapest hg hr (by decide) pass0 (pa_cons (pe_ix ix_list (pv 12) pe_int (fun _ _ => rfl)) (pa_cons (pe_ix ix_list (pv 12) pe_int (fun _ _ => rfl)) pa_nil)) (pk_cons (pv 7) pk_nil)) pa_nil) (pk_cons (pv 7) pk_nil)) (pv 10) (nomark _)) (pss_one (ps_ret pe_bl)) pss_nil)
      (pss_cons (ps_set (i := 15) sc_law.nd rfl (Or.inl rfl) (pe_cM q_cost_of hg hr (by decide) pass0 (pa_cons (pe_cM q_cheapest hg hr (by decide) pass0 (pa_cons (pv 4) (pa_cons (pv 6) pa_nil)) (pk_cons (pe_op op_add (pv 7) pe_int) pk_nil)) pa_nil) (pk_cons (pe_op op_add (pv 7) pe_int) pk_nil)))
      (pss_one (ps_if (pt_not (pt_chain op_le op_le (pv 10) (pv 15) (pe_op op_add (pv 10) (pe_op op_mul pe_int (pe_callB call_len (by rfl) T.len (by decide +kernel) (pa_cons (pv 8) pa_nil)))))) (pss_one (ps_ret pe_bl)) pss_nil)))))))))))))))))))))
      (pss_one (ps_ret (pe_and (pe_cmpR op_isN (pe_cD d_prices hg hr (by decide) pass0 (pa_cons pe_str (pa_cons pe_str pa_nil))) pe_non (nomark _)) (pe_one (pe_cD d_is_prices hg hr (by decide) pass0 (pa_cons pe_str (pa_cons pe_str (pa_cons pe_int (pa_cons (pe_cD d_prices hg hr (by decide) pass0 (pa_cons pe_str (pa_cons pe_str pa_nil))) pa_nil))))))))))), ?_⟩
    refine ⟨_, rfl, a, ns, rfl, hS, fun p pc H1 hp0 Pn0 s1 => ?_⟩
    refine ⟨_, rfl, _, _, rfl, .inl ⟨_, s1.seq hS, rfl⟩, _, _, rfl, _, _, rfl, rfl, _, rfl, ?_, ?_, ?_⟩
    · split <;> omega
    · split <;> omega
    refine for_range (lo := 0) (fun i σ H' => ∃ o2 o3 o4 o5 o6 o7 o8 o9 o10 o11 o12 o13 o14 o15 : Option V, σ = [some (.ref a), some (.ref p), o2, o3, o4, o5, o6, o7, o8, o9, o10, o11, o12, o13, o14, o15] ∧ Pen H' p pc (1000 * i)) ?_ ?_ ?_
    · exact ⟨_, _, _, _, _, _, _, _, _, _, _, _, _, _, rfl, Pn0⟩
    · rintro i σ H2 hi ⟨o2, o3, o4, o5, o6, o7, o8, o9, o10, o11, o12, o13, o14, o15, rfl, P2⟩
      have hi8 : i ≤ 20 := by
        have : i < 21 := by
          revert hi
          split <;> omega
        omega
      refine ⟨_, rfl, p, pc, 1000 * i, rfl, P2, by omega, fun sg H3 fz P3 x3 => ?_⟩
      have z100 : sg.length ≤ 1000 := Nat.le_trans fz.2.1 (by decide)
      refine name_go ⟨_, rfl, _, rfl, p, pc, sg, 20, _, rfl, fz, by decide, P3, by omega, fun x H4 xl xz P4 x4 => ?_⟩
      have xsl : x.length ≤ sizeLine := Nat.le_of_lt (fewL (by omega))
      refine name_go ⟨_, rfl, _, rfl, _, _, rfl, ⟨xsl, rfl⟩, _, _, rfl, rfl, p, pc, _, _, rfl, by omega, by omega, P4, by omega, fun at0 H5 a0 a1 P5 x5 => ?_⟩
      refine name_go ⟨_, rfl, _, rfl, _, rfl, x, rfl, xsl, ?_⟩
      refine ⟨_, rfl, _, rfl, p, pc, sg, 0, 3, _, rfl, by decide, by decide, fz.1, z100, P5, by omega, fun w1 H6 gw P6 x6 => ?_⟩
      have w3 := gw.2.1
      have c1 := cutS_length x none (some at0)
      have big : 1000 ≤ sizeLine := by decide
      refine ⟨_, _, rfl, rfl, (by omega), ?_⟩
      refine ⟨_, rfl, _, rfl, _, rfl, p, pc, 4, _, rfl, by decide, by decide, P6, by omega, fun d H7 d0 d1 P7 x7 => ⟨_, _, rfl, rfl, _, rfl, x, rfl, xsl, ?_⟩⟩
      have c2 := cutS_length x (some (at0 + d)) none
      have l1 : (cutS x none (some at0) ++ w1).length = (cutS x none (some at0)).length + w1.length := Str.length_append _ _
      refine ⟨_, _, rfl, rfl, (by omega), ?_⟩
      have l2 : (cutS x none (some at0) ++ w1 ++ cutS x (some (at0 + d)) none).length = (cutS x none (some at0) ++ w1).length + (cutS x (some (at0 + d)) none).length := Str.length_append _ _
      have nz : LtZ sg (cutS x none (some at0) ++ w1 ++ cutS x (some (at0 + d)) none) := ltz_more (ltz_more (ltz_cut xz _ _) gw.2.2) (ltz_cut xz _ _)
      have nl : (cutS x none (some at0) ++ w1 ++ cutS x (some (at0 + d)) none).length ≤ 200 := by omega
      generalize cutS x none (some at0) ++ w1 ++ cutS x (some (at0 + d)) none = nr at nz nl ⊢
      refine name_go ⟨_, rfl, _, rfl, _, rfl, _, rfl, nr, rfl, (by omega), ?_⟩
      refine ⟨_, rfl, _, rfl, p, pc, sg, 20, _, rfl, fz, by decide, P7, by omega, fun y0 H8 yl0 yz0 P8 x8 => ?_⟩
      refine ⟨by show 4 ≤ sizeLine; decide, fun q hq => ?_⟩
      have sq := same_new (o := .lst [.str nr, .str nr, .str (backS nr), .str y0]) hq
      refine ⟨p, pc, .ref q, _, _, rfl, .lst (SqL.of upd_same), (fun z => nomatch z), Nat.le_of_ble_eq_true rfl, P8.stay sq, by omega, fun v H9 m9 P9 x9 => ?_⟩
      obtain ⟨g, rfl, gz, gl⟩ : ∃ g : Str, v = .str g ∧ LtZ sg g ∧ g.length ≤ 200 := by
        rcases List.mem_cons.mp m9 with rfl | m9
        · exact ⟨_, rfl, nz, nl⟩
        rcases List.mem_cons.mp m9 with rfl | m9
        · exact ⟨_, rfl, nz, nl⟩
        rcases List.mem_cons.mp m9 with rfl | m9
        · exact ⟨_, rfl, ltz_back nz, by rw [back_len]; exact nl⟩
        rcases List.mem_cons.mp m9 with rfl | m9
        · exact ⟨_, rfl, yz0, by omega⟩
        · cases m9
      refine ⟨_, rfl, g, rfl, (by omega), name_go ?_⟩
      have yl : (cutS g none (some (20 : Int))).length ≤ 20 := cut_upto g 20
      have yz : LtZ sg (cutS g none (some (20 : Int))) := ltz_cut gz _ _
      generalize cutS g none (some (20 : Int)) = y at yl yz ⊢
      have ysl : y.length ≤ sizeLine := Nat.le_of_lt (fewL (by omega))
      have xt := ltz_lt fz xz
      have yt := ltz_lt fz yz
      refine ⟨_, rfl, by show 5 ≤ sizeLine; decide, fun b hb => ?_⟩
      have sb := same_new (o := .lst [.int 0, .int 0, .int 1, .int 5, .int 97]) hb
      refine ⟨p, pc, _, _, _, rfl, .lst (SqL.of upd_same), (fun z => by cases z), by show 5 ≤ 1000; decide, P9.stay sb, by omega, fun v H10 hv P10 x10 => ?_⟩
      have ev : ∃ e : Nat, v = .int (e : Nat) ∧ e ≤ 97 := by
        simp only [List.mem_cons, List.not_mem_nil, or_false] at hv
        rcases hv with rfl | rfl | rfl | rfl | rfl
        · exact ⟨0, rfl, by omega⟩
        · exact ⟨0, rfl, by omega⟩
        · exact ⟨1, rfl, by omega⟩
        · exact ⟨5, rfl, by omega⟩
        · exact ⟨97, rfl, by omega⟩
      obtain ⟨e, rfl, he⟩ := ev
      refine name_go ?_
      dsimp only
      refine ⟨_, rfl, _, rfl, rfl, _, rfl, rfl, x, y, e, rfl, by omega, by omega, by omega, fun no => ?_, fun yes t xs rs es H11 el le wk ht11 rw11 pt11 lt11 ln11 s11 => ?_⟩
      · refine ⟨_, rfl, _, rfl, _, rfl, rfl, x, y, e, rfl, by omega, by omega, by omega, fun _ => ?_, fun yes => absurd no yes⟩
        refine ⟨_, _, rfl, ?_⟩
        refine ⟨_, rfl, rfl, _, rfl, rfl, rfl, _, rfl, ?_⟩
        rw [ne_bl, non_non]
        refine iteF ⟨_, rfl, rfl, _, rfl, ?_⟩
        rw [non_non]
        exact iteT ⟨_, _, _, _, _, _, _, _, _, _, _, _, _, _, rfl, P10.mono (by omega)⟩
      · refine ⟨_, rfl, _, rfl, _, rfl, rfl, x, y, e, rfl, by omega, by omega, by omega, fun no => absurd no yes, fun _ tp ga gf H12 htp gA gF s12 => ?_⟩
        have tf := told_of yt pt11
        obtain ⟨iv1, fp1⟩ := pri_told htp gA gF (by omega) (by omega) (by omega)
        have okm := okR_all tf.ok
        have w20 : ∀ r ∈ rs, r.2.2.length ≤ 20 := fun r hr => Nat.le_trans (tf.all r hr).2.1 yl
        have w100 : ∀ r ∈ rs, r.2.2.length ≤ 100 := fun r hr => Nat.le_trans (w20 r hr) (by decide)
        have cost := tf.cost
        have ht12 := s12 _ _ ht11
        have rw12 := rw11.keep s12
        have P12 := (P10.stay s11).stay s12
        have wk' := pt11
        generalize hc : kX x y e x.length y.length = c at cost fp1
        refine ⟨_, _, rfl, ?_⟩
        refine ⟨_, rfl, rfl, _, rfl, rfl, rfl, _, rfl, ?_⟩
        rw [ne_bl, ref_non, ref_non]
        refine iteF ⟨_, rfl, rfl, _, rfl, ?_⟩
        rw [ref_non]
        refine iteF ?_
        dsimp only [tNext]
        refine ⟨_, rfl, rfl, _, rfl, rfl, t, ((e : Nat) : Int), xs, rs, rfl, ht12, rw12, by omega, w100, fun H13 s13 => name_go ?_⟩
        rw [cost]
        have iv13 := iv1.keep (.same s13)
        have fp13 := fp1.keep (.same s13)
        refine ⟨_, rfl, _, rfl, _, rfl, _, rfl, _, rfl, x, y, (c : Nat), .ref tp, e, 200, rfl, iv13, by decide, by omega, by omega, fun b14 H14 s14 hb14 => ?_⟩
        have b14t : b14 = true := hb14.mpr fp13
        subst b14t
        refine ⟨true, rfl, iteF ?_⟩
        have iv14 := iv13.keep (.same s14)
        have fp14 := fp13.keep (.same s14)
        refine ⟨_, rfl, _, rfl, _, rfl, _, rfl, _, rfl, rfl, x, y, (c : Nat), .ref tp, e, 200, rfl, iv14, by decide, by omega, by omega, fun b15 H15 s15 hb15 => ?_⟩
        have b15t : b15 = true := hb15.mpr fp14
        subst b15t
        refine ⟨_, _, rfl, rfl, _, rfl, iteF ?_⟩
        have iv15 := iv14.keep (.same s15)
        have fp15 := fp14.keep (.same s15)
        refine ⟨_, rfl, _, rfl, _, rfl, _, _, rfl, rfl, _, rfl, rfl, _, rfl, rfl, x, y, (c : Nat) + 1, .ref tp, e, 200, rfl, iv15, by decide, by omega, by omega, fun b16 H16 s16 hb16 => ?_⟩
        have b16f : b16 = false := by
          cases b16 with
          | false => rfl
          | true => exact absurd (pri_one (hb16.mp rfl) fp15) (by omega)
        subst b16f
        refine ⟨_, _, rfl, rfl, _, rfl, iteF ?_⟩
        have s1216 := ((s13.trans s14).trans s15).trans s16
        have P16 := P12.stay s1216
        have ht16 := s1216 _ _ ht12
        have rw16 := rw12.keep s1216
        clear iv1 fp1 iv13 fp13 iv14 fp14 iv15 fp15 hb14 hb15 hb16
        -- turned round
        have bx := back_len x
        have by' := back_len y
        have nob : ¬ ((backS x).length = 0 ∧ ¬ (backS y).length = 0) := by rw [bx, by']; exact yes
        refine ⟨_, rfl, x, rfl, xsl, _, rfl, y, rfl, ysl, rfl, _, rfl, rfl, backS x, backS y, e, rfl, by omega, by omega, by omega, fun no => absurd no nob, fun _ t17 xs17 rs17 es17 H17 _ _ _ ht17 rw17 pt17 _ ln17 s17 => ?_⟩
        have tf17 := told_of (back_lt yt) pt17
        have w17 : ∀ r ∈ rs17, r.2.2.length ≤ 100 := fun r hr => Nat.le_trans (tf17.all r hr).2.1 (by omega)
        refine ⟨rfl, _, rfl, rfl, t17, ((e : Nat) : Int), xs17, rs17, rfl, ht17, rw17, by omega, w17, fun H18 s18 => ⟨_, rfl, rfl, _, rfl, ?_⟩⟩
        rw [tf17.cost, kX_back, hc, decide_eq_true rfl]
        refine iteF ?_
        have s1618 := s17.trans s18
        have P18 := P16.stay s1618
        have ht18 := s1618 _ _ ht16
        have rw18 := rw16.keep s1618
        -- other letters
        have lxy : (x ++ y).length = x.length + y.length := Str.length_append _ _
        refine ⟨_, rfl, _, rfl, _, _, rfl, rfl, by omega, x ++ y, rfl, by omega, fun ks qs nd mem _ kl hqs => ?_⟩
        have sqs := same_new (o := .lst (ks.map V.str)) hqs
        have hks : (upd H18 qs (.lst (ks.map V.str))) qs = some (.lst (ks.map V.str)) := upd_same
        have ht19 := sqs _ _ ht18
        have rw19 := rw18.keep sqs
        have P19 := P18.stay sqs
        generalize upd H18 qs (.lst (ks.map V.str)) = H19 at hks ht19 rw19 P19 ⊢
        have k3 : ks.length ≤ 3 := by
          have := nodup_leS (m := onesL sg) nd fun z hz => by
            obtain ⟨c1, hc1, rfl⟩ := List.mem_map.mp ((mem z).mp hz)
            refine List.mem_map.mpr ⟨c1, ?_, rfl⟩
            rw [app_list] at hc1
            rcases List.mem_append.mp hc1 with h | h
            · exact xz c1 h
            · exact yz c1 h
          rw [onesL_len] at this
          exact Nat.le_trans this fz.2.1
        refine ⟨_, rfl, p, pc, pool, _, rfl, by rw [pool_len]; omega, P19, by rw [pool_len]; omega, fun nz2 zs H20 pz hn0 hnz P20 x20 => ?_⟩
        rw [pool_len] at P20
        have zl : zs.length = 34 := by rw [pz.length_eq, onesL_len, pool_len]
        have hks20 := P19.keepI x20 hks
        have ht20 := pen_tup P19 x20 _ _ ht19
        have rw20 := rw19.keepT (pen_tup P19 x20)
        refine ⟨qs, nz2, ks.map Sum.inr, zs.map V.str, rfl, SqL.of ?_, SqL.of hnz, ?_, fun qd hqd => name_go ?_⟩
        · rw [List.map_map]
          exact hks20
        · rw [List.length_map, List.length_map]
          omega
        obtain ⟨rd, rd1, rd2⟩ := others_is pool_nodup nd mem (by omega) pz
        rw [app_list] at rd1 rd2
        have sd := same_new (o := .dK (mergeK [] ((ks.map Sum.inr).zip (zs.map V.str)))) hqd
        have hdd : (upd H20 qd (.dK (mergeK [] ((ks.map Sum.inr).zip (zs.map V.str))))) qd = some (.dK (mergeK [] ((ks.map Sum.inr).zip (zs.map V.str)))) := upd_same
        generalize upd H20 qd (.dK (mergeK [] ((ks.map Sum.inr).zip (zs.map V.str)))) = H21 at sd hdd ⊢
        generalize mergeK [] ((ks.map Sum.inr).zip (zs.map V.str)) = kvs at rd1 hdd
        have ht21 := sd _ _ ht20
        have rw21 := rw20.keep sd
        have P21 := P20.stay sd
        clear hks20 hnz hn0 hks sd
        refine ⟨_, rfl, _, rfl, by show 2 ≤ sizeLine; decide, fun tt htt => ⟨tt, rfl, ⟨_, SqT.of upd_same⟩, fun D hD => ?_⟩⟩
        have stt := same_new (o := .tup [.str x, .str y]) htt
        have htt2 : (upd H21 tt (.tup [.str x, .str y])) tt = some (.tup [.str x, .str y]) := upd_same
        have ht22 := stt _ _ ht21
        have rw22 := rw21.keep stt
        have P22 := P21.stay stt
        have hdd22 := stt _ _ hdd
        generalize upd H21 tt (.tup [.str x, .str y]) = H22 at hD htt2 ht22 rw22 P22 hdd22 ⊢
        have sD := same_new (o := .lst []) hD
        refine lc_tup (K := K) (a := tt) (xs := [.str x, .str y]) (fun n H' => H' D = some (.lst (([otherS rd x, otherS rd y].take n).map V.str)) ∧ Same H22 H') ?_ ?_ ?_ ?_
        · exact ⟨upd_same, sD⟩
        · rintro n H' _ ⟨_, s23⟩
          exact SqT.of (s23 _ _ htt2)
        · rintro n v H23 hv ⟨hD23, s23⟩
          obtain ⟨z, rfl, zl2, zm, zn⟩ : ∃ z : Str, v = .str z ∧ z.length ≤ 20 ∧ (∀ c ∈ z.cps.toList, c ∈ x.cps.toList ++ y.cps.toList) ∧ [otherS rd x, otherS rd y][n]? = some (otherS rd z) := by
            match n, hv with
            | 0, hv => cases hv; exact ⟨x, rfl, xl, fun c h => List.mem_append_left _ h, rfl⟩
            | 1, hv => cases hv; exact ⟨y, rfl, yl, fun c h => List.mem_append_right _ h, rfl⟩
            | n + 2, hv => simp at hv
          refine ⟨rfl, ⟨_, rfl⟩, _, rfl, z, rfl, fun D2 hD2 => ?_⟩
          have sD2 := same_new (o := .lst []) hD2
          refine lc_str (fun m H' => Same H23 H' ∧ H' D2 = some (.lst (((z.cps.toList.take m).map rd).map fun c => V.str ⟨#[c]⟩))) ⟨sD2, upd_same⟩ (fun m c1 H' hc1 q => ?_) (fun H24 q => ?_)
          · obtain ⟨sm, hd⟩ := q
            have hc2 : z.cps.toList[m]? = some c1 := by rw [Array.getElem?_toList]; exact hc1
            refine ⟨rfl, ?_⟩
            dsimp only [tYes]
            rw [if_pos rfl]
            refine ⟨_, rfl, _, rfl, qd, _, rfl, rd1 c1 (zm c1 (List.mem_of_getElem? hc2)) ▸ DGet.k (k := Sum.inr _) (sm _ _ (s23 _ _ hdd22)), _, hd, fewL ?_, upd_out hD2 sm, ?_⟩
            · rw [List.length_map, List.length_map, List.length_take, Array.length_toList]
              have : z.cps.size = z.length := rfl
              omega
            · rw [List.take_add_one, hc2, Option.toList_some, List.map_append, List.map_append]
              exact upd_same
          · obtain ⟨s24, hD24⟩ := q
            rw [List.take_of_length_le (by rw [Array.length_toList]; exact Nat.le_refl _)] at hD24
            refine ⟨_, D2, (z.cps.toList.map rd).map fun c => (⟨#[c]⟩ : Str), rfl, rfl, .inl (SqL.of (by rw [List.map_map]; exact hD24)), ?_, ?_⟩
            · rw [ones_len, List.length_map, List.length_map, Array.length_toList]
              have e : z.cps.size = z.length := rfl
              have e0 : (Str.ofString "").length = 0 := rfl
              rw [e0]
              omega
            · rw [show Txt.join (Str.ofString "") ((z.cps.toList.map rd).map fun c => (⟨#[c]⟩ : Str)) = otherS rd z from other_join rd z]
              refine ⟨_, s24 _ _ hD23, fewL (by rw [List.length_map, List.length_take]; show min _ 2 ≤ _; omega), ?_, upd_out hD (s23.trans s24)⟩
              rw [upd_same, List.take_add_one, zn, Option.toList_some, List.map_append]
              rfl
        · rintro H23 ⟨hD23, s23⟩
          have hD23 : H23 D = some (.lst [.str (otherS rd x), .str (otherS rd y)]) := hD23
          refine name_go ?_
          have ht23 := s23 _ _ ht22
          have rw23 := rw22.keep s23
          have P23 := P22.stay s23
          have ox := other_len (rd := rd) (x := x)
          have oy := other_len (rd := rd) (x := y)
          refine ⟨_, rfl, D, _, _, .str (otherS rd x), rfl, rfl, SqL.of hD23, Vk.at0, _, rfl, D, _, _, .str (otherS rd y), rfl, rfl, SqL.of hD23, Vk.at1, rfl, _, rfl, rfl, otherS rd x, otherS rd y, e, rfl, by omega, by omega, by omega, fun no => absurd (show x.length = 0 ∧ ¬ y.length = 0 from ⟨ox.symm.trans no.1, fun z => no.2 (oy.trans z)⟩) yes, fun _ t24 xs24 rs24 es24 H24 _ _ _ ht24 rw24 pt24 _ ln24 s24 => ?_⟩
          obtain ⟨cost24, l24⟩ := cost_parts pt24
          have w24 : ∀ r ∈ rs24, r.2.2.length ≤ 100 := fun r hr => Nat.le_trans (l24 r hr) (by omega)
          refine ⟨rfl, _, rfl, rfl, t24, ((e : Nat) : Int), xs24, rs24, rfl, ht24, rw24, by omega, w24, fun H25 s25 => ⟨_, rfl, rfl, _, rfl, ?_⟩⟩
          rw [cost24, kX_other rd2, hc, decide_eq_true rfl]
          refine iteF ?_
          have s2325 := s24.trans s25
          have ht25 := s2325 _ _ ht23
          have P25 := P23.stay s2325
          -- dearer parts
          refine ⟨_, rfl, _, rfl, rfl, _, rfl, _, _, rfl, rfl, rfl, x, y, e + 3, rfl, by omega, by omega, by omega, fun no => absurd no yes, fun _ t26 xs26 rs26 es26 H26 _ _ _ ht26 rw26 pt26 _ ln26 s26 => ?_⟩
          obtain ⟨cost26, l26⟩ := cost_parts pt26
          have w26 : ∀ r ∈ rs26, r.2.2.length ≤ 100 := fun r hr => Nat.le_trans (l26 r hr) (by omega)
          refine ⟨rfl, _, rfl, _, _, rfl, rfl, rfl, t26, (((e + 3 : Nat)) : Int), xs26, rs26, rfl, ht26, rw26, by omega, w26, fun H27 s27 => name_go ?_⟩
          rw [cost26]
          have s2527 := s26.trans s27
          have ht27 := s2527 _ _ ht25
          have P27 := P25.stay s2527
          have m1 := kX_more (x := x) (y := y) (e := e) (d := 3) yes
          have m2 := kX_most (d := 3) pt11
          rw [hc] at m1 m2
          generalize kX x y (e + 3) x.length y.length = c3 at m1 m2 ⊢
          have gx := paired_len rw11
          dsimp only
          refine ⟨_, rfl, _, rfl, _, _, rfl, rfl, _, rfl, ?_⟩
          rw [show decide (((c : Nat) : Int) ≤ ((c3 : Nat) : Int)) = true from decide_eq_true (by omega)]
          refine iteT ⟨_, rfl, _, rfl, _, _, rfl, .inr ⟨_, SqT.of ht27, rfl⟩, _, _, rfl, rfl, .inl ⟨by decide, by decide⟩, _, _, rfl, rfl, _, _, rfl, rfl, _, rfl, ?_⟩
          rw [show decide (((c3 : Nat) : Int) ≤ ((c : Nat) : Int) + 3 * ((xs.length : Nat) : Int)) = true from decide_eq_true (by omega)]
          exact iteF ⟨_, _, _, _, _, _, _, _, _, _, _, _, _, _, rfl, P27.mono (by omega)⟩
    · rintro σ H2 ⟨o2, o3, o4, o5, o6, o7, o8, o9, o10, o11, o12, o13, o14, o15, rfl, P2⟩
      refine ⟨"", "a", 0, rfl, by decide +kernel, by decide +kernel, by decide, fun _ => ⟨rfl, _, rfl, ?_⟩, fun yes => absurd ⟨rfl, by decide +kernel⟩ yes⟩
      rw [non_non]
      refine iteT ?_
      refine ⟨"", "", 0, rfl, by decide +kernel, by decide +kernel, by decide, fun no => absurd rfl no.2, fun _ t ga gf H3 ht gA gF s3 => ?_⟩
      obtain ⟨iv, fp⟩ := pri_told ht gA gF (by decide +kernel) (by decide +kernel) (by decide)
      refine ⟨"", "", 0, .ref t, 0, 200, rfl, iv, by decide, by decide +kernel, by decide +kernel, fun b H4 s4 hb => ?_⟩
      have e0 : kX "" "" 0 ("" : Str).length ("" : Str).length = 0 := kF_00
      rw [e0] at fp
      have bt : b = true := hb.mpr fp
      subst bt
      exact k _
end
end Vk
set_option Elab.async false
set_option maxRecDepth 100000
set_option maxHeartbeats 4000000
set_option linter.all false
namespace Vk
open PySem PySem.Spec PyProof.Rows L2 PySem.W
theorem walkX {l : PySem.W.OpenLaw} {n k : Nat} {q : Program} {loose : List Str} {XP : (Str → Option Value) → Heap → Prop} {YP : World → Heap → Prop} {d : DefRec} {K : Params → PySem.W.Frag} {CX : CXT} {sp : PySem.W.Frag → Sp} {x : Str}
    (hn : l.most = some n) (hn2 : n ≤ sizeLine) (hdf : d.params.defaults = []) (hr : Room k callerA) (hY : ∀ (w : World) (h : Heap), YP w h → (K w.params).In h)
    (F : ∀ (w : World) (mg : Str → Option Value) (fa : Addr) (h : Heap), (K w.params).In h → (∃ s0 mb, PySem.W.Ground q loose [] XP w s0 mg mb h) → mg d.name = some (.ref fa) →
      ∃ fd : FuncData, (∀ (s : Shared) (u : Value), BindsTo s fd ⟨[u], []⟩ [(x, u)]) ∧ ∀ base : Heap, (K w.params).In base → base.Ns mainGlobals mg → FnG l.prog w (K w.params) mg base CX k fa fd [x] (sp (K w.params)))
    (hsp : ∀ (K : PySem.W.Frag) (H : Hp) (a : Addr) (ns : List Int), ns.length ≤ n → Only H → SqL K H a (ns.map V.int) → sp K [.ref a] H (fun v _ => v = .bl true) fun _ _ _ => False)
    (noX : ∀ (H : Hp) (s : Shared) (e : Value) (s2 : Shared), CX [] H s (fun _ _ _ => False) e s2 → False) : PySem.W.WalkO q loose XP YP l.row.toRowW d [] (fun f vs => PySem.call f vs) := by
  refine Att.attach_call hn hdf ?_
  intro w s0 s1 mg mb fa o pm cd doc a vs ns G Y _ _ _ hmg scr hints hlen gens0
  obtain ⟨fd, hb, hF⟩ := F w mg fa _ (hY w _ Y) ⟨s0, mb, G⟩ hmg
  exact lawG (hY w _ Y) G.T.g G.T.b G.T.builtins G.T.nolimit gens0 scr hints (Nat.le_trans hlen hn2) hr hF hb (fun H h1 h2 => hsp _ H a ns hlen h1 h2) (fun H => noX H s1)
end Vk
set_option Elab.async false
set_option maxRecDepth 100000
set_option linter.all false
set_option maxHeartbeats 4000000
namespace Vk
open PySem PySem.Spec PyProof.Rows L2 LamX NdefX StX PySem.VkX
/-- a def with one value of its own for a parameter that is named -/
theorem fund_mk {K : PySem.W.Frag} {x y : Str} {st : Stmt} {f D : Addr} {oc : Value} {od an : Option Addr} {sl : Array (Option Value)} {doc pm cd ct : Value} {i : Int} {tk : Tok}
    (l : K.lookup f = some ⟨oc, od, .func (PySem.W.fnOf x x (defArgs st) (defBody st) (defScope st) .none (.ref D) doc pm an cd ct), sl⟩) (c : PySem.W.codeIn K cd x = true) (k : PySem.W.keepIn K (.ref f) = true)
    (e : PySem.W.nsIn K D y = some (some (.int i tk))) : L2.FunD K x x (defArgs st) (defBody st) (defScope st) [] [(y, .int i)] f (PySem.W.fnOf x x (defArgs st) (defBody st) (defScope st) .none (.ref D) doc pm an cd ct) :=
  ⟨⟨oc, od, .none, .ref D, doc, pm, an, cd, ct, sl, rfl, l, c, .inl ⟨rfl, rfl⟩, .inr ⟨D, rfl, fun q hq => by
    rw [List.mem_singleton.mp hq]
    exact ⟨_, e, tk, rfl⟩⟩⟩, k⟩
structure AtD (K : PySem.W.Frag) (x y : Str) (i : Int) (st : Stmt) (f : Addr) (fd : FuncData) : Prop where
  ns : PySem.W.nsIn K mainGlobals x = some (some (.ref f))
  fn : Fun K x x st f fd
  fd : L2.FunD K x x (defArgs st) (defBody st) (defScope st) [] [(y, .int i)] f fd
theorem atd_mk {K : PySem.W.Frag} {x y : Str} {st : Stmt} {f D : Addr} {oc : Value} {od an : Option Addr} {sl : Array (Option Value)} {doc pm cd ct : Value} {i : Int} {tk : Tok}
    (a : PySem.W.nsIn K mainGlobals x = some (some (.ref f)))
    (l : K.lookup f = some ⟨oc, od, .func (PySem.W.fnOf x x (defArgs st) (defBody st) (defScope st) .none (.ref D) doc pm an cd ct), sl⟩) (c : PySem.W.codeIn K cd x = true) (k : PySem.W.keepIn K (.ref f) = true)
    (e : PySem.W.nsIn K D y = some (some (.int i tk))) : AtD K x y i st f (PySem.W.fnOf x x (defArgs st) (defBody st) (defScope st) .none (.ref D) doc pm an cd ct) := ⟨a, L2.fun_mk l c k, fund_mk l c k e⟩
theorem all {l : PySem.W.OpenLaw} {w : World} {K : PySem.W.Frag} {h : Heap} {mg : Str → Option Value} {fa : Addr} (X : K.In h) (G : h.Ns mainGlobals mg) (hfa : mg "law" = some (.ref fa))
    (d_lsigns : ∃ (f : Addr) (fd : FuncData), At K "_law_signs" s_lsigns f fd)
    (d_stands_twice : ∃ (f : Addr) (fd : FuncData), At K "stands_twice" s_stands_twice f fd)
    (d_cost_of : ∃ (f : Addr) (fd : FuncData), At K "cost_of" s_cost_of f fd)
    (d_ldraw : ∃ (f : Addr) (fd : FuncData), At K "_law_draw" s_ldraw f fd)
    (d_lpen : ∃ (f : Addr) (fd : FuncData), At K "_law_pen" s_lpen f fd)
    (d_lpick : ∃ (f : Addr) (fd : FuncData), At K "_law_pick" s_lpick f fd)
    (d_lfew : ∃ (f : Addr) (fd : FuncData), At K "_law_few" s_lfew f fd)
    (d_lword : ∃ (f : Addr) (fd : FuncData), At K "_law_word" s_lword f fd)
    (d_lplaces : ∃ (f : Addr) (fd : FuncData), At K "_law_places" s_lplaces f fd)
    (d_lnonce : ∃ (f : Addr) (fd : FuncData), At K "_law_nonce" s_lnonce f fd)
    (d_least_ends : ∃ (f : Addr) (fd : FuncData), At K "least_ends" s_least_ends f fd)
    (d_openings : ∃ (f : Addr) (fd : FuncData), At K "openings" s_openings f fd)
    (d_price_tables : ∃ (f : Addr) (fd : FuncData), At K "price_tables" s_price_tables f fd)
    (d_window_back : ∃ (f : Addr) (fd : FuncData), At K "window_back" s_window_back f fd)
    (d_has_exchange : ∃ (f : Addr) (fd : FuncData), At K "has_exchange" s_has_exchange f fd)
    (d_cheapest : ∃ (f : Addr) (fd : FuncData), At K "cheapest" s_cheapest f fd)
    (d_is_integer : ∃ (f : Addr) (fd : FuncData), At K "is_integer" s_is_integer f fd)
    (d_is_grid : ∃ (f : Addr) (fd : FuncData), At K "is_grid" s_is_grid f fd)
    (d_lnis_grid : ∃ (f : Addr) (fd : FuncData), At K "_law_nis_grid" s_lnis_grid f fd)
    (d_prices : ∃ (f : Addr) (fd : FuncData), AtD K "prices" "each" 0 s_prices f fd)
    (d_steps_on : ∃ (f : Addr) (fd : FuncData), At K "steps_on" s_steps_on f fd)
    (d_is_prices : ∃ (f : Addr) (fd : FuncData), AtD K "is_prices" "each" 0 s_is_prices f fd)
    (d_lnends : ∃ (f : Addr) (fd : FuncData), At K "_law_nends" s_lnends f fd)
    (d_lnare_low : ∃ (f : Addr) (fd : FuncData), At K "_law_nare_low" s_lnare_low f fd)
    (d_lnis_prices : ∃ (f : Addr) (fd : FuncData), At K "_law_nis_prices" s_lnis_prices f fd)
    (d_lshuffled : ∃ (f : Addr) (fd : FuncData), At K "_law_shuffled" s_lshuffled f fd)
    (d_lntext : ∃ (f : Addr) (fd : FuncData), At K "_law_ntext" s_lntext f fd)
    (d_law : ∃ (f : Addr) (fd : FuncData), At K "law" s_law f fd)
    (z_str : PySem.W.nsIn K mainGlobals "str" = some none)
    (z_tuple : PySem.W.nsIn K mainGlobals "tuple" = some none)
    (z_enumerate : PySem.W.nsIn K mainGlobals "enumerate" = some none)
    (z_bool : PySem.W.nsIn K mainGlobals "bool" = some none)
    (z_sum : PySem.W.nsIn K mainGlobals "sum" = some none)
    (z_max : PySem.W.nsIn K mainGlobals "max" = some none)
    (z_ValueError : PySem.W.nsIn K mainGlobals "ValueError" = some none)
    (z_len : PySem.W.nsIn K mainGlobals "len" = some none)
    (z_list : PySem.W.nsIn K mainGlobals "list" = some none)
    (z_int : PySem.W.nsIn K mainGlobals "int" = some none)
    (z_abs : PySem.W.nsIn K mainGlobals "abs" = some none)
    (z_range : PySem.W.nsIn K mainGlobals "range" = some none)
    (z_min : PySem.W.nsIn K mainGlobals "min" = some none)
    (z_repr : PySem.W.nsIn K mainGlobals "repr" = some none)
    (z_all : PySem.W.nsIn K mainGlobals "all" = some none)
    (z_sorted : PySem.W.nsIn K mainGlobals "sorted" = some none)
    (z_set : PySem.W.nsIn K mainGlobals "set" = some none)
    (z_dict : PySem.W.nsIn K mainGlobals "dict" = some none)
    (z_zip : PySem.W.nsIn K mainGlobals "zip" = some none)
    (z_reversed : PySem.W.nsIn K mainGlobals "reversed" = some none)
    (z_isinstance : PySem.W.nsIn K mainGlobals "isinstance" = some none)
    : ∃ (fd : FuncData), (∀ (s : Shared) (v : Value), BindsTo s fd ⟨[v], []⟩ [("_law_script", v)]) ∧ ∀ base : Heap, K.In base → base.Ns mainGlobals mg → FnG l.prog w K mg base CX0 6 fa fd ["_law_script"] (spLaw K) := by
  obtain ⟨f_lsigns, fd_lsigns, A_lsigns⟩ := d_lsigns
  have m_lsigns := PySem.W.mg_of X G A_lsigns.ns
  obtain ⟨f_stands_twice, fd_stands_twice, A_stands_twice⟩ := d_stands_twice
  have m_stands_twice := PySem.W.mg_of X G A_stands_twice.ns
  obtain ⟨f_cost_of, fd_cost_of, A_cost_of⟩ := d_cost_of
  have m_cost_of := PySem.W.mg_of X G A_cost_of.ns
  obtain ⟨f_ldraw, fd_ldraw, A_ldraw⟩ := d_ldraw
  have m_ldraw := PySem.W.mg_of X G A_ldraw.ns
  obtain ⟨f_lpen, fd_lpen, A_lpen⟩ := d_lpen
  have m_lpen := PySem.W.mg_of X G A_lpen.ns
  obtain ⟨f_lpick, fd_lpick, A_lpick⟩ := d_lpick
  have m_lpick := PySem.W.mg_of X G A_lpick.ns
  obtain ⟨f_lfew, fd_lfew, A_lfew⟩ := d_lfew
  have m_lfew := PySem.W.mg_of X G A_lfew.ns
  obtain ⟨f_lword, fd_lword, A_lword⟩ := d_lword
  have m_lword := PySem.W.mg_of X G A_lword.ns
  obtain ⟨f_lplaces, fd_lplaces, A_lplaces⟩ := d_lplaces
  have m_lplaces := PySem.W.mg_of X G A_lplaces.ns
  obtain ⟨f_lnonce, fd_lnonce, A_lnonce⟩ := d_lnonce
  have m_lnonce := PySem.W.mg_of X G A_lnonce.ns
  obtain ⟨f_least_ends, fd_least_ends, A_least_ends⟩ := d_least_ends
  have m_least_ends := PySem.W.mg_of X G A_least_ends.ns
  obtain ⟨f_openings, fd_openings, A_openings⟩ := d_openings
  have m_openings := PySem.W.mg_of X G A_openings.ns
  obtain ⟨f_price_tables, fd_price_tables, A_price_tables⟩ := d_price_tables
  have m_price_tables := PySem.W.mg_of X G A_price_tables.ns
  obtain ⟨f_window_back, fd_window_back, A_window_back⟩ := d_window_back
  have m_window_back := PySem.W.mg_of X G A_window_back.ns
  obtain ⟨f_has_exchange, fd_has_exchange, A_has_exchange⟩ := d_has_exchange
  have m_has_exchange := PySem.W.mg_of X G A_has_exchange.ns
  obtain ⟨f_cheapest, fd_cheapest, A_cheapest⟩ := d_cheapest
  have m_cheapest := PySem.W.mg_of X G A_cheapest.ns
  obtain ⟨f_is_integer, fd_is_integer, A_is_integer⟩ := d_is_integer
  have m_is_integer := PySem.W.mg_of X G A_is_integer.ns
  obtain ⟨f_is_grid, fd_is_grid, A_is_grid⟩ := d_is_grid
  have m_is_grid := PySem.W.mg_of X G A_is_grid.ns
  obtain ⟨f_lnis_grid, fd_lnis_grid, A_lnis_grid⟩ := d_lnis_grid
  have m_lnis_grid := PySem.W.mg_of X G A_lnis_grid.ns
  obtain ⟨f_prices, fd_prices, A_prices⟩ := d_prices
  have m_prices := PySem.W.mg_of X G A_prices.ns
  obtain ⟨f_steps_on, fd_steps_on, A_steps_on⟩ := d_steps_on
  have m_steps_on := PySem.W.mg_of X G A_steps_on.ns
  obtain ⟨f_is_prices, fd_is_prices, A_is_prices⟩ := d_is_prices
  have m_is_prices := PySem.W.mg_of X G A_is_prices.ns
  obtain ⟨f_lnends, fd_lnends, A_lnends⟩ := d_lnends
  have m_lnends := PySem.W.mg_of X G A_lnends.ns
  obtain ⟨f_lnare_low, fd_lnare_low, A_lnare_low⟩ := d_lnare_low
  have m_lnare_low := PySem.W.mg_of X G A_lnare_low.ns
  obtain ⟨f_lnis_prices, fd_lnis_prices, A_lnis_prices⟩ := d_lnis_prices
  have m_lnis_prices := PySem.W.mg_of X G A_lnis_prices.ns
  obtain ⟨f_lshuffled, fd_lshuffled, A_lshuffled⟩ := d_lshuffled
  have m_lshuffled := PySem.W.mg_of X G A_lshuffled.ns
  obtain ⟨f_lntext, fd_lntext, A_lntext⟩ := d_lntext
  have m_lntext := PySem.W.mg_of X G A_lntext.ns
  obtain ⟨f_law, fd_law, A_law⟩ := d_law
  have m_law := PySem.W.mg_of X G A_law.ns
  have e := hfa.symm.trans m_law
  cases e
  have T : Txt mg := ⟨PySem.W.mg_none_of X G z_str, PySem.W.mg_none_of X G z_tuple, PySem.W.mg_none_of X G z_enumerate, PySem.W.mg_none_of X G z_bool, PySem.W.mg_none_of X G z_sum, PySem.W.mg_none_of X G z_max, PySem.W.mg_none_of X G z_ValueError, PySem.W.mg_none_of X G z_len, PySem.W.mg_none_of X G z_list, PySem.W.mg_none_of X G z_int, PySem.W.mg_none_of X G z_abs, PySem.W.mg_none_of X G z_range, PySem.W.mg_none_of X G z_min, PySem.W.mg_none_of X G z_repr, PySem.W.mg_none_of X G z_all, PySem.W.mg_none_of X G z_sorted, PySem.W.mg_none_of X G z_set, PySem.W.mg_none_of X G z_dict, PySem.W.mg_none_of X G z_zip, PySem.W.mg_none_of X G z_reversed, PySem.W.mg_none_of X G z_isinstance⟩
  have bd_lsigns : Binds K fd_lsigns [] [] := A_lsigns.fn.binds (ps := []) fun _ _ _ _ _ _ us hl => match us, hl with | [], _ => rfl
  have bd_stands_twice : Binds K fd_stands_twice ["text", "word"] [] := A_stands_twice.fn.binds (ps := ["text", "word"]) fun _ _ _ _ _ _ us hl => match us, hl with | [_, _], _ => rfl
  have bd_ldraw : Binds K fd_ldraw ["_law_pen_here", "_law_many"] [] := A_ldraw.fn.binds (ps := ["_law_pen_here", "_law_many"]) fun _ _ _ _ _ _ us hl => match us, hl with | [_, _], _ => rfl
  have bd_lpen : Binds K fd_lpen ["_law_script"] [] := A_lpen.fn.binds (ps := ["_law_script"]) fun _ _ _ _ _ _ us hl => match us, hl with | [_], _ => rfl
  have bd_lpick : Binds K fd_lpick ["_law_pen_here", "_law_options"] [] := A_lpick.fn.binds (ps := ["_law_pen_here", "_law_options"]) fun _ _ _ _ _ _ us hl => match us, hl with | [_, _], _ => rfl
  have bd_lfew : Binds K fd_lfew ["_law_pen_here"] [] := A_lfew.fn.binds (ps := ["_law_pen_here"]) fun _ _ _ _ _ _ us hl => match us, hl with | [_], _ => rfl
  have bd_lword : Binds K fd_lword ["_law_pen_here", "_law_signs_here", "_law_least", "_law_most_letters"] [] := A_lword.fn.binds (ps := ["_law_pen_here", "_law_signs_here", "_law_least", "_law_most_letters"]) fun _ _ _ _ _ _ us hl => match us, hl with | [_, _, _, _], _ => rfl
  have bd_lplaces : Binds K fd_lplaces ["_law_text_here", "_law_was"] [] := A_lplaces.fn.binds (ps := ["_law_text_here", "_law_was"]) fun _ _ _ _ _ _ us hl => match us, hl with | [_, _], _ => rfl
  have bd_lnonce : Binds K fd_lnonce ["_law_text_here", "_law_a", "_law_b"] [] := A_lnonce.fn.binds (ps := ["_law_text_here", "_law_a", "_law_b"]) fun _ _ _ _ _ _ us hl => match us, hl with | [_, _, _], _ => rfl
  have bd_least_ends : Binds K fd_least_ends ["text"] [] := A_least_ends.fn.binds (ps := ["text"]) fun _ _ _ _ _ _ us hl => match us, hl with | [_], _ => rfl
  have bd_openings : Binds K fd_openings ["text"] [] := A_openings.fn.binds (ps := ["text"]) fun _ _ _ _ _ _ us hl => match us, hl with | [_], _ => rfl
  have bd_price_tables : Binds K fd_price_tables ["one", "other", "each"] [] := A_price_tables.fn.binds (ps := ["one", "other", "each"]) fun _ _ _ _ _ _ us hl => match us, hl with | [_, _, _], _ => rfl
  have bd_window_back : Binds K fd_window_back ["begun", "begins", "kept", "i", "j", "each"] [] := A_window_back.fn.binds (ps := ["begun", "begins", "kept", "i", "j", "each"]) fun _ _ _ _ _ _ us hl => match us, hl with | [_, _, _, _, _, _], _ => rfl
  have bd_has_exchange : Binds K fd_has_exchange ["one", "other"] [] := A_has_exchange.fn.binds (ps := ["one", "other"]) fun _ _ _ _ _ _ us hl => match us, hl with | [_, _], _ => rfl
  have bd_is_integer : Binds K fd_is_integer ["value"] [] := A_is_integer.fn.binds (ps := ["value"]) fun _ _ _ _ _ _ us hl => match us, hl with | [_], _ => rfl
  have bd_is_grid : Binds K fd_is_grid ["value", "height", "width"] [] := A_is_grid.fn.binds (ps := ["value", "height", "width"]) fun _ _ _ _ _ _ us hl => match us, hl with | [_, _, _], _ => rfl
  have bd_lnis_grid : Binds K fd_lnis_grid ["_law_thing", "_law_size", "_law_many"] [] := A_lnis_grid.fn.binds (ps := ["_law_thing", "_law_size", "_law_many"]) fun _ _ _ _ _ _ us hl => match us, hl with | [_, _, _], _ => rfl
  have bd_steps_on : Binds K fd_steps_on ["one", "other", "each"] [] := A_steps_on.fn.binds (ps := ["one", "other", "each"]) fun _ _ _ _ _ _ us hl => match us, hl with | [_, _, _], _ => rfl
  have bd_lnends : Binds K fd_lnends ["_law_here"] [] := A_lnends.fn.binds (ps := ["_law_here"]) fun _ _ _ _ _ _ us hl => match us, hl with | [_], _ => rfl
  have bd_lnare_low : Binds K fd_lnare_low ["_law_left", "_law_right", "_law_extra", "_law_kept", "_law_free"] [] := A_lnare_low.fn.binds (ps := ["_law_left", "_law_right", "_law_extra", "_law_kept", "_law_free"]) fun _ _ _ _ _ _ us hl => match us, hl with | [_, _, _, _, _], _ => rfl
  have bd_lnis_prices : Binds K fd_lnis_prices ["_law_left", "_law_right", "_law_total", "_law_extra", "_law_thing"] [] := A_lnis_prices.fn.binds (ps := ["_law_left", "_law_right", "_law_total", "_law_extra", "_law_thing"]) fun _ _ _ _ _ _ us hl => match us, hl with | [_, _, _, _, _], _ => rfl
  have bd_lshuffled : Binds K fd_lshuffled ["_law_pen_here", "_law_items"] [] := A_lshuffled.fn.binds (ps := ["_law_pen_here", "_law_items"]) fun _ _ _ _ _ _ us hl => match us, hl with | [_, _], _ => rfl
  have bd_lntext : Binds K fd_lntext ["_law_pen_here", "_law_signs_here", "_law_most_letters"] [] := A_lntext.fn.binds (ps := ["_law_pen_here", "_law_signs_here", "_law_most_letters"]) fun _ _ _ _ _ _ us hl => match us, hl with | [_, _, _], _ => rfl
  refine ⟨fd_law, fun s v => A_law.fn.binds1 rfl s v, fun base _ _ => ?_⟩
  have t_signs : FnT l.prog w K mg base 1 "_law_signs" letS := okT A_lsigns.fn sc_lsigns m_lsigns bd_lsigns rfl
  have c_lsigns : CalG l.prog w K mg base CX0 1 "_law_signs" spSigns := ⟨f_lsigns, fd_lsigns, _, b_lsigns A_lsigns.fn T, m_lsigns, A_lsigns.fn.kp, bd_lsigns⟩
  have c_stands_twice : CalG l.prog w K mg base CX0 1 "stands_twice" spTwice := ⟨f_stands_twice, fd_stands_twice, _, b_stands_twice A_stands_twice.fn T, m_stands_twice, A_stands_twice.fn.kp, bd_stands_twice⟩
  have c_ldraw : CalG l.prog w K mg base CX0 1 "_law_draw" spDraw := ⟨f_ldraw, fd_ldraw, _, b_ldraw A_ldraw.fn T, m_ldraw, A_ldraw.fn.kp, bd_ldraw⟩
  have c_lpen : CalG l.prog w K mg base CX0 1 "_law_pen" (spPen K) := ⟨f_lpen, fd_lpen, _, b_lpen A_lpen.fn T, m_lpen, A_lpen.fn.kp, bd_lpen⟩
  have c_lpick : CalG l.prog w K mg base CX0 2 "_law_pick" (spPick K) := ⟨f_lpick, fd_lpick, _, b_lpick A_lpick.fn T c_ldraw, m_lpick, A_lpick.fn.kp, bd_lpick⟩
  have c_lfew : CalG l.prog w K mg base CX0 3 "_law_few" spFew := ⟨f_lfew, fd_lfew, _, b_lfew A_lfew.fn T c_lpick t_signs, m_lfew, A_lfew.fn.kp, bd_lfew⟩
  have c_lword : CalG l.prog w K mg base CX0 3 "_law_word" spWord := ⟨f_lword, fd_lword, _, b_lword A_lword.fn T c_ldraw c_lpick, m_lword, A_lword.fn.kp, bd_lword⟩
  have c_lplaces : CalG l.prog w K mg base CX0 1 "_law_places" (spPlaces K) := ⟨f_lplaces, fd_lplaces, _, b_lplaces A_lplaces.fn T, m_lplaces, A_lplaces.fn.kp, bd_lplaces⟩
  have c_lnonce : CalG l.prog w K mg base CX0 2 "_law_nonce" spNonce := ⟨f_lnonce, fd_lnonce, _, b_lnonce A_lnonce.fn T c_lplaces, m_lnonce, A_lnonce.fn.kp, bd_lnonce⟩
  have c_least_ends : CalG l.prog w K mg base CX0 2 "least_ends" spEnds := ⟨f_least_ends, fd_least_ends, _, b_least_ends A_least_ends.fn T c_stands_twice, m_least_ends, A_least_ends.fn.kp, bd_least_ends⟩
  have c_openings : CalG l.prog w K mg base CX0 3 "openings" spOpen := ⟨f_openings, fd_openings, _, b_openings A_openings.fn T c_least_ends, m_openings, A_openings.fn.kp, bd_openings⟩
  have c_price_tables : CalG l.prog w K mg base CX0 4 "price_tables" spPrices := ⟨f_price_tables, fd_price_tables, _, b_price_tables A_price_tables.fn T c_openings, m_price_tables, A_price_tables.fn.kp, bd_price_tables⟩
  have c_window_back : CalG l.prog w K mg base CX0 1 "window_back" spWB := ⟨f_window_back, fd_window_back, _, b_window_back A_window_back.fn T, m_window_back, A_window_back.fn.kp, bd_window_back⟩
  have c_has_exchange : CalG l.prog w K mg base CX0 1 "has_exchange" spHas := ⟨f_has_exchange, fd_has_exchange, _, b_has_exchange A_has_exchange.fn T, m_has_exchange, A_has_exchange.fn.kp, bd_has_exchange⟩
  have c_is_integer : CalG l.prog w K mg base CX0 1 "is_integer" spIsIntV := ⟨f_is_integer, fd_is_integer, _, b_is_integerV A_is_integer.fn T, m_is_integer, A_is_integer.fn.kp, bd_is_integer⟩
  have c_is_grid : CalG l.prog w K mg base CX0 2 "is_grid" spGridG := ⟨f_is_grid, fd_is_grid, _, b_is_grid A_is_grid.fn T c_is_integer, m_is_grid, A_is_grid.fn.kp, bd_is_grid⟩
  have c_lnis_grid : CalG l.prog w K mg base CX0 1 "_law_nis_grid" spGridG := ⟨f_lnis_grid, fd_lnis_grid, _, b_lnis_grid A_lnis_grid.fn T, m_lnis_grid, A_lnis_grid.fn.kp, bd_lnis_grid⟩
  have c_steps_on : CalG l.prog w K mg base CX0 3 "steps_on" spSteps := ⟨f_steps_on, fd_steps_on, _, b_steps_on A_steps_on.fn T c_least_ends, m_steps_on, A_steps_on.fn.kp, bd_steps_on⟩
  have c_lnends : CalG l.prog w K mg base CX0 3 "_law_nends" spNends := ⟨f_lnends, fd_lnends, _, b_lnends A_lnends.fn T c_lnonce, m_lnends, A_lnends.fn.kp, bd_lnends⟩
  have c_lnare_low : CalG l.prog w K mg base CX0 4 "_law_nare_low" spLow := ⟨f_lnare_low, fd_lnare_low, _, b_lnare_low A_lnare_low.fn T c_lnends, m_lnare_low, A_lnare_low.fn.kp, bd_lnare_low⟩
  have c_lnis_prices : CalG l.prog w K mg base CX0 5 "_law_nis_prices" spNisPr := ⟨f_lnis_prices, fd_lnis_prices, _, b_lnis_prices A_lnis_prices.fn T c_lnis_grid c_lnare_low, m_lnis_prices, A_lnis_prices.fn.kp, bd_lnis_prices⟩
  have c_lshuffled : CalG l.prog w K mg base CX0 2 "_law_shuffled" spShufS := ⟨f_lshuffled, fd_lshuffled, _, b_lshuffledS A_lshuffled.fn T c_ldraw, m_lshuffled, A_lshuffled.fn.kp, bd_lshuffled⟩
  have c_lntext : CalG l.prog w K mg base CX0 4 "_law_ntext" spNtextZ := ⟨f_lntext, fd_lntext, _, b_lntextZ A_lntext.fn T c_ldraw c_lpick c_lword, m_lntext, A_lntext.fn.kp, bd_lntext⟩
  have k_prices : CalK l.prog w K mg base CX0 5 "prices" spPri ["each", "other", "one"] List.reverse := ⟨f_prices, fd_prices, ["one", "other", "each"], b_prices A_prices.fn T c_price_tables c_has_exchange, m_prices, A_prices.fn.kp, A_prices.fn.kwb fun _ _ _ _ _ _ us hl => match us, hl with | [_, _, _], _ => rfl, fun _ _ r _ => vals_rev r⟩
  have k_is_prices : CalK l.prog w K mg base CX0 4 "is_prices" spIsPr ["each", "value", "number", "other", "one"] List.reverse := ⟨f_is_prices, fd_is_prices, ["one", "other", "number", "value", "each"], b_is_prices A_is_prices.fn T c_is_grid c_steps_on, m_is_prices, A_is_prices.fn.kp, A_is_prices.fn.kwb fun _ _ _ _ _ _ us hl => match us, hl with | [_, _, _, _, _], _ => rfl, fun _ _ r _ => vals_rev r⟩
  have bd0_prices : ∃ ds, Vals [V.int 0] ds ∧ Binds K fd_prices ["one", "other", "each"] ds := A_prices.fd.binds0 (ps := ["one", "other", "each"]) 2 (fun z => nomatch z) rfl fun D doc pm an cdv ct us ks h1 h2 => match us, ks, h1, h2 with
    | [u0, u1], [v], _, _ => ⟨_, _, _, _, _, _, rfl, rfl, rfl⟩
  obtain ⟨ds_prices, rd_prices, bd0_prices⟩ := bd0_prices
  have d_prices : CalD l.prog w K mg base CX0 5 "prices" spPri [.int 0] := ⟨f_prices, fd_prices, _, ds_prices, b_prices A_prices.fn T c_price_tables c_has_exchange, m_prices, A_prices.fn.kp, rd_prices, bd0_prices⟩
  have bd0_is_prices : ∃ ds, Vals [V.int 0] ds ∧ Binds K fd_is_prices ["one", "other", "number", "value", "each"] ds := A_is_prices.fd.binds0 (ps := ["one", "other", "number", "value", "each"]) 4 (fun z => nomatch z) rfl fun D doc pm an cdv ct us ks h1 h2 => match us, ks, h1, h2 with
    | [u0, u1, u2, u3], [v], _, _ => ⟨_, _, _, _, _, _, rfl, rfl, rfl⟩
  obtain ⟨ds_is_prices, rd_is_prices, bd0_is_prices⟩ := bd0_is_prices
  have d_is_prices : CalD l.prog w K mg base CX0 4 "is_prices" spIsPr [.int 0] := ⟨f_is_prices, fd_is_prices, _, ds_is_prices, b_is_prices A_is_prices.fn T c_is_grid c_steps_on, m_is_prices, A_is_prices.fn.kp, rd_is_prices, bd0_is_prices⟩
  have q_cheapest : CalM l.prog w K mg base CX0 5 "cheapest" spCheap 2 ["each"] := ⟨f_cheapest, fd_cheapest, ["one", "other", "each"], b_cheapest A_cheapest.fn T c_openings c_price_tables c_window_back c_has_exchange, m_cheapest, A_cheapest.fn.kp, A_cheapest.fn.kwm fun _ _ _ _ _ _ us ws h1 h2 => match us, ws, h1, h2 with | [_, _], [_], _, _ => rfl⟩
  have q_cost_of : CalM l.prog w K mg base CX0 1 "cost_of" spCost 1 ["each"] := ⟨f_cost_of, fd_cost_of, ["exchange", "each"], b_cost_of A_cost_of.fn T , m_cost_of, A_cost_of.fn.kp, A_cost_of.fn.kwm fun _ _ _ _ _ _ us ws h1 h2 => match us, ws, h1, h2 with | [_], [_], _, _ => rfl⟩
  have q_is_prices : CalM l.prog w K mg base CX0 4 "is_prices" spIsPr 4 ["each"] := ⟨f_is_prices, fd_is_prices, ["one", "other", "number", "value", "each"], b_is_prices A_is_prices.fn T c_is_grid c_steps_on, m_is_prices, A_is_prices.fn.kp, A_is_prices.fn.kwm fun _ _ _ _ _ _ us ws h1 h2 => match us, ws, h1, h2 with | [_, _, _, _], [_], _, _ => rfl⟩
  exact b_law A_law.fn T c_lpen c_lfew c_ldraw c_lpick c_lword c_lntext c_lshuffled c_lnis_prices q_cheapest k_prices d_prices q_cost_of q_is_prices k_is_prices d_is_prices
end Vk
set_option Elab.async false
set_option maxRecDepth 100000
set_option linter.all false
open PySem PySem.W PyProof.Rows
set_option maxRecDepth 100000 in
set_option maxHeartbeats 0 in
theorem PySem.Challenge.cw_anchoredits_k63_whole_prices_and_cheapes_holds : PySem.Challenge.rw_anchoredits_k63_whole_prices_and_cheapes.Holds := by
  w_on; o_law; k_headL; (case hw => w_witness2)
  k_fill
  refine Vk.walkX (l := PySem.Challenge.rw_anchoredits_k63_whole_prices_and_cheapes) (n := 63) (k := 6) (x := "_law_script") (CX := L2.CX0) (sp := Vk.spLaw) rfl (by decide) rfl ⟨rfl, by decide, by decide⟩ (fun w h Y => PySem.W.kIn_of Y) ?F (fun K H a ns hl _ hS => ⟨a, ns, rfl, hS, hl, fun _ => rfl⟩) (fun _ _ _ _ z => z)
  case F =>
    intro w mg fa h KX Gr hmg
    obtain ⟨s0, mb, Gr⟩ := Gr
    refine' Vk.all KX Gr.T.g hmg ?d_lsigns ?d_stands_twice ?d_cost_of ?d_ldraw ?d_lpen ?d_lpick ?d_lfew ?d_lword ?d_lplaces ?d_lnonce ?d_least_ends ?d_openings ?d_price_tables ?d_window_back ?d_has_exchange ?d_cheapest ?d_is_integer ?d_is_grid ?d_lnis_grid ?d_prices ?d_steps_on ?d_is_prices ?d_lnends ?d_lnare_low ?d_lnis_prices ?d_lshuffled ?d_lntext ?d_law ?z_str ?z_tuple ?z_enumerate ?z_bool ?z_sum ?z_max ?z_ValueError ?z_len ?z_list ?z_int ?z_abs ?z_range ?z_min ?z_repr ?z_all ?z_sorted ?z_set ?z_dict ?z_zip ?z_reversed ?z_isinstance
    (case d_lsigns => as_aux_lemma => (refine' ⟨_, _, Vk.at_mk ?a ?l ?c ?k⟩; (case a => k_is); (case l => k_is); (case c => k_is); (case k => k_is)))
    (case d_stands_twice => as_aux_lemma => (refine' ⟨_, _, Vk.at_mk ?a ?l ?c ?k⟩; (case a => k_is); (case l => k_is); (case c => k_is); (case k => k_is)))
    (case d_cost_of => as_aux_lemma => (refine' ⟨_, _, Vk.at_mk ?a ?l ?c ?k⟩; (case a => k_is); (case l => k_is); (case c => k_is); (case k => k_is)))
    (case d_ldraw => as_aux_lemma => (refine' ⟨_, _, Vk.at_mk ?a ?l ?c ?k⟩; (case a => k_is); (case l => k_is); (case c => k_is); (case k => k_is)))
    (case d_lpen => as_aux_lemma => (refine' ⟨_, _, Vk.at_mk ?a ?l ?c ?k⟩; (case a => k_is); (case l => k_is); (case c => k_is); (case k => k_is)))
    (case d_lpick => as_aux_lemma => (refine' ⟨_, _, Vk.at_mk ?a ?l ?c ?k⟩; (case a => k_is); (case l => k_is); (case c => k_is); (case k => k_is)))
    (case d_lfew => as_aux_lemma => (refine' ⟨_, _, Vk.at_mk ?a ?l ?c ?k⟩; (case a => k_is); (case l => k_is); (case c => k_is); (case k => k_is)))
    (case d_lword => as_aux_lemma => (refine' ⟨_, _, Vk.at_mk ?a ?l ?c ?k⟩; (case a => k_is); (case l => k_is); (case c => k_is); (case k => k_is)))
    (case d_lplaces => as_aux_lemma => (refine' ⟨_, _, Vk.at_mk ?a ?l ?c ?k⟩; (case a => k_is); (case l => k_is); (case c => k_is); (case k => k_is)))
    (case d_lnonce => as_aux_lemma => (refine' ⟨_, _, Vk.at_mk ?a ?l ?c ?k⟩; (case a => k_is); (case l => k_is); (case c => k_is); (case k => k_is)))
    (case d_least_ends => as_aux_lemma => (refine' ⟨_, _, Vk.at_mk ?a ?l ?c ?k⟩; (case a => k_is); (case l => k_is); (case c => k_is); (case k => k_is)))
    (case d_openings => as_aux_lemma => (refine' ⟨_, _, Vk.at_mk ?a ?l ?c ?k⟩; (case a => k_is); (case l => k_is); (case c => k_is); (case k => k_is)))
    (case d_price_tables => as_aux_lemma => (refine' ⟨_, _, Vk.at_mk ?a ?l ?c ?k⟩; (case a => k_is); (case l => k_is); (case c => k_is); (case k => k_is)))
    (case d_window_back => as_aux_lemma => (refine' ⟨_, _, Vk.at_mk ?a ?l ?c ?k⟩; (case a => k_is); (case l => k_is); (case c => k_is); (case k => k_is)))
    (case d_has_exchange => as_aux_lemma => (refine' ⟨_, _, Vk.at_mk ?a ?l ?c ?k⟩; (case a => k_is); (case l => k_is); (case c => k_is); (case k => k_is)))
    (case d_cheapest => as_aux_lemma => (refine' ⟨_, _, Vk.at_mk ?a ?l ?c ?k⟩; (case a => k_is); (case l => k_is); (case c => k_is); (case k => k_is)))
    (case d_is_integer => as_aux_lemma => (refine' ⟨_, _, Vk.at_mk ?a ?l ?c ?k⟩; (case a => k_is); (case l => k_is); (case c => k_is); (case k => k_is)))
    (case d_is_grid => as_aux_lemma => (refine' ⟨_, _, Vk.at_mk ?a ?l ?c ?k⟩; (case a => k_is); (case l => k_is); (case c => k_is); (case k => k_is)))
    (case d_lnis_grid => as_aux_lemma => (refine' ⟨_, _, Vk.at_mk ?a ?l ?c ?k⟩; (case a => k_is); (case l => k_is); (case c => k_is); (case k => k_is)))
    (case d_prices => as_aux_lemma => (refine' ⟨_, _, Vk.atd_mk ?a ?l ?c ?k ?e⟩; (case a => k_is); (case l => k_is); (case c => k_is); (case k => k_is); (case e => k_is)))
    (case d_steps_on => as_aux_lemma => (refine' ⟨_, _, Vk.at_mk ?a ?l ?c ?k⟩; (case a => k_is); (case l => k_is); (case c => k_is); (case k => k_is)))
    (case d_is_prices => as_aux_lemma => (refine' ⟨_, _, Vk.atd_mk ?a ?l ?c ?k ?e⟩; (case a => k_is); (case l => k_is); (case c => k_is); (case k => k_is); (case e => k_is)))
    (case d_lnends => as_aux_lemma => (refine' ⟨_, _, Vk.at_mk ?a ?l ?c ?k⟩; (case a => k_is); (case l => k_is); (case c => k_is); (case k => k_is)))
    (case d_lnare_low => as_aux_lemma => (refine' ⟨_, _, Vk.at_mk ?a ?l ?c ?k⟩; (case a => k_is); (case l => k_is); (case c => k_is); (case k => k_is)))
    (case d_lnis_prices => as_aux_lemma => (refine' ⟨_, _, Vk.at_mk ?a ?l ?c ?k⟩; (case a => k_is); (case l => k_is); (case c => k_is); (case k => k_is)))
    (case d_lshuffled => as_aux_lemma => (refine' ⟨_, _, Vk.at_mk ?a ?l ?c ?k⟩; (case a => k_is); (case l => k_is); (case c => k_is); (case k => k_is)))
    (case d_lntext => as_aux_lemma => (refine' ⟨_, _, Vk.at_mk ?a ?l ?c ?k⟩; (case a => k_is); (case l => k_is); (case c => k_is); (case k => k_is)))
    (case d_law => as_aux_lemma => (refine' ⟨_, _, Vk.at_mk ?a ?l ?c ?k⟩; (case a => k_is); (case l => k_is); (case c => k_is); (case k => k_is)))
    (case z_str => as_aux_lemma => k_is)
    (case z_tuple => as_aux_lemma => k_is)
    (case z_enumerate => as_aux_lemma => k_is)
    (case z_bool => as_aux_lemma => k_is)
    (case z_sum => as_aux_lemma => k_is)
    (case z_max => as_aux_lemma => k_is)
    (case z_ValueError => as_aux_lemma => k_is)
    (case z_len => as_aux_lemma => k_is)
    (case z_list => as_aux_lemma => k_is)
    (case z_int => as_aux_lemma => k_is)
    (case z_abs => as_aux_lemma => k_is)
    (case z_range => as_aux_lemma => k_is)
    (case z_min => as_aux_lemma => k_is)
    (case z_repr => as_aux_lemma => k_is)
    (case z_all => as_aux_lemma => k_is)
    (case z_sorted => as_aux_lemma => k_is)
    (case z_set => as_aux_lemma => k_is)
    (case z_dict => as_aux_lemma => k_is)
    (case z_zip => as_aux_lemma => k_is)
    (case z_reversed => as_aux_lemma => k_is)
    (case z_isinstance => as_aux_lemma => k_is)
#print axioms PySem.Challenge.cw_anchoredits_k63_whole_prices_and_cheapes_holds
