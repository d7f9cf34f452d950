import PyProof.Rows.All
import Wide.All
import OpenK.AllK
import Wide.FinOn
import KE.OsRunLaw
import PySem.Challenge.RW_anchoredits_k50_whole_windows_turned_and
import HandS.Base
import HandS.Call
import HandS.List
import HandS.Comp
import HandS.Ends
import HandS.Text
import HandS.Words
import HandS.StrMore
import HandS.ForMost
import HandS.Codes
import HandS.Replace
import HandS.FStrTup
import PyProof.StrBlock2
import HandS.Exc
import HandS.ExcInit
import HandS.ExcIs
import HandS.ExcField
import KE.KExcIs
import HandS.IsInst
import HandS.Zip
import HandS.Nested
import HandS.OwnEq
import HandS.More
import HandS.Star
import HandS.ClsMeth
import HandS.Property
import HandS.Iter
import HandS.Zip0
import KE.GoesMore
import KE.GoesEnum
import HandS.NoneIn
import PyProof.StrLawsRepr
import HandS.EndTab
import HandS.ListEq
import KE.LtData
import KE.KTryMore
import KE.KRevSl
import HandS.Style
import HandS.TupAny
import HandS.DictComp
import HandS.RevRange
import HandS.Conv
import PyProof.EnumMake
import KE.DataMinKey
import HandS.SortKw
import KE.DataMinMax
import HandS.Flt
import HandS.FltList
import PyProof.NeKinds
import PyProof.ListStr
import PyProof.CollectStr
import HandS.Strs
import HandS.ExcValue
import PyProof.Rows.SortShellAny
import HandS.SetFor
import HandS.Dict
import KE.KDictZip
import KE.KTurns
import HandS.TupSets
set_option Elab.async false
set_option maxRecDepth 100000
set_option linter.all false
namespace Vk
open PySem PySem.W PyProof.Rows
def Triv {P : Prop} (_ : P) : Prop := True
@[irreducible] def Al (P : Prop) : Prop := P
theorem al {P : Prop} (p : Al P) : P := by unfold Al at p; exact p
theorem drop_ {P : Prop} (p : Al P) (_ : Triv p) : P := al p
set_option maxHeartbeats 0 in
theorem hd : True :=
  haveI x : PySem.Challenge.rw_anchoredits_k50_whole_windows_turned_and.Holds := by
    w_on; o_law; k_headL; all_goals (apply_rules (newGoals := .nonDependentOnly) (transparency := .reducible) (maxDepth := 1) only [drop_]; exact trivial)
  trivial
end Vk
#print axioms Vk.hd
set_option Elab.async false
set_option maxRecDepth 100000
set_option linter.all false
namespace Vk
open PySem PySem.W PySem.Calls PyProof.Rows
abbrev hdR : OpenRow := OpenLaw.row PySem.Challenge.rw_anchoredits_k50_whole_windows_turned_and
abbrev hdP : Program := PySem.Challenge.pw_anchoredits_k50_whole_windows_turned_and
def hdLo : List PySem.Str := ["Edit", "First", "Perhaps", "Every", "AtOnce"]
noncomputable def hdEnd (w : World) (os : OsState) : Option SharedT := HeadRun.endF (HeadRun.stepQ (HeadRun.denQ HeadRun.tabQ) hdP w) 9560 hdP w os
noncomputable abbrev hdXt : Shared → Bool := fun s => xlAt hd.view_39 [] s && recOk (RowW.records hdR.toRowW) s
theorem hdRunL (w : World) (os : OsState) : (hdEnd w os).map (fun s => HeadRun.looksF hdP (boot_heap w.params) s.abs) = some true := by kernel_rfl
theorem hdRunS0 (w : World) (os : OsState) : (hdEnd w os).map (fun s => (HeadRun.seenQ hd.view_39 hdLo (importedModules hdP.main.body) hdXt s.abs).1) = some (openGood hd.view_39 hdLo).1 := by kernel_rfl
theorem hdRunS1 (w : World) (os : OsState) : (hdEnd w os).map (fun s => ((HeadRun.seenQ hd.view_39 hdLo (importedModules hdP.main.body) hdXt s.abs).2.1, (HeadRun.seenQ hd.view_39 hdLo (importedModules hdP.main.body) hdXt s.abs).2.2.1)) = some ((openGood hd.view_39 hdLo).2.1, (openGood hd.view_39 hdLo).2.2.1) := by kernel_rfl
theorem hdRunS2 (w : World) (os : OsState) : (hdEnd w os).map (fun s => ((HeadRun.seenQ hd.view_39 hdLo (importedModules hdP.main.body) hdXt s.abs).2.2.2.1, (HeadRun.seenQ hd.view_39 hdLo (importedModules hdP.main.body) hdXt s.abs).2.2.2.2.1, (HeadRun.seenQ hd.view_39 hdLo (importedModules hdP.main.body) hdXt s.abs).2.2.2.2.2.1, (HeadRun.seenQ hd.view_39 hdLo (importedModules hdP.main.body) hdXt s.abs).2.2.2.2.2.2.1, (HeadRun.seenQ hd.view_39 hdLo (importedModules hdP.main.body) hdXt s.abs).2.2.2.2.2.2.2.1, (HeadRun.seenQ hd.view_39 hdLo (importedModules hdP.main.body) hdXt s.abs).2.2.2.2.2.2.2.2)) = some ((openGood hd.view_39 hdLo).2.2.2.1, (openGood hd.view_39 hdLo).2.2.2.2.1, (openGood hd.view_39 hdLo).2.2.2.2.2.1, (openGood hd.view_39 hdLo).2.2.2.2.2.2.1, (openGood hd.view_39 hdLo).2.2.2.2.2.2.2.1, (openGood hd.view_39 hdLo).2.2.2.2.2.2.2.2) := by kernel_rfl
def hdAs : List Addr := [nat_lit 2, nat_lit 3, nat_lit 15, nat_lit 17, nat_lit 18, nat_lit 20, nat_lit 21, nat_lit 22, nat_lit 24, nat_lit 25, nat_lit 27, nat_lit 28, nat_lit 29, nat_lit 31, nat_lit 32, nat_lit 34, nat_lit 35, nat_lit 36, nat_lit 43, nat_lit 45, nat_lit 46, nat_lit 48, nat_lit 49, nat_lit 50, nat_lit 51, nat_lit 52, nat_lit 53, nat_lit 56, nat_lit 63, nat_lit 65, nat_lit 66, nat_lit 68, nat_lit 69, nat_lit 70, nat_lit 71, nat_lit 72, nat_lit 73, nat_lit 76, nat_lit 83, nat_lit 85, nat_lit 86, nat_lit 88, nat_lit 89, nat_lit 90, nat_lit 91, nat_lit 92, nat_lit 93, nat_lit 96, nat_lit 103, nat_lit 105, nat_lit 106, nat_lit 108, nat_lit 109, nat_lit 110, nat_lit 111, nat_lit 112, nat_lit 113, nat_lit 116, nat_lit 123, nat_lit 125, nat_lit 126, nat_lit 128, nat_lit 129, nat_lit 130, nat_lit 131, nat_lit 132, nat_lit 133, nat_lit 136, nat_lit 143, nat_lit 145, nat_lit 146, nat_lit 148, nat_lit 149, nat_lit 150, nat_lit 151, nat_lit 152, nat_lit 153, nat_lit 156, nat_lit 163, nat_lit 165, nat_lit 166, nat_lit 168, nat_lit 169, nat_lit 170, nat_lit 171, nat_lit 172, nat_lit 173, nat_lit 176, nat_lit 178, nat_lit 179, nat_lit 181, nat_lit 182, nat_lit 183, nat_lit 185, nat_lit 186, nat_lit 188, nat_lit 189, nat_lit 190, nat_lit 192, nat_lit 193, nat_lit 195, nat_lit 196, nat_lit 197, nat_lit 199, nat_lit 200, nat_lit 202, nat_lit 203, nat_lit 204, nat_lit 206, nat_lit 207, nat_lit 209, nat_lit 210, nat_lit 211, nat_lit 213, nat_lit 214, nat_lit 216, nat_lit 217, nat_lit 225, nat_lit 226, nat_lit 227, nat_lit 228, nat_lit 229, nat_lit 232, nat_lit 239, nat_lit 241, nat_lit 242, nat_lit 244, nat_lit 245, nat_lit 246, nat_lit 248, nat_lit 249, nat_lit 251, nat_lit 252, nat_lit 253, nat_lit 254, nat_lit 256, nat_lit 257, nat_lit 259, nat_lit 260, nat_lit 261, nat_lit 262, nat_lit 264, nat_lit 265, nat_lit 267, nat_lit 268, nat_lit 269, nat_lit 270, nat_lit 271, nat_lit 274, nat_lit 281, nat_lit 283, nat_lit 284, nat_lit 286, nat_lit 287, nat_lit 288, nat_lit 290, nat_lit 291, nat_lit 293, nat_lit 294, nat_lit 295, nat_lit 296, nat_lit 298, nat_lit 299, nat_lit 301, nat_lit 302, nat_lit 303, nat_lit 304, nat_lit 306, nat_lit 307, nat_lit 309, nat_lit 310, nat_lit 311, nat_lit 312, nat_lit 313, nat_lit 316, nat_lit 323, nat_lit 325, nat_lit 326, nat_lit 328, nat_lit 329, nat_lit 330, nat_lit 332, nat_lit 333, nat_lit 335, nat_lit 336, nat_lit 337, nat_lit 338, nat_lit 340, nat_lit 341, nat_lit 343, nat_lit 344, nat_lit 345, nat_lit 346, nat_lit 348, nat_lit 349, nat_lit 351, nat_lit 352, nat_lit 353, nat_lit 354, nat_lit 355, nat_lit 358, nat_lit 365, nat_lit 367, nat_lit 368, nat_lit 370, nat_lit 371, nat_lit 372, nat_lit 374, nat_lit 375, nat_lit 377, nat_lit 378, nat_lit 379, nat_lit 380, nat_lit 382, nat_lit 383, nat_lit 385, nat_lit 386, nat_lit 387, nat_lit 388, nat_lit 389, nat_lit 392, nat_lit 394, nat_lit 395, nat_lit 397, nat_lit 398, nat_lit 399, nat_lit 401, nat_lit 402, nat_lit 404, nat_lit 405, nat_lit 406, nat_lit 409, nat_lit 410, nat_lit 411, nat_lit 413, nat_lit 414, nat_lit 416, nat_lit 417, nat_lit 418, nat_lit 420, nat_lit 421, nat_lit 423, nat_lit 424, nat_lit 425, nat_lit 427, nat_lit 428, nat_lit 430, nat_lit 431, nat_lit 432, nat_lit 434, nat_lit 435, nat_lit 437, nat_lit 438, nat_lit 439, nat_lit 442, nat_lit 443, nat_lit 444, nat_lit 446, nat_lit 447, nat_lit 449, nat_lit 450, nat_lit 451, nat_lit 453, nat_lit 454, nat_lit 456, nat_lit 457, nat_lit 458, nat_lit 460, nat_lit 461, nat_lit 463, nat_lit 464, nat_lit 465, nat_lit 467, nat_lit 468, nat_lit 470, nat_lit 471, nat_lit 472, nat_lit 474, nat_lit 475, nat_lit 477, nat_lit 478, nat_lit 479, nat_lit 482, nat_lit 483, nat_lit 484, nat_lit 486, nat_lit 487, nat_lit 489, nat_lit 490, nat_lit 491, nat_lit 494, nat_lit 495, nat_lit 496, nat_lit 498, nat_lit 499, nat_lit 501, nat_lit 502, nat_lit 503, nat_lit 505, nat_lit 506, nat_lit 508, nat_lit 509, nat_lit 510, nat_lit 512, nat_lit 513, nat_lit 515, nat_lit 516, nat_lit 517, nat_lit 519, nat_lit 520, nat_lit 522, nat_lit 523, nat_lit 524, nat_lit 526, nat_lit 527, nat_lit 529, nat_lit 530, nat_lit 531, nat_lit 533, nat_lit 534, nat_lit 536, nat_lit 537, nat_lit 538, nat_lit 541, nat_lit 542, nat_lit 543, nat_lit 546, nat_lit 547, nat_lit 548, nat_lit 550, nat_lit 551, nat_lit 553, nat_lit 554, nat_lit 555, nat_lit 557, nat_lit 558, nat_lit 560, nat_lit 561, nat_lit 562, nat_lit 565, nat_lit 566, nat_lit 567, nat_lit 570, nat_lit 571]
theorem hdRunA (w : World) (os : OsState) : (hdEnd w os).map (fun s => hdAs.map (HeadRun.getT s)) = some ((hd.heap_39 w.params).map fun x => some x.2) := by kernel_rfl
theorem hdEk : ∀ P, hdAs = (hd.heap_39 P).map (·.1) := fun _ => by kernel_rfl
theorem hdRun (w : World) (os : OsState) : (HeadRun.endF (HeadRun.stepQ (HeadRun.denQ HeadRun.tabQ) hdP w) 9560 hdP w os).map (fun s => (HeadRun.looksF hdP (boot_heap w.params) s.abs, HeadRun.seenQ hd.view_39 hdLo (importedModules hdP.main.body) hdXt s.abs, hdAs.map (HeadRun.getT s))) = some (true, openGood hd.view_39 hdLo, (hd.heap_39 w.params).map fun x => some x.2) := by
  have rL := hdRunL w os
  have rA := hdRunA w os
  have r0 := hdRunS0 w os
  have r1 := hdRunS1 w os
  have r2 := hdRunS2 w os
  show (hdEnd w os).map _ = _
  generalize hdEnd w os = e at *
  cases e with
  | none => cases rL
  | some s =>
    have qL := Option.some.inj rL
    have qA := Option.some.inj rA
    have z0 := Option.some.inj r0
    have z1 := Option.some.inj r1
    have z2 := Option.some.inj r2
    have q0 := z0
    obtain ⟨q1, q2⟩ := Prod.mk.inj z1
    obtain ⟨q3, z2⟩ := Prod.mk.inj z2
    obtain ⟨q4, z2⟩ := Prod.mk.inj z2
    obtain ⟨q5, z2⟩ := Prod.mk.inj z2
    obtain ⟨q6, z2⟩ := Prod.mk.inj z2
    obtain ⟨q7, q8⟩ := Prod.mk.inj z2
    exact congrArg some (Prod.ext qL (Prod.ext (Prod.ext q0 (Prod.ext q1 (Prod.ext q2 (Prod.ext q3 (Prod.ext q4 (Prod.ext q5 (Prod.ext q6 (Prod.ext q7 q8)))))))) qA))
theorem hdLeft : LeftO hdP hd.view_39 hdLo hdXt (Hook.obs (kHook hd.heap_39 hdAs hdEk)) (Hook.val (kHook hd.heap_39 hdAs hdEk)) 10260 true :=
  HeadRun.left_oneK (M := 9560) (by kernel_rfl) (by rfl) (fun s => by kernel_rfl) (by rfl) hdRun
end Vk
set_option Elab.async false
set_option maxRecDepth 100000
set_option linter.all false
namespace Vk
open PySem PySem.Spec PyProof.Rows L2
/-! ## defs that may show values: no guard is under way -/
structure FnG (P : Program) (w : World) (K : PySem.W.Frag) (mg : Str → Option Value) (base : Heap) (CX : CXT) (k : Nat) (f : Addr) (fd : FuncData) (ps : List Str) (sp : Sp) : Prop where
  len : ∀ vs H Q E, sp vs H Q E → vs.length = ps.length
  run : ∀ (A : Around) (outer : List Env) (s : Shared) (H : Hp) (args : Args) (us : List Value) (vs : List V) (Q : VK) (E : XK), A.guards = some [] → Room k A → Env0 P w K mg base A outer s H → BindsTo s fd args (ps.zip us) → Vals vs us → sp vs H Q E →
    codeAny (model P w) A (.call (.ref f) args) (CR CX outer P w H s Q E) s
theorem FnG.of {P : Program} {w : World} {K : PySem.W.Frag} {mg : Str → Option Value} {base : Heap} {CX : CXT} {k : Nat} {f : Addr} {fd : FuncData} {ps : List Str} {sp : Sp} (F : FnOk P w K mg base CX k f fd ps sp) : FnG P w K mg base CX k f fd ps sp :=
  ⟨F.len, fun A outer s H args us vs Q E _ => F.run A outer s H args us vs Q E⟩
section
variable {P : Program} {w : World} {K : PySem.W.Frag} {mg : Str → Option Value} {base : Heap}
theorem okG {CX : CXT} {x qual : Str} {st : Stmt} {f : Addr} {fd : FuncData} {N ps : List Str} {k : Nat} {sp : Sp} (F : Fun K x qual st f fd) (S : FnScope N ps (defScope st)) (hlen : ∀ vs H Q E, sp vs H Q E → vs.length = ps.length)
    (hbody : ∀ (cdv : Value) (A : Around) (outer : List Env) (s : Shared) (H : Hp) (vs : List V) (Q : VK) (E : XK), A.guards = some [] → Room k (A.deeper (envOfC qual (defScope st) s.heap.objs.size f cdv)) → sp vs H Q E →
      ∃ t, PSs (cxOf CX P w K mg base N qual (defScope st) f cdv A outer s H E) (defBody st) t ∧ t { nx := fun _ H' => Q .non H', rt := Q } (start N vs) H) : FnG P w K mg base CX (k + 1) f fd ps sp := by
  obtain ⟨oc, od, kV, doc, pm, an, cdv, ct, osl, rfl, lk, hcd⟩ := F.ex
  refine ⟨hlen, fun A outer s H args us vs Q E hg hr e0 hb r hsp => ?_⟩
  have hvl := hlen _ _ _ _ hsp
  have KX := e0.mod.kin.keeps (fun b o e => (e0.bs b o e).1 : ∀ b o, base.get? b = some o → s.heap.get? b = some o)
  have noLim := e0.mod.nolimit.keeps (fun b o e => (e0.bs b o e).1 : ∀ b o, base.get? b = some o → s.heap.get? b = some o)
  have kinds : ∀ y ∈ ps.zip us, (defScope st).names.lookup y.1 = some .local ∨ ((defScope st).names.lookup y.1 = some .cell ∧ ((cellsFrom (s.heap.objs.size + 1) (defScope st).names []).lookup y.1).isSome = true) := by
    rintro ⟨n, v⟩ hy
    have hy1 := (List.of_mem_zip hy).1
    cases S.par n hy1 with
    | inl q => exact Or.inl q
    | inr q => exact Or.inr (And.intro q (PySem.W.cellsFrom_some _ _ _ (Or.inl q)))
  refine codeAny_call_function hr.depth (KX f _ lk) rfl S.co S.gen rfl (PySem.W.codeRec_of KX hcd) (hb _ _ _ _ (wpAny_newFunctionEnv_cells S.kind kinds fun env he s1 x => ?_))
  cases he
  refine And.intro (noLim.keeps x.toInCall.keep) (codeAny_func ?_)
  obtain ⟨t, ht, hq⟩ := hbody cdv A outer s H vs Q E hg (hr.deeper _) hsp
  have I0 := inv_start (CX := CX) (E := E) S hr.hd e0 hvl r x
  refine wpAny_mono (ht.run [] s1 (start N vs) H _ I0 hq) (fun fl s2 hs => ?_) (fun e s2 hs => hs)
  have close : ∀ {σ2 : L2.St} {H2 : Hp} {v : V} {u : Value}, Inv (cxOf CX P w K mg base N qual (defScope st) f cdv A outer s H E) [] σ2 H2 s2 → RelV v u → Q v H2 → CE outer P w H s Q u s2 := by
    intro σ2 H2 v u J rv q
    exact ⟨v, H2, And.intro J.os (And.intro J.bare (And.intro J.base (And.intro J.hok (And.intro rv q))))⟩
  match fl, hs with
  | .ret u, ⟨v, σ2, H2, J, rv, q⟩ => exact close J rv q
  | .next, ⟨σ2, H2, J, q⟩ => exact close (v := V.non) (u := Value.none) J rfl q
  | .brk, ⟨_, _, _, q⟩ => exact q.elim
  | .cont, ⟨_, _, _, q⟩ => exact q.elim
end
section
variable {P : Program} {w : World} {K : PySem.W.Frag} {mg : Str → Option Value} {base : Heap}
theorem okG0 {x qual : Str} {st : Stmt} {f : Addr} {fd : FuncData} {N ps : List Str} {k : Nat} {sp : Sp} (F : Fun K x qual st f fd) (S : FnScope N ps (defScope st)) (hlen : ∀ vs H Q E, sp vs H Q E → vs.length = ps.length)
    (hbody : ∀ (cdv : Value) (A : Around) (outer : List Env) (s : Shared) (H : Hp) (vs : List V) (Q : VK) (E : XK), A.guards = some [] → Room k (A.deeper (envOfC qual (defScope st) s.heap.objs.size f cdv)) → sp vs H Q E →
      ∃ t, PSs (cxOf CX0 P w K mg base N qual (defScope st) f cdv A outer s H E).nox (defBody st) t ∧ t { nx := fun _ H' => Q .non H', rt := Q } (start N vs) H) : FnG P w K mg base CX0 (k + 1) f fd ps sp :=
  okG F S hlen fun cdv A outer s H vs Q E hg hr hsp => match hbody cdv A outer s H vs Q E hg hr hsp with | ⟨t, h, q⟩ => ⟨t, h.nox, q⟩
end
/-- a def of the module by its name -/
structure CalG (P : Program) (w : World) (K : PySem.W.Frag) (mg : Str → Option Value) (base : Heap) (CX : CXT) (k : Nat) (x : Str) (sp : Sp) : Prop where
  ex : ∃ (f : Addr) (fd : FuncData) (ps : List Str), FnG P w K mg base CX k f fd ps sp ∧ mg x = some (.ref f) ∧ PySem.W.keepIn K (.ref f) = true ∧ Binds K fd ps []
section
variable {X : Cx} {CX : CXT} {j k : Nat} {f : Addr} {fd : FuncData} {ps : List Str} {sp : Sp} {E : XK} {x : Str} {p pos : Pos} {e : Expr} {es : List Expr} {t : TA}
theorem run_fnG {pins : List (Addr × Obj)} {σ : L2.St} {H : Hp} {s : Shared} {Q : VK} {us : List Value} {vs : List V} (F : FnG X.prog X.w X.K X.mg X.base CX k f fd ps sp) (hg : X.A.guards = some []) (hr : Room k X.A) (hb : Binds X.K fd ps []) (hx : Passes CX X E)
    (I : Inv X pins σ H s) (r : Vals vs us) (h : sp vs H Q E) : wpAny (model X.prog X.w) X.A (call (.ref f) us) (EP X pins σ Q) X.xe s := by
  have hl : us.length = ps.length := r.length.symm.trans (F.len _ _ _ _ h)
  have b := hb s us I.kIn ((congrArg List.length (List.append_nil us)).trans hl)
  rw [List.append_nil] at b
  refine wpAny_call (codeAny_mono (F.run X.A X.stack s H ⟨us, []⟩ us vs Q E hg hr I.env0 b r h) (fun res s2 hq => ?_))
  match res, hq with
  | .error e, hq => exact hx pins σ H s e s2 I hq
  | .ok (.ret u), hq => exact I.after hq
  | .ok .next, hq => exact hq.elim
  | .ok .brk, hq => exact hq.elim
  | .ok .cont, hq => exact hq.elim
theorem pe_cG (c : CalG X.prog X.w X.K X.mg X.base CX k x sp) (hg : X.A.guards = some []) (hr : Room j X.A) (hk : k ≤ j) (hx : Passes CX X E) (ha : PA X (e :: es) t) (gl : Gl X x := by rfl)
    (hdb : (x == ("__debug__" : Str)) = false := by decide) (he : starEach (e :: es) X.env = (false, eval e X.env) :: starEach es X.env := by rfl) (hpl : (backTo pos (starEach es X.env)).any (·.1) = false := by rfl) :
    PE X (.Call (.Name x p) (e :: es) [] pos) (tCall sp [] E t) := by
  obtain ⟨f, fd, ps, F, hm, kp, hb⟩ := c.ex
  refine ⟨fun pins s σ H Q I h => wpAny_Call_Name_kw (ld_glob I gl hm (PySem.W.callWith_K (h₀ := X.base) I.ok.mod.kin kp (thn (ha.run pos pins s σ H _ I h) fun us s1 hh => ?_) he hpl) hdb)⟩
  obtain ⟨vs, H1, I1, r, q⟩ := hh
  rw [List.append_nil] at q
  exact ⟨I1.kIn, run_fnG F hg (hr.mono hk) hb hx I1 r q⟩
theorem pe_cG0 (c : CalG X.prog X.w X.K X.mg X.base CX k x sp) (hg : X.A.guards = some []) (hr : Room j X.A) (hk : k ≤ j) (hx : Passes CX X E) (gl : Gl X x := by rfl)
    (hdb : (x == ("__debug__" : Str)) = false := by decide) : PE X (.Call (.Name x p) [] [] pos) (tCall sp [] E tNil) := by
  obtain ⟨f, fd, ps, F, hm, kp, hb⟩ := c.ex
  exact ⟨fun pins s σ H Q I h => wpAny_Call_Name_kw (ld_glob I gl hm (PySem.W.callWith_K0 I.kIn kp (run_fnG (us := []) F hg (hr.mono hk) hb hx I .nil h)) hdb)⟩
end
/-! ## repr -/
section
variable {X : Cx}
theorem call_reprD (hg : X.A.guards = some []) (hu : X.A.units + 64 < cLine) : CallR X (.builtin "repr") (fun xs H Q => ∃ x d, xs = [x] ∧ Dp X.K H x d ∧ d.showable = true ∧ d.hasDict = false ∧ d.depth ≤ 60 ∧ d.shown.length ≤ sizeLine ∧ Q (.str d.shown) H) := by
  intro pins s σ H xs us Q I r h
  obtain ⟨x, d, rfl, hd, hs, hn, hdp, hz, q⟩ := h
  cases r with
  | cons r1 r2 =>
  cases r2
  obtain ⟨as, rd⟩ := Dp.reads I d x _ hd r1
  cases hd with
  | non => cases r1; exact PySem.P.repr_of_none ⟨V.str _, H, I.tok _, ⟨_, rfl⟩, q⟩
  | bl b => cases r1; exact PySem.P.repr_of_bool ⟨V.str _, H, I.tok _, ⟨_, rfl⟩, q⟩
  | int i =>
    obtain ⟨t, rfl⟩ := r1
    exact PySem.P.repr_of_int (of_decide_eq_true hs) ⟨V.str _, H, I.tok _, ⟨_, rfl⟩, q⟩
  | str z =>
    obtain ⟨t, rfl⟩ := r1
    exact PySem.P.repr_of_str ⟨V.str _, H, I.tok _, ⟨_, rfl⟩, q⟩ hz
  | lst h1 h2 =>
    cases r1
    exact repr_of_reads' rd hs (PyData.noDict_hsm hn) hg (by omega) (fun _ _ e => e) (fun h' u tk hk => ⟨V.str _, H, I.kept hk, ⟨u, rfl⟩, q⟩) hz
  | tup h1 h2 =>
    cases r1
    exact repr_of_reads' rd hs (PyData.noDict_hsm hn) hg (by omega) (fun _ _ e => e) (fun h' u tk hk => ⟨V.str _, H, I.kept hk, ⟨u, rfl⟩, q⟩) hz
end
/-! ## the law's own call -/
theorem lawG {P : Program} {w : World} {K : PySem.W.Frag} {mg mb : Str → Option Value} {CX : CXT} {k : Nat} {fa a : Addr} {fd : FuncData} {x : Str} {sp : Sp} {s1 : Shared} {vs : List Value} {ns : List Int}
    (KX : K.In s1.heap) (gns : s1.heap.Ns mainGlobals mg) (bns : s1.heap.Ns builtinsNs mb) (bbt : ∀ x : Str, x ≠ "__name__" → mb x = bootBuiltins x) (nolim : s1.heap.NoLimit) (gens0 : s1.gens = #[])
    (scr : s1.heap.get? a = some { cls := .type "list", data := .seq vs.toArray }) (hints : IntsAre vs ns) (short : ns.length ≤ sizeLine) (room : Room k callerA)
    (F : ∀ base : Heap, K.In base → base.Ns mainGlobals mg → FnG P w K mg base CX k fa fd [x] sp) (bind1 : ∀ (s : Shared) (u : Value), BindsTo s fd ⟨[u], []⟩ [(x, u)])
    (prom : ∀ H : Hp, Only H → SqL K H a (ns.map V.int) → sp [.ref a] H (fun v _ => v = .bl true) fun _ _ _ => False)
    (noX : ∀ H e s2, CX [] H s1 (fun _ _ _ => False) e s2 → False) :
    codeAny (model P w) callerA (.call (.ref fa) ⟨[.ref a], []⟩) (fun r s2 => r = .ok (.ret (.bool true)) ∧ OldK s1.heap s2.heap ∧ s2.os = s1.os ∧ AllBare s2.gens) s1 := by
  have rel := vals_ints hints
  have main : ∀ H : Hp, Only H → SqL K H a (ns.map V.int) → HOk P w H s1.heap → (∀ b u, H b = some u → b = a) → (∀ u, H a = some u → K.lookup a = none) →
      codeAny (model P w) callerA (.call (.ref fa) ⟨[.ref a], []⟩) (fun r s2 => r = .ok (.ret (.bool true)) ∧ OldK s1.heap s2.heap ∧ s2.os = s1.os ∧ AllBare s2.gens) s1 := by
    intro H only seq ok at1 un1
    have dictFree : ∀ {b : Addr} {o : Obj} {es : Array DictEntry} {ep : Nat}, s1.heap.get? b = some o → o.data = .dict es ep → H b = none := by
      intro b o es ep e d
      match q : H b with
      | none => rfl
      | some u =>
        have eb := at1 b u q
        subst eb
        rw [scr] at e
        cases e
        exact nomatch (show Data.seq vs.toArray _ = Data.dict es ep from d)
    have nsAt : ∀ {b : Addr} {m : Str → Option Value}, s1.heap.Ns b m → (hidT s1.heap H).Ns b m := by
      rintro b m ⟨o, es, ep, e, d, r⟩
      exact ⟨o, es, ep, hidT_get e (dictFree e d), d, r⟩
    have inK : K.In (hidT s1.heap H) := by
      intro b o e
      refine hidT_get (KX b o e) ?_
      match q : H b with
      | none => rfl
      | some u =>
        have eb := at1 b u q
        subst eb
        exact nomatch (un1 u q).symm.trans e
    have limAt : (hidT s1.heap H).NoLimit := match nolim with | ⟨mc, h1, h2⟩ => ⟨mc, nsAt h1, h2⟩
    have mod1 : Mod K mg (hidT s1.heap H) := ⟨inK, nsAt gns, ⟨mb, nsAt bns, bbt⟩, limAt⟩
    have start0 : Env0 P w K mg (hidT s1.heap H) callerA [] s1 H := ⟨rfl, mod1, fun b o => of_hidT, Nat.le_of_eq (hidT_size s1.heap H), trivial, (fun b hb => absurd hb (List.not_mem_nil (a := b))), ok, AllBare.of_eq gens0⟩
    refine codeAny_mono ((F _ inK (nsAt gns)).run callerA [] s1 H ⟨[.ref a], []⟩ [.ref a] [.ref a] _ _ rfl room start0 (bind1 s1 (.ref a)) (.cons rfl .nil) (prom H only seq)) ?_
    intro res s2 h
    match res, h with
    | .error e, h => exact (noX H e s2 h).elim
    | .ok .next, h => exact h.elim
    | .ok .brk, h => exact h.elim
    | .ok .cont, h => exact h.elim
    | .ok (.ret u), ⟨v, H2, os, bare, un, ok2, r2, (hv : v = .bl true)⟩ =>
      cases hv
      have hu : u = Value.bool true := r2
      cases hu
      refine ⟨rfl, OldK.of_keep ?_, os, bare⟩
      intro b o e
      match q : H b with
      | none => exact un.keep b o e q (fun z => nomatch z) (fun z => nomatch z)
      | some u =>
        cases only b with
        | inl z => exact nomatch z.symm.trans q
        | inr z =>
          obtain ⟨ob, xs, z⟩ := z
          have c1 := (ok b _ z).1
          have c2 := (ok2 b _ (un.frzs b ob _ z)).1
          exact c2.trans (c1.symm.trans e)
  match hk : K.lookup a with
  | some o =>
    have e := (KX a o hk).symm.trans scr
    cases e
    refine main (fun _ => none) (fun _ => Or.inl rfl) (Or.inr ⟨_, vs.toArray, _, hk, rfl, rfl, rfl, ?_, ?_⟩) (fun b u z => nomatch (show (none : Option HO) = some u from z)) (fun b u z => nomatch (show (none : Option HO) = some u from z)) (fun u z => nomatch (show (none : Option HO) = some u from z))
    · rw [List.size_toArray, hints.length]
      exact short
    · simpa using rel
  | none =>
    refine main (fun b => if b = a then some (.frz { cls := .type "list", data := .seq vs.toArray } (.lst (ns.map V.int))) else none) ?_ (Or.inl (Or.inr ⟨_, if_pos rfl⟩)) ?_ ?_ (fun _ _ => hk)
    · intro b
      by_cases hb : b = a
      · exact Or.inr ⟨_, _, if_pos hb⟩
      · exact Or.inl (if_neg hb)
    · intro b u z
      by_cases hb : b = a
      · subst hb
        have z1 := (if_pos rfl).symm.trans z
        cases z1
        exact ⟨scr, (by rw [List.length_map]; exact short), vs, _, rel, scr⟩
      · exact nomatch (if_neg hb).symm.trans z
    · intro b u z
      by_cases hb : b = a
      · exact hb
      · exact nomatch (if_neg hb).symm.trans z
end Vk
set_option Elab.async false
set_option maxRecDepth 100000
set_option linter.all false
namespace Vk
open PySem PySem.Spec PyProof.Rows L2
/-! ## what stays -/
/-- all that was tracked stays, but what stands at p -/
def Ext (p : Addr) (H H' : Hp) : Prop := ∀ b o, H b = some o → b ≠ p → H' b = some o
theorem Ext.rfl {p : Addr} {H : Hp} : Ext p H H := fun _ _ h _ => h
theorem Ext.trans {p : Addr} {H H1 H2 : Hp} (a : Ext p H H1) (b : Ext p H1 H2) : Ext p H H2 := fun c o h n => b c o (a c o h n) n
theorem Ext.same {p : Addr} {H H1 : Hp} (a : Same H H1) : Ext p H H1 := fun c o h _ => a c o h
theorem Ext.at {p : Addr} {H : Hp} {o : HO} : Ext p H (upd H p o) := fun c u h n => (upd_ne n).trans h
theorem same_new {H : Hp} {a : Addr} {o : HO} (h : H a = none) : Same H (upd H a o) := fun c u e => (upd_ne (ne_of_none e h)).trans e
theorem Ext.new {p a : Addr} {H : Hp} {o : HO} (h : H a = none) : Ext p H (upd H a o) := .same (same_new h)
theorem Ext.set {p a : Addr} {H H1 : Hp} {o : HO} (x : Ext p H H1) (h : H a = none) : Ext p H (upd H1 a o) := fun c u e n => (upd_ne (ne_of_none e h)).trans (x c u e n)
theorem Ext.none_of {p a : Addr} {H H1 : Hp} (x : Ext p H H1) (hp : a ≠ p) (h : H1 a = none) : H a = none := by
  match q : H a with
  | none => rfl
  | some o => exact nomatch (x a o q hp).symm.trans h
theorem up_new {H : Hp} {a b : Addr} {o u : HO} (h : H a = some o) (hb : H b = none) : upd H b u a = some o := same_new hb a o h
/-! ## the pen -/
def penL (c : Addr) (t l : Int) : List (Key × V) := [(.inr "cells", .ref c), (.inr "turn", .int t), (.inr "left", .int l)]
theorem k_ct : ¬ ((Str.ofString "cells") = Str.ofString "turn") := by decide +kernel
theorem k_cl : ¬ ((Str.ofString "cells") = Str.ofString "left") := by decide +kernel
theorem k_tl : ¬ ((Str.ofString "turn") = Str.ofString "left") := by decide +kernel
theorem k_lt : ¬ ((Str.ofString "left") = Str.ofString "turn") := by decide +kernel
theorem pen_cells (c : Addr) (t l : Int) : valV (penL c t l) (Sum.inr "cells" : Key) = some (.ref c) := valV_pos rfl
theorem pen_turn (c : Addr) (t l : Int) : valV (penL c t l) (Sum.inr "turn" : Key) = some (.int t) := (valV_neg (fun e => k_ct (Sum.inr.inj e))).trans (valV_pos rfl)
theorem pen_left (c : Addr) (t l : Int) : valV (penL c t l) (Sum.inr "left" : Key) = some (.int l) := (valV_neg (fun e => k_cl (Sum.inr.inj e))).trans ((valV_neg (fun e => k_tl (Sum.inr.inj e))).trans (valV_pos rfl))
theorem pen_put_turn (c : Addr) (t l u : Int) : putK (penL c t l) (Sum.inr "turn" : Key) (.int u) = penL c u l := by
  unfold putK
  rw [valV_any, pen_turn]
  simp [penL, k_ct, k_lt]
theorem pen_put_left (c : Addr) (t l u : Int) : putK (penL c t l) (Sum.inr "left" : Key) (.int u) = penL c t u := by
  unfold putK
  rw [valV_any, pen_left]
  simp [penL, k_cl, k_tl]
theorem pen_made (c : Addr) (t l : Int) : mergeK [] (penL c t l) = penL c t l := by
  simp [mergeK, penL, putK, k_ct, k_cl, k_tl]
structure Pen (H : Hp) (p c : Addr) (T : Nat) : Prop where
  ex : ∃ (ns : List Int) (t l : Int), H p = some (.dK (penL c t l)) ∧ H c = some (.lst (ns.map V.int)) ∧ ns.length ≤ 63 ∧ 0 ≤ t ∧ t ≤ T ∧ 0 ≤ l
section
variable {H H1 : Hp} {p c a : Addr} {T U : Nat} {o : HO} {xs : List V}
theorem Pen.mono (x : Pen H p c T) (h : T ≤ U) : Pen H p c U := by
  obtain ⟨ns, t, l, h1, h2, h3, h4, h5, h6⟩ := x.ex
  exact ⟨ns, t, l, h1, h2, h3, h4, by omega, h6⟩
theorem Pen.stay (x : Pen H p c T) (s : Same H H1) : Pen H1 p c T := by
  obtain ⟨ns, t, l, h1, h2, r⟩ := x.ex
  exact ⟨ns, t, l, s _ _ h1, s _ _ h2, r⟩
theorem Pen.new (x : Pen H p c T) (h : H a = none) : Pen (upd H a o) p c T := x.stay (same_new h)
theorem Pen.is (x : Pen H p c T) : ∃ t l, H p = some (.dK (penL c t l)) := by
  obtain ⟨ns, t, l, h1, _⟩ := x.ex
  exact ⟨t, l, h1⟩
theorem Pen.ne (x : Pen H p c T) (h : H a = some (.lst xs)) : a ≠ p := by
  obtain ⟨t, l, h1⟩ := x.is
  exact ne_of h h1 (by intro z; cases z)
/-- another thing is changed -/
theorem Pen.set (x : Pen H p c T) (h1 : a ≠ p) (h2 : a ≠ c) : Pen (upd H a o) p c T := by
  obtain ⟨ns, t, l, g1, g2, r⟩ := x.ex
  exact ⟨ns, t, l, (upd_ne h1.symm).trans g1, (upd_ne h2.symm).trans g2, r⟩
/-- a thing that was not there when the pen stood is neither the pen nor its cells -/
theorem Pen.apart (x : Pen H p c T) (h : H a = none) : a ≠ p ∧ a ≠ c := by
  obtain ⟨ns, t, l, g1, g2, r⟩ := x.ex
  exact ⟨(ne_of_none g1 h).symm, (ne_of_none g2 h).symm⟩
end
/-- draw's promise -/
def spDraw : Sp := fun vs H Q _ => ∃ (p c : Addr) (m : Int) (T : Nat), vs = [.ref p, .int m] ∧ 0 < m ∧ m < 1073741824 ∧ Pen H p c T ∧ T < 1000000000 ∧
  ∀ (d : Int) (H' : Hp), 0 ≤ d → d < m → Pen H' p c (T + 1) → Ext p H H' → Q (.int d) H'
def spPen (K : PySem.W.Frag) : Sp := fun vs H Q _ => ∃ (a : Addr) (ns : List Int), vs = [.ref a] ∧ SqL K H a (ns.map V.int) ∧
  ∀ (p c : Addr) (H' : Hp), H p = none → Pen H' p c 0 → Same H H' → Q (.ref p) H'
/-! ## draws' small facts -/
theorem ints_dp {K : PySem.W.Frag} {H : Hp} : ∀ ns : List Int, DpAll K H (ns.map V.int) (ns.map PyData.int)
  | [] => .nil
  | n :: ns => .cons (.int n) (ints_dp ns)
theorem ints_canLay : ∀ ns : List Int, PyData.canLayAll0 (ns.map PyData.int) = true
  | [] => rfl
  | n :: ns => by
    show (PyData.canLay0 (.int n) && PyData.canLayAll0 (ns.map PyData.int)) = true
    rw [ints_canLay ns]
    rfl
theorem ints_depth : ∀ ns : List Int, PyData.depthAll (ns.map PyData.int) = 0
  | [] => rfl
  | n :: ns => by
    show max (PyData.depth (.int n)) (PyData.depthAll (ns.map PyData.int)) = 0
    rw [ints_depth ns]
    rfl
theorem ints_shaped (ns : List Int) : SeqAt.shaped (.list (ns.map PyData.int)) = true := by
  have h1 : PyData.canLay0 (.list (ns.map PyData.int)) = true := ints_canLay ns
  have h2 : PyData.depth (.list (ns.map PyData.int)) = 1 := by
    show PyData.depthAll (ns.map PyData.int) + 1 = 1
    rw [ints_depth]
  unfold SeqAt.shaped
  rw [h1, h2]
  rfl
theorem ints_ne_nil (ns : List Int) : PyData.eqv (.list (ns.map PyData.int)) (.list []) = ns.isEmpty := by
  match ns with
  | [] => rfl
  | n :: r => rfl
theorem get_left {H : Hp} {p c : Addr} {t l : Int} (h : H p = some (.dK (penL c t l))) : DGet H p (.str "left") (some (.int l)) := pen_left c t l ▸ DGet.k (k := Sum.inr "left") h
theorem get_turn {H : Hp} {p c : Addr} {t l : Int} (h : H p = some (.dK (penL c t l))) : DGet H p (.str "turn") (some (.int t)) := pen_turn c t l ▸ DGet.k (k := Sum.inr "turn") h
theorem get_cells {H : Hp} {p c : Addr} {t l : Int} (h : H p = some (.dK (penL c t l))) : DGet H p (.str "cells") (some (.ref c)) := pen_cells c t l ▸ DGet.k (k := Sum.inr "cells") h
theorem put_left {H : Hp} {p c : Addr} {t l u : Int} (h : H p = some (.dK (penL c t l))) : DPut H p (.str "left") (.int u) (upd H p (.dK (penL c t u))) := pen_put_left c t l u ▸ DPut.k (k := Sum.inr "left") h (by show 3 < sizeLine; decide)
theorem put_turn {H : Hp} {p c : Addr} {t l u : Int} (h : H p = some (.dK (penL c t l))) : DPut H p (.str "turn") (.int u) (upd H p (.dK (penL c u l))) := pen_put_turn c t l u ▸ DPut.k (k := Sum.inr "turn") h (by show 3 < sizeLine; decide)
theorem at_mod {α : Type} {xs : List α} {i : Int} (h0 : 0 ≤ i) (h : i < (xs.length : Int)) : ∃ v, atI xs i = some v ∧ v ∈ xs := by
  have hj : i.toNat < xs.length := by omega
  refine ⟨xs[i.toNat], ?_, List.getElem_mem hj⟩
  have e : i = (i.toNat : Int) := by omega
  have q := atI_nat (List.getElem?_eq_getElem hj)
  rw [← e] at q
  exact q
def primes : List Int := [2147483629, 2147483647, 2147483587, 2147483563, 2147483579]
theorem primes_in {v : V} (h : v ∈ primes.map V.int) : ∃ i : Int, v = .int i ∧ 0 < i ∧ i < 2147483648 := by
  obtain ⟨i, hi, e⟩ := List.mem_map.mp h
  refine ⟨i, e.symm, ?_⟩
  have q : ∀ j ∈ primes, 0 < j ∧ j < 2147483648 := by decide
  exact q i hi
end Vk
set_option Elab.async false
set_option maxRecDepth 100000
set_option linter.all false
namespace Vk
open PySem PySem.Spec PyProof.Rows L2
/-! ## a def that returns one written text, and a replace of what it returns (a token is out behind it) -/
structure FnT (P : Program) (w : World) (K : PySem.W.Frag) (mg : Str → Option Value) (base : Heap) (k : Nat) (x : Str) (z : Str) : Prop where
  ex : ∃ f : Addr, mg x = some (.ref f) ∧ PySem.W.keepIn K (.ref f) = true ∧ ∀ (A : Around) (outer : List Env) (s : Shared) (H : Hp) (Q : VK), Room k A → Env0 P w K mg base A outer s H → Q (.str z) H →
    codeAny (model P w) A (.call (.ref f) ⟨[], []⟩) (fun r s2 => 1 ≤ s2.toks ∧ CR CX0 outer P w H s Q E0 r s2) s
section
variable {P : Program} {w : World} {K : PySem.W.Frag} {mg : Str → Option Value} {base : Heap}
theorem okT {x : Str} {st : Stmt} {f : Addr} {fd : FuncData} {z : Str} {j : Nat} {p1 p2 : Pos} (F : Fun K x x st f fd) (S : FnScope [] [] (defScope st)) (hm : mg x = some (.ref f)) (hb : Binds K fd [] [])
    (body : defBody st = [.Return (some (.Constant (.str z) j p1)) p2]) : FnT P w K mg base 1 x z := by
  refine ⟨f, hm, F.kp, ?_⟩
  obtain ⟨oc, od, kV, doc, pm, an, cdv, ct, osl, rfl, lk, hcd⟩ := F.ex
  intro A outer s H Q hr e0 hsp
  have KX := e0.mod.kin.keeps (fun b o e => (e0.bs b o e).1 : ∀ b o, base.get? b = some o → s.heap.get? b = some o)
  have noLim := e0.mod.nolimit.keeps (fun b o e => (e0.bs b o e).1 : ∀ b o, base.get? b = some o → s.heap.get? b = some o)
  refine codeAny_call_function hr.depth (KX f _ lk) rfl S.co S.gen rfl (PySem.W.codeRec_of KX hcd) (hb s [] KX rfl _ _ _ _ (wpAny_newFunctionEnv_cells S.kind (fun y hy => absurd hy (List.not_mem_nil (a := y))) fun env he s1 x0 => ?_))
  cases he
  refine And.intro (noLim.keeps x0.toInCall.keep) (codeAny_func ?_)
  have I0 := inv_start (P := P) (CX := CX0) (E := E0) (us := []) (vs := []) S hr.hd e0 rfl .nil x0
  show wpAny _ _ (execs (defBody st) _) _ _ s1
  rw [body]
  refine wpAny_execs_cons (wpAny_Return_some (Calls.Constant_str ?_))
  exact ⟨Nat.succ_pos _, .str z, H, I0.os, I0.bare, (I0.tok (s1.toks + 1)).base, (I0.tok (s1.toks + 1)).hok, ⟨_, rfl⟩, hsp⟩
end
section
variable {X : Cx} {j k : Nat} {x z y v : Str} {q q2 apos pos c0 c1 : Pos} {j0 j1 : Nat}
theorem pe_replT (c : FnT X.prog X.w X.K X.mg X.base k x z) (hr : Room j X.A) (hk : k ≤ j) (hz : z.length + (z.length + 1) * v.length ≤ 16777216) (hyz : (y == v) = false) (gl : Gl X x := by rfl) (hdb : (x == ("__debug__" : Str)) = false := by decide)
    (hst : starEach [.Constant (.str y) j0 c0, .Constant (.str v) j1 c1] X.env = [(false, eval (.Constant (.str y) j0 c0) X.env), (false, eval (.Constant (.str v) j1 c1) X.env)] := by rfl)
    (hbase : attributeBase (.Call (.Name x q) [] [] q2) "replace" X.env (eval (.Call (.Name x q) [] [] q2) X.env) = eval (.Call (.Name x q) [] [] q2) X.env := by rfl) (hline : (apos.endLine == pos.line) = true := by rfl) :
    PE X (.Call (.Attribute (.Call (.Name x q) [] [] q2) "replace" apos) [.Constant (.str y) j0 c0, .Constant (.str v) j1 c1] [] pos) (fun σ H Q => Q (.str (Txt.replace z y v)) H) := by
  obtain ⟨f, hm, kp, run⟩ := c.ex
  refine ⟨fun pins s σ H Q I h => PySem.Call_method2 (Q := EP X pins σ Q) hbase hst hline (wpAny_mono (Q := fun u s1 => 1 ≤ s1.toks ∧ EP X pins σ (fun w H1 => w = .str z ∧ H1 = H) u s1) ?_ ?_ (fun _ _ e => e))⟩
  · refine wpAny_Call_Name_kw (ld_glob I gl hm (PySem.W.callWith_K0 I.kIn kp (wpAny_call (codeAny_mono (run X.A X.stack s H (fun w H1 => w = .str z ∧ H1 = H) (hr.mono hk) I.env0 ⟨rfl, rfl⟩) fun res s2 hq => ?_))) hdb)
    match res, hq with
    | .error e, hq => exact hq.2.elim
    | .ok (.ret u), hq => exact ⟨hq.1, I.after hq.2⟩
    | .ok .next, hq => exact hq.2.elim
    | .ok .brk, hq => exact hq.2.elim
    | .ok .cont, hq => exact hq.2.elim
  · rintro u s1 ⟨ht, w, H1, I1, r1, rfl, rfl⟩
    obtain ⟨tx, rfl⟩ := r1
    refine ⟨"str", _, PySem.F.plainAttrs_str, PySem.F.slot_str_replace, PySem.F.type_str_replace, typeIs_str _ _ _, (fun _ e => nomatch e), Calls.callWith_builtin rfl (Calls.evalArgs_plain (Calls.spliced_cons (Calls.Constant_str (Calls.spliced_cons (Calls.Constant_str (Calls.spliced_nil ?_))))))⟩
    exact PySem.SC.replace (Nat.ne_of_gt ht) (Nat.succ_ne_zero _) (by show s1.toks ≠ s1.toks + 1; omega) hyz hz fun t' kk => ⟨V.str _, _, I1.tok kk, ⟨t', rfl⟩, h⟩
end
/-! ## options to pick from -/
def OneS (c : Nat) : V := .str ⟨#[c]⟩
inductive Opts (K : PySem.W.Frag) (H : Hp) : V → List V → Prop
  | str (z : Str) (h : z.length ≤ 1000) : Opts K H (.str z) (z.cps.toList.map OneS)
  | lst {a : Addr} {xs : List V} (h : SqL K H a xs) : Opts K H (.ref a) xs
  | tup {a : Addr} {xs : List V} (h : SqT K H a xs) : Opts K H (.ref a) xs
theorem Ext.sqL {K : PySem.W.Frag} {p a : Addr} {H H1 : Hp} {xs : List V} {kvs : List (Key × V)} (x : Ext p H H1) (hp : H p = some (.dK kvs)) (h : SqL K H a xs) : SqL K H1 a xs := by
  match h with
  | .inl (.inl e) => exact .inl (.inl (x _ _ e (ne_of e hp (by intro z; cases z))))
  | .inl (.inr ⟨o, e⟩) => exact .inl (.inr ⟨o, x _ _ e (ne_of e hp (by intro z; cases z))⟩)
  | .inr e => exact .inr e
theorem Ext.sqT {K : PySem.W.Frag} {p a : Addr} {H H1 : Hp} {xs : List V} {kvs : List (Key × V)} (x : Ext p H H1) (hp : H p = some (.dK kvs)) (h : SqT K H a xs) : SqT K H1 a xs := by
  match h with
  | .inl (.inl e) => exact .inl (.inl (x _ _ e (ne_of e hp (by intro z; cases z))))
  | .inl (.inr ⟨o, e⟩) => exact .inl (.inr ⟨o, x _ _ e (ne_of e hp (by intro z; cases z))⟩)
  | .inr e => exact .inr e
theorem Ext.is {p a : Addr} {H H1 : Hp} {xs : List V} {kvs : List (Key × V)} (x : Ext p H H1) (hp : H p = some (.dK kvs)) (h : H a = some (.lst xs)) : H1 a = some (.lst xs) := x _ _ h (ne_of h hp (by intro z; cases z))
theorem Ext.isT {p a : Addr} {H H1 : Hp} {xs : List V} {kvs : List (Key × V)} (x : Ext p H H1) (hp : H p = some (.dK kvs)) (h : H a = some (.tup xs)) : H1 a = some (.tup xs) := x _ _ h (ne_of h hp (by intro z; cases z))
theorem Pen.keepL {K : PySem.W.Frag} {p c a : Addr} {T : Nat} {H H1 : Hp} {xs : List V} (q : Pen H p c T) (x : Ext p H H1) (h : SqL K H a xs) : SqL K H1 a xs := by
  obtain ⟨t, l, hp⟩ := q.is
  exact x.sqL hp h
theorem Pen.keepT {K : PySem.W.Frag} {p c a : Addr} {T : Nat} {H H1 : Hp} {xs : List V} (q : Pen H p c T) (x : Ext p H H1) (h : SqT K H a xs) : SqT K H1 a xs := by
  obtain ⟨t, l, hp⟩ := q.is
  exact x.sqT hp h
theorem Pen.keepI {p c a : Addr} {T : Nat} {H H1 : Hp} {xs : List V} (q : Pen H p c T) (x : Ext p H H1) (h : H a = some (.lst xs)) : H1 a = some (.lst xs) := by
  obtain ⟨t, l, hp⟩ := q.is
  exact x.is hp h
def spPick (K : PySem.W.Frag) : Sp := fun vs H Q _ => ∃ (p c : Addr) (o : V) (xs : List V) (T : Nat), vs = [.ref p, o] ∧ Opts K H o xs ∧ xs ≠ [] ∧ xs.length ≤ 1000 ∧ Pen H p c T ∧ T < 1000000000 ∧
  ∀ (v : V) (H' : Hp), v ∈ xs → Pen H' p c (T + 1) → Ext p H H' → Q v H'
def letS : Str := "\n !\"#$&'()*+,-./0123456789:;<=>?@ABCDEFGHIJKLMNOPQRSTUVWXYZ[\\]^_`abcdefghijklmnopqrstuvwxyz{|}~"
def spSigns : Sp := fun vs H Q _ => vs = [] ∧ Q (.str letS) H
/-- what few gives: one to three letters -/
def Few (z : Str) : Prop := 1 ≤ z.length ∧ z.length ≤ 3 ∧ ∀ c ∈ z.cps.toList, c ∈ letS.cps.toList
def spFew : Sp := fun vs H Q _ => ∃ (p c : Addr) (T : Nat), vs = [.ref p] ∧ Pen H p c T ∧ T + 4 < 1000000000 ∧ ∀ (z : Str) (H' : Hp), Few z → Pen H' p c (T + 4) → Ext p H H' → Q (.str z) H'
/-- a word of the letters of z, a to b of them -/
def Word (z : Str) (a b : Nat) (x : Str) : Prop := a ≤ x.length ∧ x.length ≤ b ∧ ∀ c ∈ x.cps.toList, c ∈ z.cps.toList
def spWord : Sp := fun vs H Q _ => ∃ (p c : Addr) (z : Str) (a b T : Nat), vs = [.ref p, .str z, .int a, .int b] ∧ a ≤ b ∧ b ≤ 100 ∧ 1 ≤ z.length ∧ z.length ≤ 1000 ∧ Pen H p c T ∧ T + 200 < 1000000000 ∧
  ∀ (x : Str) (H' : Hp), Word z a b x → Pen H' p c (T + b + 1) → Ext p H H' → Q (.str x) H'
theorem cut63 (ns : List Int) : ∃ ms : List Int, cutV (ns.map V.int) none (some 63) = ms.map V.int ∧ ms.length ≤ 63 := by
  refine ⟨ns.take 63, ?_, List.length_take_le _ _⟩
  unfold cutV
  rw [HT.sIx_none, show (63 : Int) = ((63 : Nat) : Int) from rfl, HT.sIx_nat, List.drop_zero, Nat.sub_zero, List.map_take, Nat.min_comm, ← List.take_take]
  exact List.take_of_length_le (by rw [List.length_take]; omega)
theorem one_len (z : Str) : (z.cps.toList.map OneS).length = z.length := by
  rw [List.length_map]
  exact Array.length_toList
theorem join_nil : ∀ ls : List (List Nat), TL.joinL [] ls = ls.flatten
  | [] => rfl
  | [p] => by simp [TL.joinL]
  | p :: q :: r => by
    show p ++ ([] ++ TL.joinL [] (q :: r)) = _
    rw [List.nil_append, join_nil (q :: r)]
    rfl
theorem join_ones (cs : List Nat) : Txt.join "" (cs.map fun c => (⟨#[c]⟩ : Str)) = ⟨cs.toArray⟩ := by
  rw [TL.join_eq]
  refine TL.ext_tl ?_
  rw [TL.tl_join]
  refine (join_nil _).trans ?_
  show (List.map TL.tl (cs.map fun c => (⟨#[c]⟩ : Str))).flatten = cs
  rw [List.map_map]
  induction cs with
  | nil => rfl
  | cons c r ih => exact congrArg (c :: ·) ih
theorem ones_len (cs : List Nat) : ((cs.map fun c => (⟨#[c]⟩ : Str)).map (·.length)).sum = cs.length := by
  induction cs with
  | nil => rfl
  | cons c r ih =>
    rw [List.map_cons, List.map_cons, List.sum_cons, ih, List.length_cons]
    show 1 + r.length = r.length + 1
    omega
theorem ones_map (cs : List Nat) : (cs.map fun c => (⟨#[c]⟩ : Str)).map V.str = cs.map OneS := List.map_map
theorem noq_list : (Txt.replace letS "q" "").cps.toList = letS.cps.toList.filter (· != 113) := replace_strikes letS 113
theorem noq_len : (Txt.replace letS "q" "").length = 94 := by
  rw [show (Txt.replace letS "q" "").length = (Txt.replace letS "q" "").cps.toList.length from Array.length_toList.symm, noq_list]
  decide +kernel
theorem noq_in {c : Nat} (h : c ∈ (Txt.replace letS "q" "").cps.toList) : c ∈ letS.cps.toList := by
  rw [noq_list] at h
  exact (List.mem_filter.mp h).1
theorem ones_of {z : Str} {v : V} (h : v ∈ z.cps.toList.map OneS) : ∃ c, v = OneS c ∧ c ∈ z.cps.toList := by
  obtain ⟨c, hc, e⟩ := List.mem_map.mp h
  exact ⟨c, e.symm, hc⟩
theorem opts_ne {z : Str} (h : 1 ≤ z.length) : z.cps.toList.map OneS ≠ [] := fun e => by
  have q := one_len z
  rw [e] at q
  simp at q
  omega
theorem opts_le {z : Str} {n : Nat} (h : z.length ≤ n) : (z.cps.toList.map OneS).length ≤ n := by
  rw [one_len]
  exact h
/-- the fixed choices of few are few -/
theorem few_of {z : Str} (h : (decide (1 ≤ z.length) && decide (z.length ≤ 3) && z.cps.toList.all fun c => decide (c ∈ letS.cps.toList)) = true) : Few z := by
  simp only [Bool.and_eq_true, decide_eq_true_eq, List.all_eq_true] at h
  exact ⟨h.1.1, h.1.2, h.2⟩
theorem few_ones {cs : List Nat} (h1 : 1 ≤ cs.length) (h3 : cs.length ≤ 3) (h : ∀ c ∈ cs, c ∈ letS.cps.toList) : Few ⟨cs.toArray⟩ := ⟨by simpa [Str.length] using h1, by simpa [Str.length] using h3, by simpa using h⟩
/-! ## rules whose written part is named (within a comprehension's block) -/
section
variable {X : Cx} {K : PySem.W.Frag}
theorem ix_seqK (h : X.K = K) : IxR X (rIx K) := h ▸ ix_seq
theorem op_notIn_seqK (h : X.K = K) : OpR X (compareOp .NotIn) (rIn K true) := h ▸ op_notIn_seq
theorem sl_listK (h : X.K = K) : SlR X (rSlL K) := h ▸ sl_list
theorem call_lenK (h : X.K = K) : CallR X (.builtin "len") (fun xs H Q => ∃ x n, xs = [x] ∧ LenV K x H n ∧ Q (.int n) H) := h ▸ call_len
theorem op_neDK (h : X.K = K) (hu : X.A.units + 64 < cLine) : OpR X (compareOp .NotEq) (rNeD K) := h ▸ op_neD hu
end
theorem cutV_mem {xs : List V} {lo hi : Option Int} {v : V} (h : v ∈ cutV xs lo hi) : v ∈ xs := List.mem_of_mem_drop (List.mem_of_mem_take h)
theorem cutV_all {xs : List V} {lo hi : Option Int} {f : V → Bool} (h : xs.all f = true) : (cutV xs lo hi).all f = true := List.all_eq_true.mpr fun v hv => List.all_eq_true.mp h v (cutV_mem hv)
theorem ones_flat (cs : List Nat) : (cs.map OneS).all flatV = true := List.all_eq_true.mpr fun v hv => by
  obtain ⟨c, _, rfl⟩ := List.mem_map.mp hv
  rfl
theorem cutV_zero (xs : List V) : cutV xs none (some 0) = [] := by
  unfold cutV
  rw [HT.sIx_none, show (0 : Int) = ((0 : Nat) : Int) from rfl, HT.sIx_nat]
  simp
theorem one_mem {cs : List Nat} {v : V} (h : v ∈ cs.map OneS) : ∃ c, v = OneS c ∧ c ∈ cs := by
  obtain ⟨c, hc, e⟩ := List.mem_map.mp h
  exact ⟨c, e.symm, hc⟩
end Vk
set_option Elab.async false
set_option maxRecDepth 100000
set_option linter.all false
namespace Vk
open PySem PySem.Spec PyProof.Rows L2
/-! ## how long what is shown may be -/
theorem listText_le : ∀ ts : List Str, (listText ts).length ≤ piled ts + 2
  | [] => by decide +kernel
  | t :: r => by
    have h := textFrom_length_pos r 1 (("[" : Str) ++ (if (0 : Nat) > 0 then ", " else "" : String) ++ t) (Nat.succ_pos 0)
    have e : (listText (t :: r)).length = (textFrom 1 (("[" : Str) ++ (if (0 : Nat) > 0 then ", " else "" : String) ++ t) r).length + 1 := strLen_append _ _
    rw [e, h, strLen_append, strLen_append, piled_cons]
    show 1 + 0 + t.length + piled r + 1 ≤ _
    omega
theorem piled_le {ts : List Str} {n : Nat} (h : ∀ t ∈ ts, t.length ≤ n) : piled ts ≤ ts.length * (n + 2) := by
  induction ts with
  | nil => exact Nat.zero_le _
  | cons t r ih =>
    have h1 := h t List.mem_cons_self
    have h2 := ih fun u hu => h u (List.mem_cons_of_mem _ hu)
    rw [piled_cons, List.length_cons, Nat.succ_mul]
    omega
theorem shownAll_map : ∀ ds : List PyData, PyData.shownAll ds = ds.map PyData.shown
  | [] => rfl
  | d :: r => congrArg (d.shown :: ·) (shownAll_map r)
theorem showableAll_iff : ∀ {ds : List PyData}, (∀ d ∈ ds, d.showable = true) → PyData.showableAll ds = true
  | [], _ => rfl
  | d :: r, h => by
    show (d.showable && PyData.showableAll r) = true
    rw [h d List.mem_cons_self, showableAll_iff fun e he => h e (List.mem_cons_of_mem _ he)]
    rfl
theorem hasDictAll_of : ∀ {ds : List PyData}, (∀ d ∈ ds, d.hasDict = false) → PyData.hasDictAll ds = false
  | [], _ => rfl
  | d :: r, h => by
    show (d.hasDict || PyData.hasDictAll r) = false
    rw [h d List.mem_cons_self, hasDictAll_of fun e he => h e (List.mem_cons_of_mem _ he)]
    rfl
theorem depthAll_le : ∀ {ds : List PyData} {n : Nat}, (∀ d ∈ ds, d.depth ≤ n) → PyData.depthAll ds ≤ n
  | [], _, _ => Nat.zero_le _
  | d :: r, n, h => Nat.max_le.mpr ⟨h d List.mem_cons_self, depthAll_le fun e he => h e (List.mem_cons_of_mem _ he)⟩
/-- d may be shown, in at most n signs, at most k deep -/
structure Showy (d : PyData) (k n : Nat) : Prop where
  sh : d.showable = true
  nd : d.hasDict = false
  dp : d.depth ≤ k
  ln : d.shown.length ≤ n
theorem Showy.list {ds : List PyData} {k n : Nat} (h : ∀ d ∈ ds, Showy d k n) : Showy (.list ds) (k + 1) (ds.length * (n + 2) + 2) := by
  refine ⟨showableAll_iff fun d hd => (h d hd).sh, hasDictAll_of fun d hd => (h d hd).nd, Nat.succ_le_succ (depthAll_le fun d hd => (h d hd).dp), ?_⟩
  show (listText (PyData.shownAll ds)).length ≤ _
  rw [shownAll_map]
  have h1 := listText_le (ds.map PyData.shown)
  have h2 := piled_le (ts := ds.map PyData.shown) (n := n) fun t ht => by
    obtain ⟨d, hd, rfl⟩ := List.mem_map.mp ht
    exact (h d hd).ln
  rw [List.length_map] at h2
  omega
theorem Showy.tuple {ds : List PyData} {k n : Nat} (h : ∀ d ∈ ds, Showy d k n) : Showy (.tuple ds) (k + 1) (ds.length * (n + 2) + 2) := by
  refine ⟨showableAll_iff fun d hd => (h d hd).sh, hasDictAll_of fun d hd => (h d hd).nd, Nat.succ_le_succ (depthAll_le fun d hd => (h d hd).dp), ?_⟩
  show (tupleText (PyData.shownAll ds)).length ≤ _
  rw [shownAll_map]
  have h1 := fmt_text (ds.map PyData.shown)
  have h2 := piled_le (ts := ds.map PyData.shown) (n := n) fun t ht => by
    obtain ⟨d, hd, rfl⟩ := List.mem_map.mp ht
    exact (h d hd).ln
  rw [List.length_map] at h2
  omega
theorem Showy.int {i : Int} (h : i.natAbs < 10 ^ 100) : Showy (.int i) 0 101 := by
  have hl : i.natAbs.log2 < 1920 := by
    by_cases h0 : i.natAbs = 0
    · rw [h0]; decide
    · exact (Nat.log2_lt h0).mpr (Nat.lt_of_lt_of_le h (by decide +kernel))
  refine ⟨decide_eq_true hl, rfl, Nat.le_refl _, ?_⟩
  show (Str.ofString (toString i)).length ≤ 101
  rw [PySem.ofString_length]
  exact int_text_length_le10 (k := 100) (by decide) h
theorem Showy.mono {d : PyData} {k k' n n' : Nat} (h : Showy d k n) (h1 : k ≤ k') (h2 : n ≤ n') : Showy d k' n' := ⟨h.sh, h.nd, Nat.le_trans h.dp h1, Nat.le_trans h.ln h2⟩
/-! ## places of words -/
open StrLaws in
theorem find_from (x y : Str) (lo : Nat) (hlo : lo ≤ x.length + 1) :
    ((match Builtin.Str.occurrences x y lo x.length 1 with | i :: _ => (i : Int) | [] => -1) = -1 ∧ ∀ i, lo ≤ i → ¬ At x y x.length i) ∨
    ∃ i : Nat, (match Builtin.Str.occurrences x y lo x.length 1 with | i :: _ => (i : Int) | [] => -1) = (i : Int) ∧ lo ≤ i ∧ At x y x.length i ∧ ∀ k, lo ≤ k → k < i → ¬ At x y x.length k := by
  rw [occ_eq]
  have inr : ∀ i, lo ≤ i → i ≤ x.length → i ∈ List.range' lo (x.length + 1 - lo) := fun i h1 h2 => by
    simp only [List.mem_range'_1]
    omega
  rcases occ_first x y x.length 1 (Nat.le_refl _) (List.range' lo (x.length + 1 - lo)) lo (fun i hi => (List.mem_range'_1.mp hi).1) with ⟨h0, hn⟩ | ⟨pre, a, post, e, h0, ha, hn⟩
  · refine .inl ⟨by rw [h0], fun i hi hA => hn i (inr i hi (Nat.le_trans (Nat.le_add_right _ _) hA.1)) hA⟩
  · refine .inr ⟨a, ?_, ?_, ha, fun k h1 h2 => ?_⟩
    · generalize (forIn (List.range' lo (x.length + 1 - lo)) ((#[] : Array Nat), lo) (occBody x y x.length 1)).run.fst = arr at h0
      have h1 : arr.toList[0]? = some a := by simpa using h0
      match hL : arr.toList with
      | [] => rw [hL] at h1; cases h1
      | b :: t => rw [hL] at h1; simp at h1; rw [h1]
    · exact (List.mem_range'_1.mp (by rw [e]; exact List.mem_append_right _ List.mem_cons_self : a ∈ List.range' lo (x.length + 1 - lo))).1
    · refine hn k ?_
      have hk : k ∈ pre ++ a :: post := by
        rw [← e]
        refine inr k h1 ?_
        have q := ha.1
        omega
      have pw : (pre ++ a :: post).Pairwise (· < ·) := by rw [← e]; exact List.pairwise_lt_range'
      rcases List.mem_append.mp hk with hk | hk
      · exact hk
      · rcases List.mem_cons.mp hk with rfl | hk
        · exact absurd h2 (Nat.lt_irrefl _)
        · have q := (List.pairwise_cons.mp (List.pairwise_append.mp pw).2.1).1 k hk
          omega
def atB (x w : Str) (i : Nat) : Bool := decide (i + w.length ≤ x.length) && Builtin.Str.subAt x w i
theorem atB_iff (x w : Str) (i : Nat) : atB x w i = true ↔ StrLaws.At x w x.length i := by
  unfold atB StrLaws.At
  simp
/-- all places of a word in a text -/
def plc (x w : Str) : List Nat := (List.range (x.length + 1)).filter (atB x w)
theorem filter_more {P : Nat → Bool} {lo m : Nat} (h : lo ≤ m) (hn : ∀ i, lo ≤ i → i < m → P i = false) : (List.range m).filter P = (List.range lo).filter P := by
  induction m with
  | zero => rw [Nat.le_zero.mp h]
  | succ m ih =>
    by_cases e : lo = m + 1
    · rw [e]
    · rw [List.range_succ, List.filter_append, ih (by omega) fun i h1 h2 => hn i h1 (by omega)]
      have q := hn m (by omega) (Nat.lt_succ_self _)
      simp [q]
theorem filter_snoc {P : Nat → Bool} {m : Nat} (h : P m = true) : (List.range (m + 1)).filter P = (List.range m).filter P ++ [m] := by
  rw [List.range_succ, List.filter_append]
  simp [h]
def plcI (x w : Str) : List Int := (plc x w).map Int.ofNat
def spPlaces (K : PySem.W.Frag) : Sp := fun vs H Q _ => ∃ (x w : Str), vs = [.str x, .str w] ∧ x.length ≤ 10000 ∧ w.length ≤ 10000 ∧
  ∀ (a : Addr) (H' : Hp), H a = none → H' a = some (.lst ((plcI x w).map V.int)) → Same H H' → Q (.ref a) H'
end Vk
set_option Elab.async false
set_option maxRecDepth 100000
set_option linter.all false
namespace Vk
open PySem PySem.Spec PyProof.Rows L2
/-! ## a text some times -/
section
variable {X : Cx}
end
/-! ## a def called by keywords alone -/
structure CalK (P : Program) (w : World) (K : PySem.W.Frag) (mg : Str → Option Value) (base : Heap) (CX : CXT) (k : Nat) (x : Str) (sp : Sp) (ks : List Str) (g : {α : Type} → List α → List α) : Prop where
  ex : ∃ (f : Addr) (fd : FuncData) (ps : List Str), FnG P w K mg base CX k f fd ps sp ∧ mg x = some (.ref f) ∧ PySem.W.keepIn K (.ref f) = true ∧
    (∀ (s : Shared) (ws : List Value), K.In s.heap → ws.length = ks.length → BindsTo s fd ⟨[], ks.zip ws⟩ (ps.zip (g ws))) ∧ ∀ (vs : List V) (ws : List Value), Vals vs ws → vs.length = ks.length → Vals (g vs) (g ws)
section
variable {X : Cx} {CX : CXT} {j k : Nat} {sp : Sp} {E : XK} {x : Str} {p pos : Pos} {kws : List Keyword} {tk : TA} {ks : List Str} {g : {α : Type} → List α → List α}
end
theorem ints_can (ns : List Int) : PyData.canLay0 (.list (ns.map PyData.int)) = true := ints_canLay ns
/-! ## a def of the text as the head leaves it -/
structure At (K : PySem.W.Frag) (x : Str) (st : Stmt) (f : Addr) (fd : FuncData) : Prop where
  ns : PySem.W.nsIn K mainGlobals x = some (some (.ref f))
  fn : Fun K x x st f fd
theorem at_mk {K : PySem.W.Frag} {x : Str} {st : Stmt} {f : Addr} {oc : Value} {od an : Option Addr} {sl : Array (Option Value)} {kV doc pm cd ct : Value} (a : PySem.W.nsIn K mainGlobals x = some (some (.ref f)))
    (l : K.lookup f = some ⟨oc, od, .func (PySem.W.fnOf x x (defArgs st) (defBody st) (defScope st) .none kV doc pm an cd ct), sl⟩) (c : PySem.W.codeIn K cd x = true) (k : PySem.W.keepIn K (.ref f) = true) :
    At K x st f (PySem.W.fnOf x x (defArgs st) (defBody st) (defScope st) .none kV doc pm an cd ct) := ⟨a, fun_mk l c k⟩
section
variable {K : PySem.W.Frag} {x y qual : Str} {st : Stmt} {f : Addr} {fd : FuncData} {ps ks : List Str} {g : List Value → List Value}
theorem _root_.L2.Fun.binds1 (F : Fun K x qual st f fd)
    (h : ∀ {kV doc pm : Value} {an : Option Addr} {cdv ct : Value} {v : Value}, bindArgs (PySem.W.fnOf x qual (defArgs st) (defBody st) (defScope st) .none kV doc pm an cdv ct) ⟨[v], []⟩ = pure [(y, v)]) :
    ∀ (s : Shared) (v : Value), BindsTo s fd ⟨[v], []⟩ [(y, v)] := by
  obtain ⟨oc, od, kV, doc, pm, an, cdv, ct, osl, rfl, lk, hcd⟩ := F.ex
  exact fun s v => .of_eq h
end
end Vk
set_option Elab.async false
set_option maxRecDepth 100000
set_option maxHeartbeats 4000000
set_option linter.all false
namespace PySem
namespace VkX
open PySem.W PySem.Calls PyProof.Rows Builtin Builtin.ObjectAttr PySem.HandSPX
/-! ## own exception classes straight below one of the four -/
structure ExB (B newId initId : String) (tl : List Value) : Prop where
  F : ExcBaseFacts B newId initId tl
  pass : ∀ self : Value, refuseLoop self "__setattr__" tl = pure ()
  obj : tl.contains (.type "object") = true
  refs : tl.all (fun v => match v with | .type _ => true | _ => false) = true
theorem exB_value : ExB "ValueError" "ValueError.__new__" "ValueError.__init__" [.type "ValueError", .type "Exception", .type "BaseException", .type "object"] := ⟨F.excBase_ValueError, fun _ => by kernel_rfl, by decide +kernel, rfl⟩
section
variable {M : Model} {A : Around} {E : Value → Shared → Prop} {h : Heap} {g : Array GenState} {d : Drawn} {t : Nat} {os : OsState}
variable {nm q : Str} {C N : Addr} {bs bm : List Value} {hdct : Bool} {sn : List Str} {sub : List Value} {ab : Bool} {col : Option Bool} {dd : Option Addr} {k0 k1 k2 k3 k5 : Option Value} {B newId initId : String}
theorem check_newK (F : ExcBaseFacts B newId initId bm) {rest : List Value} {kw : List (Str × Value)} {Q : Unit → Shared → Prop} (hC : h.get? C = some (excClassObj nm q C N bs bm hdct sn sub ab col dd k0 k1 k2 k3 k5 newId))
    (hq : Q () ⟨h, g, d, t, os⟩) : wpAny M A (checkBuiltinCall newId ⟨.ref C :: rest, kw⟩) Q E ⟨h, g, d, t, os⟩ := by
  have inB : (Value.ref C :: bm).contains (.type B) = true := by rw [List.contains_cons, F.hasB, Bool.or_true]
  have star := F.noStar
  simp only [checkBuiltinCall, F.newKind, F.newSplit, F.newRow]
  repeat (first | refine wpAny_loadPart_at hC ?_ | (refine wpAny_isSubtype_exc hC ?_; rw [inB]) | refine wpAny_staticBase_exc hC ?_ | refine wpAny_madeBy_exc hC ?_ | simp only [bne_self_eq_false, Bool.false_eq_true, if_false] | wp_step)
  exact hq
end
section
variable {prog : Program} {w : World} {A : Around} {E : Value → Shared → Prop} {R : Result → Shared → Prop} {h : Heap} {g : Array GenState} {d : Drawn} {t : Nat} {os : OsState}
variable {nm q : Str} {C N : Addr} {bs bm : List Value} {hdct : Bool} {sn : List Str} {sub : List Value} {ab : Bool} {col : Option Bool} {dd : Option Addr} {k0 k1 k2 k3 k5 : Option Value} {B newId initId : String}
theorem new_ownK (F : ExcBaseFacts B newId initId bm) {rest : List Value} {kw : List (Str × Value)} (hC : h.get? C = some (excClassObj nm q C N bs bm hdct sn sub ab col dd k0 k1 k2 k3 k5 newId))
    (hq : R (.ok (.ret (.ref (h.objs.size + 1)))) ⟨(h.push (W.kdv_tup rest)).push (excO C h.objs.size), g, d, t, os⟩) (hrest : rest.length ≤ sizeLine) :
    codeAny (model prog w) A (.builtin newId ⟨.ref C :: rest, kw⟩) R ⟨h, g, d, t, os⟩ := by
  have fends := F.ends
  have cB : (Value.ref C :: bm).contains (.type B) = true := by rw [List.contains_cons, F.hasB, Bool.or_true]
  have cA : (Value.ref C :: bm).contains (.type "AttributeError") = false := by rw [List.contains_cons, F.noAttr]; rfl
  have cN : (Value.ref C :: bm).contains (.type "NameError") = false := by rw [List.contains_cons, F.noName]; rfl
  refine codeAny_builtinAt F.entry ?_
  unfold Builtin.«BaseException.__new__»
  refine wpAt_bind (show wpAt _ _ _ (stack >>= _) _ _ _ from wpAt_bind (wpAt_stack fun p below => wpAt_of_wpAny ?_))
  wp_walk
  refine wpAt_of_wpAny ?_
  rw [F.owner]
  repeat (first | with_reducible refine wpAny_madeHere_exc F.canon hC ?_ | with_reducible refine wpAny_loadPart_at hC ?_ | (with_reducible refine wpAny_isSubtype_exc hC ?_; first | rw [cB] | rw [cA] | rw [cN]) | wp_step)
  exact (show R _ _ by rw [Heap.size_push]; exact hq)
theorem check_callK {M : Model} {rest : List Value} {kw : List (Str × Value)} {Q : Unit → Shared → Prop} (hC : h.get? C = some (excClassObj nm q C N bs bm hdct sn sub ab col dd k0 k1 k2 k3 k5 newId)) (hq : Q () ⟨h, g, d, t, os⟩) : wpAny M A (checkBuiltinCall "type.__call__" ⟨.ref C :: rest, kw⟩) Q E ⟨h, g, d, t, os⟩ := by
  have own := tc_sub
  have typed : (⟨h, g, d, t, os⟩ : Shared).TypeIs (.ref C) "type" := ⟨_, hC, rfl⟩
  simp only [checkBuiltinCall, tc_kind, tc_split]
  repeat (any_goals (first | assumption | with_reducible refine wpAny_loadPart_at hC ?_ | with_reducible refine wpAny_onRaise ?_ | with_reducible refine wpAny_map ?_ | wp_step))
theorem type_callK (F : ExcBaseFacts B newId initId bm) {rest : List Value} {kw : List (Str × Value)} {fI : Addr} {Q : Fin → Shared → Prop} (hC : h.get? C = some (excClassObj nm q C N bs bm hdct sn sub ab col dd k0 k1 k2 k3 k5 newId))
    (hi : W.Looks (model prog w) h (typeLookup (.ref C) "__init__") (some (.ref fI))) (hb : ∀ self, W.Looks (model prog w) h (bindSpecial (.ref fI) self) (.ref fI, [self])) (hrest : rest.length ≤ sizeLine)
    (hq : codeAny (model prog w) A (.call (.ref fI) ⟨.ref (h.objs.size + 1) :: rest, kw⟩)
      (fun r s' => match r with | .ok (.ret v) => v = .none ∧ Q (.done (.ret (.ref (h.objs.size + 1)))) s' | .ok _ => False | .error e => E e s')
      ⟨(h.push (W.kdv_tup rest)).push (excO C h.objs.size), g, d, t, os⟩) :
    wpAny (model prog w) A (Builtin.«type.__call__» ⟨.ref C :: rest, kw⟩) Q E ⟨h, g, d, t, os⟩ := by
  repeat (first | with_reducible refine wpAny_loadPart_at hC ?_ | with_reducible refine wpAny_madeBy_exc hC ?_ | wp_step)
  refine codeAny_call_builtin_code (Code.quiet_builtin _ F.quiet) (check_newK F hC (new_ownK F hC (show wpAny _ _ _ _ _ _ from ?_) hrest))
  have kp : ∀ b o, h.get? b = some o → ((h.push (W.kdv_tup rest)).push (excO C h.objs.size)).get? b = some o := fun b o e => Heap.get?_push_of_some _ (Heap.get?_push_of_some _ e)
  have hC1 := kp _ _ hC
  have made : ((h.push (W.kdv_tup rest)).push (excO C h.objs.size)).get? (h.objs.size + 1) = some (excO C h.objs.size) := by heap_get
  have self1 : (Value.ref C :: bm).contains (.ref C) = true := by simp
  have looked := hi.keeps kp
  have bound := (hb (.ref (h.objs.size + 1))).keeps kp
  unfold isInstance
  repeat (first | with_reducible refine wpAny_loadPart_at made ?_ | (with_reducible refine wpAny_isSubtype_exc hC1 ?_; rw [self1]) | wp_step)
  refine (show wpAny _ _ (typeLookup (.ref C) _) _ _ _ from looked.at (wpAny_holding (wpAny_bind (bound.at (wpAny_bind (wpAny_call (codeAny_mono hq fun res s2 z => ?_)))))))
  match res, z with
  | .error e, z => exact z
  | .ok (.ret v), z =>
    obtain ⟨rfl, z⟩ := z
    first
      | exact wpAny_pure (wpAny_pure z)
      | (wp_walk; exact z)
  | .ok .next, z => exact z.elim
  | .ok .brk, z => exact z.elim
  | .ok .cont, z => exact z.elim
theorem call_ownK (F : ExcBaseFacts B newId initId bm) {rest : List Value} {kw : List (Str × Value)} {fI : Addr} (hC : h.get? C = some (excClassObj nm q C N bs bm hdct sn sub ab col dd k0 k1 k2 k3 k5 newId))
    (hi : W.Looks (model prog w) h (typeLookup (.ref C) "__init__") (some (.ref fI))) (hb : ∀ self, W.Looks (model prog w) h (bindSpecial (.ref fI) self) (.ref fI, [self])) (hrest : rest.length ≤ sizeLine)
    (hq : codeAny (model prog w) (A.under (.builtin "type.__call__" ⟨.ref C :: rest, kw⟩)) (.call (.ref fI) ⟨.ref (h.objs.size + 1) :: rest, kw⟩) (W.InitBack (h.objs.size + 1) R)
      ⟨(h.push (W.kdv_tup rest)).push (excO C h.objs.size), g, d, t, os⟩) :
    codeAny (model prog w) A (.call (.ref C) ⟨rest, kw⟩) R ⟨h, g, d, t, os⟩ := by
  have l1 := tc_lookup
  have l2 := tc_bind (.ref C)
  have hTy : (⟨h, g, d, t, os⟩ : Shared).TypeIs (.ref C) "type" := ⟨_, hC, rfl⟩
  refine codeAny_of_tree (show wpAny _ _ (callAny (.ref C) _) _ _ _ from ?_)
  repeat (any_goals (first | assumption | with_reducible refine wpAny_loadPart_at hC ?_ | wp_step))
  refine ⟨rfl, codeAny_call_builtin_at (Code.quiet_builtin _ (by decide +kernel)) entry_typeCall (check_callK hC (type_callK F hC hi hb hrest (codeAny_mono hq fun res s2 z => ?_)))⟩
  match res, z with
  | .error e, z => exact z
  | .ok (.ret v), z => exact z
  | .ok .next, z => exact z.elim
  | .ok .brk, z => exact z.elim
  | .ok .cont, z => exact z.elim
end
end VkX
end PySem
set_option Elab.async false
set_option maxRecDepth 100000
set_option maxHeartbeats 4000000
set_option linter.all false
namespace PySem
namespace VkX
open PySem.W PySem.Calls PyProof.Rows Builtin Builtin.ObjectAttr PySem.HandSPX
section
variable {prog : Program} {w : World} {A : Around} {E : Value → Shared → Prop} {R : Result → Shared → Prop} {hp : Heap} {g : Array GenState} {d : Drawn} {t : Nat} {os : OsState}
/-- object.__setattr__ on an exception of an own class, up to the store into its own dict -/
theorem osa_way {K : Frag} {name : Str} {tk : Tok} {v : Value} {x C : Addr} {ox : Obj} {od : Option Obj} {cd : ClassData} {B newId initId : String} {tl : List Value} (hB : ExB B newId initId tl)
    (X : K.In hp) (I : InstAt hp x ox C od) (hcd : clsIn K C = some cd) (hm : cd.mro = .ref C :: tl) (ha : findIn K (.ref C) name = some none)
    (hq : wpAny (model prog w) (A.under (.builtin "object.__setattr__" ⟨[.ref x, .str name tk, v], []⟩)) (storeInOwnDict (.ref x) (.ref C) (.str name tk) name v false)
      (fun fin s2 => match fin with | .done f => R (.ok f) s2 | .again c2 => c2.quiet = true ∧ codeAny (model prog w) A c2 R s2) (fun e s2 => R (.error e) s2) ⟨hp, g, d, t, os⟩) :
    codeAny (model prog w) A (.call (.builtin "object.__setattr__") ⟨[.ref x, .str name tk, v], []⟩) R ⟨hp, g, d, t, os⟩ := by
  have slot := F.store_object
  have some1 : cd.mro.isEmpty = false := by rw [hm]; rfl
  have obj1 : cd.mro.contains (.type "object") = true := by rw [hm, List.contains_cons, hB.obj, Bool.or_true]
  have within : Looks (model prog w) hp (isInstance (.ref x) (.type "object")) true := I.type.andThen (looks_mroIn X (by unfold mroIn; rw [hcd, Option.bind_some, if_neg (by rw [some1]; decide), obj1]))
  refine codeAny_call_builtin slot.slot.plain slot.entry (@check_slot (model prog w) _ _ ⟨hp, g, d, t, os⟩ "object.__setattr__" "object" "__setattr__" (.ref x) [.str name tk, v] [] _ slot.kind slot.split within (slot.args (.ref x) (.str name tk) v) ?_)
  have line : Looks (model prog w) hp (mroOf (.ref C)) cd.mro := (looks_clsIn X hcd).andThen .now
  rw [osa_eq, refuse_eq]
  refine wpAny_bind (wpAny_bind (I.type.at (wpAny_bind (line.at ?_))))
  rw [hm, refuseLoop_ref, hB.pass]
  exact wpAny_pure (wpAny_bind (I.type.at (wpAny_bind ((looks_findIn X ha).at (wpAny_bind ((show Looks (model prog w) hp (storeTaker? none) none from .now).at hq))))))
theorem osa_first {K : Frag} {name : Str} {tk : Tok} {v : Value} {x C : Addr} {fv : Array Value} {cd : ClassData} {B newId initId : String} {tl : List Value} (hB : ExB B newId initId tl)
    (X : K.In hp) (hx : hp.get? x = some { cls := .ref C, data := .fields fv }) (hcd : clsIn K C = some cd) (hm : cd.mro = .ref C :: tl) (hd : cd.hasDict = true) (ha : findIn K (.ref C) name = some none)
    (hq : ∀ h2 tk2 dx, (∀ b o, b ≠ x → hp.get? b = some o → h2.get? b = some o) → hp.objs.size ≤ dx → dx ≠ x → h2.get? x = some { cls := .ref C, dict := some dx, data := .fields fv } →
      h2.Ns1 dx (fun y => if y = name then some v else none) → R (.ok (.ret .none)) ⟨h2, g, d, tk2, os⟩) :
    codeAny (model prog w) A (.call (.builtin "object.__setattr__") ⟨[.ref x, .str name tk, v], []⟩) R ⟨hp, g, d, t, os⟩ := by
  refine osa_way hB X (ox := { cls := .ref C, data := .fields fv }) (od := none) ⟨hx, rfl, rfl, trivial⟩ hcd hm ha ?_
  have far : x ≠ hp.objs.size := Nat.ne_of_lt (Heap.lt_size hx)
  have whole : Looks (model prog w) hp (classData C) cd := looks_clsIn X hcd
  obtain ⟨c1, c2, c3, c4, c5, c6, c7, c8, c9, c10, c11⟩ := cd
  cases (show c6 = true from hd)
  unfold storeInOwnDict ownDictForStores
  repeat (first | with_reducible refine store_in_new ?_ ?_ | with_reducible refine wpAny_loadPart_at hx ?_ | with_reducible refine whole.at ?_ | wp_step)
  · exact ⟨_, #[], _, (Heap.get?_update_ne _ _ _ _ far.symm).trans (Heap.get?_push_at rfl rfl), rfl, fun e he => absurd he (by simp), fun _ => rfl⟩
  · intro h2 tk2 ns same
    have there : (hp.push { cls := .type "dict", data := .dict #[] }).get? x = some { cls := .ref C, data := .fields fv } := Heap.get?_push_of_some _ hx
    exact hq h2 tk2 hp.objs.size (fun b o hb ho => (same.2 b (Nat.ne_of_lt (Heap.lt_size ho))).trans ((Heap.get?_update_ne _ _ _ _ hb).trans (Heap.get?_push_of_some _ ho))) (Nat.le_refl _) far.symm
      ((same.2 x far).trans (Heap.get?_update_self _ there rfl)) ns
theorem osa_next {K : Frag} {name : Str} {tk : Tok} {v : Value} {x C dx : Addr} {fv : Array Value} {cd : ClassData} {m0 : Str → Option Value} {nl : List Str} {B newId initId : String} {tl : List Value} (hB : ExB B newId initId tl)
    (X : K.In hp) (hx : hp.get? x = some { cls := .ref C, dict := some dx, data := .fields fv }) (hns : hp.Ns1 dx m0) (hw : Within m0 nl) (hz : nl.length ≤ 1000) (hcd : clsIn K C = some cd) (hm : cd.mro = .ref C :: tl) (hd : cd.hasDict = true) (ha : findIn K (.ref C) name = some none)
    (hq : ∀ h2 tk2, (∀ b o, b ≠ dx → hp.get? b = some o → h2.get? b = some o) → h2.Ns1 dx (fun y => if y = name then some v else m0 y) → R (.ok (.ret .none)) ⟨h2, g, d, tk2, os⟩) :
    codeAny (model prog w) A (.call (.builtin "object.__setattr__") ⟨[.ref x, .str name tk, v], []⟩) R ⟨hp, g, d, t, os⟩ := by
  obtain ⟨oD, esD, epD, hoD, hdD, _⟩ := hns.count hw
  refine osa_way hB X (ox := { cls := .ref C, dict := some dx, data := .fields fv }) (od := some oD) ⟨hx, rfl, rfl, hoD⟩ hcd hm ha ?_
  have whole : Looks (model prog w) hp (classData C) cd := looks_clsIn X hcd
  obtain ⟨c1, c2, c3, c4, c5, c6, c7, c8, c9, c10, c11⟩ := cd
  cases (show c6 = true from hd)
  unfold storeInOwnDict ownDictForStores
  repeat (first | with_reducible refine PySem.OEX.store_in_old hns hw hz ?_ | with_reducible refine wpAny_loadPart_at hx ?_ | with_reducible refine whole.at ?_ | wp_step)
  intro h2 tk2 ns same
  exact hq h2 tk2 (fun b o hb ho => (same.2 b hb).trans ho) ns
end
end VkX
end PySem
namespace Vk
open L2 PySem PySem.Spec PyProof.Rows PySem.VkX
/-- what the written part says of an own exception class over one of the four -/
structure OexK (K : PySem.W.Frag) (C : Addr) : Prop where
  cls : ∃ B newId initId tl nm q N bs sn sub ab col dd k0 k1 k2 k3 k5, ExB B newId initId tl ∧ K.lookup C = some (excClassObj nm q C N bs tl true sn sub ab col dd k0 k1 k2 k3 k5 newId)
  sa : PySem.W.findIn K (.ref C) "__setattr__" = some (some (.builtin "object.__setattr__"))
  kC : PySem.W.keepIn K (.ref C) = true
  xf : XfC K C
  ic : ExcC K C
section
variable {X : Cx} {pins : List (Addr × Obj)} {σ : L2.St} {H : Hp} {s : Shared} {a C dx : Addr} {f : Str} {y : V} {u : Value} {fs : List (Str × V)} {Q : Unit → Shared → Prop} {E : Value → Shared → Prop} {A : Around}
theorem kst_first (T : OexK X.K C) (I : Inv X pins σ H s) (e : H a = some (exo a C none)) (hno : PySem.W.findIn X.K (.ref C) f = some none) (ry : RelV y u)
    (h : ∀ dx s2, H dx = none → dx ≠ a → Inv X pins σ (upd (upd H dx (exd dx [(f, y)])) a (exo a C (some dx))) s2 → Q () s2) : wpAny (model X.prog X.w) A (setAttr (.ref a) f u) Q E s := by
  obtain ⟨B, newId, initId, tl, nm, q, N, bs, sn, sub, ab, col, dd, k0, k1, k2, k3, k5, hB, hC⟩ := T.cls
  have hcl : PySem.W.clsIn X.K C = some { name := nm, bases := bs, mro := .ref C :: tl, ns := N, qualname := q, hasDict := true, slotNames := sn, subclasses := sub, abstract := ab, collection := col, hasDel := false } := by unfold PySem.W.clsIn; rw [hC] <;> rfl
  obtain ⟨t1, ho⟩ := exo_at I.hok e
  obtain ⟨hp, g, d, t, os⟩ := s
  refine PySem.W.set_plain I.kIn (ox := { cls := .ref C, dict := none, data := .fields #[.ref t1, .none, .none, .none, .bool false, .none] }) (od := none) ⟨ho, rfl, rfl, trivial⟩ T.sa ?_
  refine osa_first hB I.kIn ho hcl rfl rfl hno fun h2 tk2 dx kept low apart put ns => ?_
  have free1 : H dx = none := I.hok.fresh low
  have old1 : ∀ {b : Addr} {o : Obj}, hp.get? b = some o → b ≠ dx := fun z => Nat.ne_of_lt (Nat.lt_of_lt_of_le (Heap.lt_size z) low)
  have not1 : ∀ {b : Addr}, H b = none → b ≠ a := fun n z => nomatch (z ▸ n).symm.trans e
  have un1 : Un X.fs [] H (upd (upd H dx (exd dx [(f, y)])) a (exo a C (some dx))) hp h2 := {
    keep := fun b o z n _ _ => kept b o (not1 n) z
    slot := fun b o z n _ _ => ⟨o.slots, kept b o (not1 n) z⟩
    free := fun b o z n _ => (upd_ne (not1 n)).trans ((upd_ne (old1 z)).trans n)
    there := fun b o z _ => by
      by_cases hb : b = a
      · exact ⟨_, hb ▸ put⟩
      · exact ⟨o, kept b o hb z⟩
    tups := fun b xs z => (upd_ne (at_ne e z exo_tup)).trans ((upd_ne (ne_of_none z free1)).trans z)
    frzs := fun b o v z => (upd_ne (at_ne e z exo_frz)).trans ((upd_ne (ne_of_none z free1)).trans z)
    tbls := fun b ps z => ⟨#[], by rw [upd_ne (at_ne e z exo_tbl), upd_ne (ne_of_none z free1), z]; simp⟩ }
  refine h dx _ free1 apart (I.un (t' := tk2) un1 fun b o z => ?_)
  by_cases hb : b = a
  · subst hb
    rw [upd_same] at z
    cases z
    exact exo_ok put
  · rw [upd_ne hb] at z
    by_cases hd : b = dx
    · subst hd
      rw [upd_same] at z
      cases z
      exact exd_ok ns (relO_put (fs := []) ry fun g => True.intro)
    · rw [upd_ne hd] at z
      refine (I.hok b o z).stay (fun c v hc r => kept c v ?_ r) (fun c hc => (upd_ne (at_ne e hc exo_own)).trans ((upd_ne (ne_of_none hc free1)).trans hc)) (fun c xs hc => (upd_ne (at_ne e hc exo_tup)).trans ((upd_ne (ne_of_none hc free1)).trans hc))
      exact hc.elim (fun z => z ▸ hb) (fun z => at_ne e z exo_own)
theorem kst_next (T : OexK X.K C) (I : Inv X pins σ H s) (e : H a = some (exo a C (some dx))) (ed : H dx = some (exd dx fs)) (hl : fs.length ≤ 900) (hno : PySem.W.findIn X.K (.ref C) f = some none) (ry : RelV y u)
    (h : ∀ s2, Inv X pins σ (upd H dx (exd dx ((f, y) :: fs))) s2 → Q () s2) : wpAny (model X.prog X.w) A (setAttr (.ref a) f u) Q E s := by
  obtain ⟨B, newId, initId, tl, nm, q, N, bs, sn, sub, ab, col, dd, k0, k1, k2, k3, k5, hB, hC⟩ := T.cls
  have hcl : PySem.W.clsIn X.K C = some { name := nm, bases := bs, mro := .ref C :: tl, ns := N, qualname := q, hasDict := true, slotNames := sn, subclasses := sub, abstract := ab, collection := col, hasDel := false } := by unfold PySem.W.clsIn; rw [hC] <;> rfl
  obtain ⟨t1, ho⟩ := exo_at I.hok e
  obtain ⟨mA, hns, rel⟩ := exd_at I.hok ed
  have hw := within_of rel
  obtain ⟨hp, g, d, t, os⟩ := s
  obtain ⟨oD, _, _, hoD, _, _⟩ := hns.count hw
  refine PySem.W.set_plain I.kIn (ox := { cls := .ref C, dict := some dx, data := .fields #[.ref t1, .none, .none, .none, .bool false, .none] }) (od := some oD) ⟨ho, rfl, rfl, hoD⟩ T.sa ?_
  refine osa_next hB I.kIn ho hns hw (by rw [List.length_map]; omega) hcl rfl rfl hno fun h2 tk2 kept ns => ?_
  exact h _ (I.write (t' := tk2) (x := dx) (e := dx) (o := exd dx ((f, y) :: fs)) (by rw [ed]; exact True.intro) (.inl rfl) kept (match ns with | ⟨o, _, _, z, _⟩ => ⟨o, z⟩) (exd_ok ns (relO_put ry rel)))
end
/-- self.f = e on such an exception -/
def tOsk (K : PySem.W.Frag) (f : Str) (to te : TE) : TS := fun D σ H => te σ H fun y H1 => to σ H1 fun x H2 => ∃ a C : Addr, x = .ref a ∧ OexK K C ∧ PySem.W.findIn K (.ref C) f = some none ∧
  ((H2 a = some (exo a C none) ∧ ∀ dx, H2 dx = none → dx ≠ a → D.nx σ (upd (upd H2 dx (exd dx [(f, y)])) a (exo a C (some dx)))) ∨
    ∃ (dx : Addr) (fs : List (Str × V)), H2 a = some (exo a C (some dx)) ∧ H2 dx = some (exd dx fs) ∧ fs.length ≤ 900 ∧ D.nx σ (upd H2 dx (exd dx ((f, y) :: fs))))
section
variable {X : Cx} {o e : Expr} {es : List Expr} {to te : TE} {ta : TA} {f : Str} {p p' p1 p2 pos : Pos}
theorem ps_osk (ho : PE X o to) (he : PE X e te) (hs : swapsWith e (some (.Attribute o f p')) pos.line X.env = pure false := by rfl) : PS X (.Assign [.Attribute o f p'] e pos) (tOsk X.K f to te) := by
  refine ⟨fun pins s σ H D I h => plainObj_wpAny_Assign_Attribute (thn (he.run pins s σ H _ I h) fun v s1 ⟨y, H1, I1, r1, q1⟩ => thn (ho.run pins s1 σ H1 _ I1 q1) fun u s2 ⟨x, H2, I2, r2, a, C, ex, T, hno, q⟩ => ?_) hs⟩
  subst ex
  obtain rfl : u = Value.ref a := r2
  exact q.elim (fun z => kst_first T I2 z.1 hno r1 fun dx s3 n ne J => ⟨σ, _, J, z.2 dx n ne⟩) (fun ⟨dx, fs, ea, ed, hl, z⟩ => kst_next T I2 ea ed hl hno r1 fun s3 J => ⟨σ, _, J, z⟩)
end
end Vk
set_option Elab.async false
set_option maxRecDepth 100000
set_option maxHeartbeats 4000000
set_option linter.all false
namespace Vk
open L2 PySem PySem.Spec PyProof.Rows PySem.VkX
/-! ## making one -/
/-- __init__(self, f1, ..): the fields stored in their order -/
def spIni (C : Addr) (fsn : List Str) : Sp := fun vs H Q E => ∃ a ws, vs = .ref a :: ws ∧ ws.length = fsn.length ∧ H a = some (exo a C none) ∧
  (fsn = [] → Q .non H) ∧ (fsn ≠ [] → ∀ d, H d = none → d ≠ a → Q .non (upd (upd H d (exd d (fsn.zip ws).reverse)) a (exo a C (some d))))
structure ClsI (P : Program) (w : World) (K : PySem.W.Frag) (mg : Str → Option Value) (base : Heap) (k : Nat) (x : Str) (C : Addr) (fsn : List Str) : Prop where
  T : OexK K C
  hm : mg x = some (.ref C)
  no : ∀ f ∈ fsn, PySem.W.findIn K (.ref C) f = some none
  ex : ∃ (fI : Addr) (fd : FuncData), PySem.W.findIn K (.ref C) "__init__" = some (some (.ref fI)) ∧ PySem.W.typeIn K (.ref fI) = some (.type "function") ∧ FnG P w K mg base CX0 k fI fd (("self" : Str) :: fsn) (spIni C fsn) ∧ Binds K fd (("self" : Str) :: fsn) [] ∧
    (∀ (s : Shared) (v : Value) (ws : List Value), K.In s.heap → ws.length = fsn.length → BindsTo s fd ⟨[v], fsn.reverse.zip ws⟩ ((("self" : Str) :: fsn).zip (v :: ws.reverse)))
/-- the exception that was made of H: at a, and its dict -/
def Made (C : Addr) (fsn : List Str) (vs : List V) (H : Hp) (Q : VK) : Prop := ∀ a, H a = none → (fsn = [] → Q (.ref a) (upd H a (exo a C none))) ∧
  (fsn ≠ [] → ∀ d, H d = none → d ≠ a → Q (.ref a) (upd (upd H d (exd d (fsn.zip vs).reverse)) a (exo a C (some d))))
theorem upd_over {H : Hp} {a d : Addr} {o1 o2 o3 : HO} (h : d ≠ a) : upd (upd (upd H a o1) d o2) a o3 = upd (upd H d o2) a o3 := by
  funext b
  by_cases hb : b = a
  · subst hb; rw [upd_same, upd_same]
  · rw [upd_ne hb, upd_ne hb]
    by_cases hd : b = d
    · subst hd; rw [upd_same, upd_same]
    · rw [upd_ne hd, upd_ne hd, upd_ne hb]
section
variable {X : Cx} {j k : Nat} {x : Str} {C : Addr} {fsn : List Str} {p pos : Pos} {e : Expr} {es : List Expr} {t : TA}
theorem few_len {n : Nat} (h : n ≤ 1000) : n ≤ sizeLine := Nat.le_trans h (by rw [sizeLine_eq]; decide)
end
end Vk
set_option Elab.async false
set_option maxRecDepth 100000
set_option maxHeartbeats 4000000
set_option linter.all false
namespace Vk
open L2 PySem PySem.Spec PyProof.Rows PySem.VkX
/-- the j-th statement of a class -/
def mtd (st : Stmt) (j : Nat) : Stmt := match st with
  | .ClassDef _ _ _ b _ _ _ _ _ _ _ => b.getD j (.Pass ⟨0, 0, 0, 0⟩)
  | _ => .Pass ⟨0, 0, 0, 0⟩
theorem no1 {P : Str → Prop} {a : Str} (h : P a) : ∀ f ∈ ([a] : List Str), P f := fun f z => by
  rw [List.mem_singleton] at z
  exact z ▸ h
theorem no2 {P : Str → Prop} {a b : Str} (h : P a) (h2 : P b) : ∀ f ∈ ([a, b] : List Str), P f := fun f z => by
  rcases List.mem_cons.mp z with z | z
  · exact z ▸ h
  · rw [List.mem_singleton] at z
    exact z ▸ h2
/-- the class at C has the name x and these classes behind it -/
def ClsN (K : PySem.W.Frag) (C : Addr) (x : Str) (tl : List Value) : Prop := ∃ newId q N bs sn sub ab col dd k0 k1 k2 k3 k5, K.lookup C = some (excClassObj x q C N bs tl true sn sub ab col dd k0 k1 k2 k3 k5 newId)
structure ExcTxt (K : PySem.W.Frag) (x qual : Str) (st : Stmt) (C fI : Addr) (fd : FuncData) (fsn : List Str) (tl : List Value) : Prop where
  cn : ClsN K C x tl
  ns : PySem.W.nsIn K mainGlobals x = some (some (.ref C))
  T : OexK K C
  iC : PySem.W.findIn K (.ref C) "__init__" = some (some (.ref fI))
  tI : PySem.W.typeIn K (.ref fI) = some (.type "function")
  no : ∀ f ∈ fsn, PySem.W.findIn K (.ref C) f = some none
  fn : Fun K "__init__" qual st fI fd
theorem exc_mk {K : PySem.W.Frag} {x qual : Str} {st : Stmt} {C fI : Addr} {fsn : List Str} {B newId initId : String} {tl : List Value} {q : Str} {N : Addr} {bs : List Value} {sn : List Str} {sub : List Value} {ab : Bool} {col : Option Bool} {dd : Option Addr} {k0 k1 k2 k3 k5 : Option Value}
    {oc : Value} {od an : Option Addr} {sl : Array (Option Value)} {kV doc pm cd ct : Value} (hB : ExB B newId initId tl) (ns : PySem.W.nsIn K mainGlobals x = some (some (.ref C))) (iC : PySem.W.findIn K (.ref C) "__init__" = some (some (.ref fI)))
    (cls : K.lookup C = some (excClassObj x q C N bs tl true sn sub ab col dd k0 k1 k2 k3 k5 newId)) (sa : PySem.W.findIn K (.ref C) "__setattr__" = some (some (.builtin "object.__setattr__"))) (kC : PySem.W.keepIn K (.ref C) = true)
    (ga : PySem.W.findIn K (.ref C) "__getattribute__" = some (some (.builtin "BaseException.__getattribute__"))) (gg : PySem.W.findIn K (.ref C) "__getattr__" = some none) (ex : PySem.W.subIn K (.ref C) (.type "BaseException") = some true) (hd : PySem.W.hasDictIn K C = true)
    (ha : PySem.W.findIn K (.ref C) "__class__" = some (some (.builtin "object.__class__"))) (hn : PySem.W.specialIn K (.builtin "object.__class__") "__get__" = some (some (.builtin "getset_descriptor.__get__"))) (ht : PySem.W.takesIn K (.builtin "object.__class__") = some true)
    (hm : PySem.W.mroIn K C (.type "object") = some true) (tI : PySem.W.typeIn K (.ref fI) = some (.type "function")) (kI : PySem.W.keepIn K (.ref fI) = true) (no : ∀ f ∈ fsn, PySem.W.findIn K (.ref C) f = some none)
    (l : K.lookup fI = some ⟨oc, od, .func (PySem.W.fnOf "__init__" qual (defArgs st) (defBody st) (defScope st) .none kV doc pm an cd ct), sl⟩) (c : PySem.W.codeIn K cd qual = true) :
    ExcTxt K x qual st C fI (PySem.W.fnOf "__init__" qual (defArgs st) (defBody st) (defScope st) .none kV doc pm an cd ct) fsn tl := by
  exact ⟨⟨newId, q, N, bs, sn, sub, ab, col, dd, k0, k1, k2, k3, k5, cls⟩, ns, ⟨⟨B, newId, initId, tl, x, q, N, bs, sn, sub, ab, col, dd, k0, k1, k2, k3, k5, hB, cls⟩, sa, kC, ⟨ga, gg, ex, hd⟩, ⟨ga, gg, ex, hd, ha, hn, ht, hm⟩⟩, iC, tI, no, fun_mk l c kI⟩
section
variable {P : Program} {w : World} {K : PySem.W.Frag} {mg : Str → Option Value} {base h : Heap} {x qual f f2 : Str} {st : Stmt} {C fI : Addr} {fd : FuncData} {p1 p2 p3 p4 q1 q2 q3 q4 : Pos}
theorem ClsI.of1 {tl : List Value} (G : ExcTxt K x qual st C fI fd [f] tl) (KX : K.In h) (Gn : h.Ns mainGlobals mg) (F : FnG P w K mg base CX0 1 fI fd [("self" : Str), f] (spIni C [f]))
    (hb : ∀ (kV doc pm : Value) (an : Option Addr) (cdv ct v y : Value), bindArgs (PySem.W.fnOf "__init__" qual (defArgs st) (defBody st) (defScope st) .none kV doc pm an cdv ct) ⟨[v, y], []⟩ = pure [(("self" : Str), v), (f, y)])
    (hk : ∀ (kV doc pm : Value) (an : Option Addr) (cdv ct v y : Value), bindArgs (PySem.W.fnOf "__init__" qual (defArgs st) (defBody st) (defScope st) .none kV doc pm an cdv ct) ⟨[v], [((f : Str), y)]⟩ = pure [(("self" : Str), v), (f, y)]) : ClsI P w K mg base 1 x C [f] where
  T := G.T
  hm := PySem.W.mg_of KX Gn G.ns
  no := G.no
  ex := ⟨fI, fd, G.iC, G.tI, F, G.fn.binds fun kV doc pm an cdv ct us hl => match us, hl with | [v, y], _ => hb kV doc pm an cdv ct v y, fun s v ws KI hl => by
    match ws, hl with
    | [y], _ =>
      obtain ⟨oc, od, kV, doc, pm, an, cdv, ct, osl, rfl, lk, hcd⟩ := G.fn.ex
      exact .of_eq (hk kV doc pm an cdv ct v y)⟩
end
end Vk
namespace Vk
open L2 PySem PySem.Spec PyProof.Rows PySem.VkX
end Vk
set_option Elab.async false
set_option maxRecDepth 100000
set_option maxHeartbeats 4000000
set_option linter.all false
namespace Vk
open L2 PySem PySem.Spec PyProof.Rows PySem.VkX
/-! ## values that are shown, dicts among them -/
inductive Atm : V → PyData → Prop
  | non : Atm .non .none
  | bl (b : Bool) : Atm (.bl b) (.bool b)
  | int (i : Int) : Atm (.int i) (.int i)
  | str (x : Str) : Atm (.str x) (.str x)
def kvS (ps : List (Str × Str)) : List (Key × V) := ps.map fun p => (Sum.inr p.1, V.str p.2)
def kvD (ps : List (Str × Str)) : List (PyData × PyData) := ps.map fun p => (.str p.1, .str p.2)
/-- one level deep -/
inductive Th (H : Hp) : V → PyData → Prop
  | atm {v : V} {d : PyData} : Atm v d → Th H v d
  | lst {a : Addr} {xs : List V} {ds : List PyData} : H a = some (.lst xs) → a ≠ sysModules → Paired Atm xs ds → Th H (.ref a) (.list ds)
  | tup {a : Addr} {xs : List V} {ds : List PyData} : H a = some (.tup xs) → Paired Atm xs ds → Th H (.ref a) (.tuple ds)
  | dct {a : Addr} {ps : List (Str × Str)} : H a = some (.dK (kvS ps)) → Th H (.ref a) (.dict (kvD ps))
theorem Th.keep {H H' : Hp} {v : V} {d : PyData} (h : Th H v d) (k : ∀ a o, H a = some o → H' a = some o) : Th H' v d := by
  cases h with
  | atm h => exact .atm h
  | lst e n h => exact .lst (k _ _ e) n h
  | tup e h => exact .tup (k _ _ e) h
  | dct e => exact .dct (k _ _ e)
section
variable {X : Cx} {pins : List (Addr × Obj)} {σ : L2.St} {H : Hp} {s : Shared}
theorem Atm.reads {h : Heap} {v : V} {u : Value} {d : PyData} (a : Atm v d) (r : RelV v u) : Reads h u d [] ∧ d.hasDict = false := by
  cases a with
  | non => cases r; exact ⟨Reads.none, by simp only [PyData.hasDict]⟩
  | bl b => cases r; exact ⟨Reads.bool b, by simp only [PyData.hasDict]⟩
  | int i => obtain ⟨t, rfl⟩ := r; exact ⟨Reads.int i t, by simp only [PyData.hasDict]⟩
  | str x => obtain ⟨t, rfl⟩ := r; exact ⟨Reads.str x t, by simp only [PyData.hasDict]⟩
theorem atms_reads {h : Heap} : ∀ {vs : List V} {ds : List PyData} {us : List Value}, Paired Atm vs ds → Vals vs us → ReadsAll h us ds [] ∧ PyData.hasDictAll ds = false
  | _, _, _, .nil, .nil => ⟨ReadsAll.nil, by simp only [PyData.hasDictAll]⟩
  | _, _, _, .cons a t, .cons r rs => by
    obtain ⟨h1, n1⟩ := a.reads (h := h) r
    obtain ⟨h2, n2⟩ := atms_reads (h := h) t rs
    exact ⟨ReadsAll.cons h1 h2, by simp only [PyData.hasDictAll, n1, n2, Bool.or_false]⟩
theorem strs_read {P : Program} {w : World} {h : Heap} : ∀ {ps : List (Str × Str)} {vs : List (Key × Value)} {es : List DictEntry}, KV (kvS ps) vs → Pairs (mixKind P w) es vs →
    ReadsAll h (es.map (·.key)) ((kvD ps).map (·.1)) [] ∧ ReadsAll h (es.map (·.val)) ((kvD ps).map (·.2)) []
  | [], _, _, .nil, .nil => ⟨ReadsAll.nil, ReadsAll.nil⟩
  | p :: ps, _, _, .cons a t, .cons k v r => by
    obtain ⟨h1, h2⟩ := strs_read (P := P) (w := w) (h := h) (ps := ps) t r
    obtain ⟨e1, e2⟩ := a
    rw [mixKind_is, ← e1] at k
    obtain ⟨y, ey⟩ := (show ∃ y, _ = Value.str p.2 y from e2)
    rcases keyIs_shape k with ⟨i, t, z, _⟩ | ⟨x, t, z, z2⟩
    · cases z
    · cases z
      refine ⟨?_, ?_⟩
      · have q := ReadsAll.cons (Reads.str (h := h) p.1 t) h1
        rw [← z2] at q
        exact q
      · have q := ReadsAll.cons (Reads.str (h := h) p.2 y) h2
        rw [← ey, ← v] at q
        exact q
theorem Th.reads (I : Inv X pins σ H s) {v : V} {u : Value} {d : PyData} (h : Th H v d) (r : RelV v u) : ∃ as, Reads s.heap u d as ∧ sysModules ∉ as := by
  cases h with
  | atm a =>
    obtain ⟨h1, n⟩ := a.reads (h := s.heap) r
    exact ⟨_, h1, List.not_mem_nil⟩
  | lst e ne a =>
    cases r
    obtain ⟨its, rv, ⟨o, n, ho, hc, _, hd⟩, _⟩ := I.list (SqL.of e)
    obtain ⟨h1, n1⟩ := atms_reads (h := s.heap) a rv
    exact ⟨_, Reads.list ho hc hd h1, fun z => by simp at z; exact ne z.symm⟩
  | tup e a =>
    cases r
    obtain ⟨its, rv, ⟨o, ho, hc, n, hd⟩, _⟩ := I.tuple (SqT.of e)
    obtain ⟨h1, n1⟩ := atms_reads (h := s.heap) a rv
    exact ⟨_, Reads.tuple ho hc hd h1, List.not_mem_nil⟩
  | @dct a ps e =>
    cases r
    obtain ⟨_, ne, vs, kv, o, es, ep, ho, ex, hd, _, pr, _⟩ := (show ObjOk X.prog X.w H s.heap a (.dK (kvS ps)) from I.hok a _ e)
    obtain ⟨h1, h2⟩ := strs_read (h := s.heap) kv pr
    refine ⟨_, Reads.dict ho ex.1 hd h1 h2, fun hm => ?_⟩
    have z : sysModules = a := by simpa using hm
    rw [← z] at ne
    exact absurd ne (by decide)
/-- what is handed to repr -/
def Shw (H : Hp) (x : V) (d : PyData) : Prop := Th H x d ∨ ∃ q y e, x = .ref q ∧ H q = some (.lst [y, y]) ∧ q ≠ sysModules ∧ Th H y e ∧ d = .list [e, e]
theorem Shw.reads (I : Inv X pins σ H s) {v : V} {u : Value} {d : PyData} (h : Shw H v d) (r : RelV v u) : ∃ as, Reads s.heap u d as ∧ (d.hasDict = true → sysModules ∉ as) := by
  rcases h with h | ⟨q, y, d, rfl, e, ne, t, rfl⟩
  · obtain ⟨as, h1, n1⟩ := h.reads I r
    exact ⟨as, h1, fun _ => n1⟩
  · cases r
    obtain ⟨its, rv, ⟨o, n, ho, hc, _, hd⟩, _⟩ := I.list (SqL.of e)
    cases rv with
    | cons r1 rv =>
      cases rv with
      | cons r2 rv =>
        cases rv
        obtain ⟨as, h1, n1⟩ := t.reads I r1
        obtain ⟨bs, h2, n2⟩ := t.reads I r2
        refine ⟨_, Reads.list ho hc hd (ReadsAll.cons h1 (ReadsAll.cons h2 ReadsAll.nil)), fun z => ?_⟩
        simp only [PyData.hasDict, PyData.hasDictAll, Bool.or_false, Bool.or_self] at z
        have m1 := n1
        have m2 := n2
        simp only [List.append_nil, List.mem_cons, List.mem_append, not_or]
        exact ⟨fun w => ne w.symm, m1, m2⟩
end
section
variable {X : Cx} {es : List Expr} {pos : Pos} {t : TA}
end
end Vk
set_option Elab.async false
set_option maxRecDepth 100000
set_option maxHeartbeats 4000000
set_option linter.all false
namespace Vk
open L2 PySem PySem.Spec PyProof.Rows PySem.VkX
/-! ## isinstance among own exception classes -/
section
variable {K : PySem.W.Frag} {C D : Addr} {x y : Str} {tl tl2 : List Value}
theorem ClsN.cls (c : ClsN K C x tl) : ∃ cd, PySem.W.clsIn K C = some cd ∧ cd.name = x ∧ cd.mro = .ref C :: tl ∧ PySem.W.typeIn K (.ref C) = some (.type "type") := by
  obtain ⟨newId, q, N, bs, sn, sub, ab, col, dd, k0, k1, k2, k3, k5, e⟩ := c
  refine ⟨{ name := x, bases := bs, mro := .ref C :: tl, ns := N, qualname := q, hasDict := true, slotNames := sn, subclasses := sub, abstract := ab, collection := col, hasDel := false }, ?_, rfl, rfl, ?_⟩
  · unfold PySem.W.clsIn; rw [e] <;> rfl
  · show (K.lookup C).map (·.cls) = _
    rw [e] <;> rfl
theorem ClsN.inj (c : ClsN K C x tl) (d : ClsN K D y tl2) : (C == D) = true → x = y := by
  intro h
  have e : C = D := by simpa using h
  subst e
  obtain ⟨cd, h1, h2, _⟩ := c.cls
  obtain ⟨ce, g1, g2, _⟩ := d.cls
  cases h1.symm.trans g1
  exact h2.symm.trans g2
/-- what stands at a name is one class -/
structure One (K : PySem.W.Frag) (C : Addr) (x : Str) (tl : List Value) : Prop where
  cn : ClsN K C x tl
  ns : PySem.W.nsIn K mainGlobals x = some (some (.ref C))
  rf : tl.all (fun v => match v with | .type _ => true | _ => false) = true
end
/-! ## list.count -/
/-! ## a comprehension over zip of two lists of one length -/
end Vk
set_option Elab.async false
set_option maxRecDepth 100000
set_option maxHeartbeats 4000000
set_option linter.all false
namespace Vk
open L2 PySem PySem.Spec PyProof.Rows PySem.VkX
/-! ## what is laid, told by what it shows -/
theorem Same.rfl {H : Hp} : Same H H := fun _ _ h => h
theorem Same.trans {H H1 H2 : Hp} (a : Same H H1) (b : Same H1 H2) : Same H H2 := fun c o h => b c o (a c o h)
def Mk (t : TE) (d : PyData) : Prop := ∀ σ H Q, (∀ v H', Same H H' → Th H' v d → Q v H') → t σ H Q
section
variable {t te : TE} {ta : TA} {d : PyData} {ds : List PyData}
theorem paired_len {α β : Type} {R : α → β → Prop} : ∀ {xs : List α} {ys : List β}, Paired R xs ys → xs.length = ys.length
  | _, _, .nil => rfl
  | _, _, .cons _ t => congrArg (· + 1) (paired_len t)
theorem ths_keep {H H' : Hp} (k : Same H H') : ∀ {vs : List V} {ds : List PyData}, Paired (Th H) vs ds → Paired (Th H') vs ds
  | _, _, .nil => .nil
  | _, _, .cons a t => .cons (a.keep k) (ths_keep k t)
end
/-- nothing of such a value is the pen -/
theorem Th.ext {H H' : Hp} {p c : Addr} {T : Nat} {v : V} {d : PyData} (h : Th H v d) (hp : Pen H p c T) (x : Ext p H H') : Th H' v d := by
  obtain ⟨ns, t, l, hpp, _⟩ := hp.ex
  cases h with
  | atm a => exact .atm a
  | lst e n a => exact .lst (x _ _ e (fun z => by rw [z, hpp] at e; cases e)) n a
  | tup e a => exact .tup (x _ _ e (fun z => by rw [z, hpp] at e; cases e)) a
  | @dct a ps e =>
    refine .dct (x _ _ e (fun z => ?_))
    rw [z, hpp] at e
    have e2 : penL c t l = kvS ps := HO.dK.inj (Option.some.inj e)
    match ps, e2 with
    | [], e2 => cases e2
    | q :: r, e2 =>
      have z := congrArg (fun l => (l.head?).map (·.2)) e2
      cases z
end Vk
namespace Vk
open L2 PySem PySem.Spec PyProof.Rows PySem.VkX
end Vk
namespace Vk
open L2 PySem PySem.Spec PyProof.Rows PySem.VkX
end Vk
set_option Elab.async false
set_option maxRecDepth 100000
set_option maxHeartbeats 4000000
set_option linter.all false
namespace Vk
open L2 PySem PySem.Spec PyProof.Rows PySem.VkX
/-! ## several except clauses, with a name or without -/
abbrev Sui := Addr → Value → Option Addr → TS
inductive Clz
  | only (c : Value) (ts : Sui)
  | named (c : Value) (i : Nat) (ts : Sui)
def SuiOk (X : Cx) (ss : List Stmt) (ts : Sui) : Prop := ∀ (a : Addr) (oe : Obj) (cls : Value) (d : Option Addr) (pn : List (Addr × Obj)), Zc cls d oe → (∃ vs, oe.data = .fields vs) → PSs (X.suite a ((a, oe) :: pn)) ss (ts a cls d)
inductive ClzOk (X : Cx) : List ExceptHandler → List Clz → Prop
  | nil : ClzOk X [] []
  | only {x : Str} {c : Value} {ts : Sui} {s0 : Stmt} {ss : List Stmt} {p1 p2 : Pos} {hs : List ExceptHandler} {l : List Clz} (hc : Names X x c) (su : SuiOk X (s0 :: ss) ts) (r : ClzOk X hs l) : ClzOk X (.ExceptHandler (some (.Name x p1)) none (s0 :: ss) p2 :: hs) (.only c ts :: l)
  | named {x n : Str} {c : Value} {i : Nat} {ts : Sui} {s0 : Stmt} {ss : List Stmt} {p1 p2 : Pos} {hs : List ExceptHandler} {l : List Clz} (hi : X.N[i]? = some n) (hl : X.env.kindOf n = some .local) (hc : Names X x c) (su : SuiOk X (s0 :: ss) ts) (r : ClzOk X hs l) :
      ClzOk X (.ExceptHandler (some (.Name x p1)) (some n) (s0 :: ss) p2 :: hs) (.named c i ts :: l)
section
variable {X : Cx} {body : List Stmt} {e0 : ExceptHandler} {es : List ExceptHandler} {l : List Clz} {pos : Pos} {tb : WX → TS} {W0 : WX}
end
end Vk
set_option Elab.async false
set_option maxRecDepth 100000
set_option maxHeartbeats 4000000
set_option linter.all false
namespace Vk
open L2 PySem PySem.Spec PyProof.Rows PySem.VkX
/-! ## C(e, ..) to be raised -/
theorem oex_type {K : PySem.W.Frag} {C : Addr} (T : OexK K C) : PySem.W.typeIn K (.ref C) = some (.type "type") := by
  obtain ⟨B, newId, initId, tl, nm, q1, N, bs, sn, sub, ab, col, dd, k0, k1, k2, k3, k5, hB, hC⟩ := T.cls
  show (K.lookup C).map (·.cls) = _
  rw [hC] <;> rfl
def tMkE (C : Addr) (fsn : List Str) (ta : TA) : L2.St → Hp → XK → Prop := fun σ H Q => ta σ H fun vs H1 => vs.length = fsn.length ∧ ∀ d, H1 d = none → Q (.ref C) (some d) (upd H1 d (.xd (fsn.zip vs).reverse))
theorem let_go {H : Hp} {a d : Addr} {o1 o2 o3 : HO} (n : H a = none) (ne : d ≠ a) : upd (del (upd (upd H d o1) a o2) a) d o3 = upd H d o3 := by
  funext b
  by_cases hd : b = d
  · subst hd; rw [upd_same, upd_same]
  · rw [upd_ne hd, upd_ne hd]
    by_cases ha : b = a
    · subst ha; rw [del_same, n]
    · rw [del_ne ha, upd_ne ha, upd_ne hd]
section
variable {X : Cx} {j k : Nat} {x : Str} {C : Addr} {fsn : List Str} {p pos : Pos} {e : Expr} {es : List Expr} {t : TA}
theorem pmk_k (c : ClsI X.prog X.w X.K X.mg X.base k x C fsn) (hg : X.A.guards = some []) (hr : Room j X.A) (hk : k + 1 ≤ j) (hx : Passes CX0 X (fun _ _ _ => False)) (ha : PA X (e :: es) t) (hn : fsn.length ≤ 1000 := by decide) (h0 : fsn ≠ [] := by decide) (gl : Gl X x := by rfl)
    (hdb : (x == ("__debug__" : Str)) = false := by decide) (he : starEach (e :: es) X.env = (false, eval e X.env) :: starEach es X.env := by rfl) (hpl : (backTo pos (starEach es X.env)).any (·.1) = false := by rfl) :
    PMk X (.Call (.Name x p) (e :: es) [] pos) (tMkE C fsn t) := by
  intro pins s σ H Q I h
  refine wpAny_Call_Name_kw (ld_glob I gl c.hm (PySem.W.callWith_K (h₀ := X.base) I.ok.mod.kin c.T.kC (thn (ha.run pos pins s σ H _ I h) fun us s1 hh => ?_) he hpl) hdb)
  obtain ⟨vs, H1, I1, r, hl, q⟩ := hh
  refine ⟨I1.kIn, ?_⟩
  show wpAny _ _ (call (.ref C) us) _ _ _
  have hus : us.length ≤ sizeLine := few_len (by rw [← r.length, hl]; exact hn)
  obtain ⟨fI, fd, iC, tI, F, hbn, hbk⟩ := c.ex
  obtain ⟨B, newId, initId, tl, nm, q1, N, bs, sn, sub, ab, col, dd, k0, k1, k2, k3, k5, hB, hC⟩ := c.T.cls
  obtain ⟨hp, g, dr, tk, os⟩ := s1
  have big : hp.objs.size ≤ hp.objs.size + 1 := Nat.le_succ _
  have new1 : H1 (hp.objs.size + 1) = none := I1.hok.fresh big
  have kept : ∀ b o, hp.get? b = some o → ((hp.push (PySem.W.kdv_tup us)).push (PySem.HandSPX.excO C hp.objs.size)).get? b = some o := fun b o z => Heap.get?_push_of_some _ (Heap.get?_push_of_some _ z)
  have put : ((hp.push (PySem.W.kdv_tup us)).push (PySem.HandSPX.excO C hp.objs.size)).get? (hp.objs.size + 1) = some (PySem.HandSPX.excO C hp.objs.size) := by heap_get
  have I2 : Inv X pins σ (upd H1 (hp.objs.size + 1) (exo (hp.objs.size + 1) C none)) ⟨(hp.push (PySem.W.kdv_tup us)).push (PySem.HandSPX.excO C hp.objs.size), g, dr, tk, os⟩ :=
    I1.laid (t' := tk) (a := hp.objs.size + 1) (o := exo (hp.objs.size + 1) C none) kept big (exo_ok put)
  have sp1 : spIni C fsn (V.ref (hp.objs.size + 1) :: vs) (upd H1 (hp.objs.size + 1) (exo (hp.objs.size + 1) C none))
      (fun v H2 => v = .non ∧ ∃ d, H1 d = none ∧ d ≠ hp.objs.size + 1 ∧ H2 = upd (upd H1 d (exd d (fsn.zip vs).reverse)) (hp.objs.size + 1) (exo (hp.objs.size + 1) C (some d))) (fun _ _ _ => False) := by
    refine ⟨_, vs, rfl, hl, upd_same, fun z => absurd z h0, fun z d hd ne => ⟨rfl, d, ?_, ne, upd_over ne⟩⟩
    rw [upd_ne ne] at hd
    exact hd
  have bound := hbn ⟨(hp.push (PySem.W.kdv_tup us)).push (PySem.HandSPX.excO C hp.objs.size), g, dr, tk, os⟩ (.ref (hp.objs.size + 1) :: us) I2.kIn (by simpa using (r.length.symm.trans hl))
  rw [List.append_nil] at bound
  refine wpAny_call (call_ownK hB.F (I1.kIn _ _ hC) (PySem.W.looks_findIn I1.kIn iC) (fun self => PySem.W.bind_fn I1.kIn self tI) hus
    (codeAny_mono (F.run _ X.stack _ _ _ (Value.ref (hp.objs.size + 1) :: us) (V.ref (hp.objs.size + 1) :: vs) _ (fun _ _ _ => False) ?_ ((hr.mono hk).make C us []) (I2.env0.make C us []) bound (.cons rfl r) sp1) fun res s3 hz => ?_))
  · first
      | exact hg
      | (simpa [Around.under, Code.isGuard, guardIds] using hg)
  · match res, hz with
    | .error er, hz => exact hx pins σ _ _ er s3 I2 hz
    | .ok (.ret u), hz =>
      obtain ⟨v, H2, os2, bare2, un2, hok2, rv, ev, d, hd1, ne, eH⟩ := hz
      subst ev
      subst eH
      obtain ⟨h2, g2, d2, t2, osx⟩ := s3
      refine ⟨rv, mk_end (raises_own c.T.xf.exC (oex_type c.T)) I1 big kept un2 hok2 os2 bare2 upd_same ((upd_ne ne).trans upd_same) hd1 ?_⟩
      rw [let_go new1 ne]
      exact q d hd1
    | .ok .next, hz => exact hz.elim
    | .ok .brk, hz => exact hz.elim
    | .ok .cont, hz => exact hz.elim
end
end Vk
set_option Elab.async false
set_option maxRecDepth 100000
set_option maxHeartbeats 4000000
set_option linter.all false
namespace Vk
open L2 PySem PySem.Spec PyProof.Rows PySem.VkX
/-! ## instances of own classes whose __init__ may raise, made by position and by all keywords in the other order -/
structure MakI (P : Program) (w : World) (K : PySem.W.Frag) (mg : Str → Option Value) (base : Heap) (CX : CXT) (k : Nat) (x : Str) (C : Addr) (fsn : List Str) (sp : Sp) : Prop where
  hm : mg x = some (.ref C)
  ex : ∃ (fI : Addr) (fd : FuncData), L2.Mk K C fI ∧ FnG P w K mg base CX k fI fd (("self" : Str) :: fsn) sp ∧ Binds K fd (("self" : Str) :: fsn) [] ∧
    (∀ (s : Shared) (v : Value) (ws : List Value), K.In s.heap → ws.length = fsn.length → BindsTo s fd ⟨[v], fsn.reverse.zip ws⟩ ((("self" : Str) :: fsn).zip (v :: ws.reverse)))
section
variable {X : Cx} {CX : CXT} {E : XK} {j k : Nat} {x : Str} {C : Addr} {fsn : List Str} {sp : Sp} {p pos : Pos} {e : Expr} {es : List Expr} {t : TA}
end
end Vk
set_option Elab.async false
set_option maxRecDepth 100000
set_option maxHeartbeats 4000000
set_option linter.all false
namespace Vk
open L2 PySem PySem.Spec PyProof.Rows PySem.VkX LamX NdefX
/-! ## a lambda as a value: made in a def, kept in lists, handed to a def that calls it -/
structure LF where
  qual : Str
  params : Arguments
  body : Expr
  scope : Scope
  cl : List (Str × Addr)
  c : Addr
def LamO (f : Addr) (F : LF) : HO := .ext fun h => ∃ pm ctv : Value, h.get? f = some (PySem.W.kla_obj "<lambda>" F.qual F.params F.body F.scope F.cl pm F.c ctv)
section
variable {X : Cx} {pins : List (Addr × Obj)} {σ : L2.St} {H : Hp} {s : Shared}
end
section
variable {X : Cx}
end
/-! ### what it does -/
abbrev SpL := List (Option V) → Hp → VK → XK → Prop
structure LamK (P : Program) (w : World) (K : PySem.W.Frag) (mg : Str → Option Value) (base : Heap) (k : Nat) (F : LF) (fr : List Str) (sp : SpL) : Prop where
  run : ∀ (A : Around) (outer : List Env) (s : Shared) (H : Hp) (f : Addr) (ws : List (Option V)) (Q : VK) (E : XK), A.guards = some [] → Room k A → Env0 P w K mg base A outer s H → H f = some (LamO f F) → H F.c = some (CodeO F.c F.qual) → CellsAt F.cl fr ws s.heap H → sp ws H Q E →
    codeAny (model P w) A (.call (.ref f) ⟨[], []⟩) (CR (L2.CX P w) outer P w H s Q E) s
section
variable {P : Program} {w : World} {K : PySem.W.Frag} {mg : Str → Option Value} {base : Heap} {N fr : List Str} {F : LF} {k j : Nat} {sp : SpL}
theorem LamK.mono (l : LamK P w K mg base j F fr sp) (h : j ≤ k) : LamK P w K mg base k F fr sp := ⟨fun A outer s H f ws Q E hg hr => l.run A outer s H f ws Q E hg (hr.mono h)⟩
end
/-! ### called by the def that got it -/
section
variable {X : Cx} {F : LF} {fr : List Str} {ws : List (Option V)} {i j k : Nat} {x : Str} {sp : SpL} {E : XK} {p pos : Pos} {f0 : Addr}
end
/-! ### defs whose promise speaks of the cells that the heap holds -/
structure FnH (P : Program) (w : World) (K : PySem.W.Frag) (mg : Str → Option Value) (base : Heap) (CX : CXT) (k : Nat) (f : Addr) (fd : FuncData) (ps : List Str) (sp : Heap → Sp) : Prop where
  len : ∀ h vs H Q E, sp h vs H Q E → vs.length = ps.length
  run : ∀ (A : Around) (outer : List Env) (s : Shared) (H : Hp) (args : Args) (us : List Value) (vs : List V) (Q : VK) (E : XK), A.guards = some [] → Room k A → Env0 P w K mg base A outer s H → BindsTo s fd args (ps.zip us) → Vals vs us → sp s.heap vs H Q E →
    codeAny (model P w) A (.call (.ref f) args) (CR CX outer P w H s Q E) s
structure CalH (P : Program) (w : World) (K : PySem.W.Frag) (mg : Str → Option Value) (base : Heap) (CX : CXT) (k : Nat) (x : Str) (sp : Heap → Sp) : Prop where
  ex : ∃ (f : Addr) (fd : FuncData) (ps : List Str), FnH P w K mg base CX k f fd ps sp ∧ mg x = some (.ref f) ∧ PySem.W.keepIn K (.ref f) = true ∧ Binds K fd ps []
section
variable {X : Cx} {CX : CXT} {j k : Nat} {x : Str} {sp : Heap → Sp} {E : XK} {p pos : Pos} {e : Expr} {es : List Expr} {t : TA} {rd : L2.St → List V → Hp → VK → Prop}
end
/-! ### isinstance(e, T) of a caught exception that has fields -/
/-! ### a def whose code object is known -/
structure FunC (K : PySem.W.Frag) (x qual : Str) (st : Stmt) (f : Addr) (fd : FuncData) (c : Addr) : Prop where
  ex : ∃ (oc : Value) (od : Option Addr) (kV doc pm : Value) (an : Option Addr) (ct : Value) (sl : Array (Option Value)), fd = PySem.W.fnOf x qual (defArgs st) (defBody st) (defScope st) .none kV doc pm an (.ref c) ct ∧ K.lookup f = some ⟨oc, od, .func fd, sl⟩ ∧ PySem.W.codeIn K (.ref c) qual = true
  kp : PySem.W.keepIn K (.ref f) = true
theorem FunC.fn {K : PySem.W.Frag} {x qual : Str} {st : Stmt} {f c : Addr} {fd : FuncData} (F : FunC K x qual st f fd c) : Fun K x qual st f fd := by
  obtain ⟨oc, od, kV, doc, pm, an, ct, sl, e, l, hc⟩ := F.ex
  exact ⟨⟨oc, od, kV, doc, pm, an, .ref c, ct, sl, e, l, hc⟩, F.kp⟩
end Vk
set_option Elab.async false
set_option maxRecDepth 100000
set_option maxHeartbeats 4000000
set_option linter.all false
namespace Vk
open PySem PySem.Spec PyProof.Rows PySem.SeqAt L2
open Builtin
section
variable {prog : Program} {w : World} {A : Around} {E : Value → Shared → Prop} {s : Shared} {K : PySem.W.Frag} {x C : Addr} {ox : Obj} {od : Option Obj}
end
end Vk
set_option Elab.async false
set_option maxRecDepth 100000
set_option maxHeartbeats 4000000
set_option linter.all false
namespace Vk
open PySem PySem.Spec PyProof.Rows PySem.SeqAt L2
open Builtin
/-! ## == and != and in, on the left an instance of an own class with its own == -/
inductive TyE (H : Hp) : V → Value → Prop
  | non : TyE H .non (.type "NoneType")
  | bl (b : Bool) : TyE H (.bl b) (.type "bool")
  | int (i : Int) : TyE H (.int i) (.type "int")
  | str (z : Str) : TyE H (.str z) (.type "str")
  | tup {a : Addr} {xs : List V} (e : H a = some (.tup xs)) : TyE H (.ref a) (.type "tuple")
  | lst {a : Addr} {xs : List V} (e : H a = some (.lst xs)) : TyE H (.ref a) (.type "list")
  | ins {a C dx : Addr} {fs : List (Str × V)} (e : H a = some (.ins C dx fs)) : TyE H (.ref a) (.ref C)
section
variable {X : Cx} {pins : List (Addr × Obj)} {σ : L2.St} {H : Hp} {s : Shared}
end
/-- the own == of the class at C -/
structure EqI (P : Program) (w : World) (K : PySem.W.Frag) (mg : Str → Option Value) (base : Heap) (k : Nat) (C : Addr) (sp : Sp) : Prop where
  ex : ∃ (f : Addr) (fd : FuncData), PySem.W.findIn K (.ref C) "__eq__" = some (some (.ref f)) ∧ PySem.W.isFn K (.ref f) = true ∧ FnOk P w K mg base CX0 k f fd ["self", "other"] sp ∧ Binds K fd ["self", "other"] []
  ne : PySem.W.findIn K (.ref C) "__ne__" = some (some (.builtin "object.__ne__"))
  obj : PySem.W.mroIn K C (.type "object") = some true
  no1 : PySem.W.mroIn K C (.type "tuple") = some false
  no2 : PySem.W.mroIn K C (.type "list") = some false
  no3 : PySem.W.mroIn K C (.type "str") = some false
  no4 : PySem.W.mroIn K C (.type "NoneType") = some false
section
variable {X : Cx} {k j : Nat} {C : Addr} {sp : Sp}
/-- the items that give way to the instance's own == -/
inductive Dec (H : Hp) : V → Prop
  | non : Dec H .non
  | str (z : Str) : Dec H (.str z)
  | tup {a : Addr} {xs : List V} (e : H a = some (.tup xs)) : Dec H (.ref a)
  | lst {a : Addr} {xs : List V} (e : H a = some (.lst xs)) : Dec H (.ref a)
end
end Vk
set_option Elab.async false
set_option maxRecDepth 100000
set_option maxHeartbeats 4000000
set_option linter.all false
namespace Vk
open PySem PySem.Spec PyProof.Rows L2 StX
/-! ## def f(self, *parts), with nothing under way -/
theorem passesF {X : Cx} : Passes (L2.CX X.prog X.w) X (fun _ _ _ => False) := by
  rintro pins σ H s e s' I ⟨a, B, H', cls, d, _, _, _, _, _, _, _, h⟩
  exact h.elim
section
variable {CX : CXT} {P : Program} {w : World} {K : PySem.W.Frag} {mg : Str → Option Value} {base : Heap} {k : Nat} {x qual : Str} {st : Stmt} {f : Addr} {fd : FuncData} {N ps : List Str} {sp : Sp}
end
section
variable {X : Cx} {CX : CXT} {k j : Nat} {C f : Addr} {sp : Sp} {E : XK} {x : Str} {p pos : Pos} {e : Expr} {es : List Expr} {t : TA}
end
theorem pg_tupK {X : Cx} {K : PySem.W.Frag} {es : List Expr} {k : Nat} {t : TGs} {n : Nat} {pos : Pos} (hK : X.K = K) (hc : X.calm = true) (h : PGs X es t)
    (hn : (assignEach es X.env).length = n := by rfl) (hst : (assignEach es X.env).findIdx? (·.1) = none := by rfl) : PG X (.Tuple es k pos) (gTup K n t) := hK ▸ pg_tup hc h hn hst
end Vk
set_option Elab.async false
set_option maxRecDepth 100000
set_option maxHeartbeats 4000000
set_option linter.all false
namespace Vk
open PySem PySem.Spec PyProof.Rows L2
/-! ## for i, x in enumerate(t), t a tuple -/
section
variable {prog : Program} {w : World} {A : Around} {E : Value → Shared → Prop} {s : Shared}
end
end Vk
set_option Elab.async false
set_option maxRecDepth 100000
set_option maxHeartbeats 4000000
set_option linter.all false
namespace Vk
open PySem PySem.Spec PyProof.Rows L2
/-- what repr asks -/
def Shn (d : PyData) : Prop := d.showable = true ∧ d.depth ≤ 60 ∧ d.shown.length ≤ sizeLine
/-- .. with room for a list around -/
def Shs (d : PyData) : Prop := d.showable = true ∧ d.depth ≤ 59 ∧ d.shown.length ≤ 100000 ∧ PyData.strOk d.shown = true
theorem Shs.shn {d : PyData} (h : Shs d) : Shn d := ⟨h.1, Nat.le_succ_of_le h.2.1, Nat.le_trans h.2.2.1 (by rw [sizeLine_eq]; decide)⟩
section
variable {X : Cx}
/-- e.f, a property, e an instance of one of some classes -/
structure PrI (P : Program) (w : World) (K : PySem.W.Frag) (mg : Str → Option Value) (base : Heap) (k : Nat) (C : Addr) (f fa : Str) : Prop where
  ex : ∃ (p g : Addr) (fd : FuncData), Cls K C ∧ PropOf K C f p g ∧ FnOk P w K mg base CX0 k g fd ["self"] (getSp C fa) ∧ Binds K fd ["self"] []
end
end Vk
set_option Elab.async false
set_option maxRecDepth 100000
set_option maxHeartbeats 4000000
set_option linter.all false
namespace Vk
open L2 PySem PySem.Spec PyProof.Rows
/-! ## lstrip leaves nothing of a string exactly if all its signs are to be stripped -/
end Vk
namespace Vk
open L2 PySem PySem.Spec PyProof.Rows
/-- a comprehension over the signs of a string -/
theorem lc_str {z : Str} {g : TG} {tt : TT} {te : TE} {vs : List Nat} {σ : L2.St} {H1 : Hp} {D : Addr} {Qd : Hp → Prop} (Pv : Nat → Hp → Prop) (h0 : Pv 0 (upd H1 D (.lst [])))
    (hs : ∀ i c H, z.cps[i]? = some c → Pv i H → g (.str ⟨#[c]⟩) (wipe σ vs) H fun σ2 H2 => wipe σ2 vs = wipe σ vs ∧ tt σ2 H2 fun b H3 =>
      if b = true then te σ2 H3 fun y H4 => ∃ acc, H4 D = some (.lst acc) ∧ acc.length < sizeLine ∧ Pv (i + 1) (upd H4 D (.lst (acc ++ [y]))) else Pv (i + 1) H3) (hd : ∀ H, Pv z.cps.size H → Qd H) :
    ∃ W : Nat → Nat → Hp → Prop, (∃ m, W 0 m (upd H1 D (.lst []))) ∧ ∀ i m H, W i m H →
      ((Its z).stop i H ∧ Qd H) ∨ ((Its z).go i H ∧ ∃ Nx : Hp → Prop, (∀ H', Nx H' → ∃ m', m' < m ∧ W (i + 1) m' H') ∧ ∀ x H', (Its z).yld i H x H' → g x (wipe σ vs) H' fun σ2 H2 => wipe σ2 vs = wipe σ vs ∧ tt σ2 H2 fun b H3 =>
        if b = true then te σ2 H3 fun y H4 => ∃ acc, H4 D = some (.lst acc) ∧ acc.length < sizeLine ∧ Nx (upd H4 D (.lst (acc ++ [y]))) else Nx H3) := by
  refine ⟨fun i m H => m = z.cps.size - i ∧ i ≤ z.cps.size ∧ Pv i H, ⟨z.cps.size, rfl, Nat.zero_le _, h0⟩, ?_⟩
  rintro i m H ⟨rfl, hi, p⟩
  by_cases lt : i < z.cps.size
  · refine .inr ⟨lt, Pv (i + 1), fun H2 p2 => ⟨z.cps.size - (i + 1), by omega, rfl, lt, p2⟩, fun v H2 w => ?_⟩
    obtain ⟨rfl, c, hc, rfl⟩ := w
    exact hs i c _ hc p
  · have e : i = z.cps.size := by omega
    subst e
    exact .inl ⟨Nat.le_refl _, hd H p⟩
end Vk
set_option Elab.async false
set_option maxRecDepth 100000
set_option maxHeartbeats 4000000
set_option linter.all false
namespace Vk
open PySem PySem.Spec PyProof.Rows L2 LamX
/-! ## the law's own call, one def of the text makes lambdas (its code object c, its table P) -/
end Vk
set_option Elab.async false
set_option maxRecDepth 100000
set_option maxHeartbeats 4000000
set_option linter.all false
namespace Vk
open PySem PySem.Spec PyProof.Rows L2 LamX
/-! ## where the modules are told lies a dict -/
section
variable {X : Cx} {pins : List (Addr × Obj)} {σ : L2.St} {H : Hp} {s : Shared}
end
/-! ## == of a list and the empty list -/
section
open Builtin
theorem list_far {prog : Program} {w : World} {A : Around} {s : Shared} {l b : Addr} {items items2 : Array Value} (hl : s.heap.IsList l items) (hb : s.heap.IsList b items2) (hsz : items.size ≠ items2.size) (hu : A.units < cLine) (E Q : Value → Shared → Prop)
    (h : Q (.bool false) s) : wpAny (model prog w) A (richCompare .Eq (.ref l) (.ref b)) Q E s := by
  obtain ⟨⟨cls, dd, data, sl⟩, ho, hc, n, hd⟩ := id hl
  obtain ⟨⟨cls2, dd2, data2, sl2⟩, ho2, hc2, n2, hd2⟩ := id hb
  simp only at hc hd hc2 hd2
  subst hc hd hc2 hd2
  have ta : s.TypeIs (.ref l) "list" := ⟨_, ho, rfl⟩
  have tb : s.TypeIs (.ref b) "list" := ⟨_, ho2, rfl⟩
  refine wpAny_richCompare_same_room (op := .Eq) ta tb F.slot_list_eq (GQ.call_here F.slot_list_eq ta F.entry_list_eq (F.args_list_eq_2 _ _) ?_) hu
  have f3 := AutoSeq1.sub_list_list
  have hne : (items.size != items2.size) = true := by simpa using hsz
  obtain ⟨hp, g, d, tk, os⟩ := s
  wp_walk using AutoSeq1.wpAny_loadPart' ho, AutoSeq1.wpAny_loadPart' ho2
  exact ⟨(fun x => nomatch x), h⟩
end
def rEqNil (K : PySem.W.Frag) : R2 := fun x y H Q => ∃ a xs b, x = .ref a ∧ y = .ref b ∧ SqL K H a xs ∧ SqL K H b [] ∧ Q (.bl (decide (xs.length = 0))) H
theorem op_eqNil {X : Cx} (hu : X.A.units + 64 < cLine) : OpR X (compareOp .Eq) (rEqNil X.K) := by
  intro pins s σ H x y v u Q I rx ry h
  obtain ⟨a, xs, b, rfl, rfl, ha, hb, q⟩ := h
  cases (show v = Value.ref a from rx)
  cases (show u = Value.ref b from ry)
  obtain ⟨us, r1, p1, _⟩ := I.list ha
  obtain ⟨ws, r2, p2, _⟩ := I.list hb
  cases r2
  show wpAny (model X.prog X.w) X.A (richCompare .Eq (.ref a) (.ref b)) (EP X pins σ Q) X.xe s
  cases xs with
  | nil =>
    cases r1
    exact SeqAt.rcP_lists (e := fun _ => true) p1.isList p2.isList rfl (by omega) (fun j h1 h2 => absurd h1 (by simp)) _ _ ⟨.bl true, H, I, rfl, q⟩
  | cons y ys =>
    cases r1 with
    | cons r rs => exact list_far p1.isList p2.isList (by simp) (by omega) _ _ ⟨.bl false, H, I, rfl, q⟩
/-! ## the law's own call, one def of the text makes lambdas (its code object c, its table P) -/
end Vk
set_option Elab.async false
set_option maxRecDepth 100000
set_option maxHeartbeats 4000000
set_option linter.all false
namespace Vk
open L2 PySem PySem.Spec PyProof.Rows PySem.VkX
/-! ## what is made is new -/
def New (H : Hp) (v : V) : Prop := ∀ b, v = .ref b → H b = none
theorem New.same {H H1 : Hp} {v : V} (n : New H1 v) (s : Same H H1) : New H v := fun b e => by
  match q : H b with
  | none => rfl
  | some o => exact nomatch (s b o q).symm.trans (n b e)
theorem New.ext {H H1 : Hp} {v : V} {p c : Addr} {T : Nat} (n : New H1 v) (x : Ext p H H1) (P : Pen H1 p c T) : New H v := fun b e => by
  match q : H b with
  | none => rfl
  | some o =>
    obtain ⟨t, l, hp⟩ := P.is
    by_cases hb : b = p
    · rw [hb] at e
      exact nomatch hp.symm.trans (n p e)
    · exact nomatch (x b o q hb).symm.trans (n b e)
theorem Atm.new {H : Hp} {v : V} {d : PyData} (a : Atm v d) : New H v := fun b e => by
  subst e
  cases a
theorem New.ne {H : Hp} {v : V} {D : Addr} {o : HO} (n : New H v) (h : H D = some o) : v ≠ .ref D := fun e => nomatch h.symm.trans (n D e)
theorem Th.at {H : Hp} {v : V} {d : PyData} {D : Addr} {o : HO} (h : Th H v d) (n : v ≠ .ref D) : Th (upd H D o) v d := by
  cases h with
  | atm a => exact .atm a
  | @lst a xs ds e ne p => exact .lst ((upd_ne fun z => n (congrArg V.ref z)).trans e) ne p
  | @tup a xs ds e p => exact .tup ((upd_ne fun z => n (congrArg V.ref z)).trans e) p
  | @dct a ps e => exact .dct ((upd_ne fun z => n (congrArg V.ref z)).trans e)
section
variable {t te : TE} {ta : TA} {d : PyData} {ds : List PyData}
end
end Vk
set_option Elab.async false
set_option maxRecDepth 100000
set_option linter.all false
namespace Vk
open PySem PySem.Spec PyProof.Rows L2
/-! ## lists whose items stand for items of another list -/
theorem paired_at {α β : Type} {R : α → β → Prop} : ∀ {xs : List α} {ys : List β} {i : Nat} {x : α}, Paired R xs ys → xs[i]? = some x → ∃ y, ys[i]? = some y ∧ R x y
  | _, _, 0, _, .cons a t, h => by cases h; exact ⟨_, rfl, a⟩
  | _, _, i + 1, _, .cons a t, h => paired_at (i := i) t h
theorem drop_at {α : Type} : ∀ {l : List α} {i : Nat} {x : α}, l[i]? = some x → l.drop i = x :: l.drop (i + 1)
  | a :: l, 0, x, h => by cases h; rfl
  | a :: l, i + 1, x, h => by simpa using drop_at (l := l) (i := i) (x := x) (by simpa using h)
theorem paired_perm {α β : Type} {R : α → β → Prop} {xs ys : List α} (p : ys.Perm xs) : ∀ {rs : List β}, Paired R xs rs → ∃ ls, ls.Perm rs ∧ Paired R ys ls := by
  induction p with
  | nil => exact fun h => ⟨_, .refl _, h⟩
  | cons x p ih =>
    intro rs h
    cases h with
    | cons a t =>
      obtain ⟨ls, q, r⟩ := ih t
      exact ⟨_, q.cons _, .cons a r⟩
  | swap x y l =>
    intro rs h
    cases h with
    | cons a t =>
      cases t with
      | cons b t => exact ⟨_, .swap _ _ _, .cons b (.cons a t)⟩
  | trans p1 p2 ih1 ih2 =>
    intro rs h
    obtain ⟨ls, q, r⟩ := ih2 h
    obtain ⟨ms, q2, r2⟩ := ih1 r
    exact ⟨ms, q2.trans q, r2⟩
def tTruK (K : PySem.W.Frag) (ta : TE) : TT := fun σ H Q => ta σ H fun x H' => ∃ k, TruV K x H' k ∧ Q k H'
theorem pt_truthK {X : Cx} {K : PySem.W.Frag} {a : Expr} {ta : TE} (hK : X.K = K) (ha : PE X a ta) (he : ∀ whole, isTrue a X.env whole = (do let v ← whole; standAt a.pos; holding [v] (truthy v)) := by intro _; rfl) :
    PT X a (tTruK K ta) := hK ▸ pt_truth ha he
end Vk
set_option Elab.async false
set_option maxRecDepth 100000
set_option maxHeartbeats 4000000
set_option linter.all false
namespace Vk
open PySem PySem.Spec PyProof.Rows L2
theorem fewL {n : Nat} (h : n ≤ 100000) : n < sizeLine := Nat.lt_of_le_of_lt h (by rw [sizeLine_eq]; decide)
theorem pair_mono {α β : Type} {R S : α → β → Prop} (h : ∀ a b, R a b → S a b) : ∀ {xs : List α} {ys : List β}, Paired R xs ys → Paired S xs ys
  | _, _, .nil => .nil
  | _, _, .cons a t => .cons (h _ _ a) (pair_mono h t)
theorem none_up {H H1 : Hp} {a : Addr} (s : Same H H1) (h : H1 a = none) : H a = none := by
  match e : H a with
  | none => rfl
  | some o => exact nomatch (s _ _ e).symm.trans h
theorem upd_list {H : Hp} {l : Addr} {xs : List V} {o : HO} (h : H l = some (.lst xs)) (u : Addr) (ws : List V) (hu : H u = some (.tup ws)) : (upd H l o) u = some (.tup ws) := by
  rw [upd_ne (fun e => by rw [e, h] at hu; cases hu)]
  exact hu
theorem upd_out {H H1 : Hp} {l : Addr} {o : HO} (hl : H l = none) (s : Same H H1) : Same H (upd H1 l o) := fun b o2 h => by
  rw [upd_ne (ne_of_none h hl)]
  exact s _ _ h
/-- letter i of x -/
def ltr (x : Str) (i : Nat) : Nat := x.cps.toList.getD i 0
theorem cut_ab {x : Str} {a b : Nat} (h1 : a ≤ b) (h2 : b ≤ x.length) : cutS x (some (a : Int)) (some (b : Int)) = ⟨((x.cps.toList.drop a).take (b - a)).toArray⟩ := by
  unfold cutS
  rw [HT.sIx_nat, HT.sIx_nat, Nat.min_eq_left h2, Nat.min_eq_left (Nat.le_trans h1 h2)]
theorem cut_len {x : Str} {a b : Nat} (h1 : a ≤ b) (h2 : b ≤ x.length) : (cutS x (some (a : Int)) (some (b : Int))).length = b - a := by
  rw [cut_ab h1 h2]
  show (List.toArray _).size = _
  have : x.cps.toList.length = x.length := Array.length_toList
  rw [List.size_toArray, List.length_take, List.length_drop]
  omega
theorem cut_ltr {x : Str} {a b t : Nat} (h1 : a ≤ b) (h2 : b ≤ x.length) (ht : t < b - a) : ltr (cutS x (some (a : Int)) (some (b : Int))) t = ltr x (a + t) := by
  rw [cut_ab h1 h2]
  unfold ltr
  show (List.getD (List.take _ _) t 0) = _
  rw [List.getD_eq_getElem?_getD, List.getD_eq_getElem?_getD, List.getElem?_take, if_pos ht, List.getElem?_drop]
theorem or_both {c : Bool} {T B R : Prop} (h1 : c = true → R → T) (h2 : c = false → R → B) (h : R) : if c = true then T else B := by
  cases c with
  | true => exact h1 rfl h
  | false => exact h2 rfl h
theorem plc_asc (x w : Str) : (plc x w).Pairwise (· < ·) := List.pairwise_lt_range.filter _
theorem plc_ltr {x w : Str} {k : Nat} : k ∈ plc x w ↔ k + w.length ≤ x.length ∧ ∀ t, t < w.length → ltr x (k + t) = ltr w t := by
  unfold plc atB
  rw [List.mem_filter, List.mem_range, Bool.and_eq_true, decide_eq_true_eq, StrLaws.subAt_eq, beq_iff_eq]
  constructor
  · rintro ⟨_, h1, h2⟩
    refine ⟨h1, fun t ht => ?_⟩
    unfold ltr
    rw [← h2, List.getD_eq_getElem?_getD, List.getD_eq_getElem?_getD, List.getElem?_take, if_pos ht, List.getElem?_drop]
  · rintro ⟨h1, h2⟩
    refine ⟨by omega, h1, List.ext_getElem? fun t => ?_⟩
    have lw : w.cps.toList.length = w.length := Array.length_toList
    have lx : x.cps.toList.length = x.length := Array.length_toList
    by_cases ht : t < w.length
    · have q := h2 t ht
      unfold ltr at q
      rw [List.getD_eq_getElem?_getD, List.getD_eq_getElem?_getD, List.getElem?_eq_getElem (by omega : k + t < x.cps.toList.length), List.getElem?_eq_getElem (by omega : t < w.cps.toList.length)] at q
      rw [List.getElem?_take, if_pos ht, List.getElem?_drop, List.getElem?_eq_getElem (by omega : k + t < x.cps.toList.length), List.getElem?_eq_getElem (by omega : t < w.cps.toList.length)]
      exact congrArg some q
    · rw [List.getElem?_take, if_neg ht, List.getElem?_eq_none (by omega)]
theorem atI_end {xs : List V} {n : Nat} {v : V} (h : xs[n]? = some v) (hl : xs.length = n + 1) : atI xs (-1) = some v := by
  have e : xs = xs.take n ++ [v] := by
    have := List.take_append_drop n xs
    rw [drop_at h, List.drop_of_length_le (by omega)] at this
    exact this.symm
  rw [e]
  exact atI_last _ _
/-- pairs of numbers -/
def PrN (H : Hp) : List V → List (Nat × Nat) → Prop := Paired (fun v (p : Nat × Nat) => ∃ t, v = V.ref t ∧ H t = some (.tup [.int (p.1 : Nat), .int (p.2 : Nat)]))
theorem PrN.keep {H H1 : Hp} {xs : List V} {ps : List (Nat × Nat)} (h : PrN H xs ps) (s : Same H H1) : PrN H1 xs ps := pair_mono (fun v p ⟨t, e, ht⟩ => ⟨t, e, s _ _ ht⟩) h
theorem PrN.keepT {H H1 : Hp} {xs : List V} {ps : List (Nat × Nat)} (h : PrN H xs ps) (s : ∀ u ws, H u = some (.tup ws) → H1 u = some (.tup ws)) : PrN H1 xs ps := pair_mono (fun v p ⟨t, e, ht⟩ => ⟨t, e, s _ _ ht⟩) h
def pD (p : Nat × Nat) : PyData := .tuple [.int (p.1 : Nat), .int (p.2 : Nat)]
theorem prs_dp {K : PySem.W.Frag} {H : Hp} : ∀ {xs : List V} {rs : List (Nat × Nat)}, PrN H xs rs → DpAll K H xs (rs.map pD)
  | _, _, .nil => .nil
  | _, _, .cons a t => .cons (by
      obtain ⟨u, rfl, h⟩ := a
      exact .tup (SqT.of h) (.cons (.int _) (.cons (.int _) .nil))) (prs_dp t)
/-! ## windows -/
/-- the letters from a to b stand at another place, too -/
def Tw (X : Nat → Nat) (n a b : Nat) : Prop := ∃ k, k ≠ a ∧ k + (b - a) ≤ n ∧ ∀ t, t < b - a → X (k + t) = X (a + t)
theorem Tw.less {X : Nat → Nat} {n a b a' b' : Nat} (h : Tw X n a b) (h1 : a ≤ a') (h2 : a' ≤ b') (h3 : b' ≤ b) : Tw X n a' b' := by
  obtain ⟨k, k1, k2, k3⟩ := h
  refine ⟨k + (a' - a), by omega, by omega, fun t ht => ?_⟩
  have := k3 (a' - a + t) (by omega)
  rw [show k + (a' - a) + t = k + (a' - a + t) by omega, this, show a + (a' - a + t) = a' + t by omega]
def twB (x : Str) (a b : Nat) : Bool := decide (2 ≤ (plc x (cutS x (some (a : Int)) (some (b : Int)))).length)
theorem plc_own {x : Str} {a b : Nat} (h1 : a ≤ b) (h2 : b ≤ x.length) : a ∈ plc x (cutS x (some (a : Int)) (some (b : Int))) :=
  plc_ltr.mpr ⟨by rw [cut_len h1 h2]; omega, fun t ht => by
    rw [cut_len h1 h2] at ht
    exact (cut_ltr h1 h2 ht).symm⟩
theorem two_of {l : List Nat} {a : Nat} (nd : l.Pairwise (· < ·)) (ha : a ∈ l) : 2 ≤ l.length ↔ ∃ k ∈ l, k ≠ a := by
  constructor
  · intro h
    match l, nd, h with
    | x :: y :: r, nd, _ =>
      have lt := (List.pairwise_cons.mp nd).1 y List.mem_cons_self
      by_cases e : x = a
      · exact ⟨y, List.mem_cons_of_mem _ List.mem_cons_self, by omega⟩
      · exact ⟨x, List.mem_cons_self, e⟩
  · rintro ⟨k, hk, hne⟩
    match l, ha, hk with
    | [x], ha, hk => exact absurd ((List.mem_singleton.mp hk).trans (List.mem_singleton.mp ha).symm) hne
    | x :: y :: r, _, _ => show 2 ≤ r.length + 1 + 1; omega
theorem twB_iff {x : Str} {a b : Nat} (h1 : a ≤ b) (h2 : b ≤ x.length) : twB x a b = true ↔ Tw (ltr x) x.length a b := by
  unfold twB
  rw [decide_eq_true_eq, two_of (plc_asc _ _) (plc_own h1 h2)]
  constructor
  · rintro ⟨k, hk, hne⟩
    obtain ⟨k1, k2⟩ := plc_ltr.mp hk
    rw [cut_len h1 h2] at k1 k2
    exact ⟨k, hne, k1, fun t ht => (k2 t ht).trans (cut_ltr h1 h2 ht)⟩
  · rintro ⟨k, hne, k1, k2⟩
    refine ⟨k, plc_ltr.mpr ⟨by rw [cut_len h1 h2]; exact k1, fun t ht => ?_⟩, hne⟩
    rw [cut_len h1 h2] at ht
    rw [k2 t ht, cut_ltr h1 h2 ht]
theorem plc_one {x : Str} {a b : Nat} (h1 : a ≤ b) (h2 : b ≤ x.length) : (plc x (cutS x (some (a : Int)) (some (b : Int)))).length = 1 ↔ twB x a b = false := by
  have h := plc_own h1 h2
  have : 0 < (plc x (cutS x (some (a : Int)) (some (b : Int)))).length := List.length_pos_of_mem h
  unfold twB
  rw [decide_eq_false_iff_not]
  omega
/-- the least end of a window from a that stands once; behind the text if there is none -/
def lendF (x : Str) (a : Nat) : Nat → Nat → Nat
  | 0, e => e
  | f + 1, e => if e ≤ x.length ∧ twB x a e = true then lendF x a f (e + 1) else e
theorem lendF_step {x : Str} {a f e : Nat} (h : e ≤ x.length ∧ twB x a e = true) : lendF x a (f + 1) e = lendF x a f (e + 1) := by rw [lendF, if_pos h]
theorem lendF_stop {x : Str} {a f e : Nat} (h : ¬ (e ≤ x.length ∧ twB x a e = true)) : lendF x a f e = e := by
  cases f with
  | zero => rfl
  | succ f => rw [lendF, if_neg h]
/-- e is the least end from a -/
structure Lend (x : Str) (a e : Nat) : Prop where
  gt : a < e
  le : e ≤ x.length + 1
  twice : ∀ b, a < b → b < e → b ≤ x.length → twB x a b = true
  once : e ≤ x.length → twB x a e = false
theorem Lend.more {x : Str} {a e : Nat} (h : Lend x a e) {b : Nat} (h1 : e ≤ b) (h2 : b ≤ x.length) : twB x a b = false := by
  have g := h.gt
  cases e2 : twB x a b with
  | false => rfl
  | true =>
    have t := (twB_iff (by omega) h2).mp e2
    have := (twB_iff (by omega) (by omega)).mpr (t.less (Nat.le_refl _) (by omega) h1)
    rw [h.once (by omega)] at this
    cases this
theorem Lend.next {x : Str} {a e : Nat} (h : Lend x a e) : ∀ b, a + 1 < b → b < max e (a + 2) → b ≤ x.length → twB x (a + 1) b = true := by
  intro b b1 b2 b3
  have t := (twB_iff (by omega) b3).mp (h.twice b (by omega) (by omega) b3)
  exact (twB_iff (by omega) b3).mpr (t.less (by omega) (by omega) (Nat.le_refl _))
/-! ## one part -/
theorem more_list {z y : Str} : (z ++ y).cps.toList = z.cps.toList ++ y.cps.toList := by
  show (z.cps ++ y.cps).toList = _
  simp
end Vk
set_option Elab.async false
set_option maxRecDepth 100000
set_option linter.all false
namespace Vk
open PySem PySem.Spec PyProof.Rows L2
def top (i : Nat) : Stmt := PySem.Challenge.pw_anchoredits_k50_whole_windows_turned_and.main.body.getD i (.Pass ⟨0, 0, 0, 0⟩)
structure Txt (mg : Str → Option Value) : Prop where
  str : mg "str" = none
  tuple : mg "tuple" = none
  enumerate : mg "enumerate" = none
  bool : mg "bool" = none
  sum : mg "sum" = none
  max : mg "max" = none
  ValueError : mg "ValueError" = none
  reversed : mg "reversed" = none
  len : mg "len" = none
  list : mg "list" = none
  int : mg "int" = none
  abs : mg "abs" = none
  range : mg "range" = none
  min : mg "min" = none
  repr : mg "repr" = none
  isinstance : mg "isinstance" = none
abbrev tlV : List Value := [.type "ValueError", .type "Exception", .type "BaseException", .type "object"]
section
variable {P : Program} {w : World} {K : PySem.W.Frag} {mg : Str → Option Value} {base : Heap}
abbrev m_InvalidSpot : Stmt := mtd (top 9) 0
theorem sc_InvalidSpot : FnScope ["self", "value"] ["self", "value"] (defScope m_InvalidSpot) := ⟨rfl, rfl, rfl, by decide +kernel, rfl, by decide +kernel, by decide +kernel⟩
theorem b_InvalidSpot {f C : Addr} {fd : FuncData} (F : Fun K "__init__" "InvalidSpot.__init__" m_InvalidSpot f fd) (T : OexK K C) (no : ∀ f ∈ (["value"] : List Str), PySem.W.findIn K (.ref C) f = some none) : FnG P w K mg base CX0 1 f fd ["self", "value"] (spIni C ["value"]) := by
  refine okG0 F sc_InvalidSpot (fun vs H Q E h => ?_) (fun cdv A outer s H vs Q E hg hr h => ?_)
  · obtain ⟨a, ws, rfl, hl, _⟩ := h
    rw [List.length_cons, hl]
    rfl
  · obtain ⟨a, ws, rfl, hl, ha, k0, k⟩ := h
    match ws, hl with
    | [y], _ => exact ⟨_, (pss_one (ps_osk (pv 0) (pv 1))), _, rfl, _, rfl, a, C, rfl, T, no _ (by simp), .inl ⟨ha, fun dx n ne => k (by simp) dx n ne⟩⟩
theorem c_InvalidSpot {h : Heap} {f C : Addr} {fd : FuncData} {tl : List Value} (KX : K.In h) (G : h.Ns mainGlobals mg) (E : ExcTxt K "InvalidSpot" "InvalidSpot.__init__" m_InvalidSpot C f fd ["value"] tl) : ClsI P w K mg base 1 "InvalidSpot" C ["value"] :=
  .of1 E KX G (b_InvalidSpot E.fn E.T E.no) (fun _ _ _ _ _ _ _ _ => rfl) (fun _ _ _ _ _ _ _ _ => rfl)
/-- a text: a string of letters -/
def isT : PyData → Bool
  | .str z => decide (V.str (Txt.lstripChars z letS) = V.str "")
  | _ => false
abbrev s_lsigns : Stmt := top 53
theorem sc_lsigns : FnScope [] [] (defScope s_lsigns) := ⟨rfl, rfl, rfl, by decide +kernel, rfl, by decide +kernel, by decide +kernel⟩
theorem b_lsigns {f : Addr} {fd : FuncData} (F : Fun K "_law_signs" "_law_signs" s_lsigns f fd) (T : Txt mg) : FnG P w K mg base CX0 1 f fd [] spSigns := by
  refine okG0 F sc_lsigns (fun vs H Q E h => ?_) (fun cdv A outer s H vs Q E hg hr h => ?_)
  · obtain ⟨rfl, _⟩ := h
    rfl
  · have hu := hu_of hr
    have hu64 := hr.units
    obtain ⟨rfl, k⟩ := h
    exact ⟨_, (pss_one (ps_ret pe_str)), k⟩

def isIntB : PyData → Bool
  | .int _ => true
  | _ => false
theorem kit_int {H : Hp} {v : V} {d : PyData} (h : Th H v d) : ∃ t b c, TyX K H v t ∧ PySem.W.kitOne K t (.type "int") = some b ∧ PySem.W.kitOne K t (.type "bool") = some c ∧ (b && !c) = isIntB d ∧ (isIntB d = false → b = true → c = true) := by
  cases h with
  | atm a => cases a with
    | non => exact ⟨.type "NoneType", false, false, .base .non, kit_ty (by decide +kernel), kit_ty (by decide +kernel), rfl, fun _ z => nomatch z⟩
    | bl b => exact ⟨.type "bool", true, true, .base (.bl b), kit_ty (by decide +kernel), kit_ty (by decide +kernel), rfl, fun _ _ => rfl⟩
    | int i => exact ⟨.type "int", true, false, .base (.int i), kit_ty (by decide +kernel), kit_ty (by decide +kernel), rfl, fun z => nomatch z⟩
    | str x => exact ⟨.type "str", false, false, .base (.str x), kit_ty (by decide +kernel), kit_ty (by decide +kernel), rfl, fun _ z => nomatch z⟩
  | lst e _ _ => exact ⟨.type "list", false, false, .base (.lst e), kit_ty (by decide +kernel), kit_ty (by decide +kernel), rfl, fun _ z => nomatch z⟩
  | tup e _ => exact ⟨.type "tuple", false, false, .base (.tup e), kit_ty (by decide +kernel), kit_ty (by decide +kernel), rfl, fun _ z => nomatch z⟩
  | dct e => exact ⟨.type "dict", false, false, .base (.dK e), kit_ty (by decide +kernel), kit_ty (by decide +kernel), rfl, fun _ z => nomatch z⟩
def inI (d : PyData) (lo hi : Int) : Bool := match d with | .int i => decide (lo ≤ i) && decide (i ≤ hi) | _ => false
def spIsInt : Sp := fun vs H Q _ => ∃ v d, vs = [v] ∧ Th H v d ∧ Q (.bl (isIntB d)) H
def spInI : Sp := fun vs H Q _ => ∃ v d lo hi, vs = [v, .int lo, .int hi] ∧ Th H v d ∧ Q (.bl (inI d lo hi)) H
theorem int_th {H : Hp} {v : V} {d : PyData} (h : Th H v d) (z : isIntB d = true) : ∃ i, d = .int i ∧ v = .int i := by
  cases h with
  | atm a => cases a with
    | int i => exact ⟨i, rfl, rfl⟩
    | _ => cases z
  | _ => cases z
theorem inI_no {d : PyData} {lo hi : Int} (z : isIntB d = false) : inI d lo hi = false := by
  cases d with
  | int i => cases z
  | _ => rfl
abbrev s_is_integer : Stmt := top 4
theorem sc_is_integer : FnScope ["value"] ["value"] (defScope s_is_integer) := ⟨rfl, rfl, rfl, by decide +kernel, rfl, by decide +kernel, by decide +kernel⟩
theorem b_is_integer {f : Addr} {fd : FuncData} (F : Fun K "is_integer" "is_integer" s_is_integer f fd) (T : Txt mg) : FnG P w K mg base CX0 1 f fd ["value"] spIsInt := by
  refine okG0 F sc_is_integer (fun vs H Q E h => ?_) (fun cdv A outer s H vs Q E hg hr h => ?_)
  · obtain ⟨v, d, rfl, _⟩ := h
    rfl
  · have hu := hu_of hr
    have hu64 := hr.units
    obtain ⟨v, d, rfl, th, k⟩ := h
    obtain ⟨t, b, c, ty, kt, kc, hb, _⟩ := kit_int (K := K) th
    refine ⟨_, (pss_one (ps_ret (pe_and (pe_callB call_isi (by rfl) T.isinstance (by decide +kernel) (pa_cons (pv 0) (pa_cons (pe_bltn (v := .ty "int") (by rfl) T.int rfl rfl) pa_nil))) (pe_one (pe_not (pe_callB call_isi (by rfl) T.isinstance (by decide +kernel) (pa_cons (pv 0) (pa_cons (pe_bltn (v := .ty "bool") (by rfl) T.bool rfl rfl) pa_nil)))))))), ?_⟩
    refine ⟨_, rfl, v, .ty "int", t, .type "int", b, rfl, .ty "int", ty, kt, _, rfl, ?_⟩
    rw [← hb] at k
    cases b with
    | false => exact iteF k
    | true => exact iteT ⟨_, rfl, v, .ty "bool", t, .type "bool", c, rfl, .ty "bool", ty, kc, _, rfl, k⟩

abbrev s_is_integer_in : Stmt := top 5
theorem sc_is_integer_in : FnScope ["value", "low", "high"] ["value", "low", "high"] (defScope s_is_integer_in) := ⟨rfl, rfl, rfl, by decide +kernel, rfl, by decide +kernel, by decide +kernel⟩
theorem b_is_integer_in {f : Addr} {fd : FuncData} (F : Fun K "is_integer_in" "is_integer_in" s_is_integer_in f fd) (T : Txt mg) (c_is_integer : CalG P w K mg base CX0 1 "is_integer" spIsInt) : FnG P w K mg base CX0 2 f fd ["value", "low", "high"] spInI := by
  refine okG0 F sc_is_integer_in (fun vs H Q E h => ?_) (fun cdv A outer s H vs Q E hg hr h => ?_)
  · obtain ⟨v, d, lo, hi, rfl, _⟩ := h
    rfl
  · have hu := hu_of hr
    have hu64 := hr.units
    obtain ⟨v, d, lo, hi, rfl, th, k⟩ := h
    refine ⟨_, (pss_one (ps_ret (pe_and (pe_cG c_is_integer hg hr (by decide) pass0 (pa_cons (pv 0) pa_nil)) (pe_one (pe_chain op_le op_le (pv 1) (pv 0) (pv 2)))))), ?_⟩
    refine ⟨_, rfl, v, d, rfl, th, _, rfl, ?_⟩
    cases hI : isIntB d with
    | false =>
      rw [inI_no hI] at k
      exact iteF k
    | true =>
      obtain ⟨i, rfl, rfl⟩ := int_th th hI
      have k : Q (.bl (decide (lo ≤ i) && decide (i ≤ hi))) H := k
      refine iteT ⟨_, rfl, _, rfl, ?_⟩
      refine ⟨_, _, rfl, rfl, _, rfl, ?_⟩
      cases h1 : decide (lo ≤ i) with
      | false =>
        rw [h1, Bool.false_and] at k
        exact iteF k
      | true =>
        rw [h1, Bool.true_and] at k
        exact iteT ⟨_, rfl, _, _, rfl, rfl, k⟩

end
end Vk
set_option Elab.async false
set_option maxRecDepth 100000
set_option maxHeartbeats 4000000
set_option linter.all false
namespace Vk
open L2 PySem PySem.Spec PyProof.Rows PySem.VkX
/-! ## several except clauses, two classes in one among them -/
inductive Cly
  | only (c : Value) (ts : Sui)
  | named (c : Value) (i : Nat) (ts : Sui)
  | pair (c1 c2 : Value) (ts : Sui)
inductive ClyOk (X : Cx) : List ExceptHandler → List Cly → Prop
  | nil : ClyOk X [] []
  | only {x : Str} {c : Value} {ts : Sui} {s0 : Stmt} {ss : List Stmt} {p1 p2 : Pos} {hs : List ExceptHandler} {l : List Cly} (hc : Names X x c) (su : SuiOk X (s0 :: ss) ts) (r : ClyOk X hs l) : ClyOk X (.ExceptHandler (some (.Name x p1)) none (s0 :: ss) p2 :: hs) (.only c ts :: l)
  | named {x n : Str} {c : Value} {i : Nat} {ts : Sui} {s0 : Stmt} {ss : List Stmt} {p1 p2 : Pos} {hs : List ExceptHandler} {l : List Cly} (hi : X.N[i]? = some n) (hl : X.env.kindOf n = some .local) (hc : Names X x c) (su : SuiOk X (s0 :: ss) ts) (r : ClyOk X hs l) :
      ClyOk X (.ExceptHandler (some (.Name x p1)) (some n) (s0 :: ss) p2 :: hs) (.named c i ts :: l)
  | pair {x y : Str} {c1 c2 : Value} {ts : Sui} {s0 : Stmt} {ss : List Stmt} {p1 p2 p3 pt : Pos} {kk : Nat} {hs : List ExceptHandler} {l : List Cly} (hx : Names X x c1) (hy : Names X y c2) (su : SuiOk X (s0 :: ss) ts) (r : ClyOk X hs l) :
      ClyOk X (.ExceptHandler (some (.Tuple [.Name x p1, .Name y p3] kk pt)) none (s0 :: ss) p2 :: hs) (.pair c1 c2 ts :: l)
section
variable {X : Cx} {body : List Stmt} {e0 : ExceptHandler} {es : List ExceptHandler} {l : List Cly} {pos : Pos} {tb : WX → TS} {W0 : WX}
end
end Vk
set_option Elab.async false
set_option maxRecDepth 100000
set_option maxHeartbeats 4000000
set_option linter.all false
namespace Vk
open PySem PySem.Spec PyProof.Rows L2
/-! ## x[::-1], x a text -/
theorem back_idx (n : Nat) : Builtin.Str.strSliceIndices none none (-1) n = (List.range n).reverse := by
  rw [← PySem.W.krv_range, ← PySem.W.krv_sliceRange]
  rfl
/-- read from the end -/
def backS (z : Str) : Str := ⟨z.cps.toList.reverse.toArray⟩
def tRevS (te : TE) : TE := fun σ H Q => te σ H fun x H1 => ∃ z, x = .str z ∧ z.length ≤ sizeLine ∧ Q (.str (backS z)) H1
theorem pe_revS {X : Cx} {e : Expr} {te : TE} {k : Nat} {p1 p2 p3 pos : Pos} (he : PE X e te) : PE X (.Subscript e (.Slice none none (some (.UnaryOp .USub (.Constant (.int 1) k p1) p2)) p3) pos) (tRevS te) := by
  refine ⟨fun pins s σ H Q I h => ?_⟩
  refine Subscript_ (thn (he.run pins s σ H _ I h) fun v s1 ⟨x, H1, I1, r1, q1⟩ => ?_)
  obtain ⟨z, rfl, hz, q⟩ := q1
  obtain ⟨t, rfl⟩ := r1
  have step : PO X (some (.UnaryOp .USub (.Constant (.int 1) k p1) p2)) (tPart (tUn (rU fun i => .int (-i)) (tC (.int 1)))) := po_some (pe_un un_neg pe_int)
  refine wpAny_Slice (thn (po_none.run pins s1 σ H1 (fun o H2 => o = none ∧ H2 = H1) I1 ⟨rfl, rfl⟩) fun vl s2 ⟨l, H2, I2, pl, el, e2⟩ => ?_)
  subst el e2
  refine thn (po_none.run pins s2 σ H2 (fun o H3 => o = none ∧ H3 = H2) I2 ⟨rfl, rfl⟩) fun vu s3 ⟨u, H3, I3, pu, eu, e3⟩ => ?_
  subst eu e3
  refine thn (step.run pins s3 σ H3 (fun o H4 => o = some (-1) ∧ H4 = H3) I3 ⟨1, rfl, -1, rfl, rfl, rfl⟩) fun vs s4 ⟨o, H4, I4, ps, eo, e4⟩ => ?_
  subst eo e4
  have I5 : Inv X pins σ H4 { s4 with heap := s4.heap.push { cls := .type "slice", data := .fields #[vl, vu, vs] } } := I4.kept (t' := s4.toks) fun b ob q => Heap.get?_push_of_some _ q
  obtain ⟨pl1, rfl, el⟩ := IsPart.raw pl
  obtain ⟨pu1, rfl, eu⟩ := IsPart.raw pu
  obtain ⟨ps1, rfl, es⟩ := IsPart.raw ps
  match pl1, pu1, ps1, el, eu, es with
  | none, none, some (m, tm), _, _, es =>
    have em : m = -1 := Option.some.inj es
    subst em
    refine tail_any (ops := [.str z t, .ref s4.heap.objs.size]) (typeIs_str _ _ _) F.slot_str_getitem.lookup ?_ (by with_unfolding_all rfl)
    refine wpAny_getItem_str_slice (l := none) (u := none) (st := some (-1, tm)) ⟨_, Heap.get?_push_size _ rfl, rfl, rfl⟩ rfl ?_
    have e : (⟨((Builtin.Str.strSliceIndices none none (-1) z.length).filterMap (z.cps[·]?)).toArray⟩ : Str) = backS z := by
      rw [back_idx, List.filterMap_reverse]
      unfold backS
      exact congrArg (fun l : List Nat => (⟨l.reverse.toArray⟩ : Str)) (PySem.W.krv_all z.cps)
    show Made.post (Made.str ⟨((Builtin.Str.strSliceIndices none none (-1) z.length).filterMap (z.cps[·]?)).toArray⟩) (EP X pins σ Q) _
    rw [e]
    have hl : (backS z).length ≤ sizeLine := by
      show (z.cps.toList.reverse.toArray).size ≤ sizeLine
      rw [List.size_toArray, List.length_reverse, Array.length_toList]
      exact hz
    exact ⟨hl, .str _, H4, I5.tok _, ⟨_, rfl⟩, q⟩
end Vk
set_option Elab.async false
set_option maxRecDepth 100000
set_option maxHeartbeats 4000000
set_option linter.all false
namespace Vk
open PySem PySem.Spec PyProof.Rows L2 HT
/-! ## t[::-1], t a tuple -/
section
variable {prog : Program} {w : World} {A : Around} {E : Value → Shared → Prop} {s : Shared}
end
end Vk
set_option Elab.async false
set_option maxRecDepth 100000
set_option maxHeartbeats 4000000
set_option linter.all false
namespace Vk
open PySem PySem.Spec PyProof.Rows L2 LamX
/-! ## things: a value, or a list or a tuple of values -/
inductive Tg (H : Hp) : V → PyData → Prop
  | one {v : V} {d : PyData} : Th H v d → (∀ ds, d ≠ .tuple ds) → Tg H v d
  | lst {a : Addr} {vs : List V} {ds : List PyData} : H a = some (.lst vs) → Paired (Th H) vs ds → Tg H (.ref a) (.list ds)
  | tup {a : Addr} {vs : List V} {ds : List PyData} : H a = some (.tup vs) → Paired (Th H) vs ds → Tg H (.ref a) (.tuple ds)
theorem atms_ths {H : Hp} : ∀ {vs : List V} {ds : List PyData}, Paired Atm vs ds → Paired (Th H) vs ds
  | _, _, .nil => .nil
  | _, _, .cons a t => .cons (.atm a) (atms_ths t)
theorem Th.tg {H : Hp} {v : V} {d : PyData} (h : Th H v d) : Tg H v d := by
  cases h with
  | atm a => exact .one (.atm a) (fun ds z => by cases a <;> cases z)
  | lst e n p => exact .one (.lst e n p) (fun ds z => by cases z)
  | tup e p => exact .tup e (atms_ths p)
  | dct e => exact .one (.dct e) (fun ds z => by cases z)
theorem Tg.keep {H H' : Hp} {v : V} {d : PyData} (h : Tg H v d) (s : Same H H') : Tg H' v d := by
  cases h with
  | one th n => exact .one (th.keep s) n
  | lst e p => exact .lst (s _ _ e) (ths_keep s p)
  | tup e p => exact .tup (s _ _ e) (ths_keep s p)
theorem ths_ext {H H' : Hp} {p c : Addr} {T : Nat} (hp : Pen H p c T) (x : Ext p H H') : ∀ {vs : List V} {ds : List PyData}, Paired (Th H) vs ds → Paired (Th H') vs ds
  | _, _, .nil => .nil
  | _, _, .cons a t => .cons (a.ext hp x) (ths_ext hp x t)
theorem Tg.ext {H H' : Hp} {p c : Addr} {T : Nat} {v : V} {d : PyData} (h : Tg H v d) (hp : Pen H p c T) (x : Ext p H H') : Tg H' v d := by
  have ne : ∀ {a o}, H a = some o → (∀ k, o ≠ .dK k) → H' a = some o := fun {a o} e n => x _ _ e fun z => by
    obtain ⟨t, l, hl⟩ := hp.is
    rw [z, hl] at e
    exact n _ (Option.some.inj e).symm
  cases h with
  | one th n => exact .one (th.ext hp x) n
  | lst e p => exact .lst (ne e fun _ z => nomatch z) (ths_ext hp x p)
  | tup e p => exact .tup (ne e fun _ z => nomatch z) (ths_ext hp x p)
end Vk
set_option Elab.async false
set_option maxRecDepth 100000
set_option linter.all false
set_option maxHeartbeats 4000000
namespace Vk
open PySem PySem.Spec PyProof.Rows L2
section
variable {P : Program} {w : World} {K : PySem.W.Frag} {mg : Str → Option Value} {base : Heap}
theorem find_two {x w : Str} : (∃ z : Int, Txt.find x w = z ∧ ∃ y : Int, Txt.find3 x w (z + 1) = y ∧ (decide (0 ≤ y) = decide (2 ≤ (plc x w).length))) := by
  have nd := plc_asc x w
  have mem : ∀ i, StrLaws.At x w x.length i ↔ i ∈ plc x w := fun i => by
    unfold plc
    rw [List.mem_filter, List.mem_range, atB_iff]
    exact ⟨fun h => ⟨by have := h.1; omega, h⟩, fun h => h.2⟩
  have ef : ∀ i : Nat, Txt.find3 x w ((i : Nat) : Int) = (match Builtin.Str.occurrences x w i x.length 1 with | i :: _ => (i : Int) | [] => -1) := fun i => by
    unfold Txt.find3
    rw [show fromIndex x.length ((i : Nat) : Int) = i by unfold fromIndex; rw [if_neg (by omega)]; omega]
    cases Builtin.Str.occurrences x w i x.length 1 <;> rfl
  have key : ∀ i : Nat, i ≤ x.length + 1 → (Txt.find3 x w ((i : Nat) : Int) = -1 ∧ ∀ k, i ≤ k → ¬ StrLaws.At x w x.length k) ∨ ∃ j : Nat, Txt.find3 x w ((i : Nat) : Int) = (j : Int) ∧ i ≤ j ∧ StrLaws.At x w x.length j ∧ ∀ k, i ≤ k → k < j → ¬ StrLaws.At x w x.length k := fun i hi => by
    rw [ef]
    exact find_from x w i hi
  have f0 : (Txt.find x w = -1 ∧ ∀ k, 0 ≤ k → ¬ StrLaws.At x w x.length k) ∨ ∃ j : Nat, Txt.find x w = (j : Int) ∧ 0 ≤ j ∧ StrLaws.At x w x.length j ∧ ∀ k, 0 ≤ k → k < j → ¬ StrLaws.At x w x.length k := find_from x w 0 (Nat.zero_le _)
  refine ⟨_, rfl, _, rfl, ?_⟩
  rcases f0 with ⟨h1, h2⟩ | ⟨i, h1, h2, h3, h4⟩
  · have en : plc x w = [] := List.eq_nil_iff_forall_not_mem.mpr fun k hk => h2 k (Nat.zero_le _) ((mem k).mpr hk)
    have k0 := key 0 (Nat.zero_le _)
    rw [h1, en]
    rcases k0 with ⟨g1, _⟩ | ⟨j, _, _, g3, _⟩
    · rw [show ((-1 : Int) + 1) = ((0 : Nat) : Int) by rfl, g1]
      decide
    · exact absurd g3 (h2 j (Nat.zero_le _))
  · have il : i ≤ x.length := by have := h3.1; omega
    have hi := (mem i).mp h3
    rw [h1, show ((i : Int) + 1) = ((i + 1 : Nat) : Int) by omega, decide_eq_decide, two_of nd hi]
    rcases key (i + 1) (by omega) with ⟨g1, g2⟩ | ⟨j, g1, g2, g3, g4⟩
    · rw [g1]
      constructor
      · intro h; omega
      · rintro ⟨k, hk, hne⟩
        have hk2 := (mem k).mpr hk
        by_cases lt : k < i
        · exact absurd hk2 (h4 k (Nat.zero_le _) lt)
        · exact absurd hk2 (g2 k (by omega))
    · rw [g1]
      exact ⟨fun _ => ⟨j, (mem j).mp g3, by omega⟩, fun _ => by omega⟩
def spTwice : Sp := fun vs H Q _ => ∃ x w, vs = [.str x, .str w] ∧ Q (.bl (decide (2 ≤ (plc x w).length))) H
abbrev s_stands_twice : Stmt := top 40
theorem sc_stands_twice : FnScope ["text", "word"] ["text", "word"] (defScope s_stands_twice) := ⟨rfl, rfl, rfl, by decide +kernel, rfl, by decide +kernel, by decide +kernel⟩
theorem b_stands_twice {f : Addr} {fd : FuncData} (F : Fun K "stands_twice" "stands_twice" s_stands_twice f fd) (T : Txt mg) : FnG P w K mg base CX0 1 f fd ["text", "word"] spTwice := by
  refine okG0 F sc_stands_twice (fun vs H Q E h => ?_) (fun cdv A outer s H vs Q E hg hr h => ?_)
  · obtain ⟨x, w, rfl, _⟩ := h
    rfl
  · have hu := hu_of hr
    have hu64 := hr.units
    obtain ⟨x, w, rfl, k⟩ := h
    refine ⟨_, (pss_one (ps_ret (pe_cmpR op_ge (pe_bm PySem.F.plainAttrs_str PySem.F.slot_str_find PySem.F.type_str_find mt_find3 (pv 0) (pa_cons (pv 1) (pa_cons (pe_op op_add (pe_bm PySem.F.plainAttrs_str PySem.F.slot_str_find PySem.F.type_str_find mt_find (pv 0) (pa_cons (pv 1) pa_nil)) pe_int) pa_nil))) pe_int (nomark _)))), ?_⟩
    obtain ⟨z, e1, y, e2, e3⟩ := @find_two x w
    refine ⟨_, rfl, rfl, _, rfl, _, rfl, rfl, _, rfl, x, w, rfl, rfl, ?_⟩
    rw [e1]
    refine ⟨_, _, rfl, rfl, x, w, _, rfl, rfl, ?_⟩
    rw [e2]
    refine ⟨_, _, rfl, rfl, ?_⟩
    show Q (V.bl (decide (0 ≤ y))) H
    rw [e3]
    exact k

theorem inI_int {d : PyData} {lo hi : Int} (h : inI d lo hi = true) : ∃ i, d = .int i ∧ lo ≤ i ∧ i ≤ hi := by
  cases d with
  | int i =>
    have h : (decide (lo ≤ i) && decide (i ≤ hi)) = true := h
    rw [Bool.and_eq_true, decide_eq_true_eq, decide_eq_true_eq] at h
    exact ⟨i, rfl, h.1, h.2⟩
  | _ => cases h
theorem th_int {H : Hp} {v : V} {i : Int} (h : Th H v (.int i)) : v = .int i := by
  cases h with
  | atm a => cases a; rfl
def spCkSpot (CS : Addr) : Sp := fun vs H Q E => ∃ x v1 d1 v2 d2, vs = [.str x, v1, v2] ∧ Th H v1 d1 ∧ Th H v2 d2 ∧ x.length ≤ 100 ∧ (inI d1 0 x.length = false → ∀ d, H d = none → E (.ref CS) (some d) (upd H d (.xd [(("value" : Str), v1)]))) ∧
  (∀ i, d1 = .int i → 0 ≤ i → i ≤ x.length → inI d2 i x.length = false → ∀ d, H d = none → E (.ref CS) (some d) (upd H d (.xd [(("value" : Str), v2)]))) ∧ (∀ i j, d1 = .int i → d2 = .int j → 0 ≤ i → i ≤ j → j ≤ x.length → Q .non H)
abbrev s_check_spot : Stmt := top 39
theorem sc_check_spot : FnScope ["text", "first", "last"] ["text", "first", "last"] (defScope s_check_spot) := ⟨rfl, rfl, rfl, by decide +kernel, rfl, by decide +kernel, by decide +kernel⟩
theorem b_check_spot {f : Addr} {fd : FuncData} (F : Fun K "check_spot" "check_spot" s_check_spot f fd) (T : Txt mg) (c_is_integer_in : CalG P w K mg base CX0 2 "is_integer_in" spInI) {C_InvalidSpot : Addr} (c_InvalidSpot : ClsI P w K mg base 1 "InvalidSpot" C_InvalidSpot ["value"]) : FnG P w K mg base (L2.CX P w) 3 f fd ["text", "first", "last"] (spCkSpot C_InvalidSpot) := by
  refine okG F sc_check_spot (fun vs H Q E h => ?_) (fun cdv A outer s H vs Q E hg hr h => ?_)
  · obtain ⟨x, v1, d1, v2, d2, rfl, _⟩ := h
    rfl
  · have hu := hu_of hr
    have hu64 := hr.units
    obtain ⟨x, v1, d1, v2, d2, rfl, t1, t2, hx, k1, k2, k3⟩ := h
    have xl : x.length ≤ sizeLine := Nat.le_of_lt (fewL (by omega))
    refine ⟨_, (pss_cons (ps_if (pt_not (pt_val (pe_cG c_is_integer_in hg hr (by decide) pass0 (pa_cons (pv 1) (pa_cons pe_int (pa_cons (pe_callB call_len (by rfl) T.len (by decide +kernel) (pa_cons (pv 0) pa_nil)) pa_nil)))))) (pss_one (ps_raise rfl (takes_of rfl rfl rfl rfl) (pmk_k c_InvalidSpot hg hr (by decide) pass0 (pa_cons (pv 1) pa_nil)))) pss_nil)
      (pss_one (ps_if (pt_not (pt_val (pe_cG c_is_integer_in hg hr (by decide) pass0 (pa_cons (pv 2) (pa_cons (pv 1) (pa_cons (pe_callB call_len (by rfl) T.len (by decide +kernel) (pa_cons (pv 0) pa_nil)) pa_nil)))))) (pss_one (ps_raise rfl (takes_of rfl rfl rfl rfl) (pmk_k c_InvalidSpot hg hr (by decide) pass0 (pa_cons (pv 2) pa_nil)))) pss_nil))), ?_⟩
    refine ⟨_, rfl, _, rfl, _, _, rfl, ⟨xl, rfl⟩, v1, d1, _, _, rfl, t1, _, rfl, ?_⟩
    cases h1 : inI d1 0 x.length with
    | false => exact iteT ⟨_, rfl, rfl, fun d hd => k1 h1 d hd⟩
    | true =>
      obtain ⟨i, rfl, i0, i1⟩ := inI_int h1
      cases th_int t1
      refine iteF ⟨_, rfl, _, rfl, _, rfl, _, _, rfl, ⟨xl, rfl⟩, v2, d2, _, _, rfl, t2, _, rfl, ?_⟩
      cases h2 : inI d2 i x.length with
      | false => exact iteT ⟨_, rfl, rfl, fun d hd => k2 i rfl i0 i1 h2 d hd⟩
      | true =>
        obtain ⟨j, rfl, j0, j1⟩ := inI_int h2
        exact iteF (k3 i j rfl rfl i0 j0 j1)

end
end Vk
set_option Elab.async false
set_option maxRecDepth 100000
set_option linter.all false
set_option maxHeartbeats 4000000
namespace Vk
open PySem PySem.Spec PyProof.Rows L2
section
variable {P : Program} {w : World} {K : PySem.W.Frag} {mg : Str → Option Value} {base : Heap}
abbrev Ltr (x : Str) : Prop := ∀ c ∈ x.cps.toList, c ∈ letS.cps.toList
theorem lt_word {z x : Str} {a b : Nat} (fz : Few z) (w : Word z a b x) : Ltr x := fun c hc => fz.2.2 c (w.2.2 c hc)
theorem lt_one {z : Str} {c : Nat} (fz : Few z) (h : c ∈ z.cps.toList) : Ltr (⟨#[c]⟩ : Str) := fun d hd => by
  have e : d ∈ [c] := hd
  rw [List.mem_singleton.mp e]
  exact fz.2.2 c h
theorem cutS_lt {x : Str} (h : Ltr x) (a b : Option Int) : Ltr (cutS x a b) := fun c hc => by
  have hc2 : c ∈ (List.toArray ((x.cps.toList.drop (HT.sIx x.length 0 a)).take (HT.sIx x.length x.length b - HT.sIx x.length 0 a))).toList := hc
  rw [List.toList_toArray] at hc2
  exact h c (List.mem_of_mem_drop (List.mem_of_mem_take hc2))
theorem lt_more {z y : Str} (h1 : Ltr z) (h2 : Ltr y) : Ltr (z ++ y) := fun c hc => by
  rw [more_list] at hc
  rcases List.mem_append.mp hc with h | h
  · exact h1 c h
  · exact h2 c h
theorem lt_none : Ltr "" := by decide +kernel
abbrev s_ldraw : Stmt := top 50
theorem sc_ldraw : FnScope ["_law_pen_here", "_law_many", "_law_digit", "_law_turn", "_law_cell", "_law_primes", "_law_prime", "_law_drawn"] ["_law_pen_here", "_law_many"] (defScope s_ldraw) := ⟨rfl, rfl, rfl, by decide +kernel, rfl, by decide +kernel, by decide +kernel⟩
theorem b_ldraw {f : Addr} {fd : FuncData} (F : Fun K "_law_draw" "_law_draw" s_ldraw f fd) (T : Txt mg) : FnG P w K mg base CX0 1 f fd ["_law_pen_here", "_law_many"] spDraw := by
  refine okG0 F sc_ldraw (fun vs H Q E h => ?_) (fun cdv A outer s H vs Q E hg hr h => ?_)
  · obtain ⟨p, c, m, T0, rfl, _⟩ := h
    rfl
  · have hu := hu_of hr
    have hu64 := hr.units
    obtain ⟨p, c, m, T0, rfl, m0, m1, ⟨ns, t, l, hp, hc, hn, t0, tT, l0⟩, hT, k⟩ := h
    have ncp : c ≠ p := ne_of hc hp (by intro z; cases z)
    have lenns : (ns.map V.int).length = ns.length := List.length_map _
    refine ⟨_, (pss_cons (ps_if (pt_cmpR op_gt (pe_dget hu (pv 0) pe_str (fun _ _ => rfl)) pe_int (nomark _)) (pss_cons (ps_set (i := 2) sc_ldraw.nd rfl (Or.inl rfl) (pe_op op_mod (pe_callTy call_int1 (by rfl) T.int (by decide +kernel) (pa_cons (pe_dget hu (pv 0) pe_str (fun _ _ => rfl)) pa_nil)) (pv 1)))
      (pss_cons (ps_dput hu (pv 0) pe_str (pe_op op_fdiv (pe_dget hu (pv 0) pe_str (fun _ _ => rfl)) (pv 1)) rfl)
      (pss_one (ps_ret (pv 2))))) pss_nil)
      (pss_cons (ps_set (i := 3) sc_ldraw.nd rfl (Or.inl rfl) (pe_dget hu (pv 0) pe_str (fun _ _ => rfl)))
      (pss_cons (ps_dput hu (pv 0) pe_str (pe_op op_add (pv 3) pe_int) rfl)
      (pss_cons (ps_set (i := 4) sc_ldraw.nd rfl (Or.inl rfl) (pe_op op_add (pe_op op_mul pe_int (pv 3)) pe_int))
      (C8.pss_cut (ps_if (pt_cmpR (op_neD hu64) (pe_dget hu (pv 0) pe_str (fun _ _ => rfl)) (pe_lst pa_nil) (nomark _)) (pss_one (ps_set (i := 4) sc_ldraw.nd rfl (Or.inl rfl) (pe_ix ix_seq (pe_dget hu (pv 0) pe_str (fun _ _ => rfl)) (pe_op op_mod (pe_callTy call_int1 (by rfl) T.int (by decide +kernel) (pa_cons (pv 3) pa_nil)) (pe_callB call_len (by rfl) T.len (by decide +kernel) (pa_cons (pe_dget hu (pv 0) pe_str (fun _ _ => rfl)) pa_nil))) (fun _ _ => rfl)))) pss_nil)
      (C8.pss_cut (ps_if (PW.pt (pw_and (pt_cmpR op_lt (pv 3) (pe_callB call_len (by rfl) T.len (by decide +kernel) (pa_cons (pe_dget hu (pv 0) pe_str (fun _ _ => rfl)) pa_nil)) (nomark _)) (pw_and1 (pt_cmpR op_ge (pe_callB call_abs (by rfl) T.abs (by decide +kernel) (pa_cons (pv 4) pa_nil)) (pe_op op_pow pe_int pe_int) (nomark _))))) (pss_cons (ps_dput hu (pv 0) pe_str (pe_op op_fdiv (pe_op op_sub (pe_callB call_abs (by rfl) T.abs (by decide +kernel) (pa_cons (pv 4) pa_nil)) (pe_op op_pow pe_int pe_int)) (pv 1)) rfl)
      (pss_one (ps_ret (pe_op op_mod (pe_op op_sub (pe_callB call_abs (by rfl) T.abs (by decide +kernel) (pa_cons (pv 4) pa_nil)) (pe_op op_pow pe_int pe_int)) (pv 1))))) pss_nil)
      (pss_cons (ps_set (i := 5) sc_ldraw.nd rfl (Or.inl rfl) (pe_lst (pa_cons pe_int (pa_cons pe_int (pa_cons pe_int (pa_cons pe_int (pa_cons pe_int pa_nil)))))))
      (pss_cons (ps_set (i := 6) sc_ldraw.nd rfl (Or.inl rfl) (pe_ix ix_seq (pv 5) (pe_op op_mod (pe_callTy call_int1 (by rfl) T.int (by decide +kernel) (pa_cons (pv 3) pa_nil)) pe_int) (fun _ _ => rfl)))
      (pss_cons (ps_set (i := 7) sc_ldraw.nd rfl (Or.inl rfl) (pe_op op_mod (pe_callTy call_int1 (by rfl) T.int (by decide +kernel) (pa_cons (pe_op op_add (pe_op op_add (pe_op op_mul (pe_op op_mod (pe_callTy call_int1 (by rfl) T.int (by decide +kernel) (pa_cons (pv 4) pa_nil)) (pv 6)) pe_int) (pe_op op_mul (pv 3) (pe_op op_add (pe_op op_mul pe_int (pv 3)) pe_int))) pe_int) pa_nil)) (pv 6)))
      (pss_cons (ps_set (i := 7) sc_ldraw.nd rfl (Or.inl rfl) (pe_op op_mod (pe_callTy call_int1 (by rfl) T.int (by decide +kernel) (pa_cons (pe_op op_mul (pv 7) (pe_op op_add (pv 7) pe_int)) pa_nil)) (pe_ix ix_seq (pv 5) (pe_op op_mod (pe_callTy call_int1 (by rfl) T.int (by decide +kernel) (pa_cons (pe_op op_add (pv 3) pe_int) pa_nil)) pe_int) (fun _ _ => rfl))))
      (pss_one (ps_ret (pe_op op_mod (pe_callTy call_int1 (by rfl) T.int (by decide +kernel) (pa_cons (pe_op op_fdiv (pe_op op_mod (pe_callTy call_int1 (by rfl) T.int (by decide +kernel) (pa_cons (pe_op op_add (pe_op op_add (pe_op op_mul (pv 7) (pv 7)) (pe_op op_mul pe_int (pv 7))) (pv 3)) pa_nil)) pe_int) pe_int) pa_nil)) (pv 1)))))))))))))), ?_⟩
    refine ⟨_, rfl, p, _, rfl, get_left hp, _, _, rfl, rfl, _, rfl, ?_⟩
    refine ite2 (fun hl => ?_) (fun hl => ?_)
    · refine ⟨_, rfl, p, _, rfl, get_left hp, .inl ⟨_, rfl, ?_⟩⟩
      refine ⟨_, rfl, _, _, rfl, rfl, m0, ?_⟩
      refine ⟨_, rfl, p, _, rfl, get_left hp, _, rfl, _, _, rfl, rfl, ⟨by omega, by omega⟩, ?_⟩
      refine ⟨_, rfl, p, _, rfl, put_left hp, _, rfl, ?_⟩
      refine k _ _ (Int.emod_nonneg _ (by omega)) (Int.emod_lt_of_pos _ m0) ⟨ns, t, _, upd_same, (upd_ne ncp).trans hc, hn, t0, by omega, Int.ediv_nonneg l0 (by omega)⟩ Ext.at
    · refine ⟨_, rfl, p, _, rfl, get_turn hp, ?_⟩
      refine ⟨_, rfl, _, _, rfl, rfl, _, rfl, p, _, rfl, put_turn hp, ?_⟩
      generalize hH1 : upd H p (.dK (penL c (t + 1) l)) = H1
      have hp1 : H1 p = some (.dK (penL c (t + 1) l)) := by rw [← hH1]; exact upd_same
      have hc1 : H1 c = some (.lst (ns.map V.int)) := by rw [← hH1]; exact (upd_ne ncp).trans hc
      have e1 : Ext p H H1 := by rw [← hH1]; exact Ext.at
      refine ⟨_, rfl, _, _, rfl, rfl, .inl ⟨by decide, by decide⟩, _, _, rfl, rfl, ?_⟩
      refine ⟨fun σ' H2 => ∃ z : Int, σ' = [some (.ref p), some (.int m), none, some (.int t), some (.int z), none, none, none] ∧ H2 p = some (.dK (penL c (t + 1) l)) ∧ H2 c = some (.lst (ns.map V.int)) ∧ Ext p H H2, ?_, ?_⟩
      · refine ⟨_, rfl, p, _, rfl, get_cells hp1, by decide, fun b hb => ?_⟩
        have hp2 := up_new (u := .lst []) hp1 hb
        have hc2 := up_new (u := .lst []) hc1 hb
        refine ⟨.list (ns.map .int), .list [], .lst (SqL.of hc2) (ints_dp ns), .lst (SqL.of upd_same) .nil, ints_shaped ns, by decide +kernel, _, rfl, ?_⟩
        rw [ints_ne_nil]
        refine ite2 (fun hne => ?_) (fun _ => ?_)
        · have hpos : 0 < ns.length := by
            cases ns with
            | nil => simp at hne
            | cons a r => exact Nat.succ_pos _
          refine ⟨_, rfl, p, _, rfl, get_cells hp2, _, rfl, .inl ⟨_, rfl, _, rfl, p, _, rfl, get_cells hp2, _, _, rfl, .inl ⟨_, SqL.of hc2, rfl⟩, _, _, rfl, rfl, ?_, ?_⟩⟩
          · rw [lenns]; omega
          · obtain ⟨v, hv, hm⟩ := at_mod (xs := ns.map V.int) (i := t % ((ns.map V.int).length : Int)) (Int.emod_nonneg _ (by rw [lenns]; omega)) (Int.emod_lt_of_pos _ (by rw [lenns]; omega))
            obtain ⟨z, _, rfl⟩ := List.mem_map.mp hm
            refine .inl ⟨_, _, _, _, rfl, rfl, SqL.of hc2, hv, z, rfl, hp2, hc2, e1.set (e1.none_of ?_ hb)⟩
            exact (ne_of_none hp1 hb).symm
        · exact ⟨_, rfl, hp2, hc2, e1.set (e1.none_of (ne_of_none hp1 hb).symm hb)⟩
      · rintro σ2 H2 ⟨z, rfl, hp2, hc2, e2⟩
        refine ⟨fun σ' H3 => σ' = [some (.ref p), some (.int m), none, some (.int t), some (.int z), none, none, none] ∧ H3 = H2, ?_, ?_⟩
        · refine ⟨_, rfl, _, rfl, p, _, rfl, get_cells hp2, _, _, rfl, .inl ⟨_, SqL.of hc2, rfl⟩, _, _, rfl, rfl, _, rfl, ?_⟩
          refine ite2 (fun _ => ?_) (fun _ => ?_)
          · refine ⟨_, rfl, _, rfl, _, _, rfl, rfl, ⟨by decide, by decide, by decide⟩, _, _, rfl, rfl, _, rfl, ?_⟩
            refine ite2 (fun hbig => ?_) (fun _ => ?_)
            · have big := of_decide_eq_true hbig
              refine ⟨_, rfl, _, rfl, _, _, rfl, rfl, ⟨by decide, by decide, by decide⟩, _, _, rfl, rfl, _, rfl, _, _, rfl, rfl, ⟨by omega, by omega⟩, ?_⟩
              refine ⟨_, rfl, p, _, rfl, put_left hp2, ?_⟩
              refine ⟨_, rfl, _, rfl, _, _, rfl, rfl, ⟨by decide, by decide, by decide⟩, _, _, rfl, rfl, _, rfl, _, _, rfl, rfl, m0, ?_⟩
              refine k _ _ (Int.emod_nonneg _ (by omega)) (Int.emod_lt_of_pos _ m0) ⟨ns, t + 1, _, upd_same, (upd_ne ncp).trans hc2, hn, by omega, by omega, Int.ediv_nonneg (by omega) (by omega)⟩ (e2.trans Ext.at)
            · exact ⟨rfl, rfl⟩
          · exact ⟨rfl, rfl⟩
        · rintro σ3 H3 ⟨rfl, rfl⟩
          refine ⟨by decide, fun q hq => ?_⟩
          have hp3 := up_new (u := .lst (primes.map V.int)) hp2 hq
          have hc3 := up_new (u := .lst (primes.map V.int)) hc2 hq
          have e3 : Ext p H (upd H3 q (.lst (primes.map V.int))) := e2.set (e2.none_of (ne_of_none hp2 hq).symm hq)
          have hq3 : (upd H3 q (.lst (primes.map V.int))) q = some (.lst (primes.map V.int)) := upd_same
          have pick : ∀ i : Int, 0 ≤ i → i < 5 → ∃ z : Int, atI (primes.map V.int) i = some (.int z) ∧ 0 < z ∧ z < 2147483648 := fun i h0 h5 => by
            obtain ⟨v, hv, hm⟩ := at_mod (xs := primes.map V.int) h0 h5
            obtain ⟨z, rfl, hz⟩ := primes_in hm
            exact ⟨z, hv, hz⟩
          obtain ⟨a1, ha1, a1p, a1b⟩ := pick (t % 5) (Int.emod_nonneg _ (by decide)) (Int.emod_lt_of_pos _ (by decide))
          obtain ⟨a2, ha2, a2p, a2b⟩ := pick ((t + 2) % 5) (Int.emod_nonneg _ (by decide)) (Int.emod_lt_of_pos _ (by decide))
          refine ⟨_, rfl, _, rfl, .inl ⟨_, rfl, _, _, rfl, rfl, (by show (0 : Int) < 5; decide), .inl ⟨_, _, _, _, rfl, rfl, SqL.of hq3, ha1, ?_⟩⟩⟩
          have b1 := Int.emod_nonneg z (show a1 ≠ 0 by omega)
          have b2 := Int.emod_lt_of_pos z a1p
          refine ⟨_, rfl, .inl ⟨_, rfl, _, rfl, _, _, rfl, rfl, a1p, _, _, rfl, rfl, .inr ⟨by decide, by decide⟩, ?_⟩⟩
          refine ⟨_, rfl, _, rfl, _, _, rfl, rfl, .inl ⟨by decide, by decide⟩, _, _, rfl, rfl, _, _, rfl, rfl, .inl ⟨by omega, by omega⟩, _, _, rfl, rfl, _, _, rfl, rfl, .inl ⟨_, rfl, _, rfl, _, _, rfl, rfl, a1p, ?_⟩⟩
          have d1 := Int.emod_nonneg (z % a1 * 39373 + t * (30011 * t + 8117) + 23) (show a1 ≠ 0 by omega)
          have d2 := Int.emod_lt_of_pos (z % a1 * 39373 + t * (30011 * t + 8117) + 23) a1p
          refine ⟨_, rfl, _, rfl, _, _, rfl, rfl, _, _, rfl, rfl, .inl ⟨by omega, by omega⟩, .inl ⟨_, rfl, _, rfl, _, rfl, _, _, rfl, rfl, .inl ⟨_, rfl, _, _, rfl, rfl, (by show (0 : Int) < 5; decide), .inl ⟨_, _, _, _, rfl, rfl, SqL.of hq3, ha2, _, _, rfl, rfl, a2p, ?_⟩⟩⟩⟩
          have f1 := Int.emod_nonneg (((z % a1 * 39373 + t * (30011 * t + 8117) + 23) % a1) * (((z % a1 * 39373 + t * (30011 * t + 8117) + 23) % a1) + 69621)) (show a2 ≠ 0 by omega)
          have f2 := Int.emod_lt_of_pos (((z % a1 * 39373 + t * (30011 * t + 8117) + 23) % a1) * (((z % a1 * 39373 + t * (30011 * t + 8117) + 23) % a1) + 69621)) a2p
          refine ⟨_, rfl, _, rfl, _, _, rfl, rfl, .inl ⟨by omega, by omega⟩, _, rfl, _, _, rfl, rfl, .inl ⟨by decide, by decide⟩, _, _, rfl, rfl, _, rfl, _, _, rfl, rfl, .inl ⟨_, rfl, _, _, rfl, rfl, (by show (0 : Int) < 2147483549; decide), _, _, rfl, rfl, ⟨by decide, by decide⟩, .inl ⟨_, rfl, _, rfl, _, _, rfl, rfl, m0, ?_⟩⟩⟩
          exact k _ _ (Int.emod_nonneg _ (by omega)) (Int.emod_lt_of_pos _ m0) ⟨ns, t + 1, l, hp3, hc3, hn, by omega, by omega, l0⟩ e3

abbrev s_lpen : Stmt := top 49
theorem sc_lpen : FnScope ["_law_script"] ["_law_script"] (defScope s_lpen) := ⟨rfl, rfl, rfl, by decide +kernel, rfl, by decide +kernel, by decide +kernel⟩
theorem b_lpen {f : Addr} {fd : FuncData} (F : Fun K "_law_pen" "_law_pen" s_lpen f fd) (T : Txt mg) : FnG P w K mg base CX0 1 f fd ["_law_script"] (spPen K) := by
  refine okG0 F sc_lpen (fun vs H Q E h => ?_) (fun cdv A outer s H vs Q E hg hr h => ?_)
  · obtain ⟨a, ns, rfl, _⟩ := h
    rfl
  · have hu := hu_of hr
    have hu64 := hr.units
    obtain ⟨a, ns, rfl, hs, k⟩ := h
    refine ⟨_, (pss_one (ps_ret (pe_disp (pps_cons pe_str (pe_callTy call_list_of (by rfl) T.list (by decide +kernel) (pa_cons (pe_slice sl_list (pv 0) po_none (po_some pe_int)) pa_nil)) (pps_cons pe_str pe_int (pps_cons pe_str pe_int pps_nil))) (by rfl) (by rfl) (fun z => by cases z) (by decide)))), ?_⟩
    intro p hp
    obtain ⟨ms, hms, hml⟩ := cut63 ns
    refine ⟨_, rfl, 63, rfl, a, _, rfl, (same_new hp).seq hs, fun q hq => ?_⟩
    refine ⟨q, _, rfl, .inl (SqL.of upd_same), fun c hc => ?_⟩
    rw [hms] at hc ⊢
    have nqp : p ≠ q := fun e => by rw [← e, upd_same] at hq; cases hq
    have ncp : p ≠ c := fun e => by rw [← e, upd_ne nqp, upd_same] at hc; cases hc
    have hp2 : (upd (upd (upd H p (.dK [])) q (.lst (ms.map V.int))) c (.lst (ms.map V.int))) p = some (.dK []) := by rw [upd_ne ncp, upd_ne nqp, upd_same]
    refine ⟨hp2, penL c 0 0, rfl, (by show 3 ≤ 15; decide), ?_⟩
    rw [pen_made]
    refine k p c _ hp ⟨ms, 0, 0, upd_same, by rw [upd_ne ncp.symm, upd_same], hml, Int.le_refl _, Int.le_refl _, Int.le_refl _⟩ fun b o e => ?_
    rw [upd_ne (ne_of_none e hp), upd_ne ?_, upd_ne ?_, upd_ne (ne_of_none e hp)]
    · exact e
    · rintro rfl
      rw [upd_ne (ne_of_none e hp)] at hq
      rw [hq] at e
      cases e
    · rintro rfl
      by_cases ebq : b = q
      · subst ebq
        rw [upd_ne nqp.symm] at hq
        rw [hq] at e
        cases e
      · rw [upd_ne ebq, upd_ne (ne_of_none e hp)] at hc
        rw [hc] at e
        cases e

abbrev s_lpick : Stmt := top 51
theorem sc_lpick : FnScope ["_law_pen_here", "_law_options"] ["_law_pen_here", "_law_options"] (defScope s_lpick) := ⟨rfl, rfl, rfl, by decide +kernel, rfl, by decide +kernel, by decide +kernel⟩
theorem b_lpick {f : Addr} {fd : FuncData} (F : Fun K "_law_pick" "_law_pick" s_lpick f fd) (T : Txt mg) (c_ldraw : CalG P w K mg base CX0 1 "_law_draw" spDraw) : FnG P w K mg base CX0 2 f fd ["_law_pen_here", "_law_options"] (spPick K) := by
  refine okG0 F sc_lpick (fun vs H Q E h => ?_) (fun cdv A outer s H vs Q E hg hr h => ?_)
  · obtain ⟨p, c, o, xs, T0, rfl, _⟩ := h
    rfl
  · have hu := hu_of hr
    have hu64 := hr.units
    obtain ⟨p, c, o, xs, T0, rfl, ho, hne, hlen, hpen, hT, k⟩ := h
    have hpos : 0 < xs.length := List.length_pos_iff.mpr hne
    have hr1 : Room 1 _ := hr
    refine ⟨_, (pss_one (ps_ret (pe_ix ix_seq (pv 1) (pe_cG c_ldraw hg hr (by decide) pass0 (pa_cons (pv 0) (pa_cons (pe_callB call_len (by rfl) T.len (by decide +kernel) (pa_cons (pv 1) pa_nil)) pa_nil))) (fun _ _ => rfl)))), ?_⟩

    cases ho with
    | str z hz =>
      have e := one_len z
      have hz24 : z.length ≤ sizeLine := Nat.le_trans hz (by decide)
      refine ⟨_, rfl, _, rfl, _, rfl, _, _, rfl, ⟨hz24, rfl⟩, p, c, _, T0, rfl, by omega, by omega, hpen, hT, fun d H' d0 d1 hpen' x => ?_⟩
      obtain ⟨e1, hc, hm⟩ := at_mod (xs := z.cps.toList) d0 (by rw [show (z.cps.toList.length : Int) = (z.length : Int) from congrArg Nat.cast Array.length_toList]; exact d1)
      exact .inr (.inr ⟨z, d, e1, rfl, rfl, hz24, hc, k _ _ (List.mem_map_of_mem (f := OneS) hm) hpen' x⟩)
    | lst hs =>
      refine ⟨_, rfl, _, rfl, _, rfl, _, _, rfl, .inl ⟨_, hs, rfl⟩, p, c, _, T0, rfl, by omega, by omega, hpen, hT, fun d H' d0 d1 hpen' x => ?_⟩
      obtain ⟨v, hv, hm⟩ := at_mod d0 d1
      exact .inl ⟨_, xs, d, v, rfl, rfl, hpen.keepL x hs, hv, k _ _ hm hpen' x⟩
    | tup hs =>
      refine ⟨_, rfl, _, rfl, _, rfl, _, _, rfl, .inr ⟨_, hs, rfl⟩, p, c, _, T0, rfl, by omega, by omega, hpen, hT, fun d H' d0 d1 hpen' x => ?_⟩
      obtain ⟨v, hv, hm⟩ := at_mod d0 d1
      exact .inr (.inl ⟨_, xs, d, v, rfl, rfl, hpen.keepT x hs, hv, k _ _ hm hpen' x⟩)

abbrev s_lfew : Stmt := top 54
theorem sc_lfew : FnScope ["_law_pen_here", "_law_some", "_law_rare", "_law_k"] ["_law_pen_here"] (defScope s_lfew) := ⟨rfl, rfl, rfl, by decide +kernel, rfl, by decide +kernel, by decide +kernel⟩
theorem b_lfew {f : Addr} {fd : FuncData} (F : Fun K "_law_few" "_law_few" s_lfew f fd) (T : Txt mg) (c_lpick : CalG P w K mg base CX0 2 "_law_pick" (spPick K)) (t_signs : FnT P w K mg base 1 "_law_signs" letS) : FnG P w K mg base CX0 3 f fd ["_law_pen_here"] spFew := by
  refine okG0 F sc_lfew (fun vs H Q E h => ?_) (fun cdv A outer s H vs Q E hg hr h => ?_)
  · obtain ⟨p, pc, T0, rfl, _⟩ := h
    rfl
  · have hu := hu_of hr
    have hu64 := hr.units
    obtain ⟨p, pc, T0, rfl, hpen, hT, k⟩ := h
    have hr2 : Room 2 _ := hr
    refine ⟨_, (pss_cons (ps_set (i := 1) sc_lfew.nd rfl (Or.inr rfl) (pe_lst (pa_cons (pe_cG c_lpick hg hr (by decide) pass0 (pa_cons (pv 0) (pa_cons (pe_replT t_signs hr (by decide) (by decide +kernel) (by decide +kernel)) pa_nil))) (pa_cons (pe_cG c_lpick hg hr (by decide) pass0 (pa_cons (pv 0) (pa_cons pe_str pa_nil))) (pa_cons (pe_cG c_lpick hg hr (by decide) pass0 (pa_cons (pv 0) (pa_cons pe_str pa_nil))) pa_nil)))))
      (pss_cons (ps_set (i := 2) sc_lfew.nd rfl (Or.inl rfl) (pe_join pe_str (pe_lc (own := [("_law_k", 3)]) (g := gName 3) rfl sc_lfew.nd (pi_range1 rfl T.range (pa_cons pe_int pa_nil)) (blkOk_by (own := [("_law_k", 3)]) (N := ["_law_pen_here", "_law_some", "_law_rare", "_law_k"]) (sc := defScope s_lfew) (by decide +kernel)) (fun _ _ _ _ _ => (pg_name (i := 3) sc_lfew.nd rfl (Or.inl rfl))) (fun _ _ _ _ _ => (pts_one (pt_cmpR (op_notIn_seqK (K := K) rfl) (pe_ix (ix_seqK (K := K) rfl) (pv 1) (pv 3) (fun _ _ => rfl)) (pe_slice (sl_listK (K := K) rfl) (pv 1) po_none (po_some (pv 3))) (by rfl)))) (fun _ _ _ _ _ => (pe_ix (ix_seqK (K := K) rfl) (pv 1) (pv 3) (fun _ _ => rfl))))))
      (pss_one (ps_ret (pe_cG c_lpick hg hr (by decide) pass0 (pa_cons (pv 0) (pa_cons (pe_lst (pa_cons pe_str (pa_cons pe_str (pa_cons pe_str (pa_cons pe_str (pa_cons pe_str (pa_cons pe_str (pa_cons pe_str (pa_cons pe_str (pa_cons pe_str (pa_cons (pv 2) pa_nil))))))))))) pa_nil))))))), ?_⟩
    refine ⟨_, rfl, p, pc, _, _, T0, rfl, .str _ (by rw [noq_len]; decide), opts_ne (by rw [noq_len]; decide), opts_le (by rw [noq_len]; decide), hpen, by omega, fun v1 H1 m1 P1 x1 => ?_⟩
    obtain ⟨c1, rfl, k1⟩ := ones_of m1
    refine ⟨_, rfl, p, pc, _, _, T0 + 1, rfl, .str _ (by decide), opts_ne (by decide), opts_le (by decide), P1, by omega, fun v2 H2 m2 P2 x2 => ?_⟩
    obtain ⟨c2, rfl, k2⟩ := ones_of m2
    refine ⟨_, rfl, p, pc, _, _, T0 + 2, rfl, .str _ (by decide), opts_ne (by decide), opts_le (by decide), P2, by omega, fun v3 H3 m3 P3 x3 => ?_⟩
    obtain ⟨c3, rfl, k3⟩ := ones_of m3
    refine ⟨by show 3 ≤ sizeLine; decide, fun a ha => ?_⟩
    have hin : ∀ c ∈ [c1, c2, c3], c ∈ letS.cps.toList := by
      intro c hc
      simp only [List.mem_cons, List.not_mem_nil, or_false] at hc
      rcases hc with rfl | rfl | rfl
      · exact noq_in k1
      · exact (by decide +kernel : ∀ c ∈ (Str.ofString "yz").cps.toList, c ∈ letS.cps.toList) _ k2
      · exact (by decide +kernel : ∀ c ∈ (Str.ofString "(\n").cps.toList, c ∈ letS.cps.toList) _ k3
    have P4 := P3.new (o := .lst ([c1, c2, c3].map OneS)) ha
    have x4 : Ext p H (upd H3 a (.lst ([c1, c2, c3].map OneS))) := (x1.trans (x2.trans x3)).trans (Ext.new ha)
    have ha4 : (upd H3 a (.lst ([c1, c2, c3].map OneS))) a = some (.lst ([c1, c2, c3].map OneS)) := upd_same
    generalize hxs : ([c1, c2, c3].map OneS : List V) = xs at ha4 P4 x4
    have hxl : xs.length = 3 := by rw [← hxs]; rfl
    have hxf : xs.all flatV = true := by rw [← hxs]; exact ones_flat _
    have hxm : ∀ v ∈ xs, ∃ c, v = OneS c ∧ c ∈ [c1, c2, c3] := by rw [← hxs]; exact fun v hv => one_mem hv
    have ha5 : (upd H3 a (.lst ([c1, c2, c3].map OneS))) = upd H3 a (.lst xs) := by rw [hxs]
    generalize hH4 : upd H3 a (.lst xs) = H4 at ha4 P4 x4 ha5
    refine ⟨⟨_, rfl⟩, ?_⟩
    show (iRng1 (tCons (tC (V.int 3)) tNil)) _ (upd H3 a (.lst ([c1, c2, c3].map OneS))) _
    rw [ha5]
    refine ⟨3, rfl, by decide, by decide, fun D hD => lc_range (lo := 0) (n := 3) (fun i H' => ∃ cs : List Nat, H' D = some (.lst (cs.map OneS)) ∧ cs.length ≤ i ∧ (1 ≤ i → 1 ≤ cs.length) ∧ (∀ c ∈ cs, c ∈ letS.cps.toList) ∧ Same H4 H') ?_ ?_ ?_⟩
    · exact ⟨[], upd_same, Nat.le_refl _, fun h => by omega, fun c hc => absurd hc List.not_mem_nil, same_new hD⟩
    · rintro i H5 hi ⟨cs, hDc, hcl, hc1, hcm, sm⟩
      obtain ⟨v, hv, hvm⟩ := at_mod (xs := xs) (i := 0 + (i : Int)) (by omega) (by rw [hxl]; omega)
      obtain ⟨c, rfl, hcc⟩ := hxm v hvm
      have sa : SqL K H5 a xs := sm.seq (SqL.of ha4)
      refine ⟨rfl, _, rfl, _, rfl, .inl ⟨a, xs, _, _, rfl, rfl, sa, hv, _, rfl, _, rfl, _, rfl, a, xs, rfl, sa, fun q hq => ⟨q, _, rfl, .inl (SqL.of upd_same), rfl, cutV_all hxf, _, rfl, ?_⟩⟩⟩
      have sq : Same H4 (upd H5 q (.lst (cutV xs none (some (0 + (i : Int)))))) := sm.trans (same_new hq)
      have dq := up_new (u := .lst (cutV xs none (some (0 + (i : Int))))) hDc hq
      refine ite2 (fun hb => ?_) (fun hb => ?_)
      · refine ⟨_, rfl, _, rfl, .inl ⟨a, xs, _, _, rfl, rfl, sq.seq (SqL.of ha4), hv, _, dq, by rw [List.length_map]; exact Nat.lt_of_le_of_lt hcl (Nat.lt_trans hi (by decide)), cs ++ [c], ?_, ?_, fun _ => ?_, ?_, ?_⟩⟩
        · rw [upd_same, List.map_append]
          rfl
        · rw [List.length_append]; exact Nat.add_le_add_right hcl 1
        · rw [List.length_append]; exact Nat.le_add_left _ _
        · intro d hd
          rcases List.mem_append.mp hd with hd | hd
          · exact hcm d hd
          · rw [List.mem_singleton.mp hd]
            exact hin c hcc
        · intro b o e
          by_cases hbD : b = D
          · rw [hbD, hD] at e
            cases e
          · exact (upd_ne hbD).trans (sq b o e)
      · refine ⟨cs, dq, Nat.le_succ_of_le hcl, fun _ => ?_, hcm, sq⟩
        by_cases h0 : i = 0
        · subst h0
          refine absurd ?_ hb
          show (if true = true then !inV (OneS c) (cutV xs none (some (0 + ((0 : Nat) : Int)))) else inV (OneS c) (cutV xs none (some (0 + ((0 : Nat) : Int))))) = true
          rw [show (0 : Int) + ((0 : Nat) : Int) = 0 from rfl, cutV_zero]
          rfl
        · exact hc1 (by omega)
    · rintro H5 ⟨cs, hDc, hcl, hc1, hcm, sm⟩
      refine ⟨_, D, cs.map fun c => ⟨#[c]⟩, rfl, rfl, .inl (SqL.of (by rw [ones_map]; exact hDc)), ?_, ?_⟩
      · rw [ones_len]
        show cs.length + _ * 0 ≤ _
        omega
      · rw [join_ones]
        have fz : Few ⟨cs.toArray⟩ := few_ones (hc1 (by decide)) hcl hcm
        have x5 : Ext p H H5 := x4.trans (Ext.same sm)
        have P5 := P4.stay sm
        refine ⟨_, rfl, _, rfl, by show 10 ≤ sizeLine; decide, fun q hq => ?_⟩
        refine ⟨p, pc, _, _, T0 + 3, rfl, .lst (SqL.of upd_same), by simp, by show 10 ≤ 1000; decide, P5.new hq, by omega, fun v H6 hm P6 x6 => ?_⟩
        have fin : ∃ z, v = .str z ∧ Few z := by
          simp only [List.mem_cons, List.not_mem_nil, or_false] at hm
          rcases hm with rfl | rfl | rfl | rfl | rfl | rfl | rfl | rfl | rfl | rfl
          all_goals first
            | exact ⟨_, rfl, fz⟩
            | exact ⟨_, rfl, few_of (by decide +kernel)⟩
        obtain ⟨z, rfl, hz⟩ := fin
        exact k z H6 hz P6 (x5.trans ((Ext.new hq).trans x6))

abbrev s_lword : Stmt := top 55
theorem sc_lword : FnScope ["_law_pen_here", "_law_signs_here", "_law_least", "_law_most_letters", "_law_many", "_law_k"] ["_law_pen_here", "_law_signs_here", "_law_least", "_law_most_letters"] (defScope s_lword) := ⟨rfl, rfl, rfl, by decide +kernel, rfl, by decide +kernel, by decide +kernel⟩
theorem b_lword {f : Addr} {fd : FuncData} (F : Fun K "_law_word" "_law_word" s_lword f fd) (T : Txt mg) (c_ldraw : CalG P w K mg base CX0 1 "_law_draw" spDraw) (c_lpick : CalG P w K mg base CX0 2 "_law_pick" (spPick K)) : FnG P w K mg base CX0 3 f fd ["_law_pen_here", "_law_signs_here", "_law_least", "_law_most_letters"] spWord := by
  refine okG0 F sc_lword (fun vs H Q E h => ?_) (fun cdv A outer s H vs Q E hg hr h => ?_)
  · obtain ⟨p, pc, z, a, b, T0, rfl, _⟩ := h
    rfl
  · have hu := hu_of hr
    have hu64 := hr.units
    obtain ⟨p, pc, z, a, b, T0, rfl, hab, hb, hz1, hz, hpen, hT, k⟩ := h
    have hr2 : Room 2 _ := hr
    refine ⟨_, (pss_cons (ps_set (i := 4) sc_lword.nd rfl (Or.inl rfl) (pe_op op_add (pv 2) (pe_cG c_ldraw hg hr (by decide) pass0 (pa_cons (pv 0) (pa_cons (pe_op op_add (pe_op op_sub (pv 3) (pv 2)) pe_int) pa_nil)))))
      (pss_one (ps_ret (pe_join pe_str (pe_lc (own := [("_law_k", 5)]) (g := gName 5) (tt := tYes) rfl sc_lword.nd (pi_range1 rfl T.range (pa_cons (pv 4) pa_nil)) (blkOk_by (own := [("_law_k", 5)]) (N := ["_law_pen_here", "_law_signs_here", "_law_least", "_law_most_letters", "_law_many", "_law_k"]) (sc := defScope s_lword) (by decide +kernel)) (fun _ _ _ _ _ => (pg_name (i := 5) sc_lword.nd rfl (Or.inl rfl))) (fun _ _ _ _ _ => pts_nil) (fun _ _ _ _ _ => (pe_cG c_lpick hg hr (by decide) pass0 (pa_cons (pv 0) (pa_cons (pv 1) pa_nil))))))))), ?_⟩
    refine ⟨_, rfl, _, rfl, _, rfl, _, rfl, _, _, rfl, rfl, _, _, rfl, rfl, p, pc, _, T0, rfl, by omega, by omega, hpen, by omega, fun d H1 d0 d1 P1 x1 => ?_⟩
    refine ⟨_, _, rfl, rfl, ⟨_, rfl⟩, ?_⟩
    obtain ⟨n, rfl⟩ : ∃ n : Nat, d = (n : Int) := ⟨d.toNat, by omega⟩
    refine ⟨_, rfl, _, rfl, by omega, by omega, fun D hD => ?_⟩
    have en : ((a : Int) + (n : Int)).toNat = a + n := by omega
    have hn : a + n ≤ b := by omega
    obtain ⟨nDp, nDc⟩ := P1.apart hD
    refine lc_range (lo := 0) (n := ((a : Int) + (n : Int)).toNat) (fun i H' => ∃ cs : List Nat, H' D = some (.lst (cs.map OneS)) ∧ cs.length = i ∧ (∀ c ∈ cs, c ∈ z.cps.toList) ∧ Pen H' p pc (T0 + 1 + i) ∧ Ext p H H') ?_ ?_ ?_
    · refine ⟨[], upd_same, rfl, fun c hc => absurd hc List.not_mem_nil, P1.new hD, x1.trans (Ext.new hD)⟩
    · rintro i H2 hi ⟨cs, hDc, hcl, hcm, P2, x2⟩
      rw [en] at hi
      refine ⟨rfl, _, rfl, _, rfl, p, pc, _, _, T0 + 1 + i, rfl, .str z hz, opts_ne hz1, opts_le hz, P2, by omega, fun v H3 hm P3 x3 => ?_⟩
      obtain ⟨c, rfl, hc⟩ := ones_of hm
      have d3 := P2.keepI x3 hDc
      refine ⟨_, d3, by rw [List.length_map, hcl]; exact Nat.lt_of_lt_of_le hi (Nat.le_trans hn (Nat.le_trans hb (by decide))), cs ++ [c], ?_, by rw [List.length_append, hcl]; rfl, ?_, ?_, ?_⟩
      · rw [upd_same, List.map_append]
        rfl
      · intro e he
        rcases List.mem_append.mp he with he | he
        · exact hcm e he
        · rw [List.mem_singleton.mp he]
          exact hc
      · exact P3.set nDp nDc
      · exact fun b o e hb => by
          rw [upd_ne (fun q => by rw [q, x1.none_of nDp hD] at e; cases e)]
          exact x3 b o (x2 b o e hb) hb
    · rintro H2 ⟨cs, hDc, hcl, hcm, P2, x2⟩
      refine ⟨_, D, cs.map fun c => ⟨#[c]⟩, rfl, rfl, .inl (SqL.of (by rw [ones_map]; exact hDc)), ?_, ?_⟩
      · rw [ones_len]
        show cs.length + _ * 0 ≤ _
        omega
      · rw [join_ones]
        rw [en] at hcl P2
        exact k _ H2 ⟨by show a ≤ cs.toArray.size; rw [List.size_toArray]; omega, by show cs.toArray.size ≤ b; rw [List.size_toArray]; omega, by simpa using hcm⟩ (P2.mono (by omega)) x2

theorem cut_upto (x : Str) (M : Nat) : (cutS x none (some (M : Int))).length ≤ M := by
  unfold cutS
  show (List.toArray _).size ≤ M
  rw [List.size_toArray, HT.sIx_nat, HT.sIx_none]
  refine Nat.le_trans (List.length_take_le _ _) ?_
  have := Nat.min_le_left M x.length
  omega
def spNtext : Sp := fun vs H Q _ => ∃ p c z M T, vs = [.ref p, .str z, .int (M : Nat)] ∧ Few z ∧ M ≤ 100 ∧ Pen H p c T ∧ T + 1000 < 1000000000 ∧ ∀ (x : Str) (H' : Hp), x.length ≤ M → Ltr x → Pen H' p c (T + 100) → Ext p H H' → Q (.str x) H'
abbrev s_lntext : Stmt := top 56
theorem sc_lntext : FnScope ["_law_pen_here", "_law_signs_here", "_law_most_letters", "_law_some", "_law_found", "_law_k"] ["_law_pen_here", "_law_signs_here", "_law_most_letters"] (defScope s_lntext) := ⟨rfl, rfl, rfl, by decide +kernel, rfl, by decide +kernel, by decide +kernel⟩
theorem b_lntext {f : Addr} {fd : FuncData} (F : Fun K "_law_ntext" "_law_ntext" s_lntext f fd) (T : Txt mg) (c_ldraw : CalG P w K mg base CX0 1 "_law_draw" spDraw) (c_lpick : CalG P w K mg base CX0 2 "_law_pick" (spPick K)) (c_lword : CalG P w K mg base CX0 3 "_law_word" spWord) : FnG P w K mg base CX0 4 f fd ["_law_pen_here", "_law_signs_here", "_law_most_letters"] spNtext := by
  refine okG0 F sc_lntext (fun vs H Q E h => ?_) (fun cdv A outer s H vs Q E hg hr h => ?_)
  · obtain ⟨p, pc, z, M, T0, rfl, _⟩ := h
    rfl
  · have hu := hu_of hr
    have hu64 := hr.units
    obtain ⟨p, pc, z, M, T0, rfl, fz, hM, hpen, hT, k⟩ := h
    have hr3 : Room 3 _ := hr
    have z100 : z.length ≤ 1000 := Nat.le_trans fz.2.1 (by decide)
    refine ⟨_, (pss_cons (ps_par (i := 3) (j := 4) (by rfl) sc_lntext.nd rfl rfl (by decide) rfl rfl (pa_cons (pe_lst (pa_cons (pe_cG c_lword hg hr (by decide) pass0 (pa_cons (pv 0) (pa_cons (pv 1) (pa_cons pe_int (pa_cons pe_int pa_nil))))) (pa_cons (pe_cG c_lword hg hr (by decide) pass0 (pa_cons (pv 0) (pa_cons (pv 1) (pa_cons pe_int (pa_cons pe_int pa_nil))))) pa_nil))) (pa_cons pe_str pa_nil)) (by rfl))
      (pss_cons (ps_for PassesOwn.never rfl (pi_range1 rfl T.range (pa_cons (pe_cG c_ldraw hg hr (by decide) pass0 (pa_cons (pv 0) (pa_cons pe_int pa_nil))) pa_nil)) (pg_name (i := 5) sc_lntext.nd rfl (Or.inl rfl)) (pss_one (ps_set (i := 4) sc_lntext.nd rfl (Or.inl rfl) (pe_op op_add_str (pv 4) (pe_cG c_lpick hg hr (by decide) pass0 (pa_cons (pv 0) (pa_cons (pe_op op_cat (pv 3) (pe_lst (pa_cons (pe_cG c_lpick hg hr (by decide) pass0 (pa_cons (pv 0) (pa_cons (pv 1) pa_nil))) pa_nil))) pa_nil)))))))
      (pss_one (ps_ret (pe_slice sl_str (pv 4) po_none (po_some (pv 2))))))), ?_⟩
    refine ⟨_, rfl, _, rfl, p, pc, z, 1, 4, T0, rfl, by decide, by decide, fz.1, z100, hpen, by omega, fun w1 H1 g1 P1 x1 => ?_⟩
    refine ⟨_, rfl, _, rfl, p, pc, z, 1, 3, _, rfl, by decide, by decide, fz.1, z100, P1, by omega, fun w2 H2 g2 P2 x2 => ?_⟩
    refine ⟨by show 2 ≤ sizeLine; decide, fun b hb => ?_⟩
    have sb := same_new (o := .lst [.str w1, .str w2]) hb
    have P3 := P2.stay sb
    have x3 : Ext p H _ := (x1.trans x2).trans (Ext.same sb)
    refine ⟨_, _, rfl, _, rfl, p, pc, 9, _, rfl, by decide, by decide, P3, by omega, fun n H4 n0 n1 P4 x4 => ?_⟩
    have hb4 := P3.keepI x4 upd_same
    refine ⟨_, rfl, by omega, by omega, ?_⟩
    refine for_range (lo := 0) (n := n.toNat) (fun i σ H' => ∃ (o5 : Option V) (f : Str), σ = [some (.ref p), some (.str z), some (.int (M : Nat)), some (.ref b), some (.str f), o5] ∧ (f.length ≤ 100 * i ∧ Ltr f) ∧ Pen H' p pc (T0 + 20 + 2 * i) ∧ Ext p H H' ∧ H' b = some (.lst [.str w1, .str w2])) ?_ ?_ ?_
    · exact ⟨_, "", rfl, ⟨by show 0 ≤ _; omega, lt_none⟩, P4.mono (by omega), x3.trans x4, hb4⟩
    · rintro i σ H5 hi ⟨o5, f, rfl, hf, P5, x5, hb5⟩
      have hf1 := hf.1
      refine ⟨_, rfl, _, rfl, _, rfl, _, rfl, _, rfl, p, pc, _, _, _, rfl, .str z z100, opts_ne fz.1, opts_le z100, P5, by omega, fun v H6 hv P6 x6 => ?_⟩
      obtain ⟨cv, rfl, hcv⟩ := ones_of hv
      have hb6 := P5.keepI x6 hb5
      refine ⟨by show 1 ≤ sizeLine; decide, fun q hq => ?_⟩
      have sq := same_new (o := .lst [OneS cv]) hq
      refine ⟨b, q, _, _, rfl, rfl, sq _ _ hb6, upd_same, by show 3 ≤ sizeLine; decide, fun q2 hq2 => ?_⟩
      have sq2 := same_new (o := .lst [.str w1, .str w2, OneS cv]) hq2
      have P7 := (P6.stay sq).stay sq2
      refine ⟨p, pc, _, _, _, rfl, .lst (SqL.of upd_same), (fun z => by cases z), by show 3 ≤ 1000; decide, P7, by omega, fun v H8 hv2 P8 x8 => ?_⟩
      have hb8 := P7.keepI x8 (sq2 _ _ (sq _ _ hb6))
      have ev : ∃ y : Str, v = .str y ∧ y.length ≤ 100 ∧ Ltr y := by
        simp only [List.mem_append, List.mem_cons, List.not_mem_nil, or_false] at hv2
        rcases hv2 with (rfl | rfl) | rfl
        · exact ⟨w1, rfl, Nat.le_trans g1.2.1 (by decide), lt_word fz g1⟩
        · exact ⟨w2, rfl, Nat.le_trans g2.2.1 (by decide), lt_word fz g2⟩
        · exact ⟨_, rfl, by show 1 ≤ 100; decide, lt_one fz hcv⟩
      obtain ⟨y, rfl, hy, oy⟩ := ev
      refine ⟨_, _, rfl, rfl, Nat.le_of_lt (fewL (by omega)), _, f ++ y, rfl, ⟨?_, lt_more hf.2 oy⟩, P8.mono (by omega), (x5.trans x6).trans (((Ext.same sq).trans (Ext.same sq2)).trans x8), hb8⟩
      rw [strLen_append]
      omega
    · rintro σ H5 ⟨o5, f, rfl, hf, P5, x5, hb5⟩
      have hf1 := hf.1
      refine ⟨_, rfl, _, rfl, _, rfl, f, rfl, Nat.le_of_lt (fewL (by have : n.toNat ≤ 9 := by omega
                                                                     omega)), k _ _ (cut_upto f M) (cutS_lt hf.2 _ _) (P5.mono (by omega)) x5⟩

end
end Vk
set_option Elab.async false
set_option maxRecDepth 100000
set_option linter.all false
namespace Vk
open PySem PySem.Spec PyProof.Rows L2
section
variable {P : Program} {w : World} {K : PySem.W.Frag} {mg : Str → Option Value} {base : Heap}
end
end Vk
set_option Elab.async false
set_option maxRecDepth 100000
set_option linter.all false
set_option maxHeartbeats 4000000
namespace Vk
open PySem PySem.Spec PyProof.Rows L2
section
variable {P : Program} {w : World} {K : PySem.W.Frag} {mg : Str → Option Value} {base : Heap}
def aroundW (n b k : Nat) : List (Nat × Nat) := (List.range k).flatMap fun i => (List.range' (max b (i + 1)) (n + 1 - max b (i + 1))).map fun e => (i, e)
theorem aroundW_succ {n b k : Nat} : aroundW n b (k + 1) = aroundW n b k ++ (List.range' (max b (k + 1)) (n + 1 - max b (k + 1))).map fun e => (k, e) := by
  unfold aroundW
  rw [List.range_succ, List.flatMap_append]
  simp
theorem aroundW_mem {n b k : Nat} {p : Nat × Nat} (h : p ∈ aroundW n b k) : p.1 < p.2 ∧ p.2 ≤ n ∧ p.1 < k := by
  unfold aroundW at h
  rw [List.mem_flatMap] at h
  obtain ⟨i, hi, h⟩ := h
  obtain ⟨e, he, rfl⟩ := List.mem_map.mp h
  have := List.mem_range'_1.mp he
  exact ⟨by show i < e; omega, by show e ≤ n; omega, List.mem_range.mp hi⟩
def innerB (s o : Nat × Nat) : Bool := decide (o ≠ s) && (decide (s.1 ≤ o.1) && decide (o.2 ≤ s.2))
def leastW (ws : List (Nat × Nat)) : List (Nat × Nat) := ws.filter fun s => (ws.filter (innerB s)).isEmpty
end
end Vk
set_option Elab.async false
set_option maxRecDepth 100000
set_option linter.all false
set_option maxHeartbeats 4000000
namespace Vk
open PySem PySem.Spec PyProof.Rows L2
section
variable {P : Program} {w : World} {K : PySem.W.Frag} {mg : Str → Option Value} {base : Heap}
def winW (x : Str) (a b : Nat) : List (Nat × Nat) := leastW ((aroundW x.length b (a + 1)).filter fun p => !twB x p.1 p.2)
def spSpot : Sp := fun vs H Q _ => ∃ (p c : Addr) (x : Str) (T : Nat), vs = [.ref p, .str x] ∧ x.length ≤ 100 ∧ Pen H p c T ∧ T + 1000 < 1000000000 ∧
  ∀ (t : Addr) (a b : Int) (H' : Hp), H' t = some (.tup [.int a, .int b]) → 0 ≤ a → a ≤ b → b ≤ x.length → Pen H' p c (T + 10) → Ext p H H' → Q (.ref t) H'
abbrev s_lnspot : Stmt := top 57
theorem sc_lnspot : FnScope ["_law_pen_here", "_law_text_here", "_law_size", "_law_a"] ["_law_pen_here", "_law_text_here"] (defScope s_lnspot) := ⟨rfl, rfl, rfl, by decide +kernel, rfl, by decide +kernel, by decide +kernel⟩
theorem b_lnspot {f : Addr} {fd : FuncData} (F : Fun K "_law_nspot" "_law_nspot" s_lnspot f fd) (T : Txt mg) (c_ldraw : CalG P w K mg base CX0 1 "_law_draw" spDraw) (c_lpick : CalG P w K mg base CX0 2 "_law_pick" (spPick K)) : FnG P w K mg base CX0 3 f fd ["_law_pen_here", "_law_text_here"] spSpot := by
  refine okG0 F sc_lnspot (fun vs H Q E h => ?_) (fun cdv A outer s H vs Q E hg hr h => ?_)
  · obtain ⟨p, pc, x, T0, rfl, _⟩ := h
    rfl
  · have hu := hu_of hr
    have hu64 := hr.units
    obtain ⟨p, pc, x, T0, rfl, hx, hpen, hT, k⟩ := h
    have hr2 : Room 2 _ := hr
    have xl : x.length ≤ sizeLine := Nat.le_of_lt (fewL (by omega))
    refine ⟨_, (pss_cons (ps_set (i := 2) sc_lnspot.nd rfl (Or.inl rfl) (pe_callB call_len (by rfl) T.len (by decide +kernel) (pa_cons (pv 1) pa_nil)))
      (pss_cons (ps_set (i := 3) sc_lnspot.nd rfl (Or.inl rfl) (pe_cG c_lpick hg hr (by decide) pass0 (pa_cons (pv 0) (pa_cons (pe_lst (pa_cons pe_int (pa_cons (pv 2) (pa_cons (pe_cG c_ldraw hg hr (by decide) pass0 (pa_cons (pv 0) (pa_cons (pe_op op_add (pv 2) pe_int) pa_nil))) (pa_cons (pe_cG c_ldraw hg hr (by decide) pass0 (pa_cons (pv 0) (pa_cons (pe_op op_add (pv 2) pe_int) pa_nil))) pa_nil))))) pa_nil))))
      (pss_one (ps_ret (pe_tup (pa_cons (pv 3) (pa_cons (pe_cG c_lpick hg hr (by decide) pass0 (pa_cons (pv 0) (pa_cons (pe_lst (pa_cons (pv 3) (pa_cons (pv 2) (pa_cons (pe_op op_add (pv 3) (pe_cG c_ldraw hg hr (by decide) pass0 (pa_cons (pv 0) (pa_cons (pe_op op_add (pe_op op_sub (pv 2) (pv 3)) pe_int) pa_nil)))) (pa_cons (pe_callB (call_min2 rfl) (by rfl) T.min (by decide +kernel) (pa_cons (pv 2) (pa_cons (pe_op op_add (pv 3) pe_int) pa_nil))) pa_nil))))) pa_nil))) pa_nil))))))), ?_⟩
    refine ⟨_, rfl, _, _, rfl, ⟨xl, rfl⟩, ?_⟩
    refine ⟨_, rfl, _, rfl, _, rfl, _, rfl, _, _, rfl, rfl, p, pc, _, _, rfl, by omega, by omega, hpen, by omega, fun d1 H1 a1 b1 P1 x1 => ?_⟩
    refine ⟨_, rfl, _, rfl, _, _, rfl, rfl, p, pc, _, _, rfl, by omega, by omega, P1, by omega, fun d2 H2 a2 b2 P2 x2 => ?_⟩
    refine ⟨by show 4 ≤ sizeLine; decide, fun b hb => ?_⟩
    have sb := same_new (o := .lst [.int 0, .int (x.length : Nat), .int d1, .int d2]) hb
    have P3 := P2.stay sb
    refine ⟨p, pc, _, _, _, rfl, .lst (SqL.of upd_same), (fun z => by cases z), by show 4 ≤ 1000; decide, P3, by omega, fun v H4 hv P4 x4 => ?_⟩
    have ev : ∃ a : Int, v = .int a ∧ 0 ≤ a ∧ a ≤ x.length := by
      simp only [List.mem_cons, List.not_mem_nil, or_false] at hv
      rcases hv with rfl | rfl | rfl | rfl
      · exact ⟨_, rfl, by omega, by omega⟩
      · exact ⟨_, rfl, by omega, by omega⟩
      · exact ⟨_, rfl, by omega, by omega⟩
      · exact ⟨_, rfl, by omega, by omega⟩
    obtain ⟨a, rfl, ha0, ha1⟩ := ev
    refine ⟨_, rfl, _, rfl, _, rfl, _, rfl, _, rfl, _, rfl, _, rfl, _, rfl, _, _, rfl, rfl, _, _, rfl, rfl, p, pc, _, _, rfl, by omega, by omega, P4, by omega, fun d3 H5 a3 b3 P5 x5 => ?_⟩
    refine ⟨_, _, rfl, rfl, _, rfl, _, rfl, _, _, rfl, rfl, _, _, rfl, ?_⟩
    have mi : a ≤ (if a + 1 < (x.length : Int) then a + 1 else (x.length : Int)) ∧ (if a + 1 < (x.length : Int) then a + 1 else (x.length : Int)) ≤ x.length := by split <;> omega
    generalize (if a + 1 < (x.length : Int) then a + 1 else (x.length : Int)) = mi0 at mi
    refine ⟨by show 4 ≤ sizeLine; decide, fun b2 hb2 => ?_⟩
    have sb2 := same_new (o := .lst [.int a, .int (x.length : Nat), .int (a + d3), .int mi0]) hb2
    have P6 := P5.stay sb2
    refine ⟨p, pc, _, _, _, rfl, .lst (SqL.of upd_same), (fun z => by cases z), by show 4 ≤ 1000; decide, P6, by omega, fun v H7 hv P7 x7 => ?_⟩
    have ev : ∃ c : Int, v = .int c ∧ a ≤ c ∧ c ≤ x.length := by
      simp only [List.mem_cons, List.not_mem_nil, or_false] at hv
      rcases hv with rfl | rfl | rfl | rfl
      · exact ⟨_, rfl, by omega, by omega⟩
      · exact ⟨_, rfl, by omega, by omega⟩
      · exact ⟨_, rfl, by omega, by omega⟩
      · exact ⟨_, rfl, mi.1, mi.2⟩
    obtain ⟨c, rfl, hc0, hc1⟩ := ev
    refine ⟨by show 2 ≤ sizeLine; decide, fun t ht => ?_⟩
    have st := same_new (o := .tup [.int a, .int c]) ht
    exact k t a c _ upd_same ha0 hc0 hc1 ((P7.stay st).mono (by omega)) ((((((x1.trans x2).trans (Ext.same sb)).trans x4).trans x5).trans (Ext.same sb2)).trans (x7.trans (Ext.same st)))

end
end Vk
set_option Elab.async false
set_option maxRecDepth 100000
set_option maxHeartbeats 4000000
set_option linter.all false
namespace Vk
open PySem PySem.Spec PyProof.Rows L2
/-! ## {k: v for x in l}, l a list that stays -/
theorem dc_list {K : PySem.W.Frag} {a : Addr} {xs : List V} {g : TG} {tt : TT} {tk tv : TE} {vs : List Nat} {σ : L2.St} {H1 : Hp} {D : Addr} {Qd : Hp → Prop} (Pv : Nat → Hp → Prop) (h0 : Pv 0 (upd H1 D (.dK []))) (hl : ∀ i H, i ≤ xs.length → Pv i H → SqL K H a xs)
    (hs : ∀ i x H, xs[i]? = some x → Pv i H → g x (wipe σ vs) H fun σ2 H2 => wipe σ2 vs = wipe σ vs ∧ tt σ2 H2 fun b H3 =>
      if b = true then tk σ2 H3 fun y H4 => tv σ2 H4 fun z H5 => ∃ kvs k, y = kV k ∧ H5 D = some (.dK kvs) ∧ kvs.length < sizeLine ∧ Pv (i + 1) (upd H5 D (.dK (putK kvs k z))) else Pv (i + 1) H3) (hd : ∀ H, Pv xs.length H → Qd H) :
    ∃ W : Nat → Nat → Hp → Prop, (∃ m, W 0 m (upd H1 D (.dK []))) ∧ ∀ i m H, W i m H →
      ((Itl K a).stop i H ∧ Qd H) ∨ ((Itl K a).go i H ∧ ∃ Nx : Hp → Prop, (∀ H', Nx H' → ∃ m', m' < m ∧ W (i + 1) m' H') ∧ ∀ x H', (Itl K a).yld i H x H' → g x (wipe σ vs) H' fun σ2 H2 => wipe σ2 vs = wipe σ vs ∧ tt σ2 H2 fun b H3 =>
        if b = true then tk σ2 H3 fun y H4 => tv σ2 H4 fun z H5 => ∃ kvs k, y = kV k ∧ H5 D = some (.dK kvs) ∧ kvs.length < sizeLine ∧ Nx (upd H5 D (.dK (putK kvs k z))) else Nx H3) := by
  refine ⟨fun i m H => m = xs.length - i ∧ i ≤ xs.length ∧ Pv i H, ⟨xs.length, by simp, Nat.zero_le _, h0⟩, ?_⟩
  rintro i m H ⟨rfl, hi, p⟩
  have q := hl i H hi p
  by_cases hlt : i < xs.length
  · refine .inr ⟨⟨xs, xs[i], q, by simp [hlt]⟩, Pv (i + 1), fun H' p' => ⟨xs.length - (i + 1), by omega, rfl, hlt, p'⟩, fun x H' y => ?_⟩
    obtain ⟨e, y⟩ := y
    subst e
    exact hs i x _ (y xs q) p
  · have e : i = xs.length := by omega
    subst e
    exact .inl ⟨⟨xs, q, Nat.le_refl _⟩, hd H p⟩
theorem for_rangeC {lo c : Int} {n : Nat} {g : TG} {tb : TS} {D : Ends} {σ : L2.St} {H : Hp} (Pv : Nat → L2.St → Hp → Prop) (h0 : Pv 0 σ H)
    (hs : ∀ i σ H, i < n → Pv i σ H → g (.int (lo + (i : Nat) * c)) σ H fun σ2 H2 => tb { D with nx := Pv (i + 1), ct := Pv (i + 1), bk := D.nx } σ2 H2) (hd : ∀ σ H, Pv n σ H → D.nx σ H) :
    ∃ W : Nat → Nat → L2.St → Hp → Prop, (∃ m, W 0 m σ H) ∧ ∀ i m σ H, W i m σ H →
      ((Itc lo c n).stop i H ∧ D.nx σ H) ∨ ((Itc lo c n).go i H ∧ ∃ N : L2.St → Hp → Prop, (∀ σ' H', N σ' H' → ∃ m', m' < m ∧ W (i + 1) m' σ' H') ∧ ∀ x1 H', (Itc lo c n).yld i H x1 H' → g x1 σ H' fun σ2 H2 => tb { D with nx := N, ct := N, bk := D.nx } σ2 H2) := by
  refine ⟨fun i m σ H => m = n - i ∧ i ≤ n ∧ Pv i σ H, ⟨n, by simp, Nat.zero_le _, h0⟩, ?_⟩
  rintro i m σ H ⟨rfl, hi, p⟩
  by_cases hlt : i < n
  · refine .inr ⟨hlt, Pv (i + 1), fun σ' H' p' => ⟨n - (i + 1), by omega, rfl, hlt, p'⟩, ?_⟩
    rintro x1 H' ⟨rfl, rfl⟩
    exact hs i σ _ hlt p
  · have e : i = n := by omega
    subst e
    exact .inl ⟨Nat.le_refl _, hd σ H p⟩
/-- name = {..} on one line, the name a local -/
theorem ps_setDc {X : Cx} {i : Nat} {y : Str} {py : Pos} {kx vx tg iter : Expr} {ifs : List Expr} {scope : Scope} {own : List (Str × Nat)} {pos spos : Pos} {wi : TI} {g : TG} {tt : TT} {tk tv : TE} (hc : X.calm = true) (hN : X.N.Nodup) (hy : X.N[i]? = some y) (hyl : X.env.scope.names.lookup y = some .local)
    (hsw : swapsWith (.DictComp kx vx [⟨tg, iter, ifs, 0⟩] scope pos) (some (.Name y py)) spos.line X.env = pure true) (hi : PI X tg iter wi) (ok : BlkOk X.N X.env.scope scope own)
    (hg : ∀ (s : Shared) (H : Hp) (C : Addr) (cl : List (Str × Addr)) (fp : List Addr), PG (X.blk s H scope (compEnvC scope cl C X.env) fp) tg g) (ht : ∀ (s : Shared) (H : Hp) (C : Addr) (cl : List (Str × Addr)) (fp : List Addr), PTs (X.blk s H scope (compEnvC scope cl C X.env) fp) ifs tt)
    (hk : ∀ (s : Shared) (H : Hp) (C : Addr) (cl : List (Str × Addr)) (fp : List Addr), PE (X.blk s H scope (compEnvC scope cl C X.env) fp) kx tk)
    (he : ∀ (s : Shared) (H : Hp) (C : Addr) (cl : List (Str × Addr)) (fp : List Addr), PE (X.blk s H scope (compEnvC scope cl C X.env) fp) vx tv) (hs : ∀ x, foldedSetIterable iter X.env x = pure x := by intro _; rfl) :
    PS X (.Assign [.Name y py] (.DictComp kx vx [⟨tg, iter, ifs, 0⟩] scope pos) spos) (tAsg (tDc wi g tt tk tv (own.map (·.2))) (gName i)) := by
  refine ⟨fun pins s σ H D I h => ?_⟩
  rw [exec_Assign_Name_used _ _ _ _ hsw]
  refine wpAny_bind (wpAny_standAt (wpAny_bind ?_))
  show wpAny _ X.A (do let _ ← comprehension (.DictComp kx vx [⟨tg, iter, ifs, 0⟩] scope pos) scope X.env (firstIterPos [⟨tg, iter, ifs, 0⟩] pos) newDict false (eval iter X.env) (some (assign (.Name y py) X.env))) _ _ s
  have h : tDc wi g tt tk tv (own.map (·.2)) σ H (fun x H1 => gName i x σ H1 D.nx) := h
  refine wpAny_bind (thn (dc_core (Qf := fun _ s' => SP X pins D .next s') hc hN I hi ok hg ht hk he hs h fun L C s' m H' I' q hn f => ?_) fun _ s' hq => wpAny_pure (wpAny_pure hq))
  show wpAny _ _ (assign (.Name y py) X.env (.ref L)) _ _ _
  refine wpAny_assign_Name (store_ok2 (v := V.ref L) I' hN hy (.inl hyl) rfl (fun s2 I2 ⟨a, sb, ha⟩ => ?_) (.inr hyl))
  obtain ⟨f0, f1, f2, f3, f4, f5⟩ := f
  have haC : C ≠ a := by
    rcases ha with z | z
    · rw [z]; exact f1
    · exact fun e => f4 y a z e.symm
  refine ⟨m, hn.sameBut sb haC, fun h3 sb3 => ?_⟩
  exact ⟨_, H', I2.turned (t' := s2.toks) (fun b o hb e => (sb3.2 b hb).trans e) f0 f1 f3 f4 f5, q⟩
theorem sw_trueD {kx vx : Expr} {gs : List Comprehension} {scope : Scope} {pos py : Pos} {y : Str} {l : Nat} {env : Env} (hk : env.scope.kind = .function) (hy : env.scope.names.lookup y = some .local) (hl : (py.line == pos.line) = true)
    (ha : (scope.names.any fun (n, k) => n == y && (k == .local || k == .cell)) = false) : swapsWith (.DictComp kx vx gs scope pos) (some (.Name y py)) l env = pure true := by
  have ky : env.kindOf y = some .local := hy
  have hb : env.blockKind = .function := by unfold Env.blockKind; rw [hk]; rfl
  unfold swapsWith
  simp only [hb, ky, ha, Expr.pos, hl]
  rfl
theorem call_isiK {X : Cx} {K : PySem.W.Frag} (h : X.K = K) : CallR X (.builtin "isinstance") (rIsi K) := h ▸ call_isi
/-- the dict of the first numbers -/
def kvN (i : Nat) : List (Key × V) := (List.range i).map fun j => (Sum.inl ((j : Nat) : Int), V.bl true)
theorem kvN_val {n i : Nat} (h : i < n) : valV (kvN n) (Sum.inl ((i : Nat) : Int)) = some (V.bl true) := by
  unfold valV
  cases e : (kvN n).find? fun kv => decide (kv.1 = Sum.inl ((i : Nat) : Int)) with
  | none =>
    rw [List.find?_eq_none] at e
    have q := e (Sum.inl ((i : Nat) : Int), V.bl true) (List.mem_map.mpr ⟨i, List.mem_range.mpr h, rfl⟩)
    simp at q
  | some kv =>
    have m := List.mem_of_find?_eq_some e
    obtain ⟨j, _, rfl⟩ := List.mem_map.mp m
    rfl
theorem kvN_put {i : Nat} : putK (kvN i) (Sum.inl ((i : Nat) : Int)) (V.bl true) = kvN (i + 1) := by
  unfold putK
  rw [if_neg]
  · unfold kvN
    rw [List.range_succ, List.map_append]
    rfl
  · intro h
    rw [List.any_eq_true] at h
    obtain ⟨kv, hk, e⟩ := h
    obtain ⟨j, hj, rfl⟩ := List.mem_map.mp hk
    have := List.mem_range.mp hj
    have e2 : (Sum.inl ((j : Nat) : Int) : Key) = Sum.inl ((i : Nat) : Int) := of_decide_eq_true e
    have := Sum.inl.inj e2
    omega
end Vk
set_option Elab.async false
set_option maxRecDepth 100000
set_option maxHeartbeats 4000000
set_option linter.all false
namespace Vk
open PySem PySem.Spec PyProof.Rows L2
/-! ## for i, c in enumerate(x), x a text -/
/-! ## loops over these -/
theorem for_enumL {K : PySem.W.Frag} {a : Addr} {xs : List V} {g : TG} {tb : TS} {D : Ends} {σ : L2.St} {H : Hp} (Pv : Nat → L2.St → Hp → Prop) (h0 : Pv 0 σ H) (hl : ∀ i σ H, i ≤ xs.length → Pv i σ H → SqL K H a xs)
    (hs : ∀ i v σ H T, xs[i]? = some v → H T = none → Pv i σ H → g (.ref T) σ (upd H T (.tup [.int (i : Nat), v])) fun σ2 H2 => tb { D with nx := Pv (i + 1), ct := Pv (i + 1), bk := D.nx } σ2 H2) (hd : ∀ σ H, Pv xs.length σ H → D.nx σ H) :
    ∃ W : Nat → Nat → L2.St → Hp → Prop, (∃ m, W 0 m σ H) ∧ ∀ i m σ H, W i m σ H →
      ((Ite K a).stop i H ∧ D.nx σ H) ∨ ((Ite K a).go i H ∧ ∃ N : L2.St → Hp → Prop, (∀ σ' H', N σ' H' → ∃ m', m' < m ∧ W (i + 1) m' σ' H') ∧ ∀ x1 H', (Ite K a).yld i H x1 H' → g x1 σ H' fun σ2 H2 => tb { D with nx := N, ct := N, bk := D.nx } σ2 H2) := by
  refine ⟨fun i m σ H => m = xs.length - i ∧ i ≤ xs.length ∧ Pv i σ H, ⟨xs.length, by simp, Nat.zero_le _, h0⟩, ?_⟩
  rintro i m σ H ⟨rfl, hi, p⟩
  have q := hl i σ H hi p
  by_cases hlt : i < xs.length
  · refine .inr ⟨⟨xs, xs[i], q, by simp [hlt]⟩, Pv (i + 1), fun σ' H' p' => ⟨xs.length - (i + 1), by omega, rfl, hlt, p'⟩, ?_⟩
    rintro x1 H' ⟨T, v, rfl, hT, rfl, hv⟩
    exact hs i v σ H T (hv xs q) hT p
  · have e : i = xs.length := by omega
    subst e
    exact .inl ⟨⟨xs, q, Nat.le_refl _⟩, hd σ H p⟩
end Vk
set_option Elab.async false
set_option maxRecDepth 100000
set_option linter.all false
set_option maxHeartbeats 4000000
namespace Vk
open PySem PySem.Spec PyProof.Rows L2
section
variable {P : Program} {w : World} {K : PySem.W.Frag} {mg : Str → Option Value} {base : Heap}
def spLonger : Sp := fun vs H Q _ => ∃ (r ed : Addr) (xs : List V), vs = [.ref r, .ref ed] ∧ H r = some (.lst xs) ∧ (∀ v ∈ xs, ∃ (t : Addr) (a b c : V), v = .ref t ∧ H t = some (.tup [a, b, c])) ∧ H ed = some (.lst []) ∧ ∀ (l : Addr) H', H l = none → H' l = some (.lst []) → Same H H' → Q (.ref l) H'
abbrev s_longer_results : Stmt := top 42
theorem sc_longer_results : FnScope ["results", "edits", "told", "way", "text", "entries", "index", "edit", "puts"] ["results", "edits"] (defScope s_longer_results) := ⟨rfl, rfl, rfl, by decide +kernel, rfl, by decide +kernel, by decide +kernel⟩
theorem b_longer_results {f : Addr} {fd : FuncData} (F : Fun K "longer_results" "longer_results" s_longer_results f fd) (T : Txt mg) : FnG P w K mg base CX0 1 f fd ["results", "edits"] spLonger := by
  refine okG0 F sc_longer_results (fun vs H Q E h => ?_) (fun cdv A outer s H vs Q E hg hr h => ?_)
  · obtain ⟨r, ed, xs, rfl, _⟩ := h
    rfl
  · have hu := hu_of hr
    have hu64 := hr.units
    obtain ⟨r, ed, xs, rfl, hr1, tx, hed, k⟩ := h
    refine ⟨_, (pss_cons (ps_set (i := 2) sc_longer_results.nd rfl (Or.inl rfl) (pe_lst pa_nil))
      (pss_cons (ps_for PassesOwn.never rfl (pi_list (pv 0)) (pg_tup rfl (pgs_cons (pg_name (i := 3) sc_longer_results.nd rfl (Or.inl rfl)) (pgs_cons (pg_name (i := 4) sc_longer_results.nd rfl (Or.inl rfl)) (pgs_cons (pg_name (i := 5) sc_longer_results.nd rfl (Or.inl rfl)) pgs_nil)))) (pss_one (ps_for PassesOwn.never rfl (pi_enum (by rfl) T.enumerate (pa_cons (pv 1) pa_nil)) (pg_tup rfl (pgs_cons (pg_name (i := 6) sc_longer_results.nd rfl (Or.inl rfl)) (pgs_cons (pg_name (i := 7) sc_longer_results.nd rfl (Or.inl rfl)) pgs_nil))) pss_never)))
      (pss_one (ps_ret (pv 2))))), ?_⟩
    refine ⟨by show 0 ≤ sizeLine; decide, fun lr hlr => ?_⟩
    have slr := same_new (o := .lst []) hlr
    refine ⟨_, rfl, r, rfl, ⟨_, SqL.of (slr _ _ hr1)⟩, ?_⟩
    refine for_list (xs := xs) (fun i σ H' => ∃ (o3 o4 o5 o6 o7 o8 : Option V), σ = [some (.ref r), some (.ref ed), some (.ref lr), o3, o4, o5, o6, o7, o8] ∧ H' lr = some (.lst []) ∧ Same H H') ?_ ?_ ?_ ?_
    · exact ⟨_, _, _, _, _, _, rfl, upd_same, slr⟩
    · rintro i σ H' _ ⟨o3, o4, o5, o6, o7, o8, rfl, _, sm⟩
      exact SqL.of (sm _ _ hr1)
    · rintro i v σ H2 hv ⟨o3, o4, o5, o6, o7, o8, rfl, hl2, s2⟩
      obtain ⟨t, a, b, c, rfl, ht⟩ := tx v (List.mem_of_getElem? hv)
      refine ⟨t, _, rfl, SqT.of (s2 _ _ ht), rfl, _, _, rfl, _, _, rfl, _, _, rfl, rfl, ?_⟩
      have ht2 := s2 _ _ ht
      have hed2 := s2 _ _ hed
      refine ⟨_, rfl, ed, [], rfl, SqL.of hed2, ?_⟩
      refine for_enumL (K := K) (a := ed) (xs := []) (fun j σ H' => ∃ (o3 o4 o5 o6 o7 o8 : Option V), σ = [some (.ref r), some (.ref ed), some (.ref lr), o3, o4, o5, o6, o7, o8] ∧ H' = H2) ⟨_, _, _, _, _, _, rfl, rfl⟩ (fun j σ H' _ p => ?_) (fun j v σ H' T hv _ _ => nomatch hv) (fun σ H' p => ?_)
      · obtain ⟨_, _, _, _, _, _, _, rfl⟩ := p
        exact SqL.of hed2
      · obtain ⟨p3, p4, p5, p6, p7, p8, rfl, rfl⟩ := p
        exact ⟨_, _, _, _, _, _, rfl, hl2, s2⟩
    · rintro σ H2 ⟨o3, o4, o5, o6, o7, o8, rfl, hl2, s2⟩
      exact ⟨_, rfl, k lr H2 hlr hl2 s2⟩

def spResults : Sp := fun vs H Q _ => ∃ (x : Str) (ed : Addr), vs = [.str x, .ref ed] ∧ x.length ≤ 100 ∧ H ed = some (.lst []) ∧ ∀ (l t w e : Addr) H', H l = none → H' l = some (.lst [.ref t]) → H' t = some (.tup [.ref w, .str x, .ref e]) → H' e = some (.lst (rgV 0 (x.length : Nat))) → Same H H' → Q (.ref l) H'
abbrev s_all_results : Stmt := top 43
theorem sc_all_results : FnScope ["text", "edits", "told", "results"] ["text", "edits"] (defScope s_all_results) := ⟨rfl, rfl, rfl, by decide +kernel, rfl, by decide +kernel, by decide +kernel⟩
theorem b_all_results {f : Addr} {fd : FuncData} (F : Fun K "all_results" "all_results" s_all_results f fd) (T : Txt mg) (c_longer_results : CalG P w K mg base CX0 1 "longer_results" spLonger) : FnG P w K mg base CX0 2 f fd ["text", "edits"] spResults := by
  refine okG0 F sc_all_results (fun vs H Q E h => ?_) (fun cdv A outer s H vs Q E hg hr h => ?_)
  · obtain ⟨x, ed, rfl, _⟩ := h
    rfl
  · have hu := hu_of hr
    have hu64 := hr.units
    obtain ⟨x, ed, rfl, hx, hed, k⟩ := h
    have xl : x.length ≤ sizeLine := Nat.le_of_lt (fewL (by omega))
    refine ⟨_, (pss_cons (ps_set (i := 2) sc_all_results.nd rfl (Or.inl rfl) (pe_lst pa_nil))
      (pss_cons (ps_set (i := 3) sc_all_results.nd rfl (Or.inl rfl) (pe_lst (pa_cons (pe_tup (pa_cons (pe_tup pa_nil) (pa_cons (pv 0) (pa_cons (pe_listRg rfl (by rfl) T.list (prg_1 (by rfl) T.range (pe_callB call_len (by rfl) T.len (by decide +kernel) (pa_cons (pv 0) pa_nil)))) pa_nil)))) pa_nil)))
      (pss_cons (ps_while PassesOwn.never (pt_truthK (K := K) rfl (pv 3)) (pss_cons (ps_expr (pe_bm PySem.F.plainAttrs_list PySem.F.slot_list_extend PySem.F.type_list_extend mt_extend (pv 2) (pa_cons (pv 3) pa_nil)))
      (pss_one (ps_set (i := 3) sc_all_results.nd rfl (Or.inl rfl) (pe_cG c_longer_results hg hr (by decide) pass0 (pa_cons (pv 3) (pa_cons (pv 1) pa_nil)))))))
      (pss_one (ps_ret (pv 2)))))), ?_⟩
    refine ⟨by show 0 ≤ sizeLine; decide, fun l hl => ?_⟩
    have sl := same_new (o := .lst []) hl
    refine ⟨by show 0 ≤ sizeLine; decide, fun w hw => ?_⟩
    have sw := same_new (o := .tup []) hw
    refine ⟨_, rfl, _, rfl, _, _, rfl, ⟨xl, rfl⟩, _, rfl, .of_le (by omega) (by omega) (by omega) (by omega), fun e he => ?_⟩
    have se := same_new (o := .lst (rgV 0 (x.length : Nat))) he
    refine ⟨by show 3 ≤ sizeLine; decide, fun t ht => ?_⟩
    have st := same_new (o := .tup [.ref w, .str x, .ref e]) ht
    refine ⟨by show 1 ≤ sizeLine; decide, fun r hr1 => ?_⟩
    have sr := same_new (o := .lst [.ref t]) hr1
    have nle : e ≠ l := (ne_of_none (sw _ _ upd_same) he).symm
    have l1 := (((sw.trans se).trans st).trans sr) _ _ (upd_same (H := H) (a := l) (o := .lst []))
    have e1 := (st.trans sr) _ _ (upd_same (H := upd (upd H l (.lst [])) w (.tup [])) (a := e) (o := .lst (rgV 0 (x.length : Nat))))
    have t1 := sr _ _ (upd_same (H := upd (upd (upd H l (.lst [])) w (.tup [])) e (.lst (rgV 0 (x.length : Nat)))) (a := t) (o := .tup [.ref w, .str x, .ref e]))
    have r1 : (upd (upd (upd (upd (upd H l (.lst [])) w (.tup [])) e (.lst (rgV 0 (x.length : Nat)))) t (.tup [.ref w, .str x, .ref e])) r (.lst [.ref t])) r = some (.lst [.ref t]) := upd_same
    have s1 := (((sl.trans sw).trans se).trans st).trans sr
    generalize upd (upd (upd (upd (upd H l (.lst [])) w (.tup [])) e (.lst (rgV 0 (x.length : Nat)))) t (.tup [.ref w, .str x, .ref e])) r (.lst [.ref t]) = H1 at l1 e1 t1 r1 s1 ⊢
    clear sl se st sr hw ht hr1
    refine ⟨fun m σ H' => ∃ r2 : Addr, σ = [some (.str x), some (.ref ed), some (.ref l), some (.ref r2)] ∧ Same H H' ∧ H' e = some (.lst (rgV 0 (x.length : Nat))) ∧ H' t = some (.tup [.ref w, .str x, .ref e]) ∧ ((m = 1 ∧ H' l = some (.lst []) ∧ H' r2 = some (.lst [.ref t])) ∨ (m = 0 ∧ H' l = some (.lst [.ref t]) ∧ H' r2 = some (.lst []))), ⟨1, r, rfl, s1, e1, t1, .inl ⟨rfl, l1, r1⟩⟩, ?_⟩
    rintro m σ H2 ⟨r2, rfl, s2, e2, t2, ⟨rfl, l2, r2h⟩ | ⟨rfl, l2, r2h⟩⟩
    · refine ⟨_, rfl, _, .inl ⟨_, SqL.of r2h, rfl⟩, ?_⟩
      refine iteT ⟨fun σ' H' => ∃ r3 : Addr, σ' = [some (.str x), some (.ref ed), some (.ref l), some (.ref r3)] ∧ Same H H' ∧ H' e = some (.lst (rgV 0 (x.length : Nat))) ∧ H' t = some (.tup [.ref w, .str x, .ref e]) ∧ H' l = some (.lst [.ref t]) ∧ H' r3 = some (.lst []), ?_, ?_⟩
      · rintro σ' H' ⟨r3, rfl, a1, a2, a3, a4, a5⟩
        exact ⟨0, Nat.zero_lt_one, r3, rfl, a1, a2, a3, .inr ⟨rfl, a4, a5⟩⟩
      · refine ⟨_, rfl, .inl ⟨rfl, _, SqL.of l2⟩, _, rfl, l, r2, _, _, rfl, rfl, l2, r2h, by show 0 + 1 ≤ sizeLine; decide, ?_⟩
        have nl : ∀ {b : Addr} {o : HO}, H2 b = some o → b ≠ l → (upd H2 l (.lst ([] ++ [.ref t]))) b = some o := fun h n => (upd_ne n).trans h
        have ntl : t ≠ l := fun z => by
          rw [z, l2] at t2
          cases t2
        have nrl : r2 ≠ l := fun z => by
          rw [z, l2] at r2h
          cases r2h
        have l3 : (upd H2 l (.lst ([] ++ [.ref t]))) l = some (.lst [.ref t]) := upd_same
        have e3 := nl e2 nle
        have t3 := nl t2 ntl
        have r3 := nl r2h nrl
        have s3 : Same H (upd H2 l (.lst ([] ++ [.ref t]))) := upd_out hl s2
        generalize upd H2 l (.lst ([] ++ [.ref t])) = H3 at l3 e3 t3 r3 s3 ⊢
        refine ⟨_, rfl, _, rfl, r2, ed, [.ref t], rfl, r3, (fun v hv => by
          rw [List.mem_singleton.mp hv]
          exact ⟨t, _, _, _, rfl, t3⟩), s3 _ _ hed, fun r4 H4 hr4 h4 s4 => ?_⟩
        exact ⟨r4, rfl, s3.trans s4, s4 _ _ e3, s4 _ _ t3, s4 _ _ l3, h4⟩
    · refine ⟨_, rfl, _, .inl ⟨_, SqL.of r2h, rfl⟩, ?_⟩
      refine iteF ?_
      exact ⟨_, rfl, k l t w e H2 hl l2 t2 e2 s2⟩

end
end Vk
set_option Elab.async false
set_option maxRecDepth 100000
set_option linter.all false
set_option maxHeartbeats 4000000
namespace Vk
open PySem PySem.Spec PyProof.Rows L2
section
variable {P : Program} {w : World} {K : PySem.W.Frag} {mg : Str → Option Value} {base : Heap}
def endsK (n k : Nat) : List V := (List.range (n + 1)).map fun j => V.int ((if j < k then j else n : Nat) : Int)
def spKept : Sp := fun vs H Q _ => ∃ (e : Addr) (n : Nat), vs = [.ref e, .int (n : Nat)] ∧ n ≤ 100 ∧ H e = some (.lst (rgV 0 (n : Nat))) ∧ ∀ (l : Addr) H', H l = none → H' l = some (.lst (endsK n 0)) → Same H H' → Q (.ref l) H'
theorem ends_start {n : Nat} : rgV 0 ((n : Int) + 1) = endsK n n := by
  unfold rgV endsK
  rw [show ((n : Int) + 1 - 0).toNat = n + 1 by omega]
  refine List.map_congr_left fun j hj => ?_
  have := List.mem_range.mp hj
  by_cases h : j < n
  · rw [if_pos h, Int.zero_add]
  · rw [if_neg h, Int.zero_add, show j = n by omega]
theorem ends_set {n k : Nat} (h : k < n) : (endsK n (k + 1)).set k (V.int (n : Nat)) = endsK n k := by
  unfold endsK
  refine List.ext_getElem? fun j => ?_
  rw [List.getElem?_set, List.getElem?_map, List.getElem?_map]
  by_cases e : k = j
  · subst e
    rw [if_pos rfl, if_pos (by rw [List.length_map, List.length_range]; omega), List.getElem?_range (by omega)]
    simp
  · rw [if_neg e]
    by_cases hj : j < n + 1
    · rw [List.getElem?_range hj]
      show some (V.int ((if j < k + 1 then j else n : Nat) : Int)) = some (V.int ((if j < k then j else n : Nat) : Int))
      by_cases h1 : j < k + 1
      · rw [if_pos h1, if_pos (by omega)]
      · rw [if_neg h1, if_neg (by omega)]
    · rw [List.getElem?_eq_none (by rw [List.length_range]; omega)]
      rfl
theorem ends_at {n k j : Nat} (hj : j ≤ n) (h : k ≤ j) : (endsK n k)[j]? = some (V.int (n : Nat)) := by
  unfold endsK
  rw [List.getElem?_map, List.getElem?_range (by omega), Option.map_some, if_neg (by omega)]
abbrev s_kept_ends : Stmt := top 44
theorem sc_kept_ends : FnScope ["entries", "length", "kept", "entry", "ends", "begin"] ["entries", "length"] (defScope s_kept_ends) := ⟨rfl, rfl, rfl, by decide +kernel, rfl, by decide +kernel, by decide +kernel⟩
theorem b_kept_ends {f : Addr} {fd : FuncData} (F : Fun K "kept_ends" "kept_ends" s_kept_ends f fd) (T : Txt mg) : FnG P w K mg base CX0 1 f fd ["entries", "length"] spKept := by
  refine okG0 F sc_kept_ends (fun vs H Q E h => ?_) (fun cdv A outer s H vs Q E hg hr h => ?_)
  · obtain ⟨e, n, rfl, _⟩ := h
    rfl
  · have hu := hu_of hr
    have hu64 := hr.units
    obtain ⟨e, n, rfl, hn, he, k⟩ := h
    refine ⟨_, (pss_cons (ps_setDc (i := 2) (own := [("entry", 3)]) (g := gName 3) rfl sc_kept_ends.nd rfl rfl (sw_trueD rfl rfl rfl (by decide +kernel)) (pi_list (pv 0)) (blkOk_by (own := [("entry", 3)]) (N := ["entries", "length", "kept", "entry", "ends", "begin"]) (sc := defScope s_kept_ends) (by decide +kernel)) (fun _ _ _ _ _ => (pg_name (i := 3) sc_kept_ends.nd rfl (Or.inl rfl))) (fun _ _ _ _ _ => (pts_one (pt_not (pt_val (pe_callB (call_isiK (K := K) rfl) (by rfl) T.isinstance (by decide +kernel) (pa_cons (pv 3) (pa_cons (pe_bltn (v := .ty "tuple") (by rfl) T.tuple rfl rfl) pa_nil))))))) (fun _ _ _ _ _ => (pv 3)) (fun _ _ _ _ _ => pe_bl))
      (pss_cons (ps_set (i := 4) sc_kept_ends.nd rfl (Or.inl rfl) (pe_listRg rfl (by rfl) T.list (prg_1 (by rfl) T.range (pe_op op_add (pv 1) pe_int))))
      (pss_cons (ps_for PassesOwn.never rfl (pi_revR (by rfl) T.reversed (prg_1 (by rfl) T.range (pv 1))) (pg_name (i := 5) sc_kept_ends.nd rfl (Or.inl rfl)) (pss_one (ps_if (pt_cmp (pc_din hu (pv 5) (pv 2))) (pss_one (ps_asg (pe_ix ix_seq (pv 4) (pe_op op_add (pv 5) pe_int) (fun _ _ => rfl)) (pg_sub (pv 4) (pv 5) set_list))) pss_nil)))
      (pss_one (ps_ret (pv 4)))))), ?_⟩
    refine ⟨_, rfl, e, rfl, ⟨_, SqL.of he⟩, fun D hD => ?_⟩
    have sD := same_new (o := .dK []) hD
    have lrg : (rgV 0 (n : Nat)).length = n := by
      rw [rgV_length]
      omega
    refine dc_list (K := K) (a := e) (xs := rgV 0 (n : Nat)) (fun i H' => H' D = some (.dK (kvN i)) ∧ Same H H') ⟨upd_same, sD⟩ (fun i H' _ p => SqL.of (p.2 _ _ he)) (fun i v H' hv p => ?_) (fun H' p => ?_)
    · obtain ⟨hDz, sm⟩ := p
      have hi : i < n := by
        have := (List.getElem?_eq_some_iff.mp hv).1
        omega
      have ev : v = .int (i : Nat) := by
        unfold rgV at hv
        rw [List.getElem?_map, List.getElem?_range (by omega)] at hv
        have q : V.int (0 + ((i : Nat) : Int)) = v := Option.some.inj hv
        rw [← q, Int.zero_add]
      subst ev
      refine ⟨rfl, _, rfl, .int (i : Nat), .ty "tuple", .type "int", .type "tuple", false, rfl, .ty "tuple", .base (.int _), kit_ty (by decide +kernel), _, rfl, ?_⟩
      have lk : (kvN i).length = i := by
        unfold kvN
        rw [List.length_map, List.length_range]
      refine iteT ⟨_, rfl, kvN i, Sum.inl ((i : Nat) : Int), rfl, hDz, fewL (by omega), ?_, upd_out hD sm⟩
      rw [kvN_put]
      exact upd_same
    · obtain ⟨hD2, s2⟩ := p
      rw [lrg] at hD2
      refine ⟨_, rfl, _, _, rfl, rfl, _, rfl, .of_le (by omega) (by omega) (by omega) (by omega), fun l hl => ?_⟩
      have sl := same_new (o := .lst (rgV 0 ((n : Int) + 1))) hl
      have hl3 : (upd H' l (.lst (rgV 0 ((n : Int) + 1)))) l = some (.lst (endsK n n)) := by
        rw [upd_same, ends_start]
      have hD3 := sl _ _ hD2
      have hl0 := none_up s2 hl
      have s3 := s2.trans sl
      have nDl : l ≠ D := (ne_of_none hD2 hl).symm
      generalize upd H' l (.lst (rgV 0 ((n : Int) + 1))) = H3 at hl3 hD3 s3 ⊢
      refine ⟨_, rfl, _, rfl, by omega, by omega, by omega, by omega, ?_⟩
      have e0 : (0 : Int) + ((((n : Nat) : Int) - 0).toNat : Nat) - 1 = (n : Int) - 1 := by omega
      have e1 : (((n : Nat) : Int) - 0).toNat = n := by omega
      rw [e0, e1]
      refine for_rangeC (fun i σ H' => ∃ (o3 o5 : Option V), σ = [some (.ref e), some (.int (n : Nat)), some (.ref D), o3, some (.ref l), o5] ∧ H' D = some (.dK (kvN n)) ∧ H' l = some (.lst (endsK n (n - i))) ∧ Same H H') ⟨_, _, rfl, hD3, hl3, s3⟩ (fun i σ H4 hi p => ?_) (fun σ H4 p => ?_)
      · obtain ⟨o3, o5, rfl, hD4, hl4, s4⟩ := p
        have eb : (n : Int) - 1 + (i : Nat) * (-1 : Int) = ((n - 1 - i : Nat) : Int) := by omega
        rw [eb]
        have hk : n - 1 - i < n := by omega
        have es : n - i = (n - 1 - i) + 1 := by omega
        have en : n - (i + 1) = n - 1 - i := by omega
        rw [es] at hl4
        rw [en]
        generalize n - 1 - i = q at hk hl4
        have ll : (endsK n (q + 1)).length = n + 1 := by
          unfold endsK
          rw [List.length_map, List.length_range]
        refine ⟨_, rfl, _, rfl, D, _, rfl, DGet.k (k := Sum.inl ((q : Nat) : Int)) hD4, _, rfl, ?_⟩
        rw [kvN_val hk]
        refine iteT ?_
        have ix : atI (endsK n (q + 1)) (((q : Nat) : Int) + 1) = some (V.int (n : Nat)) := by
          rw [show ((q : Nat) : Int) + 1 = ((q + 1 : Nat) : Int) by omega]
          exact atI_nat (ends_at (by omega) (Nat.le_refl _))
        have ixq : ixN (endsK n (q + 1)).length ((q : Nat) : Int) = some q := by
          unfold ixN
          rw [if_pos (by omega), if_pos (by omega)]
          rfl
        refine ⟨_, rfl, _, rfl, _, _, rfl, rfl, .inl ⟨l, _, _, _, rfl, rfl, SqL.of hl4, ix, _, rfl, _, rfl, l, _, _, q, rfl, rfl, hl4, ixq, ?_⟩⟩
        rw [ends_set hk]
        exact ⟨_, _, rfl, (upd_ne nDl.symm).trans hD4, upd_same, upd_out hl0 s4⟩
      · obtain ⟨o3, o5, rfl, hD4, hl4, s4⟩ := p
        rw [Nat.sub_self] at hl4
        exact ⟨_, rfl, k l H4 hl0 hl4 s4⟩

end
end Vk
set_option Elab.async false
set_option maxRecDepth 100000
set_option maxHeartbeats 4000000
set_option linter.all false
namespace Vk
open L2 PySem PySem.Spec PyProof.Rows PySem.VkX LamX NdefX
/-! ## a lambda of one parameter that raises nothing -/
structure LamK1 (P : Program) (w : World) (K : PySem.W.Frag) (mg : Str → Option Value) (base : Heap) (k : Nat) (F : LF) (sp : V → Hp → VK → Prop) : Prop where
  run : ∀ (A : Around) (outer : List Env) (s : Shared) (H : Hp) (f : Addr) (v : V) (u : Value) (Q : VK), A.guards = some [] → Room k A → Env0 P w K mg base A outer s H → H f = some (LamO f F) → H F.c = some (CodeO F.c F.qual) → L2.RelV v u → sp v H Q →
    codeAny (model P w) A (.call (.ref f) ⟨[u], []⟩) (CR CX0 outer P w H s Q E0) s
section
variable {P : Program} {w : World} {K : PySem.W.Frag} {mg : Str → Option Value} {base : Heap} {N : List Str} {F : LF} {k : Nat} {sp : V → Hp → VK → Prop} {p : Str}
end
/-! ## the first of those whose number is least -/
/-! ## min(xs, key=f) -/
end Vk
set_option Elab.async false
set_option maxRecDepth 100000
set_option maxHeartbeats 4000000
set_option linter.all false
namespace Vk
open L2 PySem PySem.Spec PyProof.Rows
/-! ## min of a list of tuples -/
end Vk
set_option Elab.async false
set_option maxRecDepth 100000
set_option linter.all false
set_option maxHeartbeats 4000000
namespace Vk
open PySem PySem.Spec PyProof.Rows L2
section
variable {P : Program} {w : World} {K : PySem.W.Frag} {mg : Str → Option Value} {base : Heap}
theorem nuMax2_int (a b : Int) : nuMax2 (.int a) (.int b) = some (.int (max a b)) := by
  show (some (decide (a < b))).map (fun c => if c = true then V.int b else V.int a) = _
  by_cases h : a < b
  · rw [decide_eq_true h, show max a b = b by omega]; rfl
  · rw [decide_eq_false h, show max a b = a by omega]; rfl
theorem nuMax3_int (a b c : Int) : nuMax3 (.int a) (.int b) (.int c) = some (.int (max (max a b) c)) := by
  show (nuMax2 (.int a) (.int b)).bind (fun m => nuMax2 m (.int c)) = _
  rw [nuMax2_int]
  exact nuMax2_int _ _
theorem or_bothH {c : Bool} {T B : Prop} (R : Hp → Prop) (G : Hp → Prop) (h : ∀ H, G H → R H) (h1 : c = true → (∀ H, G H → R H) → T) (h2 : c = false → (∀ H, G H → R H) → B) : if c = true then T else B := by
  cases c with
  | true => exact h1 rfl h
  | false => exact h2 rfl h
def popE (ws : List (Nat × Nat)) (e : Nat) : List (Nat × Nat) := match ws.getLast? with
  | some p => if p.2 = e then ws.dropLast else ws
  | none => ws
def endE (x : Str) (b : Nat) : Nat → Nat
  | 0 => 0
  | k + 1 => lendF x k (x.length + 1) (max (endE x b k) (max (k + 1) b))
def toldE (x : Str) (b : Nat) : Nat → List (Nat × Nat)
  | 0 => []
  | k + 1 => if endE x b (k + 1) ≤ x.length then popE (toldE x b k) (endE x b (k + 1)) ++ [(k, endE x b (k + 1))] else toldE x b k
theorem popE_len {ws : List (Nat × Nat)} {e : Nat} : (popE ws e).length ≤ ws.length := by
  unfold popE
  split
  · split
    · rw [List.length_dropLast]; omega
    · exact Nat.le_refl _
  · exact Nat.le_refl _
theorem toldE_len {x : Str} {b : Nat} : ∀ {k : Nat}, (toldE x b k).length ≤ k
  | 0 => Nat.le_refl _
  | k + 1 => by
    have q := toldE_len (x := x) (b := b) (k := k)
    unfold toldE
    split
    · have := popE_len (ws := toldE x b k) (e := endE x b (k + 1))
      rw [List.length_append, List.length_singleton]
      omega
    · omega
theorem prn_last {H : Hp} : ∀ {ys : List V} {ws : List (Nat × Nat)}, PrN H ys ws → (ys = [] ∧ ws = []) ∨ ∃ ys' ws' t p, ys = ys' ++ [V.ref t] ∧ ws = ws' ++ [p] ∧ PrN H ys' ws' ∧ H t = some (.tup [.int ((p : Nat × Nat).1 : Nat), .int (p.2 : Nat)])
  | _, _, .nil => .inl ⟨rfl, rfl⟩
  | _, _, .cons (a := v) (b := p) ⟨t, e, ht⟩ h => by
    subst e
    rcases prn_last h with ⟨rfl, rfl⟩ | ⟨ys', ws', u, q, rfl, rfl, h', hu⟩
    · exact .inr ⟨[], [], t, p, rfl, rfl, .nil, ht⟩
    · exact .inr ⟨V.ref t :: ys', p :: ws', u, q, rfl, rfl, .cons ⟨t, rfl, ht⟩ h', hu⟩
theorem popE_snoc {ws : List (Nat × Nat)} {p : Nat × Nat} {e : Nat} : popE (ws ++ [p]) e = if p.2 = e then ws else ws ++ [p] := by
  unfold popE
  rw [List.getLast?_append, List.getLast?_singleton]
  show (if p.2 = e then (ws ++ [p]).dropLast else ws ++ [p]) = _
  rw [List.dropLast_concat]
def spIn1 : Sp := fun vs H Q _ => ∃ (l : Addr) (x w : Str), vs = [.ref l, .str w] ∧ H l = some (.lst [.str x]) ∧ Q (.bl (decide (2 ≤ (plc x w).length))) H
abbrev s_stands_twice_in_one : Stmt := top 45
theorem sc_stands_twice_in_one : FnScope ["texts", "word", "text"] ["texts", "word"] (defScope s_stands_twice_in_one) := ⟨rfl, rfl, rfl, by decide +kernel, rfl, by decide +kernel, by decide +kernel⟩
theorem b_stands_twice_in_one {f : Addr} {fd : FuncData} (F : Fun K "stands_twice_in_one" "stands_twice_in_one" s_stands_twice_in_one f fd) (T : Txt mg) (c_stands_twice : CalG P w K mg base CX0 1 "stands_twice" spTwice) : FnG P w K mg base CX0 2 f fd ["texts", "word"] spIn1 := by
  refine okG0 F sc_stands_twice_in_one (fun vs H Q E h => ?_) (fun cdv A outer s H vs Q E hg hr h => ?_)
  · obtain ⟨l, x, w, rfl, _⟩ := h
    rfl
  · have hu := hu_of hr
    have hu64 := hr.units
    obtain ⟨l, x, w, rfl, hl, k⟩ := h
    have hr1 : Room 1 _ := hr
    refine ⟨_, (pss_cons (ps_for PassesOwn.never rfl (pi_list (pv 0)) (pg_name (i := 2) sc_stands_twice_in_one.nd rfl (Or.inl rfl)) (pss_one (ps_if (pt_val (pe_cG c_stands_twice hg hr (by decide) pass0 (pa_cons (pv 2) (pa_cons (pv 1) pa_nil)))) (pss_one (ps_ret pe_bl)) pss_nil)))
      (pss_one (ps_ret pe_bl))), ?_⟩
    refine ⟨_, rfl, l, rfl, ⟨_, SqL.of hl⟩, ?_⟩
    refine for_list (xs := [V.str x]) (fun i σ H' => ∃ (o2 : Option V), σ = [some (.ref l), some (.str w), o2] ∧ H' = H ∧ (i = 0 ∨ ¬ 2 ≤ (plc x w).length)) ?_ ?_ ?_ ?_
    · exact ⟨_, rfl, rfl, .inl rfl⟩
    · rintro i σ H' _ ⟨o2, rfl, rfl, _⟩
      exact SqL.of hl
    · rintro i v σ H2 hv ⟨o2, rfl, rfl, hi⟩
      have ev : v = .str x := by
        have m := List.mem_of_getElem? hv
        exact List.mem_singleton.mp m
      subst ev
      refine ⟨_, rfl, _, rfl, x, w, rfl, _, rfl, ?_⟩
      by_cases c : 2 ≤ (plc x w).length
      · rw [decide_eq_true c] at k ⊢
        exact iteT k
      · rw [decide_eq_false c]
        exact iteF ⟨_, rfl, rfl, .inr c⟩
    · rintro σ H2 ⟨o2, rfl, rfl, hi⟩
      have c : ¬ 2 ≤ (plc x w).length := by
        rcases hi with hi | hi
        · exact absurd hi (by show ¬ 1 = 0; decide)
        · exact hi
      rw [decide_eq_false c] at k
      exact k

def spLeastW : Sp := fun vs H Q _ => ∃ (x : Str) (a b : Nat) (r t w e : Addr), vs = [.str x, .int (a : Nat), .int (b : Nat), .ref r] ∧ x.length ≤ 20 ∧ a ≤ x.length ∧ b ≤ x.length ∧ H r = some (.lst [.ref t]) ∧ H t = some (.tup [.ref w, .str x, .ref e]) ∧ H e = some (.lst (rgV 0 (x.length : Nat))) ∧ ∀ (l : Addr) (ys : List V) H', H l = none → H' l = some (.lst ys) → PrN H' ys (toldE x b (min (a + 1) x.length)) → Same H H' → Q (.ref l) H'
abbrev s_least_windows : Stmt := top 46
theorem sc_least_windows : FnScope ["text", "first", "last", "results", "texts", "_", "result", "all_ends", "entries", "told", "end", "begin", "most", "ends"] ["text", "first", "last", "results"] (defScope s_least_windows) := ⟨rfl, rfl, rfl, by decide +kernel, rfl, by decide +kernel, by decide +kernel⟩
theorem b_least_windows {f : Addr} {fd : FuncData} (F : Fun K "least_windows" "least_windows" s_least_windows f fd) (T : Txt mg) (c_stands_twice_in_one : CalG P w K mg base CX0 2 "stands_twice_in_one" spIn1) (c_kept_ends : CalG P w K mg base CX0 1 "kept_ends" spKept) : FnG P w K mg base CX0 3 f fd ["text", "first", "last", "results"] spLeastW := by
  refine okG0 F sc_least_windows (fun vs H Q E h => ?_) (fun cdv A outer s H vs Q E hg hr h => ?_)
  · obtain ⟨x, a, b, r, t, w, e, rfl, _⟩ := h
    rfl
  · have hu := hu_of hr
    have hu64 := hr.units
    obtain ⟨x, a, b, r, t, w, e, rfl, hx, ha, hb, hr0, ht, he, k⟩ := h
    have hr2 : Room 2 _ := hr
    have xl : x.length ≤ sizeLine := Nat.le_of_lt (fewL (by omega))
    refine ⟨_, (pss_cons (ps_set (i := 4) sc_least_windows.nd rfl (Or.inl rfl) (pe_callTy (call_list_dK rfl) (by rfl) T.list (by decide +kernel) (pa_cons (pe_dc (own := [("_", 5), ("result", 6)]) (g := (gTup K 3 (gCons (gName 5) (gCons (gName 6) (gCons (gName 5) gNil))))) (tt := tYes) rfl sc_least_windows.nd (pi_list (pv 3)) (blkOk_by (own := [("_", 5), ("result", 6)]) (N := ["text", "first", "last", "results", "texts", "_", "result", "all_ends", "entries", "told", "end", "begin", "most", "ends"]) (sc := defScope s_least_windows) (by decide +kernel)) (fun _ _ _ _ _ => (pg_tupK (K := K) rfl rfl (pgs_cons (pg_name (i := 5) sc_least_windows.nd rfl (Or.inl rfl)) (pgs_cons (pg_name (i := 6) sc_least_windows.nd rfl (Or.inl rfl)) (pgs_cons (pg_name (i := 5) sc_least_windows.nd rfl (Or.inl rfl)) pgs_nil))))) (fun _ _ _ _ _ => pts_nil) (fun _ _ _ _ _ => (pv 6)) (fun _ _ _ _ _ => pe_bl)) pa_nil)))
      (pss_cons (ps_setLc (i := 7) (own := [("_", 5), ("entries", 8)]) (g := (gTup K 3 (gCons (gName 5) (gCons (gName 5) (gCons (gName 8) gNil))))) (tt := tYes) rfl sc_least_windows.nd rfl rfl (sw_true rfl rfl rfl (by decide +kernel)) (pi_list (pv 3)) (blkOk_by (own := [("_", 5), ("entries", 8)]) (N := ["text", "first", "last", "results", "texts", "_", "result", "all_ends", "entries", "told", "end", "begin", "most", "ends"]) (sc := defScope s_least_windows) (by decide +kernel)) (fun _ _ _ _ _ => (pg_tupK (K := K) rfl rfl (pgs_cons (pg_name (i := 5) sc_least_windows.nd rfl (Or.inl rfl)) (pgs_cons (pg_name (i := 5) sc_least_windows.nd rfl (Or.inl rfl)) (pgs_cons (pg_name (i := 8) sc_least_windows.nd rfl (Or.inl rfl)) pgs_nil))))) (fun _ _ _ _ _ => pts_nil) (fun _ _ _ _ _ => (pe_cG c_kept_ends hg hr (by decide) pass0 (pa_cons (pv 8) (pa_cons (pe_callB (call_lenK (K := K) rfl) (by rfl) T.len (by decide +kernel) (pa_cons (pv 0) pa_nil)) pa_nil)))))
      (pss_cons (ps_set (i := 9) sc_least_windows.nd rfl (Or.inl rfl) (pe_lst pa_nil))
      (pss_cons (ps_set (i := 10) sc_least_windows.nd rfl (Or.inl rfl) pe_int)
      (pss_cons (ps_for PassesOwn.never rfl (pi_range1 rfl T.range (pa_cons (pe_callB (call_min2 rfl) (by rfl) T.min (by decide +kernel) (pa_cons (pe_op op_add (pv 1) pe_int) (pa_cons (pe_callB call_len (by rfl) T.len (by decide +kernel) (pa_cons (pv 0) pa_nil)) pa_nil))) pa_nil)) (pg_name (i := 11) sc_least_windows.nd rfl (Or.inr rfl)) (pss_cons (ps_set (i := 10) sc_least_windows.nd rfl (Or.inl rfl) (pe_callB (call_max3Nu rfl) (by rfl) T.max (by decide +kernel) (pa_cons (pv 10) (pa_cons (pe_op op_add (pv 11) pe_int) (pa_cons (pv 2) pa_nil)))))
      (pss_cons (ps_set (i := 12) sc_least_windows.nd rfl (Or.inl rfl) (pe_callB (cr_min rfl) (by rfl) T.min (by decide +kernel) (pa_cons (pe_lc (own := [("ends", 13)]) (g := gName 13) (tt := tYes) rfl sc_least_windows.nd (pi_list (pv 7)) (blkOk_by (own := [("ends", 13)]) (N := ["text", "first", "last", "results", "texts", "_", "result", "all_ends", "entries", "told", "end", "begin", "most", "ends"]) (sc := defScope s_least_windows) (by decide +kernel)) (fun _ _ _ _ _ => (pg_name (i := 13) sc_least_windows.nd rfl (Or.inl rfl))) (fun _ _ _ _ _ => pts_nil) (fun _ _ _ _ _ => (pe_ix (ix_seqK (K := K) rfl) (pv 13) (pv 11) (fun _ _ => rfl)))) pa_nil)))
      (pss_cons (ps_while PassesOwn.never (PW.pt (pw_and (pt_cmpR op_le (pv 10) (pv 12) (nomark _)) (pw_and1 (pt_val (pe_cG c_stands_twice_in_one hg hr (by decide) pass0 (pa_cons (pv 4) (pa_cons (pe_slice sl_str (pv 0) (po_some (pv 11)) (po_some (pv 10))) pa_nil))))))) (pss_one (ps_aug (i := 10) sc_least_windows.nd rfl (Or.inl rfl) pe_int ip_add)))
      (pss_one (ps_if (pt_cmpR op_le (pv 10) (pv 12) (nomark _)) (pss_cons (ps_if (PW.pt (pw_and (pt_truthK (K := K) rfl (pv 9)) (pw_and1 (pt_cmpR op_eq (pe_ix ix_seq (pe_ix ix_seq (pv 9) (pe_un un_neg pe_int) (fun _ _ => rfl)) pe_int (fun _ _ => rfl)) (pv 10) (nomark _))))) (pss_one (ps_expr (pe_bm0 PySem.F.plainAttrs_list PySem.F.slot_list_pop PySem.F.type_list_pop mt_pop (pv 9) ))) pss_nil)
      (pss_one (ps_expr (pe_bm PySem.F.plainAttrs_list PySem.F.slot_list_append PySem.F.type_list_append mt_append (pv 9) (pa_cons (pe_tup (pa_cons (pv 11) (pa_cons (pv 10) pa_nil))) pa_nil))))) pss_nil))))))
      (pss_one (ps_ret (pv 9)))))))), ?_⟩
    generalize hn : x.length = n at hx ha hb he k
    -- the texts
    refine ⟨_, rfl, r, rfl, ⟨_, SqL.of hr0⟩, fun D hD => ?_⟩
    have sD := same_new (o := .dK []) hD
    refine dc_list (K := K) (a := r) (xs := [.ref t]) (fun i H' => H' D = some (.dK (if i = 0 then [] else [(Sum.inr x, V.bl true)])) ∧ Same H H') ⟨upd_same, sD⟩ (fun i H' _ p => SqL.of (p.2 _ _ hr0)) (fun i v H' hv p => ?_) (fun H1 p => ?_)
    · obtain ⟨hDz, sm⟩ := p
      have hi := (List.getElem?_eq_some_iff.mp hv).1
      have i0 : i = 0 := by have : i < 1 := hi; omega
      subst i0
      cases hv
      refine ⟨t, _, rfl, SqT.of (sm _ _ ht), rfl, _, _, rfl, _, _, rfl, _, _, rfl, rfl, ?_⟩
      exact ⟨rfl, _, rfl, [], Sum.inr x, rfl, hDz, by show 0 < sizeLine; exact fewL (by decide), upd_same, upd_out hD sm⟩
    obtain ⟨hD1, s1⟩ : H1 D = some (.dK [(Sum.inr x, V.bl true)]) ∧ Same H H1 := p
    refine ⟨D, _, rfl, hD1, fun l1 hl1 => ?_⟩
    have ekv : List.map (fun kv : Sum Int Str × V => kV kv.1) [((Sum.inr x : Sum Int Str), V.bl true)] = [V.str x] := rfl
    rw [ekv]
    clear ekv
    have sl1 := same_new (o := .lst [.str x]) hl1
    have h2l : (upd H1 l1 (.lst [.str x])) l1 = some (.lst [.str x]) := upd_same
    have s2 := s1.trans sl1
    generalize upd H1 l1 (.lst [.str x]) = H2 at h2l s2 sl1
    -- where they end
    refine ⟨_, rfl, r, rfl, ⟨_, SqL.of (s2 _ _ hr0)⟩, fun D2 hD2 => ?_⟩
    have sD2 := same_new (o := .lst []) hD2
    refine lc_list (K := K) (a := r) (xs := [.ref t]) (fun i H' => ∃ us, H' D2 = some (.lst us) ∧ (i = 0 → us = []) ∧ (i = 1 → ∃ u, us = [.ref u] ∧ H' u = some (.lst (endsK n 0))) ∧ Same H2 H') ?_ ?_ ?_ ?_
    · exact ⟨[], upd_same, fun _ => rfl, (fun z => by cases z), sD2⟩
    · rintro i H' _ ⟨_, _, _, _, sm⟩
      exact SqL.of (sm _ _ (s2 _ _ hr0))
    · rintro i v H' hv ⟨us, hDz, u0, _, sm⟩
      have hi := (List.getElem?_eq_some_iff.mp hv).1
      have i0 : i = 0 := by have : i < 1 := hi; omega
      subst i0
      cases hv
      have s2m := s2.trans sm
      refine ⟨t, _, rfl, SqT.of (s2m _ _ ht), rfl, _, _, rfl, _, _, rfl, _, _, rfl, rfl, ?_⟩
      refine ⟨rfl, _, rfl, _, rfl, _, _, rfl, ⟨xl, rfl⟩, ?_⟩
      rw [hn]
      refine ⟨e, n, rfl, by omega, s2m _ _ he, fun u H'' hu0 hu s'' => ⟨us, s'' _ _ hDz, ?_, ?_⟩⟩
      · rw [u0 rfl]
        exact fewL (by decide)
      · have une : u ≠ D2 := (ne_of_none hDz hu0).symm
        refine ⟨_, upd_same, (fun z => by cases z), fun _ => ⟨u, by rw [u0 rfl]; rfl, (upd_ne une).trans hu⟩, upd_out hD2 (sm.trans s'')⟩
    rintro H3 ⟨us, hD3, _, u1, s23⟩
    obtain ⟨u, rfl, hu⟩ := u1 rfl
    have hl1 := s23 _ _ h2l
    have s03 := s2.trans s23
    refine ⟨by show 0 ≤ sizeLine; decide, fun lt hlt => ?_⟩
    have hlt0 := none_up s03 hlt
    have slt := same_new (o := .lst []) hlt
    refine ⟨_, rfl, _, _, rfl, rfl, _, rfl, _, _, rfl, ⟨xl, rfl⟩, _, _, rfl, _, rfl, ?_, ?_, ?_⟩
    · rw [hn]; split <;> omega
    · rw [hn]; split <;> omega
    rw [hn]
    have em : (if ((n : Nat) : Int) < ((a : Nat) : Int) + 1 then ((n : Nat) : Int) else ((a : Nat) : Int) + 1).toNat = min (a + 1) n := by split <;> omega
    rw [em]
    refine for_range (lo := 0) (n := min (a + 1) n) (fun j σ H' => ∃ (o5 o6 o8 o11 o12 o13 : Option V) (ys : List V), σ = [some (.str x), some (.int (a : Nat)), some (.int (b : Nat)), some (.ref r), some (.ref l1), o5, o6, some (.ref D2), o8, some (.ref lt), some (.int (endE x b j : Nat)), o11, o12, o13] ∧ H' lt = some (.lst ys) ∧ PrN H' ys (toldE x b j) ∧ Same H3 H') ?_ ?_ ?_
    · exact ⟨_, _, _, _, _, _, [], rfl, upd_same, .nil, slt⟩
    · rintro j σ H4 hj ⟨o5, o6, o8, o11, o12, o13, ys, rfl, hlt4, py4, s4⟩
      have hjn : j < n := by omega
      have gy := paired_len py4
      have gl := toldE_len (x := x) (b := b) (k := j)
      rw [Int.zero_add]
      have hmax : nuMax3 (.int ((endE x b j : Nat) : Int)) (.int (((j : Nat) : Int) + 1)) (.int ((b : Nat) : Int)) = some (.int ((max (endE x b j) (max (j + 1) b) : Nat) : Int)) := by
        rw [nuMax3_int]
        refine congrArg (fun z : Int => some (V.int z)) ?_
        omega
      refine ⟨_, rfl, _, rfl, _, _, rfl, rfl, _, rfl, _, _, _, _, rfl, hmax, ?_⟩
      -- the most
      refine ⟨_, rfl, D2, rfl, ⟨_, SqL.of (s4 _ _ hD3)⟩, fun D4 hD4 => ?_⟩
      have sD4 := same_new (o := .lst []) hD4
      refine lc_list (K := K) (a := D2) (xs := [.ref u]) (fun i H' => H' D4 = some (.lst (if i = 0 then [] else [V.int (n : Nat)])) ∧ Same H4 H') ?_ ?_ ?_ ?_
      · exact ⟨upd_same, sD4⟩
      · rintro i H' _ ⟨_, sm⟩
        exact SqL.of (sm _ _ (s4 _ _ hD3))
      · rintro i v H' hv ⟨hDz, sm⟩
        have hi := (List.getElem?_eq_some_iff.mp hv).1
        have i0 : i = 0 := by have : i < 1 := hi; omega
        subst i0
        cases hv
        have hu5 := (s4.trans sm) _ _ hu
        have ix : atI (endsK n 0) ((j : Nat) : Int) = some (V.int (n : Nat)) := atI_nat (ends_at (by omega) (Nat.zero_le _))
        refine ⟨rfl, _, rfl, _, rfl, .inl ⟨u, _, _, _, rfl, rfl, SqL.of hu5, ix, _, hDz, (by show 0 < sizeLine; exact fewL (by decide)), upd_same, upd_out hD4 sm⟩⟩
      rintro H5 pH5
      obtain ⟨hD5, s45⟩ : H5 D4 = some (.lst [V.int (n : Nat)]) ∧ Same H4 H5 := pH5
      refine ⟨D4, [(n : Int)], rfl, SqL.of hD5, Nat.zero_lt_one, fun mi hm _ => ?_⟩
      have emi : mi = (n : Int) := List.mem_singleton.mp hm
      subst emi
      have hlt5 := s45 _ _ hlt4
      have py5 := py4.keep s45
      have s35 := s4.trans s45
      have hl5 := s35 _ _ hl1
      clear py4 hlt4
      have hR : endE x b (j + 1) = lendF x j (x.length + 1) (max (endE x b j) (max (j + 1) b)) := rfl
      rw [hn] at hR
      have tE : toldE x b (j + 1) = if endE x b (j + 1) ≤ x.length then popE (toldE x b j) (endE x b (j + 1)) ++ [(j, endE x b (j + 1))] else toldE x b j := rfl
      rw [hn] at tE
      have mgt : j < max (endE x b j) (max (j + 1) b) := by omega
      generalize max (endE x b j) (max (j + 1) b) = m0 at hR mgt
      generalize endE x b (j + 1) = R at hR tE
      refine ⟨fun m σ H' => ∃ ee f, σ = [some (.str x), some (.int (a : Nat)), some (.int (b : Nat)), some (.ref r), some (.ref l1), o5, o6, some (.ref D2), o8, some (.ref lt), some (.int (ee : Nat)), some (.int (j : Nat)), some (.int (n : Nat)), o13] ∧ H' = H5 ∧ lendF x j f ee = R ∧ n + 1 ≤ ee + f ∧ j < ee ∧ m = n + 1 - ee, ⟨n + 1 - m0, m0, n + 1, rfl, rfl, hR.symm, by omega, mgt, rfl⟩, ?_⟩
      rintro m σ H6 ⟨ee, f6, rfl, rfl, eR, ef, ie, rfl⟩
      refine ⟨_, rfl, _, rfl, _, _, rfl, rfl, _, rfl, ?_⟩
      by_cases cond : ee ≤ x.length ∧ twB x j ee = true
      · rw [decide_eq_true (show ((ee : Nat) : Int) ≤ ((n : Nat) : Int) by omega)]
        refine iteT ⟨_, rfl, _, rfl, _, rfl, _, rfl, _, rfl, _, rfl, x, rfl, xl, l1, x, _, rfl, hl5, _, rfl, ?_⟩
        rw [show decide (2 ≤ (plc x (cutS x (some ((j : Nat) : Int)) (some ((ee : Nat) : Int)))).length) = twB x j ee from rfl, cond.2]
        refine iteT ⟨fun σ' H' => σ' = [some (.str x), some (.int (a : Nat)), some (.int (b : Nat)), some (.ref r), some (.ref l1), o5, o6, some (.ref D2), o8, some (.ref lt), some (.int ((ee + 1 : Nat) : Int)), some (.int (j : Nat)), some (.int (n : Nat)), o13] ∧ H' = H6, ?_, ?_⟩
        · rintro σ' H' ⟨rfl, rfl⟩
          cases f6 with
          | zero => omega
          | succ f => exact ⟨_, (by omega : n + 1 - (ee + 1) < n + 1 - ee), ee + 1, f, rfl, rfl, (lendF_step cond).symm.trans eR, by omega, by omega, rfl⟩
        · exact ⟨_, rfl, _, _, rfl, rfl, rfl, rfl⟩
      · have eq : ee = R := by rw [← eR, lendF_stop cond]
        refine' or_both (R := ?oR) ?oa ?ob ?oc
        case oa =>
          intro hc hR
          refine ⟨_, rfl, _, rfl, _, rfl, _, rfl, _, rfl, _, rfl, x, rfl, xl, l1, x, _, rfl, hl5, _, rfl, ?_⟩
          have el2 : ee ≤ x.length := by rw [hn]; exact Int.ofNat_le.mp (of_decide_eq_true hc)
          rw [show decide (2 ≤ (plc x (cutS x (some ((j : Nat) : Int)) (some ((ee : Nat) : Int)))).length) = twB x j ee from rfl]
          cases q : twB x j ee with
          | true => exact absurd ⟨el2, q⟩ cond
          | false =>
            refine iteF ?_
            exact hR
        case ob =>
          intro hc hR
          exact hR
        case oc =>
          subst eq
          refine ⟨_, rfl, _, rfl, _, _, rfl, rfl, _, rfl, ?_⟩
          by_cases c : ee ≤ n
          · rw [decide_eq_true (show ((ee : Nat) : Int) ≤ ((n : Nat) : Int) by omega)]
            rw [if_pos c] at tE
            refine iteT ?_
            refine ⟨_, rfl, _, .inl ⟨_, SqL.of hlt5, rfl⟩, ?_⟩
            clear hD5 s45 hl5
            refine' or_bothH (R := ?oS) (fun H' => ∃ zs, H' lt = some (.lst zs) ∧ PrN H' zs (popE (toldE x b j) ee) ∧ Same H3 H' ∧ zs.length ≤ j) ?k0 ?k1 ?k2
            case k2 =>
              intro hc hR
              rcases prn_last py5 with ⟨ey, ew⟩ | ⟨ys', ws', t', p', ey, ew, py', ht'⟩
              · refine iteF ?_
                refine hR H6 ⟨ys, hlt5, ?_, s35, by rw [gy]; exact gl⟩
                rw [ew, ey]
                exact .nil
              · rw [ey] at hc
                rw [List.isEmpty_eq_false_iff.mpr (fun z => by have := congrArg List.length z; rw [List.length_append] at this; exact absurd this (Nat.succ_ne_zero _))] at hc
                cases hc
            case k1 =>
              intro hc hR
              rcases prn_last py5 with ⟨ey, ew⟩ | ⟨ys', ws', t', p', ey, ew, py', ht'⟩
              · rw [ey] at hc
                cases hc
              · have lz : ys'.length ≤ j := by
                  have := congrArg List.length ey
                  rw [List.length_append, List.length_singleton, gy] at this
                  exact Nat.le_trans (Nat.le_succ _) (Nat.le_trans (Nat.le_of_eq this.symm) gl)
                have lst : ys[ys'.length]? = some (.ref t') := by
                  rw [ey, List.getElem?_append_right (Nat.le_refl _), Nat.sub_self]
                  rfl
                have ln : ys.length = ys'.length + 1 := by rw [ey, List.length_append]; rfl
                refine ⟨_, rfl, _, rfl, .inl ⟨lt, _, _, _, rfl, rfl, SqL.of hlt5, atI_end lst ln, .inr (.inl ⟨t', _, _, _, rfl, rfl, SqT.of ht', rfl, _, rfl, rfl, _, rfl, ?_⟩)⟩⟩
                by_cases hp : p'.2 = ee
                · rw [decide_eq_true (congrArg (fun z : Nat => V.int (z : Int)) hp)]
                  refine iteT ⟨_, rfl, .inl ⟨rfl, _, SqL.of hlt5⟩, lt, ys, .ref t', rfl, rfl, hlt5, (by rw [ln]; exact lst), ?_⟩
                  refine hR _ ⟨ys', ?_, ?_, upd_out hlt s35, lz⟩
                  · rw [upd_same, ey, List.dropLast_concat]
                  · rw [ew, popE_snoc, if_pos hp]
                    exact py'.keepT (upd_list hlt5)
                · rw [decide_eq_false (show ¬ V.int ((p'.2 : Nat) : Int) = V.int ((ee : Nat) : Int) from fun z => hp (Int.ofNat.inj (V.int.inj z)))]
                  refine iteF ?_
                  refine hR H6 ⟨ys, hlt5, ?_, s35, by rw [gy]; exact gl⟩
                  rw [ew, popE_snoc, if_neg hp, ← ew]
                  exact py5
            case k0 =>
              rintro H7 ⟨zs, hz, pz, sz, lz⟩
              refine ⟨_, rfl, .inl ⟨rfl, _, SqL.of hz⟩, _, rfl, _, rfl, by show 2 ≤ sizeLine; decide, fun u hu => ?_⟩
              have su := same_new (o := .tup [.int ((j : Nat) : Int), .int ((ee : Nat) : Int)]) hu
              have hz' := su _ _ hz
              refine ⟨lt, _, _, rfl, rfl, hz', fewL (by omega), ?_⟩
              refine ⟨_, _, _, _, _, _, zs ++ [.ref u], rfl, upd_same, ?_, upd_out hlt (sz.trans su)⟩
              rw [tE]
              exact Paired.snoc ((pz.keep su).keepT (upd_list hz')) ⟨u, rfl, upd_list hz' _ _ upd_same⟩
          · rw [decide_eq_false (show ¬ ((ee : Nat) : Int) ≤ ((n : Nat) : Int) by omega)]
            rw [if_neg c] at tE
            refine iteF ⟨_, _, _, _, _, _, ys, rfl, hlt5, ?_, s35⟩
            rw [tE]
            exact py5
    · rintro σ H4 ⟨o5, o6, o8, o11, o12, o13, ys, rfl, hlt4, py4, s4⟩
      exact ⟨_, rfl, k lt ys H4 hlt0 hlt4 py4 (s03.trans s4)⟩

end
end Vk
set_option Elab.async false
set_option maxRecDepth 100000
set_option linter.all false
set_option maxHeartbeats 4000000
namespace Vk
open PySem PySem.Spec PyProof.Rows L2
section
variable {P : Program} {w : World} {K : PySem.W.Frag} {mg : Str → Option Value} {base : Heap}
theorem lend_gen {x : Str} {a : Nat} : ∀ (f e : Nat), x.length + 1 ≤ e + f →
    e ≤ lendF x a f e ∧ (∀ b, e ≤ b → b < lendF x a f e → b ≤ x.length → twB x a b = true) ∧ (lendF x a f e ≤ x.length → twB x a (lendF x a f e) = false) ∧ (e ≤ x.length + 1 → lendF x a f e ≤ x.length + 1)
  | 0, e, h1 => ⟨Nat.le_refl _, fun b b1 b2 _ => by rw [lendF] at b2; omega, fun h => by rw [lendF] at h; omega, fun h => h⟩
  | f + 1, e, h1 => by
    rw [lendF]
    split
    · rename_i c
      obtain ⟨s1, s2, s3, s4⟩ := lend_gen (x := x) (a := a) f (e + 1) (by omega)
      refine ⟨by omega, fun b b1 b2 b3 => ?_, s3, fun _ => s4 (by omega)⟩
      by_cases be : b = e
      · rw [be]; exact c.2
      · exact s2 b (by omega) b2 b3
    · rename_i c
      refine ⟨Nat.le_refl _, fun b b1 b2 _ => by omega, fun h => ?_, fun h => h⟩
      cases e2 : twB x a e with
      | false => rfl
      | true => exact absurd ⟨h, e2⟩ c
theorem endE_up {x : Str} {b k : Nat} : endE x b k ≤ endE x b (k + 1) := by
  have := (lend_gen (x := x) (a := k) (x.length + 1) (max (endE x b k) (max (k + 1) b)) (by omega)).1
  have e : endE x b (k + 1) = lendF x k (x.length + 1) (max (endE x b k) (max (k + 1) b)) := rfl
  rw [e]
  omega
theorem endE_mono {x : Str} {b i : Nat} : ∀ {j : Nat}, i ≤ j → endE x b i ≤ endE x b j
  | 0, h => by rw [Nat.le_zero.mp h]; exact Nat.le_refl _
  | j + 1, h => by
    by_cases e : i = j + 1
    · rw [e]; exact Nat.le_refl _
    · exact Nat.le_trans (endE_mono (by omega)) endE_up
theorem twB_less {x : Str} {a c e : Nat} (h : twB x a e = true) (h1 : a ≤ c) (h2 : c ≤ e) (h3 : e ≤ x.length) : twB x c e = true :=
  (twB_iff h2 h3).mpr (((twB_iff (by omega) h3).mp h).less h1 h2 (Nat.le_refl _))
theorem twB_more {x : Str} {a c e : Nat} (h : twB x a c = false) (h1 : a ≤ c) (h2 : c ≤ e) (h3 : e ≤ x.length) : twB x a e = false := by
  cases q : twB x a e with
  | false => rfl
  | true =>
    have := (twB_iff h1 (by omega)).mpr (((twB_iff (by omega) h3).mp q).less (Nat.le_refl _) h1 h2)
    rw [h] at this
    cases this
theorem endE_spec {x : Str} {b : Nat} (hb : b ≤ x.length) : ∀ {k : Nat}, k < x.length →
    max b (k + 1) ≤ endE x b (k + 1) ∧ endE x b (k + 1) ≤ x.length + 1 ∧ (∀ c, max b (k + 1) ≤ c → c < endE x b (k + 1) → c ≤ x.length → twB x k c = true) ∧ (endE x b (k + 1) ≤ x.length → twB x k (endE x b (k + 1)) = false) := by
  intro k hk
  have prev : endE x b k ≤ x.length + 1 ∧ ∀ c, max b (k + 1) ≤ c → c < endE x b k → c ≤ x.length → twB x k c = true := by
    cases k with
    | zero => exact ⟨Nat.zero_le _, fun c _ h _ => absurd h (Nat.not_lt_zero _)⟩
    | succ j =>
      obtain ⟨p1, p2, p3, p4⟩ := endE_spec hb (k := j) (by omega)
      exact ⟨p2, fun c c1 c2 c3 => twB_less (p3 c (by omega) c2 c3) (by omega) (by omega) c3⟩
  obtain ⟨q1, q2⟩ := prev
  obtain ⟨s1, s2, s3, s4⟩ := lend_gen (x := x) (a := k) (x.length + 1) (max (endE x b k) (max (k + 1) b)) (by omega)
  have e : endE x b (k + 1) = lendF x k (x.length + 1) (max (endE x b k) (max (k + 1) b)) := rfl
  rw [← e] at s1 s2 s3 s4
  refine ⟨by omega, s4 (by omega), fun c c1 c2 c3 => ?_, s3⟩
  by_cases hc : c < endE x b k
  · exact q2 c c1 hc c3
  · exact s2 c (by omega) c2 c3
theorem mem_around {n b k : Nat} {p : Nat × Nat} : p ∈ aroundW n b k ↔ p.1 < k ∧ max b (p.1 + 1) ≤ p.2 ∧ p.2 ≤ n := by
  unfold aroundW
  rw [List.mem_flatMap]
  constructor
  · rintro ⟨i, hi, h⟩
    obtain ⟨e, he, rfl⟩ := List.mem_map.mp h
    have := List.mem_range'_1.mp he
    exact ⟨List.mem_range.mp hi, this.1, by show e ≤ n; omega⟩
  · rintro ⟨h1, h2, h3⟩
    exact ⟨p.1, List.mem_range.mpr h1, List.mem_map.mpr ⟨p.2, List.mem_range'_1.mpr ⟨h2, by omega⟩, rfl⟩⟩
abbrev onceW (x : Str) (a b : Nat) : List (Nat × Nat) := (aroundW x.length b (a + 1)).filter fun p => !twB x p.1 p.2
theorem mem_onceW {x : Str} {a b : Nat} (hb : b ≤ x.length) {p : Nat × Nat} : p ∈ onceW x a b ↔ p.1 < min (a + 1) x.length ∧ endE x b (p.1 + 1) ≤ p.2 ∧ p.2 ≤ x.length := by
  unfold onceW
  rw [List.mem_filter, mem_around]
  constructor
  · rintro ⟨⟨h1, h2, h3⟩, h4⟩
    have hn : p.1 < x.length := by omega
    refine ⟨by omega, Nat.le_of_not_lt fun q => ?_, h3⟩
    rw [(endE_spec hb hn).2.2.1 p.2 h2 q h3] at h4
    cases h4
  · rintro ⟨h1, h2, h3⟩
    have hn : p.1 < x.length := by omega
    obtain ⟨s1, s2, s3, s4⟩ := endE_spec hb hn
    refine ⟨⟨by omega, by omega, h3⟩, ?_⟩
    rw [twB_more (s4 (by omega)) (by omega) h2 h3]
    rfl
theorem mem_winW {x : Str} {a b : Nat} (hb : b ≤ x.length) {p : Nat × Nat} : p ∈ winW x a b ↔ p.1 < min (a + 1) x.length ∧ p.2 = endE x b (p.1 + 1) ∧ p.2 ≤ x.length ∧ ∀ i, p.1 < i → i < min (a + 1) x.length → endE x b (i + 1) ≠ endE x b (p.1 + 1) := by
  show p ∈ (onceW x a b).filter (fun s => ((onceW x a b).filter (innerB s)).isEmpty) ↔ _
  rw [List.mem_filter, List.isEmpty_iff, List.filter_eq_nil_iff, mem_onceW hb]
  have inn : ∀ q : Nat × Nat, innerB p q = true ↔ q ≠ p ∧ p.1 ≤ q.1 ∧ q.2 ≤ p.2 := fun q => by
    unfold innerB
    rw [Bool.and_eq_true, Bool.and_eq_true, decide_eq_true_eq, decide_eq_true_eq, decide_eq_true_eq]
  constructor
  · rintro ⟨⟨h1, h2, h3⟩, h4⟩
    have e : p.2 = endE x b (p.1 + 1) := by
      refine Classical.byContradiction fun ne => ?_
      refine h4 (p.1, endE x b (p.1 + 1)) ((mem_onceW hb).mpr ⟨h1, Nat.le_refl _, by show endE x b (p.1 + 1) ≤ _; omega⟩) ((inn _).mpr ⟨fun z => ne (congrArg Prod.snd z).symm, Nat.le_refl _, h2⟩)
    refine ⟨h1, e, h3, fun i i1 i2 i3 => ?_⟩
    refine h4 (i, endE x b (i + 1)) ((mem_onceW hb).mpr ⟨i2, Nat.le_refl _, by show endE x b (i + 1) ≤ _; omega⟩) ((inn _).mpr ⟨fun z => ?_, Nat.le_of_lt i1, by show endE x b (i + 1) ≤ _; omega⟩)
    have : i = p.1 := congrArg Prod.fst z
    omega
  · rintro ⟨h1, e, h3, h4⟩
    refine ⟨⟨h1, Nat.le_of_eq e.symm, h3⟩, fun q hq hi => ?_⟩
    obtain ⟨i1, i2, i3⟩ := (inn q).mp hi
    obtain ⟨q1, q2, q3⟩ := (mem_onceW hb).mp hq
    have mo := endE_mono (x := x) (b := b) (show p.1 + 1 ≤ q.1 + 1 by omega)
    by_cases c : p.1 = q.1
    · refine i1 (Prod.ext c.symm ?_)
      rw [c] at e mo
      omega
    · exact h4 q.1 (by omega) q1 (by omega)
theorem asc_eq : ∀ {l1 l2 : List (Nat × Nat)}, l1.Pairwise (fun p q => p.1 < q.1) → l2.Pairwise (fun p q => p.1 < q.1) → (∀ p, p ∈ l1 ↔ p ∈ l2) → l1 = l2
  | [], [], _, _, _ => rfl
  | [], q :: _, _, _, h => absurd ((h q).mpr List.mem_cons_self) (List.not_mem_nil)
  | p :: _, [], _, _, h => absurd ((h p).mp List.mem_cons_self) (List.not_mem_nil)
  | p :: t1, q :: t2, h1, h2, h => by
    have c1 := List.pairwise_cons.mp h1
    have c2 := List.pairwise_cons.mp h2
    have e : p = q := by
      rcases List.mem_cons.mp ((h p).mp List.mem_cons_self) with e | m
      · exact e
      · rcases List.mem_cons.mp ((h q).mpr List.mem_cons_self) with e | m2
        · exact e.symm
        · have := c2.1 p m
          have := c1.1 q m2
          omega
    subst e
    rw [asc_eq c1.2 c2.2 fun r => ?_]
    constructor
    · intro m
      rcases List.mem_cons.mp ((h r).mp (List.mem_cons_of_mem _ m)) with e | m2
      · have := c1.1 r m
        rw [e] at this
        omega
      · exact m2
    · intro m
      rcases List.mem_cons.mp ((h r).mpr (List.mem_cons_of_mem _ m)) with e | m2
      · have := c2.1 r m
        rw [e] at this
        omega
      · exact m2
theorem around_asc {n b : Nat} : ∀ {k : Nat}, (aroundW n b k).Pairwise (fun p q => p.1 < q.1 ∨ (p.1 = q.1 ∧ p.2 < q.2))
  | 0 => by simp [aroundW]
  | k + 1 => by
    rw [aroundW_succ, List.pairwise_append]
    refine ⟨around_asc, ?_, fun p hp q hq => ?_⟩
    · rw [List.pairwise_map]
      exact (List.pairwise_lt_range').imp fun h => .inr ⟨rfl, h⟩
    · obtain ⟨e, he, rfl⟩ := List.mem_map.mp hq
      exact .inl (aroundW_mem hp).2.2
theorem winW_asc {x : Str} {a b : Nat} (hb : b ≤ x.length) : (winW x a b).Pairwise (fun p q => p.1 < q.1) := by
  have h : (winW x a b).Pairwise (fun p q => p.1 < q.1 ∨ (p.1 = q.1 ∧ p.2 < q.2)) := (around_asc.filter _).filter _
  refine h.imp_of_mem fun {p q} hp hq r => ?_
  rcases r with r | ⟨r1, r2⟩
  · exact r
  · have e1 := ((mem_winW hb).mp hp).2.1
    have e2 := ((mem_winW hb).mp hq).2.1
    rw [r1] at e1
    omega
theorem toldE_spec {x : Str} {b : Nat} : ∀ {k : Nat}, (toldE x b k).Pairwise (fun p q => p.1 < q.1) ∧ ∀ p : Nat × Nat, p ∈ toldE x b k ↔ p.1 < k ∧ p.2 = endE x b (p.1 + 1) ∧ p.2 ≤ x.length ∧ ∀ i, p.1 < i → i < k → endE x b (i + 1) ≠ endE x b (p.1 + 1)
  | 0 => ⟨.nil, fun p => ⟨fun h => (by cases h), fun h => absurd h.1 (Nat.not_lt_zero _)⟩⟩
  | k + 1 => by
    obtain ⟨hp, hm⟩ := toldE_spec (x := x) (b := b) (k := k)
    have tE : toldE x b (k + 1) = if endE x b (k + 1) ≤ x.length then popE (toldE x b k) (endE x b (k + 1)) ++ [(k, endE x b (k + 1))] else toldE x b k := rfl
    rw [tE]
    have mo : ∀ i, i < k → endE x b (i + 1) ≤ endE x b (k + 1) := fun i hi => endE_mono (by omega)
    by_cases c : endE x b (k + 1) ≤ x.length
    · rw [if_pos c]
      have pop : (popE (toldE x b k) (endE x b (k + 1))).Pairwise (fun p q => p.1 < q.1) ∧ ∀ p : Nat × Nat, p ∈ popE (toldE x b k) (endE x b (k + 1)) ↔ p ∈ toldE x b k ∧ p.2 ≠ endE x b (k + 1) := by
        rcases List.eq_nil_or_concat (toldE x b k) with h0 | ⟨W, q, h0⟩
        · rw [h0]
          exact ⟨.nil, fun p => ⟨fun h => (by cases h), fun h => h.1⟩⟩
        · rw [List.concat_eq_append] at h0
          rw [h0] at hp hm
          rw [h0, popE_snoc]
          have pa := List.pairwise_append.mp hp
          have hq := (hm q).mp (List.mem_append_right _ List.mem_cons_self)
          have low : ∀ p ∈ W, p.2 ≠ endE x b (k + 1) := fun p m z => by
            have h1 := pa.2.2 p m q List.mem_cons_self
            have h2 := (hm p).mp (List.mem_append_left _ m)
            have h3 := endE_mono (x := x) (b := b) (show p.1 + 1 ≤ q.1 + 1 by omega)
            have h4 := mo q.1 hq.1
            exact h2.2.2.2 q.1 h1 hq.1 (by omega)
          split
          · rename_i hqe
            refine ⟨pa.1, fun p => ⟨fun m => ⟨List.mem_append_left _ m, low p m⟩, fun m => ?_⟩⟩
            rcases List.mem_append.mp m.1 with m1 | m1
            · exact m1
            · rw [List.mem_singleton.mp m1] at m
              exact absurd hqe m.2
          · rename_i hqe
            refine ⟨hp, fun p => ⟨fun m => ⟨m, ?_⟩, fun m => m.1⟩⟩
            rcases List.mem_append.mp m with m1 | m1
            · exact low p m1
            · rw [List.mem_singleton.mp m1]
              exact hqe
      refine ⟨List.pairwise_append.mpr ⟨pop.1, List.pairwise_singleton _ _, fun p m q m2 => ?_⟩, fun p => ?_⟩
      · rw [List.mem_singleton.mp m2]
        exact ((hm p).mp ((pop.2 p).mp m).1).1
      · rw [List.mem_append, pop.2 p, hm p, List.mem_singleton]
        constructor
        · rintro (⟨⟨h1, h2, h3, h4⟩, h5⟩ | rfl)
          · refine ⟨by omega, h2, h3, fun i i1 i2 => ?_⟩
            by_cases ik : i = k
            · rw [ik, ← h2]
              exact fun z => h5 z.symm
            · exact h4 i i1 (by omega)
          · exact ⟨Nat.lt_succ_self _, rfl, c, fun i i1 i2 => absurd (show k < i from i1) (by omega)⟩
        · rintro ⟨h1, h2, h3, h4⟩
          by_cases pk : p.1 = k
          · exact .inr (Prod.ext pk (by rw [h2, pk]))
          · refine .inl ⟨⟨by omega, h2, h3, fun i i1 i2 => h4 i i1 (by omega)⟩, fun z => ?_⟩
            exact h4 k (by omega) (Nat.lt_succ_self _) (by omega)
    · rw [if_neg c]
      refine ⟨hp, fun p => ?_⟩
      rw [hm p]
      constructor
      · rintro ⟨h1, h2, h3, h4⟩
        refine ⟨by omega, h2, h3, fun i i1 i2 => ?_⟩
        by_cases ik : i = k
        · rw [ik]; omega
        · exact h4 i i1 (by omega)
      · rintro ⟨h1, h2, h3, h4⟩
        have pk : p.1 ≠ k := fun z => by rw [z] at h2; omega
        exact ⟨by omega, h2, h3, fun i i1 i2 => h4 i i1 (by omega)⟩
theorem told_win {x : Str} {a b : Nat} (hb : b ≤ x.length) : toldE x b (min (a + 1) x.length) = winW x a b :=
  asc_eq toldE_spec.1 (winW_asc hb) fun p => (toldE_spec.2 p).trans (mem_winW hb).symm
def spWins (CS : Addr) : Sp := fun vs H Q E => ∃ x v1 d1 v2 d2, vs = [.str x, v1, v2] ∧ Th H v1 d1 ∧ Th H v2 d2 ∧ x.length ≤ 20 ∧ (inI d1 0 x.length = false → ∀ d, H d = none → E (.ref CS) (some d) (upd H d (.xd [(("value" : Str), v1)]))) ∧
  (∀ i, d1 = .int i → 0 ≤ i → i ≤ x.length → inI d2 i x.length = false → ∀ d, H d = none → E (.ref CS) (some d) (upd H d (.xd [(("value" : Str), v2)]))) ∧
  (∀ a b : Nat, d1 = .int a → d2 = .int b → a ≤ b → b ≤ x.length → ∀ (l : Addr) (ys : List V) H', H l = none → H' l = some (.lst ys) → PrN H' ys (winW x a b) → Same H H' → Q (.ref l) H')
abbrev s_windows : Stmt := top 47
theorem sc_windows : FnScope ["text", "first", "last"] ["text", "first", "last"] (defScope s_windows) := ⟨rfl, rfl, rfl, by decide +kernel, rfl, by decide +kernel, by decide +kernel⟩
theorem b_windows {f : Addr} {fd : FuncData} (F : Fun K "windows" "windows" s_windows f fd) (T : Txt mg) (c_all_results : CalG P w K mg base CX0 2 "all_results" spResults) (c_least_windows : CalG P w K mg base CX0 3 "least_windows" spLeastW) (c_check_spot : CalG P w K mg base (L2.CX P w) 3 "check_spot" (spCkSpot C_InvalidSpot)) : FnG P w K mg base (L2.CX P w) 4 f fd ["text", "first", "last"] (spWins C_InvalidSpot) := by
  refine okG F sc_windows (fun vs H Q E h => ?_) (fun cdv A outer s H vs Q E hg hr h => ?_)
  · obtain ⟨x, v1, d1, v2, d2, rfl, _⟩ := h
    rfl
  · have hu := hu_of hr
    have hu64 := hr.units
    obtain ⟨x, v1, d1, v2, d2, rfl, t1, t2, hx, k1, k2, k3⟩ := h
    refine ⟨_, (pss_cons (ps_expr (pe_cG c_check_spot hg hr (by decide) (passes_call (takes_of rfl rfl rfl rfl) (fun _ _ _ _ h => h)) (pa_cons (pv 0) (pa_cons (pv 1) (pa_cons (pv 2) pa_nil)))))
      (pss_one (ps_ret (pe_cG c_least_windows hg hr (by decide) pass0 (pa_cons (pv 0) (pa_cons (pv 1) (pa_cons (pv 2) (pa_cons (pe_cG c_all_results hg hr (by decide) pass0 (pa_cons (pv 0) (pa_cons (pe_lst pa_nil) pa_nil))) pa_nil)))))))), ?_⟩
    refine ⟨_, rfl, _, rfl, _, rfl, x, v1, d1, v2, d2, rfl, t1, t2, by omega, k1, k2, fun i j e1 e2 i0 i1 i2 => ?_⟩
    subst e1 e2
    cases th_int t1
    cases th_int t2
    obtain ⟨a, rfl⟩ : ∃ a : Nat, i = (a : Nat) := ⟨i.toNat, by omega⟩
    obtain ⟨b, rfl⟩ : ∃ b : Nat, j = (b : Nat) := ⟨j.toNat, by omega⟩
    have hab : a ≤ b := by omega
    have hbn : b ≤ x.length := by omega
    refine ⟨_, rfl, _, rfl, _, rfl, _, rfl, by show 0 ≤ sizeLine; decide, fun ed hed => ?_⟩
    have sed := same_new (o := .lst []) hed
    refine ⟨x, ed, rfl, by omega, upd_same, fun l t w e H' hl hl2 ht he s' => ?_⟩
    refine ⟨x, a, b, l, t, w, e, rfl, hx, by omega, hbn, hl2, ht, he, fun l2 ys H'' hl3 hl4 py s'' => ?_⟩
    rw [told_win hbn] at py
    exact k3 a b rfl rfl hab hbn l2 ys H'' (none_up (sed.trans s') hl3) hl4 py ((sed.trans s').trans s'')

end
end Vk
set_option Elab.async false
set_option maxRecDepth 100000
set_option maxHeartbeats 4000000
set_option linter.all false
namespace Vk
open PySem PySem.Spec PyProof.Rows L2
/-! ## != of a list and the empty list -/
def rNeNil (K : PySem.W.Frag) : R2 := fun x y H Q => ∃ a xs b, x = .ref a ∧ y = .ref b ∧ SqL K H a xs ∧ SqL K H b [] ∧ Q (.bl (!decide (xs.length = 0))) H
theorem op_neNil {X : Cx} (hu : X.A.units + 64 < cLine) : OpR X (compareOp .NotEq) (rNeNil X.K) := by
  intro pins s σ H x y v u Q I rx ry h
  obtain ⟨a, xs, b, rfl, rfl, ha, hb, q⟩ := h
  cases (show v = Value.ref a from rx)
  cases (show u = Value.ref b from ry)
  obtain ⟨us, r1, p1, _⟩ := I.list ha
  obtain ⟨ws, r2, p2, _⟩ := I.list hb
  cases r2
  cases xs with
  | nil =>
    cases r1
    exact (SeqAt.RcNeAt.lists (e := fun _ => true) p1.isList p2.isList rfl (by omega) (fun j h1 h2 => absurd h1 (by simp))) _ _ _ _ ⟨.bl false, H, I, rfl, q⟩
  | cons y ys =>
    cases r1 with
    | cons r rs => exact (SeqAt.RcNeAt.lists_lengths p1.isList p2.isList (by simp) (by omega)) _ _ _ _ ⟨.bl true, H, I, rfl, q⟩
end Vk
set_option Elab.async false
set_option maxRecDepth 100000
set_option linter.all false
set_option maxHeartbeats 4000000
namespace Vk
open PySem PySem.Spec PyProof.Rows L2 LamX NdefX StX
section
variable {P : Program} {w : World} {K : PySem.W.Frag} {mg : Str → Option Value} {base : Heap}
theorem seq_at {m : Int} {n : Nat} (h0 : 0 ≤ m) (h1 : m < n) : seqIndex? m n = some m.toNat := by
  unfold seqIndex?
  simp only [ge_iff_le]
  split <;> first | rfl | omega | (split <;> first | rfl | omega) | (simp; omega)
theorem perm_erase : ∀ {xs : List V} {k : Nat} (h : k < xs.length), List.Perm (xs[k] :: xs.eraseIdx k) xs
  | _ :: _, 0, _ => List.Perm.refl _
  | y :: ys, k + 1, h => (List.Perm.swap y _ _).trans (List.Perm.cons y (perm_erase (xs := ys) (k := k) (Nat.lt_of_succ_lt_succ h)))
abbrev s_lshuffled : Stmt := top 52
theorem sc_lshuffled : FnScope ["_law_pen_here", "_law_items", "_law_left", "_law_found"] ["_law_pen_here", "_law_items"] (defScope s_lshuffled) := ⟨rfl, rfl, rfl, by decide +kernel, rfl, by decide +kernel, by decide +kernel⟩
end
end Vk
set_option Elab.async false
set_option maxRecDepth 100000
set_option linter.all false
namespace Vk
open PySem PySem.Spec PyProof.Rows L2
/-- the letters of a text, one by one -/
def onesL (x : Str) : List Str := x.cps.toList.map fun c => (⟨#[c]⟩ : Str)
theorem onesL_len (x : Str) : (onesL x).length = x.length := by
  unfold onesL
  rw [List.length_map]
  exact Array.length_toList
theorem signs_are : ∀ (cs : List Nat) (vs : List Value), vs.length = cs.length → (∀ (i : Nat) (v : Value), vs[i]? = some v → ∃ c u, cs[i]? = some c ∧ v = Value.str ⟨#[c]⟩ u) → StrsAre vs (cs.map fun c => (⟨#[c]⟩ : Str))
  | [], [], _, _ => .nil
  | c :: cs, v :: vs, hl, h => by
    obtain ⟨c', u, e, ev⟩ := h 0 v rfl
    cases e
    subst ev
    exact .cons _ u (signs_are cs vs (Nat.succ.inj hl) fun i v' e => h (i + 1) v' e)
theorem signs_str {x : Str} {acc : Array Value} (h : ItemsOf (SignAt x) acc x.cps.size) : StrsAre acc.toList (onesL x) := by
  refine signs_are _ _ ?_ fun i v e => ?_
  · rw [Array.length_toList, Array.length_toList]
    exact h.1
  · obtain ⟨c, u, ec, ev⟩ := h.2 i v (by rw [← Array.getElem?_toList]; exact e)
    exact ⟨c, u, by rw [Array.getElem?_toList]; exact ec, ev⟩
section
variable {X : Cx}
/-- list(x), x a text -/
def rListStr : List V → Hp → VK → Prop := fun vs H Q => ∃ x : Str, vs = [V.str x] ∧ x.length ≤ sizeLine ∧ ∀ l, H l = none → Q (.ref l) (upd H l (.lst ((onesL x).map V.str)))
theorem call_list_ofStr (hc : X.calm = true) : CallR X (.type "list") rListStr := by
  intro pins s σ H vs us Q I r h
  obtain ⟨x, rfl, hx, q⟩ := h
  obtain ⟨u, rfl, rx⟩ := vals1 r
  obtain ⟨t, rfl⟩ := rx
  refine call_list_str (I.ok.hd hc) x t (fun h' tk acc c hk e hi => ?_) (hn := hx)
  have hz : ((onesL x).map V.str).length ≤ sizeLine := by rw [List.length_map, onesL_len]; exact hx
  exact ⟨.ref s.heap.objs.size, _, I.laid (t' := tk) hk (Nat.le_refl _) (show ObjOk X.prog X.w _ h' _ (.lst ((onesL x).map V.str)) from ⟨hz, acc.toList, c, vals_of_strs (signs_str hi), e⟩), rfl, q _ (I.hok.fresh (Nat.le_refl _))⟩
end
end Vk
set_option Elab.async false
set_option maxRecDepth 100000
set_option linter.all false
set_option maxHeartbeats 4000000
namespace Vk
open PySem PySem.Spec PyProof.Rows L2
/-- a set when it is new -/
abbrev bareSet (w : World) : Obj := ⟨.type "set", none, .set #[] 0 (.fresh 0 0 (!w.params.followText "set-order")), #[]⟩
section
variable {P : Program} {w : World} {A : Around} {E : Value → Shared → Prop} {s : Shared}
end
section
variable {X : Cx}
end
end Vk
set_option Elab.async false
set_option maxRecDepth 100000
set_option linter.all false
set_option maxHeartbeats 4000000
namespace Vk
open PySem PySem.Spec PyProof.Rows L2
/-! ## sets of texts: set(x) of a text, sorted -/
def txtOf (e : Int × Value) : Str := match e.2 with
  | .str x _ => x
  | _ => Str.empty
def TxtE (w : World) (e : Int × Value) : Prop := ∃ x t, e.2 = Value.str x t ∧ e.1 = hashStr w x
/-- the set of texts at a, M its members; its table rises and can be walked -/
structure SetTx (w : World) (h : Heap) (a : Addr) (M : List Str) : Prop where
  ex : ∃ ob en ep tb, h.get? a = some ob ∧ ob.ExactSet ∧ ob.data = .set en ep tb ∧ (∀ e ∈ en.toList, TxtE w e) ∧ (en.toList.map txtOf).Nodup ∧ (∀ k, k ∈ M ↔ k ∈ en.toList.map txtOf) ∧
    en.size < scanBound ∧ tb.fits en.size = true ∧ Ris tb.place.toList ∧ (w.params.followText "set-order" = true ∨ tb.led = true)
section
variable {P : Program} {w : World} {h h1 : Heap} {a : Addr} {M : List Str}
theorem SetTx.keep (R : SetTx w h a M) (k : ∀ ob, h.get? a = some ob → h1.get? a = some ob) : SetTx w h1 a M :=
  let ⟨ob, en, ep, tb, e, r⟩ := R.ex
  ⟨ob, en, ep, tb, k ob e, r⟩
theorem txt_elems {l : List (Int × Value)} (g : ∀ e ∈ l, TxtE w e) : ElemsOf (PySem.strKind P w) l := fun e he => by
  obtain ⟨x, t, e1, e2⟩ := g e he
  exact ⟨⟨x, by rw [e1]; exact strKind_is P w x t, e2⟩, by rw [e1] <;> rfl⟩
theorem txt_is {e : Int × Value} (g : TxtE w e) (k : Str) : (PySem.strKind P w).is k e.2 = true ↔ txtOf e = k := by
  obtain ⟨x, t, e1, _⟩ := g
  unfold txtOf
  rw [e1]
  constructor
  · intro z
    exact ((PySem.strKind P w).inj _ _ _ z (strKind_is P w x t)).symm
  · rintro rfl
    exact strKind_is P w _ t
theorem txt_mem {l : List (Int × Value)} (g : ∀ e ∈ l, TxtE w e) (k : Str) : k ∈ l.map txtOf ↔ ∃ e ∈ l, (PySem.strKind P w).is k e.2 = true := by
  rw [List.mem_map]
  exact ⟨fun ⟨e, he, q⟩ => ⟨e, he, (txt_is (g e he) k).mpr q⟩, fun ⟨e, he, q⟩ => ⟨e, he, (txt_is (g e he) k).mp q⟩⟩
end
section
variable {P : Program} {w : World} {A : Around} {E : Value → Shared → Prop} {s : Shared} {a : Addr} {M : List Str}
theorem setTx_tail {gw : Bool → Sem Unit} (hgw : ∀ (b : Bool) (s2 : Shared) (Q2 : Unit → Shared → Prop), Q2 () s2 → wpAny (model P w) A (gw b) Q2 E s2)
    {ob : Obj} {en : Array (Int × Value)} {ep : Nat} {tb : SetTable} (ho : s.heap.get? a = some ob) (hex : ob.ExactSet) (hd : ob.data = .set en ep tb)
    {e1 : Array (Int × Value)} {t1 : SetTable} {M1 : List Str} (g1 : ∀ e ∈ e1.toList, TxtE w e) (nd1 : (e1.toList.map txtOf).Nodup) (m1 : ∀ k, k ∈ M1 ↔ k ∈ e1.toList.map txtOf)
    (b1 : e1.size < scanBound) (f1 : t1.fits e1.size = true) (r1 : Ris t1.place.toList) (l1 : w.params.followText "set-order" = true ∨ t1.led = true) {dummy : Bool} {R : Option Bool → Shared → Prop}
    (hR : ∀ h2, Heap.SameBut a s.heap h2 → SetTx w h2 a M1 → R (some true) { s with heap := h2 }) :
    wpAny (model P w) A (do
        storeSet a e1 t1
        if (!dummy && t1.tooFull) = true then do
            gw (relayAll t1 e1 (SetTable.grown e1.size)).2.2
            storeSet a (relayAll t1 e1 (SetTable.grown e1.size)).1 (relayAll t1 e1 (SetTable.grown e1.size)).2.1
            pure (some true)
          else pure (some true)) R E s := by
  refine wpAny_bind (wpAny_storeSet_of ho hd ?_ (fits_of_scanBound b1))
  have at1 := store_at (es' := e1) (t' := t1) ho hd
  have sb := Heap.SameBut.update s.heap a (Obj.putSet e1 t1)
  split
  · have pm := relayAll_perm t1 e1 (SetTable.grown e1.size)
    have f2 := relayAll_fits t1 e1 (SetTable.grown e1.size)
    have r2 := relayAll_ris t1 e1 (SetTable.grown e1.size)
    have l2 := relayAll_led t1 e1 (SetTable.grown e1.size)
    generalize relayAll t1 e1 (SetTable.grown e1.size) = Z2 at pm f2 r2 l2 ⊢
    obtain ⟨e2, t2, gave⟩ := Z2
    dsimp only at pm f2 r2 l2 ⊢
    have sz2 : e2.size = e1.size := by rw [← Array.length_toList, pm.length_eq, Array.length_toList]
    have b2 : e2.size < scanBound := by rw [sz2]; exact b1
    refine wpAny_bind (hgw _ _ _ (wpAny_bind (wpAny_storeSet_of at1 rfl ?_ (fits_of_scanBound b2))))
    have at2 := store_at (es' := e2) (t' := t2) at1 rfl
    exact wpAny_pure (hR _ (sb.trans (Heap.SameBut.update _ a _)) ⟨_, e2, _, t2, at2, hex, rfl, fun e he => g1 e (pm.mem_iff.mp he), (pm.map txtOf).nodup_iff.mpr nd1, fun k => (m1 k).trans (pm.map txtOf).mem_iff.symm, b2, f2, r2,
      l1.imp id fun z => by rw [l2]; exact z⟩)
  · exact wpAny_pure (hR _ sb ⟨_, e1, _, t1, at1, hex, rfl, g1, nd1, m1, b1, f1, r1, l1⟩)
theorem setTx_add {k : Str} {t : Tok} {Q : Bool → Shared → Prop} (R : SetTx w s.heap a M) (room : M.length + 1 < scanBound) (nd : M.Nodup)
    (hQ : ∀ h2 b, Heap.SameBut a s.heap h2 → SetTx w h2 a (if k ∈ M then M else k :: M) → Q b { s with heap := h2 }) :
    wpAny (model P w) A (setAddHashed a (.str k t) ((PySem.strKind P w).hash k)) Q E s := by
  obtain ⟨ob, en, ep, tb, ho, hex, hd, g, ndK, hm, hb, hf, hr, hl⟩ := R.ex
  have hkey : (PySem.strKind P w).is k (.str k t) = true := strKind_is P w k t
  have scan : (Value.str k t).scannable = true := rfl
  have elems : ElemsOf (PySem.strKind P w) en.toList := txt_elems g
  have lenM : en.size = M.length := by
    have pmM : List.Perm M (en.toList.map txtOf) := (List.perm_ext_iff_of_nodup nd ndK).mpr hm
    rw [pmM.length_eq, List.length_map, Array.length_toList]
  unfold setAddHashed setAddHashedIn; refine wpAny_holding (wpAny_bind (wpAny_setState_of ho hd hf ?_))
  dsimp only
  rw [byScan_of scan hb elems]
  simp only [↓reduceIte]
  unfold setAddByScan
  refine wpAny_bind (wpAny_bind (wpAny_rule (wpAny_bind (wpAny_setScan_of hkey ho hd hf elems ?_))))
  cases hfi : List.findIdx? (fun e => (PySem.strKind P w).is k e.2) en.toList with
  | some j =>
    dsimp only
    obtain ⟨hj, pj, _⟩ := List.findIdx?_eq_some_iff_getElem.mp hfi
    have inM : k ∈ M := (hm k).mpr ((txt_mem (P := P) (w := w) g k).mpr ⟨en.toList[j], List.getElem_mem hj, pj⟩)
    have q := hQ s.heap false (Heap.SameBut.refl a s.heap) (by rw [if_pos inM]; exact R)
    exact wpAny_pure (wpAny_pure q)
  | none =>
    dsimp only
    have notK : k ∉ en.toList.map txtOf := fun z => by
      obtain ⟨e, he, q⟩ := (txt_mem (P := P) (w := w) g k).mp z
      have no := List.findIdx?_eq_none_iff.mp hfi e he
      rw [q] at no
      cases no
    have notM : k ∉ M := fun z => notK ((hm k).mp z)
    have pm := layNew_perm tb en ((PySem.strKind P w).hash k) (.str k t)
    have f1 := layNew_fits tb en ((PySem.strKind P w).hash k) (.str k t)
    have r1 := layNew_ris tb en ((PySem.strKind P w).hash k) (.str k t) hr
    have l1 := layNew_led tb en ((PySem.strKind P w).hash k) (.str k t)
    generalize layNew tb en ((PySem.strKind P w).hash k) (.str k t) = Z1 at pm f1 r1 l1 ⊢
    obtain ⟨e1, t1, dummy, gave⟩ := Z1
    dsimp only at pm f1 r1 l1 ⊢
    rw [Array.toList_push] at pm
    have pc : e1.toList.Perm (((PySem.strKind P w).hash k, Value.str k t) :: en.toList) := pm.trans (List.perm_append_singleton _ _)
    have pk : (e1.toList.map txtOf).Perm (k :: en.toList.map txtOf) := pc.map txtOf
    have g1 : ∀ e ∈ e1.toList, TxtE w e := fun e he => by
      rcases List.mem_cons.mp (pc.mem_iff.mp he) with z | z
      · rw [z]; exact ⟨k, t, rfl, rfl⟩
      · exact g e z
    have nd1 : (e1.toList.map txtOf).Nodup := pk.nodup_iff.mpr (List.nodup_cons.mpr ⟨notK, ndK⟩)
    have m1 : ∀ i, i ∈ k :: M ↔ i ∈ e1.toList.map txtOf := fun i => by
      rw [pk.mem_iff, List.mem_cons, List.mem_cons, hm i]
    have sz1 : e1.size = M.length + 1 := by rw [← Array.length_toList, pc.length_eq, List.length_cons, Array.length_toList, lenM]
    have b1 : e1.size < scanBound := by rw [sz1]; exact room
    have led1 : w.params.followText "set-order" = true ∨ t1.led = true := hl.imp id fun z => by rw [l1]; exact z
    have fin : ∀ h2, Heap.SameBut a s.heap h2 → SetTx w h2 a (k :: M) → Q true { s with heap := h2 } := fun h2 sb r => hQ h2 true sb (by rw [if_neg notM]; exact r)
    have hgw : ∀ (b : Bool) {s2 : Shared} {Q2 : Unit → Shared → Prop}, Q2 () s2 → wpAny (model P w) A (match b with | true => rule "set.scan.the-table-gave-way" | false => pure ()) Q2 E s2 :=
      fun b s2 Q2 q => by cases b <;> first | exact wpAny_rule q | exact wpAny_pure q
    refine wpAny_bind (hgw _ ?_)
    split
    · refine wpAny_bind ?_
      rw [hashByValue_scannable 8 scan]
      refine wpAny_pure ?_
      refine setTx_tail ?_ ho hex hd g1 nd1 m1 b1 ?_ ?_ ?_ ?_
      · intro b s2 Q2 q; cases b <;> first | exact wpAny_rule q | exact wpAny_pure q
      · first | (split <;> first | exact f1 | exact SetTable.fits_plain_off f1) | exact f1
      · first | (split <;> exact r1) | exact r1
      · first | (split <;> exact led1) | exact led1
      · intro h2 sb r; dsimp only; exact wpAny_pure (fin h2 sb r)
    · refine wpAny_bind (wpAny_pure ?_)
      simp only [↓reduceIte]
      refine setTx_tail ?_ ho hex hd g1 nd1 m1 b1 f1 r1 led1 ?_
      · intro b s2 Q2 q; cases b <;> first | exact wpAny_rule q | exact wpAny_pure q
      · intro h2 sb r; dsimp only; exact wpAny_pure (fin h2 sb r)
end
section
variable {P : Program} {w : World} {A : Around} {E : Value → Shared → Prop} {s : Shared}
theorem update_strs {I : Addr} {fp wr : List Addr} {G : Array GenState → Array GenState → Prop} {n : Nat} {Pv : Nat → Value → Prop} {St : Nat → Shared → Prop} {R : Result → Shared → Prop}
    (W : WalksS P w A.in1 I fp wr G n Pv St) (a : Addr) (out : a ∉ fp) (zs : List Str) (hn : n = zs.length) (hb : zs.length + 1 < scanBound) (val : ∀ i v, Pv i v → ∃ z t, zs[i]? = some z ∧ v = .str z t) :
    ∀ (m i : Nat) (s : Shared) (done : List Str), n - i = m → i ≤ n → St i s → SetTx w s.heap a done → done.Nodup → done.length ≤ i → (∀ z, z ∈ done ↔ z ∈ zs.take i) →
      (∀ s2 M, Moved (a :: wr) G s s2 → M.Nodup → M.length ≤ n → (∀ z, z ∈ M ↔ z ∈ zs) → SetTx w s2.heap a M → R (.ok (.ret .none)) s2) →
      codeAny (model P w) A (.builtin "set.update.loop" ⟨[.ref a, .ref I], []⟩) R s := by
  have outW : a ∉ wr := fun z => out (W.sub _ z)
  have subW : ∀ b ∈ wr, b ∈ a :: wr := fun b z => List.mem_cons_of_mem _ z
  intro m
  induction m with
  | zero =>
    intro i s done hm hi st R0 nd dl mem k
    have e : i = n := by omega
    subst e
    refine codeAny_builtin F.entry_set_update_loop ?_
    rw [Around.under_plainId F.plain_set_update_loop _]
    show wpAny _ A.in1 (pyNext (.ref I) >>= _) _ _ s
    refine wpAny_bind (W.done s _ _ st fun s2 mv => ?_)
    show wpAny _ A.in1 (ret Value.none) _ _ s2
    exact wpAny_pure (k s2 done (mv.mono subW) nd dl (fun z => (mem z).trans (by rw [List.take_of_length_le (by omega)])) (R0.keep fun o e => mv.heap a o outW e))
  | succ m ih =>
    intro i s done hm hi st R0 nd dl mem k
    have lt : i < n := by omega
    refine codeAny_builtin F.entry_set_update_loop ?_
    rw [Around.under_plainId F.plain_set_update_loop _]
    show wpAny _ A.in1 (pyNext (.ref I) >>= _) _ _ s
    refine wpAny_bind (W.item i s _ _ lt st fun v s2 hP st2 mv => ?_)
    obtain ⟨z, t, hz, rfl⟩ := val i v hP
    have R1 : SetTx w s2.heap a done := R0.keep fun o e => mv.heap a o outW e
    show wpAny _ A.in1 (holding [Value.str z t] (setAdd a (.str z t)) >>= _) _ _ s2
    refine wpAny_bind (wpAny_holding ?_)
    unfold setAdd
    refine wpAny_holding (wpAny_bind ((PySem.strKind P w).pyHash (k := z) (strKind_is _ _ _ _) ?_))
    refine setTx_add (s := { s2 with toks := s2.toks + 1 }) R1 (by omega) nd fun h2 b sb R2 => ?_
    have nd2 : (if z ∈ done then done else z :: done).Nodup := by
      split
      · exact nd
      · rename_i c
        exact List.nodup_cons.mpr ⟨c, nd⟩
    have dl2 : (if z ∈ done then done else z :: done).length ≤ i + 1 := by
      split
      · omega
      · rw [List.length_cons]; omega
    have mem2 : ∀ y, y ∈ (if z ∈ done then done else z :: done) ↔ y ∈ zs.take (i + 1) := fun y => by
      rw [List.take_add_one, hz, Option.toList_some, List.mem_append, List.mem_singleton, ← mem y]
      split
      · rename_i c
        exact ⟨.inl, fun q => q.elim id fun e => e ▸ c⟩
      · rw [List.mem_cons]
        exact Or.comm
    refine wpAny_pure ⟨plainId_quiet F.plain_set_update_loop _, ih (i + 1) _ _ (by omega) lt (W.frame _ s2 _ _ st2 (Nat.le_succ _) fun b hb o e => ?_) R2 nd2 dl2 mem2 fun s3 M mv3 nd3 l3 m3 R3 => ?_⟩
    · exact (sb.2 b (fun q : b = a => out (q ▸ hb))).trans e
    · refine k s3 M (Moved.trans W.gtrans ((mv.mono subW).then_heap (Nat.le_succ _) fun b o hb e => ?_) mv3) nd3 l3 m3 R3
      exact (sb.2 b (fun q : b = a => hb (q ▸ List.mem_cons_self))).trans e
theorem setTx_new {h : Heap} {a : Addr} (ho : h.get? a = some (bareSet w)) : SetTx w h a [] := by
  have led : w.params.followText "set-order" = true ∨ (!w.params.followText "set-order") = true := by
    cases w.params.followText "set-order" with
    | true => exact .inl rfl
    | false => exact .inr rfl
  exact ⟨_, #[], 0, _, ho, ⟨rfl, rfl, rfl⟩, rfl, (fun e he => absurd he (by simp)), List.nodup_nil, (fun k => by simp), by decide, by rfl, List.Pairwise.nil, led⟩
/-- set(x), x a text -/
theorem set_of_str {x : Str} {t : Tok} {Q : Value → Shared → Prop} (clear : A.handled = none) (small : x.length + 1 < scanBound)
    (k : ∀ (h2 : Heap) (tk : Nat) (M : List Str), SetTx w h2 s.heap.objs.size M → M.Nodup → M.length ≤ x.length → (∀ z, z ∈ M ↔ z ∈ onesL x) → (∀ b o, s.heap.get? b = some o → h2.get? b = some o) → Q (.ref s.heap.objs.size) { s with heap := h2, toks := tk }) :
    wpAny (model P w) A (call (.type "set") [.str x t]) Q E s := by
  obtain ⟨mc, mt, m0⟩ := F.called_set.mro
  have m1 := F.called_set.made
  have m2 := F.called_set.sub
  have m3 := F.called_set.notType
  have m4 := F.called_set.canCreate
  have m5 := F.typeCall_set_1 (.str x t)
  refine wpAny_call (codeAny_of_tree (wpAny_pure ⟨Code.quiet_builtin _ (by decide +kernel), codeAny_builtin F.entry_type_call ?_⟩))
  rw [Around.under_plain (weight_type_call_type "set" [.str x t] []) rfl]
  repeat (any_goals (first | wp_step | assumption))
  refine codeAny_mono (code_set_led1 (.str x t) (E := E) (Q₁ := fun v s1 => v = .ref s.heap.objs.size ∧ s1 = { s with heap := s.heap.push (bareSet w) }) ⟨rfl, rfl⟩) ?_
  intro r s1 hr
  match r, hr with
  | .error e, hr => exact hr
  | .ok .next, hr => exact hr.elim
  | .ok .brk, hr => exact hr.elim
  | .ok .cont, hr => exact hr.elim
  | .ok (.ret v), ⟨ev, es⟩ =>
  subst ev
  subst es
  have at0 : (s.heap.push (bareSet w)).get? s.heap.objs.size = some (bareSet w) := Heap.get?_push_size _ rfl
  have ty0 : Shared.TypeIs { s with heap := s.heap.push (bareSet w) } (.ref s.heap.objs.size) "set" := ⟨_, at0, rfl⟩
  have i1 := F.called_set.init.lookup
  have i2 := F.called_set.init.bind (.ref s.heap.objs.size)
  repeat (any_goals (first | wp_step | assumption))
  refine codeAny_mono (codeAny_call_builtin (R := wants (fun r s2 => r = .none ∧ ∃ h2 tk M, s2 = { s with heap := h2, toks := tk } ∧ SetTx w h2 s.heap.objs.size M ∧ M.Nodup ∧ M.length ≤ x.length ∧ (∀ z, z ∈ M ↔ z ∈ onesL x) ∧ ∀ b o, s.heap.get? b = some o → h2.get? b = some o) E) F.called_set.init.plain F.entry_set_init (check_set_init_1 ty0 ?_)) ?_
  · have sz : (s.heap.push (bareSet w)).objs.size = s.heap.objs.size + 1 := Heap.size_push ..
    have n0 := F.sub_str_set
    have n1 := F.sub_str_frozenset
    have n2 : (Value.type "str" == Value.type "dict") = false := by decide
    have cl : A.in1.in1.in1.handled = none := by simp [clear]
    unfold Builtin.«set.__init__» noKeywords Builtin.Frozenset.updateFrom
    generalize iter : pyIter = go
    wp_walk
    subst iter
    refine wpAny_pyIter_str fun oI St hW hst => wpAny_bind (wpAny_runValue ?_)
    have vals : ∀ (i : Nat) (v : Value), SignAt x i v → ∃ z t, (onesL x)[i]? = some z ∧ v = .str z t := by
      rintro i v ⟨c, u, ec, ev⟩
      refine ⟨⟨#[c]⟩, u, ?_, ev⟩
      unfold onesL
      rw [List.getElem?_map, Array.getElem?_toList, ec]
      rfl
    have out : s.heap.objs.size ∉ [(s.heap.push (bareSet w)).objs.size] := by
      intro z
      rw [sz] at z
      exact absurd (List.mem_singleton.mp z) (Nat.ne_of_lt (Nat.lt_succ_self _))
    have many : x.cps.size = (onesL x).length := (onesL_len x).symm
    refine update_strs (hW _ cl).toS s.heap.objs.size out (onesL x) many (by rw [onesL_len]; exact small) vals x.cps.size 0 _ [] (Nat.sub_zero _) (Nat.zero_le _) hst (setTx_new (Heap.get?_push_of_some _ at0)) List.nodup_nil (Nat.le_refl _) (fun z => by simp) ?_
    rintro ⟨h2, g2, d2, t2, o2⟩ M mv nd l2 mem R
    cases (mv.gens : g2 = s.gens)
    cases (mv.drawn : d2 = s.drawn)
    cases (mv.os : o2 = s.os)
    refine wpAny_pure (wpAny_pure ⟨rfl, h2, t2, M, rfl, R, nd, l2, mem, fun b u e => ?_⟩)
    have hb := Heap.lt_size e
    refine mv.heap b u (fun z => ?_) (Heap.get?_push_of_some _ (Heap.get?_push_of_some _ e))
    rcases List.mem_cons.mp z with z | z
    · exact absurd z (Nat.ne_of_lt hb)
    · have z := List.mem_singleton.mp z
      rw [sz] at z
      exact absurd z (Nat.ne_of_lt (Nat.lt_succ_of_lt hb))
  · intro r s2 hr2
    match r, hr2 with
    | .error e, hr2 => exact hr2
    | .ok .next, hr2 => exact hr2.elim
    | .ok .brk, hr2 => exact hr2.elim
    | .ok .cont, hr2 => exact hr2.elim
    | .ok (.ret v), ⟨ev, h2, tk, M, es, R, nd, l2, mem, keep⟩ =>
    subst ev
    subst es
    repeat (any_goals (first | wp_step | assumption))
    exact k _ _ M R nd l2 mem keep
end
end Vk
set_option Elab.async false
set_option maxRecDepth 100000
set_option linter.all false
set_option maxHeartbeats 4000000
namespace Vk
open PySem PySem.Spec PyProof.Rows L2
/-! ## sorted(set(x)) of a text -/
theorem txts_are (w : World) : ∀ (l : List (Int × Value)), (∀ e ∈ l, TxtE w e) → StrsAre (l.map (·.2)) (l.map txtOf)
  | [], _ => .nil
  | e :: l, g => by
    obtain ⟨x, t, e1, _⟩ := g e List.mem_cons_self
    have e2 : txtOf e = x := by
      unfold txtOf
      rw [e1]
    rw [List.map_cons, List.map_cons, e2, e1]
    exact .cons x t (txts_are w l fun z hz => g z (List.mem_cons_of_mem _ hz))
/-- texts of values, told by the values -/
def txtV : Value → Str
  | .str x _ => x
  | _ => Str.empty
theorem strs_map : ∀ {vs : List Value} {zs : List Str}, StrsAre vs zs → zs = vs.map txtV
  | _, _, .nil => rfl
  | _, _, .cons x t r => by
    rw [List.map_cons, ← strs_map r]
    rfl
theorem strs_of : ∀ (vs : List Value), (∀ v ∈ vs, ∃ x t, v = Value.str x t) → StrsAre vs (vs.map txtV)
  | [], _ => .nil
  | v :: vs, h => by
    obtain ⟨x, t, rfl⟩ := h v List.mem_cons_self
    exact .cons x t (strs_of vs fun u hu => h u (List.mem_cons_of_mem _ hu))
section
variable {P : Program} {w : World} {A : Around} {E : Value → Shared → Prop} {s : Shared} {a : Addr} {M : List Str}
theorem sorted_setTx {Q : Value → Shared → Prop} (R : SetTx w s.heap a M) (nd : M.Nodup) (clear : A.handled = none) (small : M.length ≤ 100000)
    (k : ∀ (s2 : Shared) p (out : Array Value) (c : Nat) (ys : List Str), (∀ b o, s.heap.get? b = some o → s2.heap.get? b = some o) → s2.gens = s.gens → s2.os = s.os → s.heap.objs.size ≤ p →
      s2.heap.get? p = some (seqObj "list" out c) → StrsAre out.toList ys → ys.Perm M → sortedS ys = true → Q (.ref p) s2) :
    wpAny (model P w) A (call (.builtin "sorted") [.ref a]) Q E s := by
  obtain ⟨ob, en, ep, tb, ho, hex, hd, g, ndK, hm, hb, hf, hr, hl⟩ := R.ex
  have pmM : List.Perm (en.toList.map txtOf) M := (List.perm_ext_iff_of_nodup ndK nd).mpr fun z => (hm z).symm
  have lenE : en.size = M.length := by rw [← pmM.length_eq, List.length_map, Array.length_toList]
  refine Calls.call_function_entry kind_sorted plain_sorted entry_sorted (args_sorted1 _) ?_
  unfold Builtin.«sorted»
  refine wpAny_bind (m := checkCount "sorted" 1 1 _) (wpAny_pure (wpAny_bind (collect_set (A := A.in1) clear ⟨ob, ho, hex.1, hd⟩ hf hb hr hl fun s1 vs k1 hz g1 o1 pm => ?_)))
  have lenV : vs.length = M.length := by rw [pm.length_eq, List.length_map, Array.length_toList]; exact lenE
  have lz : vs.length ≤ sizeLine := by rw [lenV, sizeLine_eq]; omega
  have hS : StrsAre vs (vs.map txtV) := strs_of vs fun v hv => by
    obtain ⟨e, he, q⟩ := List.mem_map.mp (pm.mem_iff.mp hv)
    obtain ⟨x, t, e1, _⟩ := g e he
    exact ⟨x, t, q ▸ e1⟩
  have pmK : (vs.map txtV).Perm (en.toList.map txtOf) := by
    have q := pm.map txtV
    rw [← strs_map (txts_are w en.toList g)] at q
    exact q
  refine wpAny_bind (wpAny_newList ?_ lz)
  have atL : (s1.heap.push (seqObj "list" vs.toArray 0)).get? s1.heap.objs.size = some (seqObj "list" vs.toArray 0) := Heap.get?_push_size _ rfl
  refine wpAny_bind (wpAny_holding (wpAny_call_entry slot_list_sort ⟨_, atL, rfl⟩ entry_list_sort (list_sort_treeKAny strKind_oneLt atL hS.keysOf (fun v1 v2 rest e => keyKind_strs (by rw [← e]; exact hS)) lz fun st hp hs => ⟨_, rfl, ?_⟩) (args_list_sort _)))
  obtain ⟨ys, a1, a2, a3⟩ := sorted_out_str hS hp hs
  obtain ⟨c, hc2⟩ := sortedHeap_at (vs := vs) (out := (arrOf st).map (·.2)) atL
  refine wpAny_pure ⟨_, rfl, k _ s1.heap.objs.size _ c ys (fun b u e => ?_) g1 o1 hz hc2 a1 ((a2.trans pmK).trans pmM) a3⟩
  have q := k1 b u e
  have lt := Heap.lt_size q
  show (sortedHeap (s1.heap.push (seqObj "list" vs.toArray 0)) s1.heap.objs.size vs ((arrOf st).map (·.2))).get? b = some u
  rw [sortedHeap_old (Nat.ne_of_lt lt) (by rw [size_push']; exact Nat.lt_succ_of_lt lt)]
  exact Heap.get?_push_of_some _ q
end
section
variable {X : Cx} {e : Expr} {te : TE} {p p2 pos pos2 : Pos}
/-- sorted(set(e)), e a text -/
def tSortSet (te : TE) : TE := fun σ H Q => te σ H fun x H1 => ∃ z : Str, x = .str z ∧ z.length ≤ 1000 ∧ ∀ (ys : List Str) q, ys.Nodup → (∀ y, y ∈ ys ↔ y ∈ onesL z) → sortedS ys = true → ys.length ≤ z.length → H1 q = none → Q (.ref q) (upd H1 q (.lst (ys.map V.str)))
theorem pe_sortSet (hc : X.calm = true) (gs : Gl X "sorted") (ms : X.mg "sorted" = none) (g2 : Gl X "set") (m2 : X.mg "set" = none) (he : PE X e te)
    (na : starEach [e] X.env = (false, eval e X.env) :: starEach [] X.env := by rfl) : PE X (.Call (.Name "sorted" p) [.Call (.Name "set" p2) [e] [] pos2] [] pos) (tSortSet te) := by
  refine ⟨fun pins s σ H Q I h => ?_⟩
  refine Call_ (ld_blt I gs ms PyProof.Rows.boot_sorted (PyProof.Rows.callWith_builtin1 (PyProof.Rows.args_cons (Call_ (ld_blt I g2 m2 PyProof.Rows.boot_set (PyProof.Rows.callWith_type1 (PyProof.Rows.args_cons (thn (he.run pins s σ H _ I h) fun v s1 q1 => PyProof.Rows.args_nil ?_) na) na))) rfl) rfl rfl))
  obtain ⟨x, H1, I1, rx, z, rfl, zl, k⟩ := q1
  obtain ⟨t, rfl⟩ := rx
  have clear := I1.ok.hd hc
  refine set_of_str clear (by unfold scanBound; omega) fun h2 tk M R nd l2 mem keep => PyProof.Rows.args_nil ?_
  refine sorted_setTx (s := { s1 with heap := h2, toks := tk }) R nd clear (by omega) fun s2 q out c ys k2 g1 o1 hq hL st pm so => ?_
  have kz : ∀ b u, s1.heap.get? b = some u → s2.heap.get? b = some u := fun b u e => k2 b u (keep b u e)
  have le2 : s1.heap.objs.size ≤ q := Nat.le_trans (Nat.le_of_not_lt fun lt => by
    have h0 : h2.objs.size < s1.heap.objs.size := lt
    obtain ⟨ob, _, _, _, ho, _⟩ := R.ex
    exact Nat.lt_irrefl _ (Nat.lt_trans (Heap.lt_size ho) h0)) hq
  have lenY : ys.length ≤ z.length := by rw [pm.length_eq]; exact l2
  have hlen : (ys.map V.str).length ≤ sizeLine := by rw [List.length_map, sizeLine_eq]; omega
  have hn : H1 q = none := I1.hok.fresh le2
  have J : Inv X pins σ (upd H1 q (.lst (ys.map V.str))) { s1 with heap := s2.heap, gens := s2.gens, drawn := s2.drawn, toks := s2.toks } :=
    I1.call (ch := []) (Un.laid kz le2 hn) (I1.hok.laid kz le2 ⟨hlen, out.toList, c, vals_of_strs st, hL⟩) (g1 ▸ I1.bare) (fun _ z => nomatch z)
  have eS : s2 = { s1 with heap := s2.heap, gens := s2.gens, drawn := s2.drawn, toks := s2.toks } := by
    have o2 : s2.os = s1.os := o1
    revert o2
    cases s2
    rintro ⟨⟩
    rfl
  rw [eS]
  exact ⟨.ref q, _, J, rfl, k ys q (pm.nodup_iff.mpr nd) (fun y => pm.mem_iff.trans (mem y)) so lenY hn⟩
end
end Vk
set_option Elab.async false
set_option maxRecDepth 100000
set_option maxHeartbeats 4000000
set_option linter.all false
namespace Vk
open PySem PySem.Spec PyProof.Rows L2
/-! ## dict(zip(a, b)) of two lists, the first one of keys -/
def tDZ (K : PySem.W.Frag) (ta : TA) : TE := fun σ H Q => ta σ H fun vs H1 => ∃ (a b : Addr) (ks : List Key) (ys : List V), vs = [.ref a, .ref b] ∧ SqL K H1 a (ks.map kV) ∧ SqL K H1 b ys ∧ ks.length ≤ ys.length ∧ ∀ q, H1 q = none → Q (.ref q) (upd H1 q (.dK (mergeK [] (ks.zip ys))))
theorem kv_zip {P : Program} {w : World} : ∀ {ks : List Key} {us : List Value} {ys : List V} {ws : List Value}, Vals (ks.map kV) us → Vals ys ws → ks.length ≤ ys.length →
    KV (ks.zip ys) (ks.zip ws) ∧ ∀ (j : Nat) (key v : Value), us[j]? = some key → ws[j]? = some v → ∃ k, (ks.zip ws)[j]? = some (k, v) ∧ keyIs k key = true
  | [], us, ys, ws, r1, r2, _ => by
    cases r1
    exact ⟨.nil, fun j key v h => by simp at h⟩
  | k :: ks, us, [], ws, _, _, h => by simp at h
  | k :: ks, us, y :: ys, ws, r1, r2, h => by
    rw [List.map_cons] at r1
    cases r1 with
    | cons a t =>
      cases r2 with
      | cons b u =>
        obtain ⟨i1, i2⟩ := kv_zip (P := P) (w := w) t u (by simpa using h)
        refine ⟨.cons ⟨rfl, b⟩ i1, fun j key v h1 h2 => ?_⟩
        cases j with
        | zero =>
          cases Option.some.inj h1
          cases Option.some.inj h2
          exact ⟨k, rfl, kV_is (P := P) (w := w) a⟩
        | succ j =>
          obtain ⟨k2, e1, e2⟩ := i2 j key v (by simpa using h1) (by simpa using h2)
          exact ⟨k2, by simpa using e1, e2⟩
theorem pe_dictZip {X : Cx} {e e2 : Expr} {ta : TA} {p p2 pos pos2 : Pos} (hc : X.calm = true) (hgd : Gl X "dict") (hmd : X.mg "dict" = none) (hg : Gl X "zip") (hm : X.mg "zip" = none) (ha : PA X [e, e2] ta)
    (hs : starEach [e, e2] X.env = (false, eval e X.env) :: starEach [e2] X.env := by rfl) (hpl : (backTo pos2 (starEach [e2] X.env)).any (·.1) = false := by rfl)
    (na : starEach [.Call (.Name "zip" p2) [e, e2] [] pos2] X.env = (false, eval (.Call (.Name "zip" p2) [e, e2] [] pos2) X.env) :: starEach [] X.env := by rfl) :
    PE X (.Call (.Name "dict" p) [.Call (.Name "zip" p2) [e, e2] [] pos2] [] pos) (tDZ X.K ta) := by
  refine ⟨fun pins s σ H Q I h => ?_⟩
  have inner : wpAny (model X.prog X.w) X.A (eval (.Call (.Name "zip" p2) [e, e2] [] pos2) X.env) (fun v s' => ∃ (z a b : Addr) (its its2 : Array Value) (ks : List Key) (ys : List V) (H1 : Hp) (s1 : Shared), v = .ref z ∧ Inv X pins σ H1 s1 ∧ Vals (ks.map kV) its.toList ∧ Vals ys its2.toList ∧ ks.length ≤ ys.length ∧ ys.length ≤ sizeLine ∧ z = s1.heap.objs.size + 4 ∧ a < s1.heap.objs.size ∧ b < s1.heap.objs.size ∧ s1.heap.objs.size ≤ s'.heap.objs.size ∧
      IsZip s'.heap z (s1.heap.objs.size + 2) (s1.heap.objs.size + 3) .none ∧ IsPair s'.heap (s1.heap.objs.size + 2) (.ref s1.heap.objs.size) (.ref (s1.heap.objs.size + 1)) ∧ IsPair s'.heap (s1.heap.objs.size + 3) .none .none ∧ s'.heap.IsListIter s1.heap.objs.size a 0 ∧ s'.heap.IsListIter (s1.heap.objs.size + 1) b 0 ∧ s'.heap.IsList a its ∧ s'.heap.IsList b its2 ∧
      (∀ c o, s1.heap.get? c = some o → s'.heap.get? c = some o) ∧ (∃ h2 t2, s' = { s1 with heap := h2, toks := t2 }) ∧ ∀ q, H1 q = none → Q (.ref q) (upd H1 q (.dK (mergeK [] (ks.zip ys))))) X.xe s := by
    refine Call_ (ld_blt I hg hm PyProof.Rows.boot_zip (PyProof.Rows.callWith_type1 (thn (ha.run pos2 pins s σ H _ I h) fun us s1 hh => ?_) hs hpl))
    obtain ⟨vs, H1, I1, r1, a, b, ks, ys, rfl, hqx, hqy, hl, q⟩ := hh
    cases r1 with
    | cons r rr =>
      cases rr with
      | cons r' rr =>
        cases rr
        cases r
        cases r'
        obtain ⟨its, rv, q1, _⟩ := I1.list hqx
        obtain ⟨its2, rv2, q2, z2⟩ := I1.list hqy
        have la : a < s1.heap.objs.size := q1.lt
        have lb : b < s1.heap.objs.size := q2.lt
        refine call_zip_2 q1.isList q2.isList fun h' hz hTI hTO h1 h2 hsz hk => ?_
        exact ⟨_, a, b, its.toArray, its2.toArray, ks, ys, H1, s1, rfl, I1, rv, rv2, hl, z2, rfl, la, lb, by show _ ≤ h'.objs.size; omega, hz, hTI, hTO, h1, h2, q1.isList.at fun o e => hk _ o e, q2.isList.at fun o e => hk _ o e, hk, ⟨h', s1.toks, rfl⟩, q⟩
  refine Call_ (ld_blt I hgd hmd PyProof.Rows.boot_dict (PyProof.Rows.callWith_type1 (args_cons (thn inner fun v s' hh => args_nil ?_) na) na))
  obtain ⟨z, a, b, its, its2, ks, ys, H1, s1, rfl, I1, rv, rv2, hl, hz2, ez, la, lb, hle, hz, hTI, hTO, h1, h2, q1, q2, hk, ⟨hh2, tt2, es⟩, q⟩ := hh
  subst ez
  obtain ⟨kv1, kv2⟩ := kv_zip (P := X.prog) (w := X.w) rv rv2 hl
  have e1 : its.size = ks.length := by rw [← Array.length_toList, ← rv.length, List.length_map]
  have e2' : its2.size = ys.length := by rw [← Array.length_toList, ← rv2.length]
  have en : min its.size its2.size = ks.length := by rw [e1, e2', Nat.min_eq_left hl]
  have hd : X.A.handled = none := I1.ok.hd hc
  have P := PairArg.zip (prog := X.prog) (w := X.w) (s1.heap.objs.size + 4) (s1.heap.objs.size + 2) (s1.heap.objs.size + 3) s1.heap.objs.size (s1.heap.objs.size + 1) a b (PySem.W.ktu_apart s1.heap.objs.size a b la lb) its its2
  refine PySem.call_dict_pairs (knd := mixKind X.prog X.w) (kvs := ks.zip its2.toList) P hd ⟨hz, hTI, ⟨_, _, hTO⟩, h1, h2, q1, q2⟩ ⟨?_, fun j key v r => ?_⟩ (by rw [en]; omega) fun h3 tk hD keep => ?_
  · show (ks.zip its2.toList).length = min its.size its2.size
    have e3 : its2.toList.length = ys.length := rv2.length.symm
    rw [en, List.length_zip, e3]
    exact Nat.min_eq_left hl
  · obtain ⟨r1, r2⟩ := r
    exact kv2 j key v (by rw [Array.getElem?_toList]; exact r1) (by rw [Array.getElem?_toList]; exact r2)
  · have km : KV (mergeK [] (ks.zip ys)) (merged [] (ks.zip its2.toList)) := KV.merge kv1 .nil
    have kp : ∀ c o, s1.heap.get? c = some o → h3.get? c = some o := fun c o e => keep c o (fun hm => by
      have lt : c < s1.heap.objs.size := Heap.lt_size e
      simp only [List.mem_cons, List.not_mem_nil, or_false] at hm
      rcases hm with e | e | e | e
      · exact absurd (e ▸ lt : (s1.heap.objs.size + 4 : Nat) < s1.heap.objs.size) (by omega)
      · exact absurd (e ▸ lt : (s1.heap.objs.size + 3 : Nat) < s1.heap.objs.size) (by omega)
      · exact absurd (e ▸ lt : (s1.heap.objs.size : Nat) < s1.heap.objs.size) (by omega)
      · exact absurd (e ▸ lt : (s1.heap.objs.size + 1 : Nat) < s1.heap.objs.size) (by omega)) (hk c o e)
    have big : sysModules < s1.heap.objs.size := I1.big
    have hlen : (mergeK [] (ks.zip ys)).length ≤ sizeLine := Nat.le_trans (length_mergeK _ _) (by rw [List.length_nil, Nat.zero_add, List.length_zip]; omega)
    subst es
    have hle2 : s1.heap.objs.size ≤ hh2.objs.size := hle
    have ns : hh2.objs.size ≠ sysModules := fun z => Nat.lt_irrefl _ (Nat.lt_of_lt_of_le big (z ▸ hle2))
    exact ⟨.ref hh2.objs.size, _, I1.laid (a := hh2.objs.size) (o := .dK (mergeK [] (ks.zip ys))) kp hle2 ⟨hlen, beq_eq_false_iff_ne.mpr ns, _, km, hD⟩, rfl, q _ (I1.hok.fresh hle2)⟩
end Vk
set_option Elab.async false
set_option maxRecDepth 100000
set_option linter.all false
set_option maxHeartbeats 4000000
namespace Vk
open PySem PySem.Spec PyProof.Rows L2
section
variable {P : Program} {w : World} {K : PySem.W.Frag} {mg : Str → Option Value} {base : Heap}
abbrev s_places : Stmt := top 17
theorem sc_places : FnScope ["text", "word", "found", "place"] ["text", "word"] (defScope s_places) := ⟨rfl, rfl, rfl, by decide +kernel, rfl, by decide +kernel, by decide +kernel⟩
theorem b_places {f : Addr} {fd : FuncData} (F : Fun K "places" "places" s_places f fd) (T : Txt mg) : FnG P w K mg base CX0 1 f fd ["text", "word"] (spPlaces K) := by
  refine okG0 F sc_places (fun vs H Q E h => ?_) (fun cdv A outer s H vs Q E hg hr h => ?_)
  · obtain ⟨x, wd, rfl, _⟩ := h
    rfl
  · have hu := hu_of hr
    have hu64 := hr.units
    obtain ⟨x, wd, rfl, hx, hw, k⟩ := h
    refine ⟨_, (pss_cons (ps_set (i := 2) sc_places.nd rfl (Or.inl rfl) (pe_lst pa_nil))
      (pss_cons (ps_set (i := 3) sc_places.nd rfl (Or.inl rfl) (pe_bm PySem.F.plainAttrs_str PySem.F.slot_str_find PySem.F.type_str_find mt_find (pv 0) (pa_cons (pv 1) pa_nil)))
      (pss_cons (ps_while PassesOwn.never (pt_cmpR op_ge (pv 3) pe_int (nomark _)) (pss_cons (ps_expr (pe_bm PySem.F.plainAttrs_list PySem.F.slot_list_append PySem.F.type_list_append mt_append (pv 2) (pa_cons (pv 3) pa_nil)))
      (pss_one (ps_set (i := 3) sc_places.nd rfl (Or.inl rfl) (pe_bm PySem.F.plainAttrs_str PySem.F.slot_str_find PySem.F.type_str_find mt_find3 (pv 0) (pa_cons (pv 1) (pa_cons (pe_op op_add (pv 3) pe_int) pa_nil)))))))
      (pss_one (ps_ret (pv 2)))))), ?_⟩
    refine ⟨Nat.zero_le _, fun a ha => ?_⟩
    have mono : ∀ {z : Int} {lo : Nat}, True := trivial
    let PI : Nat → Int → Prop := fun lo z => lo ≤ x.length + 1 ∧ ((z = -1 ∧ ∀ i, lo ≤ i → ¬ StrLaws.At x wd x.length i) ∨ ∃ i : Nat, z = (i : Int) ∧ lo ≤ i ∧ StrLaws.At x wd x.length i ∧ ∀ k, lo ≤ k → k < i → ¬ StrLaws.At x wd x.length k)
    refine ⟨_, rfl, rfl, _, rfl, x, wd, rfl, rfl, ?_⟩
    refine ⟨fun m σ H' => ∃ (lo : Nat) (z : Int), σ = [some (.str x), some (.str wd), some (.ref a), some (.int z)] ∧ H' a = some (.lst ((((List.range lo).filter (atB x wd)).map Int.ofNat).map V.int)) ∧ Same H H' ∧ PI lo z ∧ m = if z < 0 then 0 else x.length + 2 - lo, ⟨_, 0, Txt.find x wd, rfl, upd_same, same_new ha, ⟨Nat.zero_le _, find_from x wd 0 (Nat.zero_le _)⟩, rfl⟩, ?_⟩
    rintro m σ H2 ⟨lo, z, rfl, hd, sm, ⟨hlo, hP⟩, rfl⟩
    refine ⟨_, rfl, _, _, rfl, rfl, _, rfl, ?_⟩
    refine ite2 (fun hz => ?_) (fun hz => ?_)
    · have hz0 := of_decide_eq_true hz
      rcases hP with ⟨rfl, _⟩ | ⟨i, rfl, hi, hA, hB⟩
      · exact absurd hz0 (by decide)
      · have hA1 := hA.1
        have em : (if ((i : Nat) : Int) < 0 then 0 else x.length + 2 - lo) = x.length + 2 - lo := if_neg (by omega)
        rw [em]
        have fl : ((((List.range lo).filter (atB x wd)).map Int.ofNat).map V.int).length ≤ lo := by
          rw [List.length_map, List.length_map]
          exact Nat.le_trans (List.length_filter_le _ _) (Nat.le_of_eq List.length_range)
        have snoc : (List.range (i + 1)).filter (atB x wd) = (List.range lo).filter (atB x wd) ++ [i] := by
          rw [filter_snoc ((atB_iff x wd i).mpr hA), filter_more hi fun j h1 h2 => by
            cases q : atB x wd j with
            | false => rfl
            | true => exact absurd ((atB_iff x wd j).mp q) (hB j h1 h2)]
        refine ⟨fun σ' H' => ∃ z : Int, σ' = [some (.str x), some (.str wd), some (.ref a), some (.int z)] ∧ H' a = some (.lst ((((List.range (i + 1)).filter (atB x wd)).map Int.ofNat).map V.int)) ∧ Same H H' ∧ PI (i + 1) z, ?_, ?_⟩
        · rintro σ' H' ⟨z, rfl, h1, h2, h3⟩
          refine ⟨_, ?_, i + 1, z, rfl, h1, h2, h3, rfl⟩
          split <;> omega
        · refine ⟨_, rfl, .inl ⟨rfl, _, SqL.of hd⟩, _, rfl, a, _, _, rfl, rfl, hd, Nat.lt_of_le_of_lt fl (Nat.lt_of_le_of_lt (show lo ≤ 10002 by omega) (by decide)), ?_⟩
          refine ⟨_, rfl, rfl, _, rfl, _, rfl, _, _, rfl, rfl, x, wd, _, rfl, rfl, ?_⟩
          refine ⟨_, rfl, ?_, ?_, ?_⟩
          · rw [upd_same, snoc, List.map_append, List.map_append]
            rfl
          · intro b o e
            have nb : b ≠ a := fun q => by rw [q, ha] at e; cases e
            exact (upd_ne nb).trans (sm b o e)
          · refine ⟨by omega, ?_⟩
            have ef : Txt.find3 x wd ((i : Int) + 1) = (match Builtin.Str.occurrences x wd (i + 1) x.length 1 with | i :: _ => (i : Int) | [] => -1) := by
              unfold Txt.find3
              rw [show fromIndex x.length ((i : Int) + 1) = i + 1 by unfold fromIndex; rw [if_neg (by omega)]; omega]
              cases Builtin.Str.occurrences x wd (i + 1) x.length 1 <;> rfl
            rw [ef]
            exact find_from x wd (i + 1) (by omega)
    · have hz0 : z < 0 := by
        have := of_decide_eq_false (by simpa using hz : decide (0 ≤ z) = false)
        omega
      rcases hP with ⟨rfl, hN⟩ | ⟨i, rfl, _⟩
      · refine ⟨_, rfl, k a _ ha ?_ sm⟩
        rw [hd]
        unfold plcI plc
        rw [filter_more hlo fun j h1 h2 => by
            cases q : atB x wd j with
            | false => rfl
            | true => exact absurd ((atB_iff x wd j).mp q) (hN j h1)]
      · omega

end
end Vk
set_option Elab.async false
set_option maxRecDepth 100000
set_option linter.all false
set_option maxHeartbeats 4000000
namespace Vk
open PySem PySem.Spec PyProof.Rows L2
/-! ## windows, turned and widened -/
theorem backS_list (z : Str) : (backS z).cps.toList = z.cps.toList.reverse := by
  unfold backS
  rw [List.toList_toArray]
theorem backS_len (z : Str) : (backS z).length = z.length := by
  show (z.cps.toList.reverse.toArray).size = z.cps.size
  rw [List.size_toArray, List.length_reverse, Array.length_toList]
theorem str_eq {x y : Str} (h : x.cps.toList = y.cps.toList) : x = y := Str.ext' (Array.toList_inj.mp h)
theorem backS_back (z : Str) : backS (backS z) = z := str_eq (by rw [backS_list, backS_list, List.reverse_reverse])
theorem piece_back {X : List Nat} {n i m : Nat} (hn : X.length = n) (h : i + m ≤ n) : (X.reverse.drop (n - (i + m))).take m = ((X.drop i).take m).reverse := by
  apply List.ext_getElem
  · simp only [List.length_take, List.length_drop, List.length_reverse]
    omega
  · intro j h1 h2
    simp only [List.length_take, List.length_drop, List.length_reverse] at h1 h2
    simp only [List.getElem_take, List.getElem_drop, List.getElem_reverse, List.length_take, List.length_drop]
    congr 1
    omega
theorem at_lists {x w : Str} {i : Nat} : atB x w i = true ↔ i + w.length ≤ x.length ∧ (x.cps.toList.drop i).take w.length = w.cps.toList := by
  unfold atB
  rw [StrLaws.subAt_eq, Bool.and_eq_true, decide_eq_true_eq, beq_iff_eq]
theorem at_back {x w : Str} {i : Nat} (h : atB x w i = true) : atB (backS x) (backS w) (x.length - (i + w.length)) = true := by
  obtain ⟨h1, h2⟩ := at_lists.mp h
  have xl : x.cps.toList.length = x.length := Array.length_toList
  refine at_lists.mpr ⟨by rw [backS_len, backS_len]; omega, ?_⟩
  rw [backS_list, backS_list, backS_len, piece_back xl h1, h2]
theorem plc_mem {x w : Str} {i : Nat} : i ∈ plc x w ↔ atB x w i = true := by
  unfold plc
  rw [List.mem_filter, List.mem_range]
  refine ⟨fun h => h.2, fun h => ⟨?_, h⟩⟩
  have := (at_lists.mp h).1
  omega
theorem plc_nodup {x w : Str} : (plc x w).Nodup := List.nodup_range.filter _
theorem plc_back (x w : Str) : (plc (backS x) (backS w)).Perm ((plc x w).map fun i => x.length - (i + w.length)) := by
  refine (List.perm_ext_iff_of_nodup plc_nodup ?_).mpr fun j => ?_
  · refine List.pairwise_map.mpr (List.Pairwise.imp_of_mem (fun {a b} ha hb ne e => ne ?_) plc_nodup)
    have h1 := (at_lists.mp (plc_mem.mp ha)).1
    have h2 := (at_lists.mp (plc_mem.mp hb)).1
    omega
  · rw [List.mem_map]
    constructor
    · intro h
      have a := plc_mem.mp h
      have b := at_back a
      rw [backS_back, backS_back, backS_len, backS_len] at b
      have c := (at_lists.mp a).1
      rw [backS_len, backS_len] at c
      exact ⟨_, plc_mem.mpr b, by omega⟩
    · rintro ⟨i, hi, rfl⟩
      exact plc_mem.mpr (at_back (plc_mem.mp hi))
theorem plc_back_len (x w : Str) : (plc (backS x) (backS w)).length = (plc x w).length := by
  rw [(plc_back x w).length_eq, List.length_map]
theorem once_iff {x : Str} {a b : Nat} {p : Nat × Nat} : p ∈ onceW x a b ↔ p.1 ≤ a ∧ max b (p.1 + 1) ≤ p.2 ∧ p.2 ≤ x.length ∧ twB x p.1 p.2 = false := by
  unfold onceW
  rw [List.mem_filter, mem_around]
  constructor
  · rintro ⟨⟨h1, h2, h3⟩, h4⟩
    exact ⟨by omega, h2, h3, by simpa using h4⟩
  · rintro ⟨h1, h2, h3, h4⟩
    exact ⟨⟨by omega, h2, h3⟩, by rw [h4]; rfl⟩
theorem win_def {x : Str} {a b : Nat} {p : Nat × Nat} : p ∈ winW x a b ↔ p ∈ onceW x a b ∧ ∀ q ∈ onceW x a b, p.1 ≤ q.1 → q.2 ≤ p.2 → q = p := by
  show p ∈ (onceW x a b).filter (fun s => ((onceW x a b).filter (innerB s)).isEmpty) ↔ _
  rw [List.mem_filter, List.isEmpty_iff, List.filter_eq_nil_iff]
  have inn : ∀ q : Nat × Nat, innerB p q = true ↔ q ≠ p ∧ p.1 ≤ q.1 ∧ q.2 ≤ p.2 := fun q => by
    unfold innerB
    rw [Bool.and_eq_true, Bool.and_eq_true, decide_eq_true_eq, decide_eq_true_eq, decide_eq_true_eq]
  refine and_congr_right fun _ => ⟨fun h q hq h1 h2 => ?_, fun h q hq hi => ?_⟩
  · refine Classical.byContradiction fun ne => h q hq ((inn q).mpr ⟨ne, h1, h2⟩)
  · obtain ⟨ne, h1, h2⟩ := (inn q).mp hi
    exact ne (h q hq h1 h2)
theorem win_in {x : Str} {a b : Nat} : ∀ (m : Nat) (p : Nat × Nat), p.2 - p.1 ≤ m → p ∈ onceW x a b → ∃ q ∈ winW x a b, p.1 ≤ q.1 ∧ q.2 ≤ p.2
  | 0, p, hm, hp => by
    have := (once_iff.mp hp).2.1
    omega
  | m + 1, p, hm, hp => by
    by_cases c : ∃ q ∈ onceW x a b, p.1 ≤ q.1 ∧ q.2 ≤ p.2 ∧ q ≠ p
    · obtain ⟨q, hq, h1, h2, ne⟩ := c
      have q1 := (once_iff.mp hq).2.1
      have p1 := (once_iff.mp hp).2.1
      have d : q.1 ≠ p.1 ∨ q.2 ≠ p.2 := by
        by_cases e : q.1 = p.1
        · exact .inr fun e2 => ne (Prod.ext e e2)
        · exact .inl e
      obtain ⟨r, hr, r1, r2⟩ := win_in m q (by omega) hq
      exact ⟨r, hr, by omega, by omega⟩
    · refine ⟨p, win_def.mpr ⟨hp, fun q hq h1 h2 => ?_⟩, Nat.le_refl _, Nat.le_refl _⟩
      exact Classical.byContradiction fun ne => c ⟨q, hq, h1, h2, ne⟩
theorem win_one {x : Str} {a b : Nat} {p : Nat × Nat} (h : p ∈ winW x a b) : p.1 ≤ a ∧ b ≤ p.2 ∧ p.1 < p.2 ∧ p.2 ≤ x.length ∧ plc x (cutS x (some (p.1 : Int)) (some (p.2 : Int))) = [p.1] := by
  obtain ⟨h1, h2, h3, h4⟩ := once_iff.mp (win_def.mp h).1
  refine ⟨h1, by omega, by omega, h3, ?_⟩
  have one := (plc_one (x := x) (a := p.1) (b := p.2) (by omega) h3).mpr h4
  have own := plc_own (x := x) (a := p.1) (b := p.2) (by omega) h3
  match q : plc x (cutS x (some (p.1 : Int)) (some (p.2 : Int))), one with
  | [k], _ =>
    rw [q] at own
    rw [List.mem_singleton.mp own]
theorem win_wide {x : Str} {a b c d : Nat} (h1 : c ≤ a) (h2 : b ≤ d) {p : Nat × Nat} (h : p ∈ winW x c d) : ∃ q ∈ winW x a b, p.1 ≤ q.1 ∧ q.2 ≤ p.2 := by
  obtain ⟨o1, o2, o3, o4⟩ := once_iff.mp (win_def.mp h).1
  exact win_in _ p (Nat.le_refl _) (once_iff.mpr ⟨by omega, by omega, o3, o4⟩)
theorem win_asc2 {x : Str} {a b : Nat} (hb : b ≤ x.length) : (winW x a b).Pairwise (fun p q => p.1 < q.1 ∧ p.2 < q.2) := by
  refine (winW_asc hb).imp_of_mem fun {p q} hp hq h => ⟨h, ?_⟩
  refine Nat.lt_of_not_le fun le => ?_
  have := (win_def.mp hp).2 q (win_def.mp hq).1 (Nat.le_of_lt h) le
  rw [this] at h
  exact Nat.lt_irrefl _ h
/-! ### in a mirror -/
theorem cut_back {x : Str} {i e : Nat} (h1 : i ≤ e) (h2 : e ≤ x.length) : cutS (backS x) (some ((x.length - e : Nat) : Int)) (some ((x.length - i : Nat) : Int)) = backS (cutS x (some (i : Int)) (some (e : Int))) := by
  have xl : x.cps.toList.length = x.length := Array.length_toList
  rw [cut_ab (x := backS x) (by omega) (by rw [backS_len]; omega), cut_ab h1 h2]
  refine str_eq ?_
  rw [backS_list]
  show ((((backS x).cps.toList.drop (x.length - e)).take (x.length - i - (x.length - e))).toArray).toList = (((x.cps.toList.drop i).take (e - i)).toArray).toList.reverse
  rw [List.toList_toArray, List.toList_toArray, backS_list]
  have := piece_back (X := x.cps.toList) (n := x.length) (i := i) (m := e - i) xl (by omega)
  rw [show i + (e - i) = e from by omega] at this
  rw [show x.length - i - (x.length - e) = e - i from by omega]
  exact this
theorem twB_back {x : Str} {i e : Nat} (h1 : i ≤ e) (h2 : e ≤ x.length) : twB (backS x) (x.length - e) (x.length - i) = twB x i e := by
  unfold twB
  rw [cut_back h1 h2, plc_back_len]
def turnP (n : Nat) (p : Nat × Nat) : Nat × Nat := (n - p.2, n - p.1)
theorem once_back {x : Str} {a b : Nat} (ha : a ≤ b) (hb : b ≤ x.length) {p : Nat × Nat} (h0 : p.1 < p.2) (hn : p.2 ≤ x.length) : turnP x.length p ∈ onceW (backS x) (x.length - b) (x.length - a) ↔ p ∈ onceW x a b := by
  rw [once_iff, once_iff]
  show x.length - p.2 ≤ x.length - b ∧ max (x.length - a) (x.length - p.2 + 1) ≤ x.length - p.1 ∧ x.length - p.1 ≤ (backS x).length ∧ twB (backS x) (x.length - p.2) (x.length - p.1) = false ↔ _
  rw [twB_back (by omega) hn, backS_len]
  constructor
  · rintro ⟨h1, h2, h3, h4⟩
    exact ⟨by omega, by omega, hn, h4⟩
  · rintro ⟨h1, h2, h3, h4⟩
    exact ⟨by omega, by omega, by omega, h4⟩
theorem turn_turn {n : Nat} {p : Nat × Nat} (h1 : p.1 ≤ n) (h2 : p.2 ≤ n) : turnP n (turnP n p) = p := Prod.ext (show n - (n - p.1) = p.1 by omega) (show n - (n - p.2) = p.2 by omega)
theorem win_back1 {x : Str} {a b : Nat} (ha : a ≤ b) (hb : b ≤ x.length) {p : Nat × Nat} (h : p ∈ winW x a b) : turnP x.length p ∈ winW (backS x) (x.length - b) (x.length - a) := by
  obtain ⟨w1, w2, w3, w4, _⟩ := win_one h
  obtain ⟨d1, d2⟩ := win_def.mp h
  refine win_def.mpr ⟨(once_back ha hb w3 w4).mpr d1, fun q hq h1 h2 => ?_⟩
  obtain ⟨q1, q2, q3, q4⟩ := once_iff.mp hq
  rw [backS_len] at q3
  have e : turnP x.length (turnP x.length q) = q := turn_turn (by omega) q3
  have l1 : (turnP x.length q).1 < (turnP x.length q).2 := show x.length - q.2 < x.length - q.1 by omega
  have l2 : (turnP x.length q).2 ≤ x.length := show x.length - q.1 ≤ x.length by omega
  have o := (once_back ha hb l1 l2).mp (by rw [e]; exact hq)
  have h1' : x.length - p.2 ≤ q.1 := h1
  have h2' : q.2 ≤ x.length - p.1 := h2
  have := d2 _ o (show p.1 ≤ x.length - q.2 by omega) (show x.length - q.1 ≤ p.2 by omega)
  rw [← this, e]
theorem win_back {x : Str} {a b : Nat} (ha : a ≤ b) (hb : b ≤ x.length) : winW (backS x) (x.length - b) (x.length - a) = ((winW x a b).map (turnP x.length)).reverse := by
  refine asc_eq (winW_asc (by rw [backS_len]; omega)) ?_ fun p => ?_
  · rw [List.pairwise_reverse, List.pairwise_map]
    refine (win_asc2 hb).imp_of_mem fun {p q} hp hq h => ?_
    have := (win_one hq).2.2.2.1
    show x.length - q.2 < x.length - p.2
    omega
  · rw [List.mem_reverse, List.mem_map]
    constructor
    · intro h
      have h' := win_back1 (x := backS x) (a := x.length - b) (b := x.length - a) (by omega) (by rw [backS_len]; omega) h
      rw [backS_back, backS_len] at h'
      have wo := win_one h
      rw [backS_len] at wo
      refine ⟨_, ?_, turn_turn (by omega) wo.2.2.2.1⟩
      rw [show x.length - (x.length - a) = a from by omega, show x.length - (x.length - b) = b from by omega] at h'
      exact h'
    · rintro ⟨q, hq, rfl⟩
      exact win_back1 ha hb hq
/-! ### other letters -/
theorem tw_letters {X Y : Nat → Nat} {n a b : Nat} (h : ∀ i j, i < n → j < n → (Y i = Y j ↔ X i = X j)) (h1 : a ≤ b) (h2 : b ≤ n) : Tw Y n a b ↔ Tw X n a b := by
  constructor
  · rintro ⟨k, k1, k2, k3⟩
    exact ⟨k, k1, k2, fun t ht => (h _ _ (by omega) (by omega)).mp (k3 t ht)⟩
  · rintro ⟨k, k1, k2, k3⟩
    exact ⟨k, k1, k2, fun t ht => (h _ _ (by omega) (by omega)).mpr (k3 t ht)⟩
theorem win_letters {x y : Str} {a b : Nat} (hl : y.length = x.length) (h : ∀ i j, i < x.length → j < x.length → (ltr y i = ltr y j ↔ ltr x i = ltr x j)) : winW y a b = winW x a b := by
  have tw : ∀ p ∈ aroundW x.length b (a + 1), twB y p.1 p.2 = twB x p.1 p.2 := fun p hp => by
    obtain ⟨_, h2, h3⟩ := mem_around.mp hp
    rw [Bool.eq_iff_iff, twB_iff (by omega) (by rw [hl]; exact h3), twB_iff (by omega) h3, hl]
    exact tw_letters h (by omega) h3
  unfold winW
  rw [hl]
  congr 1
  exact List.filter_congr fun p hp => by rw [tw p hp]
/-! ### a letter more in front -/
theorem front_ltr {f x : Str} {c : Nat} (hf : f.cps.toList = [c]) : (f ++ x).length = x.length + 1 ∧ ltr (f ++ x) 0 = c ∧ ∀ j, ltr (f ++ x) (j + 1) = ltr x j := by
  have e : (f ++ x).cps.toList = c :: x.cps.toList := by
    show (f.cps ++ x.cps).toList = _
    rw [Array.toList_append, hf]
    rfl
  refine ⟨?_, ?_, fun j => ?_⟩
  · show (f ++ x).cps.size = _
    rw [← Array.length_toList, e]
    show x.cps.toList.length + 1 = _
    rw [Array.length_toList]
    rfl
  · unfold ltr
    rw [e]
    rfl
  · unfold ltr
    rw [e]
    rfl
theorem ltr_in {x : Str} {j : Nat} (h : j < x.length) : ltr x j ∈ x.cps.toList := by
  have h2 : j < x.cps.toList.length := by rw [Array.length_toList]; exact h
  unfold ltr
  rw [List.getD_eq_getElem?_getD, List.getElem?_eq_getElem h2]
  exact List.getElem_mem h2
section
variable {f x : Str} {c : Nat} (hf : f.cps.toList = [c]) (hc : c ∉ x.cps.toList)
include hf hc
theorem twB_front {i e : Nat} (h1 : i < e) (h2 : e ≤ x.length) : twB (f ++ x) (i + 1) (e + 1) = twB x i e := by
  obtain ⟨fl, f0, fs⟩ := front_ltr (x := x) hf
  rw [Bool.eq_iff_iff, twB_iff (by omega) (by rw [fl]; omega), twB_iff (by omega) h2, fl]
  constructor
  · rintro ⟨k, k1, k2, k3⟩
    cases k with
    | zero =>
      have := k3 0 (by omega)
      rw [Nat.add_zero, Nat.add_zero, f0, fs] at this
      exact absurd (this ▸ ltr_in (x := x) (j := i) (by omega)) hc
    | succ k =>
      refine ⟨k, by omega, by omega, fun t ht => ?_⟩
      have := k3 t (by omega)
      rw [show k + 1 + t = (k + t) + 1 by omega, show i + 1 + t = (i + t) + 1 by omega, fs, fs] at this
      exact this
  · rintro ⟨k, k1, k2, k3⟩
    refine ⟨k + 1, by omega, by omega, fun t ht => ?_⟩
    rw [show k + 1 + t = (k + t) + 1 by omega, show i + 1 + t = (i + t) + 1 by omega, fs, fs]
    exact k3 t (by omega)
theorem twB_front0 {e : Nat} (h1 : 0 < e) (h2 : e ≤ x.length + 1) : twB (f ++ x) 0 e = false := by
  obtain ⟨fl, f0, fs⟩ := front_ltr (x := x) hf
  cases q : twB (f ++ x) 0 e with
  | false => rfl
  | true =>
    obtain ⟨k, k1, k2, k3⟩ := (twB_iff (by omega) (by rw [fl]; exact h2)).mp q
    rw [fl] at k2
    have := k3 0 (by omega)
    cases k with
    | zero => exact absurd rfl k1
    | succ k =>
      rw [Nat.add_zero, Nat.add_zero, f0, fs] at this
      exact absurd (this ▸ ltr_in (x := x) (j := k) (by omega)) hc
theorem once_front {a b : Nat} {p : Nat × Nat} : p ∈ onceW (f ++ x) (a + 1) (b + 1) ↔ (p.1 = 0 ∧ b + 1 ≤ p.2 ∧ p.2 ≤ x.length + 1) ∨ ∃ q ∈ onceW x a b, p = (q.1 + 1, q.2 + 1) := by
  obtain ⟨fl, f0, fs⟩ := front_ltr (x := x) hf
  rw [once_iff, fl]
  obtain ⟨i, e⟩ := p
  dsimp only
  constructor
  · rintro ⟨h1, h2, h3, h4⟩
    cases i with
    | zero => exact .inl ⟨rfl, by omega, h3⟩
    | succ i =>
      cases e with
      | zero => omega
      | succ e =>
        rw [twB_front hf hc (by omega) (by omega)] at h4
        exact .inr ⟨(i, e), once_iff.mpr ⟨by show i ≤ a; omega, by show max b (i + 1) ≤ e; omega, by show e ≤ x.length; omega, h4⟩, rfl⟩
  · rintro (⟨rfl, h2, h3⟩ | ⟨⟨i', e'⟩, hq, h⟩)
    · exact ⟨Nat.zero_le _, by omega, h3, twB_front0 hf hc (by omega) h3⟩
    · cases h
      obtain ⟨q1, q2, q3, q4⟩ := once_iff.mp hq
      dsimp only at q1 q2 q3 q4
      exact ⟨by omega, by omega, by omega, by rw [twB_front hf hc (by omega) q3]; exact q4⟩
theorem win_front {a b : Nat} (hb : b ≤ x.length) : winW (f ++ x) (a + 1) (b + 1) = (if (winW x a b).any (fun p => decide (p.2 ≤ b)) = true then [] else [(0, b + 1)]) ++ (winW x a b).map fun p => (p.1 + 1, p.2 + 1) := by
  obtain ⟨fl, f0, fs⟩ := front_ltr (x := x) hf
  have any : (winW x a b).any (fun p => decide (p.2 ≤ b)) = true ↔ ∃ q ∈ onceW x a b, q.2 ≤ b := by
    rw [List.any_eq_true]
    constructor
    · rintro ⟨q, hq, h⟩
      exact ⟨q, (win_def.mp hq).1, of_decide_eq_true h⟩
    · rintro ⟨q, hq, h⟩
      obtain ⟨r, hr, _, r2⟩ := win_in _ q (Nat.le_refl _) hq
      exact ⟨r, hr, decide_eq_true (by omega)⟩
  refine asc_eq (winW_asc (by rw [fl]; omega)) ?_ fun p => ?_
  · rw [List.pairwise_append]
    refine ⟨?_, ?_, fun p hp q hq => ?_⟩
    · split
      · exact .nil
      · exact List.pairwise_singleton _ _
    · rw [List.pairwise_map]
      exact (winW_asc hb).imp fun h => Nat.succ_lt_succ h
    · obtain ⟨r, _, rfl⟩ := List.mem_map.mp hq
      split at hp
      · cases hp
      · rw [List.mem_singleton.mp hp]
        exact Nat.succ_pos _
  · rw [List.mem_append, List.mem_map, win_def]
    constructor
    · rintro ⟨h1, h2⟩
      rcases (once_front hf hc).mp h1 with ⟨e0, e1, e2⟩ | ⟨q, hq, rfl⟩
      · have e3 := h2 (0, b + 1) ((once_front hf hc).mpr (.inl ⟨rfl, Nat.le_refl _, by show b + 1 ≤ _; omega⟩)) (by show p.1 ≤ 0; omega) e1
        subst e3
        refine .inl ?_
        rw [if_neg, List.mem_singleton]
        intro z
        obtain ⟨q, hq, hqb⟩ := any.mp z
        have := h2 (q.1 + 1, q.2 + 1) ((once_front hf hc).mpr (.inr ⟨q, hq, rfl⟩)) (Nat.zero_le _) (by show q.2 + 1 ≤ b + 1; omega)
        have := congrArg Prod.fst this
        exact absurd this (Nat.succ_ne_zero _)
      · refine .inr ⟨q, win_def.mpr ⟨hq, fun r hr r1 r2 => ?_⟩, rfl⟩
        have := h2 (r.1 + 1, r.2 + 1) ((once_front hf hc).mpr (.inr ⟨r, hr, rfl⟩)) (Nat.succ_le_succ r1) (Nat.succ_le_succ r2)
        obtain ⟨e1, e2⟩ := Prod.mk.inj this
        exact Prod.ext (Nat.succ.inj e1) (Nat.succ.inj e2)
    · rintro (h | ⟨q, hq, rfl⟩)
      · split at h
        · cases h
        · rename_i no
          rw [List.mem_singleton.mp h]
          refine ⟨(once_front hf hc).mpr (.inl ⟨rfl, Nat.le_refl _, by show b + 1 ≤ _; omega⟩), fun r hr r1 r2 => ?_⟩
          rcases (once_front hf hc).mp hr with ⟨e0, e1, e2⟩ | ⟨q, hq, rfl⟩
          · exact Prod.ext e0 (Nat.le_antisymm r2 e1)
          · exact absurd (any.mpr ⟨q, hq, Nat.le_of_succ_le_succ r2⟩) no
      · obtain ⟨o1, o2⟩ := win_def.mp hq
        refine ⟨(once_front hf hc).mpr (.inr ⟨q, o1, rfl⟩), fun r hr r1 r2 => ?_⟩
        rcases (once_front hf hc).mp hr with ⟨e0, e1, e2⟩ | ⟨r', hr', rfl⟩
        · have : q.1 + 1 ≤ r.1 := r1
          omega
        · rw [o2 r' hr' (Nat.le_of_succ_le_succ r1) (Nat.le_of_succ_le_succ r2)]
end
end Vk
set_option Elab.async false
set_option maxRecDepth 100000
set_option linter.all false
set_option maxHeartbeats 4000000
namespace Vk
open PySem PySem.Spec PyProof.Rows L2
theorem nodup_le : ∀ {l m : List Nat}, l.Nodup → (∀ a ∈ l, a ∈ m) → l.length ≤ m.length
  | [], m, _, _ => Nat.zero_le _
  | a :: l, m, nd, h => by
    obtain ⟨n1, n2⟩ := List.nodup_cons.mp nd
    have ha := h a List.mem_cons_self
    have := nodup_le (m := m.erase a) n2 fun b hb => (List.mem_erase_of_ne (show b ≠ a from fun e => n1 (by rw [← e]; exact hb))).mpr (h b (List.mem_cons_of_mem _ hb))
    rw [List.length_erase_of_mem ha] at this
    have : 0 < m.length := List.length_pos_of_mem ha
    rw [List.length_cons]
    omega
theorem letS_nodup : letS.cps.toList.Nodup := by decide +kernel
theorem letS_len : letS.cps.toList.length = 95 := by decide +kernel
def outL (x : Str) (l : List Nat) : List Nat := l.filter fun c => !decide (c ∈ x.cps.toList)
theorem outL_some {x : Str} (h : x.length ≤ 50) : ∃ c r, outL x letS.cps.toList = c :: r ∧ c ∈ letS.cps.toList ∧ c ∉ x.cps.toList := by
  match q : outL x letS.cps.toList with
  | c :: r =>
    have m : c ∈ outL x letS.cps.toList := by rw [q]; exact List.mem_cons_self
    obtain ⟨m1, m2⟩ := List.mem_filter.mp m
    exact ⟨c, r, rfl, m1, by simpa using m2⟩
  | [] =>
    have all : ∀ c ∈ letS.cps.toList, c ∈ x.cps.toList := fun c hc => by
      have := List.filter_eq_nil_iff.mp q c hc
      simpa using this
    have le := nodup_le letS_nodup all
    have e : x.cps.toList.length = x.length := Array.length_toList
    rw [letS_len, e] at le
    omega
section
variable {P : Program} {w : World} {K : PySem.W.Frag} {mg : Str → Option Value} {base : Heap}
/-- a letter that is not in the text -/
def spNother : Sp := fun vs H Q _ => ∃ x : Str, vs = [.str x] ∧ x.length ≤ 50 ∧ ∀ c H', c ∈ letS.cps.toList → c ∉ x.cps.toList → Same H H' → Q (.str ⟨#[c]⟩) H'
abbrev s_lnother : Stmt := top 58
theorem sc_lnother : FnScope ["_law_signs_here", "_law_sign"] ["_law_signs_here"] (defScope s_lnother) := ⟨rfl, rfl, rfl, by decide +kernel, rfl, by decide +kernel, by decide +kernel⟩
theorem b_lnother {f : Addr} {fd : FuncData} (F : Fun K "_law_nother" "_law_nother" s_lnother f fd) (T : Txt mg) (c_lsigns : CalG P w K mg base CX0 1 "_law_signs" spSigns) : FnG P w K mg base CX0 2 f fd ["_law_signs_here"] spNother := by
  refine okG0 F sc_lnother (fun vs H Q E h => ?_) (fun cdv A outer s H vs Q E hg hr h => ?_)
  · obtain ⟨x, rfl, _⟩ := h
    rfl
  · have hu := hu_of hr
    obtain ⟨x, rfl, hx, k⟩ := h
    refine ⟨_, (pss_one (ps_ret (pe_ix ix_seq (pe_lc (own := [("_law_sign", 1)]) (g := gName 1) rfl sc_lnother.nd (pi_str (pe_cG0 c_lsigns hg hr (by decide) pass0)) (blkOk_by (own := [("_law_sign", 1)]) (N := ["_law_signs_here", "_law_sign"]) (sc := defScope s_lnother) (by decide +kernel)) (fun _ _ _ _ _ => (pg_name (i := 1) sc_lnother.nd rfl (Or.inl rfl))) (fun _ _ _ _ _ => (pts_one (pt_cmpR op_notIn_sign (pv 1) (pv 0) (by rfl)))) (fun _ _ _ _ _ => (pv 1))) pe_int (fun _ _ => rfl)))), ?_⟩
    refine ⟨rfl, letS, rfl, fun D hD => ?_⟩
    refine lc_str (fun i H2 => Same H H2 ∧ H2 D = some (.lst ((outL x (letS.cps.toList.take i)).map fun c => V.str ⟨#[c]⟩))) ⟨same_new hD, upd_same⟩ (fun i c H2 hc p => ?_) (fun H2 p => ?_)
    · obtain ⟨sm, hd⟩ := p
      have hc2 : letS.cps.toList[i]? = some c := by rw [Array.getElem?_toList]; exact hc
      have fl : (outL x (letS.cps.toList.take i)).length ≤ 95 := Nat.le_trans (List.length_filter_le _ _) (by rw [List.length_take, letS_len]; omega)
      have nx : outL x (letS.cps.toList.take (i + 1)) = outL x (letS.cps.toList.take i) ++ (if (!decide (c ∈ x.cps.toList)) = true then [c] else []) := by
        unfold outL
        rw [List.take_add_one, hc2, Option.toList_some, List.filter_append]
        congr 1
        cases q : (!decide (c ∈ x.cps.toList)) with
        | true => rw [List.filter_cons_of_pos (p := fun c => !decide (c ∈ x.cps.toList)) q]; rfl
        | false => rw [List.filter_cons_of_neg (p := fun c => !decide (c ∈ x.cps.toList)) (by rw [q]; decide)]; rfl
      refine ⟨rfl, ?_⟩
      refine ⟨_, rfl, _, rfl, c, x, rfl, rfl, _, rfl, ?_⟩
      cases q : (!decide (c ∈ x.cps.toList)) with
      | false =>
        rw [q] at nx
        refine iteF ⟨sm, ?_⟩
        rw [nx]
        exact hd.trans (congrArg (fun z => some (HO.lst (List.map _ z))) (List.append_nil _).symm)
      | true =>
        rw [q] at nx
        refine iteT ⟨_, rfl, _, hd, fewL (by rw [List.length_map]; omega), upd_out hD sm, ?_⟩
        rw [nx, upd_same, List.map_append]
        rfl
    · obtain ⟨sm, hd⟩ := p
      rw [List.take_of_length_le (by rw [Array.length_toList]; exact Nat.le_refl _)] at hd
      obtain ⟨c, r, e, c1, c2⟩ := outL_some hx
      rw [e] at hd
      exact .inl ⟨D, _, 0, .str ⟨#[c]⟩, rfl, rfl, SqL.of hd, atI_nat (j := 0) rfl, k c H2 c1 c2 sm⟩
end
end Vk
set_option Elab.async false
set_option maxRecDepth 100000
set_option linter.all false
set_option maxHeartbeats 4000000
namespace Vk
open PySem PySem.Spec PyProof.Rows L2
theorem perm_strs' {ys xs : List V} (pm : List.Perm ys xs) : ∀ {l : List Str}, xs = l.map V.str → ∃ l', List.Perm l' l ∧ ys = l'.map V.str := by
  induction pm with
  | nil => intro l e; exact ⟨l, List.Perm.refl _, e⟩
  | cons x _ ih =>
    intro l e
    match l, e with
    | a :: r, e =>
      rw [List.map_cons] at e
      obtain ⟨l', q, e2⟩ := ih (List.cons.inj e).2
      exact ⟨a :: l', q.cons a, by rw [List.map_cons, ← e2, (List.cons.inj e).1]⟩
  | swap x y r =>
    intro l e
    match l, e with
    | a :: b :: r', e =>
      rw [List.map_cons, List.map_cons] at e
      obtain ⟨e1, e2⟩ := List.cons.inj e
      obtain ⟨e3, e4⟩ := List.cons.inj e2
      exact ⟨b :: a :: r', List.Perm.swap _ _ _, by rw [List.map_cons, List.map_cons, ← e1, ← e3, ← e4]⟩
  | trans _ _ ih1 ih2 =>
    intro l e
    obtain ⟨l1, q1, e1⟩ := ih2 e
    obtain ⟨l2, q2, e2⟩ := ih1 e1
    exact ⟨l2, q2.trans q1, e2⟩
theorem perm_strs {ys : List V} {l : List Str} (pm : List.Perm ys (l.map V.str)) : ∃ l', List.Perm l' l ∧ ys = l'.map V.str := perm_strs' pm rfl
section
variable {P : Program} {w : World} {K : PySem.W.Frag} {mg : Str → Option Value} {base : Heap}
/-- shuffled: the letters of a text in some order, in a new list -/
def spShufS : Sp := fun vs H Q _ => ∃ (p c : Addr) (z : Str) (T : Nat), vs = [.ref p, .str z] ∧ z.length ≤ 1000 ∧ Pen H p c T ∧ T + z.length < 1000000000 ∧
  ∀ n (ys : List Str) H', List.Perm ys (onesL z) → H n = none → H' n = some (.lst (ys.map V.str)) → Pen H' p c (T + z.length) → Ext p H H' → Q (.ref n) H'
theorem b_lshuffledS {f : Addr} {fd : FuncData} (F : Fun K "_law_shuffled" "_law_shuffled" s_lshuffled f fd) (T : Txt mg) (c_ldraw : CalG P w K mg base CX0 1 "_law_draw" spDraw) : FnG P w K mg base CX0 2 f fd ["_law_pen_here", "_law_items"] spShufS := by
  refine okG0 F sc_lshuffled (fun vs H Q E h => ?_) (fun cdv A outer s H vs Q E hg hr h => ?_)
  · obtain ⟨p, c, z, T, rfl, _⟩ := h
    rfl
  · have hu := hu_of hr
    have hu64 := hr.units
    obtain ⟨p, pc, z, T0, rfl, hz, hpen, hT, kz⟩ := h
    obtain ⟨xs, exs⟩ : ∃ xs : List V, xs = (onesL z).map V.str := ⟨_, rfl⟩
    have lx : xs.length = z.length := by rw [exs, List.length_map, onesL_len]
    have hx : xs.length ≤ 1000 := by rw [lx]; exact hz
    rw [← lx] at hT
    have k : ∀ n ys H', List.Perm ys xs → H n = none → H' n = some (.lst ys) → Pen H' p pc (T0 + xs.length) → Ext p H H' → Q (.ref n) H' := fun n ys H' pm h1 h2 h3 h4 => by
      rw [exs] at pm
      obtain ⟨zs, q1, rfl⟩ := perm_strs pm
      exact kz n zs H' q1 h1 h2 (lx ▸ h3) h4
    refine ⟨_, (pss_cons (ps_par (i := 2) (j := 3) (by rfl) sc_lshuffled.nd rfl rfl (by decide) rfl rfl (pa_cons (pe_callTy (call_list_ofStr rfl) (by rfl) T.list (by decide +kernel) (pa_cons (pv 1) pa_nil)) (pa_cons (pe_lst pa_nil) pa_nil)) (by rfl))
      (pss_cons (ps_while PassesOwn.never (pt_cmpR (op_neNil hu64) (pv 2) (pe_lst pa_nil) (nomark _)) (pss_one (ps_expr (pe_bm PySem.F.plainAttrs_list PySem.F.slot_list_append PySem.F.type_list_append mt_append (pv 3) (pa_cons (pe_bm PySem.F.plainAttrs_list PySem.F.slot_list_pop PySem.F.type_list_pop mt_popAt (pv 2) (pa_cons (pe_cG c_ldraw hg hr (by decide) pass0 (pa_cons (pv 0) (pa_cons (pe_callB call_len (by rfl) T.len (by decide +kernel) (pa_cons (pv 2) pa_nil)) pa_nil))) pa_nil)) pa_nil)))))
      (pss_one (ps_ret (pv 3))))), ?_⟩
    refine ⟨_, rfl, z, rfl, few_len hz, fun l1 hl1 => ?_⟩
    rw [← exs]
    refine ⟨few_len (Nat.zero_le _), fun l2 hl2 => ?_⟩
    have s1 := same_new (o := .lst xs) hl1
    have s2 := s1.trans (same_new (o := .lst []) hl2)
    have n12 : l1 ≠ l2 := ne_of_none upd_same hl2
    have hl2H := none_up s1 hl2
    have a1 := hpen.apart hl1
    have a2 := hpen.apart hl2H
    refine ⟨_, _, rfl, ?_⟩
    refine ⟨fun m σ H' => ∃ ls fs, σ = [some (.ref p), some (.str z), some (.ref l1), some (.ref l2)] ∧ H' l1 = some (.lst ls) ∧ H' l2 = some (.lst fs) ∧ List.Perm (fs ++ ls) xs ∧ Pen H' p pc (T0 + fs.length) ∧ Ext p H H' ∧ m = ls.length, ⟨_, xs, [], rfl, (upd_ne n12).trans upd_same, upd_same, List.Perm.refl _, hpen.stay s2, .same s2, rfl⟩, ?_⟩
    rintro m σ H1 ⟨ls, fs, rfl, h1, h2, pm, P1, x1, rfl⟩
    have len : fs.length + ls.length = xs.length := by rw [← List.length_append]; exact pm.length_eq
    refine ⟨_, rfl, few_len (Nat.zero_le _), fun q hq => ⟨l1, ls, q, rfl, rfl, SqL.of ((same_new hq) _ _ h1), SqL.of upd_same, _, rfl, ?_⟩⟩
    have sq := same_new (o := .lst []) hq
    have P2 := P1.stay sq
    have x2 := x1.trans (.same sq)
    have h1' := sq _ _ h1
    have h2' := sq _ _ h2
    generalize upd H1 q (.lst []) = H2 at P2 x2 h1' h2' ⊢
    match ls, h1', pm, len with
    | [], h1', pm, len =>
      refine iteF ⟨_, rfl, k l2 fs H2 (by rw [List.append_nil] at pm; exact pm) hl2H h2' ?_ x2⟩
      rw [List.length_nil] at len
      rw [← len]
      exact P2
    | y :: ys, h1', pm, len =>
      rw [List.length_cons] at len
      refine iteT ⟨fun σ' H' => ∃ ls fs, σ' = [some (.ref p), some (.str z), some (.ref l1), some (.ref l2)] ∧ H' l1 = some (.lst ls) ∧ H' l2 = some (.lst fs) ∧ List.Perm (fs ++ ls) xs ∧ Pen H' p pc (T0 + fs.length) ∧ Ext p H H' ∧ ls.length = ys.length, ?_, ?_⟩
      · rintro σ' H' ⟨ls, fs, e, q1, q2, q3, q4, q5, q6⟩
        exact ⟨_, by rw [List.length_cons, q6]; exact Nat.lt_succ_self _, ls, fs, e, q1, q2, q3, q4, q5, rfl⟩
      · refine ⟨_, rfl, .inl ⟨rfl, _, SqL.of h2'⟩, ?_⟩
        refine ⟨_, rfl, .inl ⟨rfl, _, SqL.of h1'⟩, ?_⟩
        refine ⟨_, rfl, _, rfl, .ref l1, _, rfl, .inl ⟨_, SqL.of h1', rfl⟩, p, pc, _, _, rfl, by rw [List.length_cons]; omega, by rw [List.length_cons]; omega, P2, by omega, fun d H3 d0 d1 P3 x3 => ?_⟩
        have g1 := P2.keepI x3 h1'
        have g2 := P2.keepI x3 h2'
        have dl : d.toNat < (y :: ys).length := by omega
        refine ⟨l1, _, d, d.toNat, (y :: ys)[d.toNat], rfl, rfl, g1, by omega, by rw [List.length_cons] at d1; omega, seq_at d0 d1, List.getElem?_eq_getElem dl, ?_⟩
        have g2' : (upd H3 l1 (.lst ((y :: ys).eraseIdx d.toNat))) l2 = some (.lst fs) := (upd_ne n12.symm).trans g2
        refine ⟨l2, fs, _, rfl, rfl, g2', fewL (by omega), ?_⟩
        refine ⟨_, _, rfl, (upd_ne n12).trans upd_same, upd_same, ?_, ?_, ?_, ?_⟩
        · refine List.Perm.trans ?_ pm
          rw [List.append_assoc]
          exact List.Perm.append_left _ (perm_erase dl)
        · rw [List.length_append, List.length_singleton, ← Nat.add_assoc]
          exact (P3.set a1.1 a1.2).set a2.1 a2.2
        · exact ((x2.trans x3).set hl1).set hl2H
        · rw [List.length_eraseIdx_of_lt dl, List.length_cons]
          rfl
end
end Vk
set_option Elab.async false
set_option maxRecDepth 100000
set_option linter.all false
set_option maxHeartbeats 4000000
namespace Vk
open PySem PySem.Spec PyProof.Rows L2
theorem pds_can : ∀ ws : List (Nat × Nat), PyData.canLayAll0 (ws.map pD) = true
  | [] => rfl
  | p :: r => by
    show (PyData.canLay0 (pD p) && PyData.canLayAll0 (r.map pD)) = true
    rw [pds_can r]
    rfl
theorem pds_depth : ∀ ws : List (Nat × Nat), PyData.depthAll (ws.map pD) ≤ 1
  | [] => Nat.zero_le _
  | p :: r => by
    show max (PyData.depth (pD p)) (PyData.depthAll (r.map pD)) ≤ 1
    have h : PyData.depth (pD p) = 1 := rfl
    have := pds_depth r
    omega
theorem pds_shaped (ws : List (Nat × Nat)) : SeqAt.shaped (.list (ws.map pD)) = true := by
  have h1 : PyData.canLay0 (.list (ws.map pD)) = true := pds_can ws
  have h2 : PyData.depth (.list (ws.map pD)) ≤ 2 := Nat.succ_le_succ (pds_depth ws)
  unfold SeqAt.shaped
  rw [h1, Bool.true_and]
  exact decide_eq_true (Nat.le_trans h2 (by decide))
theorem pds_refl (ws : List (Nat × Nat)) : PyData.eqv (.list (ws.map pD)) (.list (ws.map pD)) = true := SeqAt.eqv_refl _ (pds_can ws)
/-! ## other letters -/
theorem merge_any {kvs : List (Key × V)} {k : Key} (h : k ∉ kvs.map (·.1)) : (kvs.any fun kv => decide (kv.1 = k)) = false := by
  rw [List.any_eq_false]
  intro p hp e
  exact h (List.mem_map.mpr ⟨p, hp, of_decide_eq_true e⟩)
theorem merge_new : ∀ {more kvs : List (Key × V)}, ((kvs ++ more).map (·.1)).Nodup → mergeK kvs more = kvs ++ more
  | [], kvs, _ => (List.append_nil _).symm
  | p :: r, kvs, h => by
    have e : putK kvs p.1 p.2 = kvs ++ [p] := by
      unfold putK
      rw [if_neg]
      rw [merge_any]
      · decide
      · rw [List.map_append, List.map_cons] at h
        intro q
        exact (List.nodup_append.mp h).2.2 _ q _ List.mem_cons_self rfl
    show mergeK (putK kvs p.1 p.2) r = _
    rw [e, merge_new (by rw [List.append_assoc]; exact h), List.append_assoc]
    rfl
theorem val_zip {f : Nat → V} : ∀ {ys : List Str} {ds : List Nat} {i : Nat} {y : Str} {d : Nat}, ys.Nodup → ys[i]? = some y → ds[i]? = some d → valV ((ys.map Sum.inr).zip (ds.map f)) (.inr y : Key) = some (f d)
  | [], _, _, _, _, _, h, _ => by simp at h
  | _ :: _, [], _, _, _, _, _, h => by simp at h
  | y0 :: ys, d0 :: ds, 0, y, d, _, h1, h2 => by
    cases Option.some.inj h1
    cases Option.some.inj h2
    exact valV_pos (p := ((.inr y0 : Key), f d0)) rfl
  | y0 :: ys, d0 :: ds, i + 1, y, d, nd, h1, h2 => by
    have h1' : ys[i]? = some y := by simpa using h1
    have h2' : ds[i]? = some d := by simpa using h2
    obtain ⟨n1, n2⟩ := List.nodup_cons.mp nd
    refine (valV_neg (p := ((.inr y0 : Key), f d0)) fun e => ?_).trans (val_zip (ys := ys) (ds := ds) n2 h1' h2')
    have : y0 = y := Sum.inr.inj e
    exact n1 (this ▸ List.mem_of_getElem? h1')
theorem others_is {x : Str} {ys zs : List Str} (nd : ys.Nodup) (mem : ∀ y, y ∈ ys ↔ y ∈ onesL x) (len : ys.length ≤ zs.length) (pz : zs.Perm (onesL letS)) :
    ∃ rd : Nat → Nat, (∀ c ∈ x.cps.toList, valV (mergeK [] ((ys.map Sum.inr).zip (zs.map V.str))) (.inr (⟨#[c]⟩ : Str) : Key) = some (.str ⟨#[rd c]⟩)) ∧ ∀ c ∈ x.cps.toList, ∀ d ∈ x.cps.toList, rd c = rd d → c = d := by
  obtain ⟨ds, pd, rfl⟩ : ∃ ds : List Nat, ds.Perm letS.cps.toList ∧ zs = ds.map fun c => (⟨#[c]⟩ : Str) := by
    refine ⟨zs.map fun z => z.cps.toList.headD 0, ?_, ?_⟩
    · have := pz.map fun z : Str => z.cps.toList.headD 0
      unfold onesL at this
      rw [List.map_map] at this
      exact (List.map_id letS.cps.toList) ▸ this
    · rw [List.map_map]
      refine (List.map_id zs).symm.trans (List.map_congr_left fun z hz => ?_)
      obtain ⟨c, _, rfl⟩ := List.mem_map.mp (pz.mem_iff.mp hz)
      rfl
  rw [List.length_map] at len
  have ndd : ds.Nodup := pd.nodup_iff.mpr letS_nodup
  have pick : ∀ c ∈ x.cps.toList, ∃ i, ys[i]? = some (⟨#[c]⟩ : Str) := fun c hc => List.mem_iff_getElem?.mp ((mem _).mpr (List.mem_map.mpr ⟨c, hc, rfl⟩))
  have mk : mergeK [] ((ys.map Sum.inr).zip ((ds.map fun c => (⟨#[c]⟩ : Str)).map V.str)) = (ys.map Sum.inr).zip (ds.map fun c => V.str ⟨#[c]⟩) := by
    rw [List.map_map, merge_new]
    · rfl
    · rw [List.nil_append, List.map_fst_zip (by rw [List.length_map, List.length_map]; exact len)]
      exact List.Pairwise.map _ (fun a b ne e => ne (Sum.inr.inj e)) nd
  have one : ∀ c ∈ x.cps.toList, ∃ i, ys[i]? = some (⟨#[c]⟩ : Str) ∧ i < ds.length := fun c hc => by
    obtain ⟨i, hi⟩ := pick c hc
    exact ⟨i, hi, Nat.lt_of_lt_of_le (List.getElem?_eq_some_iff.mp hi).1 len⟩
  let rd : Nat → Nat := fun c => ds.getD (ys.idxOf (⟨#[c]⟩ : Str)) 0
  have idx : ∀ c ∈ x.cps.toList, ys[ys.idxOf (⟨#[c]⟩ : Str)]? = some (⟨#[c]⟩ : Str) ∧ ds[ys.idxOf (⟨#[c]⟩ : Str)]? = some (rd c) := fun c hc => by
    have m : (⟨#[c]⟩ : Str) ∈ ys := (mem _).mpr (List.mem_map.mpr ⟨c, hc, rfl⟩)
    have lt : ys.idxOf (⟨#[c]⟩ : Str) < ys.length := List.idxOf_lt_length_of_mem m
    have lt2 : ys.idxOf (⟨#[c]⟩ : Str) < ds.length := Nat.lt_of_lt_of_le lt len
    refine ⟨?_, ?_⟩
    · rw [List.getElem?_eq_getElem lt]
      exact congrArg some (List.getElem_idxOf lt)
    · show _ = some (ds.getD _ 0)
      rw [List.getD_eq_getElem?_getD, List.getElem?_eq_getElem lt2]
      rfl
  refine ⟨rd, fun c hc => ?_, fun c hc d hd e => ?_⟩
  · rw [mk]
    exact val_zip (f := fun c => V.str ⟨#[c]⟩) nd (idx c hc).1 (idx c hc).2
  · obtain ⟨c1, c2⟩ := idx c hc
    obtain ⟨d1, d2⟩ := idx d hd
    have l1 := (List.getElem?_eq_some_iff.mp c2).1
    have l2 := (List.getElem?_eq_some_iff.mp d2).1
    have e2 : ys.idxOf (⟨#[c]⟩ : Str) = ys.idxOf (⟨#[d]⟩ : Str) := by
      have ee : ds[ys.idxOf (⟨#[c]⟩ : Str)] = ds[ys.idxOf (⟨#[d]⟩ : Str)] := by
        rw [(List.getElem?_eq_some_iff.mp c2).2, (List.getElem?_eq_some_iff.mp d2).2, e]
      rcases Nat.lt_trichotomy (ys.idxOf (⟨#[c]⟩ : Str)) (ys.idxOf (⟨#[d]⟩ : Str)) with h | h | h
      · exact absurd ee (List.pairwise_iff_getElem.mp ndd _ _ l1 l2 h)
      · exact h
      · exact absurd ee.symm (List.pairwise_iff_getElem.mp ndd _ _ l2 l1 h)
    rw [e2, d1] at c1
    have := Option.some.inj c1
    have := congrArg (fun z : Str => z.cps.toList) this
    simpa using this.symm
def otherS (rd : Nat → Nat) (x : Str) : Str := ⟨(x.cps.toList.map rd).toArray⟩
theorem other_len {rd : Nat → Nat} {x : Str} : (otherS rd x).length = x.length := by
  show (x.cps.toList.map rd).toArray.size = x.cps.size
  rw [List.size_toArray, List.length_map, Array.length_toList]
theorem other_ltr {rd : Nat → Nat} {x : Str} {i : Nat} (h : i < x.length) : ltr (otherS rd x) i = rd (ltr x i) := by
  have h2 : i < x.cps.toList.length := by rw [Array.length_toList]; exact h
  unfold ltr otherS
  rw [List.toList_toArray, List.getD_eq_getElem?_getD, List.getD_eq_getElem?_getD, List.getElem?_map, List.getElem?_eq_getElem h2]
  rfl
theorem other_win {rd : Nat → Nat} {x : Str} (inj : ∀ c ∈ x.cps.toList, ∀ d ∈ x.cps.toList, rd c = rd d → c = d) {a b : Nat} : winW (otherS rd x) a b = winW x a b :=
  win_letters other_len fun i j hi hj => by
    rw [other_ltr hi, other_ltr hj]
    exact ⟨fun e => inj _ (ltr_in hi) _ (ltr_in hj) e, fun e => by rw [e]⟩
theorem other_join (rd : Nat → Nat) (x : Str) : Txt.join "" ((x.cps.toList.map rd).map fun c => (⟨#[c]⟩ : Str)) = otherS rd x := join_ones _
end Vk
set_option Elab.async false
set_option maxRecDepth 100000
set_option linter.all false
set_option maxHeartbeats 4000000
namespace Vk
open PySem PySem.Spec PyProof.Rows L2
section
variable {P : Program} {w : World} {K : PySem.W.Frag} {mg : Str → Option Value} {base : Heap}
variable {C_InvalidSpot : Addr}
theorem seq_mid {A B : TS} {D : Ends} {σ : L2.St} {H : Hp} (Mid : L2.St → Hp → Prop) (h1 : ∀ D', (∀ σ H, Mid σ H → D'.nx σ H) → A D' σ H) (h2 : ∀ σ H, Mid σ H → B D σ H) : tSeq A B D σ H := h1 _ h2
theorem name_go {i : Nat} {v : V} {σ : L2.St} {H : Hp} {Q : L2.St → Hp → Prop} (h : Q (σ.set i (some v)) H) : gName i v σ H Q := h
theorem pds_showy {n : Nat} (hn : n ≤ 100) {ws : List (Nat × Nat)} (h : ∀ p ∈ ws, p.1 ≤ n ∧ p.2 ≤ n) : Showy (.list (ws.map pD)) 2 (ws.length * 210 + 2) := by
  have one : ∀ d ∈ ws.map pD, Showy d 1 208 := fun d hd => by
    obtain ⟨p, hp, rfl⟩ := List.mem_map.mp hd
    have q := h p hp
    have small : ∀ k : Nat, k ≤ 100 → ((k : Nat) : Int).natAbs < 10 ^ 100 := fun k hk => Nat.lt_of_le_of_lt (show ((k : Nat) : Int).natAbs ≤ 100 by omega) (by decide +kernel)
    refine Showy.tuple (k := 0) (n := 101) (ds := [.int (p.1 : Nat), .int (p.2 : Nat)]) fun e he => ?_
    simp only [List.mem_cons, List.not_mem_nil, or_false] at he
    rcases he with rfl | rfl
    · exact Showy.int (small _ (by omega))
    · exact Showy.int (small _ (by omega))
  have q := Showy.list one
  rw [List.length_map] at q
  exact q
theorem turned_is {H : Hp} {us ys : List V} {M N : List (Nat × Nat)} (pu : PrN H us M) (hp : ys.Perm us) (eM : M.reverse = N) (asc : N.Pairwise (fun p q => p.1 < q.1)) (low : ∀ p ∈ M, p.1 < 64 ∧ p.2 < 64)
    (so : ys.Pairwise (fun x y => ∀ n m, TupI K H x n → TupI K H y m → TS.code 64 n ≤ TS.code 64 m)) : PrN H ys N := by
  obtain ⟨L, q1, q2⟩ := paired_perm hp pu
  have ne : N.Pairwise (fun p q => p.1 ≠ q.1) := asc.imp fun h => Nat.ne_of_lt h
  have pmN : L.Perm N := q1.trans (eM ▸ (List.reverse_perm M).symm)
  have neL : L.Pairwise (fun p q => p.1 ≠ q.1) := (pmN.pairwise_iff fun h => Ne.symm h).mpr ne
  have le : L.Pairwise (fun p q => p.1 ≤ q.1) := by
    have gl := paired_len q2
    refine List.pairwise_iff_getElem.mpr fun i j hi hj hij => ?_
    have i' : i < ys.length := by omega
    have j' : j < ys.length := by omega
    obtain ⟨p, hp1, tu, eu, htu⟩ := paired_at q2 (List.getElem?_eq_getElem i')
    obtain ⟨r, hr1, tv, ev, htv⟩ := paired_at q2 (List.getElem?_eq_getElem j')
    have ep : L[i] = p := (List.getElem?_eq_some_iff.mp hp1).2
    have er : L[j] = r := (List.getElem?_eq_some_iff.mp hr1).2
    have c := List.pairwise_iff_getElem.mp so i j i' j' hij [((p.1 : Nat) : Int), ((p.2 : Nat) : Int)] [((r.1 : Nat) : Int), ((r.2 : Nat) : Int)] ⟨tu, eu, SqT.of htu⟩ ⟨tv, ev, SqT.of htv⟩
    rw [ep, er]
    have l1 := low _ (q1.mem_iff.mp (List.mem_of_getElem? hp1))
    have l2 := low _ (q1.mem_iff.mp (List.mem_of_getElem? hr1))
    rw [code_pair, code_pair] at c
    omega
  have lt : L.Pairwise (fun p q => p.1 < q.1) := (le.and neL).imp fun ⟨a, b⟩ => Nat.lt_of_le_of_ne a b
  rw [asc_eq lt asc fun p => pmN.mem_iff] at q2
  exact q2
theorem at_wins {CS : Addr} {x : Str} {a b : Nat} {H : Hp} {Q : VK} {E : XK} {i j : Int} (hi : i = (a : Nat)) (hj : j = (b : Nat)) (hx : x.length ≤ 20) (hab : a ≤ b) (hb : b ≤ x.length) (k : ∀ (l : Addr) (ys : List V) H', H l = none → H' l = some (.lst ys) → PrN H' ys (winW x a b) → Same H H' → Q (.ref l) H') : spWins CS [.str x, .int i, .int j] H Q E := by
  subst hi hj
  refine ⟨x, _, .int (a : Nat), _, .int (b : Nat), rfl, .atm (.int _), .atm (.int _), hx, fun z => ?_, fun i e i0 i1 z => ?_, fun a' b' e1 e2 _ _ => ?_⟩
  · have e : inI (.int (a : Nat)) 0 (x.length : Nat) = true := by
      show (decide ((0 : Int) ≤ (a : Nat)) && decide (((a : Nat) : Int) ≤ (x.length : Nat))) = true
      rw [decide_eq_true (by omega), decide_eq_true (by omega)]
      rfl
    exact nomatch e.symm.trans z
  · cases e
    have e : inI (.int (b : Nat)) ((a : Nat) : Int) (x.length : Nat) = true := by
      show (decide (((a : Nat) : Int) ≤ (b : Nat)) && decide (((b : Nat) : Int) ≤ (x.length : Nat))) = true
      rw [decide_eq_true (by omega), decide_eq_true (by omega)]
      rfl
    exact nomatch e.symm.trans z
  · have h1 : a = a' := by
      have := PyData.int.inj e1
      omega
    have h2 : b = b' := by
      have := PyData.int.inj e2
      omega
    subst h1 h2
    exact k
theorem tc3w {sp : Sp} {E : XK} {i j k : Nat} {u v w : V} {σ : L2.St} {H : Hp} {Q : VK} (hi : σ[i]? = some (some u)) (hj : σ[j]? = some (some v)) (hk : σ[k]? = some (some w)) (h : sp [u, v, w] H Q E) : tCall sp [] E (tCons (tVar i) (tCons (tVar j) (tCons (tVar k) tNil))) σ H Q := ⟨u, hi, v, hj, w, hk, h⟩
theorem pen_tup {H H1 : Hp} {p c : Addr} {T : Nat} (q : Pen H p c T) (x : Ext p H H1) : ∀ u ws, H u = some (.tup ws) → H1 u = some (.tup ws) := fun u ws h => x u _ h fun e => by
  obtain ⟨t, l, z⟩ := q.is
  rw [e, z] at h
  cases h
theorem tcRev {sp : Sp} {E : XK} {i j k m : Nat} {z : Str} {a b c : Int} {σ : L2.St} {H : Hp} {Q : VK} (hi : σ[i]? = some (some (.str z))) (hl : z.length ≤ sizeLine) (hj : σ[j]? = some (some (.int a))) (hk : σ[k]? = some (some (.int b))) (hm : σ[m]? = some (some (.int c))) (h : sp [.str (backS z), .int (a - b), .int (a - c)] H Q E) :
    tCall sp [] E (tCons (tRevS (tVar i)) (tCons (tOp (rI0 fun i j => V.int (i - j)) (tVar j) (tVar k)) (tCons (tOp (rI0 fun i j => V.int (i - j)) (tVar j) (tVar m)) tNil))) σ H Q := ⟨_, hi, z, rfl, hl, _, hj, _, hk, _, _, rfl, rfl, _, hj, _, hm, _, _, rfl, rfl, h⟩
theorem tcFar {sp : Sp} {E : XK} {i j k m : Nat} {y z : Str} {b c : Int} {σ : L2.St} {H : Hp} {Q : VK} (hi : σ[i]? = some (some (.str y))) (hj : σ[j]? = some (some (.str z))) (hl : y.length + z.length ≤ sizeLine) (hk : σ[k]? = some (some (.int b))) (hm : σ[m]? = some (some (.int c))) (h : sp [.str (y ++ z), .int (b + 1), .int (c + 1)] H Q E) :
    tCall sp [] E (tCons (tOp (fun x y H Q => ∃ i j, x = V.str i ∧ y = V.str j ∧ i.length + j.length ≤ sizeLine ∧ Q (V.str (i ++ j)) H) (tVar i) (tVar j)) (tCons (tOp (rI0 fun i j => V.int (i + j)) (tVar k) (tC (.int 1))) (tCons (tOp (rI0 fun i j => V.int (i + j)) (tVar m) (tC (.int 1))) tNil))) σ H Q := ⟨_, hi, _, hj, _, _, rfl, rfl, hl, _, hk, _, _, rfl, rfl, _, hm, _, _, rfl, rfl, h⟩
def upP (p : Nat × Nat) : Nat × Nat := (p.1 + 1, p.2 + 1)
theorem paired_append {α β : Type} {R : α → β → Prop} : ∀ {xs zs : List α} {ys ws : List β}, Paired R xs ys → Paired R zs ws → Paired R (xs ++ zs) (ys ++ ws)
  | _, _, _, _, .nil, h => h
  | _, _, _, _, .cons a t, h => .cons a (paired_append t h)
def spLaw (K : PySem.W.Frag) : Sp := fun vs H Q _ => ∃ (a : Addr) (ns : List Int), vs = [.ref a] ∧ SqL K H a (ns.map V.int) ∧ ns.length ≤ 63 ∧ ∀ H', Q (.bl true) H'
abbrev s_law : Stmt := top 59
theorem sc_law : FnScope ["_law_script", "_law_pen_here", "_law_turn", "_law_signs_here", "_law_here", "_law_size", "_law_far", "_law_again", "_law_a", "_law_b", "_law_told", "_law_span", "_law_turned", "_law_k", "_law_tip", "_law_others", "_law_sign", "_law_later", "_law_more", "_law_c", "_law_d"] ["_law_script"] (defScope s_law) := ⟨rfl, rfl, rfl, by decide +kernel, rfl, by decide +kernel, by decide +kernel⟩
theorem b_law {f : Addr} {fd : FuncData} (F : Fun K "law" "law" s_law f fd) (T : Txt mg) (mSorted : mg "sorted" = none) (mSet : mg "set" = none) (mDict : mg "dict" = none) (mZip : mg "zip" = none) (c_lpen : CalG P w K mg base CX0 1 "_law_pen" (spPen K)) (c_lfew : CalG P w K mg base CX0 3 "_law_few" spFew) (c_ldraw : CalG P w K mg base CX0 1 "_law_draw" spDraw) (c_lsigns : CalG P w K mg base CX0 1 "_law_signs" spSigns) (c_lntext : CalG P w K mg base CX0 4 "_law_ntext" spNtext) (c_lnspot : CalG P w K mg base CX0 3 "_law_nspot" spSpot) (c_lnother : CalG P w K mg base CX0 2 "_law_nother" spNother) (c_lshuffled : CalG P w K mg base CX0 2 "_law_shuffled" spShufS) (c_places : CalG P w K mg base CX0 1 "places" (spPlaces K)) (c_windows : CalG P w K mg base (L2.CX P w) 4 "windows" (spWins C_InvalidSpot)) : FnG P w K mg base CX0 6 f fd ["_law_script"] (spLaw K) := by
  refine okG0 F sc_law (fun vs H Q E h => ?_) (fun cdv A outer s H vs Q E hg hr h => ?_)
  · obtain ⟨a, ns, rfl, _⟩ := h
    rfl
  · have hu := hu_of hr
    have hu64 := hr.units
    obtain ⟨a, ns, rfl, hS, hlen, k⟩ := h
    refine ⟨_, (pss_cons (ps_set (i := 1) sc_law.nd rfl (Or.inl rfl) (pe_cG c_lpen hg hr (by decide) pass0 (pa_cons (pv 0) pa_nil)))
      (pss_cons (ps_for PassesOwn.never rfl (pi_range1 rfl T.range (pa_cons (pe_op op_add pe_int (pe_callB (call_min2 rfl) (by rfl) T.min (by decide +kernel) (pa_cons pe_int (pa_cons (pe_callB call_len (by rfl) T.len (by decide +kernel) (pa_cons (pv 0) pa_nil)) pa_nil)))) pa_nil)) (pg_name (i := 2) sc_law.nd rfl (Or.inl rfl)) (pss_cons (ps_set (i := 3) sc_law.nd rfl (Or.inl rfl) (pe_cG c_lfew hg hr (by decide) pass0 (pa_cons (pv 1) pa_nil)))
      (pss_cons (ps_set (i := 4) sc_law.nd rfl (Or.inr rfl) (pe_cG c_lntext hg hr (by decide) pass0 (pa_cons (pv 1) (pa_cons (pv 3) (pa_cons pe_int pa_nil)))))
      (pss_cons (ps_asg (pe_tup (pa_cons (pe_callB call_len (by rfl) T.len (by decide +kernel) (pa_cons (pv 4) pa_nil)) (pa_cons (pe_cG c_lnother hg hr (by decide) pass0 (pa_cons (pv 4) pa_nil)) pa_nil))) (pg_tup rfl (pgs_cons (pg_name (i := 5) sc_law.nd rfl (Or.inr rfl)) (pgs_cons (pg_name (i := 6) sc_law.nd rfl (Or.inl rfl)) pgs_nil))))
      (pss_one (ps_for PassesOwn.never rfl (pi_range1 rfl T.range (pa_cons pe_int pa_nil)) (pg_name (i := 7) sc_law.nd rfl (Or.inl rfl)) (pss_cons (ps_asg (pe_cG c_lnspot hg hr (by decide) pass0 (pa_cons (pv 1) (pa_cons (pv 4) pa_nil))) (pg_tup rfl (pgs_cons (pg_name (i := 8) sc_law.nd rfl (Or.inl rfl)) (pgs_cons (pg_name (i := 9) sc_law.nd rfl (Or.inr rfl)) pgs_nil))))
      (pss_cons (ps_set (i := 10) sc_law.nd rfl (Or.inl rfl) (pe_cG c_windows hg hr (by decide) passesF (pa_cons (pv 4) (pa_cons (pv 8) (pa_cons (pv 9) pa_nil)))))
      (pss_cons (ps_if (pt_cmpR (op_neNil hu64) (pe_lc (own := [("_law_span", 11)]) (g := gName 11) rfl sc_law.nd (pi_list (pv 10)) (blkOk_by (own := [("_law_span", 11)]) (N := ["_law_script", "_law_pen_here", "_law_turn", "_law_signs_here", "_law_here", "_law_size", "_law_far", "_law_again", "_law_a", "_law_b", "_law_told", "_law_span", "_law_turned", "_law_k", "_law_tip", "_law_others", "_law_sign", "_law_later", "_law_more", "_law_c", "_law_d"]) (sc := defScope s_law) (by decide +kernel)) (fun _ _ _ _ _ => (pg_name (i := 11) sc_law.nd rfl (Or.inl rfl))) (fun _ _ _ _ _ => (pts_one (pt_cmpR (op_neDK (K := K) rfl hu64) (pe_cG c_places hg hr (by decide) pass0 (pa_cons (pv 4) (pa_cons (pe_slice sl_str (pv 4) (po_some (pe_ix (ix_seqK (K := K) rfl) (pv 11) pe_int (fun _ _ => rfl))) (po_some (pe_ix (ix_seqK (K := K) rfl) (pv 11) pe_int (fun _ _ => rfl)))) pa_nil))) (pe_lst (pa_cons (pe_ix (ix_seqK (K := K) rfl) (pv 11) pe_int (fun _ _ => rfl)) pa_nil)) (nomark _)))) (fun _ _ _ _ _ => (pv 11))) (pe_lst pa_nil) (nomark _)) (pss_one (ps_ret pe_bl)) pss_nil)
      (pss_cons (ps_set (i := 12) sc_law.nd rfl (Or.inl rfl) (pe_callB (cr_sortT (d := 2) (B := 64) (by decide)) (by rfl) mSorted (by decide +kernel) (pa_cons (pe_lc (own := [("_law_k", 13), ("_law_tip", 14)]) (g := (gTup K 2 (gCons (gName 13) (gCons (gName 14) gNil)))) (tt := tYes) rfl sc_law.nd (pi_list (pv 10)) (blkOk_by (own := [("_law_k", 13), ("_law_tip", 14)]) (N := ["_law_script", "_law_pen_here", "_law_turn", "_law_signs_here", "_law_here", "_law_size", "_law_far", "_law_again", "_law_a", "_law_b", "_law_told", "_law_span", "_law_turned", "_law_k", "_law_tip", "_law_others", "_law_sign", "_law_later", "_law_more", "_law_c", "_law_d"]) (sc := defScope s_law) (by decide +kernel)) (fun _ _ _ _ _ => (pg_tupK (K := K) (n := 2) rfl rfl (pgs_cons (pg_name (i := 13) sc_law.nd rfl (Or.inl rfl)) (pgs_cons (pg_name (i := 14) sc_law.nd rfl (Or.inl rfl)) pgs_nil)))) (fun _ _ _ _ _ => pts_nil) (fun _ _ _ _ _ => (pe_tup (pa_cons (pe_op op_sub (pv 5) (pv 14)) (pa_cons (pe_op op_sub (pv 5) (pv 13)) pa_nil))))) pa_nil)))
      (pss_cons (ps_if (pt_cmpR op_ne (pe_callB (Vk.call_reprD hg hu64) (by rfl) T.repr (by decide +kernel) (pa_cons (pe_cG c_windows hg hr (by decide) passesF (pa_cons (pe_revS (pv 4)) (pa_cons (pe_op op_sub (pv 5) (pv 9)) (pa_cons (pe_op op_sub (pv 5) (pv 8)) pa_nil)))) pa_nil)) (pe_callB (Vk.call_reprD hg hu64) (by rfl) T.repr (by decide +kernel) (pa_cons (pv 12) pa_nil)) (nomark _)) (pss_one (ps_ret pe_bl)) pss_nil)
      (pss_cons (ps_set (i := 15) sc_law.nd rfl (Or.inr rfl) (pe_dictZip rfl (by rfl) mDict (by rfl) mZip (pa_cons (pe_sortSet rfl (by rfl) mSorted (by rfl) mSet (pv 4)) (pa_cons (pe_cG c_lshuffled hg hr (by decide) pass0 (pa_cons (pv 1) (pa_cons (pe_cG0 c_lsigns hg hr (by decide) pass0) pa_nil))) pa_nil))))
      (pss_cons (ps_if (pt_cmpR (op_neD hu64) (pe_cG c_windows hg hr (by decide) passesF (pa_cons (pe_join pe_str (pe_lc (own := [("_law_sign", 16)]) (g := gName 16) (tt := tYes) rfl sc_law.nd (pi_str (pv 4)) (blkOk_by (own := [("_law_sign", 16)]) (N := ["_law_script", "_law_pen_here", "_law_turn", "_law_signs_here", "_law_here", "_law_size", "_law_far", "_law_again", "_law_a", "_law_b", "_law_told", "_law_span", "_law_turned", "_law_k", "_law_tip", "_law_others", "_law_sign", "_law_later", "_law_more", "_law_c", "_law_d"]) (sc := defScope s_law) (by decide +kernel)) (fun _ _ _ _ _ => (pg_name (i := 16) sc_law.nd rfl (Or.inl rfl))) (fun _ _ _ _ _ => pts_nil) (fun _ _ _ _ _ => (pe_dget hu (pv 15) (pv 16) (fun _ _ => rfl))))) (pa_cons (pv 8) (pa_cons (pv 9) pa_nil)))) (pv 10) (nomark _)) (pss_one (ps_ret pe_bl)) pss_nil)
      (pss_cons (ps_setLc (i := 17) (own := [("_law_k", 13), ("_law_tip", 14)]) (g := (gTup K 2 (gCons (gName 13) (gCons (gName 14) gNil)))) (tt := tYes) rfl sc_law.nd rfl rfl (sw_true rfl rfl rfl (by decide +kernel)) (pi_list (pv 10)) (blkOk_by (own := [("_law_k", 13), ("_law_tip", 14)]) (N := ["_law_script", "_law_pen_here", "_law_turn", "_law_signs_here", "_law_here", "_law_size", "_law_far", "_law_again", "_law_a", "_law_b", "_law_told", "_law_span", "_law_turned", "_law_k", "_law_tip", "_law_others", "_law_sign", "_law_later", "_law_more", "_law_c", "_law_d"]) (sc := defScope s_law) (by decide +kernel)) (fun _ _ _ _ _ => (pg_tupK (K := K) (n := 2) rfl rfl (pgs_cons (pg_name (i := 13) sc_law.nd rfl (Or.inl rfl)) (pgs_cons (pg_name (i := 14) sc_law.nd rfl (Or.inl rfl)) pgs_nil)))) (fun _ _ _ _ _ => pts_nil) (fun _ _ _ _ _ => (pe_tup (pa_cons (pe_op op_add (pv 13) pe_int) (pa_cons (pe_op op_add (pv 14) pe_int) pa_nil)))))
      (pss_cons (ps_set (i := 18) sc_law.nd rfl (Or.inl rfl) (pe_ifExp (pt_cmpR (op_eqNil hu64) (pe_lc (own := [("_law_span", 11)]) (g := gName 11) rfl sc_law.nd (pi_list (pv 17)) (blkOk_by (own := [("_law_span", 11)]) (N := ["_law_script", "_law_pen_here", "_law_turn", "_law_signs_here", "_law_here", "_law_size", "_law_far", "_law_again", "_law_a", "_law_b", "_law_told", "_law_span", "_law_turned", "_law_k", "_law_tip", "_law_others", "_law_sign", "_law_later", "_law_more", "_law_c", "_law_d"]) (sc := defScope s_law) (by decide +kernel)) (fun _ _ _ _ _ => (pg_name (i := 11) sc_law.nd rfl (Or.inl rfl))) (fun _ _ _ _ _ => (pts_one (pt_cmpR op_le (pe_ix (ix_seqK (K := K) rfl) (pv 11) pe_int (fun _ _ => rfl)) (pe_callB (call_max2 rfl) (by rfl) T.max (by decide +kernel) (pa_cons pe_int (pa_cons (pe_op op_add (pv 9) pe_int) pa_nil))) (nomark _)))) (fun _ _ _ _ _ => (pv 11))) (pe_lst pa_nil) (nomark _)) (pe_lst (pa_cons (pe_tup (pa_cons pe_int (pa_cons (pe_callB (call_max2 rfl) (by rfl) T.max (by decide +kernel) (pa_cons pe_int (pa_cons (pe_op op_add (pv 9) pe_int) pa_nil))) pa_nil))) pa_nil)) (pe_lst pa_nil)))
      (pss_cons (ps_if (pt_cmpR (op_neD hu64) (pe_cG c_windows hg hr (by decide) passesF (pa_cons (pe_op op_add_str (pv 6) (pv 4)) (pa_cons (pe_op op_add (pv 8) pe_int) (pa_cons (pe_op op_add (pv 9) pe_int) pa_nil)))) (pe_op op_cat (pv 18) (pv 17)) (nomark _)) (pss_one (ps_ret pe_bl)) pss_nil)
      (pss_cons (ps_par (i := 19) (j := 20) (by rfl) sc_law.nd rfl rfl (by decide) rfl rfl (pa_cons (pe_cG c_ldraw hg hr (by decide) pass0 (pa_cons (pv 1) (pa_cons (pe_op op_add (pv 8) pe_int) pa_nil))) (pa_cons (pe_op op_add (pv 9) (pe_cG c_ldraw hg hr (by decide) pass0 (pa_cons (pv 1) (pa_cons (pe_op op_add (pe_op op_sub (pv 5) (pv 9)) pe_int) pa_nil)))) pa_nil)) (by rfl))
      (pss_one (ps_for PassesOwn.never rfl (pi_list (pe_cG c_windows hg hr (by decide) passesF (pa_cons (pv 4) (pa_cons (pv 19) (pa_cons (pv 20) pa_nil))))) (pg_tup rfl (pgs_cons (pg_name (i := 13) sc_law.nd rfl (Or.inr rfl)) (pgs_cons (pg_name (i := 14) sc_law.nd rfl (Or.inr rfl)) pgs_nil))) (pss_one (ps_if (pt_cmpR (op_eqNil hu64) (pe_lc (own := [("_law_span", 11)]) (g := gName 11) rfl sc_law.nd (pi_list (pv 10)) (blkOk_by (own := [("_law_span", 11)]) (N := ["_law_script", "_law_pen_here", "_law_turn", "_law_signs_here", "_law_here", "_law_size", "_law_far", "_law_again", "_law_a", "_law_b", "_law_told", "_law_span", "_law_turned", "_law_k", "_law_tip", "_law_others", "_law_sign", "_law_later", "_law_more", "_law_c", "_law_d"]) (sc := defScope s_law) (by decide +kernel)) (fun _ _ _ _ _ => (pg_name (i := 11) sc_law.nd rfl (Or.inl rfl))) (fun _ _ _ _ _ => (pts_one (PW.pt (pw_and (pt_cmpR op_le (pv 13) (pe_ix (ix_seqK (K := K) rfl) (pv 11) pe_int (fun _ _ => rfl)) (nomark _)) (pw_and1 (pt_cmpR op_le (pe_ix (ix_seqK (K := K) rfl) (pv 11) pe_int (fun _ _ => rfl)) (pv 14) (nomark _))))))) (fun _ _ _ _ _ => (pv 11))) (pe_lst pa_nil) (nomark _)) (pss_one (ps_ret pe_bl)) pss_nil)))))))))))))))))))))
      (pss_one (ps_ret pe_bl)))), ?_⟩
    refine ⟨_, rfl, a, ns, rfl, hS, fun p pc H1 hp0 Pn0 s1 => ?_⟩
    refine ⟨_, rfl, _, _, rfl, .inl ⟨_, s1.seq hS, rfl⟩, _, _, rfl, _, _, rfl, rfl, _, rfl, ?_, ?_, ?_⟩
    · split <;> omega
    · split <;> omega
    refine for_range (lo := 0) (fun i σ H' => ∃ o2 o3 o4 o5 o6 o7 o8 o9 o10 o11 o12 o13 o14 o15 o16 o17 o18 o19 o20 : Option V, σ = [some (.ref a), some (.ref p), o2, o3, o4, o5, o6, o7, o8, o9, o10, o11, o12, o13, o14, o15, o16, o17, o18, o19, o20] ∧ Pen H' p pc (2000 * i)) ?_ ?_ ?_
    · exact ⟨_, _, _, _, _, _, _, _, _, _, _, _, _, _, _, _, _, _, _, rfl, Pn0⟩
    · rintro i σ H2 hi ⟨o2, o3, o4, o5, o6, o7, o8, o9, o10, o11, o12, o13, o14, o15, o16, o17, o18, o19, o20, rfl, P2⟩
      have hi8 : i ≤ 12 := by
        have : i < 13 := by
          revert hi
          split <;> omega
        omega
      refine ⟨_, rfl, p, pc, 2000 * i, rfl, P2, by omega, fun sg H3 fz P3 x3 => ?_⟩
      refine ⟨_, rfl, _, rfl, p, pc, sg, 18, _, rfl, fz, by decide, P3, by omega, fun x H4 xl xt P4 x4 => ?_⟩
      refine ⟨_, rfl, _, _, rfl, ⟨by rw [sizeLine_eq]; omega, rfl⟩, _, rfl, x, rfl, by omega, fun c H5 c1 c2 s5 => ⟨few_len (Nat.le_of_ble_eq_true rfl), fun t5 ht5 => ⟨t5, _, rfl, SqT.of upd_same, rfl, _, _, rfl, _, _, rfl, rfl, ?_⟩⟩⟩
      have P5 := (P4.stay s5).stay (same_new (o := .tup [.int ((x.length : Nat) : Int), .str ⟨#[c]⟩]) ht5)
      generalize upd H5 t5 (.tup [.int ((x.length : Nat) : Int), .str ⟨#[c]⟩]) = H6 at P5 ⊢
      clear P4 P3 x3 x4 s5 ht5 P2
      refine ⟨5, rfl, by decide, by decide, ?_⟩
      refine for_range (lo := 0) (n := (5 : Int).toNat) (fun j σ H' => ∃ o7 o8 o9 o10 o11 o12 o13 o14 o15 o16 o17 o18 o19 o20 : Option V, σ = [some (.ref a), some (.ref p), some (.int (0 + (i : Int))), some (.str sg), some (.str x), some (.int (x.length : Nat)), some (.str ⟨#[c]⟩), o7, o8, o9, o10, o11, o12, o13, o14, o15, o16, o17, o18, o19, o20] ∧ Pen H' p pc (2000 * i + 200 + 200 * j)) ?_ ?_ ?_
      · exact ⟨_, _, _, _, _, _, _, _, _, _, _, _, _, _, rfl, P5.mono (by omega)⟩
      · clear P5
        rintro j σ H7 hj ⟨o7, o8, o9, o10, o11, o12, o13, o14, o15, o16, o17, o18, o19, o20, rfl, P7⟩
        have hj5 : j < 5 := hj
        refine ⟨_, rfl, _, rfl, p, pc, x, _, rfl, by omega, P7, by omega, fun tsp ai bi H8 htsp a0 ab bx P8 x8 => ?_⟩
        obtain ⟨a1, rfl⟩ : ∃ n : Nat, ai = (n : Int) := ⟨ai.toNat, by omega⟩
        obtain ⟨b1, rfl⟩ : ∃ n : Nat, bi = (n : Int) := ⟨bi.toNat, by omega⟩
        have hab : a1 ≤ b1 := by omega
        have hbn : b1 ≤ x.length := by omega
        refine ⟨tsp, _, rfl, SqT.of htsp, rfl, _, _, rfl, _, _, rfl, rfl, ?_⟩
        clear P7 x8 htsp
        refine name_go ?_
        dsimp only
        refine tc3w rfl rfl rfl (at_wins rfl rfl (by omega) hab hbn fun la ya H9 hla0 hla pa s9 => ?_)
        have P9 := P8.stay s9
        clear P8 hla0 s9
        have gya := paired_len pa
        have wl : (winW x a1 b1).length ≤ 20 := by
          rw [← told_win hbn]
          exact Nat.le_trans toldE_len (by omega)
        refine name_go ?_
        dsimp only
        refine seq_mid (fun σ H' => σ = [some (.ref a), some (.ref p), some (.int (0 + (i : Int))), some (.str sg), some (.str x), some (.int (x.length : Nat)), some (.str ⟨#[c]⟩), some (.int (0 + (j : Int))), some (.int (a1 : Nat)), some (.int (b1 : Nat)), some (.ref la), o11, o12, o13, o14, o15, o16, o17, o18, o19, o20] ∧ Same H9 H') (fun D' hD' => ?_) (fun σ H10 hm => ?_)
        · refine ⟨_, rfl, la, rfl, ⟨_, SqL.of hla⟩, fun D hD => ?_⟩
          refine lc_list (K := K) (a := la) (xs := ya) (fun n H' => Same H9 H' ∧ H' D = some (.lst [])) ⟨same_new hD, upd_same⟩ (fun n H' _ q => SqL.of (q.1 _ _ hla)) (fun n v H' hv q => ?_) (fun H' q => ?_)
          · obtain ⟨sm, hd⟩ := q
            obtain ⟨r, hr1, t, rfl, ht⟩ := paired_at pa hv
            obtain ⟨w1, w2, w3, w4, w5⟩ := win_one (List.mem_of_getElem? hr1)
            have ht2 := sm _ _ ht
            refine ⟨rfl, ?_⟩
            have cl : (cutS x (some (r.1 : Int)) (some (r.2 : Int))).length ≤ 20 := by
              rw [cut_len (by omega) w4]
              omega
            refine ⟨_, rfl, _, rfl, _, rfl, .inr (.inl ⟨t, _, 0, _, rfl, rfl, SqT.of ht2, rfl, _, rfl, _, rfl, .inr (.inl ⟨t, _, 1, _, rfl, rfl, SqT.of ht2, rfl, _, rfl, x, rfl, few_len (by omega), ?_⟩)⟩)⟩
            refine ⟨x, _, rfl, by omega, by omega, fun pl Hp h0 hpl sp => ?_⟩
            have ht3 := sp _ _ ht2
            refine ⟨_, rfl, .inr (.inl ⟨t, _, 0, _, rfl, rfl, SqT.of ht3, rfl, few_len (Nat.le_of_ble_eq_true rfl), fun ql hql => ?_⟩)⟩
            have sq := same_new (o := .lst [V.int (r.1 : Nat)]) hql
            unfold plcI at hpl
            rw [w5] at hpl
            refine ⟨.list [.int (r.1 : Nat)], .list [.int (r.1 : Nat)], .lst (SqL.of (sq _ _ hpl)) (.cons (.int _) .nil), .lst (SqL.of upd_same) (.cons (.int _) .nil), ?_, ?_, _, rfl, ?_⟩
            · exact ints_shaped [((r.1 : Nat) : Int)]
            · exact ints_shaped [((r.1 : Nat) : Int)]
            · rw [show PyData.eqv (.list [.int (r.1 : Nat)]) (.list [.int (r.1 : Nat)]) = true from SeqAt.eqv_refl _ (ints_can [((r.1 : Nat) : Int)])]
              exact iteF ⟨(sm.trans sp).trans sq, sq _ _ (sp _ _ hd)⟩
          · obtain ⟨sm, hd⟩ := q
            refine ⟨few_len (Nat.zero_le _), fun q2 hq2 => ?_⟩
            have s2 := same_new (o := .lst []) hq2
            refine ⟨D, [], q2, rfl, rfl, SqL.of (s2 _ _ hd), SqL.of upd_same, _, rfl, ?_⟩
            exact iteF (hD' _ _ ⟨rfl, sm.trans s2⟩)
        obtain ⟨rfl, s10⟩ := hm
        replace hla := s10 _ _ hla
        replace pa := pa.keep s10
        replace P9 := P9.stay s10
        clear s10
        have wm : ∀ p ∈ winW x a1 b1, p.1 < p.2 ∧ p.2 ≤ x.length := fun p hp => ⟨(win_one hp).2.2.1, (win_one hp).2.2.2.1⟩
        refine ⟨_, rfl, la, rfl, ⟨_, SqL.of hla⟩, fun D hD => ?_⟩
        refine lc_list (K := K) (a := la) (xs := ya) (fun n H' => ∃ us, H' D = some (.lst us) ∧ PrN H' us (((winW x a1 b1).take n).map (turnP x.length)) ∧ Same H10 H') ⟨[], upd_same, .nil, same_new hD⟩ (fun n H' _ q => let ⟨_, _, _, s⟩ := q; SqL.of (s _ _ hla)) (fun n v H' hv q => ?_) (fun H11 q => ?_)
        · obtain ⟨us, hd, pu, sm⟩ := q
          obtain ⟨r, hr1, t, rfl, ht⟩ := paired_at pa hv
          obtain ⟨w1, w2⟩ := wm r (List.mem_of_getElem? hr1)
          have gu := paired_len pu
          rw [List.length_map, List.length_take] at gu
          have e1 : ((x.length : Nat) : Int) - ((r.2 : Nat) : Int) = ((x.length - r.2 : Nat) : Int) := by omega
          have e2 : ((x.length : Nat) : Int) - ((r.1 : Nat) : Int) = ((x.length - r.1 : Nat) : Int) := by omega
          refine ⟨t, _, rfl, SqT.of (sm _ _ ht), rfl, _, _, rfl, _, _, rfl, rfl, ?_⟩
          refine ⟨rfl, ?_⟩
          dsimp only [tYes]
          rw [if_pos rfl]
          refine ⟨_, rfl, _, rfl, _, _, rfl, rfl, _, rfl, _, rfl, _, _, rfl, rfl, few_len (Nat.le_of_ble_eq_true rfl), fun u hu => ?_⟩
          have su := same_new (o := .tup [.int (((x.length : Nat) : Int) - ((r.2 : Nat) : Int)), .int (((x.length : Nat) : Int) - ((r.1 : Nat) : Int))]) hu
          have hdu := su _ _ hd
          refine ⟨_, hdu, fewL (by omega), us ++ [.ref u], upd_same, ?_, upd_out hD (sm.trans su)⟩
          rw [List.take_add_one, hr1, Option.toList_some, List.map_append]
          exact Paired.snoc ((pu.keep su).keepT (upd_list hdu)) ⟨u, rfl, (upd_list hdu _ _ upd_same).trans (by rw [e1, e2]; rfl)⟩
        obtain ⟨us, hd, pu, s11⟩ := q
        rw [List.take_of_length_le (by omega)] at pu
        have gu := paired_len pu
        rw [List.length_map] at gu
        refine ⟨D, us, rfl, SqL.of hd, by omega, fun v hv => ?_, fun ys q hp hso hq => ?_⟩
        · obtain ⟨m, hm⟩ := List.mem_iff_getElem?.mp hv
          obtain ⟨r, hr1, t, rfl, ht⟩ := paired_at pu hm
          obtain ⟨r0, hr0, rfl⟩ := List.mem_map.mp (List.mem_of_getElem? hr1)
          obtain ⟨w1, w2⟩ := wm r0 hr0
          refine ⟨[((turnP x.length r0).1 : Nat), ((turnP x.length r0).2 : Nat)], ⟨t, rfl, SqT.of ht⟩, rfl, fun m hm => ?_⟩
          simp only [List.mem_cons, List.not_mem_nil, or_false] at hm
          have l1 : (turnP x.length r0).1 ≤ x.length := Nat.sub_le _ _
          have l2 : (turnP x.length r0).2 ≤ x.length := Nat.sub_le _ _
          rcases hm with rfl | rfl <;> omega
        have pt : PrN H11 ys (winW (backS x) (x.length - b1) (x.length - a1)) := turned_is (K := K) pu hp (win_back hab hbn).symm (winW_asc (by rw [backS_len]; omega)) (fun p hp => by
          obtain ⟨r0, hr0, rfl⟩ := List.mem_map.mp hp
          have l1 : (turnP x.length r0).1 ≤ x.length := Nat.sub_le _ _
          have l2 : (turnP x.length r0).2 ≤ x.length := Nat.sub_le _ _
          omega) hso
        refine name_go ?_
        dsimp only
        have s12 : Same H11 (upd H11 q (.lst ys)) := same_new hq
        have hq2 : (upd H11 q (.lst ys)) q = some (.lst ys) := upd_same
        generalize upd H11 q (.lst ys) = H12 at s12 hq2 ⊢
        replace pt := pt.keep s12
        have sx := s11.trans s12
        replace P9 := P9.stay sx
        replace hla := sx _ _ hla
        replace pa := pa.keep sx
        clear hd pu s11 s12 sx
        have wlb : (winW (backS x) (x.length - b1) (x.length - a1)).length ≤ 20 := by
          rw [win_back hab hbn, List.length_reverse, List.length_map]
          exact wl
        have shb := pds_showy (n := 100) (by decide) (ws := winW (backS x) (x.length - b1) (x.length - a1)) fun p hp => by
          have := win_one hp
          rw [backS_len] at this
          omega
        have shn : (PyData.list ((winW (backS x) (x.length - b1) (x.length - a1)).map pD)).shown.length ≤ sizeLine := Nat.le_trans shb.ln (Nat.le_of_lt (fewL (by omega)))
        have shd : (PyData.list ((winW (backS x) (x.length - b1) (x.length - a1)).map pD)).depth ≤ 60 := Nat.le_trans shb.dp (by decide)
        refine tcRev (i := 4) (j := 5) (k := 9) (m := 8) rfl (few_len (by omega)) rfl rfl rfl (at_wins (x := backS x) (a := x.length - b1) (b := x.length - a1) (by omega) (by omega) (by rw [backS_len]; omega) (by omega) (by rw [backS_len]; omega) fun lw yw H13 hlw0 hlw pw s13 => ?_)
        refine ⟨_, _, rfl, .lst (SqL.of hlw) (prs_dp pw), shb.sh, shb.nd, shd, shn, ?_⟩
        refine ⟨_, rfl, _, _, rfl, .lst (SqL.of (s13 _ _ hq2)) (prs_dp (pt.keep s13)), shb.sh, shb.nd, shd, shn, rfl, _, rfl, ?_⟩
        refine iteNS rfl ?_
        replace P9 := P9.stay s13
        replace hla := s13 _ _ hla
        replace pa := pa.keep s13
        clear s13 hlw pw hq2 pt shb shn shd wlb hlw0
        refine ⟨_, rfl, x, rfl, by omega, fun ks qs nd mem _ kl hqs => ?_⟩
        have sq := same_new (o := .lst (ks.map V.str)) hqs
        have hks : (upd H13 qs (.lst (ks.map V.str))) qs = some (.lst (ks.map V.str)) := upd_same
        generalize upd H13 qs (.lst (ks.map V.str)) = H14 at sq hks ⊢
        replace P9 := P9.stay sq
        replace hla := sq _ _ hla
        replace pa := pa.keep sq
        have ll : letS.length = 95 := by rw [← letS_len]; exact Array.length_toList.symm
        refine ⟨_, rfl, rfl, p, pc, letS, _, rfl, by rw [ll]; omega, P9, by rw [ll]; omega, fun nz zs H15 pz hn0 hnz P15 x15 => ?_⟩
        rw [ll] at P15
        have zl : zs.length = 95 := by rw [pz.length_eq, onesL_len, ll]
        have hks15 := P9.keepI x15 hks
        replace hla := P9.keepI x15 hla
        replace pa := pa.keepT (pen_tup P9 x15)
        refine ⟨qs, nz, ks.map Sum.inr, zs.map V.str, rfl, SqL.of ?_, SqL.of hnz, ?_, fun qd hqd => name_go ?_⟩
        · rw [List.map_map]
          exact hks15
        · rw [List.length_map, List.length_map]
          omega
        dsimp only
        obtain ⟨rd, rd1, rd2⟩ := others_is nd mem (by omega) pz
        have sd := same_new (o := .dK (mergeK [] ((ks.map Sum.inr).zip (zs.map V.str)))) hqd
        have hdd : (upd H15 qd (.dK (mergeK [] ((ks.map Sum.inr).zip (zs.map V.str))))) qd = some (.dK (mergeK [] ((ks.map Sum.inr).zip (zs.map V.str)))) := upd_same
        generalize upd H15 qd (.dK (mergeK [] ((ks.map Sum.inr).zip (zs.map V.str)))) = H16 at sd hdd ⊢
        generalize mergeK [] ((ks.map Sum.inr).zip (zs.map V.str)) = kvs at rd1 hdd
        replace P15 := P15.stay sd
        replace hla := sd _ _ hla
        replace pa := pa.keep sd
        clear sd sq hks hks15 hnz hn0 x15 P9 hqs hqd hq
        refine ⟨⟨_, rfl⟩, _, rfl, x, rfl, fun D hD => ?_⟩
        have sD := same_new (o := .lst []) hD
        refine lc_str (fun n H2 => Same H16 H2 ∧ H2 D = some (.lst (((x.cps.toList.take n).map rd).map fun c => V.str ⟨#[c]⟩))) ⟨sD, upd_same⟩ (fun n c H2 hc q => ?_) (fun H17 q => ?_)
        · obtain ⟨sm, hd⟩ := q
          have hc2 : x.cps.toList[n]? = some c := by rw [Array.getElem?_toList]; exact hc
          refine ⟨rfl, ?_⟩
          dsimp only [tYes]
          rw [if_pos rfl]
          refine ⟨_, rfl, _, rfl, qd, _, rfl, rd1 c (List.mem_of_getElem? hc2) ▸ DGet.k (k := Sum.inr _) (sm _ _ hdd), _, hd, fewL ?_, upd_out hD sm, ?_⟩
          · rw [List.length_map, List.length_map, List.length_take, Array.length_toList]
            have : x.cps.size = x.length := rfl
            omega
          · rw [List.take_add_one, hc2, Option.toList_some, List.map_append, List.map_append]
            exact upd_same
        obtain ⟨s17, hD17⟩ := q
        rw [List.take_of_length_le (by rw [Array.length_toList]; exact Nat.le_refl _)] at hD17
        refine ⟨_, D, (x.cps.toList.map rd).map fun c => (⟨#[c]⟩ : Str), rfl, rfl, .inl (SqL.of (by rw [List.map_map]; exact hD17)), ?_, ?_⟩
        · rw [ones_len, List.length_map, List.length_map, Array.length_toList]
          have e : x.cps.size = x.length := rfl
          have e0 : (Str.ofString "").length = 0 := rfl
          rw [e0]
          omega
        rw [show Txt.join (Str.ofString "") ((x.cps.toList.map rd).map fun c => (⟨#[c]⟩ : Str)) = otherS rd x from other_join rd x]
        refine ⟨_, rfl, _, rfl, ?_⟩
        dsimp only [tNil, List.append_nil]
        refine at_wins (x := otherS rd x) rfl rfl (by rw [other_len]; omega) hab (by rw [other_len]; omega) fun lw yw H18 hlw0 hlw pw s18 => ?_
        rw [other_win rd2] at pw
        replace P15 := (P15.stay s17).stay s18
        replace hla := s18 _ _ (s17 _ _ hla)
        replace pa := (pa.keep s17).keep s18
        refine ⟨_, rfl, .list ((winW x a1 b1).map pD), .list ((winW x a1 b1).map pD), .lst (SqL.of hlw) (prs_dp pw), .lst (SqL.of hla) (prs_dp pa), pds_shaped _, pds_shaped _, _, rfl, ?_⟩
        rw [pds_refl]
        refine iteF ?_
        clear s17 s18 hD17 sD hD hlw pw hdd rd1 hlw0
        have gya := paired_len pa
        refine ⟨_, rfl, la, rfl, ⟨_, SqL.of hla⟩, fun D hD => ?_⟩
        refine lc_list (K := K) (a := la) (xs := ya) (fun n H' => ∃ us, H' D = some (.lst us) ∧ PrN H' us (((winW x a1 b1).take n).map upP) ∧ Same H18 H') ⟨[], upd_same, .nil, same_new hD⟩ (fun n H' _ q => let ⟨_, _, _, s⟩ := q; SqL.of (s _ _ hla)) (fun n v H' hv q => ?_) (fun H19 q => ?_)
        · obtain ⟨us, hd, pu, sm⟩ := q
          obtain ⟨r, hr1, t, rfl, ht⟩ := paired_at pa hv
          have gu := paired_len pu
          rw [List.length_map, List.length_take] at gu
          refine ⟨t, _, rfl, SqT.of (sm _ _ ht), rfl, _, _, rfl, _, _, rfl, rfl, ?_⟩
          refine ⟨rfl, ?_⟩
          dsimp only [tYes]
          rw [if_pos rfl]
          refine ⟨_, rfl, _, _, rfl, rfl, _, rfl, _, _, rfl, rfl, few_len (Nat.le_of_ble_eq_true rfl), fun u hu => ?_⟩
          have su := same_new (o := .tup [.int (((r.1 : Nat) : Int) + 1), .int (((r.2 : Nat) : Int) + 1)]) hu
          have hdu := su _ _ hd
          refine ⟨_, hdu, fewL (by omega), us ++ [.ref u], upd_same, ?_, upd_out hD (sm.trans su)⟩
          rw [List.take_add_one, hr1, Option.toList_some, List.map_append]
          exact Paired.snoc ((pu.keep su).keepT (upd_list hdu)) ⟨u, rfl, (upd_list hdu _ _ upd_same)⟩
        obtain ⟨us, hlt, pu, s19⟩ := q
        rw [List.take_of_length_le (by omega)] at pu
        have gu := paired_len pu
        rw [List.length_map] at gu
        refine name_go ?_
        dsimp only
        replace P15 := P15.stay s19
        replace hla := s19 _ _ hla
        replace pa := pa.keep s19
        clear s19 hD
        have mx : (if ((b1 : Nat) : Int) + 1 > 1 then ((b1 : Nat) : Int) + 1 else 1) = ((b1 + 1 : Nat) : Int) := by
          split <;> omega
        refine seq_mid (fun σ H' => ∃ (mr : Addr) (ms : List V), σ = [some (.ref a), some (.ref p), some (.int (0 + (i : Int))), some (.str sg), some (.str x), some (.int (x.length : Nat)), some (.str ⟨#[c]⟩), some (.int (0 + (j : Int))), some (.int (a1 : Nat)), some (.int (b1 : Nat)), some (.ref la), o11, some (.ref q), o13, o14, some (.ref qd), o16, some (.ref D), some (.ref mr), o19, o20] ∧ H' mr = some (.lst ms) ∧ PrN H' ms (if (winW x a1 b1).any (fun p => decide (p.2 ≤ b1)) = true then [] else [(0, b1 + 1)]) ∧ Same H19 H') (fun D' hD' => ?_) (fun σ H20 hm => ?_)
        · refine ⟨_, rfl, D, rfl, ⟨_, SqL.of hlt⟩, fun D2 hD2 => ?_⟩
          refine lc_list (K := K) (a := D) (xs := us) (fun n H' => ∃ fs, H' D2 = some (.lst fs) ∧ fs.length = (((winW x a1 b1).take n).filter fun p => decide (p.2 ≤ b1)).length ∧ Same H19 H') ⟨[], upd_same, rfl, same_new hD2⟩ (fun n H' _ q => let ⟨_, _, _, s⟩ := q; SqL.of (s _ _ hlt)) (fun n v H' hv q => ?_) (fun H20 q => ?_)
          · obtain ⟨fs, hd, fl, sm⟩ := q
            obtain ⟨r0, hr0, t, rfl, ht⟩ := paired_at pu hv
            rw [List.getElem?_map] at hr0
            obtain ⟨r, hr1, rfl⟩ := Option.map_eq_some_iff.mp hr0
            refine ⟨rfl, ?_⟩
            refine ⟨_, rfl, .inr (.inl ⟨t, _, 1, _, rfl, rfl, SqT.of (sm _ _ ht), rfl, ?_⟩)⟩
            refine ⟨_, rfl, _, _, rfl, rfl, _, _, rfl, ?_⟩
            rw [mx]
            refine ⟨_, _, rfl, rfl, _, rfl, ?_⟩
            rw [List.take_add_one, hr1, Option.toList_some, List.filter_append]
            have dc : decide ((((upP r).2 : Nat) : Int) ≤ ((b1 + 1 : Nat) : Int)) = decide (r.2 ≤ b1) := by
              have e : (upP r).2 = r.2 + 1 := rfl
              rw [Bool.eq_iff_iff, decide_eq_true_eq, decide_eq_true_eq, e]
              omega
            rw [dc]
            have fl20 : fs.length ≤ 20 := by
              rw [fl]
              exact Nat.le_trans (List.length_filter_le _ _) (by rw [List.length_take]; omega)
            cases cc : decide (r.2 ≤ b1) with
            | false =>
              refine iteF ⟨fs, hd, ?_, sm⟩
              rw [List.filter_cons_of_neg (by rw [cc]; decide)]
              exact fl.trans (congrArg List.length (List.append_nil _).symm)
            | true =>
              refine iteT ⟨_, rfl, _, hd, fewL (by omega), _, upd_same, ?_, upd_out hD2 sm⟩
              rw [List.filter_cons_of_pos (by exact cc), List.length_append, List.length_append, fl]
              rfl
          obtain ⟨fs, hd2, fl, s20⟩ := q
          rw [List.take_of_length_le (by omega)] at fl
          refine ⟨few_len (Nat.zero_le _), fun q2 hq2 => ?_⟩
          have s2 := same_new (o := .lst []) hq2
          refine ⟨D2, fs, q2, rfl, rfl, SqL.of (s2 _ _ hd2), SqL.of upd_same, _, rfl, ?_⟩
          have sa := s20.trans s2
          have anyB : (winW x a1 b1).any (fun p => decide (p.2 ≤ b1)) = !decide (fs.length = 0) := by
            rw [Bool.eq_iff_iff, List.any_eq_true, Bool.not_eq_true', decide_eq_false_iff_not, fl]
            refine Iff.trans ?_ Nat.pos_iff_ne_zero
            rw [List.length_pos_iff_exists_mem]
            exact ⟨fun ⟨p, h1, h2⟩ => ⟨p, List.mem_filter.mpr ⟨h1, h2⟩⟩, fun ⟨p, h⟩ => ⟨p, (List.mem_filter.mp h).1, (List.mem_filter.mp h).2⟩⟩
          rw [anyB] at hD'
          cases cc : decide (fs.length = 0) with
          | false =>
            rw [cc] at hD'
            refine iteF ⟨few_len (Nat.zero_le _), fun m hm => hD' _ _ ⟨m, [], rfl, upd_same, ?_, sa.trans (same_new hm)⟩⟩
            rw [if_pos (show (!false) = true from rfl)]
            exact .nil
          | true =>
            rw [cc] at hD'
            refine iteT ⟨_, rfl, _, _, rfl, rfl, _, _, rfl, ?_⟩
            rw [mx]
            refine ⟨few_len (Nat.le_of_ble_eq_true rfl), fun u hu => ⟨few_len (Nat.le_of_ble_eq_true rfl), fun m hm => hD' _ _ ⟨m, [.ref u], rfl, upd_same, ?_, (sa.trans (same_new hu)).trans (same_new hm)⟩⟩⟩
            rw [if_neg (by decide)]
            exact .cons ⟨u, rfl, same_new hm _ _ upd_same⟩ .nil
        obtain ⟨mr, ms, rfl, hms, pm, s20⟩ := hm
        replace P15 := P15.stay s20
        replace hla := s20 _ _ hla
        replace pa := pa.keep s20
        replace hlt := s20 _ _ hlt
        replace pu := pu.keep s20
        clear s20
        obtain ⟨fl1, _, _⟩ := front_ltr (f := (⟨#[c]⟩ : Str)) (x := x) rfl
        refine tcFar (i := 6) (j := 4) (k := 8) (m := 9) rfl rfl (few_len (show 1 + x.length ≤ _ by omega)) rfl rfl (at_wins (x := (⟨#[c]⟩ : Str) ++ x) (a := a1 + 1) (b := b1 + 1) (by omega) (by omega) (by omega) (by omega) (by omega) fun lw yw H21 hlw0 hlw pw s21 => ?_)
        rw [win_front (f := (⟨#[c]⟩ : Str)) rfl c2 hbn] at pw
        have pms := paired_append pm pu
        obtain ⟨w2, ew⟩ : ∃ w2, w2 = (if (winW x a1 b1).any (fun p => decide (p.2 ≤ b1)) = true then [] else [(0, b1 + 1)]) ++ (winW x a1 b1).map upP := ⟨_, rfl⟩
        replace pw : PrN H21 yw w2 := ew ▸ pw
        replace pms : PrN H20 (ms ++ us) w2 := ew ▸ pms
        have gms := paired_len pm
        have lms : ms.length ≤ 1 := by
          rw [gms]
          split
          · exact Nat.zero_le _
          · exact Nat.le_refl _
        refine ⟨_, rfl, _, rfl, mr, D, ms, us, rfl, rfl, s21 _ _ hms, s21 _ _ hlt, few_len (by omega), fun l2 hl2 => ?_⟩
        have s22 := same_new (o := .lst (ms ++ us)) hl2
        refine ⟨.list (w2.map pD), .list (w2.map pD), .lst (SqL.of (s22 _ _ hlw)) (prs_dp (pw.keep s22)), .lst (SqL.of upd_same) (prs_dp (PrN.keep pms (s21.trans s22))), pds_shaped _, pds_shaped _, _, rfl, ?_⟩
        rw [pds_refl]
        refine iteF ?_
        replace P15 := (P15.stay s21).stay s22
        replace hla := s22 _ _ (s21 _ _ hla)
        replace pa := (pa.keep s21).keep s22
        generalize upd H21 l2 (.lst (ms ++ us)) = H22 at P15 hla pa ⊢
        clear s21 s22 hms hlt pm pu pms hl2 hlw pw hlw0
        refine ⟨_, rfl, _, rfl, _, _, rfl, rfl, p, pc, _, _, rfl, by omega, by omega, P15, by omega, fun cI H23 c0 c1 P23 x23 => ?_⟩
        refine ⟨_, rfl, _, rfl, _, rfl, _, rfl, _, _, rfl, rfl, _, _, rfl, rfl, p, pc, _, _, rfl, by omega, by omega, P23, by omega, fun dI H24 d0 d1 P24 x24 => ⟨_, _, rfl, rfl, _, _, rfl, ?_⟩⟩
        replace hla := P23.keepI x24 (P15.keepI x23 hla)
        replace pa := (pa.keepT (pen_tup P15 x23)).keepT (pen_tup P23 x24)
        obtain ⟨c5, rfl⟩ : ∃ n : Nat, cI = (n : Int) := ⟨cI.toNat, by omega⟩
        obtain ⟨d5, rfl⟩ : ∃ n : Nat, dI = (n : Int) := ⟨dI.toNat, by omega⟩
        dsimp only
        refine tc3w rfl rfl rfl (at_wins (a := c5) (b := b1 + d5) rfl (by omega) (by omega) (by omega) (by omega) fun lw yw H25 hlw0 hlw pw s25 => ?_)
        have gyw := paired_len pw
        refine ⟨lw, rfl, ⟨_, SqL.of hlw⟩, ?_⟩
        refine for_list (K := K) (a := lw) (xs := yw) (fun _ σ H' => ∃ o11 o13 o14 : Option V, σ = [some (.ref a), some (.ref p), some (.int (0 + (i : Int))), some (.str sg), some (.str x), some (.int (x.length : Nat)), some (.str ⟨#[c]⟩), some (.int (0 + (j : Int))), some (.int (a1 : Nat)), some (.int (b1 : Nat)), some (.ref la), o11, some (.ref q), o13, o14, some (.ref qd), o16, some (.ref D), some (.ref mr), some (.int (c5 : Nat)), some (.int ((b1 : Nat) + (d5 : Nat) : Int))] ∧ Same H25 H') ⟨_, _, _, rfl, fun _ _ h => h⟩ (fun _ σ H' _ q => let ⟨_, _, _, _, s⟩ := q; SqL.of (s _ _ hlw)) (fun n v σ H' hv q => ?_) (fun σ H' q => ?_)
        · obtain ⟨o11, o13, o14, rfl, sm⟩ := q
          obtain ⟨r, hr1, t, rfl, ht⟩ := paired_at pw hv
          obtain ⟨g, hg1, hg2, hg3⟩ := win_wide (a := a1) (b := b1) (by omega) (by omega) (List.mem_of_getElem? hr1)
          refine ⟨t, _, rfl, SqT.of (sm _ _ ht), rfl, _, _, rfl, _, _, rfl, rfl, ?_⟩
          refine ⟨_, rfl, la, rfl, ⟨_, SqL.of (sm _ _ (s25 _ _ hla))⟩, fun D3 hD3 => ?_⟩
          refine lc_list (K := K) (a := la) (xs := ya) (fun n H2 => ∃ fs, H2 D3 = some (.lst fs) ∧ fs.length = (((winW x a1 b1).take n).filter fun q => decide (r.1 ≤ q.1) && decide (q.2 ≤ r.2)).length ∧ Same H' H2) ⟨[], upd_same, rfl, same_new hD3⟩ (fun n H2 _ q => let ⟨_, _, _, s⟩ := q; SqL.of (s _ _ (sm _ _ (s25 _ _ hla)))) (fun n v H2 hv q => ?_) (fun H2 q => ?_)
          · obtain ⟨fs, hd, fl, sm2⟩ := q
            obtain ⟨r0, hr0, t0, rfl, ht0⟩ := paired_at pa hv
            have ht0' := SqT.of (K := K) (sm2 _ _ (sm _ _ (s25 _ _ ht0)))
            have fl20 : fs.length ≤ 20 := by
              rw [fl]
              exact Nat.le_trans (List.length_filter_le _ _) (by rw [List.length_take]; omega)
            have d1' : decide (((r.1 : Nat) : Int) ≤ ((r0.1 : Nat) : Int)) = decide (r.1 ≤ r0.1) := by
              rw [Bool.eq_iff_iff, decide_eq_true_eq, decide_eq_true_eq]
              omega
            have d2' : decide (((r0.2 : Nat) : Int) ≤ ((r.2 : Nat) : Int)) = decide (r0.2 ≤ r.2) := by
              rw [Bool.eq_iff_iff, decide_eq_true_eq, decide_eq_true_eq]
              omega
            rw [List.take_add_one, hr0, Option.toList_some, List.filter_append]
            refine ⟨rfl, ?_⟩
            refine ⟨_, rfl, _, rfl, .inr (.inl ⟨t0, _, 0, _, rfl, rfl, ht0', rfl, _, _, rfl, rfl, _, rfl, ?_⟩)⟩
            rw [d1']
            cases cc : decide (r.1 ≤ r0.1) with
            | false =>
              refine iteF (iteF ⟨fs, hd, ?_, sm2⟩)
              rw [List.filter_cons_of_neg (by rw [cc, Bool.false_and]; decide)]
              exact fl.trans (congrArg List.length (List.append_nil _).symm)
            | true =>
              refine iteT ⟨_, rfl, .inr (.inl ⟨t0, _, 1, _, rfl, rfl, ht0', rfl, _, rfl, _, _, rfl, rfl, _, rfl, ?_⟩)⟩
              rw [d2']
              cases ce : decide (r0.2 ≤ r.2) with
              | false =>
                refine iteF ⟨fs, hd, ?_, sm2⟩
                rw [List.filter_cons_of_neg (by rw [cc, ce]; decide)]
                exact fl.trans (congrArg List.length (List.append_nil _).symm)
              | true =>
                refine iteT ⟨_, rfl, _, hd, fewL (by omega), _, upd_same, ?_, upd_out hD3 sm2⟩
                rw [List.filter_cons_of_pos (by rw [cc, ce]; rfl), List.length_append, List.length_append, fl]
                rfl
          · obtain ⟨fs, hd2, fl, s26⟩ := q
            rw [List.take_of_length_le (by omega)] at fl
            have pos : 0 < fs.length := by
              rw [fl, List.length_pos_iff_exists_mem]
              exact ⟨g, List.mem_filter.mpr ⟨hg1, by rw [decide_eq_true hg2, decide_eq_true hg3]; rfl⟩⟩
            refine ⟨few_len (Nat.zero_le _), fun q2 hq2 => ?_⟩
            have s2 := same_new (o := .lst []) hq2
            refine ⟨D3, fs, q2, rfl, rfl, SqL.of (s2 _ _ hd2), SqL.of upd_same, _, rfl, ?_⟩
            rw [decide_eq_false (by omega)]
            exact iteF ⟨_, _, _, rfl, (sm.trans s26).trans s2⟩
        · obtain ⟨o11, o13, o14, rfl, sm⟩ := q
          exact ⟨_, _, _, _, _, _, _, _, _, _, _, _, _, _, rfl, ((P24.stay s25).stay sm).mono (by omega)⟩
      · rintro σ H7 ⟨o7, o8, o9, o10, o11, o12, o13, o14, o15, o16, o17, o18, o19, o20, rfl, P7⟩
        exact ⟨_, _, _, _, _, _, _, _, _, _, _, _, _, _, _, _, _, _, _, rfl, P7.mono (by omega)⟩
    · rintro σ H2 ⟨o2, o3, o4, o5, o6, o7, o8, o9, o10, o11, o12, o13, o14, o15, o16, o17, o18, o19, o20, rfl, P2⟩
      exact k _
end
end Vk
set_option Elab.async false
set_option maxRecDepth 100000
set_option maxHeartbeats 4000000
set_option linter.all false
namespace Vk
open PySem PySem.Spec PyProof.Rows L2 PySem.W
theorem walkX {l : PySem.W.OpenLaw} {n k : Nat} {q : Program} {loose : List Str} {XP : (Str → Option Value) → Heap → Prop} {YP : World → Heap → Prop} {d : DefRec} {K : Params → PySem.W.Frag} {CX : CXT} {sp : PySem.W.Frag → Sp} {x : Str}
    (hn : l.most = some n) (hn2 : n ≤ sizeLine) (hdf : d.params.defaults = []) (hr : Room k callerA) (hY : ∀ (w : World) (h : Heap), YP w h → (K w.params).In h)
    (F : ∀ (w : World) (mg : Str → Option Value) (fa : Addr) (h : Heap), (K w.params).In h → (∃ s0 mb, PySem.W.Ground q loose [] XP w s0 mg mb h) → mg d.name = some (.ref fa) →
      ∃ fd : FuncData, (∀ (s : Shared) (u : Value), BindsTo s fd ⟨[u], []⟩ [(x, u)]) ∧ ∀ base : Heap, (K w.params).In base → base.Ns mainGlobals mg → FnG l.prog w (K w.params) mg base CX k fa fd [x] (sp (K w.params)))
    (hsp : ∀ (K : PySem.W.Frag) (H : Hp) (a : Addr) (ns : List Int), ns.length ≤ n → Only H → SqL K H a (ns.map V.int) → sp K [.ref a] H (fun v _ => v = .bl true) fun _ _ _ => False)
    (noX : ∀ (H : Hp) (s : Shared) (e : Value) (s2 : Shared), CX [] H s (fun _ _ _ => False) e s2 → False) : PySem.W.WalkO q loose XP YP l.row.toRowW d [] (fun f vs => PySem.call f vs) := by
  refine Att.attach_call hn hdf ?_
  intro w s0 s1 mg mb fa o pm cd doc a vs ns G Y _ _ _ hmg scr hints hlen gens0
  obtain ⟨fd, hb, hF⟩ := F w mg fa _ (hY w _ Y) ⟨s0, mb, G⟩ hmg
  exact lawG (hY w _ Y) G.T.g G.T.b G.T.builtins G.T.nolimit gens0 scr hints (Nat.le_trans hlen hn2) hr hF hb (fun H h1 h2 => hsp _ H a ns hlen h1 h2) (fun H => noX H s1)
end Vk
set_option Elab.async false
set_option maxRecDepth 100000
set_option linter.all false
set_option maxHeartbeats 4000000
namespace Vk
open PySem PySem.Spec PyProof.Rows L2 LamX NdefX StX PySem.VkX
theorem all {l : PySem.W.OpenLaw} {w : World} {K : PySem.W.Frag} {h : Heap} {mg : Str → Option Value} {fa : Addr} (X : K.In h) (G : h.Ns mainGlobals mg) (hfa : mg "law" = some (.ref fa))
    (e_InvalidSpot : ∃ (C f : Addr) (fd : FuncData), ExcTxt K "InvalidSpot" "InvalidSpot.__init__" m_InvalidSpot C f fd ["value"] tlV)
    (d_lsigns : ∃ (f : Addr) (fd : FuncData), At K "_law_signs" s_lsigns f fd)
    (d_ldraw : ∃ (f : Addr) (fd : FuncData), At K "_law_draw" s_ldraw f fd)
    (d_lpen : ∃ (f : Addr) (fd : FuncData), At K "_law_pen" s_lpen f fd)
    (d_lpick : ∃ (f : Addr) (fd : FuncData), At K "_law_pick" s_lpick f fd)
    (d_lfew : ∃ (f : Addr) (fd : FuncData), At K "_law_few" s_lfew f fd)
    (d_lword : ∃ (f : Addr) (fd : FuncData), At K "_law_word" s_lword f fd)
    (d_lntext : ∃ (f : Addr) (fd : FuncData), At K "_law_ntext" s_lntext f fd)
    (d_lnspot : ∃ (f : Addr) (fd : FuncData), At K "_law_nspot" s_lnspot f fd)
    (d_lnother : ∃ (f : Addr) (fd : FuncData), At K "_law_nother" s_lnother f fd)
    (d_lshuffled : ∃ (f : Addr) (fd : FuncData), At K "_law_shuffled" s_lshuffled f fd)
    (d_places : ∃ (f : Addr) (fd : FuncData), At K "places" s_places f fd)
    (d_is_integer : ∃ (f : Addr) (fd : FuncData), At K "is_integer" s_is_integer f fd)
    (d_is_integer_in : ∃ (f : Addr) (fd : FuncData), At K "is_integer_in" s_is_integer_in f fd)
    (d_check_spot : ∃ (f : Addr) (fd : FuncData), At K "check_spot" s_check_spot f fd)
    (d_stands_twice : ∃ (f : Addr) (fd : FuncData), At K "stands_twice" s_stands_twice f fd)
    (d_longer_results : ∃ (f : Addr) (fd : FuncData), At K "longer_results" s_longer_results f fd)
    (d_all_results : ∃ (f : Addr) (fd : FuncData), At K "all_results" s_all_results f fd)
    (d_kept_ends : ∃ (f : Addr) (fd : FuncData), At K "kept_ends" s_kept_ends f fd)
    (d_stands_twice_in_one : ∃ (f : Addr) (fd : FuncData), At K "stands_twice_in_one" s_stands_twice_in_one f fd)
    (d_least_windows : ∃ (f : Addr) (fd : FuncData), At K "least_windows" s_least_windows f fd)
    (d_windows : ∃ (f : Addr) (fd : FuncData), At K "windows" s_windows f fd)
    (d_law : ∃ (f : Addr) (fd : FuncData), At K "law" s_law f fd)
    (z_str : PySem.W.nsIn K mainGlobals "str" = some none)
    (z_tuple : PySem.W.nsIn K mainGlobals "tuple" = some none)
    (z_enumerate : PySem.W.nsIn K mainGlobals "enumerate" = some none)
    (z_bool : PySem.W.nsIn K mainGlobals "bool" = some none)
    (z_sum : PySem.W.nsIn K mainGlobals "sum" = some none)
    (z_max : PySem.W.nsIn K mainGlobals "max" = some none)
    (z_ValueError : PySem.W.nsIn K mainGlobals "ValueError" = some none)
    (z_reversed : PySem.W.nsIn K mainGlobals "reversed" = some none)
    (z_len : PySem.W.nsIn K mainGlobals "len" = some none)
    (z_list : PySem.W.nsIn K mainGlobals "list" = some none)
    (z_int : PySem.W.nsIn K mainGlobals "int" = some none)
    (z_abs : PySem.W.nsIn K mainGlobals "abs" = some none)
    (z_range : PySem.W.nsIn K mainGlobals "range" = some none)
    (z_min : PySem.W.nsIn K mainGlobals "min" = some none)
    (z_repr : PySem.W.nsIn K mainGlobals "repr" = some none)
    (z_isinstance : PySem.W.nsIn K mainGlobals "isinstance" = some none)
    (z_sorted : PySem.W.nsIn K mainGlobals "sorted" = some none)
    (z_set : PySem.W.nsIn K mainGlobals "set" = some none)
    (z_dict : PySem.W.nsIn K mainGlobals "dict" = some none)
    (z_zip : PySem.W.nsIn K mainGlobals "zip" = some none)
    : ∃ (fd : FuncData), (∀ (s : Shared) (v : Value), BindsTo s fd ⟨[v], []⟩ [("_law_script", v)]) ∧ ∀ base : Heap, K.In base → base.Ns mainGlobals mg → FnG l.prog w K mg base CX0 6 fa fd ["_law_script"] (spLaw K) := by
  obtain ⟨C_InvalidSpot, i_InvalidSpot, fd_InvalidSpot, E_InvalidSpot⟩ := e_InvalidSpot
  obtain ⟨f_lsigns, fd_lsigns, A_lsigns⟩ := d_lsigns
  have m_lsigns := PySem.W.mg_of X G A_lsigns.ns
  obtain ⟨f_ldraw, fd_ldraw, A_ldraw⟩ := d_ldraw
  have m_ldraw := PySem.W.mg_of X G A_ldraw.ns
  obtain ⟨f_lpen, fd_lpen, A_lpen⟩ := d_lpen
  have m_lpen := PySem.W.mg_of X G A_lpen.ns
  obtain ⟨f_lpick, fd_lpick, A_lpick⟩ := d_lpick
  have m_lpick := PySem.W.mg_of X G A_lpick.ns
  obtain ⟨f_lfew, fd_lfew, A_lfew⟩ := d_lfew
  have m_lfew := PySem.W.mg_of X G A_lfew.ns
  obtain ⟨f_lword, fd_lword, A_lword⟩ := d_lword
  have m_lword := PySem.W.mg_of X G A_lword.ns
  obtain ⟨f_lntext, fd_lntext, A_lntext⟩ := d_lntext
  have m_lntext := PySem.W.mg_of X G A_lntext.ns
  obtain ⟨f_lnspot, fd_lnspot, A_lnspot⟩ := d_lnspot
  have m_lnspot := PySem.W.mg_of X G A_lnspot.ns
  obtain ⟨f_lnother, fd_lnother, A_lnother⟩ := d_lnother
  have m_lnother := PySem.W.mg_of X G A_lnother.ns
  obtain ⟨f_lshuffled, fd_lshuffled, A_lshuffled⟩ := d_lshuffled
  have m_lshuffled := PySem.W.mg_of X G A_lshuffled.ns
  obtain ⟨f_places, fd_places, A_places⟩ := d_places
  have m_places := PySem.W.mg_of X G A_places.ns
  obtain ⟨f_is_integer, fd_is_integer, A_is_integer⟩ := d_is_integer
  have m_is_integer := PySem.W.mg_of X G A_is_integer.ns
  obtain ⟨f_is_integer_in, fd_is_integer_in, A_is_integer_in⟩ := d_is_integer_in
  have m_is_integer_in := PySem.W.mg_of X G A_is_integer_in.ns
  obtain ⟨f_check_spot, fd_check_spot, A_check_spot⟩ := d_check_spot
  have m_check_spot := PySem.W.mg_of X G A_check_spot.ns
  obtain ⟨f_stands_twice, fd_stands_twice, A_stands_twice⟩ := d_stands_twice
  have m_stands_twice := PySem.W.mg_of X G A_stands_twice.ns
  obtain ⟨f_longer_results, fd_longer_results, A_longer_results⟩ := d_longer_results
  have m_longer_results := PySem.W.mg_of X G A_longer_results.ns
  obtain ⟨f_all_results, fd_all_results, A_all_results⟩ := d_all_results
  have m_all_results := PySem.W.mg_of X G A_all_results.ns
  obtain ⟨f_kept_ends, fd_kept_ends, A_kept_ends⟩ := d_kept_ends
  have m_kept_ends := PySem.W.mg_of X G A_kept_ends.ns
  obtain ⟨f_stands_twice_in_one, fd_stands_twice_in_one, A_stands_twice_in_one⟩ := d_stands_twice_in_one
  have m_stands_twice_in_one := PySem.W.mg_of X G A_stands_twice_in_one.ns
  obtain ⟨f_least_windows, fd_least_windows, A_least_windows⟩ := d_least_windows
  have m_least_windows := PySem.W.mg_of X G A_least_windows.ns
  obtain ⟨f_windows, fd_windows, A_windows⟩ := d_windows
  have m_windows := PySem.W.mg_of X G A_windows.ns
  obtain ⟨f_law, fd_law, A_law⟩ := d_law
  have m_law := PySem.W.mg_of X G A_law.ns
  have e := hfa.symm.trans m_law
  cases e
  have T : Txt mg := ⟨PySem.W.mg_none_of X G z_str, PySem.W.mg_none_of X G z_tuple, PySem.W.mg_none_of X G z_enumerate, PySem.W.mg_none_of X G z_bool, PySem.W.mg_none_of X G z_sum, PySem.W.mg_none_of X G z_max, PySem.W.mg_none_of X G z_ValueError, PySem.W.mg_none_of X G z_reversed, PySem.W.mg_none_of X G z_len, PySem.W.mg_none_of X G z_list, PySem.W.mg_none_of X G z_int, PySem.W.mg_none_of X G z_abs, PySem.W.mg_none_of X G z_range, PySem.W.mg_none_of X G z_min, PySem.W.mg_none_of X G z_repr, PySem.W.mg_none_of X G z_isinstance⟩
  have z0_sorted := PySem.W.mg_none_of X G z_sorted
  have z0_set := PySem.W.mg_none_of X G z_set
  have z0_dict := PySem.W.mg_none_of X G z_dict
  have z0_zip := PySem.W.mg_none_of X G z_zip
  have bd_lsigns : Binds K fd_lsigns [] [] := A_lsigns.fn.binds (ps := []) fun _ _ _ _ _ _ us hl => match us, hl with | [], _ => rfl
  have bd_ldraw : Binds K fd_ldraw ["_law_pen_here", "_law_many"] [] := A_ldraw.fn.binds (ps := ["_law_pen_here", "_law_many"]) fun _ _ _ _ _ _ us hl => match us, hl with | [_, _], _ => rfl
  have bd_lpen : Binds K fd_lpen ["_law_script"] [] := A_lpen.fn.binds (ps := ["_law_script"]) fun _ _ _ _ _ _ us hl => match us, hl with | [_], _ => rfl
  have bd_lpick : Binds K fd_lpick ["_law_pen_here", "_law_options"] [] := A_lpick.fn.binds (ps := ["_law_pen_here", "_law_options"]) fun _ _ _ _ _ _ us hl => match us, hl with | [_, _], _ => rfl
  have bd_lfew : Binds K fd_lfew ["_law_pen_here"] [] := A_lfew.fn.binds (ps := ["_law_pen_here"]) fun _ _ _ _ _ _ us hl => match us, hl with | [_], _ => rfl
  have bd_lword : Binds K fd_lword ["_law_pen_here", "_law_signs_here", "_law_least", "_law_most_letters"] [] := A_lword.fn.binds (ps := ["_law_pen_here", "_law_signs_here", "_law_least", "_law_most_letters"]) fun _ _ _ _ _ _ us hl => match us, hl with | [_, _, _, _], _ => rfl
  have bd_lntext : Binds K fd_lntext ["_law_pen_here", "_law_signs_here", "_law_most_letters"] [] := A_lntext.fn.binds (ps := ["_law_pen_here", "_law_signs_here", "_law_most_letters"]) fun _ _ _ _ _ _ us hl => match us, hl with | [_, _, _], _ => rfl
  have bd_lnspot : Binds K fd_lnspot ["_law_pen_here", "_law_text_here"] [] := A_lnspot.fn.binds (ps := ["_law_pen_here", "_law_text_here"]) fun _ _ _ _ _ _ us hl => match us, hl with | [_, _], _ => rfl
  have bd_lnother : Binds K fd_lnother ["_law_signs_here"] [] := A_lnother.fn.binds (ps := ["_law_signs_here"]) fun _ _ _ _ _ _ us hl => match us, hl with | [_], _ => rfl
  have bd_lshuffled : Binds K fd_lshuffled ["_law_pen_here", "_law_items"] [] := A_lshuffled.fn.binds (ps := ["_law_pen_here", "_law_items"]) fun _ _ _ _ _ _ us hl => match us, hl with | [_, _], _ => rfl
  have bd_places : Binds K fd_places ["text", "word"] [] := A_places.fn.binds (ps := ["text", "word"]) fun _ _ _ _ _ _ us hl => match us, hl with | [_, _], _ => rfl
  have bd_is_integer : Binds K fd_is_integer ["value"] [] := A_is_integer.fn.binds (ps := ["value"]) fun _ _ _ _ _ _ us hl => match us, hl with | [_], _ => rfl
  have bd_is_integer_in : Binds K fd_is_integer_in ["value", "low", "high"] [] := A_is_integer_in.fn.binds (ps := ["value", "low", "high"]) fun _ _ _ _ _ _ us hl => match us, hl with | [_, _, _], _ => rfl
  have bd_check_spot : Binds K fd_check_spot ["text", "first", "last"] [] := A_check_spot.fn.binds (ps := ["text", "first", "last"]) fun _ _ _ _ _ _ us hl => match us, hl with | [_, _, _], _ => rfl
  have bd_stands_twice : Binds K fd_stands_twice ["text", "word"] [] := A_stands_twice.fn.binds (ps := ["text", "word"]) fun _ _ _ _ _ _ us hl => match us, hl with | [_, _], _ => rfl
  have bd_longer_results : Binds K fd_longer_results ["results", "edits"] [] := A_longer_results.fn.binds (ps := ["results", "edits"]) fun _ _ _ _ _ _ us hl => match us, hl with | [_, _], _ => rfl
  have bd_all_results : Binds K fd_all_results ["text", "edits"] [] := A_all_results.fn.binds (ps := ["text", "edits"]) fun _ _ _ _ _ _ us hl => match us, hl with | [_, _], _ => rfl
  have bd_kept_ends : Binds K fd_kept_ends ["entries", "length"] [] := A_kept_ends.fn.binds (ps := ["entries", "length"]) fun _ _ _ _ _ _ us hl => match us, hl with | [_, _], _ => rfl
  have bd_stands_twice_in_one : Binds K fd_stands_twice_in_one ["texts", "word"] [] := A_stands_twice_in_one.fn.binds (ps := ["texts", "word"]) fun _ _ _ _ _ _ us hl => match us, hl with | [_, _], _ => rfl
  have bd_least_windows : Binds K fd_least_windows ["text", "first", "last", "results"] [] := A_least_windows.fn.binds (ps := ["text", "first", "last", "results"]) fun _ _ _ _ _ _ us hl => match us, hl with | [_, _, _, _], _ => rfl
  have bd_windows : Binds K fd_windows ["text", "first", "last"] [] := A_windows.fn.binds (ps := ["text", "first", "last"]) fun _ _ _ _ _ _ us hl => match us, hl with | [_, _, _], _ => rfl
  refine ⟨fd_law, fun s v => A_law.fn.binds1 rfl s v, fun base _ _ => ?_⟩
  have k_InvalidSpot : ClsI l.prog w K mg base 1 "InvalidSpot" C_InvalidSpot ["value"] := c_InvalidSpot X G E_InvalidSpot
  have t_signs : FnT l.prog w K mg base 1 "_law_signs" letS := okT A_lsigns.fn sc_lsigns m_lsigns bd_lsigns rfl
  have c_places : CalG l.prog w K mg base CX0 1 "places" (spPlaces K) := ⟨f_places, fd_places, _, b_places A_places.fn T, m_places, A_places.fn.kp, bd_places⟩
  have c_is_integer : CalG l.prog w K mg base CX0 1 "is_integer" spIsInt := ⟨f_is_integer, fd_is_integer, _, b_is_integer A_is_integer.fn T, m_is_integer, A_is_integer.fn.kp, bd_is_integer⟩
  have c_is_integer_in : CalG l.prog w K mg base CX0 2 "is_integer_in" spInI := ⟨f_is_integer_in, fd_is_integer_in, _, b_is_integer_in A_is_integer_in.fn T c_is_integer, m_is_integer_in, A_is_integer_in.fn.kp, bd_is_integer_in⟩
  have c_check_spot : CalG l.prog w K mg base (L2.CX l.prog w) 3 "check_spot" (spCkSpot C_InvalidSpot) := ⟨f_check_spot, fd_check_spot, _, b_check_spot A_check_spot.fn T c_is_integer_in k_InvalidSpot, m_check_spot, A_check_spot.fn.kp, bd_check_spot⟩
  have c_stands_twice : CalG l.prog w K mg base CX0 1 "stands_twice" spTwice := ⟨f_stands_twice, fd_stands_twice, _, b_stands_twice A_stands_twice.fn T, m_stands_twice, A_stands_twice.fn.kp, bd_stands_twice⟩
  have c_longer_results : CalG l.prog w K mg base CX0 1 "longer_results" spLonger := ⟨f_longer_results, fd_longer_results, _, b_longer_results A_longer_results.fn T, m_longer_results, A_longer_results.fn.kp, bd_longer_results⟩
  have c_all_results : CalG l.prog w K mg base CX0 2 "all_results" spResults := ⟨f_all_results, fd_all_results, _, b_all_results A_all_results.fn T c_longer_results, m_all_results, A_all_results.fn.kp, bd_all_results⟩
  have c_kept_ends : CalG l.prog w K mg base CX0 1 "kept_ends" spKept := ⟨f_kept_ends, fd_kept_ends, _, b_kept_ends A_kept_ends.fn T, m_kept_ends, A_kept_ends.fn.kp, bd_kept_ends⟩
  have c_stands_twice_in_one : CalG l.prog w K mg base CX0 2 "stands_twice_in_one" spIn1 := ⟨f_stands_twice_in_one, fd_stands_twice_in_one, _, b_stands_twice_in_one A_stands_twice_in_one.fn T c_stands_twice, m_stands_twice_in_one, A_stands_twice_in_one.fn.kp, bd_stands_twice_in_one⟩
  have c_least_windows : CalG l.prog w K mg base CX0 3 "least_windows" spLeastW := ⟨f_least_windows, fd_least_windows, _, b_least_windows A_least_windows.fn T c_stands_twice_in_one c_kept_ends, m_least_windows, A_least_windows.fn.kp, bd_least_windows⟩
  have c_windows : CalG l.prog w K mg base (L2.CX l.prog w) 4 "windows" (spWins C_InvalidSpot) := ⟨f_windows, fd_windows, _, b_windows A_windows.fn T c_all_results c_least_windows c_check_spot, m_windows, A_windows.fn.kp, bd_windows⟩
  have c_lsigns : CalG l.prog w K mg base CX0 1 "_law_signs" spSigns := ⟨f_lsigns, fd_lsigns, _, b_lsigns A_lsigns.fn T, m_lsigns, A_lsigns.fn.kp, bd_lsigns⟩
  have c_ldraw : CalG l.prog w K mg base CX0 1 "_law_draw" spDraw := ⟨f_ldraw, fd_ldraw, _, b_ldraw A_ldraw.fn T, m_ldraw, A_ldraw.fn.kp, bd_ldraw⟩
  have c_lpen : CalG l.prog w K mg base CX0 1 "_law_pen" (spPen K) := ⟨f_lpen, fd_lpen, _, b_lpen A_lpen.fn T, m_lpen, A_lpen.fn.kp, bd_lpen⟩
  have c_lpick : CalG l.prog w K mg base CX0 2 "_law_pick" (spPick K) := ⟨f_lpick, fd_lpick, _, b_lpick A_lpick.fn T c_ldraw, m_lpick, A_lpick.fn.kp, bd_lpick⟩
  have c_lfew : CalG l.prog w K mg base CX0 3 "_law_few" spFew := ⟨f_lfew, fd_lfew, _, b_lfew A_lfew.fn T c_lpick t_signs, m_lfew, A_lfew.fn.kp, bd_lfew⟩
  have c_lword : CalG l.prog w K mg base CX0 3 "_law_word" spWord := ⟨f_lword, fd_lword, _, b_lword A_lword.fn T c_ldraw c_lpick, m_lword, A_lword.fn.kp, bd_lword⟩
  have c_lntext : CalG l.prog w K mg base CX0 4 "_law_ntext" spNtext := ⟨f_lntext, fd_lntext, _, b_lntext A_lntext.fn T c_ldraw c_lpick c_lword, m_lntext, A_lntext.fn.kp, bd_lntext⟩
  have c_lnspot : CalG l.prog w K mg base CX0 3 "_law_nspot" spSpot := ⟨f_lnspot, fd_lnspot, _, b_lnspot A_lnspot.fn T c_ldraw c_lpick, m_lnspot, A_lnspot.fn.kp, bd_lnspot⟩
  have c_lnother : CalG l.prog w K mg base CX0 2 "_law_nother" spNother := ⟨f_lnother, fd_lnother, _, b_lnother A_lnother.fn T c_lsigns, m_lnother, A_lnother.fn.kp, bd_lnother⟩
  have c_lshuffled : CalG l.prog w K mg base CX0 2 "_law_shuffled" spShufS := ⟨f_lshuffled, fd_lshuffled, _, b_lshuffledS A_lshuffled.fn T c_ldraw, m_lshuffled, A_lshuffled.fn.kp, bd_lshuffled⟩
  exact b_law A_law.fn T z0_sorted z0_set z0_dict z0_zip c_lpen c_lfew c_ldraw c_lsigns c_lntext c_lnspot c_lnother c_lshuffled c_places c_windows
end Vk
set_option Elab.async false
set_option maxRecDepth 100000
set_option linter.all false
open PySem PySem.W PyProof.Rows
set_option maxRecDepth 100000 in
set_option maxHeartbeats 0 in
theorem PySem.Challenge.cw_anchoredits_k50_whole_windows_turned_and_holds : PySem.Challenge.rw_anchoredits_k50_whole_windows_turned_and.Holds := by
  w_on; o_law
  refine holds_open (q := Vk.hd.view_39) (loose := Vk.hdLo) (Xt := Vk.hdXt) (XP := XL Vk.hd.view_39 []) (Yf := Hook.obs (kHook Vk.hd.heap_39 Vk.hdAs Vk.hdEk)) (Ya := Hook.val (kHook Vk.hd.heap_39 Vk.hdAs Vk.hdEk)) (YP := Hook.says (kHook Vk.hd.heap_39 Vk.hdAs Vk.hdEk)) (N := 10260) Vk.hdLeft (Hook.of (kHook Vk.hd.heap_39 Vk.hdAs Vk.hdEk)) (Hook.keeps (kHook Vk.hd.heap_39 Vk.hdAs Vk.hdEk)) (fun s e => xl_of s (Bool.and_eq_true_iff.mp e).1) XL.keeps (by rfl) (by rfl) (by rfl) (fun s e => recFacts_of (Bool.and_eq_true_iff.mp e).2) (by rfl) (by first | assumption | decide +kernel) (by decide +kernel) ⟨rfl, rfl, rfl, rfl, rfl, by decide +kernel⟩ ?hw ?hc
  case hw => w_witness2
  case hc =>
  k_fill
  refine Vk.walkX (l := PySem.Challenge.rw_anchoredits_k50_whole_windows_turned_and) (n := 63) (k := 6) (x := "_law_script") (CX := L2.CX0) (sp := Vk.spLaw) rfl (by decide) rfl ⟨rfl, by decide, by decide⟩ (fun w h Y => PySem.W.kIn_of Y) ?F (fun K H a ns hl _ hS => ⟨a, ns, rfl, hS, hl, fun _ => rfl⟩) (fun _ _ _ _ z => z)
  case F =>
    intro w mg fa h KX Gr hmg
    obtain ⟨s0, mb, Gr⟩ := Gr
    refine' Vk.all KX Gr.T.g hmg ?e_InvalidSpot ?d_lsigns ?d_ldraw ?d_lpen ?d_lpick ?d_lfew ?d_lword ?d_lntext ?d_lnspot ?d_lnother ?d_lshuffled ?d_places ?d_is_integer ?d_is_integer_in ?d_check_spot ?d_stands_twice ?d_longer_results ?d_all_results ?d_kept_ends ?d_stands_twice_in_one ?d_least_windows ?d_windows ?d_law ?z_str ?z_tuple ?z_enumerate ?z_bool ?z_sum ?z_max ?z_ValueError ?z_reversed ?z_len ?z_list ?z_int ?z_abs ?z_range ?z_min ?z_repr ?z_isinstance ?z_sorted ?z_set ?z_dict ?z_zip
    (case e_InvalidSpot => as_aux_lemma => (refine' ⟨_, _, _, Vk.exc_mk PySem.VkX.exB_value ?ns ?iC ?cls ?sa ?kC ?ga ?gg ?ex ?hd ?ha ?hn ?ht ?hm ?tI ?kI (Vk.no1 ?n1) ?l ?c⟩; (case ns => k_is); (case iC => k_is); (case cls => k_is); (case sa => k_is); (case kC => k_is); (case ga => k_is); (case gg => k_is); (case ex => k_is); (case hd => k_is); (case ha => k_is); (case hn => k_is); (case ht => k_is); (case hm => k_is); (case tI => k_is); (case kI => k_is); (case n1 => k_is); (case l => k_is); (case c => k_is)))
    (case d_lsigns => as_aux_lemma => (refine' ⟨_, _, Vk.at_mk ?a ?l ?c ?k⟩; (case a => k_is); (case l => k_is); (case c => k_is); (case k => k_is)))
    (case d_ldraw => as_aux_lemma => (refine' ⟨_, _, Vk.at_mk ?a ?l ?c ?k⟩; (case a => k_is); (case l => k_is); (case c => k_is); (case k => k_is)))
    (case d_lpen => as_aux_lemma => (refine' ⟨_, _, Vk.at_mk ?a ?l ?c ?k⟩; (case a => k_is); (case l => k_is); (case c => k_is); (case k => k_is)))
    (case d_lpick => as_aux_lemma => (refine' ⟨_, _, Vk.at_mk ?a ?l ?c ?k⟩; (case a => k_is); (case l => k_is); (case c => k_is); (case k => k_is)))
    (case d_lfew => as_aux_lemma => (refine' ⟨_, _, Vk.at_mk ?a ?l ?c ?k⟩; (case a => k_is); (case l => k_is); (case c => k_is); (case k => k_is)))
    (case d_lword => as_aux_lemma => (refine' ⟨_, _, Vk.at_mk ?a ?l ?c ?k⟩; (case a => k_is); (case l => k_is); (case c => k_is); (case k => k_is)))
    (case d_lntext => as_aux_lemma => (refine' ⟨_, _, Vk.at_mk ?a ?l ?c ?k⟩; (case a => k_is); (case l => k_is); (case c => k_is); (case k => k_is)))
    (case d_lnspot => as_aux_lemma => (refine' ⟨_, _, Vk.at_mk ?a ?l ?c ?k⟩; (case a => k_is); (case l => k_is); (case c => k_is); (case k => k_is)))
    (case d_lnother => as_aux_lemma => (refine' ⟨_, _, Vk.at_mk ?a ?l ?c ?k⟩; (case a => k_is); (case l => k_is); (case c => k_is); (case k => k_is)))
    (case d_lshuffled => as_aux_lemma => (refine' ⟨_, _, Vk.at_mk ?a ?l ?c ?k⟩; (case a => k_is); (case l => k_is); (case c => k_is); (case k => k_is)))
    (case d_places => as_aux_lemma => (refine' ⟨_, _, Vk.at_mk ?a ?l ?c ?k⟩; (case a => k_is); (case l => k_is); (case c => k_is); (case k => k_is)))
    (case d_is_integer => as_aux_lemma => (refine' ⟨_, _, Vk.at_mk ?a ?l ?c ?k⟩; (case a => k_is); (case l => k_is); (case c => k_is); (case k => k_is)))
    (case d_is_integer_in => as_aux_lemma => (refine' ⟨_, _, Vk.at_mk ?a ?l ?c ?k⟩; (case a => k_is); (case l => k_is); (case c => k_is); (case k => k_is)))
    (case d_check_spot => as_aux_lemma => (refine' ⟨_, _, Vk.at_mk ?a ?l ?c ?k⟩; (case a => k_is); (case l => k_is); (case c => k_is); (case k => k_is)))
    (case d_stands_twice => as_aux_lemma => (refine' ⟨_, _, Vk.at_mk ?a ?l ?c ?k⟩; (case a => k_is); (case l => k_is); (case c => k_is); (case k => k_is)))
    (case d_longer_results => as_aux_lemma => (refine' ⟨_, _, Vk.at_mk ?a ?l ?c ?k⟩; (case a => k_is); (case l => k_is); (case c => k_is); (case k => k_is)))
    (case d_all_results => as_aux_lemma => (refine' ⟨_, _, Vk.at_mk ?a ?l ?c ?k⟩; (case a => k_is); (case l => k_is); (case c => k_is); (case k => k_is)))
    (case d_kept_ends => as_aux_lemma => (refine' ⟨_, _, Vk.at_mk ?a ?l ?c ?k⟩; (case a => k_is); (case l => k_is); (case c => k_is); (case k => k_is)))
    (case d_stands_twice_in_one => as_aux_lemma => (refine' ⟨_, _, Vk.at_mk ?a ?l ?c ?k⟩; (case a => k_is); (case l => k_is); (case c => k_is); (case k => k_is)))
    (case d_least_windows => as_aux_lemma => (refine' ⟨_, _, Vk.at_mk ?a ?l ?c ?k⟩; (case a => k_is); (case l => k_is); (case c => k_is); (case k => k_is)))
    (case d_windows => as_aux_lemma => (refine' ⟨_, _, Vk.at_mk ?a ?l ?c ?k⟩; (case a => k_is); (case l => k_is); (case c => k_is); (case k => k_is)))
    (case d_law => as_aux_lemma => (refine' ⟨_, _, Vk.at_mk ?a ?l ?c ?k⟩; (case a => k_is); (case l => k_is); (case c => k_is); (case k => k_is)))
    (case z_str => as_aux_lemma => k_is)
    (case z_tuple => as_aux_lemma => k_is)
    (case z_enumerate => as_aux_lemma => k_is)
    (case z_bool => as_aux_lemma => k_is)
    (case z_sum => as_aux_lemma => k_is)
    (case z_max => as_aux_lemma => k_is)
    (case z_ValueError => as_aux_lemma => k_is)
    (case z_reversed => as_aux_lemma => k_is)
    (case z_len => as_aux_lemma => k_is)
    (case z_list => as_aux_lemma => k_is)
    (case z_int => as_aux_lemma => k_is)
    (case z_abs => as_aux_lemma => k_is)
    (case z_range => as_aux_lemma => k_is)
    (case z_min => as_aux_lemma => k_is)
    (case z_repr => as_aux_lemma => k_is)
    (case z_isinstance => as_aux_lemma => k_is)
    (case z_sorted => as_aux_lemma => k_is)
    (case z_set => as_aux_lemma => k_is)
    (case z_dict => as_aux_lemma => k_is)
    (case z_zip => as_aux_lemma => k_is)
#print axioms PySem.Challenge.cw_anchoredits_k50_whole_windows_turned_and_holds
